/- A command's bytes: what cmd.Encode hands back. No condition. What cmd.Encode hands back. No condition. -/
import Derived.Test.YtlfaiemebfkajaaGreatDoorCmdS
import Derived.Test.YtlfaiemebfkajaaGreatDoorOctN
import Derived.Test.YtlfaiemebfkajaaGreatDoorApp
import Derived.Test.YtlfaiemebfkajaaGreatDoorNum
namespace Go.Proofs.YtlfaiemebfkajaaGreatDoor
open Go.ChangeShapes Go.WideShapes Go.ChangeAt Go.RowKit
set_option linter.unusedVariables false
set_option maxRecDepth 100000

namespace Cm

def GivesOwn (zs : List Int) (w : World) (e : Ending) (w' : World) : Prop := ∃ v, e = .returned v ∧ OwnK .i64 142 w' w.heap.size v zs ∧ Sl .i64 w' v zs ∧ Below w.heap.size w w'

set_option maxHeartbeats 400000 in
theorem fields_own (k : Int) (w : World) (h : 1 ≤ k ∧ k ≤ 6) : Calls Tryz.prog 101 #[.int .i64 k] w (GivesOwn (fieldsL k) w) := by
  rcases (show k = 1 ∨ k = 2 ∨ k = 3 ∨ k = 4 ∨ k = 5 ∨ k = 6 by omega) with rfl | rfl | rfl | rfl | rfl | rfl
  · clear h
    go_enter Tryz.func101, Tryz.ntmps101
    go_wp2
    go_ret
    exact ⟨_, rfl, OwnK.nil _ _ _ _, sl_nil _ _, Below.refl _ _⟩
  · clear h
    go_enter Tryz.func101, Tryz.ntmps101
    go_wp2
    go_ret
    exact ⟨_, rfl, OwnK.new w _ [6] rfl rfl (by decide) (Nat.le_refl _), Sl.new (fr := (0, 0)) w _ [6] rfl rfl (Nat.le_refl _) (by decide) (by decide), (Below.refl _ _).alloc (Nat.le_refl _) _⟩
  · clear h
    go_enter Tryz.func101, Tryz.ntmps101
    go_wp2_with (at_builtin; refine appK Tryz.underlying140 info_fld rfl _ _ rfl w.heap.size _ [0, 1, 2] rfl (OwnK.new w _ [0, 1, 2] rfl rfl (by decide) (Nat.le_refl _)) _ [] rfl (sl_nil _ _) (by decide) (by decide) (by simp) ?_; intro v1 w1 hown1 hb1)
    go_ret
    exact ⟨_, rfl, hown1, hown1.sl (by decide), ((Below.refl _ _).alloc (Nat.le_refl _) _).trans hb1⟩
  all_goals first
    | (clear h
       go_enter Tryz.func101, Tryz.ntmps101
       go_wp2_with (at_builtin; refine appK Tryz.underlying140 info_fld rfl _ _ rfl w.heap.size _ [0, 1, 2] rfl (OwnK.newAt (w.alloc (.cells #[Value.int .i64 3, Value.int .i64 4] 142)) (w.heap.size + 1) (by simp) _ [0, 1, 2] rfl rfl (by decide) (by simp)) _ [3, 4] rfl ((Sl.new (fr := (0, 0)) w _ [3, 4] rfl rfl (Nat.le_refl _) (by decide) (by decide)).below ((Below.refl _ _).alloc (Nat.le_refl _) _) (Nat.le_refl _)) (by decide) (by decide) (by simp; omega) ?_; intro v1 w1 hown1 hb1)
       go_ret
       exact ⟨_, rfl, hown1, hown1.sl (by decide), (((Below.refl _ _).alloc (Nat.le_refl _) _).alloc (by simp) _).trans hb1⟩)
    | (clear h
       go_enter Tryz.func101, Tryz.ntmps101
       go_wp2
       go_ret
       exact ⟨_, rfl, OwnK.new w _ [3, 4, 5] rfl rfl (by decide) (Nat.le_refl _), Sl.new (fr := (0, 0)) w _ [3, 4, 5] rfl rfl (Nat.le_refl _) (by decide) (by decide), (Below.refl _ _).alloc (Nat.le_refl _) _⟩)

/-! ### the bytes -/
def encF (c : Cmd) (l : List Int) : List Int := l.flatMap fun f => numI (numF c f.toNat)
def encL (c : Cmd) : List Int := numI c.kind ++ encF c (fieldsL c.kind) ++ encN c.nodes
theorem encF_snoc (c : Cmd) (l : List Int) (f : Int) : encF c (l ++ [f]) = encF c l ++ numI (numF c f.toNat) := by simp [encF]
theorem numF_bd {c : Cmd} (h : c.wf) (hl : c.nodes.length ≤ 9223372036854775807) (f : Nat) : 0 ≤ numF c f ∧ numF c f ≤ 18446744073709551615 := by
  obtain ⟨_, h1, h2, h3, h4, h5, h6⟩ := h
  have b1 := bounds_i64 h1
  have b2 := bounds_i64 h2
  have b3 := bounds_u64 h3
  have b4 := bounds_u64 h4
  have b5 := bounds_u64 h5
  have b6 := bounds_u64 h6
  unfold numF u64
  split <;> (try split) <;> omega
theorem encF_len {c : Cmd} (h : c.wf) (hl : c.nodes.length ≤ 9223372036854775807) : ∀ l, (encF c l).length ≤ 9 * l.length ∧ ∀ x ∈ encF c l, (Lit.int .u8 x).wf = true
  | [] => ⟨Nat.zero_le _, by simp [encF]⟩
  | f :: l => by
    have ih := encF_len h hl l
    have hb := numF_bd h hl f.toNat
    have e : encF c (f :: l) = numI (numF c f.toNat) ++ encF c l := rfl
    rw [e]
    refine ⟨?_, wf_app (numI_wf hb.1 hb.2) ih.2⟩
    have := numI_len hb.1 hb.2
    rw [List.length_append, List.length_cons]; omega
/-- a valid command's kind and nodes -/
theorem chk_parts {c : Cmd} (h : chkC c = true) : (1 ≤ c.kind ∧ c.kind ≤ 6) ∧ c.nodes.length ≤ 7 ∧ ∀ n ∈ c.nodes, 1 ≤ n ∧ n ≤ 7 := by
  unfold chkC at h
  rw [Bool.and_eq_true, List.all_eq_true] at h
  refine ⟨of_decide_eq_true h.1, ?_⟩
  have h6 := h.2 6 (by simp)
  unfold okF at h6
  split at h6
  · have h7 : Nd.chk c.nodes = true := h6
    unfold Nd.chk at h7
    rw [Bool.and_eq_true] at h7
    have := okFrom_len _ _ h7.2 (by omega) (by omega)
    exact ⟨by omega, okFrom_nodes _ _ h7.2⟩
  · have h7 : c.nodes.length = 0 := by simpa [numF] using h6
    have h8 := List.eq_nil_of_length_eq_zero h7
    rw [h8]
    exact ⟨by simp, by simp⟩
theorem fieldsL_bd (k : Int) : (fieldsL k).length ≤ 5 ∧ ∀ f ∈ fieldsL k, 0 ≤ f ∧ f ≤ 6 := by
  unfold fieldsL
  repeat' split
  all_goals simp
end Cm
end Go.Proofs.YtlfaiemebfkajaaGreatDoor
namespace Go.Proofs.YtlfaiemebfkajaaGreatDoor
open Go.ChangeShapes Go.WideShapes Go.ChangeAt Go.RowKit
set_option linter.unusedVariables false
set_option maxRecDepth 100000
namespace Cm

set_option maxHeartbeats 1000000 in
theorem encode_no (c : Cmd) (v : Value) (w : World) (h : IsCmd w v c) (hc : chkC c = false) :
    Calls Tryz.prog 97 #[v] w fun e w' => e = .returned (.tuple #[.slice none 0 0, .int .i64 40]) ∧ Below w.heap.size w w' := by
  obtain ⟨vn, rfl, hsl, hwf⟩ := id h
  have hb0 : Below w.heap.size w (w.alloc (.cells (cArr c vn) 86)) := (Below.refl _ _).alloc (Nat.le_refl _) _
  have hi0 := Lib.hid (h.below hb0 (Nat.le_refl _))
  have hce : cErr (chkC c) = 40 := by rw [hc]; rfl
  have HC := Lib.hid hce
  clear h hsl hwf hc hce
  go_enter Tryz.func97, Tryz.ntmps97
  go_wp2_with (go_at_call 90; refine (check_any c _ _ hi0.out).mono ?_; rintro e w1 ⟨rfl, hb1⟩; rw [HC.out])
  go_ret2
  exact ⟨rfl, hb0.trans (hb1.mono (by simp))⟩

/-- the bytes, the call's own -/
def Bytes (zs : List Int) (w : World) (e : Ending) (w' : World) : Prop := ∃ v, e = .returned (.tuple #[v, .int .i64 0]) ∧ Own w' w.heap.size v zs ∧ Sl .u8 w' v zs ∧ Below w.heap.size w w'

theorem kind_cell {w1 : World} {g : Nat} {c : Cmd} {vn : Value} (h : w1.heap[g]? = some (.cells (cArr c vn) 86 (0, 0))) : w1.cell? ⟨g, 0, none⟩ = some (.int .i64 c.kind) := by
  unfold World.cell?; rw [h]; rfl
set_option maxHeartbeats 2000000 in
theorem encode_yes (c : Cmd) (v : Value) (w : World) (h : IsCmd w v c) (hc : chkC c = true) :
    Calls Tryz.prog 97 #[v] w (Bytes (encL c) w) := by
  obtain ⟨vn, rfl, hsl, hwf⟩ := id h
  have hb0 : Below w.heap.size w (w.alloc (.cells (cArr c vn) 86)) := (Below.refl _ _).alloc (Nat.le_refl _) _
  have hi0 := Lib.hid (h.below hb0 (Nat.le_refl _))
  have hh0 : (w.alloc (.cells (cArr c vn) 86)).heap[w.heap.size]? = some (.cells (cArr c vn) 86 (0, 0)) := heap_alloc_new _ _
  have hsz0 : (w.alloc (.cells (cArr c vn) 86)).heap.size = w.heap.size + 1 := by simp
  have HH0 := Lib.hid hh0
  have hce : cErr (chkC c) = 0 := by rw [hc]; rfl
  have HC := Lib.hid hce
  obtain ⟨hk, hn7, hnb⟩ := chk_parts hc
  have HNB := Lib.hid hnb
  have hlen := hsl.len
  unfold maxLen at hlen
  have HF := Lib.hid (numF_bd hwf (by omega))
  have HEF := Lib.hid (encF_len hwf (by omega))
  have HWF := Lib.hid hwf
  obtain ⟨hfl, hfb⟩ := fieldsL_bd c.kind
  have HFB := Lib.hid hfb
  have HB0 := Lib.hid hb0
  have HS0 := Lib.hid (hsl.below hb0 (Nat.le_refl _))
  obtain ⟨k0, k1⟩ := hk
  have HKW := Lib.hid (show IntKind.u64.wrap c.kind = c.kind by rw [u64_wrap hwf.1]; unfold u64; omega)
  have hkn : (numI c.kind).length ≤ 9 := numI_len (by omega) (by omega)
  have hkw := Lib.hid (numI_wf (n := c.kind) (by omega) (by omega))
  obtain ⟨an, capn, rfl, -⟩ := id hsl
  clear h hc hce hsl hwf hnb hfb hh0 hb0 hlen
  go_enter Tryz.func97, Tryz.ntmps97
  go_wp2_with (first
    | (go_at_call 90; refine (check_any c _ _ hi0.out).mono ?_; rintro e w1 ⟨rfl, hb1⟩; rw [HC.out]; have hh1 : w1.heap[w.heap.size]? = some (.cells #[.int .i64 c.kind, .int .i64 c.node, .int .i64 c.token, .slice an c.nodes.length capn, .int .u64 c.boot, .int .u64 c.seq, .int .u64 c.serial, .int .u64 c.stamp] 86 (0, 0)) := (hb1.block w.heap.size (by simp)).trans HH0.out; have hc1 := kind_cell hh1; have hz1 : w.heap.size + 1 ≤ w1.heap.size := by have := hb1.size; simp at this; omega)
    | (go_at_call 81; refine (num_int c.kind _ (by omega) (by omega)).mono ?_; rintro e w2 ⟨v2, rfl, hown2, hs2, hb2⟩; have hh2 : w2.heap[w.heap.size]? = some (.cells #[.int .i64 c.kind, .int .i64 c.node, .int .i64 c.token, .slice an c.nodes.length capn, .int .u64 c.boot, .int .u64 c.seq, .int .u64 c.serial, .int .u64 c.stamp] 86 (0, 0)) := (hb2.block w.heap.size (by omega)).trans hh1; have hc2 := kind_cell hh2)
    | (go_at_call 101; refine (fields_own c.kind _ ⟨k0, k1⟩).mono ?_; rintro e w3 ⟨v3, rfl, hown3, hs3, hb3⟩; have hz3 := hb3.size; have hz2 := hb2.size; obtain ⟨a3, cap3, rfl, hn3⟩ := id hs3; have HN3 := Lib.hid hn3; clear hn3))
  have hbw : Below (w.heap.size + 1) (w.alloc (.cells (cArr c (.slice an c.nodes.length capn)) 86)) w3 := ((hb1.mono (by omega)).trans (hb2.mono hz1)).trans (hb3.mono (by omega))
  have hown3b : Own w3 (w.heap.size + 1) v2 (numI c.kind ++ encF c ((fieldsL c.kind).take 0)) := by
    rw [List.take_zero, show encF c [] = [] from rfl, List.append_nil]
    exact (hown2.below hb3 (Nat.le_refl _)).mono hz1
  have hfar := Far.new hown2 (Nat.le_refl _) hown3
  clear hb1 hb2 hb3 hown2 hown3 hh1 hh2 hc1 hc2
  go_loopw [5, 23] (fun b i wr => ∃ k : Nat, k ≤ (fieldsL c.kind).length ∧ i = .int .i64 k ∧ Own wr (w.heap.size + 1) b (numI c.kind ++ encF c ((fieldsL c.kind).take k)) ∧ Below (w.heap.size + 1) (w.alloc (.cells (cArr c (.slice an c.nodes.length capn)) 86)) wr ∧ Sl .i64 wr (.slice a3 (fieldsL c.kind).length cap3) (fieldsL c.kind) ∧ Far wr b (.slice a3 (fieldsL c.kind).length cap3) (fieldsL c.kind)) (fun _ i _ => (fieldsL c.kind).length - (intOf i).toNat)
  case atStart => exact ⟨0, Nat.zero_le _, rfl, hown3b, hbw, hs3, hfar⟩
  case round =>
    obtain ⟨k, hk, rfl, hown, hb, hs, hf⟩ := hrel
    clear hown3b hbw hs3 hfar
    by_cases hlt2 : k < (fieldsL c.kind).length
    · obtain ⟨b, off, rfl, -, hcx⟩ := Sl.at hs hlt2
      have hfb := HFB.out _ (Nd.mem_get hlt2)
      have HT := Lib.hid (Nd.take_get hlt2)
      generalize (fieldsL c.kind).getD k 0 = z at *
      obtain ⟨f, rfl⟩ : ∃ f : Nat, z = f := ⟨z.toNat, by omega⟩
      have hf6 : f ≤ 6 := by omega
      clear hfb
      have hW := hb.size
      rw [hsz0] at hW
      have hh := (hb.block w.heap.size (by omega)).trans HH0.out
      have hI := Lib.hid (IsCmd.below hi0.out hb (by rw [hsz0]; exact Nat.le_refl _))
      obtain ⟨hv0, hv1⟩ := HF.out f
      have hl1 := (HEF.out ((fieldsL c.kind).take k)).1
      rw [List.length_take, Nat.min_eq_left hk] at hl1
      have hl2 := numI_len hv0 hv1
      have hlb : (numI c.kind ++ encF c ((fieldsL c.kind).take k)).length + (numI (numF c f)).length ≤ 140737488355328 := by rw [List.length_append]; omega
      clear hl1 hl2
      have HO : numI c.kind ++ encF c ((fieldsL c.kind).take (k + 1)) = (numI c.kind ++ encF c ((fieldsL c.kind).take k)) ++ numI (numF c f) := by rw [HT.out, encF_snoc, List.append_assoc]; rfl
      have HOO := Lib.hid HO
      clear HO
      go_wp2_with (first
        | (refine wpList_load_rowG rfl 86 (.tmp 1) rfl w.heap.size rfl 86 (cArr c (.slice an c.nodes.length capn)) (0, 0) _ hh Tryz.underlying86 rfl (by kernel_rfl) ?_)
        | (go_at_call 111; refine (number_any c f hf6 _ _ hI.out).mono ?_; rintro e w6 ⟨rfl, hb6⟩)
        | (go_at_call 81; refine (num_int _ _ hv0 hv1).mono ?_; rintro e w4 ⟨v4, rfl, hown4, hs4, hb4⟩)
        | (at_builtin; refine app8q rfl _ _ rfl (w.heap.size + 1) _ _ rfl ((hown.below hb6 (Nat.le_refl _)).below hb4 (Nat.le_refl _)) _ _ rfl hs4 hlb (by have := hb4.size; have := hb6.size; omega) ?_; intro v5 w5 hown5 hg5 hl5))
      go_roundw
      case rel => exact ⟨k + 1, by omega, by go_num, by rw [HOO.out]; exact hown5, Below.own ((hb.trans (hb6.mono (by omega))).trans (hb4.mono (by have := hb6.size; omega))) (by have := hb4.size; have := hb6.size; omega) ((hown.below hb6 (Nat.le_refl _)).below hb4 (Nat.le_refl _)) hg5, Sl.far ((hs.below hb6 (Nat.le_refl _)).below hb4 (Nat.le_refl _)) ((hf.below hb6).below hb4) hg5, Far.step ((hf.below hb6).below hb4) hg5 hl5⟩
      case measure => simp [intOf]; omega
    · obtain rfl : k = (fieldsL c.kind).length := by omega
      rw [List.take_length] at hown
      have hW := hb.size
      rw [hsz0] at hW
      have hh := (hb.block w.heap.size (by omega)).trans HH0.out
      have hc3 := copy_cell hh
      clear hs hf
      go_wp2
      have hl1 := (HEF.out (fieldsL c.kind)).1
      have hN0 : encN (c.nodes.take 0) = [] := rfl
      have hown0 : Own wr (w.heap.size + 1) u5 (numI c.kind ++ encF c (fieldsL c.kind) ++ encN (c.nodes.take 0)) := by rw [hN0, List.append_nil]; exact hown
      clear hN0 hown
      have hb0 := hb
      go_loopw [5, 37] (fun b i wr => ∃ k : Nat, k ≤ c.nodes.length ∧ i = .int .i64 k ∧ Own wr (w.heap.size + 1) b (numI c.kind ++ encF c (fieldsL c.kind) ++ encN (c.nodes.take k)) ∧ Below (w.heap.size + 1) (w.alloc (.cells (cArr c (.slice an c.nodes.length capn)) 86)) wr) (fun _ i _ => c.nodes.length - (intOf i).toNat)
      case atStart => exact ⟨0, Nat.zero_le _, rfl, hown0, hb0⟩
      case round =>
        clear hown0 hb0 hb hh hc3 hW
        obtain ⟨k, hk, rfl, hown, hb⟩ := hrel
        have hW := hb.size
        rw [hsz0] at hW
        by_cases hlt3 : k < c.nodes.length
        · have hS := HS0.out.below hb (by rw [hsz0]; exact Nat.le_refl _)
          obtain ⟨b, off, rfl, -, hcx⟩ := Sl.at hS hlt3
          have HT := Lib.hid (Nd.take_get hlt3)
          obtain ⟨hv0, hv1⟩ := HNB.out _ (Nd.mem_get hlt3)
          have hl3 := (encN_len (c.nodes.take k) fun n hn => by have := HNB.out n (List.mem_of_mem_take hn); omega).1
          rw [List.length_take, Nat.min_eq_left hk] at hl3
          generalize c.nodes.getD k 0 = z at *
          have hl2 := numI_len (n := z) (by omega) (by omega)
          have hlb : (numI c.kind ++ encF c (fieldsL c.kind) ++ encN (c.nodes.take k)).length + (numI z).length ≤ 140737488355328 := by rw [List.length_append, List.length_append]; omega
          have HOO := Lib.hid (show numI c.kind ++ encF c (fieldsL c.kind) ++ encN (c.nodes.take (k + 1)) = (numI c.kind ++ encF c (fieldsL c.kind) ++ encN (c.nodes.take k)) ++ numI z by rw [HT.out, encN_snoc, List.append_assoc, List.append_assoc, List.append_assoc])
          clear hl2 hl3
          go_wp2_with (first
            | (go_at_call 81; refine (num_int _ _ (by omega) (by omega)).mono ?_; rintro e w4 ⟨v4, rfl, hown4, hs4, hb4⟩)
            | (at_builtin; refine app8 rfl _ _ rfl (w.heap.size + 1) _ _ rfl (hown.below hb4 (Nat.le_refl _)) _ _ rfl hs4 hlb (by have := hb4.size; omega) ?_; intro v5 w5 hown5 hb5))
          go_roundw
          case rel => exact ⟨k + 1, by omega, by go_num, by rw [HOO.out]; exact hown5, (hb.trans (hb4.mono (by omega))).trans hb5⟩
          case measure => simp [intOf]; omega
        · obtain rfl : k = c.nodes.length := by omega
          rw [List.take_length] at hown
          go_wp2
          go_ret2
          refine ⟨_, rfl, hown.mono (Nat.le_succ _), hown.sl ?_, HB0.out.trans (hb.mono (Nat.le_succ _))⟩
          refine wf_app (wf_app hkw.out (HEF.out _).2) (encN_len _ fun n hn => by have := HNB.out n hn; omega).2
  
end Cm
end Go.Proofs.YtlfaiemebfkajaaGreatDoor
