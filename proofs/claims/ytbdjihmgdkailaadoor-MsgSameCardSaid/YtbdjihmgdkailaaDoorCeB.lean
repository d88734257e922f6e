/- What the document's own Encode hands back. No condition. Both Encodes in one contract, and the laws' helper live. No condition. -/
import Derived.Test.YtbdjihmgdkailaaDoorCeA
import Derived.Test.YtbdjihmgdkailaaDoorCmdKJ
namespace Go.Proofs.YtbdjihmgdkailaaDoor
open Go.ChangeShapes Go.WideShapes Go.ChangeAt Go.RowKit
set_option linter.unusedVariables false
set_option maxRecDepth 100000
namespace Cm

set_option maxHeartbeats 1000000 in
theorem rencode_no (c : Cmd) (v : Value) (w : World) (h : IsCmd w v c) (hc : rchk c = false) :
    Calls Tryd.prog 19 #[v] w fun e w' => e = .returned (.tuple #[.slice none 0 0, .int .i64 40]) ∧ Below w.heap.size w w' := by
  obtain ⟨vn, rfl, hsl, hwf⟩ := id h
  have hb0 : Below w.heap.size w (w.alloc (.cells (cArr c vn) 53)) := (Below.refl _ _).alloc (Nat.le_refl _) _
  have hi0 := Lib.hid (h.below hb0 (Nat.le_refl _))
  have hce : cErr (rchk c) = 40 := by rw [hc]; rfl
  have HC := Lib.hid hce
  clear h hsl hwf hc hce
  go_enter Tryd.func19, Tryd.ntmps19
  go_wp2_with (go_at_call 45; refine (rcheck_any c _ _ hi0.out).mono ?_; rintro e w1 ⟨rfl, hb1⟩; rw [HC.out])
  go_ret2
  exact ⟨rfl, hb0.trans (hb1.mono (by simp))⟩

/-! ### the letters -/
def letS (f : Nat) : Int := match f with | 0 => 110 | 1 => 98 | 2 => 113 | 3 => 116 | 4 => 115 | 5 => 109 | _ => 108
theorem sbs_fieldS {k : Int} (h : 1 ≤ k ∧ k ≤ 6) : sbs (fieldS k) = (fieldsL k).map fun f => letS f.toNat := by
  rcases (show k = 1 ∨ k = 2 ∨ k = 3 ∨ k = 4 ∨ k = 5 ∨ k = 6 by omega) with rfl | rfl | rfl | rfl | rfl | rfl <;> rfl
def encR (c : Cmd) (l : List Int) : List Int := l.flatMap fun f => numI (numF c f.toNat) ++ if f = 6 then encN c.nodes else []
theorem encR_snoc (c : Cmd) (l : List Int) (f : Int) : encR c (l ++ [f]) = encR c l ++ (numI (numF c f.toNat) ++ if f = 6 then encN c.nodes else []) := by simp [encR]
/-- what a valid command's fields are -/
theorem chk_small {c : Cmd} (hw : c.wf) (h : chkC c = true) : (0 ≤ c.node ∧ c.node ≤ 65535) ∧ (0 ≤ c.token ∧ c.token ≤ 65535) ∧ (c.kind = 2 ∨ c.nodes = []) := by
  have hw0 := hw
  obtain ⟨_, h1, h2, _⟩ := hw0
  have b1 := bounds_i64 h1
  have b2 := bounds_i64 h2
  unfold chkC at h
  rw [Bool.and_eq_true, List.all_eq_true] at h
  have a0 := h.2 0 (by simp)
  have a3 := h.2 3 (by simp)
  have a6 := h.2 6 (by simp)
  refine ⟨?_, ?_, ?_⟩
  · unfold okF at a0
    split at a0
    · have e : decide (1 ≤ u64 c.node ∧ u64 c.node ≤ 7) = true := a0
      rw [decide_eq_true_eq] at e
      unfold u64 at e
      split at e <;> omega
    · have e : u64 c.node = 0 := by simpa [numF] using a0
      unfold u64 at e
      split at e <;> omega
  · unfold okF at a3
    split at a3
    · have e : decide (1 ≤ u64 c.token ∧ u64 c.token ≤ 65535) = true := a3
      rw [decide_eq_true_eq] at e
      unfold u64 at e
      split at e <;> omega
    · have e : u64 c.token = 0 := by simpa [numF] using a3
      unfold u64 at e
      split at e <;> omega
  · by_cases hk : c.kind = 2
    · exact .inl hk
    · right
      unfold okF at a6
      have : ¬ (((6 : Nat) : Int) ∈ fieldsL c.kind) := by unfold fieldsL; rw [if_neg hk]; repeat' split; all_goals simp
      rw [if_neg this] at a6
      have h7 : c.nodes.length = 0 := by simpa [numF] using a6
      exact List.eq_nil_of_length_eq_zero h7
theorem encR_all {c : Cmd} (hk : 1 ≤ c.kind ∧ c.kind ≤ 6) (hn : c.kind = 2 ∨ c.nodes = []) : numI c.kind ++ encR c (fieldsL c.kind) = encL c := by
  unfold encL
  rw [List.append_assoc]
  congr 1
  rcases hn with hn | hn
  · rw [hn]
    simp [encR, encF, fieldsL]
  · rw [hn, show encN [] = [] from rfl, List.append_nil]
    unfold encR encF
    rw [hn]
    congr 1
    funext f
    rw [show encN [] = [] from rfl, show (if f = 6 then ([] : List Int) else []) = [] by split <;> rfl, List.append_nil]

theorem getD_map {l : List Int} {g : Int → Int} {k : Nat} (h : k < l.length) : (l.map g).getD k 0 = g (l.getD k 0) := by
  simp [List.getD, List.getElem?_map, List.getElem?_eq_getElem h]
theorem numI_u64 {n : Int} (h : 0 ≤ n) : numI (u64 n) = numI n := by unfold u64; rw [if_pos h]
theorem fld_cells {w1 : World} {g : Nat} {c : Cmd} {vn : Value} (h : w1.heap[g]? = some (.cells (cArr c vn) 53 (0, 0))) :
    w1.cell? ⟨g, 1, none⟩ = some (.int .i64 c.node) ∧ w1.cell? ⟨g, 2, none⟩ = some (.int .i64 c.token) ∧ w1.cell? ⟨g, 3, none⟩ = some vn ∧ w1.cell? ⟨g, 4, none⟩ = some (.int .u64 c.boot) ∧ w1.cell? ⟨g, 5, none⟩ = some (.int .u64 c.seq) ∧ w1.cell? ⟨g, 6, none⟩ = some (.int .u64 c.serial) ∧ w1.cell? ⟨g, 7, none⟩ = some (.int .u64 c.stamp) := by
  refine ⟨?_, ?_, ?_, ?_, ?_, ?_, ?_⟩ <;> (unfold World.cell?; rw [h]; rfl)
theorem last_six {k : Int} {i : Nat} (hi : i < (fieldsL k).length) (h : (fieldsL k).getD i 0 = 6) : i + 1 = (fieldsL k).length := by
  have key : fieldsL k = [6] ∨ fieldsL k = [0, 1, 2] ∨ fieldsL k = [0, 1, 2, 3, 4] ∨ fieldsL k = [3, 4, 5] ∨ fieldsL k = [] := by
    unfold fieldsL
    by_cases h2 : k = 2
    · exact .inl (if_pos h2)
    by_cases h3 : k = 3
    · exact .inr (.inl (by rw [if_neg h2, if_pos h3]))
    by_cases h4 : k = 4 ∨ k = 5
    · exact .inr (.inr (.inl (by rw [if_neg h2, if_neg h3, if_pos h4])))
    by_cases h6 : k = 6
    · exact .inr (.inr (.inr (.inl (by rw [if_neg h2, if_neg h3, if_neg h4, if_pos h6]))))
    · exact .inr (.inr (.inr (.inr (by rw [if_neg h2, if_neg h3, if_neg h4, if_neg h6]))))
  rcases key with e | e | e | e | e <;> rw [e] at hi h ⊢
  · simp only [List.length_cons, List.length_nil] at hi ⊢; omega
  · exfalso; simp only [List.length_cons, List.length_nil] at hi
    rcases (show i = 0 ∨ i = 1 ∨ i = 2 by omega) with rfl | rfl | rfl <;> exact absurd h (by decide)
  · exfalso; simp only [List.length_cons, List.length_nil] at hi
    rcases (show i = 0 ∨ i = 1 ∨ i = 2 ∨ i = 3 ∨ i = 4 by omega) with rfl | rfl | rfl | rfl | rfl <;> exact absurd h (by decide)
  · exfalso; simp only [List.length_cons, List.length_nil] at hi
    rcases (show i = 0 ∨ i = 1 ∨ i = 2 by omega) with rfl | rfl | rfl <;> exact absurd h (by decide)
  · simp at hi
theorem encR_len {c : Cmd} (h : c.wf) (hl : c.nodes.length ≤ 7) (hn : ∀ n ∈ c.nodes, 1 ≤ n ∧ n ≤ 7) : ∀ l, (encR c l).length ≤ 72 * l.length ∧ ∀ x ∈ encR c l, (Lit.int .u8 x).wf = true
  | [] => ⟨Nat.zero_le _, by simp [encR]⟩
  | f :: l => by
    have ih := encR_len h hl hn l
    have hb := numF_bd h (by omega) f.toNat
    have e : encR c (f :: l) = (numI (numF c f.toNat) ++ if f = 6 then encN c.nodes else []) ++ encR c l := rfl
    have hN := encN_len c.nodes fun n hm => by have := hn n hm; omega
    rw [e]
    refine ⟨?_, wf_app (wf_app (numI_wf hb.1 hb.2) ?_) ih.2⟩
    · have := numI_len hb.1 hb.2
      rw [List.length_append, List.length_append, List.length_cons]
      split
      · omega
      · simp only [List.length_nil]; omega
    · split
      · exact hN.2
      · simp
/-- '[]byte(s)' -/
theorem run_bytes (w : World) (s : ByteArray) (hl : s.size ≤ maxLen) : ∃ cap w', (convert 9 33 (.string s)).run Tryd.prog w = .ok (.slice (some ⟨w.heap.size, 0, none⟩) s.size cap) w' ∧
    Sl .u8 w' (.slice (some ⟨w.heap.size, 0, none⟩) s.size cap) (sbs s) ∧ Below w.heap.size w w' ∧ w.heap.size < w'.heap.size := by
  refine ⟨_, _, run_bytes_of_string w _ _ 5 s Tryd.underlying9 Tryd.underlying33 Tryd.underlying5, ?_, (Below.refl _ _).drew.alloc (Nat.le_refl _) _, ?_⟩
  · refine ⟨_, _, by rw [sbs_length], by rw [sbs_length]; exact grownCap_ge _ _ _ _, grownCap_le_maxLen _ _ _ _ hl, ?_, .inr ⟨w.heap.size, 0, none, rfl, .inr ⟨rfl, ?_, ?_⟩⟩⟩
    · intro n hn
      unfold sbs at hn
      obtain ⟨b, -, rfl⟩ := List.mem_map.1 hn
      have := b.toNat_lt
      exact Oc.wf_b ⟨by omega, by omega⟩
    · show w.heap.size < (w.heap.push _).size
      simp
    · intro i hi
      rw [sbs_length] at hi
      rw [Nat.zero_add]
      refine (World.cell?_alloc_mark w.drew _ _ _ i).trans ?_
      rw [bytesRow_at s _ i hi, sbs_get s i hi]
      rfl
  · show w.heap.size < (w.heap.push _).size
    simp

set_option maxHeartbeats 2000000 in
theorem rencode_yes (c : Cmd) (v : Value) (w : World) (h : IsCmd w v c) (hc : chkC c = true) (hrk : rchk c = chkC c) :
    Calls Tryd.prog 19 #[v] w (Bytes (encL c) w) := by
  obtain ⟨vn, rfl, hsl, hwf⟩ := id h
  have hb0 : Below w.heap.size w (w.alloc (.cells (cArr c vn) 53)) := (Below.refl _ _).alloc (Nat.le_refl _) _
  have hi0 := Lib.hid (h.below hb0 (Nat.le_refl _))
  have hh0 : (w.alloc (.cells (cArr c vn) 53)).heap[w.heap.size]? = some (.cells (cArr c vn) 53 (0, 0)) := heap_alloc_new _ _
  have hsz0 : (w.alloc (.cells (cArr c vn) 53)).heap.size = w.heap.size + 1 := by simp
  have HH0 := Lib.hid hh0
  have hce : cErr (rchk c) = 0 := by rw [hrk, hc]; rfl
  have HC := Lib.hid hce
  obtain ⟨hk, hn7, hnb⟩ := chk_parts hc
  obtain ⟨hnode, htok, hkn2⟩ := chk_small hwf hc
  have HNB := Lib.hid hnb
  have hlen := hsl.len
  unfold maxLen at hlen
  have HF := Lib.hid (numF_bd hwf (by omega))
  have HEF := Lib.hid (encF_len hwf (by omega))
  have HWF := Lib.hid hwf
  have HALL := Lib.hid (encR_all hk hkn2)
  obtain ⟨hfl, hfb⟩ := fieldsL_bd c.kind
  have HFB := Lib.hid hfb
  have HSB := Lib.hid (sbs_fieldS hk)
  have HB0 := Lib.hid hb0
  have HS0 := Lib.hid (hsl.below hb0 (Nat.le_refl _))
  obtain ⟨k0, k1⟩ := hk
  obtain ⟨n0, n1⟩ := hnode
  obtain ⟨t0, t1⟩ := htok
  have hkn : (numI c.kind).length ≤ 9 := numI_len (by omega) (by omega)
  have hkw := Lib.hid (numI_wf (n := c.kind) (by omega) (by omega))
  obtain ⟨an, capn, rfl, -⟩ := id hsl
  clear h hc hrk hce hsl hwf hnb hfb hh0 hb0 hlen hkn2
  have hfz : (fieldS c.kind).size = (fieldsL c.kind).length := by rw [← sbs_length, HSB.out, List.length_map]
  have hfs : (fieldS c.kind).size ≤ 5 := by rw [hfz]; exact hfl
  have HR := Lib.hid (encR_len HWF.out hn7 HNB.out)
  go_enter Tryd.func19, Tryd.ntmps19
  go_wp2_with (first
    | (go_at_call 45; refine (rcheck_any c _ _ hi0.out).mono ?_; rintro e w1 ⟨rfl, hb1⟩; rw [HC.out]; have hh1 : w1.heap[w.heap.size]? = some (.cells #[.int .i64 c.kind, .int .i64 c.node, .int .i64 c.token, .slice an c.nodes.length capn, .int .u64 c.boot, .int .u64 c.seq, .int .u64 c.serial, .int .u64 c.stamp] 53 (0, 0)) := (hb1.block w.heap.size (by simp)).trans HH0.out; have hc1 := kind_cell hh1; have hz1 : w.heap.size + 1 ≤ w1.heap.size := by have := hb1.size; simp at this; omega)
    | (go_at_call 18; refine (rnum_int c.kind _ (by omega) (by omega)).mono ?_; rintro e w2 ⟨v2, rfl, hown2, hs2, hb2⟩; have hh2 := (hb2.block w.heap.size (by omega)).trans hh1; have hc2 := kind_cell hh2; have hz2 := hb2.size)
    | (go_at_call 46; refine (rfields_any c.kind _).mono ?_; rintro e w3 ⟨rfl, rfl⟩; obtain ⟨cap, w4, hq, hs4, hb4, hl4⟩ := run_bytes w2 (fieldS c.kind) (by unfold maxLen; omega); rw [HSB.out] at hs4; rw [hfz] at hq hs4))
  have hbw : Below (w.heap.size + 1) (w.alloc (.cells (cArr c (.slice an c.nodes.length capn)) 53)) w4 := ((hb1.mono (by omega)).trans (hb2.mono hz1)).trans (hb4.mono (by omega))
  have hownb : Own w4 (w.heap.size + 1) v2 (numI c.kind ++ encR c ((fieldsL c.kind).take 0)) := by
    rw [List.take_zero, show encR c [] = [] from rfl, List.append_nil]
    exact (hown2.below hb4 (Nat.le_refl _)).mono hz1
  have hfar : Far w4 v2 (.slice (some ⟨w2.heap.size, 0, none⟩) (fieldsL c.kind).length cap) ((fieldsL c.kind).map fun f => letS f.toNat) := .inr ⟨w2.heap.size, rfl, hl4, fun h => by have := (World.ownsRow.lt hown2 _ h).2; omega⟩
  clear hb1 hb2 hb4 hown2 hh1 hh2 hc1 hc2 hq
  go_loopw [5, 28] (fun b i wr => ∃ k : Nat, k ≤ (fieldsL c.kind).length ∧ i = .int .i64 k ∧ Own wr (w.heap.size + 1) b (numI c.kind ++ encR c ((fieldsL c.kind).take k)) ∧ Below (w.heap.size + 1) (w.alloc (.cells (cArr c (.slice an c.nodes.length capn)) 53)) wr ∧ (k < (fieldsL c.kind).length → Sl .u8 wr (.slice (some ⟨w2.heap.size, 0, none⟩) (fieldsL c.kind).length cap) ((fieldsL c.kind).map fun f => letS f.toNat) ∧ Far wr b (.slice (some ⟨w2.heap.size, 0, none⟩) (fieldsL c.kind).length cap) ((fieldsL c.kind).map fun f => letS f.toNat))) (fun _ i _ => (fieldsL c.kind).length - (intOf i).toNat)
  case atStart => exact ⟨0, Nat.zero_le _, rfl, hownb, hbw, fun _ => ⟨hs4, hfar⟩⟩
  case round =>
    obtain ⟨k, hk, rfl, hown, hb, hsf⟩ := hrel
    clear hownb hbw hs4 hfar
    have hW := hb.size
    rw [hsz0] at hW
    by_cases hlt2 : k < (fieldsL c.kind).length
    · obtain ⟨hs, hf⟩ := hsf hlt2
      obtain ⟨b, off, hbo, -, hcx⟩ := Sl.at hs (i := k) (by rw [List.length_map]; exact hlt2)
      cases hbo
      rw [Nat.zero_add, getD_map hlt2] at hcx
      have hfb := HFB.out _ (Nd.mem_get hlt2)
      have HT := Lib.hid (Nd.take_get hlt2)
      have HL := Lib.hid (last_six hlt2)
      have hl1 := (HR.out ((fieldsL c.kind).take k)).1
      rw [List.length_take, Nat.min_eq_left hk] at hl1
      generalize (fieldsL c.kind).getD k 0 = z at *
      obtain ⟨f, rfl⟩ : ∃ f : Nat, z = f := ⟨z.toNat, by omega⟩
      have hf6 : f ≤ 6 := by omega
      clear hfb hsf
      have hh := (hb.block w.heap.size (by omega)).trans HH0.out
      obtain ⟨hc1, hc2, hc3, hc4, hc5, hc6, hc7⟩ := fld_cells hh
      rcases (show f = 0 ∨ f = 1 ∨ f = 2 ∨ f = 3 ∨ f = 4 ∨ f = 5 ∨ f = 6 by omega) with rfl | rfl | rfl | rfl | rfl | rfl | rfl
      · have hx : wr.cell? ⟨w2.heap.size, k, none⟩ = some (.int .u8 110) := hcx
        clear hcx
        have HO : Hid (numI c.kind ++ encR c ((fieldsL c.kind).take (k + 1)) = (numI c.kind ++ encR c ((fieldsL c.kind).take k)) ++ numI c.node) := Lib.hid (by rw [HT.out, encR_snoc, if_neg (by decide), List.append_nil, List.append_assoc]; congr 2; exact numI_u64 (by omega))
        
        have hl2 := numI_len (n := c.node) (by omega) (by omega)
        have hlb : (numI c.kind ++ encR c ((fieldsL c.kind).take k)).length + (numI c.node).length ≤ 140737488355328 := by rw [List.length_append]; omega
        clear hl2
        go_wp2_with (first
          | (go_at_call 18; refine (rnum_int _ _ (by omega) (by omega)).mono ?_; rintro e w6 ⟨v6, rfl, hown6, hs6, hb6⟩)
          | (at_builtin; refine app8q rfl _ _ rfl (w.heap.size + 1) _ _ rfl (hown.below hb6 (Nat.le_refl _)) _ _ rfl hs6 hlb (by have := hb6.size; omega) ?_; intro v7 w7 hown7 hg7 hl7))
        go_roundw
        case rel => exact ⟨k + 1, by omega, by go_num, by rw [HO.out]; exact hown7, Below.own (hb.trans (hb6.mono (by omega))) (by have := hb6.size; omega) (hown.below hb6 (Nat.le_refl _)) hg7, fun _ => ⟨Sl.far (hs.below hb6 (Nat.le_refl _)) (hf.below hb6) hg7, Far.step (hf.below hb6) hg7 hl7⟩⟩
        case measure => simp [intOf]; omega
      · have hx : wr.cell? ⟨w2.heap.size, k, none⟩ = some (.int .u8 98) := hcx
        clear hcx
        have HO : Hid (numI c.kind ++ encR c ((fieldsL c.kind).take (k + 1)) = (numI c.kind ++ encR c ((fieldsL c.kind).take k)) ++ numI c.boot) := Lib.hid (by rw [HT.out, encR_snoc, if_neg (by decide), List.append_nil, List.append_assoc]; rfl)
        obtain ⟨hv0, hv1⟩ := (show 0 ≤ c.boot ∧ c.boot ≤ 18446744073709551615 from HF.out 1)
        have hl2 := numI_len (n := c.boot) (by omega) (by omega)
        have hlb : (numI c.kind ++ encR c ((fieldsL c.kind).take k)).length + (numI c.boot).length ≤ 140737488355328 := by rw [List.length_append]; omega
        clear hl2
        go_wp2_with (first
          | (go_at_call 18; refine (rnum_int _ _ (by omega) (by omega)).mono ?_; rintro e w6 ⟨v6, rfl, hown6, hs6, hb6⟩)
          | (at_builtin; refine app8q rfl _ _ rfl (w.heap.size + 1) _ _ rfl (hown.below hb6 (Nat.le_refl _)) _ _ rfl hs6 hlb (by have := hb6.size; omega) ?_; intro v7 w7 hown7 hg7 hl7))
        go_roundw
        case rel => exact ⟨k + 1, by omega, by go_num, by rw [HO.out]; exact hown7, Below.own (hb.trans (hb6.mono (by omega))) (by have := hb6.size; omega) (hown.below hb6 (Nat.le_refl _)) hg7, fun _ => ⟨Sl.far (hs.below hb6 (Nat.le_refl _)) (hf.below hb6) hg7, Far.step (hf.below hb6) hg7 hl7⟩⟩
        case measure => simp [intOf]; omega
      · have hx : wr.cell? ⟨w2.heap.size, k, none⟩ = some (.int .u8 113) := hcx
        clear hcx
        have HO : Hid (numI c.kind ++ encR c ((fieldsL c.kind).take (k + 1)) = (numI c.kind ++ encR c ((fieldsL c.kind).take k)) ++ numI c.seq) := Lib.hid (by rw [HT.out, encR_snoc, if_neg (by decide), List.append_nil, List.append_assoc]; rfl)
        obtain ⟨hv0, hv1⟩ := (show 0 ≤ c.seq ∧ c.seq ≤ 18446744073709551615 from HF.out 2)
        have hl2 := numI_len (n := c.seq) (by omega) (by omega)
        have hlb : (numI c.kind ++ encR c ((fieldsL c.kind).take k)).length + (numI c.seq).length ≤ 140737488355328 := by rw [List.length_append]; omega
        clear hl2
        go_wp2_with (first
          | (go_at_call 18; refine (rnum_int _ _ (by omega) (by omega)).mono ?_; rintro e w6 ⟨v6, rfl, hown6, hs6, hb6⟩)
          | (at_builtin; refine app8q rfl _ _ rfl (w.heap.size + 1) _ _ rfl (hown.below hb6 (Nat.le_refl _)) _ _ rfl hs6 hlb (by have := hb6.size; omega) ?_; intro v7 w7 hown7 hg7 hl7))
        go_roundw
        case rel => exact ⟨k + 1, by omega, by go_num, by rw [HO.out]; exact hown7, Below.own (hb.trans (hb6.mono (by omega))) (by have := hb6.size; omega) (hown.below hb6 (Nat.le_refl _)) hg7, fun _ => ⟨Sl.far (hs.below hb6 (Nat.le_refl _)) (hf.below hb6) hg7, Far.step (hf.below hb6) hg7 hl7⟩⟩
        case measure => simp [intOf]; omega
      · have hx : wr.cell? ⟨w2.heap.size, k, none⟩ = some (.int .u8 116) := hcx
        clear hcx
        have HO : Hid (numI c.kind ++ encR c ((fieldsL c.kind).take (k + 1)) = (numI c.kind ++ encR c ((fieldsL c.kind).take k)) ++ numI c.token) := Lib.hid (by rw [HT.out, encR_snoc, if_neg (by decide), List.append_nil, List.append_assoc]; congr 2; exact numI_u64 (by omega))
        
        have hl2 := numI_len (n := c.token) (by omega) (by omega)
        have hlb : (numI c.kind ++ encR c ((fieldsL c.kind).take k)).length + (numI c.token).length ≤ 140737488355328 := by rw [List.length_append]; omega
        clear hl2
        go_wp2_with (first
          | (go_at_call 18; refine (rnum_int _ _ (by omega) (by omega)).mono ?_; rintro e w6 ⟨v6, rfl, hown6, hs6, hb6⟩)
          | (at_builtin; refine app8q rfl _ _ rfl (w.heap.size + 1) _ _ rfl (hown.below hb6 (Nat.le_refl _)) _ _ rfl hs6 hlb (by have := hb6.size; omega) ?_; intro v7 w7 hown7 hg7 hl7))
        go_roundw
        case rel => exact ⟨k + 1, by omega, by go_num, by rw [HO.out]; exact hown7, Below.own (hb.trans (hb6.mono (by omega))) (by have := hb6.size; omega) (hown.below hb6 (Nat.le_refl _)) hg7, fun _ => ⟨Sl.far (hs.below hb6 (Nat.le_refl _)) (hf.below hb6) hg7, Far.step (hf.below hb6) hg7 hl7⟩⟩
        case measure => simp [intOf]; omega
      · have hx : wr.cell? ⟨w2.heap.size, k, none⟩ = some (.int .u8 115) := hcx
        clear hcx
        have HO : Hid (numI c.kind ++ encR c ((fieldsL c.kind).take (k + 1)) = (numI c.kind ++ encR c ((fieldsL c.kind).take k)) ++ numI c.serial) := Lib.hid (by rw [HT.out, encR_snoc, if_neg (by decide), List.append_nil, List.append_assoc]; rfl)
        obtain ⟨hv0, hv1⟩ := (show 0 ≤ c.serial ∧ c.serial ≤ 18446744073709551615 from HF.out 4)
        have hl2 := numI_len (n := c.serial) (by omega) (by omega)
        have hlb : (numI c.kind ++ encR c ((fieldsL c.kind).take k)).length + (numI c.serial).length ≤ 140737488355328 := by rw [List.length_append]; omega
        clear hl2
        go_wp2_with (first
          | (go_at_call 18; refine (rnum_int _ _ (by omega) (by omega)).mono ?_; rintro e w6 ⟨v6, rfl, hown6, hs6, hb6⟩)
          | (at_builtin; refine app8q rfl _ _ rfl (w.heap.size + 1) _ _ rfl (hown.below hb6 (Nat.le_refl _)) _ _ rfl hs6 hlb (by have := hb6.size; omega) ?_; intro v7 w7 hown7 hg7 hl7))
        go_roundw
        case rel => exact ⟨k + 1, by omega, by go_num, by rw [HO.out]; exact hown7, Below.own (hb.trans (hb6.mono (by omega))) (by have := hb6.size; omega) (hown.below hb6 (Nat.le_refl _)) hg7, fun _ => ⟨Sl.far (hs.below hb6 (Nat.le_refl _)) (hf.below hb6) hg7, Far.step (hf.below hb6) hg7 hl7⟩⟩
        case measure => simp [intOf]; omega
      · have hx : wr.cell? ⟨w2.heap.size, k, none⟩ = some (.int .u8 109) := hcx
        clear hcx
        have HO : Hid (numI c.kind ++ encR c ((fieldsL c.kind).take (k + 1)) = (numI c.kind ++ encR c ((fieldsL c.kind).take k)) ++ numI c.stamp) := Lib.hid (by rw [HT.out, encR_snoc, if_neg (by decide), List.append_nil, List.append_assoc]; rfl)
        obtain ⟨hv0, hv1⟩ := (show 0 ≤ c.stamp ∧ c.stamp ≤ 18446744073709551615 from HF.out 5)
        have hl2 := numI_len (n := c.stamp) (by omega) (by omega)
        have hlb : (numI c.kind ++ encR c ((fieldsL c.kind).take k)).length + (numI c.stamp).length ≤ 140737488355328 := by rw [List.length_append]; omega
        clear hl2
        go_wp2_with (first
          | (go_at_call 18; refine (rnum_int _ _ (by omega) (by omega)).mono ?_; rintro e w6 ⟨v6, rfl, hown6, hs6, hb6⟩)
          | (at_builtin; refine app8q rfl _ _ rfl (w.heap.size + 1) _ _ rfl (hown.below hb6 (Nat.le_refl _)) _ _ rfl hs6 hlb (by have := hb6.size; omega) ?_; intro v7 w7 hown7 hg7 hl7))
        go_roundw
        case rel => exact ⟨k + 1, by omega, by go_num, by rw [HO.out]; exact hown7, Below.own (hb.trans (hb6.mono (by omega))) (by have := hb6.size; omega) (hown.below hb6 (Nat.le_refl _)) hg7, fun _ => ⟨Sl.far (hs.below hb6 (Nat.le_refl _)) (hf.below hb6) hg7, Far.step (hf.below hb6) hg7 hl7⟩⟩
        case measure => simp [intOf]; omega
      · have hx : wr.cell? ⟨w2.heap.size, k, none⟩ = some (.int .u8 108) := hcx
        clear hcx
        have hlast := HL.out rfl
        have HO : Hid (numI c.kind ++ encR c ((fieldsL c.kind).take (k + 1)) = (numI c.kind ++ encR c ((fieldsL c.kind).take k)) ++ numI c.nodes.length ++ encN c.nodes) := Lib.hid (by rw [HT.out, encR_snoc, if_pos (by decide), List.append_assoc, List.append_assoc]; rfl)
        have hlb : (numI c.kind ++ encR c ((fieldsL c.kind).take k)).length ≤ 140737488000000 := by rw [List.length_append]; omega
        have HSS : Hid (∀ w', Below (w.heap.size + 1) wr w' → Sl .i64 w' (.slice an c.nodes.length capn) c.nodes) := Lib.hid fun w' hw => HS0.out.below (hb.trans hw) (by rw [hsz0]; exact Nat.le_refl _)
        go_wp2_with (go_at_call 47; refine (rnodes_any (w.heap.size + 1) _ _ _ _ _ hown hW HSS.out (fun n hn => by have := HNB.out n hn; omega) hlb (by omega)).mono ?_; rintro e w6 ⟨v6, rfl, hown6, hb6⟩)
        go_roundw
        case rel => exact ⟨k + 1, by omega, by go_num, by rw [HO.out]; exact hown6, hb.trans hb6, fun h => absurd h (by omega)⟩
        case measure => simp [intOf]; omega
    · obtain rfl : k = (fieldsL c.kind).length := by omega
      rw [List.take_length, HALL.out] at hown
      go_wp2
      go_ret2
      refine ⟨_, rfl, hown.mono (Nat.le_succ _), hown.sl ?_, HB0.out.trans (hb.mono (Nat.le_succ _))⟩
      rw [← HALL.out]
      exact wf_app hkw.out (HR.out _).2
end Cm
end Go.Proofs.YtbdjihmgdkailaaDoor
namespace Go.Proofs.YtbdjihmgdkailaaDoor
open Go.ChangeShapes Go.WideShapes Go.ChangeAt Go.RowKit
set_option linter.unusedVariables false
set_option maxRecDepth 100000
namespace Cm

def encB (c : Cmd) : List Int := if chkC c then encL c else []
def Enc (c : Cmd) (w : World) (e : Ending) (w' : World) : Prop := ∃ v, e = .returned (.tuple #[v, .int .i64 (cErr (chkC c))]) ∧ Sl .u8 w' v (encB c) ∧ Below w.heap.size w w'

theorem encode_all (c : Cmd) (v : Value) (w : World) (h : IsCmd w v c) : Calls Tryd.prog 71 #[v] w (Enc c w) := by
  cases hc : chkC c with
  | false =>
    refine (encode_no c v w h hc).mono ?_
    rintro e w' ⟨rfl, hb⟩
    refine ⟨.slice none 0 0, ?_, ?_, hb⟩
    · rw [hc]; rfl
    · unfold encB; rw [hc]; exact sl_nil _ _
  | true =>
    refine (encode_yes c v w h hc).mono ?_
    rintro e w' ⟨u, rfl, -, hs, hb⟩
    refine ⟨u, ?_, ?_, hb⟩
    · rw [hc]; rfl
    · unfold encB; rw [hc]; exact hs
theorem rencode_all (c : Cmd) (v : Value) (w : World) (h : IsCmd w v c) : Calls Tryd.prog 19 #[v] w (Enc c w) := by
  have hrk := rchk_eq (by obtain ⟨_, _, _, h⟩ := h; exact h : c.wf)
  cases hc : chkC c with
  | false =>
    refine (rencode_no c v w h (hrk.trans hc)).mono ?_
    rintro e w' ⟨rfl, hb⟩
    refine ⟨.slice none 0 0, ?_, ?_, hb⟩
    · rw [hc]; rfl
    · unfold encB; rw [hc]; exact sl_nil _ _
  | true =>
    refine (rencode_yes c v w h hc hrk).mono ?_
    rintro e w' ⟨u, rfl, -, hs, hb⟩
    refine ⟨u, ?_, ?_, hb⟩
    · rw [hc]; rfl
    · unfold encB; rw [hc]; exact hs

def exC : Cmd := ⟨2, 0, 0, [1, 3], 0, 0, 0, 0⟩
theorem numI_small {n : Int} (h0 : 0 < n) (h1 : n < 256) : numI n = [1, n] := by
  unfold numI
  have hb : Oc.bw n.toNat = 1 := by rw [Oc.bw_pos (by omega), Nat.div_eq_of_lt (by omega), Oc.bw_zero]
  unfold Oc.numL
  rw [hb]
  simp [Oc.be]
  omega
theorem exC_chk : chkC exC = true := by decide
theorem exC_enc : encB exC = [1, 2, 1, 2, 1, 1, 1, 3] := by
  unfold encB
  rw [exC_chk, if_pos rfl]
  have e : encL exC = numI 2 ++ (numI 2 ++ []) ++ (numI 1 ++ (numI 3 ++ [])) := rfl
  rw [e, numI_small (by omega) (by omega), numI_small (by omega) (by omega), numI_small (by omega) (by omega)]
  rfl

end Cm
end Go.Proofs.YtbdjihmgdkailaaDoor
