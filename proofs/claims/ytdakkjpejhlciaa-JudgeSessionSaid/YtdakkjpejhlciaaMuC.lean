/- A client's session: its small methods, and the rows of its table. No condition. -/
import Derived.Test.YtdakkjpejhlciaaMuB
import Derived.Test.YtdakkjpejhlciaaRnb
namespace Go.Proofs.Ytdakkjpejhlciaa
open Go.ChangeShapes Go.WideShapes Go.ChangeAt Go.RowKit Go.Deep
set_option linter.unusedVariables false
set_option maxRecDepth 100000
set_option linter.unusedSimpArgs false
namespace Mu
open St Mc
theorem getD_get {l : List Int} {k : Nat} (h : k < l.length) : l.getD k 0 = l[k] := by simp [List.getD, List.getElem?_eq_getElem h]
theorem take_get {l : List Int} {k : Nat} (h : k < l.length) : l.take (k + 1) = l.take k ++ [l.getD k 0] := by
  rw [getD_get h]; exact List.take_succ_eq_append_getElem h
theorem mem_get {l : List Int} {k : Nat} (h : k < l.length) : l.getD k 0 ∈ l := by rw [getD_get h]; exact List.getElem_mem h
theorem slCases {k : IntKind} {w : World} {v : Value} {zs : List Int} (h : Sl k w v zs) :
    (∃ a cap, v = .slice a 0 cap ∧ zs = []) ∨ ∃ b off cap, v = .slice (some ⟨b, off, none⟩) zs.length cap ∧ 0 < zs.length ∧ zs.length ≤ cap ∧ cap ≤ 9223372036854775807 ∧ b < w.heap.size ∧
      ∀ i, i < zs.length → w.cell? ⟨b, off + i, none⟩ = some (.int k (zs.getD i 0)) := by
  obtain ⟨a, cap, rfl, h1, h2, h3, h4⟩ := h
  unfold maxLen at h2
  rcases h4 with ⟨rfl, rfl, rfl⟩ | ⟨b, off, sp, rfl, rfl | ⟨rfl, hlt, hc⟩⟩
  · exact .inl ⟨_, _, rfl, rfl⟩
  · exact .inl ⟨_, _, rfl, rfl⟩
  · rcases Nat.eq_zero_or_pos zs.length with h0 | h0
    · have : zs = [] := List.eq_nil_of_length_eq_zero h0
      subst this
      exact .inl ⟨_, _, rfl, rfl⟩
    · exact .inr ⟨b, off, cap, rfl, h0, h1, h2, hlt, hc⟩
def IdxOf (zs : List Int) (n : Int) (w : World) (e : Ending) (w' : World) : Prop := (∃ i : Int, e = .returned (.int .i64 i) ∧ decide (0 ≤ i) = decide (n ∈ zs)) ∧ w = w'
set_option maxHeartbeats 400000 in
theorem index_any (v : Value) (zs : List Int) (n : Int) (w : World) (hs : Sl .i64 w v zs) :
    Calls Try.prog 59 #[v, .int .i64 n] w (IdxOf zs n w) := by
  rcases slCases hs with ⟨a, cap, rfl, rfl⟩ | ⟨b, off, cap, rfl, h0, hlc, hcm, hlt, hc⟩
  · clear hs
    go_enter Try.func59, Try.ntmps59
    go_wp2
    refine wp_loop_rounds 1 ?_
    rw [rounds_succ]
    go_wp2
    go_ret
    exact ⟨⟨-1, rfl, by simp⟩, rfl⟩
  · have HC := Lib.hid hc
    clear hs hc
    go_enter Try.func59, Try.ntmps59
    go_wp2
    go_loop [8] (fun i => ∃ k : Nat, k ≤ zs.length ∧ i = .int .i64 k ∧ Hid (n ∉ zs.take k)) (fun i => zs.length - (intOf i).toNat)
    case atStart => exact ⟨0, Nat.zero_le _, rfl, Lib.hid (by simp)⟩
    case round =>
      obtain ⟨k, hk, rfl, HO⟩ := hrel
      by_cases hlt2 : k < zs.length
      · have hcx := HC.out k hlt2
        have HM := Lib.hid (mem_get hlt2)
        have HT := Lib.hid (take_get hlt2)
        generalize zs.getD k 0 = z at *
        by_cases hz : z = n
        · subst hz
          have HB := Lib.hid (decide_eq_true HM.out)
          go_wp2
          go_ret
          exact ⟨⟨k, rfl, by rw [HB.out]; simp⟩, rfl⟩
        · have hz2 : (n == z) = false := by rw [beq_eq_false_iff_ne]; exact fun h => hz h.symm
          have HO2 : Hid (n ∉ zs.take (k + 1)) := by
            refine Lib.hid ?_
            rw [HT.out, List.mem_append, List.mem_singleton]
            rintro (h | h)
            · exact HO.out h
            · exact hz h.symm
          clear hz
          go_wp2
          go_round
          case rel => exact ⟨k + 1, by omega, by go_num, HO2⟩
          case measure => simp [intOf]; omega
      · obtain rfl : k = zs.length := by omega
        have HO2 := HO.out
        rw [List.take_length] at HO2
        have HB := Lib.hid (decide_eq_false HO2)
        clear HO2
        go_wp2
        go_ret
        exact ⟨⟨-1, rfl, by rw [HB.out]; simp⟩, rfl⟩

set_option maxHeartbeats 400000 in
theorem contains_any (v : Value) (zs : List Int) (n : Int) (w : World) (hs : Sl .i64 w v zs) :
    Calls Try.prog 50 #[v, .int .i64 n] w fun e w' => e = .returned (.bool (decide (n ∈ zs))) ∧ w = w' := by
  go_enter Try.func50, Try.ntmps50
  go_wp2_with fail
  refine (index_any _ _ _ _ hs).mono ?_
  rintro e w' ⟨⟨i, rfl, hi⟩, rfl⟩
  have HI := Lib.hid hi
  clear hi
  go_wp2
  all_goals (go_ret; exact ⟨ret_bool HI.out, rfl⟩)




section
variable {w w' : World} {S S' : Nat → Prop} {p : Nat} {vr vq vo : Value} {s s' : Ses}
theorem slice_any {w : World} {B e sz n : Nat} {v : Value} {xs : List Value} (h : w.ownsRow B e sz v n xs) : ∃ a m c, v = .slice a m c := by
  obtain ⟨a, c, rfl⟩ := own_slice h
  exact ⟨_, _, _, rfl⟩
theorem slice_que {α : Type} {sz : Nat} {C : α → List Value} {e : TypeId} {w : World} {B : Nat} {v : Value} {xs : List α} (h : OwnQ sz C e w B v xs) : ∃ a m c, v = .slice a m c := by
  obtain ⟨a, c, rfl, -⟩ := h.len
  exact ⟨_, _, _, rfl⟩
theorem lit_sl (w : World) (cs : Array Value) (zs : List Int) (h : cs = (zs.map (Value.int .i64)).toArray) (hw : ∀ x ∈ zs, (Lit.int .i64 x).wf = true) (hm : zs.length ≤ maxLen) : Sl .i64 (w.alloc (.cells cs 67)) (.slice (some ⟨w.heap.size, 0, none⟩) zs.length zs.length) zs := Sl.new w cs zs h rfl (Nat.le_refl _) hm hw
set_option maxHeartbeats 400000 in
theorem is_any (v : Value) (zs : List Int) (w : World) (h : SesV w S p vr vq vo s) (hs : Sl .i64 w v zs) : Calls Try.prog 36 #[.pointer (some ⟨p, 0, none⟩), v] w fun e w' => e = .returned (.bool (decide (s.st ∈ zs))) ∧ w = w' := by
  obtain ⟨c0, -, -, -, -, -, z⟩ := h.cells
  have HS := Lib.hid hs
  clear h hs
  go_enter Try.func36, Try.ntmps36
  go_wp2_with (refine (contains_any _ _ _ _ HS.out).mono ?_; rintro e w' ⟨rfl, rfl⟩)
  go_ret
  exact ⟨rfl, rfl⟩
set_option maxHeartbeats 400000 in
theorem open_any (w : World) (h : SesV w S p vr vq vo s) : Calls Try.prog 27 #[.pointer (some ⟨p, 0, none⟩)] w fun e w' => e = .returned (.bool (decide (s.st ≠ 0))) ∧ w = w' := by
  obtain ⟨c0, -, -, -, -, -, z⟩ := h.cells
  clear h
  go_enter Try.func27, Try.ntmps27
  by_cases h0 : s.st = 0
  · have c0' : w.cell? ⟨p, 0, none⟩ = some (.int .i64 0) := by rw [c0, h0]
    have HD : Hid (decide (s.st ≠ 0) = false) := Lib.hid (by simp [h0])
    clear c0 h0
    rw [HD.out]
    go_wp2
    go_ret
    exact ⟨rfl, rfl⟩
  · have HD : Hid (decide (s.st ≠ 0) = true) := Lib.hid (by simp [h0])
    have hq : (s.st != 0) = true := by simpa using h0
    rw [HD.out]
    generalize s.st = n at *
    go_wp2
    go_ret
    exact ⟨rfl, rfl⟩
set_option maxHeartbeats 400000 in
theorem hang_any (w : World) (h : SesV w S p vr vq vo s) : Calls Try.prog 21 #[.pointer (some ⟨p, 0, none⟩)] w fun e w' => e = .returned (.tuple #[]) ∧ SesV w' S p (.pointer none) (.slice none 0 0) vo (hangS s) ∧ Only S w w' := by
  obtain ⟨c0, c1, c2, c3, c4, c5, z⟩ := h.cells
  obtain ⟨ao, co, rfl⟩ := own_slice h.o
  have HR := Lib.hid h.row
  have HF : Hid (SesV (w.setRow p #[.int .i64 0, .bool false, .string ⟨#[]⟩, .pointer none, .slice none 0 0, .slice ao s.out.length co]) S p (.pointer none) (.slice none 0 0) (.slice ao s.out.length co) (hangS s) ∧ Only S w (w.setRow p #[.int .i64 0, .bool false, .string ⟨#[]⟩, .pointer none, .slice none 0 0, .slice ao s.out.length co])) :=
    Lib.hid ⟨h.hang (setRow_heap w p _ _ _ _ h.row) (fun k hk => setRow_other w p k _ hk) (by simp), only_row h.sp _⟩
  have HONE : Hid (((#[.int .i64 0, .bool false, .string ⟨#[]⟩, .pointer none, .slice none 0 0, .slice ao s.out.length co] : Array Value)).all (·.oneCell') = true) := Lib.hid (by simp [Value.oneCell'])
  clear h c0 c1 c2 c3 c4
  go_enter Try.func21, Try.ntmps21
  go_wp2_with (refine wpList_store_row rfl _ (.tmp 10) (.tmp 9) rfl p #[.int .i64 0, .bool false, .string ⟨#[]⟩, .pointer none, .slice none 0 0, .slice ao s.out.length co] rfl rfl TS _ HR.out (by kernel_rfl) rfl HONE.out ?_)
  refine bodyPost_end (results_none rfl _ _ _) rfl ?_
  exact ⟨rfl, HF.out⟩
set_option maxHeartbeats 400000 in
theorem replies_any (w : World) (h : SesV w S p vr vq vo s) : Calls Try.prog 23 #[.pointer (some ⟨p, 0, none⟩)] w fun e w' => e = .returned vo ∧ w' = w.setCell ⟨p, 5, none⟩ (.slice none 0 0) := by
  obtain ⟨c0, c1, c2, c3, c4, c5, z⟩ := h.cells
  clear h c0 c1 c2 c3 c4
  go_enter Try.func23, Try.ntmps23
  go_wp2
  go_ret
  exact ⟨rfl, rfl⟩
/-- behind it: the row of replies is given away -/
theorem SesV.given (h : SesV w S p vr vq vo s) : SesV (w.setCell ⟨p, 5, none⟩ (.slice none 0 0)) (fun k => S k ∧ vo.ownBlock ≠ some k) p vr vq (.slice none 0 0) (repsS s) ∧ OwnR 3 repC TR (w.setCell ⟨p, 5, none⟩ (.slice none 0 0)) 0 vo s.out := by
  have hb : ∀ k, k ≠ p → (w.setCell ⟨p, 5, none⟩ (.slice none 0 0)).heap[k]? = w.heap[k]? := fun k hk => heap_setCell_other w ⟨p, 5, none⟩ k _ hk
  have hvq : ∀ {g : Nat} {cs : Array Value} {t : TypeId}, w.heap[g]? = some (.cells cs t (0, 0)) → TR ≠ t → vo.ownBlock ≠ some g := fun hg2 hne e => own_ty h.o hg2 hne _ e rfl
  refine ⟨⟨(heap_setCell_same w p 5 _ TS _ h.row).trans rfl, ⟨h.sp, fun e => h.one p e rfl⟩, ?_, h.q.keep (fun k hk => hb k (h.qne k hk)), fun k hk => ⟨h.qs k hk, ?_⟩, OwnR.nil _ _ _, (fun k hk => by cases hk), fun k hk => by have := h.low k hk.1; simpa using this⟩, own_keep h.o (fun k hk _ => hb k (h.one k hk))⟩
  · rcases h.rdr with h1 | ⟨h0, g, b, h1, h2, h3, h4⟩
    · exact .inl h1
    · obtain ⟨vt, g1, g2, g3, g4⟩ := h3
      have hgp : g ≠ p := by
        rintro rfl
        rw [h.row] at g1
        simp only [Option.some.injEq, Obj.cells.injEq] at g1
        exact absurd g1.2.1 (by decide)
      refine .inr ⟨h0, g, b, h1, ⟨h2, hvq g1 (by decide)⟩, Rdr.same ⟨vt, g1, g2, g3, g4⟩ (hb g hgp) (fun q hq => hb q ?_), fun q hq => ⟨h4 q hq, ?_⟩⟩
      · rintro rfl
        subst g3
        exact own_ty g2 h.row (by decide) _ hq rfl
      · subst g3
        rcases g2.2 with ⟨h5, -⟩ | ⟨g6, cap, cur, h5, -, h6, -⟩
        · rw [h5] at hq; cases hq
        · rw [h5] at hq
          simp only [Value.ownBlock, Option.some.injEq] at hq
          subst hq
          exact hvq h6 (by decide)
  · rcases h.q with ⟨h5, -⟩ | ⟨g6, off, cap, cur, h5, -, h6, -⟩
    · rw [h5] at hk; cases hk
    · rw [h5] at hk
      simp only [Value.ownBlock, Option.some.injEq] at hk
      subst hk
      exact hvq h6 (by decide)
/-- a reply told -/
def ToldR (p : Nat) (S : Nat → Prop) (w : World) (vr vq : Value) (s' : Ses) (e : Ending) (w' : World) : Prop := e = .returned (.tuple #[]) ∧ ∃ S' vo', SesV w' S' p vr vq vo' s' ∧ (∀ k, S' k → Grow S w w' k) ∧ Only S w w'
theorem told_ahead {w1 : World} (hb : Below w.heap.size w w1) (hS : ∀ k, S' k → Grow S w1 w' k) (ho : Only S w1 w') : (∀ k, S' k → Grow S w w' k) ∧ Only S w w' := by
  have z := hb.size
  refine ⟨fun k hk => ?_, (Below.only hb S).trans ho⟩
  rcases hS k hk with h | h
  · exact .inl h
  · exact .inr ⟨by omega, h.2⟩
set_option maxHeartbeats 1000000 in
theorem reply_any (k : Int) (w : World) (h : SesV w S p vr vq vo s) (hl : s.out.length ≤ 1000000) : Calls Try.prog 41 #[.pointer (some ⟨p, 0, none⟩), .int .i64 k] w (ToldR p S w vr vq (s.tell (rep k))) := by
  obtain ⟨c0, c1, c2, c3, c4, c5, z⟩ := h.cells
  obtain ⟨W1, hW1⟩ : ∃ q, w.alloc (.cells #[.int .i64 k, .int .i64 0, .string ⟨#[]⟩] TR) = q := ⟨_, rfl⟩
  have hb1 : Below w.heap.size w W1 := by rw [← hW1]; exact (Below.refl _ _).alloc (Nat.le_refl _) _
  have HB1 := Lib.hid hb1
  have hv1 := h.below hb1
  have HV1 := Lib.hid hv1
  have HLIT : Hid (SlR 3 repC W1 (.slice (some ⟨w.heap.size, 0, none⟩) 1 1) [rep k]) := Lib.hid (by rw [← hW1]; exact SlR.one repC_len w _ rfl _ (rep k) rfl)
  have HML : Hid (s.out.length ≤ 1000000) := Lib.hid hl
  clear h c0 c1 c2 c3 c4 hb1 hv1 hl
  go_enter Try.func41, Try.ntmps41
  go_wp2_with (first | rw [hW1] | (at_builtin; refine appRz repC_len repC_one Try.underlying30 rfl (by decide) info_rep (by decide) rfl (.tmp 8) (.tmp 11) rfl 0 vo s.out rfl HV1.out.o (.slice (some ⟨w.heap.size, 0, none⟩) 1 1) [rep k] rfl HLIT.out (by have := HML.out; unfold maxLen; simp; omega) (by have := HML.out; simp; omega) (Nat.zero_le _) ?_; intro v5 w5 hown5 hgr5 hli5; obtain ⟨a5, m5, d5, rfl⟩ := slice_any hown5; obtain ⟨hn5, ho5⟩ := HV1.out.told hown5 hgr5 hli5; have HN5 := Lib.hid hn5; have HO5 := Lib.hid ho5; have hrow5 := (hgr5.block p HV1.out.plt (fun e => HV1.out.one p e.symm rfl)).trans HV1.out.row; have cc5 : w5.cell? ⟨p, 5, none⟩ = some vo := (cell_of_row w5 _ 5 _ _ _ hrow5).trans rfl; have zz5 : ∀ i, w5.frozen? ⟨p, i, none⟩ = false := fun i => frozen_of_row _ _ _ _ _ hrow5; have HG5 := Lib.hid hgr5.size; clear hown5 hgr5 hli5 hn5 ho5 hrow5))
  refine bodyPost_end (results_none rfl _ _ _) rfl ?_
  have hz : (w5.setCell ⟨p, 5, none⟩ (.slice a5 m5 d5)).heap.size = w5.heap.size := by simp
  obtain ⟨q1, q2⟩ := told_ahead (S' := Grow S W1 w5) HB1.out (w' := w5.setCell ⟨p, 5, none⟩ (.slice a5 m5 d5)) (S := S) (fun k hk => by
    rcases hk with hk | hk
    · exact .inl hk
    · exact .inr ⟨hk.1, by rw [hz]; exact hk.2⟩) HO5.out
  exact ⟨rfl, _, _, HN5.out, q1, q2⟩
set_option maxHeartbeats 1000000 in
theorem new_any (w : World) : Calls Try.prog 8 #[] w fun e w' => (∃ g, e = .returned (.pointer (some ⟨g, 0, none⟩)) ∧ SesX g fresh w' (fun k => w.heap.size ≤ k ∧ k < w'.heap.size)) ∧ Below w.heap.size w w' := by
  go_enter Try.func8, Try.ntmps8
  go_wp2_with (refine (St.new_any _).mono ?_; rintro e w' ⟨rfl, rfl⟩)
  go_ret
  have hz1 : (w.alloc (.cells #[.int .i64 0, .int .i64 0, .slice none 0 0] 86)).heap.size = w.heap.size + 1 := by simp
  refine ⟨⟨_, rfl, .pointer (some ⟨w.heap.size, 0, none⟩), .slice none 0 0, .slice none 0 0, ⟨?_, ?_, ?_, OwnQ.nil _ _ _, (fun k hk => by cases hk), OwnR.nil _ _ _, (fun k hk => by cases hk), fun k hk => hk.2⟩⟩, ?_⟩
  · exact anew hz1
  · simp
  · refine .inr ⟨by decide, w.heap.size, none, rfl, by simp; omega, ?_, fun q hq => by cases hq⟩
    exact (St.rdr_new (B := 0) w (Nat.zero_le _)).alloc _
  · exact ((Below.refl _ _).alloc (Nat.le_refl _) _).alloc (by simp) _
end
end Mu
end Go.Proofs.Ytdakkjpejhlciaa
