/- Package judge: Replay, as landed. No condition. -/
import Derived.Test.YteihopgnpiajoaaJjF
import Derived.Shelf.SlSortCmp.KitK
namespace Go.Proofs.Yteihopgnpiajoaa
open Go.ChangeShapes Go.WideShapes Go.ChangeAt Go.RowKit Go.Deep
set_option linter.unusedVariables false
set_option maxRecDepth 100000
set_option linter.unusedSimpArgs false
namespace Jj
def cmpZ (a b : Int) : Int := if a < b then -1 else if b < a then 1 else 0
theorem compare_any (a b : Int) (w : World) : Calls Try.prog 27 #[.int .i64 a, .int .i64 b] w fun e w' => e = .returned (.int .i64 (cmpZ a b)) ∧ w' = w := by
  have nan : ∀ (z : Int) (u : World), Calls Try.prog 38 #[.int .i64 z] u fun e u' => e = .returned (.bool false) ∧ u' = u := by
    intro z u
    go_enter Try.func38, Try.ntmps38
    go_wp2
    go_ret
    exact ⟨by simp, rfl⟩
  by_cases h1 : a < b
  · have e : cmpZ a b = -1 := by unfold cmpZ; rw [if_pos h1]
    rw [e]; clear e
    go_enter Try.func27, Try.ntmps27
    go_wp2_with (refine (nan _ _).mono ?_; rintro e w2 ⟨rfl, rfl⟩)
    go_ret
    exact ⟨rfl, rfl⟩
  · by_cases h2 : b < a
    · have e : cmpZ a b = 1 := by unfold cmpZ; rw [if_neg h1, if_pos h2]
      rw [e]; clear e
      go_enter Try.func27, Try.ntmps27
      go_wp2_with (refine (nan _ _).mono ?_; rintro e w2 ⟨rfl, rfl⟩)
      go_ret
      exact ⟨rfl, rfl⟩
    · have e : cmpZ a b = 0 := by unfold cmpZ; rw [if_neg h1, if_neg h2]
      rw [e]; clear e
      go_enter Try.func27, Try.ntmps27
      go_wp2_with (refine (nan _ _).mono ?_; rintro e w2 ⟨rfl, rfl⟩)
      go_ret
      exact ⟨rfl, rfl⟩
def cfC (x y : Cx) : Int := if cmpZ x.node y.node = 0 then cmpZ x.tok y.tok else cmpZ x.node y.node
def ltC (x y : Cx) : Prop := x.node < y.node ∨ (x.node = y.node ∧ x.tok < y.tok)
instance (x y : Cx) : Decidable (ltC x y) := by unfold ltC; infer_instance
theorem cfC_lt (x y : Cx) : cfC x y < 0 ↔ ltC x y := by
  unfold cfC ltC cmpZ
  by_cases h1 : x.node < y.node
  · rw [if_pos h1, if_neg (by decide)]; simp [h1]
  · rw [if_neg h1]
    by_cases h2 : y.node < x.node
    · rw [if_pos h2, if_neg (by decide)]; simp; omega
    · rw [if_neg h2, if_pos rfl]
      by_cases h3 : x.tok < y.tok
      · rw [if_pos h3]; simp; omega
      · rw [if_neg h3]
        by_cases h4 : y.tok < x.tok
        · rw [if_pos h4]; simp; omega
        · rw [if_neg h4]; simp; omega
theorem lt_iff (x y : Cx) : ltOf cfC x y = decide (ltC x y) := by
  unfold ltOf
  by_cases h : ltC x y
  · rw [decide_eq_true h, decide_eq_true ((cfC_lt x y).2 h)]
  · rw [decide_eq_false h, decide_eq_false (fun q => h ((cfC_lt x y).1 q))]
theorem swo : Sort.SWO (ltOf cfC) where
  irrefl x := by rw [lt_iff]; exact decide_eq_false (by unfold ltC; omega)
  trans x y z h1 h2 := by rw [lt_iff] at *; simp only [decide_eq_true_eq] at *; unfold ltC at *; omega
  ntrans x y z h1 h2 := by rw [lt_iff] at *; simp only [decide_eq_false_iff_not] at *; unfold ltC at *; omega
instance : Inhabited Cx := ⟨⟨0, 0⟩⟩
theorem or_any (a b : Int) (g : Nat) (w : World) (h : w.cell? ⟨g, 0, none⟩ = some (.int .i64 a) ∧ w.cell? ⟨g, 1, none⟩ = some (.int .i64 b)) :
    Calls Try.prog 26 #[.slice (some ⟨g, 0, none⟩) 2 2] w fun e w' => e = .returned (.int .i64 (if a = 0 then b else a)) ∧ w' = w := by
  obtain ⟨h0, h1⟩ := h
  go_enter Try.func26, Try.ntmps26
  go_wp2
  go_loop [8] (fun i => ∃ k : Nat, i = .int .i64 (k : Int) ∧ (k = 0 ∨ (k = 1 ∧ a = 0) ∨ (k = 2 ∧ a = 0 ∧ b = 0))) (fun i => 2 - (intOf i).toNat)
  case atStart => exact ⟨0, rfl, .inl rfl⟩
  case round =>
    obtain ⟨k, rfl, hk⟩ := hrel
    rcases hk with rfl | ⟨rfl, ha⟩ | ⟨rfl, ha, hb⟩
    · by_cases ha : a = 0
      · have d : (a != 0) = false := by simpa using ha
        have HA := Lib.hid ha
        clear ha
        go_wp2
        go_round
        case rel => exact ⟨1, rfl, .inr (.inl ⟨rfl, HA.out⟩)⟩
        case measure => simp [intOf]
      · have d : (a != 0) = true := by simpa using ha
        have HA := Lib.hid ha
        clear ha
        go_wp2
        go_ret
        exact ⟨by first | rfl | exact ret_int (if_neg HA.out).symm, rfl⟩
    · have HA := Lib.hid ha
      clear ha
      by_cases hb : b = 0
      · have d : (b != 0) = false := by simpa using hb
        have HB := Lib.hid hb
        clear hb
        go_wp2
        go_round
        case rel => exact ⟨2, rfl, .inr (.inr ⟨rfl, HA.out, HB.out⟩)⟩
        case measure => simp [intOf]
      · have d : (b != 0) = true := by simpa using hb
        clear hb
        go_wp2
        go_ret
        exact ⟨by first | rfl | exact ret_int (if_pos HA.out).symm, rfl⟩
    · have HA := Lib.hid ha
      have HB := Lib.hid hb
      clear ha hb
      go_wp2
      go_ret
      exact ⟨by first | rfl | exact ret_int HB.out.symm | exact ret_int (by rw [if_pos HA.out, HB.out]), rfl⟩
set_option maxHeartbeats 4000000 in
theorem closure_any (x y : Cx) (w : World) : Calls Try.prog 25 #[.agg (cxC x).toArray, .agg (cxC y).toArray] w fun e w' => e = .returned (.int .i64 (cfC x y)) ∧ ∃ q os', w' = Sort.grow (w.drewN q) os' := by
  obtain ⟨g0, hg0⟩ : ∃ q, w.heap.size = q := ⟨_, rfl⟩
  obtain ⟨W1, hW1⟩ : ∃ q, w.alloc (.cells #[.int .i64 x.node, .int .i64 x.tok] 34) = q := ⟨_, rfl⟩
  obtain ⟨g1, hg1⟩ : ∃ q, W1.heap.size = q := ⟨_, rfl⟩
  obtain ⟨W2, hW2⟩ : ∃ q, W1.alloc (.cells #[.int .i64 y.node, .int .i64 y.tok] 34) = q := ⟨_, rfl⟩
  obtain ⟨W3, hW3⟩ : ∃ q, W2.drew.alloc (.cells #[.int .i64 (cmpZ x.node y.node), .int .i64 (cmpZ x.tok y.tok)] 3) = q := ⟨_, rfl⟩
  have r0 : W1.heap[g0]? = some (.cells #[.int .i64 x.node, .int .i64 x.tok] 34 (0, 0)) := by rw [← hW1, ← hg0]; exact heap_alloc_new _ _
  have r1 : W2.heap[g1]? = some (.cells #[.int .i64 y.node, .int .i64 y.tok] 34 (0, 0)) := by rw [← hW2, ← hg1]; exact heap_alloc_new _ _
  have r02 : W2.heap[g0]? = some (.cells #[.int .i64 x.node, .int .i64 x.tok] 34 (0, 0)) := by rw [← hW2]; exact (heap_alloc_old _ _ (row_lt r0)).trans r0
  have HQ : Hid (W2.drew.heap[g0]? = some (.cells #[.int .i64 x.node, .int .i64 x.tok] 34 (0, 0)) ∧ W2.drew.heap[g1]? = some (.cells #[.int .i64 y.node, .int .i64 y.tok] 34 (0, 0))) := Lib.hid ⟨r02, r1⟩
  have HQ3 : Hid (W3.heap[g0]? = some (.cells #[.int .i64 x.node, .int .i64 x.tok] 34 (0, 0)) ∧ W3.heap[g1]? = some (.cells #[.int .i64 y.node, .int .i64 y.tok] 34 (0, 0))) := Lib.hid (by
    rw [← hW3]
    exact ⟨(heap_alloc_old _ _ (row_lt r02)).trans r02, (heap_alloc_old _ _ (row_lt r1)).trans r1⟩)
  have HOR : Hid (W3.cell? ⟨W2.heap.size, 0, none⟩ = some (.int .i64 (cmpZ x.node y.node)) ∧ W3.cell? ⟨W2.heap.size, 1, none⟩ = some (.int .i64 (cmpZ x.tok y.tok))) := Lib.hid (by
    have r3 : W3.heap[W2.heap.size]? = some (.cells #[.int .i64 (cmpZ x.node y.node), .int .i64 (cmpZ x.tok y.tok)] 3 (0, 0)) := by rw [← hW3]; exact heap_alloc_new _ _
    exact ⟨(cell_of_row W3 _ 0 _ _ _ r3).trans rfl, (cell_of_row W3 _ 1 _ _ _ r3).trans rfl⟩)
  have HF : Hid (∃ q os', W3 = Sort.grow (w.drewN q) os') := Lib.hid (by
    rw [← hW3, ← hW2, ← hW1, Sort.alloc_eq_grow, Sort.alloc_eq_grow, Sort.alloc_eq_grow, Sort.grow_grow]
    exact ⟨1, _, (show _ = Sort.grow (Sort.grow (w.drewN 1) _) _ from rfl).trans (Sort.grow_grow _ _ _)⟩)
  clear r0 r1 r02
  go_enter Try.func25, Try.ntmps25
  go_upto_region 1 with fail
  clear hW1 hW2
  refine Wl.start 999 (fun _ => True) (fun u => u.heap[g0]? = some (.cells #[.int .i64 x.node, .int .i64 x.tok] 34 (0, 0)) ∧ u.heap[g1]? = some (.cells #[.int .i64 y.node, .int .i64 y.tok] 34 (0, 0))) (by kernel_rfl) trivial HQ.out (fun hk => ?_)
  refine Wl.take0 (i := 0) (v := .pointer (some ⟨g0, 0, none⟩)) rfl (by kernel_rfl) (by kernel_rfl) (by kernel_rfl) (by kernel_rfl) (fun _ _ _ h => h) (.inl ⟨by kernel_rfl, ?_⟩) hk ?_
  · intro wx hSw
    clear hSw hk
    go_simp
    try first | with_reducible rfl | kernel_rfl
  simp only [Act.put, List.getElem_toArray, List.getElem_cons_succ, List.getElem_cons_zero, List.setIfInBounds_toArray, List.set_cons_succ, List.set_cons_zero]
  refine Wl.take0 (i := 1) (v := .int .i64 x.node) rfl (by kernel_rfl) (by kernel_rfl) (by kernel_rfl) (by kernel_rfl) (fun _ _ _ h => h) (.inl ⟨by kernel_rfl, ?_⟩) hk ?_
  · intro wx hSw
    have cc := (cell_of_row wx _ 0 _ _ _ hSw.1).trans rfl
    clear hSw hk
    go_simp
    try first | with_reducible rfl | kernel_rfl
  simp only [Act.put, List.getElem_toArray, List.getElem_cons_succ, List.getElem_cons_zero, List.setIfInBounds_toArray, List.set_cons_succ, List.set_cons_zero]
  refine Wl.take0 (i := 2) (v := .pointer (some ⟨g1, 0, none⟩)) rfl (by kernel_rfl) (by kernel_rfl) (by kernel_rfl) (by kernel_rfl) (fun _ _ _ h => h) (.inl ⟨by kernel_rfl, ?_⟩) hk ?_
  · intro wx hSw
    clear hSw hk
    go_simp
    try first | with_reducible rfl | kernel_rfl
  simp only [Act.put, List.getElem_toArray, List.getElem_cons_succ, List.getElem_cons_zero, List.setIfInBounds_toArray, List.set_cons_succ, List.set_cons_zero]
  refine Wl.take0 (i := 3) (v := .int .i64 y.node) rfl (by kernel_rfl) (by kernel_rfl) (by kernel_rfl) (by kernel_rfl) (fun _ _ _ h => h) (.inl ⟨by kernel_rfl, ?_⟩) hk ?_
  · intro wx hSw
    have cc := (cell_of_row wx _ 0 _ _ _ hSw.2).trans rfl
    clear hSw hk
    go_simp
    try first | with_reducible rfl | kernel_rfl
  simp only [Act.put, List.getElem_toArray, List.getElem_cons_succ, List.getElem_cons_zero, List.setIfInBounds_toArray, List.set_cons_succ, List.set_cons_zero]
  refine Wl.take0 (i := 5) (v := .pointer (some ⟨g0, 1, none⟩)) rfl (by kernel_rfl) (by kernel_rfl) (by kernel_rfl) (by kernel_rfl) (fun _ _ _ h => h) (.inl ⟨by kernel_rfl, ?_⟩) hk ?_
  · intro wx hSw
    clear hSw hk
    go_simp
    try first | with_reducible rfl | kernel_rfl
  simp only [Act.put, List.getElem_toArray, List.getElem_cons_succ, List.getElem_cons_zero, List.setIfInBounds_toArray, List.set_cons_succ, List.set_cons_zero]
  refine Wl.take0 (i := 6) (v := .int .i64 x.tok) rfl (by kernel_rfl) (by kernel_rfl) (by kernel_rfl) (by kernel_rfl) (fun _ _ _ h => h) (.inl ⟨by kernel_rfl, ?_⟩) hk ?_
  · intro wx hSw
    have cc := (cell_of_row wx _ 1 _ _ _ hSw.1).trans rfl
    clear hSw hk
    go_simp
    try first | with_reducible rfl | kernel_rfl
  simp only [Act.put, List.getElem_toArray, List.getElem_cons_succ, List.getElem_cons_zero, List.setIfInBounds_toArray, List.set_cons_succ, List.set_cons_zero]
  refine Wl.take0 (i := 7) (v := .pointer (some ⟨g1, 1, none⟩)) rfl (by kernel_rfl) (by kernel_rfl) (by kernel_rfl) (by kernel_rfl) (fun _ _ _ h => h) (.inl ⟨by kernel_rfl, ?_⟩) hk ?_
  · intro wx hSw
    clear hSw hk
    go_simp
    try first | with_reducible rfl | kernel_rfl
  simp only [Act.put, List.getElem_toArray, List.getElem_cons_succ, List.getElem_cons_zero, List.setIfInBounds_toArray, List.set_cons_succ, List.set_cons_zero]
  refine Wl.take0 (i := 8) (v := .int .i64 y.tok) rfl (by kernel_rfl) (by kernel_rfl) (by kernel_rfl) (by kernel_rfl) (fun _ _ _ h => h) (.inl ⟨by kernel_rfl, ?_⟩) hk ?_
  · intro wx hSw
    have cc := (cell_of_row wx _ 1 _ _ _ hSw.2).trans rfl
    clear hSw hk
    go_simp
    try first | with_reducible rfl | kernel_rfl
  simp only [Act.put, List.getElem_toArray, List.getElem_cons_succ, List.getElem_cons_zero, List.setIfInBounds_toArray, List.set_cons_succ, List.set_cons_zero]
  refine Wl.one (i := 4) (by kernel_rfl) rfl (fun K hK => ?_)
  go_simp
  refine (compare_any x.node y.node _).mono ?_
  rintro e w5 ⟨rfl, hw5⟩
  rw [hw5]
  clear hw5
  refine hK.out _ _ (Wl.Kn.on trivial HQ.out) (fun hk => ?_)
  clear hK K
  refine Wl.one (i := 9) (by kernel_rfl) rfl (fun K hK => ?_)
  go_simp
  refine (compare_any x.tok y.tok _).mono ?_
  rintro e w5 ⟨rfl, hw5⟩
  rw [hw5]
  clear hw5
  refine hK.out _ _ (Wl.Kn.on trivial HQ.out) (fun hk => ?_)
  clear hK K
  refine Wl.one (i := 10) (by kernel_rfl) rfl (fun K hK => ?_)
  go_simp
  try rw [hW3]
  refine hK.out _ _ (Wl.Kn.on trivial HQ3.out) (fun hk => ?_)
  clear hK K
  refine Wl.one (i := 11) (by kernel_rfl) rfl (fun K hK => ?_)
  go_simp
  refine (or_any (cmpZ x.node y.node) (cmpZ x.tok y.tok) W2.heap.size W3 HOR.out).mono ?_
  rintro e w5 ⟨rfl, hw5⟩
  rw [hw5]
  clear hw5
  refine hK.out _ _ (Wl.Kn.on trivial HQ3.out) (fun hk => ?_)
  clear hK K
  refine Wl.take0 (i := 12) (v := .int .i64 (cfC x y)) rfl (by kernel_rfl) (by kernel_rfl) (by kernel_rfl) (by kernel_rfl) (fun _ _ _ h => h) (.inl ⟨by kernel_rfl, ?_⟩) hk ?_
  · intro wx hSw
    clear hSw hk
    go_simp
    try first | with_reducible rfl | kernel_rfl
  simp only [Act.put, List.getElem_toArray, List.getElem_cons_succ, List.getElem_cons_zero, List.setIfInBounds_toArray, List.set_cons_succ, List.set_cons_zero]
  refine Wl.done (by kernel_rfl) ?_ _
  clear hk
  clear hW3
  go_wp2
  all_goals (go_ret; exact ⟨rfl, HF.out⟩)
theorem cmpLays (blk off size : Nat) (w : World) : CmpLays Try.prog 25 #[] cxC 2 cfC blk off size w :=
  fun _ _ _ _ x y => closure_any x y _
end Jj
end Go.Proofs.Yteihopgnpiajoaa
