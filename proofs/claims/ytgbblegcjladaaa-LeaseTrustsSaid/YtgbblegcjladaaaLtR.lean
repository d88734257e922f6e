/- The document's wallet: Told. No condition. -/
import Derived.Test.YtgbblegcjladaaaLtP
import Derived.Test.YtgbblegcjladaaaLtQ
import Derived.Test.YtgbblegcjladaaaLaC
namespace Go.Proofs.Ytgbblegcjladaaa
open Go.ChangeShapes Go.WideShapes Go.ChangeAt Go.RowKit Go.Deep
set_option linter.unusedVariables false
set_option maxRecDepth 100000
set_option linter.unusedSimpArgs false
namespace Lt
open Mp Mc
variable {w w' w5 : World} {S : Nat → Prop} {q : Nat} {n now sent : Int} {s : Wa} {is : Bool} {vl v : Value} {L' : List Tr}
set_option maxRecDepth 100000 in
set_option maxHeartbeats 64000000 in
theorem rtold_any (a : La.Ans) (w : World) (h : RwX q n s w S) (hn : s.L.length ≤ 1000) (ha : (Lit.int .i64 a.token).wf = true ∧ (Lit.int .u64 a.serial).wf = true) (ht : s.tim) (hnn : 0 ≤ n ∧ n ≤ 1073741824) :
    Calls Try.prog 31 #[.pointer (some ⟨q, 0, none⟩), .agg #[.int .i64 a.code, .int .i64 a.token, .int .u64 a.serial]] w fun e w' => e = .returned (.int .i64 (toldE s)) ∧ Mc.Left (RwX q n (toldV n s a)) S w w' := by
  have HX := Lib.hid h
  obtain ⟨sent, vl, h⟩ := h
  obtain ⟨al, cl, rfl⟩ := own_slice h.l
  obtain ⟨g3, hg3⟩ : ∃ z, w.heap.size = z := ⟨_, rfl⟩
  obtain ⟨W1, hW1⟩ : ∃ z, w.alloc (.cells #[.int .i64 a.code, .int .i64 a.token, .int .u64 a.serial] 60) = z := ⟨_, rfl⟩
  have hb1 : Below w.heap.size w W1 := by rw [← hW1]; exact (Below.refl _ _).alloc (Nat.le_refl _) _
  have hr1 : W1.heap[g3]? = some (.cells #[.int .i64 a.code, .int .i64 a.token, .int .u64 a.serial] 60 (0, 0)) := by rw [← hW1, ← hg3]; exact heap_alloc_new _ _
  have h1 := h.keep (w' := W1) (fun k hk => hb1.block k (h.low k hk)) hb1.size
  have e3 : W1.cell? ⟨q, 3, none⟩ = some (.bool (s.c.kind != 0)) := (cell_of_row _ _ 3 _ _ _ h1.row).trans rfl
  have HB1 := Lib.hid hb1
  by_cases hk : s.c.kind = 0
  · have hkb : (s.c.kind != 0) = false := by rw [hk]; rfl
    have HE : Hid (toldE s = 3 ∧ toldV n s a = s) := Lib.hid (by unfold toldE toldV; rw [if_pos hk, if_pos hk]; exact ⟨rfl, rfl⟩)
    rw [hkb] at e3
    clear hk hb1 hr1 h1 h
    go_enter Try.func31, Try.ntmps31
    go_wp2_with (first | rw [hW1, hg3])
    go_ret
    exact ⟨by rw [HE.out.1]; rfl, by rw [HE.out.2]; exact Mc.Left.same (goodR q n s) HX.out HB1.out⟩
  have hkb : (s.c.kind != 0) = true := bne_iff_ne.2 hk
  have HK0 := Lib.hid hk
  have HTE : Hid (toldE s = 0) := Lib.hid (by unfold toldE; rw [if_neg hk])
  have hsent : sent = s.made := h.at_ hk
  subst hsent
  rw [hkb] at e3
  have f3 : W1.frozen? ⟨q, 3, none⟩ = false := frozen_of_row W1 _ _ _ _ h1.row
  have hql := row_lt h.row
  have hgq : g3 ≠ q := by omega
  obtain ⟨W2, hW2⟩ : ∃ z, W1.setCell ⟨q, 3, none⟩ (.bool false) = z := ⟨_, rfl⟩
  have hq2 : W2.heap[q]? = some (.cells (rwA n s.now s.made false s.c (.slice al s.L.length cl)) TX (0, 0)) := by rw [← hW2]; exact (heap_setCell_same W1 q 3 _ TX _ h1.row).trans rfl
  have ha2 : W2.heap[g3]? = some (.cells #[.int .i64 a.code, .int .i64 a.token, .int .u64 a.serial] 60 (0, 0)) := by rw [← hW2]; exact (heap_setCell_other W1 ⟨q, 3, none⟩ g3 _ hgq).trans hr1
  have ho2 : Only (fun k => k = q) w W2 := by rw [← hW2]; exact (Below.only hb1 _).trans (Only.setCell W1 ⟨q, 3, none⟩ _ rfl)
  have c4 : W2.cell? ⟨q, 4, none⟩ = some (.int .i64 s.c.kind) := (cell_of_row _ _ 4 _ _ _ hq2).trans rfl; have c5 : W2.cell? ⟨q, 5, none⟩ = some (.int .i64 s.c.node) := (cell_of_row _ _ 5 _ _ _ hq2).trans rfl; have c6 : W2.cell? ⟨q, 6, none⟩ = some (.int .i64 s.c.token) := (cell_of_row _ _ 6 _ _ _ hq2).trans rfl; have c7 : W2.cell? ⟨q, 7, none⟩ = some (.slice none 0 0) := (cell_of_row _ _ 7 _ _ _ hq2).trans rfl; have c8 : W2.cell? ⟨q, 8, none⟩ = some (.int .u64 s.c.boot) := (cell_of_row _ _ 8 _ _ _ hq2).trans rfl; have c9 : W2.cell? ⟨q, 9, none⟩ = some (.int .u64 s.c.seq) := (cell_of_row _ _ 9 _ _ _ hq2).trans rfl; have c10 : W2.cell? ⟨q, 10, none⟩ = some (.int .u64 s.c.serial) := (cell_of_row _ _ 10 _ _ _ hq2).trans rfl; have c11 : W2.cell? ⟨q, 11, none⟩ = some (.int .u64 s.c.stamp) := (cell_of_row _ _ 11 _ _ _ hq2).trans rfl
  obtain ⟨g5, hg5⟩ : ∃ z, W2.heap.size = z := ⟨_, rfl⟩
  obtain ⟨W3, hW3⟩ : ∃ z, W2.alloc (.cells (cmA s.c) 58) = z := ⟨_, rfl⟩
  have hb3 : Below W2.heap.size W2 W3 := by rw [← hW3]; exact (Below.refl _ _).alloc (Nat.le_refl _) _
  have hc3 : W3.heap[g5]? = some (.cells (cmA s.c) 58 (0, 0)) := by rw [← hW3, ← hg5]; exact heap_alloc_new _ _
  have hq3 := (hb3.block q (row_lt hq2)).trans hq2
  have ha3 := (hb3.block g3 (row_lt ha2)).trans ha2
  have hth := rthereW hq3
  have hg5q : g5 ≠ q := by have := row_lt hq2; omega
  obtain ⟨W4, hW4⟩ : ∃ z, W3.setCells q 4 (cmA zCm).toList = z := ⟨_, rfl⟩
  have hq4 : W4.heap[q]? = some (.cells (rwA n s.now s.made false zCm (.slice al s.L.length cl)) TX (0, 0)) := by rw [← hW4]; exact rmid8 zCm hq3
  have ha4 : W4.heap[g3]? = some (.cells #[.int .i64 a.code, .int .i64 a.token, .int .u64 a.serial] 60 (0, 0)) := by rw [← hW4, rmidN zCm hgq]; exact ha3
  have hc4 : W4.heap[g5]? = some (.cells (cmA s.c) 58 (0, 0)) := by rw [← hW4, rmidN zCm hg5q]; exact hc3
  have ho4 : Only (fun k => k = q) w W4 := by rw [← hW4]; exact (ho2.trans (Below.only hb3 _)).trans (rmidO zCm rfl)
  have hlq : ∀ k, (Value.slice al s.L.length cl).ownBlock = some k → k ≠ q := own_ty h.l h.row (by decide)
  obtain ⟨W5, hW5⟩ : ∃ z, W4.drew = z := ⟨_, rfl⟩
  have HR0 : Hid (RwG q n (⟨s.now, 0, zCm, s.L⟩ : Wa) s.made (.slice al s.L.length cl) W5 S ∧ W5.heap[g3]? = some (.cells #[.int .i64 a.code, .int .i64 a.token, .int .u64 a.serial] 60 (0, 0)) ∧ W5.heap[g5]? = some (.cells (cmA s.c) 58 (0, 0))) := Lib.hid (by
    rw [← hW5]
    exact ⟨⟨hq4, h.sq, fun e => absurd rfl e, h.srt, h.wf, own_keep h.l (fun k hk hl => only_at ho4 hl (hlq k hk)), h.hs, fun k hk => Nat.lt_of_lt_of_le (h.low k hk) ho4.2.2.2.1⟩, ha4, hc4⟩)
  have HO5 : Hid (Only S w W5) := Lib.hid (by rw [← hW5]; exact ho4.mono (fun k hk => hk ▸ h.sq))
  have HR5 : Hid (∀ w', Below W5.heap.size W5 w' → RwG q n (⟨s.now, 0, zCm, s.L⟩ : Wa) s.made (.slice al s.L.length cl) w' S ∧ w'.heap[g3]? = some (.cells #[.int .i64 a.code, .int .i64 a.token, .int .u64 a.serial] 60 (0, 0)) ∧ w'.heap[g5]? = some (.cells (cmA s.c) 58 (0, 0))) := Lib.hid (fun w' hb => ⟨HR0.out.1.keep (fun k hk => hb.block k (HR0.out.1.low k hk)) hb.size, (hb.block g3 (row_lt HR0.out.2.1)).trans HR0.out.2.1, (hb.block g5 (row_lt HR0.out.2.2)).trans HR0.out.2.2⟩)
  have HC5 : Hid (W4.drew.cell? ⟨q, 2, none⟩ = some (.int .i64 s.made) ∧ W4.drew.cell? ⟨q, 0, none⟩ = some (.int .i64 n)) := Lib.hid ⟨(cell_of_row W4 _ 2 _ _ _ hq4).trans rfl, (cell_of_row W4 _ 0 _ _ _ hq4).trans rfl⟩
  obtain ⟨u, hu⟩ : ∃ z, s.made + n = z := ⟨_, rfl⟩
  have HU : Hid (untilV n s = u) := Lib.hid hu
  have HWR : Hid (IntKind.i64.wrap (s.made + n) = u) := Lib.hid (by
    rw [← hu]
    have := ht.2
    rw [IntKind.wrap_i64]; omega)
  have HUB : Hid (0 ≤ u ∧ u ≤ 4611686019501129728) := Lib.hid (by have := ht.2; omega)
  have HN := Lib.hid hn
  have HA := Lib.hid ha
  have HSR := Lib.hid h.srt
  have HWF := Lib.hid h.wf
  clear hk hb1 hr1 h1 hql hgq hq2 ha2 ho2 hb3 hc3 hq3 ha3 hg5q hq4 ha4 hc4 ho4 hlq hu hn ha ht hnn h
  go_enter Try.func31, Try.ntmps31
  go_upto_region 6 with (first | rw [hW1, hg3] | rw [hW2] | rw [hW3, hg5] | (refine wpList_store_mid rfl 58 (.tmp 24) (.tmp 22) rfl q 4 (cmA zCm) rfl rfl hth (by kernel_rfl) (cmA_one zCm) ?_; rw [hW4]))
  clear e3 f3 c4 c5 c6 c7 c8 c9 c10 c11 hth hW1 hW2 hW3 hW4
  refine Wl.start 999 (fun _ => True) (fun v => v.cell? ⟨q, 2, none⟩ = some (.int .i64 s.made) ∧ v.cell? ⟨q, 0, none⟩ = some (.int .i64 n)) (by kernel_rfl) trivial HC5.out (fun hk => ?_)
  refine Wl.take0 (i := 0) (v := .pointer (some ⟨q, 0, none⟩)) rfl (by kernel_rfl) (by kernel_rfl) (by kernel_rfl) (by kernel_rfl) (fun _ _ _ h => h) (.inl ⟨by kernel_rfl, ?_⟩) hk ?_
  · intro wx hSw
    clear hSw hk
    go_simp
    try first | with_reducible rfl | kernel_rfl
  simp only [Act.put, List.getElem_toArray, List.getElem_cons_succ, List.getElem_cons_zero, List.setIfInBounds_toArray, List.set_cons_succ, List.set_cons_zero]
  refine Wl.take0 (i := 1) (v := .pointer (some ⟨q, 0, none⟩)) rfl (by kernel_rfl) (by kernel_rfl) (by kernel_rfl) (by kernel_rfl) (fun _ _ _ h => h) (.inl ⟨by kernel_rfl, ?_⟩) hk ?_
  · intro wx hSw
    clear hSw hk
    go_simp
    try first | with_reducible rfl | kernel_rfl
  simp only [Act.put, List.getElem_toArray, List.getElem_cons_succ, List.getElem_cons_zero, List.setIfInBounds_toArray, List.set_cons_succ, List.set_cons_zero]
  refine Wl.take0 (i := 2) (v := .pointer (some ⟨q, 2, none⟩)) rfl (by kernel_rfl) (by kernel_rfl) (by kernel_rfl) (by kernel_rfl) (fun _ _ _ h => h) (.inl ⟨by kernel_rfl, ?_⟩) hk ?_
  · intro wx hSw
    clear hSw hk
    go_simp
    try first | with_reducible rfl | kernel_rfl
  simp only [Act.put, List.getElem_toArray, List.getElem_cons_succ, List.getElem_cons_zero, List.setIfInBounds_toArray, List.set_cons_succ, List.set_cons_zero]
  refine Wl.take0 (i := 3) (v := .int .i64 s.made) rfl (by kernel_rfl) (by kernel_rfl) (by kernel_rfl) (by kernel_rfl) (fun _ _ _ h => h) (.inl ⟨by kernel_rfl, ?_⟩) hk ?_
  · intro wx hSw
    have cc := hSw.1
    clear hSw hk
    go_simp
    try first | with_reducible rfl | kernel_rfl
  simp only [Act.put, List.getElem_toArray, List.getElem_cons_succ, List.getElem_cons_zero, List.setIfInBounds_toArray, List.set_cons_succ, List.set_cons_zero]
  refine Wl.take0 (i := 4) (v := .pointer (some ⟨q, 0, none⟩)) rfl (by kernel_rfl) (by kernel_rfl) (by kernel_rfl) (by kernel_rfl) (fun _ _ _ h => h) (.inl ⟨by kernel_rfl, ?_⟩) hk ?_
  · intro wx hSw
    clear hSw hk
    go_simp
    try first | with_reducible rfl | kernel_rfl
  simp only [Act.put, List.getElem_toArray, List.getElem_cons_succ, List.getElem_cons_zero, List.setIfInBounds_toArray, List.set_cons_succ, List.set_cons_zero]
  refine Wl.take0 (i := 5) (v := .pointer (some ⟨q, 0, none⟩)) rfl (by kernel_rfl) (by kernel_rfl) (by kernel_rfl) (by kernel_rfl) (fun _ _ _ h => h) (.inl ⟨by kernel_rfl, ?_⟩) hk ?_
  · intro wx hSw
    clear hSw hk
    go_simp
    try first | with_reducible rfl | kernel_rfl
  simp only [Act.put, List.getElem_toArray, List.getElem_cons_succ, List.getElem_cons_zero, List.setIfInBounds_toArray, List.set_cons_succ, List.set_cons_zero]
  refine Wl.take0 (i := 6) (v := .pointer (some ⟨q, 0, none⟩)) rfl (by kernel_rfl) (by kernel_rfl) (by kernel_rfl) (by kernel_rfl) (fun _ _ _ h => h) (.inl ⟨by kernel_rfl, ?_⟩) hk ?_
  · intro wx hSw
    clear hSw hk
    go_simp
    try first | with_reducible rfl | kernel_rfl
  simp only [Act.put, List.getElem_toArray, List.getElem_cons_succ, List.getElem_cons_zero, List.setIfInBounds_toArray, List.set_cons_succ, List.set_cons_zero]
  refine Wl.take0 (i := 7) (v := .int .i64 n) rfl (by kernel_rfl) (by kernel_rfl) (by kernel_rfl) (by kernel_rfl) (fun _ _ _ h => h) (.inl ⟨by kernel_rfl, ?_⟩) hk ?_
  · intro wx hSw
    have cc := hSw.2
    clear hSw hk
    go_simp
    try first | with_reducible rfl | kernel_rfl
  simp only [Act.put, List.getElem_toArray, List.getElem_cons_succ, List.getElem_cons_zero, List.setIfInBounds_toArray, List.set_cons_succ, List.set_cons_zero]
  refine Wl.take0 (i := 8) (v := .int .i64 u) rfl (by kernel_rfl) (by kernel_rfl) (by kernel_rfl) (by kernel_rfl) (fun _ _ _ h => h) (.inl ⟨by kernel_rfl, ?_⟩) hk ?_
  · intro wx hSw
    have cc := HWR.out
    clear hSw hk
    go_simp
    try first | with_reducible rfl | kernel_rfl
  simp only [Act.put, List.getElem_toArray, List.getElem_cons_succ, List.getElem_cons_zero, List.setIfInBounds_toArray, List.set_cons_succ, List.set_cons_zero]
  refine Wl.take0 (i := 9) (v := .int .i64 u) rfl (by kernel_rfl) (by kernel_rfl) (by kernel_rfl) (by kernel_rfl) (fun _ _ _ h => h) (.inl ⟨by kernel_rfl, ?_⟩) hk ?_
  · intro wx hSw
    clear hSw hk
    go_simp
    try first | with_reducible rfl | kernel_rfl
  simp only [Act.put, List.getElem_toArray, List.getElem_cons_succ, List.getElem_cons_zero, List.setIfInBounds_toArray, List.set_cons_succ, List.set_cons_zero]
  refine Wl.done (by kernel_rfl) ?_ _
  clear hk
  rw [hW5]
  clear hW5
  have a0 : W5.cell? ⟨g3, 0, none⟩ = some (.int .i64 a.code) := (cell_of_row _ _ 0 _ _ _ HR0.out.2.1).trans rfl
  have a1 : W5.cell? ⟨g3, 1, none⟩ = some (.int .i64 a.token) := (cell_of_row _ _ 1 _ _ _ HR0.out.2.1).trans rfl
  have a2 : W5.cell? ⟨g3, 2, none⟩ = some (.int .u64 a.serial) := (cell_of_row _ _ 2 _ _ _ HR0.out.2.1).trans rfl
  have q0 : W5.cell? ⟨g5, 0, none⟩ = some (.int .i64 s.c.kind) := (cell_of_row _ _ 0 _ _ _ HR0.out.2.2).trans rfl
  have q2 : W5.cell? ⟨g5, 2, none⟩ = some (.int .i64 s.c.token) := (cell_of_row _ _ 2 _ _ _ HR0.out.2.2).trans rfl
  have q6 : W5.cell? ⟨g5, 6, none⟩ = some (.int .u64 s.c.serial) := (cell_of_row _ _ 6 _ _ _ HR0.out.2.2).trans rfl
  have p1 : W5.cell? ⟨q, 1, none⟩ = some (.int .i64 s.now) := (cell_of_row _ _ 1 _ _ _ HR0.out.1.row).trans rfl
  by_cases hk3 : s.c.kind = 3
  · have k3 : (s.c.kind == 3) = true := beq_iff_eq.2 (by omega)
    have k4 : (s.c.kind == 4) = false := beq_eq_false_iff_ne.2 (by omega)
    have k5 : (s.c.kind == 5) = false := beq_eq_false_iff_ne.2 (by omega)
    by_cases hc1 : a.code = 1
    · have o1 : (a.code == 1) = true := beq_iff_eq.2 (by omega)
      by_cases hlt : s.now < u
      · have HFIN : Hid (toldV n s a = (⟨s.now, 0, zCm, wiV ⟨a.token, a.serial, u⟩ s.L⟩ : Wa)) := Lib.hid (by
          unfold toldV
          rw [if_neg HK0.out]
          congr 1
          unfold toldL
          rw [HU.out]
          rw [if_pos hk3]
          exact if_pos ⟨hc1, hlt⟩)
        go_wp2_with fail
        refine (rwi_any ⟨a.token, a.serial, u⟩ W5 ⟨_, _, HR0.out.1⟩ HN.out).mono ?_
        rintro e w6 ⟨v, rfl, ho, hb⟩
        obtain ⟨av, cv, rfl⟩ := own_slice ho
        have h5 := (HR5.out W5 (Below.refl _ _)).1
        have hr6 := (hb.block q (row_lt h5.row)).trans h5.row
        have e12 : w6.cell? ⟨q, 12, none⟩ = some (.slice al s.L.length cl) := (cell_of_row _ _ 12 _ _ _ hr6).trans rfl
        have f12 : w6.frozen? ⟨q, 12, none⟩ = false := frozen_of_row w6 _ _ _ _ hr6
        obtain ⟨W7, hW7⟩ : ∃ z, w6.setCell ⟨q, 12, none⟩ (.slice av (wiV ⟨a.token, a.serial, u⟩ s.L).length cv) = z := ⟨_, rfl⟩
        have HF : Hid (Mc.Left (RwX q n (⟨s.now, 0, zCm, wiV ⟨a.token, a.serial, u⟩ s.L⟩ : Wa)) S w W7) := Lib.hid (by rw [← hW7]; exact Mc.Left.step (HO5.out.trans (Below.only ((Below.refl _ _)) S)) (fun k hk => .inl hk) (h5.setl hb ho (HSR.out.wi _) (fun x hx => by
              rcases mem_wi.1 hx with rfl | hx
              · exact ⟨HA.out.1, HA.out.2, La.wf_i64 (by have := HUB.out; dsimp only; omega) (by have := HUB.out; dsimp only; omega)⟩
              · exact HWF.out x hx.1)))
        clear ho hb h5 hr6
        go_wp2_with (first | rw [hW7])
        go_ret
        exact ⟨by rw [HTE.out]; rfl, by rw [HFIN.out]; exact HF.out⟩
      · have HFIN : Hid (toldV n s a = (⟨s.now, 0, zCm, s.L⟩ : Wa)) := Lib.hid (by
          unfold toldV
          rw [if_neg HK0.out]
          congr 1
          unfold toldL
          rw [HU.out]
          rw [if_pos hk3]
          exact if_neg (fun h => hlt h.2))
        go_wp2
        go_ret
        exact ⟨by rw [HTE.out]; rfl, by rw [HFIN.out]; exact Mc.Left.mk (goodR q n _) ⟨_, _, (HR5.out W5 (Below.refl _ _)).1⟩ (HO5.out.trans (Below.only ((Below.refl _ _)) S))⟩
    · have o1 : (a.code == 1) = false := beq_eq_false_iff_ne.2 (by omega)
      have HFIN : Hid (toldV n s a = (⟨s.now, 0, zCm, s.L⟩ : Wa)) := Lib.hid (by
        unfold toldV
        rw [if_neg HK0.out]
        congr 1
        unfold toldL
        rw [HU.out]
        rw [if_pos hk3]
        exact if_neg (fun h => hc1 h.1))
      go_wp2
      go_ret
      exact ⟨by rw [HTE.out]; rfl, by rw [HFIN.out]; exact Mc.Left.mk (goodR q n _) ⟨_, _, (HR5.out W5 (Below.refl _ _)).1⟩ (HO5.out.trans (Below.only ((Below.refl _ _)) S))⟩
  have k3 : (s.c.kind == 3) = false := beq_eq_false_iff_ne.2 hk3
  have c12 : W5.cell? ⟨q, 12, none⟩ = some (.slice al s.L.length cl) := (cell_of_row _ _ 12 _ _ _ HR0.out.1.row).trans rfl
  have hlm : (s.L.length : Int) ≤ 1000 := by have := HN.out; omega
  have HS5 : Hid (∀ wr, Below W5.heap.size W5 wr → SlR 3 trC wr (.slice al s.L.length cl) s.L) := Lib.hid (fun wr hb => (HR5.out wr hb).1.l.sl trC_len)
  go_wp2_with fail
  clear c12 a0 a1 a2 q0 q2 q6 p1
  go_loopw [64] (fun i wr => ∃ (j : Nat), j ≤ s.L.length ∧ i = .int .i64 (j : Int) ∧ Hid ((∀ x ∈ s.L.take j, ¬ (x.tok = s.c.token ∧ x.ser = s.c.serial)) ∧ Below W5.heap.size W5 wr)) (fun i _ => s.L.length - (intOf i).toNat)
  case atStart => exact ⟨0, Nat.zero_le _, rfl, Lib.hid ⟨fun x hx => absurd hx List.not_mem_nil, Below.refl _ _⟩⟩
  case round =>
    obtain ⟨j, hj, rfl, HR⟩ := hrel
    by_cases hlt : j < s.L.length
    · have hlti : (j : Int) < (s.L.length : Int) := by omega
      obtain ⟨x, hx⟩ : ∃ x, s.L[j]? = some x := ⟨_, List.getElem?_eq_getElem hlt⟩
      obtain ⟨b0, off, rfl, y0, y1, y2⟩ : ∃ b off, al = some ⟨b, off, none⟩ ∧ wr.cell? ⟨b, off + j * 3, none⟩ = some (.int .i64 x.tok) ∧ wr.cell? ⟨b, off + j * 3 + 1, none⟩ = some (.int .u64 x.ser) ∧ wr.cell? ⟨b, off + j * 3 + 2, none⟩ = some (.int .i64 x.til) := by
        rcases SlR.cases (HS5.out wr HR.out.2) with ⟨a9, c9, e, hnil⟩ | ⟨b, off, c9, e, -, -, -, -, hc⟩
        · rw [hnil] at hx; simp at hx
        · simp only [Value.slice.injEq] at e
          exact ⟨b, off, e.1, tr_cells (hc j _ hx)⟩
      obtain ⟨g2, hg2⟩ : ∃ z, wr.heap.size = z := ⟨_, rfl⟩
      obtain ⟨W6, hW6⟩ : ∃ z, wr.alloc (.cells #[.int .i64 x.tok, .int .u64 x.ser, .int .i64 x.til] TXT) = z := ⟨_, rfl⟩
      have hr6 : W6.heap[g2]? = some (.cells #[.int .i64 x.tok, .int .u64 x.ser, .int .i64 x.til] TXT (0, 0)) := by rw [← hW6, ← hg2]; exact heap_alloc_new _ _
      have HB6 : Hid (Below W5.heap.size W5 W6) := Lib.hid (by rw [← hW6]; exact HR.out.2.alloc HR.out.2.size _)
      have HG2 : Hid (W6.heap[g2]? = some (.cells #[.int .i64 x.tok, .int .u64 x.ser, .int .i64 x.til] TXT (0, 0)) ∧ W5.heap.size ≤ g2) := Lib.hid ⟨hr6, by rw [← hg2]; exact HR.out.2.size⟩
      have d0 : W6.cell? ⟨g2, 0, none⟩ = some (.int .i64 x.tok) := (cell_of_row _ _ 0 _ _ _ hr6).trans rfl
      have d1 : W6.cell? ⟨g2, 1, none⟩ = some (.int .u64 x.ser) := (cell_of_row _ _ 1 _ _ _ hr6).trans rfl
      have d2 : W6.cell? ⟨g2, 2, none⟩ = some (.int .i64 x.til) := (cell_of_row _ _ 2 _ _ _ hr6).trans rfl
      have a0 : W6.cell? ⟨g3, 0, none⟩ = some (.int .i64 a.code) := (cell_of_row _ _ 0 _ _ _ (HR5.out W6 HB6.out).2.1).trans rfl
      have a1 : W6.cell? ⟨g3, 1, none⟩ = some (.int .i64 a.token) := (cell_of_row _ _ 1 _ _ _ (HR5.out W6 HB6.out).2.1).trans rfl
      have a2 : W6.cell? ⟨g3, 2, none⟩ = some (.int .u64 a.serial) := (cell_of_row _ _ 2 _ _ _ (HR5.out W6 HB6.out).2.1).trans rfl
      have q0 : W6.cell? ⟨g5, 0, none⟩ = some (.int .i64 s.c.kind) := (cell_of_row _ _ 0 _ _ _ (HR5.out W6 HB6.out).2.2).trans rfl
      have q2 : W6.cell? ⟨g5, 2, none⟩ = some (.int .i64 s.c.token) := (cell_of_row _ _ 2 _ _ _ (HR5.out W6 HB6.out).2.2).trans rfl
      have q6 : W6.cell? ⟨g5, 6, none⟩ = some (.int .u64 s.c.serial) := (cell_of_row _ _ 6 _ _ _ (HR5.out W6 HB6.out).2.2).trans rfl
      have HST : Hid (¬ (x.tok = s.c.token ∧ x.ser = s.c.serial) → (∀ y ∈ s.L.take (j + 1), ¬ (y.tok = s.c.token ∧ y.ser = s.c.serial))) := Lib.hid (fun hno y hy => by
        rw [(parts hx).1] at hy
        rcases List.mem_append.1 hy with hy | hy
        · exact HR.out.1 y hy
        · rw [List.mem_singleton.1 hy]; exact hno)
      have HXM := Lib.hid (List.mem_of_getElem? hx)
      clear hr6 hx HR
      by_cases htk : x.tok = s.c.token
      · have tb : (x.tok != s.c.token) = false := by rw [htk]; exact bne_self_eq_false _
        by_cases hsr : x.ser = s.c.serial
        · have sb : (x.ser != s.c.serial) = false := by rw [hsr]; exact bne_self_eq_false _
          have HFD : Hid (fnd s.L s.c.token = some x) := Lib.hid ((fnd_iff HSR.out).2 ⟨HXM.out, htk⟩)
          have HTK := Lib.hid htk
          have HRS := Lib.hid hsr
          clear htk hsr HST
          by_cases hk4 : s.c.kind = 4
          · have k4 : (s.c.kind == 4) = true := beq_iff_eq.2 (by omega)
            have k5 : (s.c.kind == 5) = false := beq_eq_false_iff_ne.2 (by omega)
            by_cases hc3 : a.code = 3
            · have o3 : (a.code == 3) = true := beq_iff_eq.2 (by omega)
              have HFIN : Hid (toldV n s a = (⟨s.now, 0, zCm, wiV ⟨x.tok, x.ser, max x.til u⟩ s.L⟩ : Wa)) := Lib.hid (by
                unfold toldV
                rw [if_neg HK0.out]
                congr 1
                unfold toldL
                rw [HU.out]
                rw [if_neg hk3, HFD.out]
                refine (if_pos HRS.out).trans ?_
                exact if_pos ⟨hk4, hc3⟩)
              have ft2 : W6.frozen? ⟨g2, 2, none⟩ = false := frozen_of_row W6 _ _ _ _ HG2.out.1
              obtain ⟨W9, hW9⟩ : ∃ z, W6.setCell ⟨g2, 2, none⟩ (.int .i64 (max x.til u)) = z := ⟨_, rfl⟩
              have hr9 : W9.heap[g2]? = some (.cells #[.int .i64 x.tok, .int .u64 x.ser, .int .i64 (max x.til u)] TXT (0, 0)) := by rw [← hW9]; exact (heap_setCell_same W6 g2 2 _ TXT _ HG2.out.1).trans rfl
              have HB9 : Hid (Below W5.heap.size W5 W9) := Lib.hid (by rw [← hW9]; exact HB6.out.setCell (p := ⟨g2, 2, none⟩) HG2.out.2 _)
              have z0 : W9.cell? ⟨g2, 0, none⟩ = some (.int .i64 x.tok) := (cell_of_row _ _ 0 _ _ _ hr9).trans rfl
              have z1 : W9.cell? ⟨g2, 1, none⟩ = some (.int .u64 x.ser) := (cell_of_row _ _ 1 _ _ _ hr9).trans rfl
              have z2 : W9.cell? ⟨g2, 2, none⟩ = some (.int .i64 (max x.til u)) := (cell_of_row _ _ 2 _ _ _ hr9).trans rfl
              have HWX := Lib.hid (HWF.out x HXM.out)
              have HBD := Lib.hid (bounds_i64 HWX.out.2.2)
              clear hr9
              go_upto_region 17 with (first | rw [hW6, hg2] | rw [hW9])
              clear y0 y1 y2 d0 d1 d2 a0 a1 a2 q0 q2 q6 ft2 hW6 hg2 hW9
              go_wp2_with fail
              refine (rwi_any ⟨x.tok, x.ser, max x.til u⟩ W9 ⟨_, _, (HR5.out W9 HB9.out).1⟩ HN.out).mono ?_
              rintro e w6 ⟨v, rfl, ho, hb⟩
              obtain ⟨av, cv, rfl⟩ := own_slice ho
              have h5 := (HR5.out W9 HB9.out).1
              have hr6 := (hb.block q (row_lt h5.row)).trans h5.row
              have e12 : w6.cell? ⟨q, 12, none⟩ = some (.slice (some ⟨b0, off, none⟩) s.L.length cl) := (cell_of_row _ _ 12 _ _ _ hr6).trans rfl
              have f12 : w6.frozen? ⟨q, 12, none⟩ = false := frozen_of_row w6 _ _ _ _ hr6
              obtain ⟨W7, hW7⟩ : ∃ z, w6.setCell ⟨q, 12, none⟩ (.slice av (wiV ⟨x.tok, x.ser, max x.til u⟩ s.L).length cv) = z := ⟨_, rfl⟩
              have HF : Hid (Mc.Left (RwX q n (⟨s.now, 0, zCm, wiV ⟨x.tok, x.ser, max x.til u⟩ s.L⟩ : Wa)) S w W7) := Lib.hid (by rw [← hW7]; exact Mc.Left.step (HO5.out.trans (Below.only (HB9.out) S)) (fun k hk => .inl hk) (h5.setl hb ho (HSR.out.wi _) (fun y hy => by
                    rcases mem_wi.1 hy with rfl | hy
                    · exact ⟨HWX.out.1, HWX.out.2.1, La.wf_i64 (by have := HUB.out; have := HBD.out; dsimp only; omega) (by have := HUB.out; have := HBD.out; dsimp only; omega)⟩
                    · exact HWF.out y hy.1)))
              clear ho hb h5 hr6
              go_wp2_with (first | rw [hW7])
              go_ret
              exact ⟨by rw [HTE.out]; rfl, by rw [HFIN.out]; exact HF.out⟩
            by_cases hc4 : a.code = 4
            · have o3 : (a.code == 3) = false := beq_eq_false_iff_ne.2 (by omega)
              have o4 : (a.code == 4) = true := beq_iff_eq.2 (by omega)
              have HFIN : Hid (toldV n s a = (⟨s.now, 0, zCm, woV s.c.token s.L⟩ : Wa)) := Lib.hid (by
                unfold toldV
                rw [if_neg HK0.out]
                congr 1
                unfold toldL
                rw [HU.out]
                rw [if_neg hk3, HFD.out]
                refine (if_pos HRS.out).trans ?_
                rw [if_neg (fun h => hc3 h.2)]
                exact if_pos (.inl ⟨hk4, hc4⟩))
              go_upto_region 20 with (first | rw [hW6, hg2])
              clear y0 y1 y2 d0 d1 d2 hW6 hg2
              go_wp2_with fail
              refine (rwo_any s.c.token W6 ⟨_, _, (HR5.out W6 HB6.out).1⟩ HN.out).mono ?_
              rintro e w6 ⟨v, rfl, ho, hb⟩
              obtain ⟨av, cv, rfl⟩ := own_slice ho
              have h5 := (HR5.out W6 HB6.out).1
              have hr6 := (hb.block q (row_lt h5.row)).trans h5.row
              have e12 : w6.cell? ⟨q, 12, none⟩ = some (.slice (some ⟨b0, off, none⟩) s.L.length cl) := (cell_of_row _ _ 12 _ _ _ hr6).trans rfl
              have f12 : w6.frozen? ⟨q, 12, none⟩ = false := frozen_of_row w6 _ _ _ _ hr6
              obtain ⟨W7, hW7⟩ : ∃ z, w6.setCell ⟨q, 12, none⟩ (.slice av (woV s.c.token s.L).length cv) = z := ⟨_, rfl⟩
              have HF : Hid (Mc.Left (RwX q n (⟨s.now, 0, zCm, woV s.c.token s.L⟩ : Wa)) S w W7) := Lib.hid (by rw [← hW7]; exact Mc.Left.step (HO5.out.trans (Below.only (HB6.out) S)) (fun k hk => .inl hk) (h5.setl hb ho (HSR.out.wo _) (fun y hy => HWF.out y (mem_wo.1 hy).1)))
              clear ho hb h5 hr6
              go_wp2_with (first | rw [hW7])
              go_ret
              exact ⟨by rw [HTE.out]; rfl, by rw [HFIN.out]; exact HF.out⟩
            · have o3 : (a.code == 3) = false := beq_eq_false_iff_ne.2 (by omega)
              have o4 : (a.code == 4) = false := beq_eq_false_iff_ne.2 (by omega)
              have HFIN : Hid (toldV n s a = (⟨s.now, 0, zCm, s.L⟩ : Wa)) := Lib.hid (by
                unfold toldV
                rw [if_neg HK0.out]
                congr 1
                unfold toldL
                rw [HU.out]
                rw [if_neg hk3, HFD.out]
                refine (if_pos HRS.out).trans ?_
                rw [if_neg (fun h => hc3 h.2)]
                exact if_neg (fun h => h.elim (fun h => hc4 h.2) (fun h => absurd h.1 (by omega))))
              go_upto_region 21 with (first | rw [hW6, hg2])
              clear y0 y1 y2 d0 d1 d2 hW6 hg2
              go_wp2
              go_ret
              exact ⟨by rw [HTE.out]; rfl, by rw [HFIN.out]; exact Mc.Left.mk (goodR q n _) ⟨_, _, (HR5.out W6 HB6.out).1⟩ (HO5.out.trans (Below.only (HB6.out) S))⟩
          by_cases hk5 : s.c.kind = 5
          · have k4 : (s.c.kind == 4) = false := beq_eq_false_iff_ne.2 (by omega)
            have k5 : (s.c.kind == 5) = true := beq_iff_eq.2 (by omega)
            by_cases hc5 : a.code = 5
            · have o5 : (a.code == 5) = true := beq_iff_eq.2 (by omega)
              have HFIN : Hid (toldV n s a = (⟨s.now, 0, zCm, woV s.c.token s.L⟩ : Wa)) := Lib.hid (by
                unfold toldV
                rw [if_neg HK0.out]
                congr 1
                unfold toldL
                rw [HU.out]
                rw [if_neg hk3, HFD.out]
                refine (if_pos HRS.out).trans ?_
                rw [if_neg (fun h => hk4 h.1)]
                exact if_pos (.inr ⟨hk5, hc5⟩))
              go_upto_region 20 with (first | rw [hW6, hg2])
              clear y0 y1 y2 d0 d1 d2 hW6 hg2
              go_wp2_with fail
              refine (rwo_any s.c.token W6 ⟨_, _, (HR5.out W6 HB6.out).1⟩ HN.out).mono ?_
              rintro e w6 ⟨v, rfl, ho, hb⟩
              obtain ⟨av, cv, rfl⟩ := own_slice ho
              have h5 := (HR5.out W6 HB6.out).1
              have hr6 := (hb.block q (row_lt h5.row)).trans h5.row
              have e12 : w6.cell? ⟨q, 12, none⟩ = some (.slice (some ⟨b0, off, none⟩) s.L.length cl) := (cell_of_row _ _ 12 _ _ _ hr6).trans rfl
              have f12 : w6.frozen? ⟨q, 12, none⟩ = false := frozen_of_row w6 _ _ _ _ hr6
              obtain ⟨W7, hW7⟩ : ∃ z, w6.setCell ⟨q, 12, none⟩ (.slice av (woV s.c.token s.L).length cv) = z := ⟨_, rfl⟩
              have HF : Hid (Mc.Left (RwX q n (⟨s.now, 0, zCm, woV s.c.token s.L⟩ : Wa)) S w W7) := Lib.hid (by rw [← hW7]; exact Mc.Left.step (HO5.out.trans (Below.only (HB6.out) S)) (fun k hk => .inl hk) (h5.setl hb ho (HSR.out.wo _) (fun y hy => HWF.out y (mem_wo.1 hy).1)))
              clear ho hb h5 hr6
              go_wp2_with (first | rw [hW7])
              go_ret
              exact ⟨by rw [HTE.out]; rfl, by rw [HFIN.out]; exact HF.out⟩
            · have o5 : (a.code == 5) = false := beq_eq_false_iff_ne.2 (by omega)
              have HFIN : Hid (toldV n s a = (⟨s.now, 0, zCm, s.L⟩ : Wa)) := Lib.hid (by
                unfold toldV
                rw [if_neg HK0.out]
                congr 1
                unfold toldL
                rw [HU.out]
                rw [if_neg hk3, HFD.out]
                refine (if_pos HRS.out).trans ?_
                rw [if_neg (fun h => hk4 h.1)]
                exact if_neg (fun h => h.elim (fun h => hk4 h.1) (fun h => hc5 h.2)))
              go_upto_region 21 with (first | rw [hW6, hg2])
              clear y0 y1 y2 d0 d1 d2 hW6 hg2
              go_wp2
              go_ret
              exact ⟨by rw [HTE.out]; rfl, by rw [HFIN.out]; exact Mc.Left.mk (goodR q n _) ⟨_, _, (HR5.out W6 HB6.out).1⟩ (HO5.out.trans (Below.only (HB6.out) S))⟩
          · have k4 : (s.c.kind == 4) = false := beq_eq_false_iff_ne.2 (by omega)
            have k5 : (s.c.kind == 5) = false := beq_eq_false_iff_ne.2 (by omega)
            have HFIN : Hid (toldV n s a = (⟨s.now, 0, zCm, s.L⟩ : Wa)) := Lib.hid (by
              unfold toldV
              rw [if_neg HK0.out]
              congr 1
              unfold toldL
              rw [HU.out]
              rw [if_neg hk3, HFD.out]
              refine (if_pos HRS.out).trans ?_
              rw [if_neg (fun h => hk4 h.1)]
              exact if_neg (fun h => h.elim (fun h => hk4 h.1) (fun h => hk5 h.1)))
            go_upto_region 21 with (first | rw [hW6, hg2])
            clear y0 y1 y2 d0 d1 d2 hW6 hg2
            go_wp2
            go_ret
            exact ⟨by rw [HTE.out]; rfl, by rw [HFIN.out]; exact Mc.Left.mk (goodR q n _) ⟨_, _, (HR5.out W6 HB6.out).1⟩ (HO5.out.trans (Below.only (HB6.out) S))⟩
        · have sb : (x.ser != s.c.serial) = true := bne_iff_ne.2 hsr
          have HRL : Hid ((∀ x ∈ s.L.take (j + 1), ¬ (x.tok = s.c.token ∧ x.ser = s.c.serial)) ∧ Below W5.heap.size W5 W6) := Lib.hid ⟨HST.out (fun h => hsr h.2), HB6.out⟩
          clear htk hsr HST
          go_wp2_with (first | rw [hW6, hg2])
          go_roundw
          case rel => exact ⟨j + 1, by omega, by go_num, HRL⟩
          case measure => simp [intOf]; omega
      · have tb : (x.tok != s.c.token) = true := bne_iff_ne.2 htk
        have HRL : Hid ((∀ x ∈ s.L.take (j + 1), ¬ (x.tok = s.c.token ∧ x.ser = s.c.serial)) ∧ Below W5.heap.size W5 W6) := Lib.hid ⟨HST.out (fun h => htk h.1), HB6.out⟩
        clear htk HST
        go_wp2_with (first | rw [hW6, hg2])
        go_roundw
        case rel => exact ⟨j + 1, by omega, by go_num, HRL⟩
        case measure => simp [intOf]; omega
    · obtain rfl : j = s.L.length := by omega
      have HFIN : Hid (toldV n s a = (⟨s.now, 0, zCm, s.L⟩ : Wa)) := Lib.hid (by
        unfold toldV
        rw [if_neg HK0.out]
        congr 1
        unfold toldL
        rw [HU.out, if_neg hk3]
        cases hf : fnd s.L s.c.token with
        | none => rfl
        | some y =>
          have hy := (fnd_iff HSR.out).1 hf
          exact if_neg (fun e => HR.out.1 y (by rw [List.take_length]; exact hy.1) ⟨hy.2, e⟩))
      have HBE := Lib.hid HR.out.2
      clear HR
      go_wp2
      go_ret
      exact ⟨by rw [HTE.out]; rfl, by rw [HFIN.out]; exact Mc.Left.mk (goodR q n _) ⟨_, _, (HR5.out wr HBE.out).1⟩ (HO5.out.trans (Below.only (HBE.out) S))⟩
end Lt
end Go.Proofs.Ytgbblegcjladaaa
