/- Package lease's wallet, as landed: Told. No condition. -/
import Derived.Test.YtgbblegcjladaaaLu1
import Derived.Test.YtgbblegcjladaaaLsB
import Derived.Test.YtgbblegcjladaaaMcO
import Derived.Test.YtgbblegcjladaaaLaC
namespace Go.Proofs.Ytgbblegcjladaaa
open Go.ChangeShapes Go.WideShapes Go.ChangeAt Go.RowKit Go.Deep Go.Maps Go.ChangeMaps Go.MapKept
set_option linter.unusedVariables false
set_option maxRecDepth 100000
set_option linter.unusedSimpArgs false
namespace Lt
open Mp Mc
variable {w w' : World} {S : Nat → Prop} {p g : Nat} {n : Int} {s : Wa}
theorem look3 (L : List Tr) {t : Int} (ht : okI t) : ∃ (tv : Tr) (hs : Bool), (∀ (w : World) (g : Nat), TrM w g L → (Instr.lookup 116 (.map (some g)) (.int .i64 t) true).run Try.prog w = .ok (.tuple #[trV tv, .bool hs]) w) ∧ ((fnd L t = none ∧ hs = false) ∨ (fnd L t = some tv ∧ hs = true)) := by
  cases hf : fnd L t with
  | none => exact ⟨⟨0, 0, 0⟩, false, fun w g h => by have hlk := h.look2 ht; rw [hf] at hlk; exact hlk, .inl ⟨rfl, rfl⟩⟩
  | some x => exact ⟨x, true, fun w g h => by have hlk := h.look2 ht; rw [hf] at hlk; exact hlk, .inr ⟨rfl, rfl⟩⟩
theorem store3 (x : Tr) {W : World} {r : Nat} {ty : TypeId} {x0 x1 x2 : Value} (h : W.heap[r]? = some (.cells #[x0, x1, x2] ty (0, 0))) :
    ((((W.setCell ⟨r, 0, none⟩ (.int .i64 x.tok)).setCell ⟨r, 1, none⟩ (.int .u64 x.ser)).setCell ⟨r, 2, none⟩ (.int .i64 x.til)).drew.heap[r]? = some (.cells #[.int .i64 x.tok, .int .u64 x.ser, .int .i64 x.til] ty (0, 0))) ∧
    ∀ {B : Nat} {a : World}, B ≤ r → Below B a W → Below B a (((W.setCell ⟨r, 0, none⟩ (.int .i64 x.tok)).setCell ⟨r, 1, none⟩ (.int .u64 x.ser)).setCell ⟨r, 2, none⟩ (.int .i64 x.til)) := by
  have h0 : (W.setCell ⟨r, 0, none⟩ (.int .i64 x.tok)).heap[r]? = some (.cells #[.int .i64 x.tok, x1, x2] ty (0, 0)) := (heap_setCell_same W r 0 _ ty _ h).trans rfl
  have h1 : ((W.setCell ⟨r, 0, none⟩ (.int .i64 x.tok)).setCell ⟨r, 1, none⟩ (.int .u64 x.ser)).heap[r]? = some (.cells #[.int .i64 x.tok, .int .u64 x.ser, x2] ty (0, 0)) := (heap_setCell_same _ r 1 _ ty _ h0).trans rfl
  exact ⟨(heap_setCell_same _ r 2 _ ty _ h1).trans rfl, fun hB hb => ((hb.setCell (p := ⟨r, 0, none⟩) hB _).setCell (p := ⟨r, 1, none⟩) hB _).setCell (p := ⟨r, 2, none⟩) hB _⟩
set_option maxRecDepth 100000 in
set_option maxHeartbeats 64000000 in
theorem told_any (a : La.Ans) (w : World) (h : WaX p n s w S) (hn : s.L.length ≤ 1000) (hw : okI s.c.token) (ha : (Lit.int .i64 a.token).wf = true ∧ (Lit.int .u64 a.serial).wf = true) (ht : s.tim) (hnn : 0 ≤ n ∧ n ≤ 1073741824) :
    Calls Try.prog 30 #[.pointer (some ⟨p, 0, none⟩), .agg #[.int .i64 a.code, .int .i64 a.token, .int .u64 a.serial]] w fun e w' => e = .returned (.int .i64 (toldE s)) ∧ Mc.Left (WaX p n (toldV n s a)) S w w' := by
  obtain ⟨g, h⟩ := h
  obtain ⟨g3, hg3⟩ : ∃ z, w.heap.size = z := ⟨_, rfl⟩
  obtain ⟨W1, hW1⟩ : ∃ z, w.alloc (.cells #[.int .i64 a.code, .int .i64 a.token, .int .u64 a.serial] 60) = z := ⟨_, rfl⟩
  have hb1 : Below w.heap.size w W1 := by rw [← hW1]; exact (Below.refl _ _).alloc (Nat.le_refl _) _
  have hr1 : W1.heap[g3]? = some (.cells #[.int .i64 a.code, .int .i64 a.token, .int .u64 a.serial] 60 (0, 0)) := by rw [← hW1, ← hg3]; exact heap_alloc_new _ _
  have H := Lib.hid h
  have H1 := Lib.hid (h.keep (w' := W1) (fun k hk => hb1.block k (h.low k hk)) hb1.size)
  have HB1 := Lib.hid hb1
  have HR1 := Lib.hid hr1
  have HN := Lib.hid hn
  have HWT := Lib.hid hw
  have HA := Lib.hid ha
  have HT := Lib.hid ht
  have HNN := Lib.hid hnn
  have HG3 := Lib.hid hg3
  clear h hb1 hr1 hn hw ha ht hnn
  by_cases hk : s.c.kind = 0
  · have hkb : (s.c.kind != 0) = false := by rw [hk]; rfl
    have HE : Hid (toldE s = 3 ∧ toldV n s a = s) := Lib.hid (by unfold toldE toldV; rw [if_pos hk, if_pos hk]; exact ⟨rfl, rfl⟩)
    go_enter Try.func30, Try.ntmps30
    go_wp2_with (first | rw [hW1, hg3])
    refine (asked_any W1 ⟨g, H1.out⟩).mono ?_
    rintro e w2 ⟨rfl, hb2⟩
    obtain ⟨W3, hW3⟩ : ∃ z, w2.alloc (.cells (cmA s.c) 58) = z := ⟨_, rfl⟩
    have hb3 : Below W1.heap.size W1 W3 := by rw [← hW3]; exact hb2.alloc hb2.size _
    have HB3 := Lib.hid (HB1.out.trans (hb3.mono HB1.out.size))
    clear hb2 hb3 hk
    go_wp2_with (first | rw [hW3])
    go_ret
    exact ⟨by rw [HE.out.1]; rfl, by rw [HE.out.2]; exact Mc.Left.same (goodW p n s) ⟨g, H.out⟩ HB3.out⟩
  have hkb : (s.c.kind != 0) = true := bne_iff_ne.2 hk
  have HK0 := Lib.hid hk
  have HTE : Hid (toldE s = 0) := Lib.hid (by unfold toldE; rw [if_neg hk])
  clear hk
  go_enter Try.func30, Try.ntmps30
  go_wp2_with (first | rw [hW1, hg3])
  refine (asked_any W1 ⟨g, H1.out⟩).mono ?_
  rintro e w2 ⟨rfl, hb2⟩
  obtain ⟨g5, hg5⟩ : ∃ z, w2.heap.size = z := ⟨_, rfl⟩
  obtain ⟨W3, hW3⟩ : ∃ z, w2.alloc (.cells (cmA s.c) 58) = z := ⟨_, rfl⟩
  have hb3 : Below w2.heap.size w2 W3 := by rw [← hW3]; exact (Below.refl _ _).alloc (Nat.le_refl _) _
  have hb13 : Below W1.heap.size W1 W3 := hb2.trans (hb3.mono hb2.size)
  have HB3 := Lib.hid (HB1.out.trans (hb13.mono HB1.out.size))
  have hc3 : W3.heap[g5]? = some (.cells (cmA s.c) 58 (0, 0)) := by rw [← hW3, ← hg5]; exact heap_alloc_new _ _
  have ha3 := (hb13.block g3 (row_lt HR1.out)).trans HR1.out
  have h3 := H.out.keep (w' := W3) (fun k hk => HB3.out.block k (H.out.low k hk)) HB3.out.size
  have hth := thereW h3.row
  obtain ⟨W4, hW4⟩ : ∃ z, W3.setCells p 2 (cmA zCm).toList = z := ⟨_, rfl⟩
  have hp4 : W4.heap[p]? = some (.cells (waA n { s with c := zCm } g) TW (0, 0)) := by rw [← hW4]; exact mid8 zCm h3.row
  have hpl := row_lt H.out.row
  have hgp : g ≠ p := H.out.m.2.2.row_ne H.out.row
  have hgl := H.out.low g H.out.sg
  have hz5 := hb2.size
  have hz1 := row_lt HR1.out
  have n3 : g3 ≠ p := by omega
  have n5 : g5 ≠ p := by omega
  have ha4 : W4.heap[g3]? = some (.cells #[.int .i64 a.code, .int .i64 a.token, .int .u64 a.serial] 60 (0, 0)) := by rw [← hW4, midN zCm n3]; exact ha3
  have hc4 : W4.heap[g5]? = some (.cells (cmA s.c) 58 (0, 0)) := by rw [← hW4, midN zCm n5]; exact hc3
  have hg4 : W4.heap[g]? = W3.heap[g]? := by rw [← hW4, midN zCm hgp]
  have ho4 : Only S w W4 := by rw [← hW4]; exact (Below.only HB3.out S).trans (midO zCm H.out.sp)
  obtain ⟨W6, hW6⟩ : ∃ z, W4.drew.setCell ⟨p, 10, none⟩ (.int .i64 0) = z := ⟨_, rfl⟩
  have hp6 : W6.heap[p]? = some (.cells (waA n (⟨s.now, 0, zCm, s.L⟩ : Wa) g) TW (0, 0)) := by rw [← hW6]; exact (heap_setCell_same W4.drew p 10 _ TW _ hp4).trans rfl
  have ha6 : W6.heap[g3]? = some (.cells #[.int .i64 a.code, .int .i64 a.token, .int .u64 a.serial] 60 (0, 0)) := by rw [← hW6]; exact (heap_setCell_other W4.drew ⟨p, 10, none⟩ g3 _ n3).trans ha4
  have hc6 : W6.heap[g5]? = some (.cells (cmA s.c) 58 (0, 0)) := by rw [← hW6]; exact (heap_setCell_other W4.drew ⟨p, 10, none⟩ g5 _ n5).trans hc4
  have hg6 : W6.heap[g]? = W3.heap[g]? := by rw [← hW6]; exact (heap_setCell_other W4.drew ⟨p, 10, none⟩ g _ hgp).trans hg4
  have ho6 : Only S w W6 := by rw [← hW6]; exact ho4.trans (Only.setCell W4.drew ⟨p, 10, none⟩ _ H.out.sp)
  have hm6 : TrM W6 g s.L := h3.m.block hg6
  have H6 : Hid ((WaG p n (⟨s.now, 0, zCm, s.L⟩ : Wa) g W6 S ∧ Only S w W6) ∧ W6.heap[g3]? = some (.cells #[.int .i64 a.code, .int .i64 a.token, .int .u64 a.serial] 60 (0, 0)) ∧ W6.heap[g5]? = some (.cells (cmA s.c) 58 (0, 0))) := Lib.hid ⟨⟨⟨hp6, H.out.sp, H.out.sg, hm6, fun k hk => Nat.lt_of_lt_of_le (H.out.low k hk) ho6.2.2.2.1⟩, ho6⟩, ha6, hc6⟩
  have l0 : W4.cell? ⟨p, 0, none⟩ = some (.int .i64 n) := (cell_of_row _ _ 0 _ _ _ hp4).trans rfl
  have l10 : W4.cell? ⟨p, 10, none⟩ = some (.int .i64 s.made) := (cell_of_row _ _ 10 _ _ _ hp4).trans rfl
  have f10 : W4.drew.frozen? ⟨p, 10, none⟩ = false := frozen_of_row W4 _ _ _ _ hp4
  have m10 : W4.drew.cell? ⟨p, 10, none⟩ = some (.int .i64 s.made) := l10
  obtain ⟨u, hu⟩ : ∃ z, s.made + n = z := ⟨_, rfl⟩
  have HU : Hid (untilV n s = u) := Lib.hid hu
  have hwr : IntKind.i64.wrap (s.made + n) = u := by
    rw [← hu]
    have := HT.out.2
    have := HNN.out
    rw [IntKind.wrap_i64]; omega
  have HWR := Lib.hid hwr
  have HC5 : Hid (W4.drew.cell? ⟨p, 10, none⟩ = some (.int .i64 s.made) ∧ W4.drew.cell? ⟨p, 0, none⟩ = some (.int .i64 n)) := Lib.hid ⟨l10, l0⟩
  have HPL : Hid (p < g3 ∧ g < g3 ∧ g3 < g5 ∧ g5 < W6.heap.size ∧ g3 = w.heap.size) := Lib.hid ⟨by omega, by omega, by omega, row_lt hc6, hg3.symm⟩
  clear hb2 hb3 hb13 hc3 ha3 h3 hp4 hpl hgp hgl hz5 hz1 n3 n5 ha4 hc4 hg4 ho4 hp6 ha6 hc6 hg6 ho6 hm6 hu
  go_upto_region 5 with (first | rw [hW3, hg5] | (refine wpList_store_mid rfl 58 (.tmp 20) (.tmp 18) rfl p 2 (cmA zCm) rfl rfl hth (by kernel_rfl) (cmA_one zCm) ?_; rw [hW4]))
  clear l0 l10 hwr
  refine Wl.start 999 (fun _ => True) (fun v => v.cell? ⟨p, 10, none⟩ = some (.int .i64 s.made) ∧ v.cell? ⟨p, 0, none⟩ = some (.int .i64 n)) (by kernel_rfl) trivial HC5.out (fun hk => ?_)
  refine Wl.take0 (i := 0) (v := .pointer (some ⟨p, 0, none⟩)) rfl (by kernel_rfl) (by kernel_rfl) (by kernel_rfl) (by kernel_rfl) (fun _ _ _ h => h) (.inl ⟨by kernel_rfl, ?_⟩) hk ?_
  · intro wx hSw
    clear hSw hk
    go_simp
    try first | with_reducible rfl | kernel_rfl
  simp only [Act.put, List.getElem_toArray, List.getElem_cons_succ, List.getElem_cons_zero, List.setIfInBounds_toArray, List.set_cons_succ, List.set_cons_zero]
  refine Wl.take0 (i := 1) (v := .pointer (some ⟨p, 0, none⟩)) rfl (by kernel_rfl) (by kernel_rfl) (by kernel_rfl) (by kernel_rfl) (fun _ _ _ h => h) (.inl ⟨by kernel_rfl, ?_⟩) hk ?_
  · intro wx hSw
    clear hSw hk
    go_simp
    try first | with_reducible rfl | kernel_rfl
  simp only [Act.put, List.getElem_toArray, List.getElem_cons_succ, List.getElem_cons_zero, List.setIfInBounds_toArray, List.set_cons_succ, List.set_cons_zero]
  refine Wl.take0 (i := 2) (v := .pointer (some ⟨p, 10, none⟩)) rfl (by kernel_rfl) (by kernel_rfl) (by kernel_rfl) (by kernel_rfl) (fun _ _ _ h => h) (.inl ⟨by kernel_rfl, ?_⟩) hk ?_
  · intro wx hSw
    clear hSw hk
    go_simp
    try first | with_reducible rfl | kernel_rfl
  simp only [Act.put, List.getElem_toArray, List.getElem_cons_succ, List.getElem_cons_zero, List.setIfInBounds_toArray, List.set_cons_succ, List.set_cons_zero]
  refine Wl.take0 (i := 3) (v := .int .i64 s.made) rfl (by kernel_rfl) (by kernel_rfl) (by kernel_rfl) (by kernel_rfl) (fun _ _ _ h => h) (.inl ⟨by kernel_rfl, ?_⟩) hk ?_
  · intro wx hSw
    have cc := hSw.1
    clear hSw hk
    go_simp
    try first | with_reducible rfl | kernel_rfl
  simp only [Act.put, List.getElem_toArray, List.getElem_cons_succ, List.getElem_cons_zero, List.setIfInBounds_toArray, List.set_cons_succ, List.set_cons_zero]
  refine Wl.take0 (i := 4) (v := .pointer (some ⟨p, 0, none⟩)) rfl (by kernel_rfl) (by kernel_rfl) (by kernel_rfl) (by kernel_rfl) (fun _ _ _ h => h) (.inl ⟨by kernel_rfl, ?_⟩) hk ?_
  · intro wx hSw
    clear hSw hk
    go_simp
    try first | with_reducible rfl | kernel_rfl
  simp only [Act.put, List.getElem_toArray, List.getElem_cons_succ, List.getElem_cons_zero, List.setIfInBounds_toArray, List.set_cons_succ, List.set_cons_zero]
  refine Wl.take0 (i := 5) (v := .pointer (some ⟨p, 0, none⟩)) rfl (by kernel_rfl) (by kernel_rfl) (by kernel_rfl) (by kernel_rfl) (fun _ _ _ h => h) (.inl ⟨by kernel_rfl, ?_⟩) hk ?_
  · intro wx hSw
    clear hSw hk
    go_simp
    try first | with_reducible rfl | kernel_rfl
  simp only [Act.put, List.getElem_toArray, List.getElem_cons_succ, List.getElem_cons_zero, List.setIfInBounds_toArray, List.set_cons_succ, List.set_cons_zero]
  refine Wl.take0 (i := 6) (v := .pointer (some ⟨p, 0, none⟩)) rfl (by kernel_rfl) (by kernel_rfl) (by kernel_rfl) (by kernel_rfl) (fun _ _ _ h => h) (.inl ⟨by kernel_rfl, ?_⟩) hk ?_
  · intro wx hSw
    clear hSw hk
    go_simp
    try first | with_reducible rfl | kernel_rfl
  simp only [Act.put, List.getElem_toArray, List.getElem_cons_succ, List.getElem_cons_zero, List.setIfInBounds_toArray, List.set_cons_succ, List.set_cons_zero]
  refine Wl.take0 (i := 7) (v := .int .i64 n) rfl (by kernel_rfl) (by kernel_rfl) (by kernel_rfl) (by kernel_rfl) (fun _ _ _ h => h) (.inl ⟨by kernel_rfl, ?_⟩) hk ?_
  · intro wx hSw
    have cc := hSw.2
    clear hSw hk
    go_simp
    try first | with_reducible rfl | kernel_rfl
  simp only [Act.put, List.getElem_toArray, List.getElem_cons_succ, List.getElem_cons_zero, List.setIfInBounds_toArray, List.set_cons_succ, List.set_cons_zero]
  refine Wl.take0 (i := 8) (v := .int .i64 u) rfl (by kernel_rfl) (by kernel_rfl) (by kernel_rfl) (by kernel_rfl) (fun _ _ _ h => h) (.inl ⟨by kernel_rfl, ?_⟩) hk ?_
  · intro wx hSw
    have cc := HWR.out
    clear hSw hk
    go_simp
    try first | with_reducible rfl | kernel_rfl
  simp only [Act.put, List.getElem_toArray, List.getElem_cons_succ, List.getElem_cons_zero, List.setIfInBounds_toArray, List.set_cons_succ, List.set_cons_zero]
  refine Wl.take0 (i := 9) (v := .int .i64 u) rfl (by kernel_rfl) (by kernel_rfl) (by kernel_rfl) (by kernel_rfl) (fun _ _ _ h => h) (.inl ⟨by kernel_rfl, ?_⟩) hk ?_
  · intro wx hSw
    clear hSw hk
    go_simp
    try first | with_reducible rfl | kernel_rfl
  simp only [Act.put, List.getElem_toArray, List.getElem_cons_succ, List.getElem_cons_zero, List.setIfInBounds_toArray, List.set_cons_succ, List.set_cons_zero]
  refine Wl.done (by kernel_rfl) ?_ _
  clear hk
  go_upto_region 7 with (first | rw [hW6])
  clear f10 m10 hW6 hth hW3 hW4
  obtain ⟨tv, hs, hlka, hq3⟩ := look3 s.L HWT.out
  have HF0 := Lib.hid hq3
  obtain ⟨g8, hg8⟩ : ∃ z, W6.heap.size = z := ⟨_, rfl⟩
  obtain ⟨WA, hWA⟩ : ∃ z, W6.alloc (.cells #[.int .i64 0, .int .u64 0, .int .i64 0] 115) = z := ⟨_, rfl⟩
  have hbA : Below W6.heap.size W6 WA := by rw [← hWA]; exact (Below.refl _ _).alloc (Nat.le_refl _) _
  have hr8 : WA.heap[g8]? = some (.cells #[.int .i64 0, .int .u64 0, .int .i64 0] 115 (0, 0)) := by rw [← hWA, ← hg8]; exact heap_alloc_new _ _
  have HA8 : Hid (Below W6.heap.size W6 WA ∧ WA.heap[g8]? = some (.cells #[.int .i64 0, .int .u64 0, .int .i64 0] 115 (0, 0)) ∧ W6.heap.size = g8) := Lib.hid ⟨hbA, hr8, hg8⟩
  have hlk := hlka W6.drew g (H6.out.1.1.m.block rfl)
  have hlkA := hlka WA.drew g (H6.out.1.1.m.block (w' := WA.drew) (hbA.block g H6.out.1.1.m.2.2.lt))
  have cA : WA.cell? ⟨p, 11, none⟩ = some (.map (some g)) := (cell_of_row _ _ 11 _ _ _ ((hbA.block p (row_lt H6.out.1.1.row)).trans H6.out.1.1.row)).trans rfl
  have qA : WA.cell? ⟨g5, 2, none⟩ = some (.int .i64 s.c.token) := (cell_of_row _ _ 2 _ _ _ ((hbA.block g5 (row_lt H6.out.2.2)).trans H6.out.2.2)).trans rfl
  have k0 : WA.cell? ⟨g8, 0, none⟩ = some (.int .i64 0) := (cell_of_row _ _ 0 _ _ _ hr8).trans rfl
  have k1 : WA.cell? ⟨g8, 1, none⟩ = some (.int .u64 0) := (cell_of_row _ _ 1 _ _ _ hr8).trans rfl
  have k2 : WA.cell? ⟨g8, 2, none⟩ = some (.int .i64 0) := (cell_of_row _ _ 2 _ _ _ hr8).trans rfl
  have f0 : WA.frozen? ⟨g8, 0, none⟩ = false := frozen_of_row WA _ _ _ _ hr8
  have f1 : WA.frozen? ⟨g8, 1, none⟩ = false := frozen_of_row WA _ _ _ _ hr8
  have f2 : WA.frozen? ⟨g8, 2, none⟩ = false := frozen_of_row WA _ _ _ _ hr8
  have c11 : W6.cell? ⟨p, 11, none⟩ = some (.map (some g)) := (cell_of_row _ _ 11 _ _ _ H6.out.1.1.row).trans rfl
  have q2 : W6.cell? ⟨g5, 2, none⟩ = some (.int .i64 s.c.token) := (cell_of_row _ _ 2 _ _ _ H6.out.2.2).trans rfl
  clear hq3 hlka hbA hr8
  go_region
  obtain ⟨W8, hW8⟩ : ∃ z, (((WA.setCell ⟨g8, 0, none⟩ (.int .i64 tv.tok)).setCell ⟨g8, 1, none⟩ (.int .u64 tv.ser)).setCell ⟨g8, 2, none⟩ (.int .i64 tv.til)).drew = z := ⟨_, rfl⟩
  have hst := store3 tv HA8.out.2.1
  have hb8 : Below W6.heap.size W6 W8 := by rw [← hW8]; exact Below.drew (hst.2 (by rw [HA8.out.2.2]; exact Nat.le_refl _) HA8.out.1)
  have H8 : Hid ((WaG p n (⟨s.now, 0, zCm, s.L⟩ : Wa) g W8 S ∧ Only S w W8) ∧ W8.heap[g3]? = some (.cells #[.int .i64 a.code, .int .i64 a.token, .int .u64 a.serial] 60 (0, 0)) ∧ W8.heap[g5]? = some (.cells (cmA s.c) 58 (0, 0)) ∧ W8.heap[g8]? = some (.cells #[.int .i64 tv.tok, .int .u64 tv.ser, .int .i64 tv.til] 115 (0, 0))) := Lib.hid ⟨⟨H6.out.1.1.keep (fun k hk => hb8.block k (H6.out.1.1.low k hk)) hb8.size, H6.out.1.2.trans (Below.only hb8 S)⟩, (hb8.block g3 (row_lt H6.out.2.1)).trans H6.out.2.1, (hb8.block g5 (row_lt H6.out.2.2)).trans H6.out.2.2, by rw [← hW8]; exact hst.1⟩
  have HG8 : Hid (w.heap.size ≤ g8) := Lib.hid (by have := HA8.out.2.2; have := H6.out.1.2.2.2.2.1; omega)
  have HG5L : Hid (g5 < g8) := Lib.hid (by have := HA8.out.2.2; have := row_lt H6.out.2.2; omega)
  have HLOW : Hid (∀ k, S k → k < g8) := Lib.hid (fun k hk => by have := HA8.out.2.2; have := H6.out.1.1.low k hk; omega)
  have HUB : Hid (0 ≤ u ∧ u ≤ 4611686019501129728) := Lib.hid (by have := HU.out; have := HT.out.2; have := HNN.out; unfold untilV at *; omega)
  rw [hW8]
  clear hst hb8 hlk hlkA cA qA k0 k1 k2 f0 f1 f2 c11 q2 hW8 hWA hg8
  rcases HF0.out with ⟨hf, rfl⟩ | ⟨hf, rfl⟩
  · have HF := Lib.hid hf
    clear hf
    by_cases hk3 : s.c.kind = 3
    · by_cases hc1 : a.code = 1
      · by_cases hlt : s.now < u
        · have HFIN : Hid (toldV n s a = ⟨s.now, 0, zCm, wiV ⟨a.token, a.serial, u⟩ s.L⟩) := Lib.hid (by
            unfold toldV
            rw [if_neg HK0.out]
            congr 1
            unfold toldL
            rw [HU.out]
            rw [if_pos hk3]
            exact if_pos ⟨hc1, hlt⟩
          )
          have k3 : (s.c.kind == 3) = true := beq_iff_eq.2 (by omega)
          have k4 : (s.c.kind == 4) = false := beq_eq_false_iff_ne.2 (by omega)
          have k5 : (s.c.kind == 5) = false := beq_eq_false_iff_ne.2 (by omega)
          have o1 : (a.code == 1) = true := beq_iff_eq.2 (by omega)
          have a0 : W8.cell? ⟨g3, 0, none⟩ = some (.int .i64 a.code) := (cell_of_row _ _ 0 _ _ _ H8.out.2.1).trans rfl
          have a1 : W8.cell? ⟨g3, 1, none⟩ = some (.int .i64 a.token) := (cell_of_row _ _ 1 _ _ _ H8.out.2.1).trans rfl
          have a2 : W8.cell? ⟨g3, 2, none⟩ = some (.int .u64 a.serial) := (cell_of_row _ _ 2 _ _ _ H8.out.2.1).trans rfl
          have q0 : W8.cell? ⟨g5, 0, none⟩ = some (.int .i64 s.c.kind) := (cell_of_row _ _ 0 _ _ _ H8.out.2.2.1).trans rfl
          have q2 : W8.cell? ⟨g5, 2, none⟩ = some (.int .i64 s.c.token) := (cell_of_row _ _ 2 _ _ _ H8.out.2.2.1).trans rfl
          have q6 : W8.cell? ⟨g5, 6, none⟩ = some (.int .u64 s.c.serial) := (cell_of_row _ _ 6 _ _ _ H8.out.2.2.1).trans rfl
          have t0 : W8.cell? ⟨g8, 0, none⟩ = some (.int .i64 tv.tok) := (cell_of_row _ _ 0 _ _ _ H8.out.2.2.2).trans rfl
          have t1 : W8.cell? ⟨g8, 1, none⟩ = some (.int .u64 tv.ser) := (cell_of_row _ _ 1 _ _ _ H8.out.2.2.2).trans rfl
          have t2 : W8.cell? ⟨g8, 2, none⟩ = some (.int .i64 tv.til) := (cell_of_row _ _ 2 _ _ _ H8.out.2.2.2).trans rfl
          have p1 : W8.cell? ⟨p, 1, none⟩ = some (.int .i64 s.now) := (cell_of_row _ _ 1 _ _ _ H8.out.1.1.row).trans rfl
          have h8d : WaG p n (⟨s.now, 0, zCm, s.L⟩ : Wa) g W8.drew S := H8.out.1.1.keep (fun _ _ => rfl) (Nat.le_refl _)
          have huw : (Lit.int .i64 u).wf = true := La.wf_i64 (by have := HUB.out; omega) (by have := HUB.out; omega)
          obtain ⟨w9, hrun, hm9, hg9⟩ := h8d.m.2.2.put tokK Try.underlying116 (by have := HN.out; unfold maxLen; dsimp only; omega) (x := a.token) HA.out.1 (trV ⟨a.token, a.serial, u⟩)
          have HRUN := Lib.hid hrun
          have H9 : Hid (WaG p n ⟨s.now, 0, zCm, wiV ⟨a.token, a.serial, u⟩ s.L⟩ g w9 S ∧ Only S w w9) := Lib.hid ⟨h8d.put (x := ⟨a.token, a.serial, u⟩) ⟨HA.out.1, HA.out.2, huw⟩ hm9 hg9, (show Only S w W8.drew from H8.out.1.2).trans (only_grown hg9 H8.out.1.1.sg)⟩
          have HC : Hid (W8.drew.cell? ⟨p, 11, none⟩ = some (.map (some g)) ∧ W8.drew.cell? ⟨g3, 1, none⟩ = some (.int .i64 a.token) ∧ W8.drew.cell? ⟨g3, 2, none⟩ = some (.int .u64 a.serial)) := Lib.hid ⟨(cell_of_row W8 _ 11 _ _ _ H8.out.1.1.row).trans rfl, a1, a2⟩
          clear h8d huw hrun hm9 hg9
          go_upto_region 11 with fail
          clear a0 a1 a2 q0 q2 q6 t0 t1 t2 p1
          refine Wl.start 12 (fun v => v.cell? ⟨p, 11, none⟩ = some (.map (some g)) ∧ v.cell? ⟨g3, 1, none⟩ = some (.int .i64 a.token) ∧ v.cell? ⟨g3, 2, none⟩ = some (.int .u64 a.serial)) (fun _ => True) (by kernel_rfl) HC.out trivial (fun hk => ?_)
          refine Wl.take (i := 0) (v := .pointer (some ⟨p, 0, none⟩)) [1, 2, 3, 12] rfl (by kernel_rfl) (by kernel_rfl) (by kernel_rfl) (by kernel_rfl) (by kernel_rfl) (fun _ _ _ h => h) (.inl ⟨by kernel_rfl, ?_⟩) hk ?_
          · intro wx hSw
            clear hSw hk
            go_simp
            try first | with_reducible rfl | kernel_rfl
          simp only [Act.put, List.getElem_toArray, List.getElem_cons_succ, List.getElem_cons_zero, List.setIfInBounds_toArray, List.set_cons_succ, List.set_cons_zero]
          refine Wl.take (i := 1) (v := .pointer (some ⟨p, 0, none⟩)) [2, 3, 12] rfl (by kernel_rfl) (by kernel_rfl) (by kernel_rfl) (by kernel_rfl) (by kernel_rfl) (fun _ _ _ h => h) (.inl ⟨by kernel_rfl, ?_⟩) hk ?_
          · intro wx hSw
            clear hSw hk
            go_simp
            try first | with_reducible rfl | kernel_rfl
          simp only [Act.put, List.getElem_toArray, List.getElem_cons_succ, List.getElem_cons_zero, List.setIfInBounds_toArray, List.set_cons_succ, List.set_cons_zero]
          refine Wl.take (i := 2) (v := .pointer (some ⟨p, 11, none⟩)) [3, 12] rfl (by kernel_rfl) (by kernel_rfl) (by kernel_rfl) (by kernel_rfl) (by kernel_rfl) (fun _ _ _ h => h) (.inl ⟨by kernel_rfl, ?_⟩) hk ?_
          · intro wx hSw
            clear hSw hk
            go_simp
            try first | with_reducible rfl | kernel_rfl
          simp only [Act.put, List.getElem_toArray, List.getElem_cons_succ, List.getElem_cons_zero, List.setIfInBounds_toArray, List.set_cons_succ, List.set_cons_zero]
          refine Wl.take (i := 3) (v := .map (some g)) [12] rfl (by kernel_rfl) (by kernel_rfl) (by kernel_rfl) (by kernel_rfl) (by kernel_rfl) (fun _ _ _ h => h) (.inl ⟨by kernel_rfl, ?_⟩) hk ?_
          · intro wx hSw
            have cc := hSw.1.1
            clear hSw hk
            go_simp
            try first | with_reducible rfl | kernel_rfl
          simp only [Act.put, List.getElem_toArray, List.getElem_cons_succ, List.getElem_cons_zero, List.setIfInBounds_toArray, List.set_cons_succ, List.set_cons_zero]
          refine Wl.take (i := 4) (v := .pointer (some ⟨g3, 1, none⟩)) [5, 12] rfl (by kernel_rfl) (by kernel_rfl) (by kernel_rfl) (by kernel_rfl) (by kernel_rfl) (fun _ _ _ h => h) (.inl ⟨by kernel_rfl, ?_⟩) hk ?_
          · intro wx hSw
            clear hSw hk
            go_simp
            try first | with_reducible rfl | kernel_rfl
          simp only [Act.put, List.getElem_toArray, List.getElem_cons_succ, List.getElem_cons_zero, List.setIfInBounds_toArray, List.set_cons_succ, List.set_cons_zero]
          refine Wl.take (i := 5) (v := .int .i64 a.token) [12] rfl (by kernel_rfl) (by kernel_rfl) (by kernel_rfl) (by kernel_rfl) (by kernel_rfl) (fun _ _ _ h => h) (.inl ⟨by kernel_rfl, ?_⟩) hk ?_
          · intro wx hSw
            have cc := hSw.1.2.1
            clear hSw hk
            go_simp
            try first | with_reducible rfl | kernel_rfl
          simp only [Act.put, List.getElem_toArray, List.getElem_cons_succ, List.getElem_cons_zero, List.setIfInBounds_toArray, List.set_cons_succ, List.set_cons_zero]
          refine Wl.take (i := 6) (v := .pointer (some ⟨g3, 1, none⟩)) [7, 11, 12] rfl (by kernel_rfl) (by kernel_rfl) (by kernel_rfl) (by kernel_rfl) (by kernel_rfl) (fun _ _ _ h => h) (.inl ⟨by kernel_rfl, ?_⟩) hk ?_
          · intro wx hSw
            clear hSw hk
            go_simp
            try first | with_reducible rfl | kernel_rfl
          simp only [Act.put, List.getElem_toArray, List.getElem_cons_succ, List.getElem_cons_zero, List.setIfInBounds_toArray, List.set_cons_succ, List.set_cons_zero]
          refine Wl.take (i := 7) (v := .int .i64 a.token) [11, 12] rfl (by kernel_rfl) (by kernel_rfl) (by kernel_rfl) (by kernel_rfl) (by kernel_rfl) (fun _ _ _ h => h) (.inl ⟨by kernel_rfl, ?_⟩) hk ?_
          · intro wx hSw
            have cc := hSw.1.2.1
            clear hSw hk
            go_simp
            try first | with_reducible rfl | kernel_rfl
          simp only [Act.put, List.getElem_toArray, List.getElem_cons_succ, List.getElem_cons_zero, List.setIfInBounds_toArray, List.set_cons_succ, List.set_cons_zero]
          refine Wl.take (i := 8) (v := .pointer (some ⟨g3, 2, none⟩)) [9, 11, 12] rfl (by kernel_rfl) (by kernel_rfl) (by kernel_rfl) (by kernel_rfl) (by kernel_rfl) (fun _ _ _ h => h) (.inl ⟨by kernel_rfl, ?_⟩) hk ?_
          · intro wx hSw
            clear hSw hk
            go_simp
            try first | with_reducible rfl | kernel_rfl
          simp only [Act.put, List.getElem_toArray, List.getElem_cons_succ, List.getElem_cons_zero, List.setIfInBounds_toArray, List.set_cons_succ, List.set_cons_zero]
          refine Wl.take (i := 9) (v := .int .u64 a.serial) [11, 12] rfl (by kernel_rfl) (by kernel_rfl) (by kernel_rfl) (by kernel_rfl) (by kernel_rfl) (fun _ _ _ h => h) (.inl ⟨by kernel_rfl, ?_⟩) hk ?_
          · intro wx hSw
            have cc := hSw.1.2.2
            clear hSw hk
            go_simp
            try first | with_reducible rfl | kernel_rfl
          simp only [Act.put, List.getElem_toArray, List.getElem_cons_succ, List.getElem_cons_zero, List.setIfInBounds_toArray, List.set_cons_succ, List.set_cons_zero]
          refine Wl.take (i := 10) (v := .int .i64 u) [11, 12] rfl (by kernel_rfl) (by kernel_rfl) (by kernel_rfl) (by kernel_rfl) (by kernel_rfl) (fun _ _ _ h => h) (.inl ⟨by kernel_rfl, ?_⟩) hk ?_
          · intro wx hSw
            clear hSw hk
            go_simp
            try first | with_reducible rfl | kernel_rfl
          simp only [Act.put, List.getElem_toArray, List.getElem_cons_succ, List.getElem_cons_zero, List.setIfInBounds_toArray, List.set_cons_succ, List.set_cons_zero]
          refine Wl.take (i := 11) (v := .agg #[.int .i64 a.token, .int .u64 a.serial, .int .i64 u]) [12] rfl (by kernel_rfl) (by kernel_rfl) (by kernel_rfl) (by kernel_rfl) (by kernel_rfl) (fun _ _ _ h => h) (.inl ⟨by kernel_rfl, ?_⟩) hk ?_
          · intro wx hSw
            clear hSw hk
            go_simp
            try first | with_reducible rfl | kernel_rfl
          simp only [Act.put, List.getElem_toArray, List.getElem_cons_succ, List.getElem_cons_zero, List.setIfInBounds_toArray, List.set_cons_succ, List.set_cons_zero]
          refine Wl.one (i := 12) (by kernel_rfl) rfl (fun K hK => ?_)
          go_simp
          have hrun := HRUN.out
          go_simp
          clear hrun
          refine hK.out _ _ (Wl.Kn.off (by kernel_rfl) trivial) (fun hk => ?_)
          clear hK K
          refine Wl.done (by kernel_rfl) ?_ _
          clear hk
          go_wp2
          go_ret
          exact ⟨by rw [HTE.out]; rfl, by rw [HFIN.out]; exact Mc.Left.mk (goodW p n _) ⟨g, H9.out.1⟩ (H9.out.2)⟩
        · have HFIN : Hid (toldV n s a = ⟨s.now, 0, zCm, s.L⟩) := Lib.hid (by
            unfold toldV
            rw [if_neg HK0.out]
            congr 1
            unfold toldL
            rw [HU.out]
            rw [if_pos hk3]
            exact if_neg (fun h => hlt h.2)
          )
          have k3 : (s.c.kind == 3) = true := beq_iff_eq.2 (by omega)
          have k4 : (s.c.kind == 4) = false := beq_eq_false_iff_ne.2 (by omega)
          have k5 : (s.c.kind == 5) = false := beq_eq_false_iff_ne.2 (by omega)
          have o1 : (a.code == 1) = true := beq_iff_eq.2 (by omega)
          have a0 : W8.cell? ⟨g3, 0, none⟩ = some (.int .i64 a.code) := (cell_of_row _ _ 0 _ _ _ H8.out.2.1).trans rfl
          have a1 : W8.cell? ⟨g3, 1, none⟩ = some (.int .i64 a.token) := (cell_of_row _ _ 1 _ _ _ H8.out.2.1).trans rfl
          have a2 : W8.cell? ⟨g3, 2, none⟩ = some (.int .u64 a.serial) := (cell_of_row _ _ 2 _ _ _ H8.out.2.1).trans rfl
          have q0 : W8.cell? ⟨g5, 0, none⟩ = some (.int .i64 s.c.kind) := (cell_of_row _ _ 0 _ _ _ H8.out.2.2.1).trans rfl
          have q2 : W8.cell? ⟨g5, 2, none⟩ = some (.int .i64 s.c.token) := (cell_of_row _ _ 2 _ _ _ H8.out.2.2.1).trans rfl
          have q6 : W8.cell? ⟨g5, 6, none⟩ = some (.int .u64 s.c.serial) := (cell_of_row _ _ 6 _ _ _ H8.out.2.2.1).trans rfl
          have t0 : W8.cell? ⟨g8, 0, none⟩ = some (.int .i64 tv.tok) := (cell_of_row _ _ 0 _ _ _ H8.out.2.2.2).trans rfl
          have t1 : W8.cell? ⟨g8, 1, none⟩ = some (.int .u64 tv.ser) := (cell_of_row _ _ 1 _ _ _ H8.out.2.2.2).trans rfl
          have t2 : W8.cell? ⟨g8, 2, none⟩ = some (.int .i64 tv.til) := (cell_of_row _ _ 2 _ _ _ H8.out.2.2.2).trans rfl
          have p1 : W8.cell? ⟨p, 1, none⟩ = some (.int .i64 s.now) := (cell_of_row _ _ 1 _ _ _ H8.out.1.1.row).trans rfl
          go_wp2
          go_ret
          exact ⟨by rw [HTE.out]; rfl, by rw [HFIN.out]; exact Mc.Left.mk (goodW p n _) ⟨g, H8.out.1.1⟩ (H8.out.1.2)⟩
      · have HFIN : Hid (toldV n s a = ⟨s.now, 0, zCm, s.L⟩) := Lib.hid (by
          unfold toldV
          rw [if_neg HK0.out]
          congr 1
          unfold toldL
          rw [HU.out]
          rw [if_pos hk3]
          exact if_neg (fun h => hc1 h.1)
        )
        have k3 : (s.c.kind == 3) = true := beq_iff_eq.2 (by omega)
        have k4 : (s.c.kind == 4) = false := beq_eq_false_iff_ne.2 (by omega)
        have k5 : (s.c.kind == 5) = false := beq_eq_false_iff_ne.2 (by omega)
        have o1 : (a.code == 1) = false := beq_eq_false_iff_ne.2 (by omega)
        have a0 : W8.cell? ⟨g3, 0, none⟩ = some (.int .i64 a.code) := (cell_of_row _ _ 0 _ _ _ H8.out.2.1).trans rfl
        have a1 : W8.cell? ⟨g3, 1, none⟩ = some (.int .i64 a.token) := (cell_of_row _ _ 1 _ _ _ H8.out.2.1).trans rfl
        have a2 : W8.cell? ⟨g3, 2, none⟩ = some (.int .u64 a.serial) := (cell_of_row _ _ 2 _ _ _ H8.out.2.1).trans rfl
        have q0 : W8.cell? ⟨g5, 0, none⟩ = some (.int .i64 s.c.kind) := (cell_of_row _ _ 0 _ _ _ H8.out.2.2.1).trans rfl
        have q2 : W8.cell? ⟨g5, 2, none⟩ = some (.int .i64 s.c.token) := (cell_of_row _ _ 2 _ _ _ H8.out.2.2.1).trans rfl
        have q6 : W8.cell? ⟨g5, 6, none⟩ = some (.int .u64 s.c.serial) := (cell_of_row _ _ 6 _ _ _ H8.out.2.2.1).trans rfl
        have t0 : W8.cell? ⟨g8, 0, none⟩ = some (.int .i64 tv.tok) := (cell_of_row _ _ 0 _ _ _ H8.out.2.2.2).trans rfl
        have t1 : W8.cell? ⟨g8, 1, none⟩ = some (.int .u64 tv.ser) := (cell_of_row _ _ 1 _ _ _ H8.out.2.2.2).trans rfl
        have t2 : W8.cell? ⟨g8, 2, none⟩ = some (.int .i64 tv.til) := (cell_of_row _ _ 2 _ _ _ H8.out.2.2.2).trans rfl
        have p1 : W8.cell? ⟨p, 1, none⟩ = some (.int .i64 s.now) := (cell_of_row _ _ 1 _ _ _ H8.out.1.1.row).trans rfl
        go_wp2
        go_ret
        exact ⟨by rw [HTE.out]; rfl, by rw [HFIN.out]; exact Mc.Left.mk (goodW p n _) ⟨g, H8.out.1.1⟩ (H8.out.1.2)⟩
    by_cases hk4 : s.c.kind = 4
    · by_cases hc3 : a.code = 3
      · have HFIN : Hid (toldV n s a = ⟨s.now, 0, zCm, s.L⟩) := Lib.hid (by
          unfold toldV
          rw [if_neg HK0.out]
          congr 1
          unfold toldL
          rw [HU.out]
          rw [if_neg hk3, HF.out]
        )
        have k3 : (s.c.kind == 3) = false := beq_eq_false_iff_ne.2 (by omega)
        have k4 : (s.c.kind == 4) = true := beq_iff_eq.2 (by omega)
        have k5 : (s.c.kind == 5) = false := beq_eq_false_iff_ne.2 (by omega)
        have o3 : (a.code == 3) = true := beq_iff_eq.2 (by omega)
        have a0 : W8.cell? ⟨g3, 0, none⟩ = some (.int .i64 a.code) := (cell_of_row _ _ 0 _ _ _ H8.out.2.1).trans rfl
        have a1 : W8.cell? ⟨g3, 1, none⟩ = some (.int .i64 a.token) := (cell_of_row _ _ 1 _ _ _ H8.out.2.1).trans rfl
        have a2 : W8.cell? ⟨g3, 2, none⟩ = some (.int .u64 a.serial) := (cell_of_row _ _ 2 _ _ _ H8.out.2.1).trans rfl
        have q0 : W8.cell? ⟨g5, 0, none⟩ = some (.int .i64 s.c.kind) := (cell_of_row _ _ 0 _ _ _ H8.out.2.2.1).trans rfl
        have q2 : W8.cell? ⟨g5, 2, none⟩ = some (.int .i64 s.c.token) := (cell_of_row _ _ 2 _ _ _ H8.out.2.2.1).trans rfl
        have q6 : W8.cell? ⟨g5, 6, none⟩ = some (.int .u64 s.c.serial) := (cell_of_row _ _ 6 _ _ _ H8.out.2.2.1).trans rfl
        have t0 : W8.cell? ⟨g8, 0, none⟩ = some (.int .i64 tv.tok) := (cell_of_row _ _ 0 _ _ _ H8.out.2.2.2).trans rfl
        have t1 : W8.cell? ⟨g8, 1, none⟩ = some (.int .u64 tv.ser) := (cell_of_row _ _ 1 _ _ _ H8.out.2.2.2).trans rfl
        have t2 : W8.cell? ⟨g8, 2, none⟩ = some (.int .i64 tv.til) := (cell_of_row _ _ 2 _ _ _ H8.out.2.2.2).trans rfl
        have p1 : W8.cell? ⟨p, 1, none⟩ = some (.int .i64 s.now) := (cell_of_row _ _ 1 _ _ _ H8.out.1.1.row).trans rfl
        go_wp2
        go_ret
        exact ⟨by rw [HTE.out]; rfl, by rw [HFIN.out]; exact Mc.Left.mk (goodW p n _) ⟨g, H8.out.1.1⟩ (H8.out.1.2)⟩
      · by_cases hc4 : a.code = 4
        · have HFIN : Hid (toldV n s a = ⟨s.now, 0, zCm, s.L⟩) := Lib.hid (by
            unfold toldV
            rw [if_neg HK0.out]
            congr 1
            unfold toldL
            rw [HU.out]
            rw [if_neg hk3, HF.out]
          )
          have k3 : (s.c.kind == 3) = false := beq_eq_false_iff_ne.2 (by omega)
          have k4 : (s.c.kind == 4) = true := beq_iff_eq.2 (by omega)
          have k5 : (s.c.kind == 5) = false := beq_eq_false_iff_ne.2 (by omega)
          have o3 : (a.code == 3) = false := beq_eq_false_iff_ne.2 (by omega)
          have o4 : (a.code == 4) = true := beq_iff_eq.2 (by omega)
          have a0 : W8.cell? ⟨g3, 0, none⟩ = some (.int .i64 a.code) := (cell_of_row _ _ 0 _ _ _ H8.out.2.1).trans rfl
          have a1 : W8.cell? ⟨g3, 1, none⟩ = some (.int .i64 a.token) := (cell_of_row _ _ 1 _ _ _ H8.out.2.1).trans rfl
          have a2 : W8.cell? ⟨g3, 2, none⟩ = some (.int .u64 a.serial) := (cell_of_row _ _ 2 _ _ _ H8.out.2.1).trans rfl
          have q0 : W8.cell? ⟨g5, 0, none⟩ = some (.int .i64 s.c.kind) := (cell_of_row _ _ 0 _ _ _ H8.out.2.2.1).trans rfl
          have q2 : W8.cell? ⟨g5, 2, none⟩ = some (.int .i64 s.c.token) := (cell_of_row _ _ 2 _ _ _ H8.out.2.2.1).trans rfl
          have q6 : W8.cell? ⟨g5, 6, none⟩ = some (.int .u64 s.c.serial) := (cell_of_row _ _ 6 _ _ _ H8.out.2.2.1).trans rfl
          have t0 : W8.cell? ⟨g8, 0, none⟩ = some (.int .i64 tv.tok) := (cell_of_row _ _ 0 _ _ _ H8.out.2.2.2).trans rfl
          have t1 : W8.cell? ⟨g8, 1, none⟩ = some (.int .u64 tv.ser) := (cell_of_row _ _ 1 _ _ _ H8.out.2.2.2).trans rfl
          have t2 : W8.cell? ⟨g8, 2, none⟩ = some (.int .i64 tv.til) := (cell_of_row _ _ 2 _ _ _ H8.out.2.2.2).trans rfl
          have p1 : W8.cell? ⟨p, 1, none⟩ = some (.int .i64 s.now) := (cell_of_row _ _ 1 _ _ _ H8.out.1.1.row).trans rfl
          go_wp2
          go_ret
          exact ⟨by rw [HTE.out]; rfl, by rw [HFIN.out]; exact Mc.Left.mk (goodW p n _) ⟨g, H8.out.1.1⟩ (H8.out.1.2)⟩
        · have HFIN : Hid (toldV n s a = ⟨s.now, 0, zCm, s.L⟩) := Lib.hid (by
            unfold toldV
            rw [if_neg HK0.out]
            congr 1
            unfold toldL
            rw [HU.out]
            rw [if_neg hk3, HF.out]
          )
          have k3 : (s.c.kind == 3) = false := beq_eq_false_iff_ne.2 (by omega)
          have k4 : (s.c.kind == 4) = true := beq_iff_eq.2 (by omega)
          have k5 : (s.c.kind == 5) = false := beq_eq_false_iff_ne.2 (by omega)
          have o3 : (a.code == 3) = false := beq_eq_false_iff_ne.2 (by omega)
          have o4 : (a.code == 4) = false := beq_eq_false_iff_ne.2 (by omega)
          have a0 : W8.cell? ⟨g3, 0, none⟩ = some (.int .i64 a.code) := (cell_of_row _ _ 0 _ _ _ H8.out.2.1).trans rfl
          have a1 : W8.cell? ⟨g3, 1, none⟩ = some (.int .i64 a.token) := (cell_of_row _ _ 1 _ _ _ H8.out.2.1).trans rfl
          have a2 : W8.cell? ⟨g3, 2, none⟩ = some (.int .u64 a.serial) := (cell_of_row _ _ 2 _ _ _ H8.out.2.1).trans rfl
          have q0 : W8.cell? ⟨g5, 0, none⟩ = some (.int .i64 s.c.kind) := (cell_of_row _ _ 0 _ _ _ H8.out.2.2.1).trans rfl
          have q2 : W8.cell? ⟨g5, 2, none⟩ = some (.int .i64 s.c.token) := (cell_of_row _ _ 2 _ _ _ H8.out.2.2.1).trans rfl
          have q6 : W8.cell? ⟨g5, 6, none⟩ = some (.int .u64 s.c.serial) := (cell_of_row _ _ 6 _ _ _ H8.out.2.2.1).trans rfl
          have t0 : W8.cell? ⟨g8, 0, none⟩ = some (.int .i64 tv.tok) := (cell_of_row _ _ 0 _ _ _ H8.out.2.2.2).trans rfl
          have t1 : W8.cell? ⟨g8, 1, none⟩ = some (.int .u64 tv.ser) := (cell_of_row _ _ 1 _ _ _ H8.out.2.2.2).trans rfl
          have t2 : W8.cell? ⟨g8, 2, none⟩ = some (.int .i64 tv.til) := (cell_of_row _ _ 2 _ _ _ H8.out.2.2.2).trans rfl
          have p1 : W8.cell? ⟨p, 1, none⟩ = some (.int .i64 s.now) := (cell_of_row _ _ 1 _ _ _ H8.out.1.1.row).trans rfl
          go_wp2
          go_ret
          exact ⟨by rw [HTE.out]; rfl, by rw [HFIN.out]; exact Mc.Left.mk (goodW p n _) ⟨g, H8.out.1.1⟩ (H8.out.1.2)⟩
    by_cases hk5 : s.c.kind = 5
    · by_cases hc5 : a.code = 5
      · have HFIN : Hid (toldV n s a = ⟨s.now, 0, zCm, s.L⟩) := Lib.hid (by
          unfold toldV
          rw [if_neg HK0.out]
          congr 1
          unfold toldL
          rw [HU.out]
          rw [if_neg hk3, HF.out]
        )
        have k3 : (s.c.kind == 3) = false := beq_eq_false_iff_ne.2 (by omega)
        have k4 : (s.c.kind == 4) = false := beq_eq_false_iff_ne.2 (by omega)
        have k5 : (s.c.kind == 5) = true := beq_iff_eq.2 (by omega)
        have o5 : (a.code == 5) = true := beq_iff_eq.2 (by omega)
        have a0 : W8.cell? ⟨g3, 0, none⟩ = some (.int .i64 a.code) := (cell_of_row _ _ 0 _ _ _ H8.out.2.1).trans rfl
        have a1 : W8.cell? ⟨g3, 1, none⟩ = some (.int .i64 a.token) := (cell_of_row _ _ 1 _ _ _ H8.out.2.1).trans rfl
        have a2 : W8.cell? ⟨g3, 2, none⟩ = some (.int .u64 a.serial) := (cell_of_row _ _ 2 _ _ _ H8.out.2.1).trans rfl
        have q0 : W8.cell? ⟨g5, 0, none⟩ = some (.int .i64 s.c.kind) := (cell_of_row _ _ 0 _ _ _ H8.out.2.2.1).trans rfl
        have q2 : W8.cell? ⟨g5, 2, none⟩ = some (.int .i64 s.c.token) := (cell_of_row _ _ 2 _ _ _ H8.out.2.2.1).trans rfl
        have q6 : W8.cell? ⟨g5, 6, none⟩ = some (.int .u64 s.c.serial) := (cell_of_row _ _ 6 _ _ _ H8.out.2.2.1).trans rfl
        have t0 : W8.cell? ⟨g8, 0, none⟩ = some (.int .i64 tv.tok) := (cell_of_row _ _ 0 _ _ _ H8.out.2.2.2).trans rfl
        have t1 : W8.cell? ⟨g8, 1, none⟩ = some (.int .u64 tv.ser) := (cell_of_row _ _ 1 _ _ _ H8.out.2.2.2).trans rfl
        have t2 : W8.cell? ⟨g8, 2, none⟩ = some (.int .i64 tv.til) := (cell_of_row _ _ 2 _ _ _ H8.out.2.2.2).trans rfl
        have p1 : W8.cell? ⟨p, 1, none⟩ = some (.int .i64 s.now) := (cell_of_row _ _ 1 _ _ _ H8.out.1.1.row).trans rfl
        go_wp2
        go_ret
        exact ⟨by rw [HTE.out]; rfl, by rw [HFIN.out]; exact Mc.Left.mk (goodW p n _) ⟨g, H8.out.1.1⟩ (H8.out.1.2)⟩
      · have HFIN : Hid (toldV n s a = ⟨s.now, 0, zCm, s.L⟩) := Lib.hid (by
          unfold toldV
          rw [if_neg HK0.out]
          congr 1
          unfold toldL
          rw [HU.out]
          rw [if_neg hk3, HF.out]
        )
        have k3 : (s.c.kind == 3) = false := beq_eq_false_iff_ne.2 (by omega)
        have k4 : (s.c.kind == 4) = false := beq_eq_false_iff_ne.2 (by omega)
        have k5 : (s.c.kind == 5) = true := beq_iff_eq.2 (by omega)
        have o5 : (a.code == 5) = false := beq_eq_false_iff_ne.2 (by omega)
        have a0 : W8.cell? ⟨g3, 0, none⟩ = some (.int .i64 a.code) := (cell_of_row _ _ 0 _ _ _ H8.out.2.1).trans rfl
        have a1 : W8.cell? ⟨g3, 1, none⟩ = some (.int .i64 a.token) := (cell_of_row _ _ 1 _ _ _ H8.out.2.1).trans rfl
        have a2 : W8.cell? ⟨g3, 2, none⟩ = some (.int .u64 a.serial) := (cell_of_row _ _ 2 _ _ _ H8.out.2.1).trans rfl
        have q0 : W8.cell? ⟨g5, 0, none⟩ = some (.int .i64 s.c.kind) := (cell_of_row _ _ 0 _ _ _ H8.out.2.2.1).trans rfl
        have q2 : W8.cell? ⟨g5, 2, none⟩ = some (.int .i64 s.c.token) := (cell_of_row _ _ 2 _ _ _ H8.out.2.2.1).trans rfl
        have q6 : W8.cell? ⟨g5, 6, none⟩ = some (.int .u64 s.c.serial) := (cell_of_row _ _ 6 _ _ _ H8.out.2.2.1).trans rfl
        have t0 : W8.cell? ⟨g8, 0, none⟩ = some (.int .i64 tv.tok) := (cell_of_row _ _ 0 _ _ _ H8.out.2.2.2).trans rfl
        have t1 : W8.cell? ⟨g8, 1, none⟩ = some (.int .u64 tv.ser) := (cell_of_row _ _ 1 _ _ _ H8.out.2.2.2).trans rfl
        have t2 : W8.cell? ⟨g8, 2, none⟩ = some (.int .i64 tv.til) := (cell_of_row _ _ 2 _ _ _ H8.out.2.2.2).trans rfl
        have p1 : W8.cell? ⟨p, 1, none⟩ = some (.int .i64 s.now) := (cell_of_row _ _ 1 _ _ _ H8.out.1.1.row).trans rfl
        go_wp2
        go_ret
        exact ⟨by rw [HTE.out]; rfl, by rw [HFIN.out]; exact Mc.Left.mk (goodW p n _) ⟨g, H8.out.1.1⟩ (H8.out.1.2)⟩
    have HFIN : Hid (toldV n s a = ⟨s.now, 0, zCm, s.L⟩) := Lib.hid (by
      unfold toldV
      rw [if_neg HK0.out]
      congr 1
      unfold toldL
      rw [HU.out]
      rw [if_neg hk3, HF.out]
    )
    have k3 : (s.c.kind == 3) = false := beq_eq_false_iff_ne.2 (by omega)
    have k4 : (s.c.kind == 4) = false := beq_eq_false_iff_ne.2 (by omega)
    have k5 : (s.c.kind == 5) = false := beq_eq_false_iff_ne.2 (by omega)
    have a0 : W8.cell? ⟨g3, 0, none⟩ = some (.int .i64 a.code) := (cell_of_row _ _ 0 _ _ _ H8.out.2.1).trans rfl
    have a1 : W8.cell? ⟨g3, 1, none⟩ = some (.int .i64 a.token) := (cell_of_row _ _ 1 _ _ _ H8.out.2.1).trans rfl
    have a2 : W8.cell? ⟨g3, 2, none⟩ = some (.int .u64 a.serial) := (cell_of_row _ _ 2 _ _ _ H8.out.2.1).trans rfl
    have q0 : W8.cell? ⟨g5, 0, none⟩ = some (.int .i64 s.c.kind) := (cell_of_row _ _ 0 _ _ _ H8.out.2.2.1).trans rfl
    have q2 : W8.cell? ⟨g5, 2, none⟩ = some (.int .i64 s.c.token) := (cell_of_row _ _ 2 _ _ _ H8.out.2.2.1).trans rfl
    have q6 : W8.cell? ⟨g5, 6, none⟩ = some (.int .u64 s.c.serial) := (cell_of_row _ _ 6 _ _ _ H8.out.2.2.1).trans rfl
    have t0 : W8.cell? ⟨g8, 0, none⟩ = some (.int .i64 tv.tok) := (cell_of_row _ _ 0 _ _ _ H8.out.2.2.2).trans rfl
    have t1 : W8.cell? ⟨g8, 1, none⟩ = some (.int .u64 tv.ser) := (cell_of_row _ _ 1 _ _ _ H8.out.2.2.2).trans rfl
    have t2 : W8.cell? ⟨g8, 2, none⟩ = some (.int .i64 tv.til) := (cell_of_row _ _ 2 _ _ _ H8.out.2.2.2).trans rfl
    have p1 : W8.cell? ⟨p, 1, none⟩ = some (.int .i64 s.now) := (cell_of_row _ _ 1 _ _ _ H8.out.1.1.row).trans rfl
    go_wp2
    go_ret
    exact ⟨by rw [HTE.out]; rfl, by rw [HFIN.out]; exact Mc.Left.mk (goodW p n _) ⟨g, H8.out.1.1⟩ (H8.out.1.2)⟩
  have HF := Lib.hid hf
  have HTK : Hid (tv.tok = s.c.token) := Lib.hid ((fnd_iff H.out.m.1).1 hf).2
  have HTW : Hid tv.wf := Lib.hid (H.out.m.2.1 tv ((fnd_iff H.out.m.1).1 hf).1)
  clear hf
  by_cases hse : tv.ser = s.c.serial
  · have hsb : (tv.ser == s.c.serial) = true := beq_iff_eq.2 hse
    have HSE := Lib.hid hse
    clear hse
    by_cases hk3 : s.c.kind = 3
    · by_cases hc1 : a.code = 1
      · by_cases hlt : s.now < u
        · have HFIN : Hid (toldV n s a = ⟨s.now, 0, zCm, wiV ⟨a.token, a.serial, u⟩ s.L⟩) := Lib.hid (by
            unfold toldV
            rw [if_neg HK0.out]
            congr 1
            unfold toldL
            rw [HU.out]
            rw [if_pos hk3]
            exact if_pos ⟨hc1, hlt⟩
          )
          have k3 : (s.c.kind == 3) = true := beq_iff_eq.2 (by omega)
          have k4 : (s.c.kind == 4) = false := beq_eq_false_iff_ne.2 (by omega)
          have k5 : (s.c.kind == 5) = false := beq_eq_false_iff_ne.2 (by omega)
          have o1 : (a.code == 1) = true := beq_iff_eq.2 (by omega)
          have a0 : W8.cell? ⟨g3, 0, none⟩ = some (.int .i64 a.code) := (cell_of_row _ _ 0 _ _ _ H8.out.2.1).trans rfl
          have a1 : W8.cell? ⟨g3, 1, none⟩ = some (.int .i64 a.token) := (cell_of_row _ _ 1 _ _ _ H8.out.2.1).trans rfl
          have a2 : W8.cell? ⟨g3, 2, none⟩ = some (.int .u64 a.serial) := (cell_of_row _ _ 2 _ _ _ H8.out.2.1).trans rfl
          have q0 : W8.cell? ⟨g5, 0, none⟩ = some (.int .i64 s.c.kind) := (cell_of_row _ _ 0 _ _ _ H8.out.2.2.1).trans rfl
          have q2 : W8.cell? ⟨g5, 2, none⟩ = some (.int .i64 s.c.token) := (cell_of_row _ _ 2 _ _ _ H8.out.2.2.1).trans rfl
          have q6 : W8.cell? ⟨g5, 6, none⟩ = some (.int .u64 s.c.serial) := (cell_of_row _ _ 6 _ _ _ H8.out.2.2.1).trans rfl
          have t0 : W8.cell? ⟨g8, 0, none⟩ = some (.int .i64 tv.tok) := (cell_of_row _ _ 0 _ _ _ H8.out.2.2.2).trans rfl
          have t1 : W8.cell? ⟨g8, 1, none⟩ = some (.int .u64 tv.ser) := (cell_of_row _ _ 1 _ _ _ H8.out.2.2.2).trans rfl
          have t2 : W8.cell? ⟨g8, 2, none⟩ = some (.int .i64 tv.til) := (cell_of_row _ _ 2 _ _ _ H8.out.2.2.2).trans rfl
          have p1 : W8.cell? ⟨p, 1, none⟩ = some (.int .i64 s.now) := (cell_of_row _ _ 1 _ _ _ H8.out.1.1.row).trans rfl
          have h8d : WaG p n (⟨s.now, 0, zCm, s.L⟩ : Wa) g W8.drew S := H8.out.1.1.keep (fun _ _ => rfl) (Nat.le_refl _)
          have huw : (Lit.int .i64 u).wf = true := La.wf_i64 (by have := HUB.out; omega) (by have := HUB.out; omega)
          obtain ⟨w9, hrun, hm9, hg9⟩ := h8d.m.2.2.put tokK Try.underlying116 (by have := HN.out; unfold maxLen; dsimp only; omega) (x := a.token) HA.out.1 (trV ⟨a.token, a.serial, u⟩)
          have HRUN := Lib.hid hrun
          have H9 : Hid (WaG p n ⟨s.now, 0, zCm, wiV ⟨a.token, a.serial, u⟩ s.L⟩ g w9 S ∧ Only S w w9) := Lib.hid ⟨h8d.put (x := ⟨a.token, a.serial, u⟩) ⟨HA.out.1, HA.out.2, huw⟩ hm9 hg9, (show Only S w W8.drew from H8.out.1.2).trans (only_grown hg9 H8.out.1.1.sg)⟩
          have HC : Hid (W8.drew.cell? ⟨p, 11, none⟩ = some (.map (some g)) ∧ W8.drew.cell? ⟨g3, 1, none⟩ = some (.int .i64 a.token) ∧ W8.drew.cell? ⟨g3, 2, none⟩ = some (.int .u64 a.serial)) := Lib.hid ⟨(cell_of_row W8 _ 11 _ _ _ H8.out.1.1.row).trans rfl, a1, a2⟩
          clear h8d huw hrun hm9 hg9
          go_upto_region 11 with fail
          clear a0 a1 a2 q0 q2 q6 t0 t1 t2 p1
          refine Wl.start 12 (fun v => v.cell? ⟨p, 11, none⟩ = some (.map (some g)) ∧ v.cell? ⟨g3, 1, none⟩ = some (.int .i64 a.token) ∧ v.cell? ⟨g3, 2, none⟩ = some (.int .u64 a.serial)) (fun _ => True) (by kernel_rfl) HC.out trivial (fun hk => ?_)
          refine Wl.take (i := 0) (v := .pointer (some ⟨p, 0, none⟩)) [1, 2, 3, 12] rfl (by kernel_rfl) (by kernel_rfl) (by kernel_rfl) (by kernel_rfl) (by kernel_rfl) (fun _ _ _ h => h) (.inl ⟨by kernel_rfl, ?_⟩) hk ?_
          · intro wx hSw
            clear hSw hk
            go_simp
            try first | with_reducible rfl | kernel_rfl
          simp only [Act.put, List.getElem_toArray, List.getElem_cons_succ, List.getElem_cons_zero, List.setIfInBounds_toArray, List.set_cons_succ, List.set_cons_zero]
          refine Wl.take (i := 1) (v := .pointer (some ⟨p, 0, none⟩)) [2, 3, 12] rfl (by kernel_rfl) (by kernel_rfl) (by kernel_rfl) (by kernel_rfl) (by kernel_rfl) (fun _ _ _ h => h) (.inl ⟨by kernel_rfl, ?_⟩) hk ?_
          · intro wx hSw
            clear hSw hk
            go_simp
            try first | with_reducible rfl | kernel_rfl
          simp only [Act.put, List.getElem_toArray, List.getElem_cons_succ, List.getElem_cons_zero, List.setIfInBounds_toArray, List.set_cons_succ, List.set_cons_zero]
          refine Wl.take (i := 2) (v := .pointer (some ⟨p, 11, none⟩)) [3, 12] rfl (by kernel_rfl) (by kernel_rfl) (by kernel_rfl) (by kernel_rfl) (by kernel_rfl) (fun _ _ _ h => h) (.inl ⟨by kernel_rfl, ?_⟩) hk ?_
          · intro wx hSw
            clear hSw hk
            go_simp
            try first | with_reducible rfl | kernel_rfl
          simp only [Act.put, List.getElem_toArray, List.getElem_cons_succ, List.getElem_cons_zero, List.setIfInBounds_toArray, List.set_cons_succ, List.set_cons_zero]
          refine Wl.take (i := 3) (v := .map (some g)) [12] rfl (by kernel_rfl) (by kernel_rfl) (by kernel_rfl) (by kernel_rfl) (by kernel_rfl) (fun _ _ _ h => h) (.inl ⟨by kernel_rfl, ?_⟩) hk ?_
          · intro wx hSw
            have cc := hSw.1.1
            clear hSw hk
            go_simp
            try first | with_reducible rfl | kernel_rfl
          simp only [Act.put, List.getElem_toArray, List.getElem_cons_succ, List.getElem_cons_zero, List.setIfInBounds_toArray, List.set_cons_succ, List.set_cons_zero]
          refine Wl.take (i := 4) (v := .pointer (some ⟨g3, 1, none⟩)) [5, 12] rfl (by kernel_rfl) (by kernel_rfl) (by kernel_rfl) (by kernel_rfl) (by kernel_rfl) (fun _ _ _ h => h) (.inl ⟨by kernel_rfl, ?_⟩) hk ?_
          · intro wx hSw
            clear hSw hk
            go_simp
            try first | with_reducible rfl | kernel_rfl
          simp only [Act.put, List.getElem_toArray, List.getElem_cons_succ, List.getElem_cons_zero, List.setIfInBounds_toArray, List.set_cons_succ, List.set_cons_zero]
          refine Wl.take (i := 5) (v := .int .i64 a.token) [12] rfl (by kernel_rfl) (by kernel_rfl) (by kernel_rfl) (by kernel_rfl) (by kernel_rfl) (fun _ _ _ h => h) (.inl ⟨by kernel_rfl, ?_⟩) hk ?_
          · intro wx hSw
            have cc := hSw.1.2.1
            clear hSw hk
            go_simp
            try first | with_reducible rfl | kernel_rfl
          simp only [Act.put, List.getElem_toArray, List.getElem_cons_succ, List.getElem_cons_zero, List.setIfInBounds_toArray, List.set_cons_succ, List.set_cons_zero]
          refine Wl.take (i := 6) (v := .pointer (some ⟨g3, 1, none⟩)) [7, 11, 12] rfl (by kernel_rfl) (by kernel_rfl) (by kernel_rfl) (by kernel_rfl) (by kernel_rfl) (fun _ _ _ h => h) (.inl ⟨by kernel_rfl, ?_⟩) hk ?_
          · intro wx hSw
            clear hSw hk
            go_simp
            try first | with_reducible rfl | kernel_rfl
          simp only [Act.put, List.getElem_toArray, List.getElem_cons_succ, List.getElem_cons_zero, List.setIfInBounds_toArray, List.set_cons_succ, List.set_cons_zero]
          refine Wl.take (i := 7) (v := .int .i64 a.token) [11, 12] rfl (by kernel_rfl) (by kernel_rfl) (by kernel_rfl) (by kernel_rfl) (by kernel_rfl) (fun _ _ _ h => h) (.inl ⟨by kernel_rfl, ?_⟩) hk ?_
          · intro wx hSw
            have cc := hSw.1.2.1
            clear hSw hk
            go_simp
            try first | with_reducible rfl | kernel_rfl
          simp only [Act.put, List.getElem_toArray, List.getElem_cons_succ, List.getElem_cons_zero, List.setIfInBounds_toArray, List.set_cons_succ, List.set_cons_zero]
          refine Wl.take (i := 8) (v := .pointer (some ⟨g3, 2, none⟩)) [9, 11, 12] rfl (by kernel_rfl) (by kernel_rfl) (by kernel_rfl) (by kernel_rfl) (by kernel_rfl) (fun _ _ _ h => h) (.inl ⟨by kernel_rfl, ?_⟩) hk ?_
          · intro wx hSw
            clear hSw hk
            go_simp
            try first | with_reducible rfl | kernel_rfl
          simp only [Act.put, List.getElem_toArray, List.getElem_cons_succ, List.getElem_cons_zero, List.setIfInBounds_toArray, List.set_cons_succ, List.set_cons_zero]
          refine Wl.take (i := 9) (v := .int .u64 a.serial) [11, 12] rfl (by kernel_rfl) (by kernel_rfl) (by kernel_rfl) (by kernel_rfl) (by kernel_rfl) (fun _ _ _ h => h) (.inl ⟨by kernel_rfl, ?_⟩) hk ?_
          · intro wx hSw
            have cc := hSw.1.2.2
            clear hSw hk
            go_simp
            try first | with_reducible rfl | kernel_rfl
          simp only [Act.put, List.getElem_toArray, List.getElem_cons_succ, List.getElem_cons_zero, List.setIfInBounds_toArray, List.set_cons_succ, List.set_cons_zero]
          refine Wl.take (i := 10) (v := .int .i64 u) [11, 12] rfl (by kernel_rfl) (by kernel_rfl) (by kernel_rfl) (by kernel_rfl) (by kernel_rfl) (fun _ _ _ h => h) (.inl ⟨by kernel_rfl, ?_⟩) hk ?_
          · intro wx hSw
            clear hSw hk
            go_simp
            try first | with_reducible rfl | kernel_rfl
          simp only [Act.put, List.getElem_toArray, List.getElem_cons_succ, List.getElem_cons_zero, List.setIfInBounds_toArray, List.set_cons_succ, List.set_cons_zero]
          refine Wl.take (i := 11) (v := .agg #[.int .i64 a.token, .int .u64 a.serial, .int .i64 u]) [12] rfl (by kernel_rfl) (by kernel_rfl) (by kernel_rfl) (by kernel_rfl) (by kernel_rfl) (fun _ _ _ h => h) (.inl ⟨by kernel_rfl, ?_⟩) hk ?_
          · intro wx hSw
            clear hSw hk
            go_simp
            try first | with_reducible rfl | kernel_rfl
          simp only [Act.put, List.getElem_toArray, List.getElem_cons_succ, List.getElem_cons_zero, List.setIfInBounds_toArray, List.set_cons_succ, List.set_cons_zero]
          refine Wl.one (i := 12) (by kernel_rfl) rfl (fun K hK => ?_)
          go_simp
          have hrun := HRUN.out
          go_simp
          clear hrun
          refine hK.out _ _ (Wl.Kn.off (by kernel_rfl) trivial) (fun hk => ?_)
          clear hK K
          refine Wl.done (by kernel_rfl) ?_ _
          clear hk
          go_wp2
          go_ret
          exact ⟨by rw [HTE.out]; rfl, by rw [HFIN.out]; exact Mc.Left.mk (goodW p n _) ⟨g, H9.out.1⟩ (H9.out.2)⟩
        · have HFIN : Hid (toldV n s a = ⟨s.now, 0, zCm, s.L⟩) := Lib.hid (by
            unfold toldV
            rw [if_neg HK0.out]
            congr 1
            unfold toldL
            rw [HU.out]
            rw [if_pos hk3]
            exact if_neg (fun h => hlt h.2)
          )
          have k3 : (s.c.kind == 3) = true := beq_iff_eq.2 (by omega)
          have k4 : (s.c.kind == 4) = false := beq_eq_false_iff_ne.2 (by omega)
          have k5 : (s.c.kind == 5) = false := beq_eq_false_iff_ne.2 (by omega)
          have o1 : (a.code == 1) = true := beq_iff_eq.2 (by omega)
          have a0 : W8.cell? ⟨g3, 0, none⟩ = some (.int .i64 a.code) := (cell_of_row _ _ 0 _ _ _ H8.out.2.1).trans rfl
          have a1 : W8.cell? ⟨g3, 1, none⟩ = some (.int .i64 a.token) := (cell_of_row _ _ 1 _ _ _ H8.out.2.1).trans rfl
          have a2 : W8.cell? ⟨g3, 2, none⟩ = some (.int .u64 a.serial) := (cell_of_row _ _ 2 _ _ _ H8.out.2.1).trans rfl
          have q0 : W8.cell? ⟨g5, 0, none⟩ = some (.int .i64 s.c.kind) := (cell_of_row _ _ 0 _ _ _ H8.out.2.2.1).trans rfl
          have q2 : W8.cell? ⟨g5, 2, none⟩ = some (.int .i64 s.c.token) := (cell_of_row _ _ 2 _ _ _ H8.out.2.2.1).trans rfl
          have q6 : W8.cell? ⟨g5, 6, none⟩ = some (.int .u64 s.c.serial) := (cell_of_row _ _ 6 _ _ _ H8.out.2.2.1).trans rfl
          have t0 : W8.cell? ⟨g8, 0, none⟩ = some (.int .i64 tv.tok) := (cell_of_row _ _ 0 _ _ _ H8.out.2.2.2).trans rfl
          have t1 : W8.cell? ⟨g8, 1, none⟩ = some (.int .u64 tv.ser) := (cell_of_row _ _ 1 _ _ _ H8.out.2.2.2).trans rfl
          have t2 : W8.cell? ⟨g8, 2, none⟩ = some (.int .i64 tv.til) := (cell_of_row _ _ 2 _ _ _ H8.out.2.2.2).trans rfl
          have p1 : W8.cell? ⟨p, 1, none⟩ = some (.int .i64 s.now) := (cell_of_row _ _ 1 _ _ _ H8.out.1.1.row).trans rfl
          go_wp2
          go_ret
          exact ⟨by rw [HTE.out]; rfl, by rw [HFIN.out]; exact Mc.Left.mk (goodW p n _) ⟨g, H8.out.1.1⟩ (H8.out.1.2)⟩
      · have HFIN : Hid (toldV n s a = ⟨s.now, 0, zCm, s.L⟩) := Lib.hid (by
          unfold toldV
          rw [if_neg HK0.out]
          congr 1
          unfold toldL
          rw [HU.out]
          rw [if_pos hk3]
          exact if_neg (fun h => hc1 h.1)
        )
        have k3 : (s.c.kind == 3) = true := beq_iff_eq.2 (by omega)
        have k4 : (s.c.kind == 4) = false := beq_eq_false_iff_ne.2 (by omega)
        have k5 : (s.c.kind == 5) = false := beq_eq_false_iff_ne.2 (by omega)
        have o1 : (a.code == 1) = false := beq_eq_false_iff_ne.2 (by omega)
        have a0 : W8.cell? ⟨g3, 0, none⟩ = some (.int .i64 a.code) := (cell_of_row _ _ 0 _ _ _ H8.out.2.1).trans rfl
        have a1 : W8.cell? ⟨g3, 1, none⟩ = some (.int .i64 a.token) := (cell_of_row _ _ 1 _ _ _ H8.out.2.1).trans rfl
        have a2 : W8.cell? ⟨g3, 2, none⟩ = some (.int .u64 a.serial) := (cell_of_row _ _ 2 _ _ _ H8.out.2.1).trans rfl
        have q0 : W8.cell? ⟨g5, 0, none⟩ = some (.int .i64 s.c.kind) := (cell_of_row _ _ 0 _ _ _ H8.out.2.2.1).trans rfl
        have q2 : W8.cell? ⟨g5, 2, none⟩ = some (.int .i64 s.c.token) := (cell_of_row _ _ 2 _ _ _ H8.out.2.2.1).trans rfl
        have q6 : W8.cell? ⟨g5, 6, none⟩ = some (.int .u64 s.c.serial) := (cell_of_row _ _ 6 _ _ _ H8.out.2.2.1).trans rfl
        have t0 : W8.cell? ⟨g8, 0, none⟩ = some (.int .i64 tv.tok) := (cell_of_row _ _ 0 _ _ _ H8.out.2.2.2).trans rfl
        have t1 : W8.cell? ⟨g8, 1, none⟩ = some (.int .u64 tv.ser) := (cell_of_row _ _ 1 _ _ _ H8.out.2.2.2).trans rfl
        have t2 : W8.cell? ⟨g8, 2, none⟩ = some (.int .i64 tv.til) := (cell_of_row _ _ 2 _ _ _ H8.out.2.2.2).trans rfl
        have p1 : W8.cell? ⟨p, 1, none⟩ = some (.int .i64 s.now) := (cell_of_row _ _ 1 _ _ _ H8.out.1.1.row).trans rfl
        go_wp2
        go_ret
        exact ⟨by rw [HTE.out]; rfl, by rw [HFIN.out]; exact Mc.Left.mk (goodW p n _) ⟨g, H8.out.1.1⟩ (H8.out.1.2)⟩
    by_cases hk4 : s.c.kind = 4
    · by_cases hc3 : a.code = 3
      · have HFIN : Hid (toldV n s a = ⟨s.now, 0, zCm, wiV ⟨tv.tok, tv.ser, max tv.til u⟩ s.L⟩) := Lib.hid (by
          unfold toldV
          rw [if_neg HK0.out]
          congr 1
          unfold toldL
          rw [HU.out]
          rw [if_neg hk3, HF.out]
          refine (if_pos HSE.out).trans ?_
          exact if_pos ⟨hk4, hc3⟩
        )
        have k3 : (s.c.kind == 3) = false := beq_eq_false_iff_ne.2 (by omega)
        have k4 : (s.c.kind == 4) = true := beq_iff_eq.2 (by omega)
        have k5 : (s.c.kind == 5) = false := beq_eq_false_iff_ne.2 (by omega)
        have o3 : (a.code == 3) = true := beq_iff_eq.2 (by omega)
        have a0 : W8.cell? ⟨g3, 0, none⟩ = some (.int .i64 a.code) := (cell_of_row _ _ 0 _ _ _ H8.out.2.1).trans rfl
        have a1 : W8.cell? ⟨g3, 1, none⟩ = some (.int .i64 a.token) := (cell_of_row _ _ 1 _ _ _ H8.out.2.1).trans rfl
        have a2 : W8.cell? ⟨g3, 2, none⟩ = some (.int .u64 a.serial) := (cell_of_row _ _ 2 _ _ _ H8.out.2.1).trans rfl
        have q0 : W8.cell? ⟨g5, 0, none⟩ = some (.int .i64 s.c.kind) := (cell_of_row _ _ 0 _ _ _ H8.out.2.2.1).trans rfl
        have q2 : W8.cell? ⟨g5, 2, none⟩ = some (.int .i64 s.c.token) := (cell_of_row _ _ 2 _ _ _ H8.out.2.2.1).trans rfl
        have q6 : W8.cell? ⟨g5, 6, none⟩ = some (.int .u64 s.c.serial) := (cell_of_row _ _ 6 _ _ _ H8.out.2.2.1).trans rfl
        have t0 : W8.cell? ⟨g8, 0, none⟩ = some (.int .i64 tv.tok) := (cell_of_row _ _ 0 _ _ _ H8.out.2.2.2).trans rfl
        have t1 : W8.cell? ⟨g8, 1, none⟩ = some (.int .u64 tv.ser) := (cell_of_row _ _ 1 _ _ _ H8.out.2.2.2).trans rfl
        have t2 : W8.cell? ⟨g8, 2, none⟩ = some (.int .i64 tv.til) := (cell_of_row _ _ 2 _ _ _ H8.out.2.2.2).trans rfl
        have p1 : W8.cell? ⟨p, 1, none⟩ = some (.int .i64 s.now) := (cell_of_row _ _ 1 _ _ _ H8.out.1.1.row).trans rfl
        have ft2 : W8.frozen? ⟨g8, 2, none⟩ = false := frozen_of_row W8 _ _ _ _ H8.out.2.2.2
        obtain ⟨W9, hW9⟩ : ∃ z, W8.setCell ⟨g8, 2, none⟩ (.int .i64 (max tv.til u)) = z := ⟨_, rfl⟩
        have hr9 : W9.heap[g8]? = some (.cells #[.int .i64 tv.tok, .int .u64 tv.ser, .int .i64 (max tv.til u)] 115 (0, 0)) := by rw [← hW9]; exact (heap_setCell_same W8 g8 2 _ 115 _ H8.out.2.2.2).trans rfl
        have hother : ∀ k, k < g8 → W9.heap[k]? = W8.heap[k]? := fun k hk => by rw [← hW9]; exact heap_setCell_other W8 ⟨g8, 2, none⟩ k _ (Nat.ne_of_lt hk)
        have hz9 : W9.heap.size = W8.heap.size := by rw [← hW9]; simp
        have ho9 : Only S w W9 := by
          have hb : Below g8 W8 W9 := by rw [← hW9]; exact (Below.refl _ _).setCell (p := ⟨g8, 2, none⟩) (Nat.le_refl _) _
          exact H8.out.1.2.after (T := fun k => g8 ≤ k) ⟨hb.os, hb.tape, hb.output, hb.size, fun k hk hn => hb.block k (by omega)⟩ (fun k hk h8 => absurd hk (by have := HG8.out; omega))
        have h9d : WaG p n (⟨s.now, 0, zCm, s.L⟩ : Wa) g W9.drew S := H8.out.1.1.keep (w' := W9.drew) (fun k hk => hother k (HLOW.out k hk)) (Nat.le_of_eq hz9.symm)
        have hwt := HTW.out
        have hbd := bounds_i64 hwt.2.2
        have huw : (Lit.int .i64 (max tv.til u)).wf = true := La.wf_i64 (by have := HUB.out; omega) (by have := HUB.out; omega)
        have htk : tv.tok = s.c.token := HTK.out
        obtain ⟨w10, hrun, hm10, hg10⟩ := h9d.m.2.2.put tokK Try.underlying116 (by have := HN.out; unfold maxLen; dsimp only; omega) (x := s.c.token) HWT.out (trV ⟨tv.tok, tv.ser, max tv.til u⟩)
        have HRUN := Lib.hid hrun
        have H10 : Hid (WaG p n ⟨s.now, 0, zCm, wiV ⟨tv.tok, tv.ser, max tv.til u⟩ s.L⟩ g w10 S ∧ Only S w w10) := Lib.hid ⟨h9d.put (x := ⟨tv.tok, tv.ser, max tv.til u⟩) ⟨hwt.1, hwt.2.1, huw⟩ (by rw [← htk] at hm10; exact hm10) hg10, (show Only S w W9.drew from ho9).trans (only_grown hg10 H8.out.1.1.sg)⟩
        have HC : Hid (W9.drew.cell? ⟨p, 11, none⟩ = some (.map (some g)) ∧ W9.drew.cell? ⟨g5, 2, none⟩ = some (.int .i64 s.c.token) ∧ W9.drew.rangeAt g8 0 [.int .i64 tv.tok, .int .u64 tv.ser, .int .i64 (max tv.til u)]) := Lib.hid ⟨(cell_of_row W9.drew _ 11 _ _ _ h9d.row).trans rfl, (cell_of_row W9 _ 2 _ _ _ ((hother g5 HG5L.out).trans H8.out.2.2.1)).trans rfl, Wl.rng_of_row (w := W9.drew) hr9⟩
        clear h9d huw hrun hm10 hg10 hr9 hother hz9 ho9 hwt hbd htk
        go_upto_region 15 with (first | rw [hW9])
        clear a0 a1 a2 q0 q2 q6 t0 t1 t2 p1
        refine Wl.start 7 (fun v => v.cell? ⟨p, 11, none⟩ = some (.map (some g)) ∧ v.cell? ⟨g5, 2, none⟩ = some (.int .i64 s.c.token) ∧ v.rangeAt g8 0 [.int .i64 tv.tok, .int .u64 tv.ser, .int .i64 (max tv.til u)]) (fun _ => True) (by kernel_rfl) HC.out trivial (fun hk => ?_)
        refine Wl.take (i := 0) (v := .pointer (some ⟨p, 0, none⟩)) [1, 2, 3, 7] rfl (by kernel_rfl) (by kernel_rfl) (by kernel_rfl) (by kernel_rfl) (by kernel_rfl) (fun _ _ _ h => h) (.inl ⟨by kernel_rfl, ?_⟩) hk ?_
        · intro wx hSw
          clear hSw hk
          go_simp
          try first | with_reducible rfl | kernel_rfl
        simp only [Act.put, List.getElem_toArray, List.getElem_cons_succ, List.getElem_cons_zero, List.setIfInBounds_toArray, List.set_cons_succ, List.set_cons_zero]
        refine Wl.take (i := 1) (v := .pointer (some ⟨p, 0, none⟩)) [2, 3, 7] rfl (by kernel_rfl) (by kernel_rfl) (by kernel_rfl) (by kernel_rfl) (by kernel_rfl) (fun _ _ _ h => h) (.inl ⟨by kernel_rfl, ?_⟩) hk ?_
        · intro wx hSw
          clear hSw hk
          go_simp
          try first | with_reducible rfl | kernel_rfl
        simp only [Act.put, List.getElem_toArray, List.getElem_cons_succ, List.getElem_cons_zero, List.setIfInBounds_toArray, List.set_cons_succ, List.set_cons_zero]
        refine Wl.take (i := 2) (v := .pointer (some ⟨p, 11, none⟩)) [3, 7] rfl (by kernel_rfl) (by kernel_rfl) (by kernel_rfl) (by kernel_rfl) (by kernel_rfl) (fun _ _ _ h => h) (.inl ⟨by kernel_rfl, ?_⟩) hk ?_
        · intro wx hSw
          clear hSw hk
          go_simp
          try first | with_reducible rfl | kernel_rfl
        simp only [Act.put, List.getElem_toArray, List.getElem_cons_succ, List.getElem_cons_zero, List.setIfInBounds_toArray, List.set_cons_succ, List.set_cons_zero]
        refine Wl.take (i := 3) (v := .map (some g)) [7] rfl (by kernel_rfl) (by kernel_rfl) (by kernel_rfl) (by kernel_rfl) (by kernel_rfl) (fun _ _ _ h => h) (.inl ⟨by kernel_rfl, ?_⟩) hk ?_
        · intro wx hSw
          have cc := hSw.1.1
          clear hSw hk
          go_simp
          try first | with_reducible rfl | kernel_rfl
        simp only [Act.put, List.getElem_toArray, List.getElem_cons_succ, List.getElem_cons_zero, List.setIfInBounds_toArray, List.set_cons_succ, List.set_cons_zero]
        refine Wl.take (i := 4) (v := .pointer (some ⟨g5, 2, none⟩)) [5, 7] rfl (by kernel_rfl) (by kernel_rfl) (by kernel_rfl) (by kernel_rfl) (by kernel_rfl) (fun _ _ _ h => h) (.inl ⟨by kernel_rfl, ?_⟩) hk ?_
        · intro wx hSw
          clear hSw hk
          go_simp
          try first | with_reducible rfl | kernel_rfl
        simp only [Act.put, List.getElem_toArray, List.getElem_cons_succ, List.getElem_cons_zero, List.setIfInBounds_toArray, List.set_cons_succ, List.set_cons_zero]
        refine Wl.take (i := 5) (v := .int .i64 s.c.token) [7] rfl (by kernel_rfl) (by kernel_rfl) (by kernel_rfl) (by kernel_rfl) (by kernel_rfl) (fun _ _ _ h => h) (.inl ⟨by kernel_rfl, ?_⟩) hk ?_
        · intro wx hSw
          have cc := hSw.1.2.1
          clear hSw hk
          go_simp
          try first | with_reducible rfl | kernel_rfl
        simp only [Act.put, List.getElem_toArray, List.getElem_cons_succ, List.getElem_cons_zero, List.setIfInBounds_toArray, List.set_cons_succ, List.set_cons_zero]
        refine Wl.take (i := 6) (v := .agg #[.int .i64 tv.tok, .int .u64 tv.ser, .int .i64 (max tv.til u)]) [7] rfl (by kernel_rfl) (by kernel_rfl) (by kernel_rfl) (by kernel_rfl) (by kernel_rfl) (fun _ _ _ h => h) (yieldsIf_load_mid (by rfl) _ _ rfl _ _ rfl [.int .i64 tv.tok, .int .u64 tv.ser, .int .i64 (max tv.til u)] _ (fun w h => h.1.2.2) Try.underlying115 rfl (by kernel_rfl)) hk ?_
        simp only [Act.put, List.getElem_toArray, List.getElem_cons_succ, List.getElem_cons_zero, List.setIfInBounds_toArray, List.set_cons_succ, List.set_cons_zero]
        refine Wl.one (i := 7) (by kernel_rfl) rfl (fun K hK => ?_)
        go_simp
        have hrun := HRUN.out
        go_simp
        clear hrun
        refine hK.out _ _ (Wl.Kn.off (by kernel_rfl) trivial) (fun hk => ?_)
        clear hK K
        refine Wl.done (by kernel_rfl) ?_ _
        clear hk
        go_wp2
        go_ret
        exact ⟨by rw [HTE.out]; rfl, by rw [HFIN.out]; exact Mc.Left.mk (goodW p n _) ⟨g, H10.out.1⟩ (H10.out.2)⟩
      · by_cases hc4 : a.code = 4
        · have HFIN : Hid (toldV n s a = ⟨s.now, 0, zCm, woV s.c.token s.L⟩) := Lib.hid (by
            unfold toldV
            rw [if_neg HK0.out]
            congr 1
            unfold toldL
            rw [HU.out]
            rw [if_neg hk3, HF.out]
            refine (if_pos HSE.out).trans ?_
            rw [if_neg (fun h => hc3 h.2)]
            exact if_pos (.inl ⟨hk4, hc4⟩)
          )
          have k3 : (s.c.kind == 3) = false := beq_eq_false_iff_ne.2 (by omega)
          have k4 : (s.c.kind == 4) = true := beq_iff_eq.2 (by omega)
          have k5 : (s.c.kind == 5) = false := beq_eq_false_iff_ne.2 (by omega)
          have o3 : (a.code == 3) = false := beq_eq_false_iff_ne.2 (by omega)
          have o4 : (a.code == 4) = true := beq_iff_eq.2 (by omega)
          have a0 : W8.cell? ⟨g3, 0, none⟩ = some (.int .i64 a.code) := (cell_of_row _ _ 0 _ _ _ H8.out.2.1).trans rfl
          have a1 : W8.cell? ⟨g3, 1, none⟩ = some (.int .i64 a.token) := (cell_of_row _ _ 1 _ _ _ H8.out.2.1).trans rfl
          have a2 : W8.cell? ⟨g3, 2, none⟩ = some (.int .u64 a.serial) := (cell_of_row _ _ 2 _ _ _ H8.out.2.1).trans rfl
          have q0 : W8.cell? ⟨g5, 0, none⟩ = some (.int .i64 s.c.kind) := (cell_of_row _ _ 0 _ _ _ H8.out.2.2.1).trans rfl
          have q2 : W8.cell? ⟨g5, 2, none⟩ = some (.int .i64 s.c.token) := (cell_of_row _ _ 2 _ _ _ H8.out.2.2.1).trans rfl
          have q6 : W8.cell? ⟨g5, 6, none⟩ = some (.int .u64 s.c.serial) := (cell_of_row _ _ 6 _ _ _ H8.out.2.2.1).trans rfl
          have t0 : W8.cell? ⟨g8, 0, none⟩ = some (.int .i64 tv.tok) := (cell_of_row _ _ 0 _ _ _ H8.out.2.2.2).trans rfl
          have t1 : W8.cell? ⟨g8, 1, none⟩ = some (.int .u64 tv.ser) := (cell_of_row _ _ 1 _ _ _ H8.out.2.2.2).trans rfl
          have t2 : W8.cell? ⟨g8, 2, none⟩ = some (.int .i64 tv.til) := (cell_of_row _ _ 2 _ _ _ H8.out.2.2.2).trans rfl
          have p1 : W8.cell? ⟨p, 1, none⟩ = some (.int .i64 s.now) := (cell_of_row _ _ 1 _ _ _ H8.out.1.1.row).trans rfl
          have h8d : WaG p n (⟨s.now, 0, zCm, s.L⟩ : Wa) g W8.drew S := H8.out.1.1.keep (fun _ _ => rfl) (Nat.le_refl _)
          obtain ⟨w9, hrun, hm9, hg9⟩ := h8d.m.2.2.del tokK Try.underlying116 (x := s.c.token) HWT.out 0
          have HRUN := Lib.hid hrun
          have H9 : Hid (WaG p n ⟨s.now, 0, zCm, woV s.c.token s.L⟩ g w9 S ∧ Only S w w9) := Lib.hid ⟨h8d.del hm9 hg9, (show Only S w W8.drew from H8.out.1.2).trans (only_grown hg9 H8.out.1.1.sg)⟩
          have HC : Hid (W8.drew.cell? ⟨p, 11, none⟩ = some (.map (some g)) ∧ W8.drew.cell? ⟨g5, 2, none⟩ = some (.int .i64 s.c.token)) := Lib.hid ⟨(cell_of_row W8 _ 11 _ _ _ H8.out.1.1.row).trans rfl, q2⟩
          clear h8d hrun hm9 hg9
          go_upto_region 19 with fail
          clear a0 a1 a2 q0 q2 q6 t0 t1 t2 p1
          refine Wl.start 6 (fun v => v.cell? ⟨p, 11, none⟩ = some (.map (some g)) ∧ v.cell? ⟨g5, 2, none⟩ = some (.int .i64 s.c.token)) (fun _ => True) (by kernel_rfl) HC.out trivial (fun hk => ?_)
          refine Wl.take (i := 0) (v := .pointer (some ⟨p, 0, none⟩)) [1, 2, 3, 6] rfl (by kernel_rfl) (by kernel_rfl) (by kernel_rfl) (by kernel_rfl) (by kernel_rfl) (fun _ _ _ h => h) (.inl ⟨by kernel_rfl, ?_⟩) hk ?_
          · intro wx hSw
            clear hSw hk
            go_simp
            try first | with_reducible rfl | kernel_rfl
          simp only [Act.put, List.getElem_toArray, List.getElem_cons_succ, List.getElem_cons_zero, List.setIfInBounds_toArray, List.set_cons_succ, List.set_cons_zero]
          refine Wl.take (i := 1) (v := .pointer (some ⟨p, 0, none⟩)) [2, 3, 6] rfl (by kernel_rfl) (by kernel_rfl) (by kernel_rfl) (by kernel_rfl) (by kernel_rfl) (fun _ _ _ h => h) (.inl ⟨by kernel_rfl, ?_⟩) hk ?_
          · intro wx hSw
            clear hSw hk
            go_simp
            try first | with_reducible rfl | kernel_rfl
          simp only [Act.put, List.getElem_toArray, List.getElem_cons_succ, List.getElem_cons_zero, List.setIfInBounds_toArray, List.set_cons_succ, List.set_cons_zero]
          refine Wl.take (i := 2) (v := .pointer (some ⟨p, 11, none⟩)) [3, 6] rfl (by kernel_rfl) (by kernel_rfl) (by kernel_rfl) (by kernel_rfl) (by kernel_rfl) (fun _ _ _ h => h) (.inl ⟨by kernel_rfl, ?_⟩) hk ?_
          · intro wx hSw
            clear hSw hk
            go_simp
            try first | with_reducible rfl | kernel_rfl
          simp only [Act.put, List.getElem_toArray, List.getElem_cons_succ, List.getElem_cons_zero, List.setIfInBounds_toArray, List.set_cons_succ, List.set_cons_zero]
          refine Wl.take (i := 3) (v := .map (some g)) [6] rfl (by kernel_rfl) (by kernel_rfl) (by kernel_rfl) (by kernel_rfl) (by kernel_rfl) (fun _ _ _ h => h) (.inl ⟨by kernel_rfl, ?_⟩) hk ?_
          · intro wx hSw
            have cc := hSw.1.1
            clear hSw hk
            go_simp
            try first | with_reducible rfl | kernel_rfl
          simp only [Act.put, List.getElem_toArray, List.getElem_cons_succ, List.getElem_cons_zero, List.setIfInBounds_toArray, List.set_cons_succ, List.set_cons_zero]
          refine Wl.take (i := 4) (v := .pointer (some ⟨g5, 2, none⟩)) [5, 6] rfl (by kernel_rfl) (by kernel_rfl) (by kernel_rfl) (by kernel_rfl) (by kernel_rfl) (fun _ _ _ h => h) (.inl ⟨by kernel_rfl, ?_⟩) hk ?_
          · intro wx hSw
            clear hSw hk
            go_simp
            try first | with_reducible rfl | kernel_rfl
          simp only [Act.put, List.getElem_toArray, List.getElem_cons_succ, List.getElem_cons_zero, List.setIfInBounds_toArray, List.set_cons_succ, List.set_cons_zero]
          refine Wl.take (i := 5) (v := .int .i64 s.c.token) [6] rfl (by kernel_rfl) (by kernel_rfl) (by kernel_rfl) (by kernel_rfl) (by kernel_rfl) (fun _ _ _ h => h) (.inl ⟨by kernel_rfl, ?_⟩) hk ?_
          · intro wx hSw
            have cc := hSw.1.2
            clear hSw hk
            go_simp
            try first | with_reducible rfl | kernel_rfl
          simp only [Act.put, List.getElem_toArray, List.getElem_cons_succ, List.getElem_cons_zero, List.setIfInBounds_toArray, List.set_cons_succ, List.set_cons_zero]
          refine Wl.one (i := 6) (by kernel_rfl) rfl (fun K hK => ?_)
          go_simp
          have hrun := HRUN.out
          go_simp
          clear hrun
          refine hK.out _ _ (Wl.Kn.off (by kernel_rfl) trivial) (fun hk => ?_)
          clear hK K
          refine Wl.done (by kernel_rfl) ?_ _
          clear hk
          go_wp2
          go_ret
          exact ⟨by rw [HTE.out]; rfl, by rw [HFIN.out]; exact Mc.Left.mk (goodW p n _) ⟨g, H9.out.1⟩ (H9.out.2)⟩
        · have HFIN : Hid (toldV n s a = ⟨s.now, 0, zCm, s.L⟩) := Lib.hid (by
            unfold toldV
            rw [if_neg HK0.out]
            congr 1
            unfold toldL
            rw [HU.out]
            rw [if_neg hk3, HF.out]
            refine (if_pos HSE.out).trans ?_
            rw [if_neg (fun h => hc3 h.2)]
            exact if_neg (fun h => h.elim (fun h => hc4 h.2) (fun h => absurd h.1 (by omega)))
          )
          have k3 : (s.c.kind == 3) = false := beq_eq_false_iff_ne.2 (by omega)
          have k4 : (s.c.kind == 4) = true := beq_iff_eq.2 (by omega)
          have k5 : (s.c.kind == 5) = false := beq_eq_false_iff_ne.2 (by omega)
          have o3 : (a.code == 3) = false := beq_eq_false_iff_ne.2 (by omega)
          have o4 : (a.code == 4) = false := beq_eq_false_iff_ne.2 (by omega)
          have a0 : W8.cell? ⟨g3, 0, none⟩ = some (.int .i64 a.code) := (cell_of_row _ _ 0 _ _ _ H8.out.2.1).trans rfl
          have a1 : W8.cell? ⟨g3, 1, none⟩ = some (.int .i64 a.token) := (cell_of_row _ _ 1 _ _ _ H8.out.2.1).trans rfl
          have a2 : W8.cell? ⟨g3, 2, none⟩ = some (.int .u64 a.serial) := (cell_of_row _ _ 2 _ _ _ H8.out.2.1).trans rfl
          have q0 : W8.cell? ⟨g5, 0, none⟩ = some (.int .i64 s.c.kind) := (cell_of_row _ _ 0 _ _ _ H8.out.2.2.1).trans rfl
          have q2 : W8.cell? ⟨g5, 2, none⟩ = some (.int .i64 s.c.token) := (cell_of_row _ _ 2 _ _ _ H8.out.2.2.1).trans rfl
          have q6 : W8.cell? ⟨g5, 6, none⟩ = some (.int .u64 s.c.serial) := (cell_of_row _ _ 6 _ _ _ H8.out.2.2.1).trans rfl
          have t0 : W8.cell? ⟨g8, 0, none⟩ = some (.int .i64 tv.tok) := (cell_of_row _ _ 0 _ _ _ H8.out.2.2.2).trans rfl
          have t1 : W8.cell? ⟨g8, 1, none⟩ = some (.int .u64 tv.ser) := (cell_of_row _ _ 1 _ _ _ H8.out.2.2.2).trans rfl
          have t2 : W8.cell? ⟨g8, 2, none⟩ = some (.int .i64 tv.til) := (cell_of_row _ _ 2 _ _ _ H8.out.2.2.2).trans rfl
          have p1 : W8.cell? ⟨p, 1, none⟩ = some (.int .i64 s.now) := (cell_of_row _ _ 1 _ _ _ H8.out.1.1.row).trans rfl
          go_wp2
          go_ret
          exact ⟨by rw [HTE.out]; rfl, by rw [HFIN.out]; exact Mc.Left.mk (goodW p n _) ⟨g, H8.out.1.1⟩ (H8.out.1.2)⟩
    by_cases hk5 : s.c.kind = 5
    · by_cases hc5 : a.code = 5
      · have HFIN : Hid (toldV n s a = ⟨s.now, 0, zCm, woV s.c.token s.L⟩) := Lib.hid (by
          unfold toldV
          rw [if_neg HK0.out]
          congr 1
          unfold toldL
          rw [HU.out]
          rw [if_neg hk3, HF.out]
          refine (if_pos HSE.out).trans ?_
          rw [if_neg (fun h => hk4 h.1)]
          exact if_pos (.inr ⟨hk5, hc5⟩)
        )
        have k3 : (s.c.kind == 3) = false := beq_eq_false_iff_ne.2 (by omega)
        have k4 : (s.c.kind == 4) = false := beq_eq_false_iff_ne.2 (by omega)
        have k5 : (s.c.kind == 5) = true := beq_iff_eq.2 (by omega)
        have o5 : (a.code == 5) = true := beq_iff_eq.2 (by omega)
        have a0 : W8.cell? ⟨g3, 0, none⟩ = some (.int .i64 a.code) := (cell_of_row _ _ 0 _ _ _ H8.out.2.1).trans rfl
        have a1 : W8.cell? ⟨g3, 1, none⟩ = some (.int .i64 a.token) := (cell_of_row _ _ 1 _ _ _ H8.out.2.1).trans rfl
        have a2 : W8.cell? ⟨g3, 2, none⟩ = some (.int .u64 a.serial) := (cell_of_row _ _ 2 _ _ _ H8.out.2.1).trans rfl
        have q0 : W8.cell? ⟨g5, 0, none⟩ = some (.int .i64 s.c.kind) := (cell_of_row _ _ 0 _ _ _ H8.out.2.2.1).trans rfl
        have q2 : W8.cell? ⟨g5, 2, none⟩ = some (.int .i64 s.c.token) := (cell_of_row _ _ 2 _ _ _ H8.out.2.2.1).trans rfl
        have q6 : W8.cell? ⟨g5, 6, none⟩ = some (.int .u64 s.c.serial) := (cell_of_row _ _ 6 _ _ _ H8.out.2.2.1).trans rfl
        have t0 : W8.cell? ⟨g8, 0, none⟩ = some (.int .i64 tv.tok) := (cell_of_row _ _ 0 _ _ _ H8.out.2.2.2).trans rfl
        have t1 : W8.cell? ⟨g8, 1, none⟩ = some (.int .u64 tv.ser) := (cell_of_row _ _ 1 _ _ _ H8.out.2.2.2).trans rfl
        have t2 : W8.cell? ⟨g8, 2, none⟩ = some (.int .i64 tv.til) := (cell_of_row _ _ 2 _ _ _ H8.out.2.2.2).trans rfl
        have p1 : W8.cell? ⟨p, 1, none⟩ = some (.int .i64 s.now) := (cell_of_row _ _ 1 _ _ _ H8.out.1.1.row).trans rfl
        have h8d : WaG p n (⟨s.now, 0, zCm, s.L⟩ : Wa) g W8.drew S := H8.out.1.1.keep (fun _ _ => rfl) (Nat.le_refl _)
        obtain ⟨w9, hrun, hm9, hg9⟩ := h8d.m.2.2.del tokK Try.underlying116 (x := s.c.token) HWT.out 0
        have HRUN := Lib.hid hrun
        have H9 : Hid (WaG p n ⟨s.now, 0, zCm, woV s.c.token s.L⟩ g w9 S ∧ Only S w w9) := Lib.hid ⟨h8d.del hm9 hg9, (show Only S w W8.drew from H8.out.1.2).trans (only_grown hg9 H8.out.1.1.sg)⟩
        have HC : Hid (W8.drew.cell? ⟨p, 11, none⟩ = some (.map (some g)) ∧ W8.drew.cell? ⟨g5, 2, none⟩ = some (.int .i64 s.c.token)) := Lib.hid ⟨(cell_of_row W8 _ 11 _ _ _ H8.out.1.1.row).trans rfl, q2⟩
        clear h8d hrun hm9 hg9
        go_upto_region 19 with fail
        clear a0 a1 a2 q0 q2 q6 t0 t1 t2 p1
        refine Wl.start 6 (fun v => v.cell? ⟨p, 11, none⟩ = some (.map (some g)) ∧ v.cell? ⟨g5, 2, none⟩ = some (.int .i64 s.c.token)) (fun _ => True) (by kernel_rfl) HC.out trivial (fun hk => ?_)
        refine Wl.take (i := 0) (v := .pointer (some ⟨p, 0, none⟩)) [1, 2, 3, 6] rfl (by kernel_rfl) (by kernel_rfl) (by kernel_rfl) (by kernel_rfl) (by kernel_rfl) (fun _ _ _ h => h) (.inl ⟨by kernel_rfl, ?_⟩) hk ?_
        · intro wx hSw
          clear hSw hk
          go_simp
          try first | with_reducible rfl | kernel_rfl
        simp only [Act.put, List.getElem_toArray, List.getElem_cons_succ, List.getElem_cons_zero, List.setIfInBounds_toArray, List.set_cons_succ, List.set_cons_zero]
        refine Wl.take (i := 1) (v := .pointer (some ⟨p, 0, none⟩)) [2, 3, 6] rfl (by kernel_rfl) (by kernel_rfl) (by kernel_rfl) (by kernel_rfl) (by kernel_rfl) (fun _ _ _ h => h) (.inl ⟨by kernel_rfl, ?_⟩) hk ?_
        · intro wx hSw
          clear hSw hk
          go_simp
          try first | with_reducible rfl | kernel_rfl
        simp only [Act.put, List.getElem_toArray, List.getElem_cons_succ, List.getElem_cons_zero, List.setIfInBounds_toArray, List.set_cons_succ, List.set_cons_zero]
        refine Wl.take (i := 2) (v := .pointer (some ⟨p, 11, none⟩)) [3, 6] rfl (by kernel_rfl) (by kernel_rfl) (by kernel_rfl) (by kernel_rfl) (by kernel_rfl) (fun _ _ _ h => h) (.inl ⟨by kernel_rfl, ?_⟩) hk ?_
        · intro wx hSw
          clear hSw hk
          go_simp
          try first | with_reducible rfl | kernel_rfl
        simp only [Act.put, List.getElem_toArray, List.getElem_cons_succ, List.getElem_cons_zero, List.setIfInBounds_toArray, List.set_cons_succ, List.set_cons_zero]
        refine Wl.take (i := 3) (v := .map (some g)) [6] rfl (by kernel_rfl) (by kernel_rfl) (by kernel_rfl) (by kernel_rfl) (by kernel_rfl) (fun _ _ _ h => h) (.inl ⟨by kernel_rfl, ?_⟩) hk ?_
        · intro wx hSw
          have cc := hSw.1.1
          clear hSw hk
          go_simp
          try first | with_reducible rfl | kernel_rfl
        simp only [Act.put, List.getElem_toArray, List.getElem_cons_succ, List.getElem_cons_zero, List.setIfInBounds_toArray, List.set_cons_succ, List.set_cons_zero]
        refine Wl.take (i := 4) (v := .pointer (some ⟨g5, 2, none⟩)) [5, 6] rfl (by kernel_rfl) (by kernel_rfl) (by kernel_rfl) (by kernel_rfl) (by kernel_rfl) (fun _ _ _ h => h) (.inl ⟨by kernel_rfl, ?_⟩) hk ?_
        · intro wx hSw
          clear hSw hk
          go_simp
          try first | with_reducible rfl | kernel_rfl
        simp only [Act.put, List.getElem_toArray, List.getElem_cons_succ, List.getElem_cons_zero, List.setIfInBounds_toArray, List.set_cons_succ, List.set_cons_zero]
        refine Wl.take (i := 5) (v := .int .i64 s.c.token) [6] rfl (by kernel_rfl) (by kernel_rfl) (by kernel_rfl) (by kernel_rfl) (by kernel_rfl) (fun _ _ _ h => h) (.inl ⟨by kernel_rfl, ?_⟩) hk ?_
        · intro wx hSw
          have cc := hSw.1.2
          clear hSw hk
          go_simp
          try first | with_reducible rfl | kernel_rfl
        simp only [Act.put, List.getElem_toArray, List.getElem_cons_succ, List.getElem_cons_zero, List.setIfInBounds_toArray, List.set_cons_succ, List.set_cons_zero]
        refine Wl.one (i := 6) (by kernel_rfl) rfl (fun K hK => ?_)
        go_simp
        have hrun := HRUN.out
        go_simp
        clear hrun
        refine hK.out _ _ (Wl.Kn.off (by kernel_rfl) trivial) (fun hk => ?_)
        clear hK K
        refine Wl.done (by kernel_rfl) ?_ _
        clear hk
        go_wp2
        go_ret
        exact ⟨by rw [HTE.out]; rfl, by rw [HFIN.out]; exact Mc.Left.mk (goodW p n _) ⟨g, H9.out.1⟩ (H9.out.2)⟩
      · have HFIN : Hid (toldV n s a = ⟨s.now, 0, zCm, s.L⟩) := Lib.hid (by
          unfold toldV
          rw [if_neg HK0.out]
          congr 1
          unfold toldL
          rw [HU.out]
          rw [if_neg hk3, HF.out]
          refine (if_pos HSE.out).trans ?_
          rw [if_neg (fun h => hk4 h.1)]
          exact if_neg (fun h => h.elim (fun h => hk4 h.1) (fun h => hc5 h.2))
        )
        have k3 : (s.c.kind == 3) = false := beq_eq_false_iff_ne.2 (by omega)
        have k4 : (s.c.kind == 4) = false := beq_eq_false_iff_ne.2 (by omega)
        have k5 : (s.c.kind == 5) = true := beq_iff_eq.2 (by omega)
        have o5 : (a.code == 5) = false := beq_eq_false_iff_ne.2 (by omega)
        have a0 : W8.cell? ⟨g3, 0, none⟩ = some (.int .i64 a.code) := (cell_of_row _ _ 0 _ _ _ H8.out.2.1).trans rfl
        have a1 : W8.cell? ⟨g3, 1, none⟩ = some (.int .i64 a.token) := (cell_of_row _ _ 1 _ _ _ H8.out.2.1).trans rfl
        have a2 : W8.cell? ⟨g3, 2, none⟩ = some (.int .u64 a.serial) := (cell_of_row _ _ 2 _ _ _ H8.out.2.1).trans rfl
        have q0 : W8.cell? ⟨g5, 0, none⟩ = some (.int .i64 s.c.kind) := (cell_of_row _ _ 0 _ _ _ H8.out.2.2.1).trans rfl
        have q2 : W8.cell? ⟨g5, 2, none⟩ = some (.int .i64 s.c.token) := (cell_of_row _ _ 2 _ _ _ H8.out.2.2.1).trans rfl
        have q6 : W8.cell? ⟨g5, 6, none⟩ = some (.int .u64 s.c.serial) := (cell_of_row _ _ 6 _ _ _ H8.out.2.2.1).trans rfl
        have t0 : W8.cell? ⟨g8, 0, none⟩ = some (.int .i64 tv.tok) := (cell_of_row _ _ 0 _ _ _ H8.out.2.2.2).trans rfl
        have t1 : W8.cell? ⟨g8, 1, none⟩ = some (.int .u64 tv.ser) := (cell_of_row _ _ 1 _ _ _ H8.out.2.2.2).trans rfl
        have t2 : W8.cell? ⟨g8, 2, none⟩ = some (.int .i64 tv.til) := (cell_of_row _ _ 2 _ _ _ H8.out.2.2.2).trans rfl
        have p1 : W8.cell? ⟨p, 1, none⟩ = some (.int .i64 s.now) := (cell_of_row _ _ 1 _ _ _ H8.out.1.1.row).trans rfl
        go_wp2
        go_ret
        exact ⟨by rw [HTE.out]; rfl, by rw [HFIN.out]; exact Mc.Left.mk (goodW p n _) ⟨g, H8.out.1.1⟩ (H8.out.1.2)⟩
    have HFIN : Hid (toldV n s a = ⟨s.now, 0, zCm, s.L⟩) := Lib.hid (by
      unfold toldV
      rw [if_neg HK0.out]
      congr 1
      unfold toldL
      rw [HU.out]
      rw [if_neg hk3, HF.out]
      refine (if_pos HSE.out).trans ?_
      rw [if_neg (fun h => hk4 h.1)]
      exact if_neg (fun h => h.elim (fun h => hk4 h.1) (fun h => hk5 h.1))
    )
    have k3 : (s.c.kind == 3) = false := beq_eq_false_iff_ne.2 (by omega)
    have k4 : (s.c.kind == 4) = false := beq_eq_false_iff_ne.2 (by omega)
    have k5 : (s.c.kind == 5) = false := beq_eq_false_iff_ne.2 (by omega)
    have a0 : W8.cell? ⟨g3, 0, none⟩ = some (.int .i64 a.code) := (cell_of_row _ _ 0 _ _ _ H8.out.2.1).trans rfl
    have a1 : W8.cell? ⟨g3, 1, none⟩ = some (.int .i64 a.token) := (cell_of_row _ _ 1 _ _ _ H8.out.2.1).trans rfl
    have a2 : W8.cell? ⟨g3, 2, none⟩ = some (.int .u64 a.serial) := (cell_of_row _ _ 2 _ _ _ H8.out.2.1).trans rfl
    have q0 : W8.cell? ⟨g5, 0, none⟩ = some (.int .i64 s.c.kind) := (cell_of_row _ _ 0 _ _ _ H8.out.2.2.1).trans rfl
    have q2 : W8.cell? ⟨g5, 2, none⟩ = some (.int .i64 s.c.token) := (cell_of_row _ _ 2 _ _ _ H8.out.2.2.1).trans rfl
    have q6 : W8.cell? ⟨g5, 6, none⟩ = some (.int .u64 s.c.serial) := (cell_of_row _ _ 6 _ _ _ H8.out.2.2.1).trans rfl
    have t0 : W8.cell? ⟨g8, 0, none⟩ = some (.int .i64 tv.tok) := (cell_of_row _ _ 0 _ _ _ H8.out.2.2.2).trans rfl
    have t1 : W8.cell? ⟨g8, 1, none⟩ = some (.int .u64 tv.ser) := (cell_of_row _ _ 1 _ _ _ H8.out.2.2.2).trans rfl
    have t2 : W8.cell? ⟨g8, 2, none⟩ = some (.int .i64 tv.til) := (cell_of_row _ _ 2 _ _ _ H8.out.2.2.2).trans rfl
    have p1 : W8.cell? ⟨p, 1, none⟩ = some (.int .i64 s.now) := (cell_of_row _ _ 1 _ _ _ H8.out.1.1.row).trans rfl
    go_wp2
    go_ret
    exact ⟨by rw [HTE.out]; rfl, by rw [HFIN.out]; exact Mc.Left.mk (goodW p n _) ⟨g, H8.out.1.1⟩ (H8.out.1.2)⟩
  · have hsb : (tv.ser == s.c.serial) = false := beq_eq_false_iff_ne.2 hse
    have HSE := Lib.hid hse
    clear hse
    by_cases hk3 : s.c.kind = 3
    · by_cases hc1 : a.code = 1
      · by_cases hlt : s.now < u
        · have HFIN : Hid (toldV n s a = ⟨s.now, 0, zCm, wiV ⟨a.token, a.serial, u⟩ s.L⟩) := Lib.hid (by
            unfold toldV
            rw [if_neg HK0.out]
            congr 1
            unfold toldL
            rw [HU.out]
            rw [if_pos hk3]
            exact if_pos ⟨hc1, hlt⟩
          )
          have k3 : (s.c.kind == 3) = true := beq_iff_eq.2 (by omega)
          have k4 : (s.c.kind == 4) = false := beq_eq_false_iff_ne.2 (by omega)
          have k5 : (s.c.kind == 5) = false := beq_eq_false_iff_ne.2 (by omega)
          have o1 : (a.code == 1) = true := beq_iff_eq.2 (by omega)
          have a0 : W8.cell? ⟨g3, 0, none⟩ = some (.int .i64 a.code) := (cell_of_row _ _ 0 _ _ _ H8.out.2.1).trans rfl
          have a1 : W8.cell? ⟨g3, 1, none⟩ = some (.int .i64 a.token) := (cell_of_row _ _ 1 _ _ _ H8.out.2.1).trans rfl
          have a2 : W8.cell? ⟨g3, 2, none⟩ = some (.int .u64 a.serial) := (cell_of_row _ _ 2 _ _ _ H8.out.2.1).trans rfl
          have q0 : W8.cell? ⟨g5, 0, none⟩ = some (.int .i64 s.c.kind) := (cell_of_row _ _ 0 _ _ _ H8.out.2.2.1).trans rfl
          have q2 : W8.cell? ⟨g5, 2, none⟩ = some (.int .i64 s.c.token) := (cell_of_row _ _ 2 _ _ _ H8.out.2.2.1).trans rfl
          have q6 : W8.cell? ⟨g5, 6, none⟩ = some (.int .u64 s.c.serial) := (cell_of_row _ _ 6 _ _ _ H8.out.2.2.1).trans rfl
          have t0 : W8.cell? ⟨g8, 0, none⟩ = some (.int .i64 tv.tok) := (cell_of_row _ _ 0 _ _ _ H8.out.2.2.2).trans rfl
          have t1 : W8.cell? ⟨g8, 1, none⟩ = some (.int .u64 tv.ser) := (cell_of_row _ _ 1 _ _ _ H8.out.2.2.2).trans rfl
          have t2 : W8.cell? ⟨g8, 2, none⟩ = some (.int .i64 tv.til) := (cell_of_row _ _ 2 _ _ _ H8.out.2.2.2).trans rfl
          have p1 : W8.cell? ⟨p, 1, none⟩ = some (.int .i64 s.now) := (cell_of_row _ _ 1 _ _ _ H8.out.1.1.row).trans rfl
          have h8d : WaG p n (⟨s.now, 0, zCm, s.L⟩ : Wa) g W8.drew S := H8.out.1.1.keep (fun _ _ => rfl) (Nat.le_refl _)
          have huw : (Lit.int .i64 u).wf = true := La.wf_i64 (by have := HUB.out; omega) (by have := HUB.out; omega)
          obtain ⟨w9, hrun, hm9, hg9⟩ := h8d.m.2.2.put tokK Try.underlying116 (by have := HN.out; unfold maxLen; dsimp only; omega) (x := a.token) HA.out.1 (trV ⟨a.token, a.serial, u⟩)
          have HRUN := Lib.hid hrun
          have H9 : Hid (WaG p n ⟨s.now, 0, zCm, wiV ⟨a.token, a.serial, u⟩ s.L⟩ g w9 S ∧ Only S w w9) := Lib.hid ⟨h8d.put (x := ⟨a.token, a.serial, u⟩) ⟨HA.out.1, HA.out.2, huw⟩ hm9 hg9, (show Only S w W8.drew from H8.out.1.2).trans (only_grown hg9 H8.out.1.1.sg)⟩
          have HC : Hid (W8.drew.cell? ⟨p, 11, none⟩ = some (.map (some g)) ∧ W8.drew.cell? ⟨g3, 1, none⟩ = some (.int .i64 a.token) ∧ W8.drew.cell? ⟨g3, 2, none⟩ = some (.int .u64 a.serial)) := Lib.hid ⟨(cell_of_row W8 _ 11 _ _ _ H8.out.1.1.row).trans rfl, a1, a2⟩
          clear h8d huw hrun hm9 hg9
          go_upto_region 11 with fail
          clear a0 a1 a2 q0 q2 q6 t0 t1 t2 p1
          refine Wl.start 12 (fun v => v.cell? ⟨p, 11, none⟩ = some (.map (some g)) ∧ v.cell? ⟨g3, 1, none⟩ = some (.int .i64 a.token) ∧ v.cell? ⟨g3, 2, none⟩ = some (.int .u64 a.serial)) (fun _ => True) (by kernel_rfl) HC.out trivial (fun hk => ?_)
          refine Wl.take (i := 0) (v := .pointer (some ⟨p, 0, none⟩)) [1, 2, 3, 12] rfl (by kernel_rfl) (by kernel_rfl) (by kernel_rfl) (by kernel_rfl) (by kernel_rfl) (fun _ _ _ h => h) (.inl ⟨by kernel_rfl, ?_⟩) hk ?_
          · intro wx hSw
            clear hSw hk
            go_simp
            try first | with_reducible rfl | kernel_rfl
          simp only [Act.put, List.getElem_toArray, List.getElem_cons_succ, List.getElem_cons_zero, List.setIfInBounds_toArray, List.set_cons_succ, List.set_cons_zero]
          refine Wl.take (i := 1) (v := .pointer (some ⟨p, 0, none⟩)) [2, 3, 12] rfl (by kernel_rfl) (by kernel_rfl) (by kernel_rfl) (by kernel_rfl) (by kernel_rfl) (fun _ _ _ h => h) (.inl ⟨by kernel_rfl, ?_⟩) hk ?_
          · intro wx hSw
            clear hSw hk
            go_simp
            try first | with_reducible rfl | kernel_rfl
          simp only [Act.put, List.getElem_toArray, List.getElem_cons_succ, List.getElem_cons_zero, List.setIfInBounds_toArray, List.set_cons_succ, List.set_cons_zero]
          refine Wl.take (i := 2) (v := .pointer (some ⟨p, 11, none⟩)) [3, 12] rfl (by kernel_rfl) (by kernel_rfl) (by kernel_rfl) (by kernel_rfl) (by kernel_rfl) (fun _ _ _ h => h) (.inl ⟨by kernel_rfl, ?_⟩) hk ?_
          · intro wx hSw
            clear hSw hk
            go_simp
            try first | with_reducible rfl | kernel_rfl
          simp only [Act.put, List.getElem_toArray, List.getElem_cons_succ, List.getElem_cons_zero, List.setIfInBounds_toArray, List.set_cons_succ, List.set_cons_zero]
          refine Wl.take (i := 3) (v := .map (some g)) [12] rfl (by kernel_rfl) (by kernel_rfl) (by kernel_rfl) (by kernel_rfl) (by kernel_rfl) (fun _ _ _ h => h) (.inl ⟨by kernel_rfl, ?_⟩) hk ?_
          · intro wx hSw
            have cc := hSw.1.1
            clear hSw hk
            go_simp
            try first | with_reducible rfl | kernel_rfl
          simp only [Act.put, List.getElem_toArray, List.getElem_cons_succ, List.getElem_cons_zero, List.setIfInBounds_toArray, List.set_cons_succ, List.set_cons_zero]
          refine Wl.take (i := 4) (v := .pointer (some ⟨g3, 1, none⟩)) [5, 12] rfl (by kernel_rfl) (by kernel_rfl) (by kernel_rfl) (by kernel_rfl) (by kernel_rfl) (fun _ _ _ h => h) (.inl ⟨by kernel_rfl, ?_⟩) hk ?_
          · intro wx hSw
            clear hSw hk
            go_simp
            try first | with_reducible rfl | kernel_rfl
          simp only [Act.put, List.getElem_toArray, List.getElem_cons_succ, List.getElem_cons_zero, List.setIfInBounds_toArray, List.set_cons_succ, List.set_cons_zero]
          refine Wl.take (i := 5) (v := .int .i64 a.token) [12] rfl (by kernel_rfl) (by kernel_rfl) (by kernel_rfl) (by kernel_rfl) (by kernel_rfl) (fun _ _ _ h => h) (.inl ⟨by kernel_rfl, ?_⟩) hk ?_
          · intro wx hSw
            have cc := hSw.1.2.1
            clear hSw hk
            go_simp
            try first | with_reducible rfl | kernel_rfl
          simp only [Act.put, List.getElem_toArray, List.getElem_cons_succ, List.getElem_cons_zero, List.setIfInBounds_toArray, List.set_cons_succ, List.set_cons_zero]
          refine Wl.take (i := 6) (v := .pointer (some ⟨g3, 1, none⟩)) [7, 11, 12] rfl (by kernel_rfl) (by kernel_rfl) (by kernel_rfl) (by kernel_rfl) (by kernel_rfl) (fun _ _ _ h => h) (.inl ⟨by kernel_rfl, ?_⟩) hk ?_
          · intro wx hSw
            clear hSw hk
            go_simp
            try first | with_reducible rfl | kernel_rfl
          simp only [Act.put, List.getElem_toArray, List.getElem_cons_succ, List.getElem_cons_zero, List.setIfInBounds_toArray, List.set_cons_succ, List.set_cons_zero]
          refine Wl.take (i := 7) (v := .int .i64 a.token) [11, 12] rfl (by kernel_rfl) (by kernel_rfl) (by kernel_rfl) (by kernel_rfl) (by kernel_rfl) (fun _ _ _ h => h) (.inl ⟨by kernel_rfl, ?_⟩) hk ?_
          · intro wx hSw
            have cc := hSw.1.2.1
            clear hSw hk
            go_simp
            try first | with_reducible rfl | kernel_rfl
          simp only [Act.put, List.getElem_toArray, List.getElem_cons_succ, List.getElem_cons_zero, List.setIfInBounds_toArray, List.set_cons_succ, List.set_cons_zero]
          refine Wl.take (i := 8) (v := .pointer (some ⟨g3, 2, none⟩)) [9, 11, 12] rfl (by kernel_rfl) (by kernel_rfl) (by kernel_rfl) (by kernel_rfl) (by kernel_rfl) (fun _ _ _ h => h) (.inl ⟨by kernel_rfl, ?_⟩) hk ?_
          · intro wx hSw
            clear hSw hk
            go_simp
            try first | with_reducible rfl | kernel_rfl
          simp only [Act.put, List.getElem_toArray, List.getElem_cons_succ, List.getElem_cons_zero, List.setIfInBounds_toArray, List.set_cons_succ, List.set_cons_zero]
          refine Wl.take (i := 9) (v := .int .u64 a.serial) [11, 12] rfl (by kernel_rfl) (by kernel_rfl) (by kernel_rfl) (by kernel_rfl) (by kernel_rfl) (fun _ _ _ h => h) (.inl ⟨by kernel_rfl, ?_⟩) hk ?_
          · intro wx hSw
            have cc := hSw.1.2.2
            clear hSw hk
            go_simp
            try first | with_reducible rfl | kernel_rfl
          simp only [Act.put, List.getElem_toArray, List.getElem_cons_succ, List.getElem_cons_zero, List.setIfInBounds_toArray, List.set_cons_succ, List.set_cons_zero]
          refine Wl.take (i := 10) (v := .int .i64 u) [11, 12] rfl (by kernel_rfl) (by kernel_rfl) (by kernel_rfl) (by kernel_rfl) (by kernel_rfl) (fun _ _ _ h => h) (.inl ⟨by kernel_rfl, ?_⟩) hk ?_
          · intro wx hSw
            clear hSw hk
            go_simp
            try first | with_reducible rfl | kernel_rfl
          simp only [Act.put, List.getElem_toArray, List.getElem_cons_succ, List.getElem_cons_zero, List.setIfInBounds_toArray, List.set_cons_succ, List.set_cons_zero]
          refine Wl.take (i := 11) (v := .agg #[.int .i64 a.token, .int .u64 a.serial, .int .i64 u]) [12] rfl (by kernel_rfl) (by kernel_rfl) (by kernel_rfl) (by kernel_rfl) (by kernel_rfl) (fun _ _ _ h => h) (.inl ⟨by kernel_rfl, ?_⟩) hk ?_
          · intro wx hSw
            clear hSw hk
            go_simp
            try first | with_reducible rfl | kernel_rfl
          simp only [Act.put, List.getElem_toArray, List.getElem_cons_succ, List.getElem_cons_zero, List.setIfInBounds_toArray, List.set_cons_succ, List.set_cons_zero]
          refine Wl.one (i := 12) (by kernel_rfl) rfl (fun K hK => ?_)
          go_simp
          have hrun := HRUN.out
          go_simp
          clear hrun
          refine hK.out _ _ (Wl.Kn.off (by kernel_rfl) trivial) (fun hk => ?_)
          clear hK K
          refine Wl.done (by kernel_rfl) ?_ _
          clear hk
          go_wp2
          go_ret
          exact ⟨by rw [HTE.out]; rfl, by rw [HFIN.out]; exact Mc.Left.mk (goodW p n _) ⟨g, H9.out.1⟩ (H9.out.2)⟩
        · have HFIN : Hid (toldV n s a = ⟨s.now, 0, zCm, s.L⟩) := Lib.hid (by
            unfold toldV
            rw [if_neg HK0.out]
            congr 1
            unfold toldL
            rw [HU.out]
            rw [if_pos hk3]
            exact if_neg (fun h => hlt h.2)
          )
          have k3 : (s.c.kind == 3) = true := beq_iff_eq.2 (by omega)
          have k4 : (s.c.kind == 4) = false := beq_eq_false_iff_ne.2 (by omega)
          have k5 : (s.c.kind == 5) = false := beq_eq_false_iff_ne.2 (by omega)
          have o1 : (a.code == 1) = true := beq_iff_eq.2 (by omega)
          have a0 : W8.cell? ⟨g3, 0, none⟩ = some (.int .i64 a.code) := (cell_of_row _ _ 0 _ _ _ H8.out.2.1).trans rfl
          have a1 : W8.cell? ⟨g3, 1, none⟩ = some (.int .i64 a.token) := (cell_of_row _ _ 1 _ _ _ H8.out.2.1).trans rfl
          have a2 : W8.cell? ⟨g3, 2, none⟩ = some (.int .u64 a.serial) := (cell_of_row _ _ 2 _ _ _ H8.out.2.1).trans rfl
          have q0 : W8.cell? ⟨g5, 0, none⟩ = some (.int .i64 s.c.kind) := (cell_of_row _ _ 0 _ _ _ H8.out.2.2.1).trans rfl
          have q2 : W8.cell? ⟨g5, 2, none⟩ = some (.int .i64 s.c.token) := (cell_of_row _ _ 2 _ _ _ H8.out.2.2.1).trans rfl
          have q6 : W8.cell? ⟨g5, 6, none⟩ = some (.int .u64 s.c.serial) := (cell_of_row _ _ 6 _ _ _ H8.out.2.2.1).trans rfl
          have t0 : W8.cell? ⟨g8, 0, none⟩ = some (.int .i64 tv.tok) := (cell_of_row _ _ 0 _ _ _ H8.out.2.2.2).trans rfl
          have t1 : W8.cell? ⟨g8, 1, none⟩ = some (.int .u64 tv.ser) := (cell_of_row _ _ 1 _ _ _ H8.out.2.2.2).trans rfl
          have t2 : W8.cell? ⟨g8, 2, none⟩ = some (.int .i64 tv.til) := (cell_of_row _ _ 2 _ _ _ H8.out.2.2.2).trans rfl
          have p1 : W8.cell? ⟨p, 1, none⟩ = some (.int .i64 s.now) := (cell_of_row _ _ 1 _ _ _ H8.out.1.1.row).trans rfl
          go_wp2
          go_ret
          exact ⟨by rw [HTE.out]; rfl, by rw [HFIN.out]; exact Mc.Left.mk (goodW p n _) ⟨g, H8.out.1.1⟩ (H8.out.1.2)⟩
      · have HFIN : Hid (toldV n s a = ⟨s.now, 0, zCm, s.L⟩) := Lib.hid (by
          unfold toldV
          rw [if_neg HK0.out]
          congr 1
          unfold toldL
          rw [HU.out]
          rw [if_pos hk3]
          exact if_neg (fun h => hc1 h.1)
        )
        have k3 : (s.c.kind == 3) = true := beq_iff_eq.2 (by omega)
        have k4 : (s.c.kind == 4) = false := beq_eq_false_iff_ne.2 (by omega)
        have k5 : (s.c.kind == 5) = false := beq_eq_false_iff_ne.2 (by omega)
        have o1 : (a.code == 1) = false := beq_eq_false_iff_ne.2 (by omega)
        have a0 : W8.cell? ⟨g3, 0, none⟩ = some (.int .i64 a.code) := (cell_of_row _ _ 0 _ _ _ H8.out.2.1).trans rfl
        have a1 : W8.cell? ⟨g3, 1, none⟩ = some (.int .i64 a.token) := (cell_of_row _ _ 1 _ _ _ H8.out.2.1).trans rfl
        have a2 : W8.cell? ⟨g3, 2, none⟩ = some (.int .u64 a.serial) := (cell_of_row _ _ 2 _ _ _ H8.out.2.1).trans rfl
        have q0 : W8.cell? ⟨g5, 0, none⟩ = some (.int .i64 s.c.kind) := (cell_of_row _ _ 0 _ _ _ H8.out.2.2.1).trans rfl
        have q2 : W8.cell? ⟨g5, 2, none⟩ = some (.int .i64 s.c.token) := (cell_of_row _ _ 2 _ _ _ H8.out.2.2.1).trans rfl
        have q6 : W8.cell? ⟨g5, 6, none⟩ = some (.int .u64 s.c.serial) := (cell_of_row _ _ 6 _ _ _ H8.out.2.2.1).trans rfl
        have t0 : W8.cell? ⟨g8, 0, none⟩ = some (.int .i64 tv.tok) := (cell_of_row _ _ 0 _ _ _ H8.out.2.2.2).trans rfl
        have t1 : W8.cell? ⟨g8, 1, none⟩ = some (.int .u64 tv.ser) := (cell_of_row _ _ 1 _ _ _ H8.out.2.2.2).trans rfl
        have t2 : W8.cell? ⟨g8, 2, none⟩ = some (.int .i64 tv.til) := (cell_of_row _ _ 2 _ _ _ H8.out.2.2.2).trans rfl
        have p1 : W8.cell? ⟨p, 1, none⟩ = some (.int .i64 s.now) := (cell_of_row _ _ 1 _ _ _ H8.out.1.1.row).trans rfl
        go_wp2
        go_ret
        exact ⟨by rw [HTE.out]; rfl, by rw [HFIN.out]; exact Mc.Left.mk (goodW p n _) ⟨g, H8.out.1.1⟩ (H8.out.1.2)⟩
    by_cases hk4 : s.c.kind = 4
    · by_cases hc3 : a.code = 3
      · have HFIN : Hid (toldV n s a = ⟨s.now, 0, zCm, s.L⟩) := Lib.hid (by
          unfold toldV
          rw [if_neg HK0.out]
          congr 1
          unfold toldL
          rw [HU.out]
          rw [if_neg hk3, HF.out]
          exact if_neg HSE.out
        )
        have k3 : (s.c.kind == 3) = false := beq_eq_false_iff_ne.2 (by omega)
        have k4 : (s.c.kind == 4) = true := beq_iff_eq.2 (by omega)
        have k5 : (s.c.kind == 5) = false := beq_eq_false_iff_ne.2 (by omega)
        have o3 : (a.code == 3) = true := beq_iff_eq.2 (by omega)
        have a0 : W8.cell? ⟨g3, 0, none⟩ = some (.int .i64 a.code) := (cell_of_row _ _ 0 _ _ _ H8.out.2.1).trans rfl
        have a1 : W8.cell? ⟨g3, 1, none⟩ = some (.int .i64 a.token) := (cell_of_row _ _ 1 _ _ _ H8.out.2.1).trans rfl
        have a2 : W8.cell? ⟨g3, 2, none⟩ = some (.int .u64 a.serial) := (cell_of_row _ _ 2 _ _ _ H8.out.2.1).trans rfl
        have q0 : W8.cell? ⟨g5, 0, none⟩ = some (.int .i64 s.c.kind) := (cell_of_row _ _ 0 _ _ _ H8.out.2.2.1).trans rfl
        have q2 : W8.cell? ⟨g5, 2, none⟩ = some (.int .i64 s.c.token) := (cell_of_row _ _ 2 _ _ _ H8.out.2.2.1).trans rfl
        have q6 : W8.cell? ⟨g5, 6, none⟩ = some (.int .u64 s.c.serial) := (cell_of_row _ _ 6 _ _ _ H8.out.2.2.1).trans rfl
        have t0 : W8.cell? ⟨g8, 0, none⟩ = some (.int .i64 tv.tok) := (cell_of_row _ _ 0 _ _ _ H8.out.2.2.2).trans rfl
        have t1 : W8.cell? ⟨g8, 1, none⟩ = some (.int .u64 tv.ser) := (cell_of_row _ _ 1 _ _ _ H8.out.2.2.2).trans rfl
        have t2 : W8.cell? ⟨g8, 2, none⟩ = some (.int .i64 tv.til) := (cell_of_row _ _ 2 _ _ _ H8.out.2.2.2).trans rfl
        have p1 : W8.cell? ⟨p, 1, none⟩ = some (.int .i64 s.now) := (cell_of_row _ _ 1 _ _ _ H8.out.1.1.row).trans rfl
        go_wp2
        go_ret
        exact ⟨by rw [HTE.out]; rfl, by rw [HFIN.out]; exact Mc.Left.mk (goodW p n _) ⟨g, H8.out.1.1⟩ (H8.out.1.2)⟩
      · by_cases hc4 : a.code = 4
        · have HFIN : Hid (toldV n s a = ⟨s.now, 0, zCm, s.L⟩) := Lib.hid (by
            unfold toldV
            rw [if_neg HK0.out]
            congr 1
            unfold toldL
            rw [HU.out]
            rw [if_neg hk3, HF.out]
            exact if_neg HSE.out
          )
          have k3 : (s.c.kind == 3) = false := beq_eq_false_iff_ne.2 (by omega)
          have k4 : (s.c.kind == 4) = true := beq_iff_eq.2 (by omega)
          have k5 : (s.c.kind == 5) = false := beq_eq_false_iff_ne.2 (by omega)
          have o3 : (a.code == 3) = false := beq_eq_false_iff_ne.2 (by omega)
          have o4 : (a.code == 4) = true := beq_iff_eq.2 (by omega)
          have a0 : W8.cell? ⟨g3, 0, none⟩ = some (.int .i64 a.code) := (cell_of_row _ _ 0 _ _ _ H8.out.2.1).trans rfl
          have a1 : W8.cell? ⟨g3, 1, none⟩ = some (.int .i64 a.token) := (cell_of_row _ _ 1 _ _ _ H8.out.2.1).trans rfl
          have a2 : W8.cell? ⟨g3, 2, none⟩ = some (.int .u64 a.serial) := (cell_of_row _ _ 2 _ _ _ H8.out.2.1).trans rfl
          have q0 : W8.cell? ⟨g5, 0, none⟩ = some (.int .i64 s.c.kind) := (cell_of_row _ _ 0 _ _ _ H8.out.2.2.1).trans rfl
          have q2 : W8.cell? ⟨g5, 2, none⟩ = some (.int .i64 s.c.token) := (cell_of_row _ _ 2 _ _ _ H8.out.2.2.1).trans rfl
          have q6 : W8.cell? ⟨g5, 6, none⟩ = some (.int .u64 s.c.serial) := (cell_of_row _ _ 6 _ _ _ H8.out.2.2.1).trans rfl
          have t0 : W8.cell? ⟨g8, 0, none⟩ = some (.int .i64 tv.tok) := (cell_of_row _ _ 0 _ _ _ H8.out.2.2.2).trans rfl
          have t1 : W8.cell? ⟨g8, 1, none⟩ = some (.int .u64 tv.ser) := (cell_of_row _ _ 1 _ _ _ H8.out.2.2.2).trans rfl
          have t2 : W8.cell? ⟨g8, 2, none⟩ = some (.int .i64 tv.til) := (cell_of_row _ _ 2 _ _ _ H8.out.2.2.2).trans rfl
          have p1 : W8.cell? ⟨p, 1, none⟩ = some (.int .i64 s.now) := (cell_of_row _ _ 1 _ _ _ H8.out.1.1.row).trans rfl
          go_wp2
          go_ret
          exact ⟨by rw [HTE.out]; rfl, by rw [HFIN.out]; exact Mc.Left.mk (goodW p n _) ⟨g, H8.out.1.1⟩ (H8.out.1.2)⟩
        · have HFIN : Hid (toldV n s a = ⟨s.now, 0, zCm, s.L⟩) := Lib.hid (by
            unfold toldV
            rw [if_neg HK0.out]
            congr 1
            unfold toldL
            rw [HU.out]
            rw [if_neg hk3, HF.out]
            exact if_neg HSE.out
          )
          have k3 : (s.c.kind == 3) = false := beq_eq_false_iff_ne.2 (by omega)
          have k4 : (s.c.kind == 4) = true := beq_iff_eq.2 (by omega)
          have k5 : (s.c.kind == 5) = false := beq_eq_false_iff_ne.2 (by omega)
          have o3 : (a.code == 3) = false := beq_eq_false_iff_ne.2 (by omega)
          have o4 : (a.code == 4) = false := beq_eq_false_iff_ne.2 (by omega)
          have a0 : W8.cell? ⟨g3, 0, none⟩ = some (.int .i64 a.code) := (cell_of_row _ _ 0 _ _ _ H8.out.2.1).trans rfl
          have a1 : W8.cell? ⟨g3, 1, none⟩ = some (.int .i64 a.token) := (cell_of_row _ _ 1 _ _ _ H8.out.2.1).trans rfl
          have a2 : W8.cell? ⟨g3, 2, none⟩ = some (.int .u64 a.serial) := (cell_of_row _ _ 2 _ _ _ H8.out.2.1).trans rfl
          have q0 : W8.cell? ⟨g5, 0, none⟩ = some (.int .i64 s.c.kind) := (cell_of_row _ _ 0 _ _ _ H8.out.2.2.1).trans rfl
          have q2 : W8.cell? ⟨g5, 2, none⟩ = some (.int .i64 s.c.token) := (cell_of_row _ _ 2 _ _ _ H8.out.2.2.1).trans rfl
          have q6 : W8.cell? ⟨g5, 6, none⟩ = some (.int .u64 s.c.serial) := (cell_of_row _ _ 6 _ _ _ H8.out.2.2.1).trans rfl
          have t0 : W8.cell? ⟨g8, 0, none⟩ = some (.int .i64 tv.tok) := (cell_of_row _ _ 0 _ _ _ H8.out.2.2.2).trans rfl
          have t1 : W8.cell? ⟨g8, 1, none⟩ = some (.int .u64 tv.ser) := (cell_of_row _ _ 1 _ _ _ H8.out.2.2.2).trans rfl
          have t2 : W8.cell? ⟨g8, 2, none⟩ = some (.int .i64 tv.til) := (cell_of_row _ _ 2 _ _ _ H8.out.2.2.2).trans rfl
          have p1 : W8.cell? ⟨p, 1, none⟩ = some (.int .i64 s.now) := (cell_of_row _ _ 1 _ _ _ H8.out.1.1.row).trans rfl
          go_wp2
          go_ret
          exact ⟨by rw [HTE.out]; rfl, by rw [HFIN.out]; exact Mc.Left.mk (goodW p n _) ⟨g, H8.out.1.1⟩ (H8.out.1.2)⟩
    by_cases hk5 : s.c.kind = 5
    · by_cases hc5 : a.code = 5
      · have HFIN : Hid (toldV n s a = ⟨s.now, 0, zCm, s.L⟩) := Lib.hid (by
          unfold toldV
          rw [if_neg HK0.out]
          congr 1
          unfold toldL
          rw [HU.out]
          rw [if_neg hk3, HF.out]
          exact if_neg HSE.out
        )
        have k3 : (s.c.kind == 3) = false := beq_eq_false_iff_ne.2 (by omega)
        have k4 : (s.c.kind == 4) = false := beq_eq_false_iff_ne.2 (by omega)
        have k5 : (s.c.kind == 5) = true := beq_iff_eq.2 (by omega)
        have o5 : (a.code == 5) = true := beq_iff_eq.2 (by omega)
        have a0 : W8.cell? ⟨g3, 0, none⟩ = some (.int .i64 a.code) := (cell_of_row _ _ 0 _ _ _ H8.out.2.1).trans rfl
        have a1 : W8.cell? ⟨g3, 1, none⟩ = some (.int .i64 a.token) := (cell_of_row _ _ 1 _ _ _ H8.out.2.1).trans rfl
        have a2 : W8.cell? ⟨g3, 2, none⟩ = some (.int .u64 a.serial) := (cell_of_row _ _ 2 _ _ _ H8.out.2.1).trans rfl
        have q0 : W8.cell? ⟨g5, 0, none⟩ = some (.int .i64 s.c.kind) := (cell_of_row _ _ 0 _ _ _ H8.out.2.2.1).trans rfl
        have q2 : W8.cell? ⟨g5, 2, none⟩ = some (.int .i64 s.c.token) := (cell_of_row _ _ 2 _ _ _ H8.out.2.2.1).trans rfl
        have q6 : W8.cell? ⟨g5, 6, none⟩ = some (.int .u64 s.c.serial) := (cell_of_row _ _ 6 _ _ _ H8.out.2.2.1).trans rfl
        have t0 : W8.cell? ⟨g8, 0, none⟩ = some (.int .i64 tv.tok) := (cell_of_row _ _ 0 _ _ _ H8.out.2.2.2).trans rfl
        have t1 : W8.cell? ⟨g8, 1, none⟩ = some (.int .u64 tv.ser) := (cell_of_row _ _ 1 _ _ _ H8.out.2.2.2).trans rfl
        have t2 : W8.cell? ⟨g8, 2, none⟩ = some (.int .i64 tv.til) := (cell_of_row _ _ 2 _ _ _ H8.out.2.2.2).trans rfl
        have p1 : W8.cell? ⟨p, 1, none⟩ = some (.int .i64 s.now) := (cell_of_row _ _ 1 _ _ _ H8.out.1.1.row).trans rfl
        go_wp2
        go_ret
        exact ⟨by rw [HTE.out]; rfl, by rw [HFIN.out]; exact Mc.Left.mk (goodW p n _) ⟨g, H8.out.1.1⟩ (H8.out.1.2)⟩
      · have HFIN : Hid (toldV n s a = ⟨s.now, 0, zCm, s.L⟩) := Lib.hid (by
          unfold toldV
          rw [if_neg HK0.out]
          congr 1
          unfold toldL
          rw [HU.out]
          rw [if_neg hk3, HF.out]
          exact if_neg HSE.out
        )
        have k3 : (s.c.kind == 3) = false := beq_eq_false_iff_ne.2 (by omega)
        have k4 : (s.c.kind == 4) = false := beq_eq_false_iff_ne.2 (by omega)
        have k5 : (s.c.kind == 5) = true := beq_iff_eq.2 (by omega)
        have o5 : (a.code == 5) = false := beq_eq_false_iff_ne.2 (by omega)
        have a0 : W8.cell? ⟨g3, 0, none⟩ = some (.int .i64 a.code) := (cell_of_row _ _ 0 _ _ _ H8.out.2.1).trans rfl
        have a1 : W8.cell? ⟨g3, 1, none⟩ = some (.int .i64 a.token) := (cell_of_row _ _ 1 _ _ _ H8.out.2.1).trans rfl
        have a2 : W8.cell? ⟨g3, 2, none⟩ = some (.int .u64 a.serial) := (cell_of_row _ _ 2 _ _ _ H8.out.2.1).trans rfl
        have q0 : W8.cell? ⟨g5, 0, none⟩ = some (.int .i64 s.c.kind) := (cell_of_row _ _ 0 _ _ _ H8.out.2.2.1).trans rfl
        have q2 : W8.cell? ⟨g5, 2, none⟩ = some (.int .i64 s.c.token) := (cell_of_row _ _ 2 _ _ _ H8.out.2.2.1).trans rfl
        have q6 : W8.cell? ⟨g5, 6, none⟩ = some (.int .u64 s.c.serial) := (cell_of_row _ _ 6 _ _ _ H8.out.2.2.1).trans rfl
        have t0 : W8.cell? ⟨g8, 0, none⟩ = some (.int .i64 tv.tok) := (cell_of_row _ _ 0 _ _ _ H8.out.2.2.2).trans rfl
        have t1 : W8.cell? ⟨g8, 1, none⟩ = some (.int .u64 tv.ser) := (cell_of_row _ _ 1 _ _ _ H8.out.2.2.2).trans rfl
        have t2 : W8.cell? ⟨g8, 2, none⟩ = some (.int .i64 tv.til) := (cell_of_row _ _ 2 _ _ _ H8.out.2.2.2).trans rfl
        have p1 : W8.cell? ⟨p, 1, none⟩ = some (.int .i64 s.now) := (cell_of_row _ _ 1 _ _ _ H8.out.1.1.row).trans rfl
        go_wp2
        go_ret
        exact ⟨by rw [HTE.out]; rfl, by rw [HFIN.out]; exact Mc.Left.mk (goodW p n _) ⟨g, H8.out.1.1⟩ (H8.out.1.2)⟩
    have HFIN : Hid (toldV n s a = ⟨s.now, 0, zCm, s.L⟩) := Lib.hid (by
      unfold toldV
      rw [if_neg HK0.out]
      congr 1
      unfold toldL
      rw [HU.out]
      rw [if_neg hk3, HF.out]
      exact if_neg HSE.out
    )
    have k3 : (s.c.kind == 3) = false := beq_eq_false_iff_ne.2 (by omega)
    have k4 : (s.c.kind == 4) = false := beq_eq_false_iff_ne.2 (by omega)
    have k5 : (s.c.kind == 5) = false := beq_eq_false_iff_ne.2 (by omega)
    have a0 : W8.cell? ⟨g3, 0, none⟩ = some (.int .i64 a.code) := (cell_of_row _ _ 0 _ _ _ H8.out.2.1).trans rfl
    have a1 : W8.cell? ⟨g3, 1, none⟩ = some (.int .i64 a.token) := (cell_of_row _ _ 1 _ _ _ H8.out.2.1).trans rfl
    have a2 : W8.cell? ⟨g3, 2, none⟩ = some (.int .u64 a.serial) := (cell_of_row _ _ 2 _ _ _ H8.out.2.1).trans rfl
    have q0 : W8.cell? ⟨g5, 0, none⟩ = some (.int .i64 s.c.kind) := (cell_of_row _ _ 0 _ _ _ H8.out.2.2.1).trans rfl
    have q2 : W8.cell? ⟨g5, 2, none⟩ = some (.int .i64 s.c.token) := (cell_of_row _ _ 2 _ _ _ H8.out.2.2.1).trans rfl
    have q6 : W8.cell? ⟨g5, 6, none⟩ = some (.int .u64 s.c.serial) := (cell_of_row _ _ 6 _ _ _ H8.out.2.2.1).trans rfl
    have t0 : W8.cell? ⟨g8, 0, none⟩ = some (.int .i64 tv.tok) := (cell_of_row _ _ 0 _ _ _ H8.out.2.2.2).trans rfl
    have t1 : W8.cell? ⟨g8, 1, none⟩ = some (.int .u64 tv.ser) := (cell_of_row _ _ 1 _ _ _ H8.out.2.2.2).trans rfl
    have t2 : W8.cell? ⟨g8, 2, none⟩ = some (.int .i64 tv.til) := (cell_of_row _ _ 2 _ _ _ H8.out.2.2.2).trans rfl
    have p1 : W8.cell? ⟨p, 1, none⟩ = some (.int .i64 s.now) := (cell_of_row _ _ 1 _ _ _ H8.out.1.1.row).trans rfl
    go_wp2
    go_ret
    exact ⟨by rw [HTE.out]; rfl, by rw [HFIN.out]; exact Mc.Left.mk (goodW p n _) ⟨g, H8.out.1.1⟩ (H8.out.1.2)⟩
end Lt
end Go.Proofs.Ytgbblegcjladaaa
