/- Package net: the law's example, and what its comparing says. No condition. -/
import Derived.Test.YtgmndcfeifgapaaNtE
namespace Go.Proofs.Ytgmndcfeifgapaa
open Go.ChangeShapes Go.WideShapes Go.ChangeAt Go.RowKit Go.Deep
set_option linter.unusedVariables false
set_option maxRecDepth 100000
set_option linter.unusedSimpArgs false
namespace Nt
abbrev la : Letr := ⟨1, 2, { data := #[97] }⟩
abbrev lb : Letr := ⟨2, 1, { data := #[98] }⟩
theorem ex1 : sendE [] la = 0 ∧ sendL [] la = [la] := ⟨by decide, by rfl⟩
theorem ex2 : sendE [la] lb = 0 ∧ sendL [la] lb = [la, lb] := ⟨by decide, by rfl⟩
theorem ex3 : dblE [la, lb] 0 = 0 ∧ dblL [la, lb] 0 = [la, lb, la] := ⟨by decide, by rfl⟩
theorem ex4 : takeE [la, lb, la] 1 = 0 ∧ takeX [la, lb, la] 1 = lb ∧ takeL [la, lb, la] 1 = [la, la] := ⟨by decide, by rfl, by rfl⟩
theorem rng_let {TL : TypeId} {w : World} {B k : Nat} {g c : Nat} {ls : List Letr} (h : OwnR 3 letC TL w B (.slice (some ⟨g, 0, none⟩) ls.length c) ls) (hk : k < ls.length) : w.rangeAt g (k * 3) (letC (ls.getD k zLet)) := by
  obtain ⟨g2, c2, e, -, -, -, -, a0, a1, a2⟩ := let_cells h hk
  simp only [Value.slice.injEq, Option.some.injEq, Addr.mk.injEq] at e
  obtain ⟨⟨rfl, -⟩, -⟩ := e
  intro j v hv
  match j, hv with
  | 0, hv => simp only [List.getElem?_cons_zero, Option.some.injEq] at hv; subst hv; exact a0
  | 1, hv => simp only [List.getElem?_cons_succ, List.getElem?_cons_zero, Option.some.injEq] at hv; subst hv; exact a1
  | 2, hv => simp only [List.getElem?_cons_succ, List.getElem?_cons_zero, Option.some.injEq] at hv; subst hv; exact a2
  | n + 3, hv => simp at hv
set_option maxHeartbeats 4000000 in
theorem live_any (w : World) : Calls Try.prog 5 #[] w fun e w' => e = .returned (.bool true) ∧ Below w.heap.size w w' := by
  go_enter Try.func5, Try.ntmps5
  go_wp2_with fail
  refine (new_any _).mono ?_
  rintro e w1 ⟨rfl, hn, hb⟩
  have HN1 := Lib.hid hn
  have HB1 := Lib.hid hb
  clear hn hb
  go_wp2_with fail
  refine (send_any la _ HN1.out HB1.out.size (by decide)).mono ?_
  rintro e w2 ⟨rfl, v2, hn, ho, -⟩
  rw [ex1.1]
  rw [ex1.2] at hn
  have HN2 := Lib.hid hn
  have HB2 : Hid (Below w.heap.size w w2) := Lib.hid (ho.below HB1.out HB1.out.size (fun k hk => by rcases hk with rfl | hk; exact Nat.le_refl _; cases hk))
  clear hn ho
  go_wp2_with fail
  refine (send_any lb _ HN2.out HB2.out.size (by decide)).mono ?_
  rintro e w3 ⟨rfl, v3, hn, ho, -⟩
  rw [ex2.1]
  rw [ex2.2] at hn
  have HN3 := Lib.hid hn
  have HB3 : Hid (Below w.heap.size w w3) := Lib.hid (ho.below HB2.out HB2.out.size (fun k hk => by rcases hk with rfl | hk; exact Nat.le_refl _; exact (World.ownsRow.lt HN2.out.2.1 k hk).1))
  clear hn ho
  go_wp2_with fail
  refine (double_any 0 _ HN3.out HB3.out.size (by decide)).mono ?_
  rintro e w4 ⟨rfl, v4, hn, ho, -⟩
  rw [ex3.1]
  rw [ex3.2] at hn
  have HN4 := Lib.hid hn
  have HB4 : Hid (Below w.heap.size w w4) := Lib.hid (ho.below HB3.out HB3.out.size (fun k hk => by rcases hk with rfl | hk; exact Nat.le_refl _; exact (World.ownsRow.lt HN3.out.2.1 k hk).1))
  clear hn ho
  go_wp2_with fail
  refine (take_any 1 _ HN4.out (by decide)).mono ?_
  rintro e w5 ⟨rfl, v5, hn, ho, -⟩
  rw [ex4.1, ex4.2.1]
  rw [ex4.2.2] at hn
  have HN5 := Lib.hid hn
  have HB5 : Hid (Below w.heap.size w w5) := Lib.hid (ho.below HB4.out HB4.out.size (fun k hk => by rcases hk with rfl | hk; exact Nat.le_refl _; exact (World.ownsRow.lt HN4.out.2.1 k hk).1))
  clear hn ho
  obtain ⟨W5, hW5⟩ : ∃ q, w5.alloc (.cells #[.int .i64 2, .int .i64 1, .string { data := #[98] }] 31) = q := ⟨_, rfl⟩
  have hb5 : Below w5.heap.size w5 W5 := by rw [← hW5]; exact (Below.refl _ _).alloc (Nat.le_refl _) _
  obtain ⟨b4, hb4⟩ : ∃ q, w5.heap.size = q := ⟨_, rfl⟩
  have HX5 : Hid (W5.heap[b4]? = some (.cells #[.int .i64 2, .int .i64 1, .string { data := #[98] }] 31 (0, 0))) := Lib.hid (by rw [← hW5, ← hb4]; exact heap_alloc_new _ _)
  have HN5a := Lib.hid (HN5.out.below hb5)
  have HB5a := Lib.hid (HB5.out.trans (hb5.mono HB5.out.size))
  clear hb5
  go_wp2_with fail
  clear hW5
  refine (all_any _ HN5a.out (by decide)).mono ?_
  rintro e w6 ⟨vu, rfl, hown, hb⟩
  obtain ⟨gu, cu, rfl, -, -, -, -, -⟩ := let_cells hown (show 0 < [la, la].length by decide)
  have hbw := HB5a.out.trans (hb.mono HB5a.out.size)
  have HQD : Hid (w6.drew.cell? ⟨b4, 2, none⟩ = some (.string { data := #[98] }) ∧ w6.drew.rangeAt gu 0 (letC la) ∧ w6.drew.rangeAt gu 3 (letC la)) := Lib.hid ⟨(cell_of_row w6 _ 2 _ _ _ ((hb.block _ (row_lt HX5.out)).trans HX5.out)).trans rfl, rng_let (k := 0) hown (by decide), rng_let (k := 1) hown (by decide)⟩
  have HND := Lib.hid ((HN5a.out.below hb).below (w' := w6.drew) ((Below.refl w6.heap.size w6).drew))
  have HBW := Lib.hid hbw.drew
  clear hown hb hbw
  go_upto_region 9 with fail
  refine Wl.start 999 (fun _ => True) (fun u => u.cell? ⟨b4, 2, none⟩ = some (.string { data := #[98] }) ∧ u.rangeAt gu 0 (letC la) ∧ u.rangeAt gu 3 (letC la)) (by kernel_rfl) trivial HQD.out (fun hk => ?_)
  refine Wl.take0 (i := 0) (v := .int .i64 0) rfl (by kernel_rfl) (by kernel_rfl) (by kernel_rfl) (by kernel_rfl) (fun _ _ _ h => h) (.inl ⟨by kernel_rfl, ?_⟩) hk ?_
  · intro wx hSw
    clear hSw hk
    go_simp
    try first | with_reducible rfl | kernel_rfl
  simp only [Act.put, List.getElem_toArray, List.getElem_cons_succ, List.getElem_cons_zero, List.setIfInBounds_toArray, List.set_cons_succ, List.set_cons_zero]
  refine Wl.take0 (i := 1) (v := .bool true) rfl (by kernel_rfl) (by kernel_rfl) (by kernel_rfl) (by kernel_rfl) (fun _ _ _ h => h) (.inl ⟨by kernel_rfl, ?_⟩) hk ?_
  · intro wx hSw
    clear hSw hk
    go_simp
    try first | with_reducible rfl | kernel_rfl
  simp only [Act.put, List.getElem_toArray, List.getElem_cons_succ, List.getElem_cons_zero, List.setIfInBounds_toArray, List.set_cons_succ, List.set_cons_zero]
  refine Wl.take0 (i := 2) (v := .bool true) rfl (by kernel_rfl) (by kernel_rfl) (by kernel_rfl) (by kernel_rfl) (fun _ _ _ h => h) (.inl ⟨by kernel_rfl, ?_⟩) hk ?_
  · intro wx hSw
    clear hSw hk
    go_simp
    try first | with_reducible rfl | kernel_rfl
  simp only [Act.put, List.getElem_toArray, List.getElem_cons_succ, List.getElem_cons_zero, List.setIfInBounds_toArray, List.set_cons_succ, List.set_cons_zero]
  refine Wl.take0 (i := 3) (v := .int .i64 0) rfl (by kernel_rfl) (by kernel_rfl) (by kernel_rfl) (by kernel_rfl) (fun _ _ _ h => h) (.inl ⟨by kernel_rfl, ?_⟩) hk ?_
  · intro wx hSw
    clear hSw hk
    go_simp
    try first | with_reducible rfl | kernel_rfl
  simp only [Act.put, List.getElem_toArray, List.getElem_cons_succ, List.getElem_cons_zero, List.setIfInBounds_toArray, List.set_cons_succ, List.set_cons_zero]
  refine Wl.take0 (i := 4) (v := .bool true) rfl (by kernel_rfl) (by kernel_rfl) (by kernel_rfl) (by kernel_rfl) (fun _ _ _ h => h) (.inl ⟨by kernel_rfl, ?_⟩) hk ?_
  · intro wx hSw
    clear hSw hk
    go_simp
    try first | with_reducible rfl | kernel_rfl
  simp only [Act.put, List.getElem_toArray, List.getElem_cons_succ, List.getElem_cons_zero, List.setIfInBounds_toArray, List.set_cons_succ, List.set_cons_zero]
  refine Wl.take0 (i := 5) (v := .bool true) rfl (by kernel_rfl) (by kernel_rfl) (by kernel_rfl) (by kernel_rfl) (fun _ _ _ h => h) (.inl ⟨by kernel_rfl, ?_⟩) hk ?_
  · intro wx hSw
    clear hSw hk
    go_simp
    try first | with_reducible rfl | kernel_rfl
  simp only [Act.put, List.getElem_toArray, List.getElem_cons_succ, List.getElem_cons_zero, List.setIfInBounds_toArray, List.set_cons_succ, List.set_cons_zero]
  refine Wl.take0 (i := 6) (v := .bool true) rfl (by kernel_rfl) (by kernel_rfl) (by kernel_rfl) (by kernel_rfl) (fun _ _ _ h => h) (.inl ⟨by kernel_rfl, ?_⟩) hk ?_
  · intro wx hSw
    clear hSw hk
    go_simp
    try first | with_reducible rfl | kernel_rfl
  simp only [Act.put, List.getElem_toArray, List.getElem_cons_succ, List.getElem_cons_zero, List.setIfInBounds_toArray, List.set_cons_succ, List.set_cons_zero]
  refine Wl.take0 (i := 7) (v := .pointer (some ⟨b4, 2, none⟩)) rfl (by kernel_rfl) (by kernel_rfl) (by kernel_rfl) (by kernel_rfl) (fun _ _ _ h => h) (.inl ⟨by kernel_rfl, ?_⟩) hk ?_
  · intro wx hSw
    clear hSw hk
    go_simp
    try first | with_reducible rfl | kernel_rfl
  simp only [Act.put, List.getElem_toArray, List.getElem_cons_succ, List.getElem_cons_zero, List.setIfInBounds_toArray, List.set_cons_succ, List.set_cons_zero]
  refine Wl.take0 (i := 8) (v := .string { data := #[98] }) rfl (by kernel_rfl) (by kernel_rfl) (by kernel_rfl) (by kernel_rfl) (fun _ _ _ h => h) (.inl ⟨by kernel_rfl, ?_⟩) hk ?_
  · intro wx hSw
    have cc := hSw.1
    clear hSw hk
    go_simp
    try first | with_reducible rfl | kernel_rfl
  simp only [Act.put, List.getElem_toArray, List.getElem_cons_succ, List.getElem_cons_zero, List.setIfInBounds_toArray, List.set_cons_succ, List.set_cons_zero]
  refine Wl.take0 (i := 9) (v := .bool true) rfl (by kernel_rfl) (by kernel_rfl) (by kernel_rfl) (by kernel_rfl) (fun _ _ _ h => h) (.inl ⟨by kernel_rfl, ?_⟩) hk ?_
  · intro wx hSw
    clear hSw hk
    go_simp
    try first | with_reducible rfl | kernel_rfl
  simp only [Act.put, List.getElem_toArray, List.getElem_cons_succ, List.getElem_cons_zero, List.setIfInBounds_toArray, List.set_cons_succ, List.set_cons_zero]
  refine Wl.take0 (i := 10) (v := .bool true) rfl (by kernel_rfl) (by kernel_rfl) (by kernel_rfl) (by kernel_rfl) (fun _ _ _ h => h) (.inl ⟨by kernel_rfl, ?_⟩) hk ?_
  · intro wx hSw
    clear hSw hk
    go_simp
    try first | with_reducible rfl | kernel_rfl
  simp only [Act.put, List.getElem_toArray, List.getElem_cons_succ, List.getElem_cons_zero, List.setIfInBounds_toArray, List.set_cons_succ, List.set_cons_zero]
  refine Wl.take0 (i := 11) (v := .bool true) rfl (by kernel_rfl) (by kernel_rfl) (by kernel_rfl) (by kernel_rfl) (fun _ _ _ h => h) (.inl ⟨by kernel_rfl, ?_⟩) hk ?_
  · intro wx hSw
    clear hSw hk
    go_simp
    try first | with_reducible rfl | kernel_rfl
  simp only [Act.put, List.getElem_toArray, List.getElem_cons_succ, List.getElem_cons_zero, List.setIfInBounds_toArray, List.set_cons_succ, List.set_cons_zero]
  refine Wl.take0 (i := 12) (v := .int .i64 0) rfl (by kernel_rfl) (by kernel_rfl) (by kernel_rfl) (by kernel_rfl) (fun _ _ _ h => h) (.inl ⟨by kernel_rfl, ?_⟩) hk ?_
  · intro wx hSw
    clear hSw hk
    go_simp
    try first | with_reducible rfl | kernel_rfl
  simp only [Act.put, List.getElem_toArray, List.getElem_cons_succ, List.getElem_cons_zero, List.setIfInBounds_toArray, List.set_cons_succ, List.set_cons_zero]
  refine Wl.take0 (i := 13) (v := .bool true) rfl (by kernel_rfl) (by kernel_rfl) (by kernel_rfl) (by kernel_rfl) (fun _ _ _ h => h) (.inl ⟨by kernel_rfl, ?_⟩) hk ?_
  · intro wx hSw
    clear hSw hk
    go_simp
    try first | with_reducible rfl | kernel_rfl
  simp only [Act.put, List.getElem_toArray, List.getElem_cons_succ, List.getElem_cons_zero, List.setIfInBounds_toArray, List.set_cons_succ, List.set_cons_zero]
  refine Wl.take0 (i := 14) (v := .bool true) rfl (by kernel_rfl) (by kernel_rfl) (by kernel_rfl) (by kernel_rfl) (fun _ _ _ h => h) (.inl ⟨by kernel_rfl, ?_⟩) hk ?_
  · intro wx hSw
    clear hSw hk
    go_simp
    try first | with_reducible rfl | kernel_rfl
  simp only [Act.put, List.getElem_toArray, List.getElem_cons_succ, List.getElem_cons_zero, List.setIfInBounds_toArray, List.set_cons_succ, List.set_cons_zero]
  refine Wl.take0 (i := 15) (v := .bool true) rfl (by kernel_rfl) (by kernel_rfl) (by kernel_rfl) (by kernel_rfl) (fun _ _ _ h => h) (.inl ⟨by kernel_rfl, ?_⟩) hk ?_
  · intro wx hSw
    clear hSw hk
    go_simp
    try first | with_reducible rfl | kernel_rfl
  simp only [Act.put, List.getElem_toArray, List.getElem_cons_succ, List.getElem_cons_zero, List.setIfInBounds_toArray, List.set_cons_succ, List.set_cons_zero]
  refine Wl.take0 (i := 16) (v := .slice (some ⟨gu, 0, none⟩) 2 cu) rfl (by kernel_rfl) (by kernel_rfl) (by kernel_rfl) (by kernel_rfl) (fun _ _ _ h => h) (.inl ⟨by kernel_rfl, ?_⟩) hk ?_
  · intro wx hSw
    clear hSw hk
    go_simp
    try first | with_reducible rfl | kernel_rfl
  simp only [Act.put, List.getElem_toArray, List.getElem_cons_succ, List.getElem_cons_zero, List.setIfInBounds_toArray, List.set_cons_succ, List.set_cons_zero]
  refine Wl.take0 (i := 17) (v := .int .i64 2) rfl (by kernel_rfl) (by kernel_rfl) (by kernel_rfl) (by kernel_rfl) (fun _ _ _ h => h) (.inl ⟨by kernel_rfl, ?_⟩) hk ?_
  · intro wx hSw
    clear hSw hk
    go_simp
    try first | with_reducible rfl | kernel_rfl
  simp only [Act.put, List.getElem_toArray, List.getElem_cons_succ, List.getElem_cons_zero, List.setIfInBounds_toArray, List.set_cons_succ, List.set_cons_zero]
  refine Wl.take0 (i := 18) (v := .bool true) rfl (by kernel_rfl) (by kernel_rfl) (by kernel_rfl) (by kernel_rfl) (fun _ _ _ h => h) (.inl ⟨by kernel_rfl, ?_⟩) hk ?_
  · intro wx hSw
    clear hSw hk
    go_simp
    try first | with_reducible rfl | kernel_rfl
  simp only [Act.put, List.getElem_toArray, List.getElem_cons_succ, List.getElem_cons_zero, List.setIfInBounds_toArray, List.set_cons_succ, List.set_cons_zero]
  refine Wl.take0 (i := 19) (v := .bool true) rfl (by kernel_rfl) (by kernel_rfl) (by kernel_rfl) (by kernel_rfl) (fun _ _ _ h => h) (.inl ⟨by kernel_rfl, ?_⟩) hk ?_
  · intro wx hSw
    clear hSw hk
    go_simp
    try first | with_reducible rfl | kernel_rfl
  simp only [Act.put, List.getElem_toArray, List.getElem_cons_succ, List.getElem_cons_zero, List.setIfInBounds_toArray, List.set_cons_succ, List.set_cons_zero]
  refine Wl.take0 (i := 20) (v := .bool true) rfl (by kernel_rfl) (by kernel_rfl) (by kernel_rfl) (by kernel_rfl) (fun _ _ _ h => h) (.inl ⟨by kernel_rfl, ?_⟩) hk ?_
  · intro wx hSw
    clear hSw hk
    go_simp
    try first | with_reducible rfl | kernel_rfl
  simp only [Act.put, List.getElem_toArray, List.getElem_cons_succ, List.getElem_cons_zero, List.setIfInBounds_toArray, List.set_cons_succ, List.set_cons_zero]
  refine Wl.take0 (i := 21) (v := .slice (some ⟨gu, 0, none⟩) 2 cu) rfl (by kernel_rfl) (by kernel_rfl) (by kernel_rfl) (by kernel_rfl) (fun _ _ _ h => h) (.inl ⟨by kernel_rfl, ?_⟩) hk ?_
  · intro wx hSw
    clear hSw hk
    go_simp
    try first | with_reducible rfl | kernel_rfl
  simp only [Act.put, List.getElem_toArray, List.getElem_cons_succ, List.getElem_cons_zero, List.setIfInBounds_toArray, List.set_cons_succ, List.set_cons_zero]
  refine Wl.take0 (i := 22) (v := .pointer (some ⟨gu, 0, none⟩)) rfl (by kernel_rfl) (by kernel_rfl) (by kernel_rfl) (by kernel_rfl) (fun _ _ _ h => h) (.inl ⟨by kernel_rfl, ?_⟩) hk ?_
  · intro wx hSw
    clear hSw hk
    go_simp
    try first | with_reducible rfl | kernel_rfl
  simp only [Act.put, List.getElem_toArray, List.getElem_cons_succ, List.getElem_cons_zero, List.setIfInBounds_toArray, List.set_cons_succ, List.set_cons_zero]
  refine Wl.take0 (i := 23) (v := .agg (letC la).toArray) rfl (by kernel_rfl) (by kernel_rfl) (by kernel_rfl) (by kernel_rfl) (fun _ _ _ h => h) (yieldsIf_load_mid (by rfl) _ _ rfl _ _ rfl (letC la) _ (fun w h => h.2.1) Try.underlying31 rfl (by kernel_rfl)) hk ?_
  simp only [Act.put, List.getElem_toArray, List.getElem_cons_succ, List.getElem_cons_zero, List.setIfInBounds_toArray, List.set_cons_succ, List.set_cons_zero]
  refine Wl.take0 (i := 24) (v := .slice (some ⟨gu, 0, none⟩) 2 cu) rfl (by kernel_rfl) (by kernel_rfl) (by kernel_rfl) (by kernel_rfl) (fun _ _ _ h => h) (.inl ⟨by kernel_rfl, ?_⟩) hk ?_
  · intro wx hSw
    clear hSw hk
    go_simp
    try first | with_reducible rfl | kernel_rfl
  simp only [Act.put, List.getElem_toArray, List.getElem_cons_succ, List.getElem_cons_zero, List.setIfInBounds_toArray, List.set_cons_succ, List.set_cons_zero]
  refine Wl.take0 (i := 25) (v := .pointer (some ⟨gu, 3, none⟩)) rfl (by kernel_rfl) (by kernel_rfl) (by kernel_rfl) (by kernel_rfl) (fun _ _ _ h => h) (.inl ⟨by kernel_rfl, ?_⟩) hk ?_
  · intro wx hSw
    clear hSw hk
    go_simp
    try first | with_reducible rfl | kernel_rfl
  simp only [Act.put, List.getElem_toArray, List.getElem_cons_succ, List.getElem_cons_zero, List.setIfInBounds_toArray, List.set_cons_succ, List.set_cons_zero]
  refine Wl.take0 (i := 26) (v := .agg (letC la).toArray) rfl (by kernel_rfl) (by kernel_rfl) (by kernel_rfl) (by kernel_rfl) (fun _ _ _ h => h) (yieldsIf_load_mid (by rfl) _ _ rfl _ _ rfl (letC la) _ (fun w h => h.2.2) Try.underlying31 rfl (by kernel_rfl)) hk ?_
  simp only [Act.put, List.getElem_toArray, List.getElem_cons_succ, List.getElem_cons_zero, List.setIfInBounds_toArray, List.set_cons_succ, List.set_cons_zero]
  refine Wl.take0 (i := 27) (v := .bool true) rfl (by kernel_rfl) (by kernel_rfl) (by kernel_rfl) (by kernel_rfl) (fun _ _ _ h => h) (.inl ⟨by kernel_rfl, ?_⟩) hk ?_
  · intro wx hSw
    clear hSw hk
    go_simp
    try first | with_reducible rfl | kernel_rfl
  simp only [Act.put, List.getElem_toArray, List.getElem_cons_succ, List.getElem_cons_zero, List.setIfInBounds_toArray, List.set_cons_succ, List.set_cons_zero]
  refine Wl.take0 (i := 28) (v := .bool true) rfl (by kernel_rfl) (by kernel_rfl) (by kernel_rfl) (by kernel_rfl) (fun _ _ _ h => h) (.inl ⟨by kernel_rfl, ?_⟩) hk ?_
  · intro wx hSw
    clear hSw hk
    go_simp
    try first | with_reducible rfl | kernel_rfl
  simp only [Act.put, List.getElem_toArray, List.getElem_cons_succ, List.getElem_cons_zero, List.setIfInBounds_toArray, List.set_cons_succ, List.set_cons_zero]
  refine Wl.take0 (i := 29) (v := .bool true) rfl (by kernel_rfl) (by kernel_rfl) (by kernel_rfl) (by kernel_rfl) (fun _ _ _ h => h) (.inl ⟨by kernel_rfl, ?_⟩) hk ?_
  · intro wx hSw
    clear hSw hk
    go_simp
    try first | with_reducible rfl | kernel_rfl
  simp only [Act.put, List.getElem_toArray, List.getElem_cons_succ, List.getElem_cons_zero, List.setIfInBounds_toArray, List.set_cons_succ, List.set_cons_zero]
  refine Wl.take0 (i := 30) (v := .pointer (some ⟨w.heap.size, 0, none⟩)) rfl (by kernel_rfl) (by kernel_rfl) (by kernel_rfl) (by kernel_rfl) (fun _ _ _ h => h) (.inl ⟨by kernel_rfl, ?_⟩) hk ?_
  · intro wx hSw
    clear hSw hk
    go_simp
    try first | with_reducible rfl | kernel_rfl
  simp only [Act.put, List.getElem_toArray, List.getElem_cons_succ, List.getElem_cons_zero, List.setIfInBounds_toArray, List.set_cons_succ, List.set_cons_zero]
  refine Wl.one (i := 31) (by kernel_rfl) rfl (fun K hK => ?_)
  go_simp
  refine (len_any _ HND.out).mono ?_
  rintro e wq ⟨rfl, hwq⟩
  rw [hwq]
  clear hwq
  refine hK.out _ _ (Wl.Kn.on trivial HQD.out) (fun hk => ?_)
  clear hK K
  refine Wl.take0 (i := 32) (v := .bool true) rfl (by kernel_rfl) (by kernel_rfl) (by kernel_rfl) (by kernel_rfl) (fun _ _ _ h => h) (.inl ⟨by kernel_rfl, ?_⟩) hk ?_
  · intro wx hSw
    clear hSw hk
    go_simp
    try first | with_reducible rfl | kernel_rfl
  simp only [Act.put, List.getElem_toArray, List.getElem_cons_succ, List.getElem_cons_zero, List.setIfInBounds_toArray, List.set_cons_succ, List.set_cons_zero]
  refine Wl.take0 (i := 33) (v := .bool true) rfl (by kernel_rfl) (by kernel_rfl) (by kernel_rfl) (by kernel_rfl) (fun _ _ _ h => h) (.inl ⟨by kernel_rfl, ?_⟩) hk ?_
  · intro wx hSw
    clear hSw hk
    go_simp
    try first | with_reducible rfl | kernel_rfl
  simp only [Act.put, List.getElem_toArray, List.getElem_cons_succ, List.getElem_cons_zero, List.setIfInBounds_toArray, List.set_cons_succ, List.set_cons_zero]
  refine Wl.take0 (i := 34) (v := .bool true) rfl (by kernel_rfl) (by kernel_rfl) (by kernel_rfl) (by kernel_rfl) (fun _ _ _ h => h) (.inl ⟨by kernel_rfl, ?_⟩) hk ?_
  · intro wx hSw
    clear hSw hk
    go_simp
    try first | with_reducible rfl | kernel_rfl
  simp only [Act.put, List.getElem_toArray, List.getElem_cons_succ, List.getElem_cons_zero, List.setIfInBounds_toArray, List.set_cons_succ, List.set_cons_zero]
  refine Wl.done (by kernel_rfl) ?_ _
  clear hk
  go_wp2
  go_ret
  exact ⟨rfl, HBW.out⟩
theorem below_cell {B : Nat} {w w' : World} (h : Below B w w') {b o : Nat} (hg : B ≤ b) (x : Value) : Below B w (w'.setCell ⟨b, o, none⟩ x) :=
  ⟨h.os, h.tape, h.output, by simpa using h.size, fun k hk => (Below.heap_setCell _ _ _ _ (by simp; omega)).trans (h.block k hk)⟩
/-- a copy's letters from number k on, as they were -/
def Kept (gl : Nat) (ls : List Letr) (k : Nat) (wr : World) : Prop := ∃ cur, wr.heap[gl]? = some (.cells cur 31 (0, 0)) ∧ ∀ i x, ls[i]? = some x → k ≤ i → ∀ j u, (letC x)[j]? = some u → cur[i * 3 + j]? = some u
theorem Kept.at {gl k : Nat} {ls : List Letr} {wr : World} (h : Kept gl ls k wr) (hk : k < ls.length) : wr.rangeAt gl (k * 3) (letC (ls.getD k zLet)) ∧ wr.cell? ⟨gl, k * 3 + 1, none⟩ = some (.int .i64 (ls.getD k zLet).dst) ∧ wr.frozen? ⟨gl, k * 3 + 1, none⟩ = false ∧ ∀ x, Kept gl ls (k + 1) (wr.setCell ⟨gl, k * 3 + 1, none⟩ x) := by
  obtain ⟨cur, h1, h2⟩ := h
  have hx : ls[k]? = some (ls.getD k zLet) := by rw [List.getD_eq_getElem?_getD, List.getElem?_eq_getElem hk]; rfl
  refine ⟨fun j v hv => ?_, ?_, frozen_of_row _ _ _ _ _ h1, fun x => ⟨_, heap_setCell_same _ gl (k * 3 + 1) _ _ x h1, fun i y hy hki j u hu => ?_⟩⟩
  · rw [cell_of_row _ _ _ _ _ _ h1]
    exact h2 k _ hx (Nat.le_refl _) j v hv
  · rw [cell_of_row _ _ _ _ _ _ h1]
    exact h2 k _ hx (Nat.le_refl _) 1 _ rfl
  · rw [Array.getElem?_setIfInBounds_ne (by
      have : j < 3 := by
        rcases Nat.lt_or_ge j 3 with g | g
        · exact g
        · rw [List.getElem?_eq_none (by simpa using g)] at hu; cases hu
      omega)]
    exact h2 i y hy (by omega) j u hu
set_option maxHeartbeats 4000000 in
theorem same_any {B1 p B2 q : Nat} {v u : Value} {ls : List Letr} (w : World) (hn : NetN w B1 p v ls) (hx : NetR w B2 q u ls) (hl : ls.length ≤ 200) :
    Calls Try.prog 14 #[.pointer (some ⟨p, 0, none⟩), .pointer (some ⟨q, 0, none⟩)] w fun e w' => e = .returned (.bool true) ∧ Below w.heap.size w w' := by
  have HN := Lib.hid hn
  have HX := Lib.hid hx
  obtain ⟨ax, cx, rfl⟩ := own_slice hx.2.1
  clear hn hx
  go_enter Try.func14, Try.ntmps14
  go_wp2_with fail
  refine (all_any _ HN.out (by omega)).mono ?_
  rintro e w1 ⟨vl, rfl, hown, hb⟩
  have HB := Lib.hid hb
  have cq := (HX.out.below hb).c0
  rcases own_form hown with ⟨e0, hz⟩ | ⟨gl, cl, cur, e0, hh, hgl⟩
  · subst e0
    obtain rfl : ls = [] := List.eq_nil_of_length_eq_zero hz
    clear hown hb hz
    go_wp2_with fail
    refine (len_any _ (HN.out.below HB.out)).mono ?_
    rintro e w2 ⟨rfl, hw2⟩
    rw [hw2]
    clear hw2
    go_wp2_with fail
    go_loopw [26] (fun i wr => i = .int .i64 0 ∧ wr = w1) (fun _ _ => 0)
    case atStart => exact ⟨rfl, rfl⟩
    case round =>
      obtain ⟨rfl, rfl⟩ := hrel
      go_wp2
      go_ret
      exact ⟨rfl, HB.out⟩
  · subst e0
    have HK0 : Hid (Kept gl ls 0 w1) := Lib.hid (by
      obtain ⟨g2, c2, cur2, e, q1, q2⟩ := Iq.Row.of hown |>.resolve_left (fun q => by cases q.1)
      simp only [Value.slice.injEq, Option.some.injEq, Addr.mk.injEq] at e
      obtain ⟨⟨rfl, -⟩, -, rfl⟩ := e
      refine ⟨_, q2.1, fun i x hx _ j u hu => ?_⟩
      have h5 := flat_at letC_len ls i j x u hx hu
      rw [← q2.2.2.2.2, List.getElem?_take] at h5
      split at h5
      · simpa using h5
      · cases h5)
    have HLN : Hid (gl < w1.heap.size) := Lib.hid (row_lt hh)
    have HGL := Lib.hid hgl
    clear hown hb hh hgl
    go_wp2_with fail
    refine (len_any _ (HN.out.below HB.out)).mono ?_
    rintro e w2 ⟨rfl, hw2⟩
    rw [hw2]
    clear hw2
    go_wp2_with fail
    clear cq
    go_loopw [26] (fun i wr => ∃ k : Nat, k ≤ ls.length ∧ i = .int .i64 (k : Int) ∧ Hid (Kept gl ls k wr ∧ Below w.heap.size w wr)) (fun i _ => ls.length - (intOf i).toNat)
    case atStart => exact ⟨0, Nat.zero_le _, rfl, Lib.hid ⟨HK0.out, HB.out⟩⟩
    case round =>
      clear HK0
      obtain ⟨k, hk, rfl, HR⟩ := hrel
      by_cases hlt : k < ls.length
      · have hlti : (k : Int) < (ls.length : Int) := by omega
        obtain ⟨r1, r2, r3, r4⟩ := HR.out.1.at hlt
        have HXr := Lib.hid (HX.out.below HR.out.2)
        obtain ⟨gx, cx2, e2, hcx, hcx2, -, -, -⟩ := let_cells HXr.out.2.1 hlt
        simp only [Value.slice.injEq] at e2
        obtain ⟨rfl, -, rfl⟩ := e2
        have hrx := rng_let HXr.out.2.1 hlt
        obtain ⟨y, hy⟩ : ∃ y, ls.getD k zLet = y := ⟨_, rfl⟩
        rw [hy] at r1 r2 hrx
        have HRL : Hid (wr.drew.rangeAt gl (k * 3) (letC y)) := Lib.hid r1
        have HRX : Hid (wr.drew.rangeAt gx (k * 3) (letC y)) := Lib.hid hrx
        have HCQ : Hid (wr.drew.cell? ⟨q, 0, none⟩ = some (.slice (some ⟨gx, 0, none⟩) ls.length cx)) := Lib.hid HXr.out.c0
        have hbz : k * 3 + 1 < 9223372036854775807 := by omega
        have HR4 := Lib.hid r4
        clear hy r1 hrx r4
        go_upto_region 7 with fail
        refine Wl.start 999 (fun _ => True) (fun u => u.cell? ⟨q, 0, none⟩ = some (.slice (some ⟨gx, 0, none⟩) ls.length cx) ∧ u.rangeAt gl (k * 3) (letC y) ∧ u.rangeAt gx (k * 3) (letC y)) (by kernel_rfl) trivial ⟨HCQ.out, HRL.out, HRX.out⟩ (fun hk => ?_)
        refine Wl.take0 (i := 0) (v := .slice (some ⟨gl, 0, none⟩) ls.length cl) rfl (by kernel_rfl) (by kernel_rfl) (by kernel_rfl) (by kernel_rfl) (fun _ _ _ h => h) (.inl ⟨by kernel_rfl, ?_⟩) hk ?_
        · intro wx hSw
          clear hSw hk
          go_simp
          try first | with_reducible rfl | kernel_rfl
        simp only [Act.put, List.getElem_toArray, List.getElem_cons_succ, List.getElem_cons_zero, List.setIfInBounds_toArray, List.set_cons_succ, List.set_cons_zero]
        refine Wl.take0 (i := 1) (v := .int .i64 (k : Int)) rfl (by kernel_rfl) (by kernel_rfl) (by kernel_rfl) (by kernel_rfl) (fun _ _ _ h => h) (.inl ⟨by kernel_rfl, ?_⟩) hk ?_
        · intro wx hSw
          clear hSw hk
          go_simp
          try first | with_reducible rfl | kernel_rfl
        simp only [Act.put, List.getElem_toArray, List.getElem_cons_succ, List.getElem_cons_zero, List.setIfInBounds_toArray, List.set_cons_succ, List.set_cons_zero]
        refine Wl.take0 (i := 2) (v := .pointer (some ⟨gl, k * 3, none⟩)) rfl (by kernel_rfl) (by kernel_rfl) (by kernel_rfl) (by kernel_rfl) (fun _ _ _ h => h) (.inl ⟨by kernel_rfl, ?_⟩) hk ?_
        · intro wx hSw
          clear hSw hk
          go_simp
          try first | with_reducible rfl | kernel_rfl
        simp only [Act.put, List.getElem_toArray, List.getElem_cons_succ, List.getElem_cons_zero, List.setIfInBounds_toArray, List.set_cons_succ, List.set_cons_zero]
        refine Wl.take0 (i := 3) (v := .agg (letC y).toArray) rfl (by kernel_rfl) (by kernel_rfl) (by kernel_rfl) (by kernel_rfl) (fun _ _ _ h => h) (yieldsIf_load_mid (by rfl) _ _ rfl _ _ rfl (letC y) _ (fun w h => h.2.1) Try.underlying31 rfl (by kernel_rfl)) hk ?_
        simp only [Act.put, List.getElem_toArray, List.getElem_cons_succ, List.getElem_cons_zero, List.setIfInBounds_toArray, List.set_cons_succ, List.set_cons_zero]
        refine Wl.take0 (i := 4) (v := .pointer (some ⟨q, 0, none⟩)) rfl (by kernel_rfl) (by kernel_rfl) (by kernel_rfl) (by kernel_rfl) (fun _ _ _ h => h) (.inl ⟨by kernel_rfl, ?_⟩) hk ?_
        · intro wx hSw
          clear hSw hk
          go_simp
          try first | with_reducible rfl | kernel_rfl
        simp only [Act.put, List.getElem_toArray, List.getElem_cons_succ, List.getElem_cons_zero, List.setIfInBounds_toArray, List.set_cons_succ, List.set_cons_zero]
        refine Wl.take0 (i := 5) (v := .pointer (some ⟨q, 0, none⟩)) rfl (by kernel_rfl) (by kernel_rfl) (by kernel_rfl) (by kernel_rfl) (fun _ _ _ h => h) (.inl ⟨by kernel_rfl, ?_⟩) hk ?_
        · intro wx hSw
          clear hSw hk
          go_simp
          try first | with_reducible rfl | kernel_rfl
        simp only [Act.put, List.getElem_toArray, List.getElem_cons_succ, List.getElem_cons_zero, List.setIfInBounds_toArray, List.set_cons_succ, List.set_cons_zero]
        refine Wl.take0 (i := 6) (v := .pointer (some ⟨q, 0, none⟩)) rfl (by kernel_rfl) (by kernel_rfl) (by kernel_rfl) (by kernel_rfl) (fun _ _ _ h => h) (.inl ⟨by kernel_rfl, ?_⟩) hk ?_
        · intro wx hSw
          clear hSw hk
          go_simp
          try first | with_reducible rfl | kernel_rfl
        simp only [Act.put, List.getElem_toArray, List.getElem_cons_succ, List.getElem_cons_zero, List.setIfInBounds_toArray, List.set_cons_succ, List.set_cons_zero]
        refine Wl.take0 (i := 7) (v := .slice (some ⟨gx, 0, none⟩) ls.length cx) rfl (by kernel_rfl) (by kernel_rfl) (by kernel_rfl) (by kernel_rfl) (fun _ _ _ h => h) (.inl ⟨by kernel_rfl, ?_⟩) hk ?_
        · intro wx hSw
          have cc := hSw.1
          clear hSw hk
          go_simp
          try first | with_reducible rfl | kernel_rfl
        simp only [Act.put, List.getElem_toArray, List.getElem_cons_succ, List.getElem_cons_zero, List.setIfInBounds_toArray, List.set_cons_succ, List.set_cons_zero]
        refine Wl.take0 (i := 8) (v := .int .i64 (k : Int)) rfl (by kernel_rfl) (by kernel_rfl) (by kernel_rfl) (by kernel_rfl) (fun _ _ _ h => h) (.inl ⟨by kernel_rfl, ?_⟩) hk ?_
        · intro wx hSw
          clear hSw hk
          go_simp
          try first | with_reducible rfl | kernel_rfl
        simp only [Act.put, List.getElem_toArray, List.getElem_cons_succ, List.getElem_cons_zero, List.setIfInBounds_toArray, List.set_cons_succ, List.set_cons_zero]
        refine Wl.take0 (i := 9) (v := .pointer (some ⟨gx, k * 3, none⟩)) rfl (by kernel_rfl) (by kernel_rfl) (by kernel_rfl) (by kernel_rfl) (fun _ _ _ h => h) (.inl ⟨by kernel_rfl, ?_⟩) hk ?_
        · intro wx hSw
          clear hSw hk
          go_simp
          try first | with_reducible rfl | kernel_rfl
        simp only [Act.put, List.getElem_toArray, List.getElem_cons_succ, List.getElem_cons_zero, List.setIfInBounds_toArray, List.set_cons_succ, List.set_cons_zero]
        refine Wl.take0 (i := 10) (v := .agg (letC y).toArray) rfl (by kernel_rfl) (by kernel_rfl) (by kernel_rfl) (by kernel_rfl) (fun _ _ _ h => h) (yieldsIf_load_mid (by rfl) _ _ rfl _ _ rfl (letC y) _ (fun w h => h.2.2) Try.underlying37 rfl (by kernel_rfl)) hk ?_
        simp only [Act.put, List.getElem_toArray, List.getElem_cons_succ, List.getElem_cons_zero, List.setIfInBounds_toArray, List.set_cons_succ, List.set_cons_zero]
        refine Wl.take0 (i := 11) (v := .bool false) rfl (by kernel_rfl) (by kernel_rfl) (by kernel_rfl) (by kernel_rfl) (fun _ _ _ h => h) (.inl ⟨by kernel_rfl, ?_⟩) hk ?_
        · intro wx hSw
          clear hSw hk
          go_simp
          try first | with_reducible rfl | kernel_rfl
        simp only [Act.put, List.getElem_toArray, List.getElem_cons_succ, List.getElem_cons_zero, List.setIfInBounds_toArray, List.set_cons_succ, List.set_cons_zero]
        refine Wl.done (by kernel_rfl) ?_ _
        clear hk
        have HBS : Hid (Below w.heap.size w (wr.drew.setCell ⟨gl, k * 3 + 1, none⟩ (.int .i64 99))) := Lib.hid (below_cell HR.out.2.drew HGL.out _)
        have HKS : Hid (Kept gl ls (k + 1) (wr.drew.setCell ⟨gl, k * 3 + 1, none⟩ (.int .i64 99))) := Lib.hid (HR4.out _)
        have r5 : wr.drew.cell? ⟨gl, k * 3 + 1, none⟩ = some (.int .i64 y.dst) := r2
        have r6 : wr.drew.frozen? ⟨gl, k * 3 + 1, none⟩ = false := r3
        obtain ⟨Wz, hWz⟩ : ∃ q, wr.drew.setCell ⟨gl, k * 3 + 1, none⟩ (.int .i64 99) = q := ⟨_, rfl⟩
        rw [hWz] at HBS HKS
        go_wp2_with fail
        clear hWz
        go_roundw
        case rel => exact ⟨k + 1, by omega, by go_num, Lib.hid ⟨HKS.out, HBS.out⟩⟩
        case measure => simp [intOf]; omega
      · obtain rfl : k = ls.length := by omega
        go_wp2
        go_ret
        exact ⟨rfl, HR.out.2⟩
end Nt
end Go.Proofs.Ytgmndcfeifgapaa
