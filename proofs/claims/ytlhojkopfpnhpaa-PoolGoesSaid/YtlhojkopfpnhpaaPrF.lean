/- The law's own and same, the document's Same of equal lists. No condition. -/
import Derived.Test.YtlhojkopfpnhpaaPrE
namespace Go.Proofs.Ytlhojkopfpnhpaa
open Go.ChangeShapes Go.WideShapes Go.ChangeAt Go.RowKit Go.Deep
set_option linter.unusedVariables false
set_option maxRecDepth 100000
set_option linter.unusedSimpArgs false
namespace Pr
open Pl
theorem own_any {v : Value} {cs : List Cn} (w : World) (h : SlR 2 cnC w v cs) (h8 : cs.length ≤ 8) :
    Calls Try.prog 32 #[v] w fun e w' => ∃ u, e = .returned u ∧ OwnR 2 cnC TC w' w.heap.size u cs ∧ Below w.heap.size w w' := by
  rcases SlR.cases h with ⟨a, cap, rfl, rfl⟩ | ⟨b, off, cap, rfl, h0, hlc, hcm, hlt, hc⟩
  · clear h
    go_enter Try.func32, Try.ntmps32
    go_wp2
    refine wp_loop_rounds 1 ?_
    rw [rounds_succ]
    go_wp2
    go_ret
    exact ⟨_, rfl, OwnR.nil _ _ _, Below.refl _ _⟩
  · have HC := Lib.hid hc
    clear h hc
    go_enter Try.func32, Try.ntmps32
    go_wp2
    go_loopw [3, 8] (fun r i wr => ∃ j : Nat, j ≤ cs.length ∧ i = .int .i64 j ∧ Hid (OwnR 2 cnC TC wr w.heap.size r (cs.take j)) ∧ Hid (Below w.heap.size w wr)) (fun _ i _ => cs.length - (intOf i).toNat)
    case atStart => exact ⟨0, Nat.zero_le _, rfl, Lib.hid (OwnR.nil _ _ _), Lib.hid (Below.refl _ _)⟩
    case round =>
      obtain ⟨j, hj, rfl, HO, HBL⟩ := hrel
      by_cases hjl : j < cs.length
      · have hji : (j : Int) < (cs.length : Int) := by omega
        have hce := fun i u hu => (HBL.out.cell (p := ⟨b, off + (j * 2 + i), none⟩) hlt).trans (HC.out j _ (rgetD hjl) i u hu)
        have ht : cs.take (j + 1) = cs.take j ++ [cs[j]] := by rw [List.take_add_one, rgetD hjl]; rfl
        generalize cs[j] = x at *
        obtain ⟨x0, x1⟩ := cn_cells hce
        have HT := Lib.hid ht
        have HTL : Hid ((cs.take j).length ≤ 8) := Lib.hid (by rw [List.length_take]; omega)
        clear hce ht
        obtain ⟨W1, hW1⟩ : ∃ q, wr.alloc (.cells #[.int .i64 x.tok, .int .i64 x.sess] 40) = q := ⟨_, rfl⟩
        have hb1 : Below w.heap.size w W1 := by rw [← hW1]; exact HBL.out.alloc HBL.out.size _
        have hg1 : W1.heap[wr.heap.size]? = some (.cells #[.int .i64 x.tok, .int .i64 x.sess] 40 (0, 0)) := by rw [← hW1]; exact heap_alloc_new _ _
        have d0 : W1.cell? ⟨wr.heap.size, 0, none⟩ = some (.int .i64 x.tok) := (cell_of_row W1 _ 0 _ _ _ hg1).trans rfl
        have d1 : W1.cell? ⟨wr.heap.size, 1, none⟩ = some (.int .i64 x.sess) := (cell_of_row W1 _ 1 _ _ _ hg1).trans rfl
        have ho1 : OwnR 2 cnC TC W1 w.heap.size u3 (cs.take j) := by rw [← hW1]; exact HO.out.alloc _
        obtain ⟨W2, hW2⟩ : ∃ q, W1.alloc (.cells #[.int .i64 x.tok, .int .i64 x.sess] TC) = q := ⟨_, rfl⟩
        have HB2 : Hid (Below w.heap.size w W2) := Lib.hid (by rw [← hW2]; exact hb1.alloc hb1.size _)
        have HO2 : Hid (OwnR 2 cnC TC W2 w.heap.size u3 (cs.take j)) := Lib.hid (by rw [← hW2]; exact ho1.alloc _)
        have HN2 : Hid (SlR 2 cnC W2 (.slice (some ⟨W1.heap.size, 0, none⟩) 1 1) [x]) := Lib.hid (by rw [← hW2]; exact SlR.one cnC_len W1 _ rfl _ x rfl)
        clear hb1 hg1 ho1
        go_wp2_with (at_builtin; refine appR cnC_len cnC_one Try.underlying27 rfl (by decide) info_rcn rfl _ _ rfl w.heap.size _ _ rfl HO2.out (.slice (some ⟨W1.heap.size, 0, none⟩) 1 1) [x] rfl HN2.out (by have := HTL.out; simp only [List.length_singleton]; unfold maxLen; omega) (by have := HTL.out; simp only [List.length_singleton]; omega) HB2.out.size ?_; intro v3 w3 own3 hb3; rw [← HT.out] at own3; have HO3 := Lib.hid own3; have HB3 := Lib.hid (HB2.out.trans hb3); clear own3 hb3)
        go_roundw
        case rel => exact ⟨j + 1, by omega, by go_num, HO3, HB3⟩
        case measure => simp [intOf]; omega
      · obtain rfl : j = cs.length := by omega
        have ho := HO.out
        rw [List.take_length] at ho
        have HOF := Lib.hid ho
        clear ho
        go_wp2
        go_ret
        exact ⟨_, rfl, HOF.out, HBL.out⟩
theorem rsame_any {v u : Value} {xs : List Cn} (w : World) (hx : SlR 2 cnC w v xs) (hz : SlR 2 cnC w u xs) (h8 : xs.length ≤ 8) :
    Calls Try.prog 31 #[v, u] w fun e w' => e = .returned (.bool true) ∧ Below w.heap.size w w' := by
  rcases hx.cases with ⟨a, cap, rfl, rfl⟩ | ⟨b, off, cap, rfl, h0, hlc, hcm, hlt, hc⟩
  · obtain ⟨a2, cap2, rfl, -⟩ := hz
    clear hx
    go_enter Try.func31, Try.ntmps31
    go_wp2
    refine wp_loop_rounds 1 ?_
    rw [rounds_succ]
    go_wp2
    go_ret
    exact ⟨rfl, Below.refl _ _⟩
  · rcases hz.cases with ⟨a, cap, rfl, rfl⟩ | ⟨b2, off2, cap2, rfl, h02, hlc2, hcm2, hlt2, hc2⟩
    · simp at h0
    have HX := Lib.hid hc
    have HZ := Lib.hid hc2
    clear hx hz hc hc2
    go_enter Try.func31, Try.ntmps31
    go_wp2
    go_loopw [13] (fun i wr => ∃ k : Nat, k ≤ xs.length ∧ i = .int .i64 k ∧ Hid (Below w.heap.size w wr)) (fun i _ => xs.length - (intOf i).toNat)
    case atStart => exact ⟨0, Nat.zero_le _, rfl, Lib.hid (Below.refl _ _)⟩
    case round =>
      obtain ⟨k, hk, rfl, HBL⟩ := hrel
      by_cases hlt3 : k < xs.length
      · have HR1 : Hid (wr.drew.rangeAt b (off + k * 2) (cnC xs[k])) := Lib.hid (fun j v hv => by rw [Nat.add_assoc]; exact (HBL.out.cell (p := ⟨b, off + (k * 2 + j), none⟩) hlt).trans (HX.out k _ (rgetD hlt3) j v hv))
        have HR2 : Hid (wr.drew.rangeAt b2 (off2 + k * 2) (cnC xs[k])) := Lib.hid (fun j v hv => by rw [Nat.add_assoc]; exact (HBL.out.cell (p := ⟨b2, off2 + (k * 2 + j), none⟩) hlt2).trans (HZ.out k _ (rgetD hlt3) j v hv))
        generalize xs[k] = y at *
        have hki : (k : Int) < (xs.length : Int) := by omega
        have hk2 : k * 2 < 9223372036854775807 := by omega
        go_upto_region 6 with fail
        refine Wl.start 999 (fun _ => True) (fun u => u.rangeAt b (off + k * 2) (cnC y) ∧ u.rangeAt b2 (off2 + k * 2) (cnC y)) (by kernel_rfl) trivial ⟨HR1.out, HR2.out⟩ (fun hk => ?_)
        refine Wl.take0 (i := 0) (v := .slice (some ⟨b, off, none⟩) xs.length cap) rfl (by kernel_rfl) (by kernel_rfl) (by kernel_rfl) (by kernel_rfl) (fun _ _ _ h => h) (.inl ⟨by kernel_rfl, ?_⟩) hk ?_
        · intro wx hSw
          clear hSw hk
          go_simp
          try first | with_reducible rfl | kernel_rfl
        simp only [Act.put, List.getElem_toArray, List.getElem_cons_succ, List.getElem_cons_zero, List.setIfInBounds_toArray, List.set_cons_succ, List.set_cons_zero]
        refine Wl.take0 (i := 1) (v := .int .i64 (k : Int)) rfl (by kernel_rfl) (by kernel_rfl) (by kernel_rfl) (by kernel_rfl) (fun _ _ _ h => h) (.inl ⟨by kernel_rfl, ?_⟩) hk ?_
        · intro wx hSw
          clear hSw hk
          go_simp
          try first | with_reducible rfl | kernel_rfl
        simp only [Act.put, List.getElem_toArray, List.getElem_cons_succ, List.getElem_cons_zero, List.setIfInBounds_toArray, List.set_cons_succ, List.set_cons_zero]
        refine Wl.take0 (i := 2) (v := .pointer (some ⟨b, off + k * 2, none⟩)) rfl (by kernel_rfl) (by kernel_rfl) (by kernel_rfl) (by kernel_rfl) (fun _ _ _ h => h) (.inl ⟨by kernel_rfl, ?_⟩) hk ?_
        · intro wx hSw
          clear hSw hk
          go_simp
          try first | with_reducible rfl | kernel_rfl
        simp only [Act.put, List.getElem_toArray, List.getElem_cons_succ, List.getElem_cons_zero, List.setIfInBounds_toArray, List.set_cons_succ, List.set_cons_zero]
        refine Wl.take0 (i := 3) (v := .agg (cnC y).toArray) rfl (by kernel_rfl) (by kernel_rfl) (by kernel_rfl) (by kernel_rfl) (fun _ _ _ h => h) (yieldsIf_load_mid (by rfl) _ _ rfl _ _ rfl (cnC y) _ (fun w h => h.1) Try.underlying49 rfl (by kernel_rfl)) hk ?_
        simp only [Act.put, List.getElem_toArray, List.getElem_cons_succ, List.getElem_cons_zero, List.setIfInBounds_toArray, List.set_cons_succ, List.set_cons_zero]
        refine Wl.take0 (i := 4) (v := .slice (some ⟨b2, off2, none⟩) xs.length cap2) rfl (by kernel_rfl) (by kernel_rfl) (by kernel_rfl) (by kernel_rfl) (fun _ _ _ h => h) (.inl ⟨by kernel_rfl, ?_⟩) hk ?_
        · intro wx hSw
          clear hSw hk
          go_simp
          try first | with_reducible rfl | kernel_rfl
        simp only [Act.put, List.getElem_toArray, List.getElem_cons_succ, List.getElem_cons_zero, List.setIfInBounds_toArray, List.set_cons_succ, List.set_cons_zero]
        refine Wl.take0 (i := 5) (v := .int .i64 (k : Int)) rfl (by kernel_rfl) (by kernel_rfl) (by kernel_rfl) (by kernel_rfl) (fun _ _ _ h => h) (.inl ⟨by kernel_rfl, ?_⟩) hk ?_
        · intro wx hSw
          clear hSw hk
          go_simp
          try first | with_reducible rfl | kernel_rfl
        simp only [Act.put, List.getElem_toArray, List.getElem_cons_succ, List.getElem_cons_zero, List.setIfInBounds_toArray, List.set_cons_succ, List.set_cons_zero]
        refine Wl.take0 (i := 6) (v := .pointer (some ⟨b2, off2 + k * 2, none⟩)) rfl (by kernel_rfl) (by kernel_rfl) (by kernel_rfl) (by kernel_rfl) (fun _ _ _ h => h) (.inl ⟨by kernel_rfl, ?_⟩) hk ?_
        · intro wx hSw
          clear hSw hk
          go_simp
          try first | with_reducible rfl | kernel_rfl
        simp only [Act.put, List.getElem_toArray, List.getElem_cons_succ, List.getElem_cons_zero, List.setIfInBounds_toArray, List.set_cons_succ, List.set_cons_zero]
        refine Wl.take0 (i := 7) (v := .agg (cnC y).toArray) rfl (by kernel_rfl) (by kernel_rfl) (by kernel_rfl) (by kernel_rfl) (fun _ _ _ h => h) (yieldsIf_load_mid (by rfl) _ _ rfl _ _ rfl (cnC y) _ (fun w h => h.2) Try.underlying49 rfl (by kernel_rfl)) hk ?_
        simp only [Act.put, List.getElem_toArray, List.getElem_cons_succ, List.getElem_cons_zero, List.setIfInBounds_toArray, List.set_cons_succ, List.set_cons_zero]
        refine Wl.take0 (i := 8) (v := .bool false) rfl (by kernel_rfl) (by kernel_rfl) (by kernel_rfl) (by kernel_rfl) (fun _ _ _ h => h) (.inl ⟨by kernel_rfl, ?_⟩) hk ?_
        · intro wx hSw
          clear hSw hk
          go_simp
          try first | with_reducible rfl | kernel_rfl
        simp only [Act.put, List.getElem_toArray, List.getElem_cons_succ, List.getElem_cons_zero, List.setIfInBounds_toArray, List.set_cons_succ, List.set_cons_zero]
        refine Wl.done (by kernel_rfl) ?_ _
        clear hk
        go_wp2
        go_roundw
        case rel => exact ⟨k + 1, by omega, by go_num, Lib.hid HBL.out.drew⟩
        case measure => simp [intOf]; omega
      · obtain rfl : k = xs.length := by omega
        go_wp2
        go_ret
        exact ⟨rfl, HBL.out⟩
theorem below_cell {B : Nat} {w w' : World} (h : Below B w w') {b o : Nat} (hg : B ≤ b) (x : Value) : Below B w (w'.setCell ⟨b, o, none⟩ x) :=
  ⟨h.os, h.tape, h.output, by simpa using h.size, fun k hk => (Below.heap_setCell _ _ _ _ (by simp; omega)).trans (h.block k hk)⟩
/-- a row of n cells that may be written -/
def RowN (w : World) (g n : Nat) : Prop := ∃ cur t, w.heap[g]? = some (.cells cur t (0, 0)) ∧ n ≤ cur.size
theorem RowN.at {w : World} {g n : Nat} (h : RowN w g n) {i : Nat} (hi : i < n) : (∃ v, w.cell? ⟨g, i, none⟩ = some v) ∧ w.frozen? ⟨g, i, none⟩ = false ∧ ∀ x, RowN (w.setCell ⟨g, i, none⟩ x) g n := by
  obtain ⟨cur, t, h1, h2⟩ := h
  refine ⟨⟨cur[i], ?_⟩, frozen_of_row _ _ _ _ _ h1, fun x => ⟨_, t, heap_setCell_same _ g i _ _ x h1, by simpa using h2⟩⟩
  rw [cell_of_row _ _ _ _ _ _ h1]
  exact Array.getElem?_eq_getElem (by omega)
theorem own_rowN {α : Type} {sz : Nat} {C : α → List Value} (hC : ∀ x, (C x).length = sz) {e : TypeId} {w : World} {B : Nat} {v : Value} {xs : List α} (h : OwnR sz C e w B v xs) : (v = .slice none 0 0 ∧ xs = []) ∨ ∃ g c, v = .slice (some ⟨g, 0, none⟩) xs.length c ∧ B ≤ g ∧ RowN w g (xs.length * sz) := by
  rcases h.2 with ⟨rfl, h0⟩ | ⟨g, cap, cur, rfl, hg, hh, hle, hcm, hsz, htk⟩
  · exact .inl ⟨rfl, List.eq_nil_of_length_eq_zero h0⟩
  · refine .inr ⟨g, cap, rfl, hg, cur, e, hh, ?_⟩
    rw [hsz]
    exact Nat.mul_le_mul_right _ hle
theorem RowN.any {w : World} {g n : Nat} (h : RowN w g n) (b o : Nat) (x : Value) : RowN (w.setCell ⟨b, o, none⟩ x) g n := by
  obtain ⟨cur, t, h1, h2⟩ := h
  by_cases e : b = g
  · subst e
    exact ⟨_, t, heap_setCell_same _ b o _ _ x h1, by simpa using h2⟩
  · exact ⟨cur, t, (Below.heap_setCell _ _ _ _ (by simpa using fun q => e q.symm)).trans h1, h2⟩
set_option maxHeartbeats 4000000 in
theorem same_any {p B q : Nat} {vC vW : Value} {cs : List Cn} {ws : List Int} (w : World) (hp : PoolAt w p cs ws) (hx : RpAt w B q vC vW cs ws) :
    Calls Try.prog 19 #[.pointer (some ⟨p, 0, none⟩), .pointer (some ⟨q, 0, none⟩)] w fun e w' => e = .returned (.bool true) ∧ Below w.heap.size w w' := by
  have HP := Lib.hid hp
  have HX := Lib.hid hx
  have h8 := hp.2.1
  have h4 := hp.2.2
  clear hp hx
  go_enter Try.func19, Try.ntmps19
  go_wp2_with fail
  refine (Conns_any _ HP.out).mono ?_
  rintro e w1 ⟨vc, rfl, own1, hb1⟩
  have HP1 := Lib.hid (PoolAt.below HP.out hb1)
  have HX1 := Lib.hid (RpAt.below HX.out hb1)
  have HB1 := Lib.hid hb1
  have HC1 := Lib.hid own1
  clear own1 hb1
  go_wp2_with fail
  refine (Waits_any _ HP1.out).mono ?_
  rintro e w2 ⟨vw, rfl, own2, hb2⟩
  have HD : Hid (RpAt w2.drew B q vC vW cs ws) := Lib.hid (RpAt.drew (RpAt.below HX1.out hb2))
  have HB2 : Hid (Below w.heap.size w w2.drew) := Lib.hid (HB1.out.trans (hb2.mono HB1.out.size)).drew
  have HCl : Hid (OwnR 2 cnC 40 w2.drew w.heap.size vc cs) := Lib.hid (OwnR.below (w' := w2.drew) HC1.out hb2.drew (Nat.le_refl _))
  have HWl : Hid (OwnR 1 intC 3 w2.drew w.heap.size vw ws) := Lib.hid (own_up (OwnR.below (w' := w2.drew) own2 ((Below.refl w2.heap.size w2).drew) (Nat.le_refl _)) (fun k hk => Nat.le_trans HB1.out.size (World.ownsRow.lt own2 k hk).1))
  have HCo := Lib.hid (HCl.out.sl cnC_len)
  clear own2 hb2 HP1 HX1 HC1
  go_upto_region 3 with fail
  refine Wl.start 999 (fun _ => True) (fun u => u.cell? ⟨q, 0, none⟩ = some vC ∧ u.cell? ⟨q, 1, none⟩ = some vW) (by kernel_rfl) trivial ⟨HD.out.c0, HD.out.c1⟩ (fun hk => ?_)
  refine Wl.take0 (i := 0) (v := vc) rfl (by kernel_rfl) (by kernel_rfl) (by kernel_rfl) (by kernel_rfl) (fun _ _ _ h => h) (.inl ⟨by kernel_rfl, ?_⟩) hk ?_
  · intro wx hSw
    clear hSw hk
    go_simp
    try first | with_reducible rfl | kernel_rfl
  simp only [Act.put, List.getElem_toArray, List.getElem_cons_succ, List.getElem_cons_zero, List.setIfInBounds_toArray, List.set_cons_succ, List.set_cons_zero]
  refine Wl.take0 (i := 2) (v := .pointer (some ⟨q, 0, none⟩)) rfl (by kernel_rfl) (by kernel_rfl) (by kernel_rfl) (by kernel_rfl) (fun _ _ _ h => h) (.inl ⟨by kernel_rfl, ?_⟩) hk ?_
  · intro wx hSw
    clear hSw hk
    go_simp
    try first | with_reducible rfl | kernel_rfl
  simp only [Act.put, List.getElem_toArray, List.getElem_cons_succ, List.getElem_cons_zero, List.setIfInBounds_toArray, List.set_cons_succ, List.set_cons_zero]
  refine Wl.take0 (i := 3) (v := .pointer (some ⟨q, 0, none⟩)) rfl (by kernel_rfl) (by kernel_rfl) (by kernel_rfl) (by kernel_rfl) (fun _ _ _ h => h) (.inl ⟨by kernel_rfl, ?_⟩) hk ?_
  · intro wx hSw
    clear hSw hk
    go_simp
    try first | with_reducible rfl | kernel_rfl
  simp only [Act.put, List.getElem_toArray, List.getElem_cons_succ, List.getElem_cons_zero, List.setIfInBounds_toArray, List.set_cons_succ, List.set_cons_zero]
  refine Wl.take0 (i := 4) (v := .pointer (some ⟨q, 0, none⟩)) rfl (by kernel_rfl) (by kernel_rfl) (by kernel_rfl) (by kernel_rfl) (fun _ _ _ h => h) (.inl ⟨by kernel_rfl, ?_⟩) hk ?_
  · intro wx hSw
    clear hSw hk
    go_simp
    try first | with_reducible rfl | kernel_rfl
  simp only [Act.put, List.getElem_toArray, List.getElem_cons_succ, List.getElem_cons_zero, List.setIfInBounds_toArray, List.set_cons_succ, List.set_cons_zero]
  refine Wl.take0 (i := 5) (v := vC) rfl (by kernel_rfl) (by kernel_rfl) (by kernel_rfl) (by kernel_rfl) (fun _ _ _ h => h) (.inl ⟨by kernel_rfl, ?_⟩) hk ?_
  · intro wx hSw
    have cc := hSw.1
    clear hSw hk
    go_simp
    try first | with_reducible rfl | kernel_rfl
  simp only [Act.put, List.getElem_toArray, List.getElem_cons_succ, List.getElem_cons_zero, List.setIfInBounds_toArray, List.set_cons_succ, List.set_cons_zero]
  refine Wl.one (i := 1) (by kernel_rfl) rfl (fun K hK => ?_)
  go_simp
  refine (own_any _ HCo.out h8).mono ?_
  rintro e w3 ⟨v3, rfl, own3, hb3⟩
  have HD3 := Lib.hid (RpAt.below HD.out hb3)
  have HO3 := Lib.hid (own3.sl cnC_len)
  have HB3 := Lib.hid (HB2.out.trans (hb3.mono HB2.out.size))
  have HC3 := Lib.hid (HCl.out.below hb3 (Nat.le_refl _))
  have HW3 := Lib.hid (HWl.out.below hb3 (Nat.le_refl _))
  clear own3 hb3
  refine hK.out _ _ (Wl.Kn.on trivial ⟨HD3.out.c0, HD3.out.c1⟩) (fun hk => ?_)
  clear hK K
  refine Wl.one (i := 6) (by kernel_rfl) rfl (fun K hK => ?_)
  go_simp
  refine (rsame_any _ HO3.out (HD3.out.2.1.sl cnC_len) h8).mono ?_
  rintro e w4 ⟨rfl, hb4⟩
  have HD4 := Lib.hid (RpAt.below HD3.out hb4)
  have HB4 := Lib.hid (HB3.out.trans (hb4.mono HB3.out.size))
  have HC4 := Lib.hid (HC3.out.below hb4 (Nat.le_refl _))
  have HW4 := Lib.hid (HW3.out.below hb4 (Nat.le_refl _))
  clear hb4
  refine hK.out _ _ (Wl.Kn.on trivial ⟨HD4.out.c0, HD4.out.c1⟩) (fun hk => ?_)
  clear hK K
  refine Wl.take0 (i := 7) (v := .bool true) rfl (by kernel_rfl) (by kernel_rfl) (by kernel_rfl) (by kernel_rfl) (fun _ _ _ h => h) (.inl ⟨by kernel_rfl, ?_⟩) hk ?_
  · intro wx hSw
    clear hSw hk
    go_simp
    try first | with_reducible rfl | kernel_rfl
  simp only [Act.put, List.getElem_toArray, List.getElem_cons_succ, List.getElem_cons_zero, List.setIfInBounds_toArray, List.set_cons_succ, List.set_cons_zero]
  refine Wl.take0 (i := 8) (v := vw) rfl (by kernel_rfl) (by kernel_rfl) (by kernel_rfl) (by kernel_rfl) (fun _ _ _ h => h) (.inl ⟨by kernel_rfl, ?_⟩) hk ?_
  · intro wx hSw
    clear hSw hk
    go_simp
    try first | with_reducible rfl | kernel_rfl
  simp only [Act.put, List.getElem_toArray, List.getElem_cons_succ, List.getElem_cons_zero, List.setIfInBounds_toArray, List.set_cons_succ, List.set_cons_zero]
  refine Wl.take0 (i := 9) (v := .pointer (some ⟨q, 0, none⟩)) rfl (by kernel_rfl) (by kernel_rfl) (by kernel_rfl) (by kernel_rfl) (fun _ _ _ h => h) (.inl ⟨by kernel_rfl, ?_⟩) hk ?_
  · intro wx hSw
    clear hSw hk
    go_simp
    try first | with_reducible rfl | kernel_rfl
  simp only [Act.put, List.getElem_toArray, List.getElem_cons_succ, List.getElem_cons_zero, List.setIfInBounds_toArray, List.set_cons_succ, List.set_cons_zero]
  refine Wl.take0 (i := 10) (v := .pointer (some ⟨q, 0, none⟩)) rfl (by kernel_rfl) (by kernel_rfl) (by kernel_rfl) (by kernel_rfl) (fun _ _ _ h => h) (.inl ⟨by kernel_rfl, ?_⟩) hk ?_
  · intro wx hSw
    clear hSw hk
    go_simp
    try first | with_reducible rfl | kernel_rfl
  simp only [Act.put, List.getElem_toArray, List.getElem_cons_succ, List.getElem_cons_zero, List.setIfInBounds_toArray, List.set_cons_succ, List.set_cons_zero]
  refine Wl.take0 (i := 11) (v := .pointer (some ⟨q, 1, none⟩)) rfl (by kernel_rfl) (by kernel_rfl) (by kernel_rfl) (by kernel_rfl) (fun _ _ _ h => h) (.inl ⟨by kernel_rfl, ?_⟩) hk ?_
  · intro wx hSw
    clear hSw hk
    go_simp
    try first | with_reducible rfl | kernel_rfl
  simp only [Act.put, List.getElem_toArray, List.getElem_cons_succ, List.getElem_cons_zero, List.setIfInBounds_toArray, List.set_cons_succ, List.set_cons_zero]
  refine Wl.take0 (i := 12) (v := vW) rfl (by kernel_rfl) (by kernel_rfl) (by kernel_rfl) (by kernel_rfl) (fun _ _ _ h => h) (.inl ⟨by kernel_rfl, ?_⟩) hk ?_
  · intro wx hSw
    have cc := hSw.2
    clear hSw hk
    go_simp
    try first | with_reducible rfl | kernel_rfl
  simp only [Act.put, List.getElem_toArray, List.getElem_cons_succ, List.getElem_cons_zero, List.setIfInBounds_toArray, List.set_cons_succ, List.set_cons_zero]
  refine Wl.one (i := 13) (by kernel_rfl) rfl (fun K hK => ?_)
  go_simp
  refine (Pl.same_eq _ (HW4.out.sl intC_len) (HD4.out.2.2.1.sl intC_len)).mono ?_
  rintro e w5 ⟨rfl, hb5⟩
  have HD5 := Lib.hid (RpAt.below HD4.out hb5)
  have HB5 := Lib.hid (HB4.out.trans (hb5.mono HB4.out.size))
  have HC5 := Lib.hid (HC4.out.below hb5 (Nat.le_refl _))
  have HW5 := Lib.hid (HW4.out.below hb5 (Nat.le_refl _))
  clear hb5
  refine hK.out _ _ (Wl.Kn.on trivial ⟨HD5.out.c0, HD5.out.c1⟩) (fun hk => ?_)
  clear hK K
  refine Wl.take0 (i := 14) (v := .bool true) rfl (by kernel_rfl) (by kernel_rfl) (by kernel_rfl) (by kernel_rfl) (fun _ _ _ h => h) (.inl ⟨by kernel_rfl, ?_⟩) hk ?_
  · intro wx hSw
    clear hSw hk
    go_simp
    try first | with_reducible rfl | kernel_rfl
  simp only [Act.put, List.getElem_toArray, List.getElem_cons_succ, List.getElem_cons_zero, List.setIfInBounds_toArray, List.set_cons_succ, List.set_cons_zero]
  refine Wl.take0 (i := 15) (v := .bool true) rfl (by kernel_rfl) (by kernel_rfl) (by kernel_rfl) (by kernel_rfl) (fun _ _ _ h => h) (.inl ⟨by kernel_rfl, ?_⟩) hk ?_
  · intro wx hSw
    clear hSw hk
    go_simp
    try first | with_reducible rfl | kernel_rfl
  simp only [Act.put, List.getElem_toArray, List.getElem_cons_succ, List.getElem_cons_zero, List.setIfInBounds_toArray, List.set_cons_succ, List.set_cons_zero]
  refine Wl.done (by kernel_rfl) ?_ _
  clear hk
  have hc := own_rowN cnC_len HC5.out
  have hw := own_rowN intC_len HW5.out
  have HCC := Lib.hid hc
  have HWW := Lib.hid hw
  clear hc hw
  rcases HCC.out with ⟨rfl, hz⟩ | ⟨gc, cc, rfl, hgc, hrc⟩
  · subst hz
    rcases HWW.out with ⟨rfl, hz2⟩ | ⟨gw, cw, rfl, hgw, hrw⟩
    · subst hz2
      go_wp2_with fail
      refine wp_loop_rounds 1 ?_
      rw [rounds_succ]
      go_wp2_with fail
      refine wp_loop_rounds 1 ?_
      rw [rounds_succ]
      go_wp2_with fail
      go_ret
      exact ⟨rfl, HB5.out⟩
    · have HRW := Lib.hid hrw
      clear hrw
      go_wp2_with fail
      refine wp_loop_rounds 1 ?_
      rw [rounds_succ]
      go_wp2_with fail
      go_loopw [41] (fun i wr => ∃ k : Nat, k ≤ ws.length ∧ i = .int .i64 (k : Int) ∧ Hid (RowN wr gw (ws.length * 1) ∧ Below w.heap.size w wr)) (fun i _ => ws.length - (intOf i).toNat)
      case atStart => exact ⟨0, Nat.zero_le _, rfl, Lib.hid ⟨HRW.out, HB5.out⟩⟩
      case round =>
        obtain ⟨k, hk, rfl, HR⟩ := hrel
        by_cases hlt : k < ws.length
        · have hlti : (k : Int) < (ws.length : Int) := by omega
          obtain ⟨⟨r1v, r1⟩, r2, r3⟩ := HR.out.1.at (show k < ws.length * 1 by omega)
          have hbz : k < 9223372036854775807 := by omega
          obtain ⟨Wz, hWz⟩ : ∃ q, wr.setCell ⟨gw, k, none⟩ (.int .i64 99) = q := ⟨_, rfl⟩
          have HF : Hid (RowN Wz gw (ws.length * 1) ∧ Below w.heap.size w Wz) := Lib.hid (by rw [← hWz]; exact ⟨r3 _, below_cell HR.out.2 hgw _⟩)
          clear r3
          go_wp2_with fail
          clear hWz
          go_roundw
          case rel => exact ⟨k + 1, by omega, by go_num, HF⟩
          case measure => simp [intOf]; omega
        · obtain rfl : k = ws.length := by omega
          go_wp2_with fail
          go_ret
          exact ⟨rfl, HR.out.2⟩
  · have HRC := Lib.hid hrc
    clear hrc
    rcases HWW.out with ⟨rfl, hz2⟩ | ⟨gw, cw, rfl, hgw, hrw⟩
    · subst hz2
      go_wp2_with fail
      go_loopw [31] (fun i wr => ∃ k : Nat, k ≤ cs.length ∧ i = .int .i64 (k : Int) ∧ Hid (RowN wr gc (cs.length * 2) ∧ Below w.heap.size w wr)) (fun i _ => cs.length - (intOf i).toNat)
      case atStart => exact ⟨0, Nat.zero_le _, rfl, Lib.hid ⟨HRC.out, HB5.out⟩⟩
      case round =>
        obtain ⟨k, hk, rfl, HR⟩ := hrel
        by_cases hlt : k < cs.length
        · have hlti : (k : Int) < (cs.length : Int) := by omega
          obtain ⟨⟨r1v, r1⟩, r2, r3⟩ := HR.out.1.at (show k * 2 + 1 < cs.length * 2 by omega)
          have hbz : k * 2 + 1 < 9223372036854775807 := by omega
          obtain ⟨Wz, hWz⟩ : ∃ q, wr.setCell ⟨gc, k * 2 + 1, none⟩ (.int .i64 99) = q := ⟨_, rfl⟩
          have HF : Hid (RowN Wz gc (cs.length * 2) ∧ Below w.heap.size w Wz) := Lib.hid (by rw [← hWz]; exact ⟨r3 _, below_cell HR.out.2 hgc _⟩)
          clear r3
          go_wp2_with fail
          clear hWz
          go_roundw
          case rel => exact ⟨k + 1, by omega, by go_num, HF⟩
          case measure => simp [intOf]; omega
        · obtain rfl : k = cs.length := by omega
          go_wp2_with fail
          refine wp_loop_rounds 1 ?_
          rw [rounds_succ]
          go_wp2_with fail
          go_ret
          exact ⟨rfl, HR.out.2⟩
    · have HRW := Lib.hid hrw
      clear hrw
      go_wp2_with fail
      go_loopw [31] (fun i wr => ∃ k : Nat, k ≤ cs.length ∧ i = .int .i64 (k : Int) ∧ Hid (RowN wr gc (cs.length * 2) ∧ Below w.heap.size w wr ∧ RowN wr gw (ws.length * 1))) (fun i _ => cs.length - (intOf i).toNat)
      case atStart => exact ⟨0, Nat.zero_le _, rfl, Lib.hid ⟨HRC.out, HB5.out, HRW.out⟩⟩
      case round =>
        obtain ⟨k, hk, rfl, HR⟩ := hrel
        by_cases hlt : k < cs.length
        · have hlti : (k : Int) < (cs.length : Int) := by omega
          obtain ⟨⟨r1v, r1⟩, r2, r3⟩ := HR.out.1.at (show k * 2 + 1 < cs.length * 2 by omega)
          have hbz : k * 2 + 1 < 9223372036854775807 := by omega
          obtain ⟨Wz, hWz⟩ : ∃ q, wr.setCell ⟨gc, k * 2 + 1, none⟩ (.int .i64 99) = q := ⟨_, rfl⟩
          have HF : Hid (RowN Wz gc (cs.length * 2) ∧ Below w.heap.size w Wz ∧ RowN Wz gw (ws.length * 1)) := Lib.hid (by rw [← hWz]; exact ⟨r3 _, below_cell HR.out.2.1 hgc _, HR.out.2.2.any _ _ _⟩)
          clear r3
          go_wp2_with fail
          clear hWz
          go_roundw
          case rel => exact ⟨k + 1, by omega, by go_num, HF⟩
          case measure => simp [intOf]; omega
        · obtain rfl : k = cs.length := by omega
          go_wp2_with fail
          obtain ⟨wo, hwo⟩ : ∃ q, q = wr := ⟨_, rfl⟩
          subst hwo
          have HRO := Lib.hid HR.out
          clear HR
          go_loopw [41] (fun i wr => ∃ k : Nat, k ≤ ws.length ∧ i = .int .i64 (k : Int) ∧ Hid (RowN wr gw (ws.length * 1) ∧ Below w.heap.size w wr)) (fun i _ => ws.length - (intOf i).toNat)
          case atStart => exact ⟨0, Nat.zero_le _, rfl, Lib.hid ⟨HRO.out.2.2, HRO.out.2.1⟩⟩
          case round =>
            obtain ⟨k, hk, rfl, HR⟩ := hrel
            by_cases hlt : k < ws.length
            · have hlti : (k : Int) < (ws.length : Int) := by omega
              obtain ⟨⟨r1v, r1⟩, r2, r3⟩ := HR.out.1.at (show k < ws.length * 1 by omega)
              have hbz : k < 9223372036854775807 := by omega
              obtain ⟨Wz, hWz⟩ : ∃ q, wr.setCell ⟨gw, k, none⟩ (.int .i64 99) = q := ⟨_, rfl⟩
              have HF : Hid (RowN Wz gw (ws.length * 1) ∧ Below w.heap.size w Wz) := Lib.hid (by rw [← hWz]; exact ⟨r3 _, below_cell HR.out.2 hgw _⟩)
              clear r3
              go_wp2_with fail
              clear hWz
              go_roundw
              case rel => exact ⟨k + 1, by omega, by go_num, HF⟩
              case measure => simp [intOf]; omega
            · obtain rfl : k = ws.length := by omega
              go_wp2_with fail
              go_ret
              exact ⟨rfl, HR.out.2⟩
end Pr
end Go.Proofs.Ytlhojkopfpnhpaa
