/- The document's Decode of a snapshot. No condition. -/
import Derived.Test.YtpdhndldfmhaeaaEdG
import Derived.Test.YtpdhndldfmhaeaaEcC
namespace Go.Proofs.Ytpdhndldfmhaeaa
open Go.ChangeShapes Go.WideShapes Go.ChangeAt Go.RowKit Go.Deep
set_option linter.unusedVariables false
set_option maxRecDepth 100000
namespace Sc
open Cm Nm Sh
set_option maxHeartbeats 8000000 in
theorem rdec_any (zs : List Int) (v : Value) (w : World) (hs : Sl .u8 w v zs) : Calls Try.prog 5 #[v] w (DecE zs w) := by
  obtain ⟨av, cv, rfl, -⟩ := id hs
  obtain ⟨W0, hW0⟩ : ∃ q, w.alloc (.cells zSA 30) = q := ⟨_, rfl⟩
  have hb0 : Below w.heap.size w W0 := by rw [← hW0]; exact (Below.refl _ _).alloc (Nat.le_refl _) _
  have HQ0 : Hid (W0.heap[w.heap.size]? = some (.cells zSA 30 (0, 0))) := Lib.hid (by rw [← hW0]; exact heap_alloc_new _ _)
  have HZ0 : Hid (W0.heap.size = w.heap.size + 1) := Lib.hid (by rw [← hW0]; simp)
  have HB0 := Lib.hid hb0
  have HSL := Lib.hid hs
  clear hs hb0
  by_cases hl : 8192 < zs.length
  · have HDV := Lib.hid (dec_long hl)
    have hl2 : (8192 : Int) < (zs.length : Int) := by omega
    obtain ⟨WZ, hWZ⟩ : ∃ q, W0.setRow w.heap.size zSA = q := ⟨_, rfl⟩
    have HQZ : Hid (WZ.heap[w.heap.size]? = some (.cells zSA 30 (0, 0))) := Lib.hid (by rw [← hWZ]; exact setRow_heap _ _ _ _ _ _ HQ0.out)
    have HFIN := Lib.hid (dec_nil (w := w) (W := WZ) HDV.out (by rw [← hWZ]; exact Ld.below_row HB0.out (Nat.le_refl _) _))
    go_enter Try.func5, Try.ntmps5
    go_wp2_with (first | (with_reducible refine wpList_store_row rfl 30 (.tmp 2) (.tmp 10) rfl w.heap.size zSA rfl rfl 30 _ HQ0.out (by kernel_rfl) rfl zSA_one ?_; rw [hWZ]; clear hWZ) | fail)
    refine bodyPost_ret (v := .tuple #[.agg zSA, .int .i64 2]) (results_c2 rfl _ _ w.heap.size 30 _ (0, 0) _ rfl HQZ.out Try.underlying30 rfl (by kernel_rfl) rfl) rfl ?_
    exact HFIN.out
  have hl2 : ¬ (8192 : Int) < (zs.length : Int) := by omega
  have HNL := Lib.hid hl
  obtain ⟨W1, hW1⟩ : ∃ q, W0.alloc (.cells #[.slice av zs.length cv, .int .i64 0, .int .i64 0] 42) = q := ⟨_, rfl⟩
  have hbA : Below (w.heap.size + 1) W0 W1 := by rw [← hW1]; exact (Below.refl _ _).alloc (by have := HZ0.out; omega) _
  have HR1 : Hid (RB (w.heap.size + 1) (.slice av zs.length cv) 0 0 W1) := Lib.hid (by rw [← hW1]; unfold RB; rw [← HZ0.out]; exact heap_alloc_new _ _)
  have HB1 := Lib.hid (HB0.out.trans (hbA.mono (by omega)))
  have HQ1 := Lib.hid ((hbA.block _ (by omega)).trans HQ0.out)
  have HZ1 : Hid (w.heap.size + 1 < W1.heap.size) := Lib.hid (row_lt HR1.out)
  rcases hS : shotR (zs, 0) with ⟨S, rest, er⟩
  have HS := Lib.hid hS
  have HS2 : Hid ((shotS (zs, 0)).2 = (rest, er)) := Lib.hid (by rw [← (shotR_eq (zs, 0)).1, hS])
  have HS1 : Hid ((er == 0) = true → (shotS (zs, 0)).1 = S) := Lib.hid (fun h => by rw [← (shotR_eq (zs, 0)).2 (by rw [HS2.out]; exact h), hS])
  clear hS hbA hl
  have hz0 := HZ0.out
  go_enter Try.func5, Try.ntmps5
  go_upto_region 4 with (fail)
  clear hW1
  go_wp2_with fail
  refine (rread_any w (w.heap.size + 1) zs 0 _ W1 HR1.out HSL.out (Nat.zero_le _) (by have := HNL.out; omega) HB1.out (Nat.le_succ _)).mono ?_
  rintro E w2 ⟨vn, vh, vl, rfl, o1, o2, o3, hr2, ho2⟩
  rw [show zs.drop 0 = zs from rfl, HS.out] at o1 o2 o3 hr2 ⊢
  obtain ⟨a1, m1, q1, rfl⟩ := own_formx o1
  obtain ⟨a2, m2, q2, rfl⟩ := own_formx o2
  obtain ⟨a3, m3, q3, rfl⟩ := own_formx o3
  have HO2 := Lib.hid (⟨o1, o2, o3⟩ : OwnI w2 W1.heap.size (.slice a1 m1 q1) S.nodes ∧ OwnR 5 heldC 51 w2 W1.heap.size (.slice a2 m2 q2) S.led.held ∧ OwnR 6 lastC 56 w2 W1.heap.size (.slice a3 m3 q3) S.led.last)
  have HB2 : Hid (Below w.heap.size w w2) := Lib.hid (ho2.below HB1.out HB1.out.size (fun q hq => by omega))
  have HQ2 := Lib.hid ((ho2.2.2.2.2 _ (row_lt HQ1.out) (by omega)).trans HQ1.out)
  have HSZ : Hid (W1.heap.size ≤ w2.heap.size) := Lib.hid ho2.2.2.2.1
  have hsS : (w2.alloc (.cells zSA 30)).heap[w2.heap.size]? = some (.cells zSA 30 (0, 0)) := heap_alloc_new _ _
  obtain ⟨W3, hW3⟩ : ∃ q, (w2.alloc (.cells zSA 30)).setRow w2.heap.size (sArr S (.slice a1 m1 q1) (.slice a2 m2 q2) (.slice a3 m3 q3)) = q := ⟨_, rfl⟩
  have hb3 : Below w2.heap.size w2 W3 := by rw [← hW3]; exact Ld.below_row ((Below.refl _ _).alloc (Nat.le_refl _) _) (Nat.le_refl _) _
  have HX3 : Hid (W3.heap[w2.heap.size]? = some (.cells (sArr S (.slice a1 m1 q1) (.slice a2 m2 q2) (.slice a3 m3 q3)) 30 (0, 0))) := Lib.hid (by rw [← hW3]; exact setRow_heap _ _ _ _ _ _ hsS)
  have HB3 := Lib.hid (HB2.out.trans (hb3.mono HB2.out.size))
  have HQ3 := Lib.hid ((hb3.block _ (row_lt HQ2.out)).trans HQ2.out)
  have HO3 : Hid (OwnI W3 W1.heap.size (.slice a1 m1 q1) S.nodes ∧ OwnR 5 heldC 51 W3 W1.heap.size (.slice a2 m2 q2) S.led.held ∧ OwnR 6 lastC 56 W3 W1.heap.size (.slice a3 m3 q3) S.led.last) := Lib.hid ⟨own_belowx hb3 HO2.out.1, own_belowx hb3 HO2.out.2.1, own_belowx hb3 HO2.out.2.2⟩
  obtain ⟨vq, u, hrow0, -, -, hrest⟩ := hr2
  dsimp only at hrow0 hrest
  have hrow : RB (w.heap.size + 1) vq u er W3 := (hb3.block _ (row_lt hrow0)).trans hrow0
  have HROW := Lib.hid hrow
  have HREST := Lib.hid hrest
  have e1 := hrow.c1
  have e2 := hrow.c2
  have HERR : Hid (errS zs = if (er == 0) = true ∧ 0 < rest.length then 11 else er) := Lib.hid (by unfold errS; rw [HS2.out])
  have HG2 : Hid (w.heap.size + 1 < w2.heap.size) := Lib.hid (by have := HZ1.out; have := HSZ.out; omega)
  clear o1 o2 o3 hb3 ho2 hrow hrow0 hrest HO2
  cases her : (er == 0) with
  | false =>
    have hne : (er != 0) = true := by rw [bne, her]; rfl
    have HDV : Hid (decV zs = (zS, er)) := Lib.hid (by
      have q : errS zs = er := by rw [HERR.out, her]; simp
      rw [dec_err HNL.out (by rw [q]; simpa using her), q])
    go_upto_region 8 with (first | (with_reducible refine wpList_store_row rfl 30 (.tmp 5) (.tmp 15) rfl w2.heap.size (sArr S (.slice a1 m1 q1) (.slice a2 m2 q2) (.slice a3 m3 q3)) rfl rfl 30 _ hsS (by kernel_rfl) rfl (sArr_one _ _ _ _ _ _ _ _ _ _) ?_; rw [hW3]; clear hW3 hsS) | fail)
    obtain ⟨WZ, hWZ⟩ : ∃ q, W3.drew.setRow w.heap.size zSA = q := ⟨_, rfl⟩
    have HQD : Hid (W3.drew.heap[w.heap.size]? = some (.cells zSA 30 (0, 0))) := Lib.hid HQ3.out
    have HQZ : Hid (WZ.heap[w.heap.size]? = some (.cells zSA 30 (0, 0))) := Lib.hid (by rw [← hWZ]; exact setRow_heap _ _ _ _ _ _ HQD.out)
    have HRZ : Hid (WZ.heap[w.heap.size + 1]? = some (.cells (rA vq u er) 42 (0, 0))) := Lib.hid (by rw [← hWZ]; exact (setRow_other _ _ _ _ (by omega)).trans HROW.out)
    have HFIN := Lib.hid (dec_nil (w := w) (W := WZ) HDV.out (by rw [← hWZ]; exact Ld.below_row HB3.out.drew (Nat.le_refl _) _))
    refine wp_region_held_drew (S := fun w' => w'.heap[w.heap.size + 1]? = some (.cells (rA vq u er) 42 (0, 0))) (by kernel_rfl) HROW.out (fun hHeld => ?_)
    refine wpAnyH_take (i := 0) (v := (.agg zSA)) rfl (by kernel_rfl) (by kernel_rfl) (by kernel_rfl) (fun _ _ _ h => h) (Or.inl ⟨by kernel_rfl, ?_⟩) (by assumption) ?_
    · intro wx hSw
      clear hSw hHeld
      go_simp
      try first | with_reducible rfl | kernel_rfl
    simp only [Act.put, List.getElem_toArray, List.getElem_cons_zero, List.setIfInBounds_toArray, List.set_cons_succ, List.set_cons_zero]
    refine wpAnyH_take (i := 1) (v := .pointer (some ⟨(w.heap.size + 1), 0, none⟩)) rfl (by kernel_rfl) (by kernel_rfl) (by kernel_rfl) (fun _ _ _ h => h) (Or.inl ⟨by kernel_rfl, ?_⟩) (by assumption) ?_
    · intro wx hSw
      clear hSw hHeld
      go_simp
      try first | with_reducible rfl | kernel_rfl
    simp only [Act.put, List.getElem_toArray, List.getElem_cons_succ, List.getElem_cons_zero, List.setIfInBounds_toArray, List.set_cons_succ, List.set_cons_zero]
    refine wpAnyH_take (i := 2) (v := .pointer (some ⟨(w.heap.size + 1), 0, none⟩)) rfl (by kernel_rfl) (by kernel_rfl) (by kernel_rfl) (fun _ _ _ h => h) (Or.inl ⟨by kernel_rfl, ?_⟩) (by assumption) ?_
    · intro wx hSw
      clear hSw hHeld
      go_simp
      try first | with_reducible rfl | kernel_rfl
    simp only [Act.put, List.getElem_toArray, List.getElem_cons_succ, List.getElem_cons_zero, List.setIfInBounds_toArray, List.set_cons_succ, List.set_cons_zero]
    refine wpAnyH_take (i := 3) (v := .pointer (some ⟨(w.heap.size + 1), 2, none⟩)) rfl (by kernel_rfl) (by kernel_rfl) (by kernel_rfl) (fun _ _ _ h => h) (Or.inl ⟨by kernel_rfl, ?_⟩) (by assumption) ?_
    · intro wx hSw
      clear hSw hHeld
      go_simp
      try first | with_reducible rfl | kernel_rfl
    simp only [Act.put, List.getElem_toArray, List.getElem_cons_succ, List.getElem_cons_zero, List.setIfInBounds_toArray, List.set_cons_succ, List.set_cons_zero]
    refine wpAnyH_take (i := 4) (v := (.int .i64 er)) rfl (by kernel_rfl) (by kernel_rfl) (by kernel_rfl) (fun _ _ _ h => h) (Or.inl ⟨by kernel_rfl, ?_⟩) (by assumption) ?_
    · intro wx hSw
      have cc : wx.cell? ⟨w.heap.size + 1, 2, none⟩ = some (.int .i64 er) := (cell_of_row wx _ 2 _ _ _ hSw).trans rfl
      clear hSw hHeld
      go_simp
      try first | with_reducible rfl | kernel_rfl
    simp only [Act.put, List.getElem_toArray, List.getElem_cons_succ, List.getElem_cons_zero, List.setIfInBounds_toArray, List.set_cons_succ, List.set_cons_zero]
    refine wpAnyH_ready (rs := [5]) (by kernel_rfl) (by simp) ?_
    refine AllReadyH.cons rfl (fun K hK => ?_) AllReadyH.nil
    rw [if_pos (by kernel_rfl)]
    refine wp_store_row 30 (.tmp 2) (.tmp 37) (by kernel_rfl) w.heap.size zSA (by kernel_rfl) (by kernel_rfl) 30 zSA HQD.out (by kernel_rfl) (by kernel_rfl) zSA_one ?_
    rw [hWZ]
    clear hHeld
    refine hK.out _ _ HRZ.out (fun hHeld => ?_)
    clear hK K
    refine wpAnyH_take (i := 6) (v := (.int .i64 er)) rfl (by kernel_rfl) (by kernel_rfl) (by kernel_rfl) (fun _ _ _ h => h) (Or.inl ⟨by kernel_rfl, ?_⟩) (by assumption) ?_
    · intro wx hSw
      clear hSw hHeld
      go_simp
      try first | with_reducible rfl | kernel_rfl
    simp only [Act.put, List.getElem_toArray, List.getElem_cons_succ, List.getElem_cons_zero, List.setIfInBounds_toArray, List.set_cons_succ, List.set_cons_zero]
    refine wpAnyH_done (by kernel_rfl) ?_ _
    clear hHeld
    go_wp2_with fail
    refine bodyPost_ret (v := .tuple #[.agg zSA, .int .i64 er]) (results_c2 rfl _ _ w.heap.size 30 _ (0, 0) _ rfl HQZ.out Try.underlying30 rfl (by kernel_rfl) rfl) rfl ?_
    exact HFIN.out
  | true =>
    obtain rfl : er = 0 := by simpa using her
    clear her
    obtain ⟨hu, hru⟩ := HREST.out rfl
    subst hru
    by_cases hrl : u < zs.length
    · have hrl2 : (u : Int) < (zs.length : Int) := by omega
      have HDV : Hid (decV zs = (zS, 11)) := Lib.hid (by
        have q : errS zs = 11 := by rw [HERR.out, if_pos ⟨by simp, by rw [List.length_drop]; omega⟩]
        rw [dec_err HNL.out (by rw [q]; decide), q])
      go_wp2_with (first | (with_reducible refine wpList_store_row rfl 30 (.tmp 5) (.tmp 15) rfl w2.heap.size (sArr S (.slice a1 m1 q1) (.slice a2 m2 q2) (.slice a3 m3 q3)) rfl rfl 30 _ hsS (by kernel_rfl) rfl (sArr_one _ _ _ _ _ _ _ _ _ _) ?_; rw [hW3]; clear hW3 hsS) | fail)
      refine (fail_any (w.heap.size + 1) vq u 0 11 W3 HROW.out).mono ?_
      rintro E W4 ⟨rfl, hr4, ho4, -⟩
      have HROW4 : Hid (RB (w.heap.size + 1) vq u 11 W4) := Lib.hid hr4
      have HQ4 := Lib.hid ((ho4.2.2.2.2 _ (row_lt HQ3.out) (by omega)).trans HQ3.out)
      have HB4 : Hid (Below w.heap.size w W4) := Lib.hid (ho4.below HB3.out HB3.out.size (fun q hq => by omega))
      have g2 := HROW4.out.c2
      clear ho4 hr4 e1 e2
      go_upto_region 8 with (fail)
      obtain ⟨WZ, hWZ⟩ : ∃ q, W4.drew.setRow w.heap.size zSA = q := ⟨_, rfl⟩
      have HQD : Hid (W4.drew.heap[w.heap.size]? = some (.cells zSA 30 (0, 0))) := Lib.hid HQ4.out
      have HQZ : Hid (WZ.heap[w.heap.size]? = some (.cells zSA 30 (0, 0))) := Lib.hid (by rw [← hWZ]; exact setRow_heap _ _ _ _ _ _ HQD.out)
      have HRZ : Hid (WZ.heap[w.heap.size + 1]? = some (.cells (rA vq u 11) 42 (0, 0))) := Lib.hid (by rw [← hWZ]; exact (setRow_other _ _ _ _ (by omega)).trans HROW4.out)
      have HFIN := Lib.hid (dec_nil (w := w) (W := WZ) HDV.out (by rw [← hWZ]; exact Ld.below_row HB4.out.drew (Nat.le_refl _) _))
      refine wp_region_held_drew (S := fun w' => w'.heap[w.heap.size + 1]? = some (.cells (rA vq u 11) 42 (0, 0))) (by kernel_rfl) HROW4.out (fun hHeld => ?_)
      refine wpAnyH_take (i := 0) (v := (.agg zSA)) rfl (by kernel_rfl) (by kernel_rfl) (by kernel_rfl) (fun _ _ _ h => h) (Or.inl ⟨by kernel_rfl, ?_⟩) (by assumption) ?_
      · intro wx hSw
        clear hSw hHeld
        go_simp
        try first | with_reducible rfl | kernel_rfl
      simp only [Act.put, List.getElem_toArray, List.getElem_cons_zero, List.setIfInBounds_toArray, List.set_cons_succ, List.set_cons_zero]
      refine wpAnyH_take (i := 1) (v := .pointer (some ⟨(w.heap.size + 1), 0, none⟩)) rfl (by kernel_rfl) (by kernel_rfl) (by kernel_rfl) (fun _ _ _ h => h) (Or.inl ⟨by kernel_rfl, ?_⟩) (by assumption) ?_
      · intro wx hSw
        clear hSw hHeld
        go_simp
        try first | with_reducible rfl | kernel_rfl
      simp only [Act.put, List.getElem_toArray, List.getElem_cons_succ, List.getElem_cons_zero, List.setIfInBounds_toArray, List.set_cons_succ, List.set_cons_zero]
      refine wpAnyH_take (i := 2) (v := .pointer (some ⟨(w.heap.size + 1), 0, none⟩)) rfl (by kernel_rfl) (by kernel_rfl) (by kernel_rfl) (fun _ _ _ h => h) (Or.inl ⟨by kernel_rfl, ?_⟩) (by assumption) ?_
      · intro wx hSw
        clear hSw hHeld
        go_simp
        try first | with_reducible rfl | kernel_rfl
      simp only [Act.put, List.getElem_toArray, List.getElem_cons_succ, List.getElem_cons_zero, List.setIfInBounds_toArray, List.set_cons_succ, List.set_cons_zero]
      refine wpAnyH_take (i := 3) (v := .pointer (some ⟨(w.heap.size + 1), 2, none⟩)) rfl (by kernel_rfl) (by kernel_rfl) (by kernel_rfl) (fun _ _ _ h => h) (Or.inl ⟨by kernel_rfl, ?_⟩) (by assumption) ?_
      · intro wx hSw
        clear hSw hHeld
        go_simp
        try first | with_reducible rfl | kernel_rfl
      simp only [Act.put, List.getElem_toArray, List.getElem_cons_succ, List.getElem_cons_zero, List.setIfInBounds_toArray, List.set_cons_succ, List.set_cons_zero]
      refine wpAnyH_take (i := 4) (v := (.int .i64 11)) rfl (by kernel_rfl) (by kernel_rfl) (by kernel_rfl) (fun _ _ _ h => h) (Or.inl ⟨by kernel_rfl, ?_⟩) (by assumption) ?_
      · intro wx hSw
        have cc : wx.cell? ⟨w.heap.size + 1, 2, none⟩ = some (.int .i64 11) := (cell_of_row wx _ 2 _ _ _ hSw).trans rfl
        clear hSw hHeld
        go_simp
        try first | with_reducible rfl | kernel_rfl
      simp only [Act.put, List.getElem_toArray, List.getElem_cons_succ, List.getElem_cons_zero, List.setIfInBounds_toArray, List.set_cons_succ, List.set_cons_zero]
      refine wpAnyH_ready (rs := [5]) (by kernel_rfl) (by simp) ?_
      refine AllReadyH.cons rfl (fun K hK => ?_) AllReadyH.nil
      rw [if_pos (by kernel_rfl)]
      refine wp_store_row 30 (.tmp 2) (.tmp 37) (by kernel_rfl) w.heap.size zSA (by kernel_rfl) (by kernel_rfl) 30 zSA HQD.out (by kernel_rfl) (by kernel_rfl) zSA_one ?_
      rw [hWZ]
      clear hHeld
      refine hK.out _ _ HRZ.out (fun hHeld => ?_)
      clear hK K
      refine wpAnyH_take (i := 6) (v := (.int .i64 11)) rfl (by kernel_rfl) (by kernel_rfl) (by kernel_rfl) (fun _ _ _ h => h) (Or.inl ⟨by kernel_rfl, ?_⟩) (by assumption) ?_
      · intro wx hSw
        clear hSw hHeld
        go_simp
        try first | with_reducible rfl | kernel_rfl
      simp only [Act.put, List.getElem_toArray, List.getElem_cons_succ, List.getElem_cons_zero, List.setIfInBounds_toArray, List.set_cons_succ, List.set_cons_zero]
      refine wpAnyH_done (by kernel_rfl) ?_ _
      clear hHeld
      go_wp2_with fail
      refine bodyPost_ret (v := .tuple #[.agg zSA, .int .i64 11]) (results_c2 rfl _ _ w.heap.size 30 _ (0, 0) _ rfl HQZ.out Try.underlying30 rfl (by kernel_rfl) rfl) rfl ?_
      exact HFIN.out
    · have hrl2 : ¬ (u : Int) < (zs.length : Int) := by omega
      have HE0 : Hid (errS zs = 0) := Lib.hid (by rw [HERR.out, if_neg (fun q => by have := q.2; rw [List.length_drop] at this; omega)])
      have HSS : Hid ((shotS (zs, 0)).1 = S) := Lib.hid (HS1.out rfl)
      have HWS : Hid (ShoW S) := Lib.hid (by rw [← HSS.out]; exact shotS_w (zs, 0))
      have HIS : Hid (IsShot W3 (.agg (sArr S (.slice a1 m1 q1) (.slice a2 m2 q2) (.slice a3 m3 q3))) S) := Lib.hid ⟨_, _, _, rfl, HO3.out.1.sl HWS.out.2, HO3.out.2.1.sl heldC_len, HO3.out.2.2.sl lastC_len, HWS.out.1⟩
      clear hrl
      go_wp2_with (first
        | (with_reducible refine wpList_store_row rfl 30 (.tmp 5) (.tmp 15) rfl w2.heap.size (sArr S (.slice a1 m1 q1) (.slice a2 m2 q2) (.slice a3 m3 q3)) rfl rfl 30 _ hsS (by kernel_rfl) rfl (sArr_one _ _ _ _ _ _ _ _ _ _) ?_; rw [hW3]; clear hW3 hsS)
        | (with_reducible refine wpList_load_row rfl 30 (.tmp 5) rfl w2.heap.size rfl 30 (sArr S (.slice a1 m1 q1) (.slice a2 m2 q2) (.slice a3 m3 q3)) (0, 0) _ HX3.out Try.underlying30 rfl (by kernel_rfl) ?_))
      refine (Sh.rcheck_any S _ _ HIS.out).mono ?_
      rintro e w5 ⟨z, rfl, hz, hb5⟩
      have HQ5 := Lib.hid ((hb5.block _ (row_lt HQ3.out)).trans HQ3.out)
      have HX5 := Lib.hid ((hb5.block _ (row_lt HX3.out)).trans HX3.out)
      have HB5 := Lib.hid (HB3.out.trans (hb5.mono HB3.out.size))
      have HO5 : Hid (OwnI w5 W1.heap.size (.slice a1 m1 q1) S.nodes ∧ OwnR 5 heldC 51 w5 W1.heap.size (.slice a2 m2 q2) S.led.held ∧ OwnR 6 lastC 56 w5 W1.heap.size (.slice a3 m3 q3) S.led.last) := Lib.hid ⟨own_belowx hb5 HO3.out.1, own_belowx hb5 HO3.out.2.1, own_belowx hb5 HO3.out.2.2⟩
      clear hb5 e1 e2
      rcases hz with ⟨rfl, ok⟩ | ⟨rfl, no⟩
      · have HDV : Hid (decV zs = (S, 0)) := Lib.hid (by rw [dec_ok HNL.out HE0.out (by rw [HSS.out]; exact ok), HSS.out])
        obtain ⟨WZ, hWZ⟩ : ∃ q, w5.setRow w.heap.size (sArr S (.slice a1 m1 q1) (.slice a2 m2 q2) (.slice a3 m3 q3)) = q := ⟨_, rfl⟩
        have HQZ : Hid (WZ.heap[w.heap.size]? = some (.cells (sArr S (.slice a1 m1 q1) (.slice a2 m2 q2) (.slice a3 m3 q3)) 30 (0, 0))) := Lib.hid (by rw [← hWZ]; exact setRow_heap _ _ _ _ _ _ HQ5.out)
        have HFIN : Hid (DecE zs w (.returned (.tuple #[.agg (sArr S (.slice a1 m1 q1) (.slice a2 m2 q2) (.slice a3 m3 q3)), .int .i64 0])) WZ) := Lib.hid (by
          have hx : Only (· = w.heap.size) w5 WZ := by rw [← hWZ]; exact only_row _ _ _
          have hb : ∀ q, q < w5.heap.size → q ≠ w.heap.size → WZ.heap[q]? = w5.heap[q]? := fun q hq hn => hx.2.2.2.2 q hq hn
          obtain ⟨h1, h2, h3⟩ := HO5.out
          have hle : w.heap.size ≤ W1.heap.size := HB1.out.size
          exact ⟨S, 0, _, _, _, rfl, HDV.out, own_lowerx hle (own_blk h1 (own_ty h1 HQ5.out (by decide)) hb), own_lowerx hle (own_blk h2 (own_ty h2 HQ5.out (by decide)) hb), own_lowerx hle (own_blk h3 (own_ty h3 HQ5.out (by decide)) hb), HWS.out, by rw [← hWZ]; exact Ld.below_row HB5.out (Nat.le_refl _) _⟩)
        clear ok
        go_wp2_with (first
          | (with_reducible refine wpList_load_row rfl 30 (.tmp 5) rfl w2.heap.size rfl 30 (sArr S (.slice a1 m1 q1) (.slice a2 m2 q2) (.slice a3 m3 q3)) (0, 0) _ HX5.out Try.underlying30 rfl (by kernel_rfl) ?_)
          | (with_reducible refine wpList_store_row rfl 30 (.tmp 2) (.tmp 48) rfl w.heap.size (sArr S (.slice a1 m1 q1) (.slice a2 m2 q2) (.slice a3 m3 q3)) rfl rfl 30 _ HQ5.out (by kernel_rfl) rfl (sArr_one _ _ _ _ _ _ _ _ _ _) ?_; rw [hWZ]; clear hWZ))
        refine bodyPost_ret (v := .tuple #[.agg (sArr S (.slice a1 m1 q1) (.slice a2 m2 q2) (.slice a3 m3 q3)), .int .i64 0]) (results_c2 rfl _ _ w.heap.size 30 _ (0, 0) _ rfl HQZ.out Try.underlying30 rfl (by kernel_rfl) rfl) rfl ?_
        exact HFIN.out
      · have HDV : Hid (decV zs = (zS, 60)) := Lib.hid (dec_no HNL.out HE0.out (by rw [HSS.out]; exact no))
        obtain ⟨WZ, hWZ⟩ : ∃ q, w5.setRow w.heap.size zSA = q := ⟨_, rfl⟩
        have HQZ : Hid (WZ.heap[w.heap.size]? = some (.cells zSA 30 (0, 0))) := Lib.hid (by rw [← hWZ]; exact setRow_heap _ _ _ _ _ _ HQ5.out)
        have HFIN := Lib.hid (dec_nil (w := w) (W := WZ) HDV.out (by rw [← hWZ]; exact Ld.below_row HB5.out (Nat.le_refl _) _))
        clear no
        go_wp2_with (first | (with_reducible refine wpList_store_row rfl 30 (.tmp 2) (.tmp 46) rfl w.heap.size zSA rfl rfl 30 _ HQ5.out (by kernel_rfl) rfl zSA_one ?_; rw [hWZ]; clear hWZ) | fail)
        refine bodyPost_ret (v := .tuple #[.agg zSA, .int .i64 60]) (results_c2 rfl _ _ w.heap.size 30 _ (0, 0) _ rfl HQZ.out Try.underlying30 rfl (by kernel_rfl) rfl) rfl ?_
        exact HFIN.out
end Sc
end Go.Proofs.Ytpdhndldfmhaeaa
