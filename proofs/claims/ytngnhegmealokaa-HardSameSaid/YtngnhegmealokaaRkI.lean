/- hard.Decode. No condition. -/
import Derived.Test.YtngnhegmealokaaRkH
import Derived.Test.YtngnhegmealokaaCeB
import Derived.Test.YtngnhegmealokaaEdZ
namespace Go.Proofs.Ytngnhegmealokaa
open Go.ChangeShapes Go.WideShapes Go.ChangeAt Go.RowKit Go.Deep
set_option linter.unusedVariables false
set_option maxRecDepth 100000
namespace Rk
open Cm Sc Nm Rc Hd Nv Sh
abbrev zRH : Array Value := #[.slice none 0 0, .int .i64 0]
theorem zR_one : zR.all (·.oneCell') = true := by simp [zR, Value.oneCell']
def DecRE (zs : List Int) (w : World) (e : Ending) (w' : World) : Prop := ∃ r z vc vn vh vl, e = .returned (.tuple #[.agg (rArr r vc vn vh vl), .int .i64 z]) ∧ decR zs = (r, z) ∧ IsRec w' (.agg (rArr r vc vn vh vl)) r ∧ Below w.heap.size w w'
theorem zRecV_is (w : World) : IsRec w (.agg (rArr zRecV (.slice none 0 0) (.slice none 0 0) (.slice none 0 0) (.slice none 0 0))) zRecV := ⟨_, _, _, _, rfl, ⟨Nm.sl_nil _ _, Nm.sl_nil _ _, SlR.nil _, SlR.nil _⟩, (zW 0 (by decide)).1⟩
theorem decR_nil {zs : List Int} {z : Int} {w W : World} (he : decR zs = (zRecV, z)) (hb : Below w.heap.size w W) : DecRE zs w (.returned (.tuple #[.agg zR, .int .i64 z])) W := ⟨zRecV, z, _, _, _, _, rfl, he, zRecV_is _, hb⟩
set_option maxHeartbeats 8000000 in
theorem dec_any (s : ByteArray) (w : World) : Calls Try.prog 10 #[.string s] w (DecRE (sbs s) w) := by
  have hlen : (sbs s).length = s.size := sbs_length s
  obtain ⟨zs, hzs⟩ : ∃ zs, sbs s = zs := ⟨_, rfl⟩
  rw [hzs] at hlen
  obtain ⟨W0, hW0⟩ : ∃ q, w.alloc (.cells zR 35) = q := ⟨_, rfl⟩
  have hb0 : Below w.heap.size w W0 := by rw [← hW0]; exact (Below.refl _ _).alloc (Nat.le_refl _) _
  have HQ0 : Hid (W0.heap[w.heap.size]? = some (.cells zR 35 (0, 0))) := Lib.hid (by rw [← hW0]; exact heap_alloc_new _ _)
  have HZ0 : Hid (W0.heap.size = w.heap.size + 1) := Lib.hid (by rw [← hW0]; simp)
  have HB0 := Lib.hid hb0
  rw [hzs]
  by_cases hl : 8000 < zs.length
  · have HDV := Lib.hid (decR_long hl)
    have hl2 : (8000 : Int) < (s.size : Int) := by omega
    obtain ⟨WZ, hWZ⟩ : ∃ q, W0.setRow w.heap.size zR = q := ⟨_, rfl⟩
    have HQZ : Hid (WZ.heap[w.heap.size]? = some (.cells zR 35 (0, 0))) := Lib.hid (by rw [← hWZ]; exact setRow_heap _ _ _ _ _ _ HQ0.out)
    have HFIN := Lib.hid (decR_nil (w := w) (W := WZ) HDV.out (by rw [← hWZ]; exact Ld.below_row HB0.out (Nat.le_refl _) _))
    clear hb0 hl hlen hzs
    go_enter Try.func10, Try.ntmps10
    go_wp2_with (first | (with_reducible refine wpList_store_row rfl 35 (.tmp 2) (.tmp 9) rfl w.heap.size zR rfl rfl 35 _ HQ0.out (by kernel_rfl) rfl zR_one ?_; rw [hWZ]; clear hWZ) | fail)
    refine bodyPost_ret (v := .tuple #[.agg zR, .int .i64 2]) (results_c2 rfl _ _ w.heap.size 35 _ (0, 0) _ rfl HQZ.out Try.underlying35 rfl (by kernel_rfl) rfl) rfl ?_
    exact HFIN.out
  have hl2 : ¬ (8000 : Int) < (s.size : Int) := by omega
  have HNL := Lib.hid hl
  obtain ⟨cap, wc, hcv, hslc, hbc, hzc⟩ := run_bytes W0 s (by unfold maxLen; omega)
  rw [hzs] at hslc
  have hsR : (wc.alloc (.cells zRH 53)).heap[wc.heap.size]? = some (.cells zRH 53 (0, 0)) := heap_alloc_new _ _
  obtain ⟨W1, hW1⟩ : ∃ q, (wc.alloc (.cells zRH 53)).setRow wc.heap.size #[.slice (some ⟨W0.heap.size, 0, none⟩) s.size cap, .int .i64 0] = q := ⟨_, rfl⟩
  have hb1 : Below wc.heap.size wc W1 := by rw [← hW1]; exact Ld.below_row ((Below.refl _ _).alloc (Nat.le_refl _) _) (Nat.le_refl _) _
  have HBC := Lib.hid hb1
  have HGC : Hid (w.heap.size < wc.heap.size) := Lib.hid (by have := HZ0.out; omega)
  have HR1 : Hid (RdH wc wc.heap.size (zs, 0) W1) := Lib.hid ⟨some ⟨W0.heap.size, 0, none⟩, cap, by rw [← hW1, hlen]; exact setRow_heap _ _ _ _ _ _ hsR, by rw [hlen]; exact hslc⟩
  have HB1 := Lib.hid (HB0.out.trans ((hbc.trans (hb1.mono hbc.size)).mono HB0.out.size))
  have HQ1 := Lib.hid (((hbc.trans (hb1.mono hbc.size)).block _ (row_lt HQ0.out)).trans HQ0.out)
  have hone1 : (#[.slice (some ⟨W0.heap.size, 0, none⟩) s.size cap, .int .i64 0] : Array Value).all (·.oneCell') = true := by simp [Value.oneCell']
  rcases hS : recS (zs, 0) with ⟨S, rest, er⟩
  have HS := Lib.hid hS
  clear hS hl hb0 hb1 hslc hlen hzs hzc hbc
  go_enter Try.func10, Try.ntmps10
  go_wp2_with (first | (with_reducible refine wpList_store_row rfl 53 (.tmp 4) (.tmp 12) rfl wc.heap.size #[.slice (some ⟨W0.heap.size, 0, none⟩) s.size cap, .int .i64 0] rfl rfl 53 _ hsR (by kernel_rfl) rfl hone1 ?_; rw [hW1]; clear hW1 hsR) | fail)
  refine (rec_any wc wc.heap.size zs W1 HR1.out HBC.out (Nat.le_refl _)).mono ?_
  rintro E w2 ⟨vc, vn, vh, vl, rfl, ho, hw2, hr2, ho2⟩
  rw [HS.out] at ho hw2 hr2 ⊢
  obtain ⟨a1, m1, q1, rfl⟩ := own_formx ho.1
  obtain ⟨a2, m2, q2, rfl⟩ := own_formx ho.2.1
  obtain ⟨a3, m3, q3, rfl⟩ := own_formx ho.2.2.1
  obtain ⟨a4, m4, q4, rfl⟩ := own_formx ho.2.2.2
  have HO2 := Lib.hid ho
  have HW2 := Lib.hid hw2
  have HB2 : Hid (Below w.heap.size w w2) := Lib.hid (ho2.below HB1.out HB1.out.size (fun q hq => by have := HGC.out; omega))
  have HQ2 := Lib.hid ((ho2.2.2.2.2 _ (row_lt HQ1.out) (by have := HGC.out; omega)).trans HQ1.out)
  have hsS : (w2.alloc (.cells zR 35)).heap[w2.heap.size]? = some (.cells zR 35 (0, 0)) := heap_alloc_new _ _
  obtain ⟨W3, hW3⟩ : ∃ q, (w2.alloc (.cells zR 35)).setRow w2.heap.size (rArr S (.slice a1 m1 q1) (.slice a2 m2 q2) (.slice a3 m3 q3) (.slice a4 m4 q4)) = q := ⟨_, rfl⟩
  have hb3 : Below w2.heap.size w2 W3 := by rw [← hW3]; exact Ld.below_row ((Below.refl _ _).alloc (Nat.le_refl _) _) (Nat.le_refl _) _
  have HX3 : Hid (W3.heap[w2.heap.size]? = some (.cells (rArr S (.slice a1 m1 q1) (.slice a2 m2 q2) (.slice a3 m3 q3) (.slice a4 m4 q4)) 35 (0, 0))) := Lib.hid (by rw [← hW3]; exact setRow_heap _ _ _ _ _ _ hsS)
  have HB3 := Lib.hid (HB2.out.trans (hb3.mono HB2.out.size))
  have HQ3 := Lib.hid ((hb3.block _ (row_lt HQ2.out)).trans HQ2.out)
  have HO3 : Hid (RecO W3 W1.heap.size S (.slice a1 m1 q1) (.slice a2 m2 q2) (.slice a3 m3 q3) (.slice a4 m4 q4)) := Lib.hid ⟨own_belowx hb3 HO2.out.1, own_belowx hb3 HO2.out.2.1, own_belowx hb3 HO2.out.2.2.1, own_belowx hb3 HO2.out.2.2.2⟩
  obtain ⟨ar, cr, hrow, hsr⟩ := hr2.block (hb3.block _ hr2.lt)
  dsimp only at hrow hsr
  have HROW := Lib.hid hrow
  have e0 : W3.cell? ⟨wc.heap.size, 0, none⟩ = some (.slice ar rest.length cr) := (cell_of_row _ _ 0 _ _ _ hrow).trans rfl
  have e1 : W3.cell? ⟨wc.heap.size, 1, none⟩ = some (.int .i64 er) := (cell_of_row _ _ 1 _ _ _ hrow).trans rfl
  have ef1 : W3.frozen? ⟨wc.heap.size, 1, none⟩ = false := frozen_of_row _ _ 1 _ _ hrow
  have HERR : Hid (errR zs = if (er == 0) = true ∧ 0 < rest.length then 11 else er) := Lib.hid (by unfold errR; rw [HS.out])
  have HGX : Hid (wc.heap.size < w2.heap.size) := Lib.hid hr2.lt
  clear ho hr2 ho2 hb3 hrow hsr hw2
  cases her : (er == 0) with
  | false =>
    have hne : (er != 0) = true := by rw [bne, her]; rfl
    have HDV : Hid (decR zs = (zRecV, er)) := Lib.hid (by
      have q : errR zs = er := by rw [HERR.out, her]; simp
      rw [decR_err HNL.out (by rw [q]; simpa using her), q])
    go_upto_region 10 with (first | (with_reducible refine wpList_store_row rfl 35 (.tmp 5) (.tmp 13) rfl w2.heap.size (rArr S (.slice a1 m1 q1) (.slice a2 m2 q2) (.slice a3 m3 q3) (.slice a4 m4 q4)) rfl rfl 35 _ hsS (by kernel_rfl) rfl (rArr_one _ _ _ _ _ _ _ _ _ _ _ _ _) ?_; rw [hW3]; clear hW3 hsS) | fail)
    obtain ⟨WZ, hWZ⟩ : ∃ q, W3.drew.setRow w.heap.size zR = q := ⟨_, rfl⟩
    have HQD : Hid (W3.drew.heap[w.heap.size]? = some (.cells zR 35 (0, 0))) := Lib.hid HQ3.out
    have HQZ : Hid (WZ.heap[w.heap.size]? = some (.cells zR 35 (0, 0))) := Lib.hid (by rw [← hWZ]; exact setRow_heap _ _ _ _ _ _ HQD.out)
    have HRZ : Hid (WZ.heap[wc.heap.size]? = some (.cells #[.slice ar rest.length cr, .int .i64 er] 53 (0, 0))) := Lib.hid (by have := HGC.out; rw [← hWZ]; exact (setRow_other _ _ _ _ (by omega)).trans HROW.out)
    have HFIN := Lib.hid (decR_nil (w := w) (W := WZ) HDV.out (by rw [← hWZ]; exact Ld.below_row HB3.out.drew (Nat.le_refl _) _))
    refine wp_region_held_drew (S := fun w' => w'.heap[wc.heap.size]? = some (.cells #[.slice ar rest.length cr, .int .i64 er] 53 (0, 0))) (by kernel_rfl) HROW.out (fun hHeld => ?_)
    refine wpAnyH_take (i := 0) (v := (.agg zR)) rfl (by kernel_rfl) (by kernel_rfl) (by kernel_rfl) (fun _ _ _ h => h) (Or.inl ⟨by kernel_rfl, ?_⟩) (by assumption) ?_
    · intro wx hSw
      clear hSw hHeld
      go_simp
      try first | with_reducible rfl | kernel_rfl
    simp only [Act.put, List.getElem_toArray, List.getElem_cons_zero, List.setIfInBounds_toArray, List.set_cons_succ, List.set_cons_zero]
    refine wpAnyH_take (i := 1) (v := .pointer (some ⟨wc.heap.size, 1, none⟩)) rfl (by kernel_rfl) (by kernel_rfl) (by kernel_rfl) (fun _ _ _ h => h) (Or.inl ⟨by kernel_rfl, ?_⟩) (by assumption) ?_
    · intro wx hSw
      clear hSw hHeld
      go_simp
      try first | with_reducible rfl | kernel_rfl
    simp only [Act.put, List.getElem_toArray, List.getElem_cons_succ, List.getElem_cons_zero, List.setIfInBounds_toArray, List.set_cons_succ, List.set_cons_zero]
    refine wpAnyH_take (i := 2) (v := (.int .i64 er)) rfl (by kernel_rfl) (by kernel_rfl) (by kernel_rfl) (fun _ _ _ h => h) (Or.inl ⟨by kernel_rfl, ?_⟩) (by assumption) ?_
    · intro wx hSw
      have cc : wx.cell? ⟨wc.heap.size, 1, none⟩ = some (.int .i64 er) := (cell_of_row wx _ 1 _ _ _ hSw).trans rfl
      clear hSw hHeld
      go_simp
      try first | with_reducible rfl | kernel_rfl
    simp only [Act.put, List.getElem_toArray, List.getElem_cons_succ, List.getElem_cons_zero, List.setIfInBounds_toArray, List.set_cons_succ, List.set_cons_zero]
    refine wpAnyH_ready (rs := [3]) (by kernel_rfl) (by simp) ?_
    refine AllReadyH.cons rfl (fun K hK => ?_) AllReadyH.nil
    rw [if_pos (by kernel_rfl)]
    refine wp_store_row 35 (.tmp 2) (.tmp 36) (by kernel_rfl) w.heap.size zR (by kernel_rfl) (by kernel_rfl) 35 zR HQD.out (by kernel_rfl) (by kernel_rfl) zR_one ?_
    rw [hWZ]
    clear hHeld
    refine hK.out _ _ HRZ.out (fun hHeld => ?_)
    clear hK K
    refine wpAnyH_take (i := 4) (v := (.int .i64 er)) rfl (by kernel_rfl) (by kernel_rfl) (by kernel_rfl) (fun _ _ _ h => h) (Or.inl ⟨by kernel_rfl, ?_⟩) (by assumption) ?_
    · intro wx hSw
      clear hSw hHeld
      go_simp
      try first | with_reducible rfl | kernel_rfl
    simp only [Act.put, List.getElem_toArray, List.getElem_cons_succ, List.getElem_cons_zero, List.setIfInBounds_toArray, List.set_cons_succ, List.set_cons_zero]
    refine wpAnyH_done (by kernel_rfl) ?_ _
    clear hHeld
    go_wp2_with fail
    refine bodyPost_ret (v := .tuple #[.agg zR, .int .i64 er]) (results_c2 rfl _ _ w.heap.size 35 _ (0, 0) _ rfl HQZ.out Try.underlying35 rfl (by kernel_rfl) rfl) rfl ?_
    exact HFIN.out
  | true =>
    obtain rfl : er = 0 := by simpa using her
    clear her
    by_cases hrl : 0 < rest.length
    · have hrl2 : (0 : Int) < (rest.length : Int) := by omega
      have HDV : Hid (decR zs = (zRecV, 11)) := Lib.hid (by
        have q : errR zs = 11 := by rw [HERR.out, if_pos ⟨by simp, hrl⟩]
        rw [decR_err HNL.out (by rw [q]; decide), q])
      obtain ⟨W4, hW4⟩ : ∃ q, W3.setCell ⟨wc.heap.size, 1, none⟩ (.int .i64 11) = q := ⟨_, rfl⟩
      have HROWW4 : Hid (W4.heap[wc.heap.size]? = some (.cells #[.slice ar rest.length cr, .int .i64 11] 53 (0, 0))) := Lib.hid (by rw [← hW4, heap_setCell_same _ _ 1 _ _ _ HROW.out]; rfl)
      have hoW4 : Only (· = wc.heap.size) W3 W4 := by rw [← hW4]; exact Only.setCell _ _ _ rfl
      have HQW4 := Lib.hid ((hoW4.2.2.2.2 _ (row_lt HQ3.out) (by have := HGC.out; omega)).trans HQ3.out)
      have HBW4 : Hid (Below w.heap.size w W4) := Lib.hid (hoW4.below HB3.out HB3.out.size (fun q hq => by have := HGC.out; omega))
      have g1 : W4.cell? ⟨wc.heap.size, 1, none⟩ = some (.int .i64 11) := (cell_of_row _ _ 1 _ _ _ HROWW4.out).trans rfl
      clear hoW4
      go_upto_region 10 with (first | (with_reducible refine wpList_store_row rfl 35 (.tmp 5) (.tmp 13) rfl w2.heap.size (rArr S (.slice a1 m1 q1) (.slice a2 m2 q2) (.slice a3 m3 q3) (.slice a4 m4 q4)) rfl rfl 35 _ hsS (by kernel_rfl) rfl (rArr_one _ _ _ _ _ _ _ _ _ _ _ _ _) ?_; rw [hW3]; clear hW3 hsS) | fail)
      obtain ⟨WZ, hWZ⟩ : ∃ q, W4.drew.setRow w.heap.size zR = q := ⟨_, rfl⟩
      have HQD : Hid (W4.drew.heap[w.heap.size]? = some (.cells zR 35 (0, 0))) := Lib.hid HQW4.out
      have HQZ : Hid (WZ.heap[w.heap.size]? = some (.cells zR 35 (0, 0))) := Lib.hid (by rw [← hWZ]; exact setRow_heap _ _ _ _ _ _ HQD.out)
      have HRZ : Hid (WZ.heap[wc.heap.size]? = some (.cells #[.slice ar rest.length cr, .int .i64 11] 53 (0, 0))) := Lib.hid (by have := HGC.out; rw [← hWZ]; exact (setRow_other _ _ _ _ (by omega)).trans HROWW4.out)
      have HFIN := Lib.hid (decR_nil (w := w) (W := WZ) HDV.out (by rw [← hWZ]; exact Ld.below_row HBW4.out.drew (Nat.le_refl _) _))
      refine wp_region_held_drew (S := fun w' => w'.heap[wc.heap.size]? = some (.cells #[.slice ar rest.length cr, .int .i64 11] 53 (0, 0))) (by kernel_rfl) HROWW4.out (fun hHeld => ?_)
      refine wpAnyH_take (i := 0) (v := (.agg zR)) rfl (by kernel_rfl) (by kernel_rfl) (by kernel_rfl) (fun _ _ _ h => h) (Or.inl ⟨by kernel_rfl, ?_⟩) (by assumption) ?_
      · intro wx hSw
        clear hSw hHeld
        go_simp
        try first | with_reducible rfl | kernel_rfl
      simp only [Act.put, List.getElem_toArray, List.getElem_cons_zero, List.setIfInBounds_toArray, List.set_cons_succ, List.set_cons_zero]
      refine wpAnyH_take (i := 1) (v := .pointer (some ⟨wc.heap.size, 1, none⟩)) rfl (by kernel_rfl) (by kernel_rfl) (by kernel_rfl) (fun _ _ _ h => h) (Or.inl ⟨by kernel_rfl, ?_⟩) (by assumption) ?_
      · intro wx hSw
        clear hSw hHeld
        go_simp
        try first | with_reducible rfl | kernel_rfl
      simp only [Act.put, List.getElem_toArray, List.getElem_cons_succ, List.getElem_cons_zero, List.setIfInBounds_toArray, List.set_cons_succ, List.set_cons_zero]
      refine wpAnyH_take (i := 2) (v := (.int .i64 11)) rfl (by kernel_rfl) (by kernel_rfl) (by kernel_rfl) (fun _ _ _ h => h) (Or.inl ⟨by kernel_rfl, ?_⟩) (by assumption) ?_
      · intro wx hSw
        have cc : wx.cell? ⟨wc.heap.size, 1, none⟩ = some (.int .i64 11) := (cell_of_row wx _ 1 _ _ _ hSw).trans rfl
        clear hSw hHeld
        go_simp
        try first | with_reducible rfl | kernel_rfl
      simp only [Act.put, List.getElem_toArray, List.getElem_cons_succ, List.getElem_cons_zero, List.setIfInBounds_toArray, List.set_cons_succ, List.set_cons_zero]
      refine wpAnyH_ready (rs := [3]) (by kernel_rfl) (by simp) ?_
      refine AllReadyH.cons rfl (fun K hK => ?_) AllReadyH.nil
      rw [if_pos (by kernel_rfl)]
      refine wp_store_row 35 (.tmp 2) (.tmp 36) (by kernel_rfl) w.heap.size zR (by kernel_rfl) (by kernel_rfl) 35 zR HQD.out (by kernel_rfl) (by kernel_rfl) zR_one ?_
      rw [hWZ]
      clear hHeld
      refine hK.out _ _ HRZ.out (fun hHeld => ?_)
      clear hK K
      refine wpAnyH_take (i := 4) (v := (.int .i64 11)) rfl (by kernel_rfl) (by kernel_rfl) (by kernel_rfl) (fun _ _ _ h => h) (Or.inl ⟨by kernel_rfl, ?_⟩) (by assumption) ?_
      · intro wx hSw
        clear hSw hHeld
        go_simp
        try first | with_reducible rfl | kernel_rfl
      simp only [Act.put, List.getElem_toArray, List.getElem_cons_succ, List.getElem_cons_zero, List.setIfInBounds_toArray, List.set_cons_succ, List.set_cons_zero]
      refine wpAnyH_done (by kernel_rfl) ?_ _
      clear hHeld
      go_wp2_with fail
      refine bodyPost_ret (v := .tuple #[.agg zR, .int .i64 11]) (results_c2 rfl _ _ w.heap.size 35 _ (0, 0) _ rfl HQZ.out Try.underlying35 rfl (by kernel_rfl) rfl) rfl ?_
      exact HFIN.out
    · have hrl2 : ¬ (0 : Int) < (rest.length : Int) := by omega
      have HE0 : Hid (errR zs = 0) := Lib.hid (by rw [HERR.out, if_neg (fun q => hrl q.2)])
      have HIS : Hid (IsRec W3 (.agg (rArr S (.slice a1 m1 q1) (.slice a2 m2 q2) (.slice a3 m3 q3) (.slice a4 m4 q4))) S) := Lib.hid (HO3.out.is HW2.out)
      clear hrl
      go_wp2_with (first
        | (with_reducible refine wpList_store_row rfl 35 (.tmp 5) (.tmp 13) rfl w2.heap.size (rArr S (.slice a1 m1 q1) (.slice a2 m2 q2) (.slice a3 m3 q3) (.slice a4 m4 q4)) rfl rfl 35 _ hsS (by kernel_rfl) rfl (rArr_one _ _ _ _ _ _ _ _ _ _ _ _ _) ?_; rw [hW3]; clear hW3 hsS)
        | (with_reducible refine wpList_load_rowG rfl 35 (.tmp 5) rfl w2.heap.size rfl 35 (rArr S (.slice a1 m1 q1) (.slice a2 m2 q2) (.slice a3 m3 q3) (.slice a4 m4 q4)) (0, 0) _ HX3.out Try.underlying35 rfl (by kernel_rfl) ?_))
      refine (Rc.fits_any S _ _ HIS.out).mono ?_
      rintro e w5 ⟨b, rfl, hz, hb5⟩
      have HQ5 := Lib.hid ((hb5.block _ (row_lt HQ3.out)).trans HQ3.out)
      have HX5 := Lib.hid ((hb5.block _ (row_lt HX3.out)).trans HX3.out)
      have HB5 := Lib.hid (HB3.out.trans (hb5.mono HB3.out.size))
      have HO5 : Hid (RecO w5 W1.heap.size S (.slice a1 m1 q1) (.slice a2 m2 q2) (.slice a3 m3 q3) (.slice a4 m4 q4)) := Lib.hid ⟨own_belowx hb5 HO3.out.1, own_belowx hb5 HO3.out.2.1, own_belowx hb5 HO3.out.2.2.1, own_belowx hb5 HO3.out.2.2.2⟩
      have HROW5 : Hid (w5.heap[wc.heap.size]? = some (.cells #[.slice ar rest.length cr, .int .i64 0] 53 (0, 0))) := Lib.hid ((hb5.block _ (row_lt HROW.out)).trans HROW.out)
      clear hb5 e0 e1 ef1
      cases b with
      | true =>
        have ok := hz.1 rfl
        have HDV : Hid (decR zs = (S, 0)) := Lib.hid (by rw [decR_ok HNL.out HE0.out (by rw [HS.out]; exact ok), HS.out])
        have e1 : w5.cell? ⟨wc.heap.size, 1, none⟩ = some (.int .i64 0) := (cell_of_row _ _ 1 _ _ _ HROW5.out).trans rfl
        obtain ⟨WZ, hWZ⟩ : ∃ q, w5.setRow w.heap.size (rArr S (.slice a1 m1 q1) (.slice a2 m2 q2) (.slice a3 m3 q3) (.slice a4 m4 q4)) = q := ⟨_, rfl⟩
        have HQZ : Hid (WZ.heap[w.heap.size]? = some (.cells (rArr S (.slice a1 m1 q1) (.slice a2 m2 q2) (.slice a3 m3 q3) (.slice a4 m4 q4)) 35 (0, 0))) := Lib.hid (by rw [← hWZ]; exact setRow_heap _ _ _ _ _ _ HQ5.out)
        have HFIN : Hid (DecRE zs w (.returned (.tuple #[.agg (rArr S (.slice a1 m1 q1) (.slice a2 m2 q2) (.slice a3 m3 q3) (.slice a4 m4 q4)), .int .i64 0])) WZ) := Lib.hid (by
          have hx : Only (· = w.heap.size) w5 WZ := by rw [← hWZ]; exact only_row _ _ _
          exact ⟨S, 0, _, _, _, _, rfl, HDV.out, (HO5.out.row HQ5.out hx).is HW2.out, by rw [← hWZ]; exact Ld.below_row HB5.out (Nat.le_refl _) _⟩)
        clear ok hz
        go_wp2_with (first
          | (with_reducible refine wpList_load_row rfl 35 (.tmp 5) rfl w2.heap.size rfl 35 (rArr S (.slice a1 m1 q1) (.slice a2 m2 q2) (.slice a3 m3 q3) (.slice a4 m4 q4)) (0, 0) _ HX5.out Try.underlying35 rfl (by kernel_rfl) ?_)
          | (with_reducible refine wpList_store_row rfl 35 (.tmp 2) (.tmp 39) rfl w.heap.size (rArr S (.slice a1 m1 q1) (.slice a2 m2 q2) (.slice a3 m3 q3) (.slice a4 m4 q4)) rfl rfl 35 _ HQ5.out (by kernel_rfl) rfl (rArr_one _ _ _ _ _ _ _ _ _ _ _ _ _) ?_; rw [hWZ]; clear hWZ))
        refine bodyPost_ret (v := .tuple #[.agg (rArr S (.slice a1 m1 q1) (.slice a2 m2 q2) (.slice a3 m3 q3) (.slice a4 m4 q4)), .int .i64 0]) (results_c2 rfl _ _ w.heap.size 35 _ (0, 0) _ rfl HQZ.out Try.underlying35 rfl (by kernel_rfl) rfl) rfl ?_
        exact HFIN.out
      | false =>
        have HDV : Hid (decR zs = (zRecV, 130)) := Lib.hid (decR_no HNL.out HE0.out (by rw [HS.out]; exact fun q => by cases hz.2 q))
        have e1 : w5.cell? ⟨wc.heap.size, 1, none⟩ = some (.int .i64 0) := (cell_of_row _ _ 1 _ _ _ HROW5.out).trans rfl
        have ef1 : w5.frozen? ⟨wc.heap.size, 1, none⟩ = false := frozen_of_row _ _ 1 _ _ HROW5.out
        obtain ⟨W6, hW6⟩ : ∃ q, w5.setCell ⟨wc.heap.size, 1, none⟩ (.int .i64 130) = q := ⟨_, rfl⟩
        have HROWW6 : Hid (W6.heap[wc.heap.size]? = some (.cells #[.slice ar rest.length cr, .int .i64 130] 53 (0, 0))) := Lib.hid (by rw [← hW6, heap_setCell_same _ _ 1 _ _ _ HROW5.out]; rfl)
        have hoW6 : Only (· = wc.heap.size) w5 W6 := by rw [← hW6]; exact Only.setCell _ _ _ rfl
        have HQW6 := Lib.hid ((hoW6.2.2.2.2 _ (row_lt HQ5.out) (by have := HGC.out; omega)).trans HQ5.out)
        have HBW6 : Hid (Below w.heap.size w W6) := Lib.hid (hoW6.below HB5.out HB5.out.size (fun q hq => by have := HGC.out; omega))
        have g1 : W6.cell? ⟨wc.heap.size, 1, none⟩ = some (.int .i64 130) := (cell_of_row _ _ 1 _ _ _ HROWW6.out).trans rfl
        clear hoW6
        clear hz
        go_upto_region 10 with (fail)
        obtain ⟨WZ, hWZ⟩ : ∃ q, W6.drew.setRow w.heap.size zR = q := ⟨_, rfl⟩
        have HQD : Hid (W6.drew.heap[w.heap.size]? = some (.cells zR 35 (0, 0))) := Lib.hid HQW6.out
        have HQZ : Hid (WZ.heap[w.heap.size]? = some (.cells zR 35 (0, 0))) := Lib.hid (by rw [← hWZ]; exact setRow_heap _ _ _ _ _ _ HQD.out)
        have HRZ : Hid (WZ.heap[wc.heap.size]? = some (.cells #[.slice ar rest.length cr, .int .i64 130] 53 (0, 0))) := Lib.hid (by have := HGC.out; rw [← hWZ]; exact (setRow_other _ _ _ _ (by omega)).trans HROWW6.out)
        have HFIN := Lib.hid (decR_nil (w := w) (W := WZ) HDV.out (by rw [← hWZ]; exact Ld.below_row HBW6.out.drew (Nat.le_refl _) _))
        refine wp_region_held_drew (S := fun w' => w'.heap[wc.heap.size]? = some (.cells #[.slice ar rest.length cr, .int .i64 130] 53 (0, 0))) (by kernel_rfl) HROWW6.out (fun hHeld => ?_)
        refine wpAnyH_take (i := 0) (v := (.agg zR)) rfl (by kernel_rfl) (by kernel_rfl) (by kernel_rfl) (fun _ _ _ h => h) (Or.inl ⟨by kernel_rfl, ?_⟩) (by assumption) ?_
        · intro wx hSw
          clear hSw hHeld
          go_simp
          try first | with_reducible rfl | kernel_rfl
        simp only [Act.put, List.getElem_toArray, List.getElem_cons_zero, List.setIfInBounds_toArray, List.set_cons_succ, List.set_cons_zero]
        refine wpAnyH_take (i := 1) (v := .pointer (some ⟨wc.heap.size, 1, none⟩)) rfl (by kernel_rfl) (by kernel_rfl) (by kernel_rfl) (fun _ _ _ h => h) (Or.inl ⟨by kernel_rfl, ?_⟩) (by assumption) ?_
        · intro wx hSw
          clear hSw hHeld
          go_simp
          try first | with_reducible rfl | kernel_rfl
        simp only [Act.put, List.getElem_toArray, List.getElem_cons_succ, List.getElem_cons_zero, List.setIfInBounds_toArray, List.set_cons_succ, List.set_cons_zero]
        refine wpAnyH_take (i := 2) (v := (.int .i64 130)) rfl (by kernel_rfl) (by kernel_rfl) (by kernel_rfl) (fun _ _ _ h => h) (Or.inl ⟨by kernel_rfl, ?_⟩) (by assumption) ?_
        · intro wx hSw
          have cc : wx.cell? ⟨wc.heap.size, 1, none⟩ = some (.int .i64 130) := (cell_of_row wx _ 1 _ _ _ hSw).trans rfl
          clear hSw hHeld
          go_simp
          try first | with_reducible rfl | kernel_rfl
        simp only [Act.put, List.getElem_toArray, List.getElem_cons_succ, List.getElem_cons_zero, List.setIfInBounds_toArray, List.set_cons_succ, List.set_cons_zero]
        refine wpAnyH_ready (rs := [3]) (by kernel_rfl) (by simp) ?_
        refine AllReadyH.cons rfl (fun K hK => ?_) AllReadyH.nil
        rw [if_pos (by kernel_rfl)]
        refine wp_store_row 35 (.tmp 2) (.tmp 36) (by kernel_rfl) w.heap.size zR (by kernel_rfl) (by kernel_rfl) 35 zR HQD.out (by kernel_rfl) (by kernel_rfl) zR_one ?_
        rw [hWZ]
        clear hHeld
        refine hK.out _ _ HRZ.out (fun hHeld => ?_)
        clear hK K
        refine wpAnyH_take (i := 4) (v := (.int .i64 130)) rfl (by kernel_rfl) (by kernel_rfl) (by kernel_rfl) (fun _ _ _ h => h) (Or.inl ⟨by kernel_rfl, ?_⟩) (by assumption) ?_
        · intro wx hSw
          clear hSw hHeld
          go_simp
          try first | with_reducible rfl | kernel_rfl
        simp only [Act.put, List.getElem_toArray, List.getElem_cons_succ, List.getElem_cons_zero, List.setIfInBounds_toArray, List.set_cons_succ, List.set_cons_zero]
        refine wpAnyH_done (by kernel_rfl) ?_ _
        clear hHeld
        go_wp2_with fail
        refine bodyPost_ret (v := .tuple #[.agg zR, .int .i64 130]) (results_c2 rfl _ _ w.heap.size 35 _ (0, 0) _ rfl HQZ.out Try.underlying35 rfl (by kernel_rfl) rfl) rfl ?_
        exact HFIN.out
end Rk
end Go.Proofs.Ytngnhegmealokaa
