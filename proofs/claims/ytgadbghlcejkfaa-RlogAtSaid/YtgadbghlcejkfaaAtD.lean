/- The document's At. No condition but the bounds of what may last. -/
import Derived.Test.YtgadbghlcejkfaaAtC
import Derived.Test.YtgadbghlcejkfaaRlG
import Derived.Test.YtgadbghlcejkfaaRpG
import Derived.Deep.MidRow
namespace Go.Proofs.Ytgadbghlcejkfaa
open Go.ChangeShapes Go.WideShapes Go.ChangeAt Go.RowKit Go.Deep
set_option linter.unusedVariables false
set_option maxRecDepth 100000
namespace At
open Hd Rl Ld La Rc
theorem led_put {w : World} {g : Nat} {s : Sho} {vn vh vl : Value} (h : w.heap[g]? = some (.cells (sArr s vn vh vl) 29 (0, 0))) (l : Led) (uh ul : Value) : (w.setCells g 3 (lArr l uh ul).toList).heap[g]? = some (.cells (sArr { s with led := l } vn uh ul) 29 (0, 0)) := by
  rw [heap_setCells g _ _ h]
  simp [setsA]
theorem cmd_range9 {w : World} {g : Nat} {x : Ent} {vn : Value} (h : w.heap[g]? = some (.cells (entC (x, vn)).toArray 36 (0, 0))) : w.rangeAt g 1 (Cm.cArr x.cmd vn).toList := fun j v hv => by
  have hj : j < 8 := by have := (List.getElem?_eq_some_iff.1 hv).1; simpa using this
  rw [cell_of_row w g (1 + j) _ _ _ h, ← hv]
  match j, hj with
  | 0, _ => rfl
  | 1, _ => rfl
  | 2, _ => rfl
  | 3, _ => rfl
  | 4, _ => rfl
  | 5, _ => rfl
  | 6, _ => rfl
  | 7, _ => rfl
theorem at_fits {h : Har} (ok : hardOk h) (hf : Fit h) (hw : HarW h) (he : EntsW h) {k : Nat} (hk : k ≤ h.log.length) : IsLed.fits (atL h k) := La.led_fits (at_ok ok hf hw he k hk).1
set_option maxHeartbeats 3000000 in
theorem ratE_any (h : Har) (v : Value) (i : Int) (w : World) (hh : IsHard w v h) (hft : IsHard.fits h) (hi0 : 0 ≤ i) (hi1 : i ≤ 18446744073709551615) : Calls Try.prog 33 #[v, .int .u64 i] w (AtE h i w) := by
  obtain ⟨vn, vh, vl, vg, rfl, hn, hhe, hl, hg, -⟩ := id hh
  obtain ⟨g1, q1, rfl, -⟩ := id hn
  obtain ⟨g2, q2, rfl, -⟩ := id hhe
  obtain ⟨g3, q3, rfl, -⟩ := id hl
  obtain ⟨rows, ⟨g4, q4, hvg, hrl1, hrl2, hrc⟩, hents, hmap⟩ := id hg
  have hrl : rows.length = h.log.length := by rw [← hmap, List.length_map]
  rw [hrl] at hvg
  subst hvg
  have HRC := Lib.hid hrc
  have HRL := Lib.hid hrl
  have HENT := Lib.hid hents
  have HMAP := Lib.hid hmap
  clear hrc hrl hents hmap hrl1 hrl2
  obtain ⟨W0, hW0⟩ : ∃ q, (w.alloc (.cells (hArr h (.slice g1 h.shot.nodes.length q1) (.slice g2 h.shot.led.held.length q2) (.slice g3 h.shot.led.last.length q3) (.slice g4 h.log.length q4)) 32)).alloc (.cells zSA 29) = q := ⟨_, rfl⟩
  have hb0 : Below w.heap.size w W0 := by rw [← hW0]; exact ((Below.refl _ _).alloc (Nat.le_refl _) _).alloc (by simp) _
  have HA0 : Hid (W0.heap[w.heap.size]? = some (.cells (hArr h (.slice g1 h.shot.nodes.length q1) (.slice g2 h.shot.led.held.length q2) (.slice g3 h.shot.led.last.length q3) (.slice g4 h.log.length q4)) 32 (0, 0))) := Lib.hid (by rw [← hW0]; exact heap_alloc2_old _ _ _)
  have HC0 : Hid (W0.heap[w.heap.size + 1]? = some (.cells zSA 29 (0, 0))) := Lib.hid (by rw [← hW0]; exact heap_alloc2_new _ _ _)
  have HS0 : Hid (w.heap.size + 2 ≤ W0.heap.size) := Lib.hid (by rw [← hW0]; simp)
  have HB0 := Lib.hid hb0
  have HHL := Lib.hid (⟨hhe, hl⟩ : SlR 5 heldC w (.slice g2 h.shot.led.held.length q2) h.shot.led.held ∧ SlR 6 lastC w (.slice g3 h.shot.led.last.length q3) h.shot.led.last)
  have HIW := Lib.hid hh
  have HW := Lib.hid (IsHard.harW hh)
  have HEW := Lib.hid (ents_w hh)
  have HFT := Lib.hid hft
  have HI0 := Lib.hid hi0
  have HI1 := Lib.hid hi1
  have HIH0 := Lib.hid (hh.below hb0 (Nat.le_refl _))
  clear hh hft hi0 hi1 hn hhe hl hg hb0
  go_enter Try.func33, Try.ntmps33
  go_wp2_with (first | (with_reducible refine wpList_load_row rfl 32 (.tmp 2) rfl w.heap.size rfl 32 (hArr h (.slice g1 h.shot.nodes.length q1) (.slice g2 h.shot.led.held.length q2) (.slice g3 h.shot.led.last.length q3) (.slice g4 h.log.length q4)) (0, 0) _ HA0.out Try.underlying32 rfl (by kernel_rfl) ?_) | fail)
  refine (good_any h _ _ HIH0.out).mono ?_
  rintro e w1 ⟨t1, rfl, ht1, hb⟩
  have HA1 := Lib.hid ((hb.block _ (lt_of_row HA0.out)).trans HA0.out)
  have HC1 := Lib.hid ((hb.block _ (lt_of_row HC0.out)).trans HC0.out)
  have HB1 := Lib.hid (HB0.out.trans (hb.mono HB0.out.size))
  have HS1 := Lib.hid (Nat.le_trans HS0.out hb.size)
  have HIH1 := Lib.hid (HIH0.out.below hb (Nat.le_refl _))
  clear hb
  cases t1
  · have FIN : Hid (AtE h i w (.returned (.tuple #[.agg zSA, .int .i64 130])) (w1.setRow (w.heap.size + 1) zSA)) := Lib.hid (at_no (.inl ⟨rfl, fun q => by have := ht1.2 q; cases this⟩) (by omega) HB1.out)
    clear ht1
    go_wp2_with (first | (with_reducible refine wpList_store_row rfl 29 (.tmp 4) (.tmp 16) rfl (w.heap.size + 1) zSA rfl rfl 29 _ HC1.out (by kernel_rfl) rfl zSA_one ?_) | fail)
    exact bodyPost_ret (v := .tuple #[.agg zSA, .int .i64 130]) (results_ct rfl _ _ (w.heap.size + 1) 29 _ (0, 0) _ rfl (setRow_heap _ _ _ _ _ _ HC1.out) Try.underlying29 rfl (by kernel_rfl) rfl) rfl FIN.out
  have OK := Lib.hid (ht1.1 rfl)
  clear ht1
  have HF : Hid (Fit h) := Lib.hid (fit_of HW.out.1 OK.out)
  have hfit1 := HF.out.1
  have hfit2 := HF.out.2
  have HIX : Hid (h.shot.index ≤ 4611686018427387904) := Lib.hid (by omega)
  have d3 := (cell_of_row w1 _ 3 _ _ _ HA1.out).trans rfl
  by_cases hlo : i < h.shot.index
  · have hin : (termP h i).2 = false := by
      cases q : (termP h i).2
      · rfl
      · have := (term_in.1 q).1; omega
    have FIN : Hid (AtE h i w (.returned (.tuple #[.agg zSA, .int .i64 4])) (w1.setRow (w.heap.size + 1) zSA)) := Lib.hid (at_no (.inr ⟨rfl, OK.out, hin⟩) (by omega) HB1.out)
    clear hin
    go_wp2_with (first | (with_reducible refine wpList_store_row rfl 29 (.tmp 4) (.tmp 28) rfl (w.heap.size + 1) zSA rfl rfl 29 _ HC1.out (by kernel_rfl) rfl zSA_one ?_) | fail)
    exact bodyPost_ret (v := .tuple #[.agg zSA, .int .i64 4]) (results_ct rfl _ _ (w.heap.size + 1) 29 _ (0, 0) _ rfl (setRow_heap _ _ _ _ _ _ HC1.out) Try.underlying29 rfl (by kernel_rfl) rfl) rfl FIN.out
  have hlo2 : h.shot.index ≤ i := by omega
  have hlo3 : decide (i < h.shot.index) = false := decide_eq_false hlo
  by_cases hhi : h.shot.index + (h.log.length : Int) < i
  · have hin : (termP h i).2 = false := by
      cases q : (termP h i).2
      · rfl
      · have := (term_in.1 q).2; unfold lastI at this; omega
    clear hlo
    go_wp2_with (first | (with_reducible refine wpList_load_rowG rfl 32 (.tmp 2) rfl w.heap.size rfl 32 (hArr h (.slice g1 h.shot.nodes.length q1) (.slice g2 h.shot.led.held.length q2) (.slice g3 h.shot.led.last.length q3) (.slice g4 h.log.length q4)) (0, 0) _ HA1.out Try.underlying32 rfl (by kernel_rfl) ?_) | fail)
    refine (Hd.rlast_any h _ _ HIH1.out HIX.out).mono ?_
    rintro e w2 ⟨rfl, hb⟩
    have HA2 := Lib.hid ((hb.block _ (lt_of_row HA1.out)).trans HA1.out)
    have HC2 := Lib.hid ((hb.block _ (lt_of_row HC1.out)).trans HC1.out)
    have HB2 := Lib.hid (HB1.out.trans (hb.mono HB1.out.size))
    have HS2 := Lib.hid (Nat.le_trans HS1.out hb.size)
    have HIH2 := Lib.hid (HIH1.out.below hb (Nat.le_refl _))
    clear hb
    have FIN : Hid (AtE h i w (.returned (.tuple #[.agg zSA, .int .i64 4])) (w2.setRow (w.heap.size + 1) zSA)) := Lib.hid (at_no (.inr ⟨rfl, OK.out, hin⟩) (by omega) HB2.out)
    clear hin
    go_wp2_with (first | (with_reducible refine wpList_store_row rfl 29 (.tmp 4) (.tmp 28) rfl (w.heap.size + 1) zSA rfl rfl 29 _ HC2.out (by kernel_rfl) rfl zSA_one ?_) | fail)
    exact bodyPost_ret (v := .tuple #[.agg zSA, .int .i64 4]) (results_ct rfl _ _ (w.heap.size + 1) 29 _ (0, 0) _ rfl (setRow_heap _ _ _ _ _ _ HC2.out) Try.underlying29 rfl (by kernel_rfl) rfl) rfl FIN.out
  have hhi2 : i ≤ h.shot.index + (h.log.length : Int) := by omega
  have HIN : Hid ((termP h i).2 = true) := Lib.hid (term_in.2 ⟨hlo2, by unfold lastI; omega⟩)
  obtain ⟨KK, hKK⟩ : ∃ K : Nat, i = h.shot.index + K := ⟨(i - h.shot.index).toNat, by omega⟩
  have HKL : Hid (KK ≤ h.log.length) := Lib.hid (by omega)
  have HKK : Hid ((i - h.shot.index).toNat = KK) := Lib.hid (by omega)
  have HKI := Lib.hid hKK
  clear hKK hlo hhi
  go_wp2_with (first | (with_reducible refine wpList_load_rowG rfl 32 (.tmp 2) rfl w.heap.size rfl 32 (hArr h (.slice g1 h.shot.nodes.length q1) (.slice g2 h.shot.led.held.length q2) (.slice g3 h.shot.led.last.length q3) (.slice g4 h.log.length q4)) (0, 0) _ HA1.out Try.underlying32 rfl (by kernel_rfl) ?_) | fail)
  refine (Hd.rlast_any h _ _ HIH1.out HIX.out).mono ?_
  rintro e w2 ⟨rfl, hb⟩
  have HA2 := Lib.hid ((hb.block _ (lt_of_row HA1.out)).trans HA1.out)
  have HC2 := Lib.hid ((hb.block _ (lt_of_row HC1.out)).trans HC1.out)
  have HB2 := Lib.hid (HB1.out.trans (hb.mono HB1.out.size))
  have HS2 := Lib.hid (Nat.le_trans HS1.out hb.size)
  have HIH2 := Lib.hid (HIH1.out.below hb (Nat.le_refl _))
  clear hb
  have HIL2 : Hid (IsLed w2 (.agg (lArr h.shot.led (.slice g2 h.shot.led.held.length q2) (.slice g3 h.shot.led.last.length q3))) h.shot.led) := Lib.hid ⟨_, _, rfl, HHL.out.1.below HB2.out (Nat.le_refl _), HHL.out.2.below HB2.out (Nat.le_refl _), HW.out.1.2.2.2.2.2⟩
  have hrg2 := led_range HA2.out
  go_wp2_with (first | (with_reducible refine wpList_load_mid rfl 27 (.tmp 31) rfl w.heap.size 6 rfl (lArr h.shot.led (.slice g2 h.shot.led.held.length q2) (.slice g3 h.shot.led.last.length q3)).toList _ hrg2 Try.underlying27 rfl (by kernel_rfl) ?_) | fail)
  refine (Ld.copy_own h.shot.led _ _ HIL2.out HFT.out.1.2).mono ?_
  rintro e w4 ⟨vh4, vl4, rfl, oh, ol, hlw, hb⟩
  have HA4 := Lib.hid ((hb.block _ (lt_of_row HA2.out)).trans HA2.out)
  have HC4 := Lib.hid ((hb.block _ (lt_of_row HC2.out)).trans HC2.out)
  have HB4 := Lib.hid (HB2.out.trans (hb.mono HB2.out.size))
  have HS4 := Lib.hid (Nat.le_trans HS2.out hb.size)
  have HIH4 := Lib.hid (HIH2.out.below hb (Nat.le_refl _))
  obtain ⟨a2, b2, rfl, -⟩ := oh.sl heldC_len
  obtain ⟨a3, b3, rfl, -⟩ := ol.sl lastC_len
  have hst : (w4.alloc (.cells zSA 29)).heap[w4.heap.size]? = some (.cells zSA 29 (0, 0)) := heap_alloc_new _ _
  obtain ⟨W5, hW5⟩ : ∃ q, (w4.alloc (.cells zSA 29)).setRow w4.heap.size (sArr (⟨i, 0, [], h.shot.led⟩ : Sho) (.slice none 0 0) (.slice a2 h.shot.led.held.length b2) (.slice a3 h.shot.led.last.length b3)) = q := ⟨_, rfl⟩
  have hbx : Below w4.heap.size w4 W5 := by rw [← hW5]; exact Ld.below_row ((Below.refl _ _).alloc (Nat.le_refl _) _) (Nat.le_refl _) _
  have HX5 : Hid (W5.heap[w4.heap.size]? = some (.cells (sArr (⟨i, 0, [], h.shot.led⟩ : Sho) (.slice none 0 0) (.slice a2 h.shot.led.held.length b2) (.slice a3 h.shot.led.last.length b3)) 29 (0, 0))) := Lib.hid (by rw [← hW5]; exact setRow_heap _ _ _ _ _ _ hst)
  have HO5 : Hid (OwnR 5 heldC 67 W5 (w.heap.size + 2) (.slice a2 h.shot.led.held.length b2) h.shot.led.held ∧ OwnR 6 lastC 71 W5 (w.heap.size + 2) (.slice a3 h.shot.led.last.length b3) h.shot.led.last) := Lib.hid ⟨owns_below hbx (oh.lower HS2.out), owns_below hbx (ol.lower HS2.out)⟩
  have HSW4 : Hid (w.heap.size + 2 ≤ w4.heap.size) := HS4
  have HA5 := Lib.hid ((hbx.block _ (lt_of_row HA4.out)).trans HA4.out)
  have HC5 := Lib.hid ((hbx.block _ (lt_of_row HC4.out)).trans HC4.out)
  have HB5 := Lib.hid (HB4.out.trans (hbx.mono HB4.out.size))
  have HS5 := Lib.hid (Nat.le_trans HS4.out hbx.size)
  have HIH5 := Lib.hid (HIH4.out.below hbx (Nat.le_refl _))
  clear oh ol hlw hb hbx hrg2 d3
  go_wp2_with (first | (with_reducible refine wpList_store_row rfl 29 (.tmp 6) (.tmp 34) rfl w4.heap.size (sArr (⟨i, 0, [], h.shot.led⟩ : Sho) (.slice none 0 0) (.slice a2 h.shot.led.held.length b2) (.slice a3 h.shot.led.last.length b3)) rfl rfl 29 _ hst (by kernel_rfl) rfl (Sh.sArr_one _ _ _ _ _ _ _ _ _ _) ?_; rw [hW5]; clear hW5 hst) | (with_reducible refine wpList_load_row rfl 32 (.tmp 2) rfl w.heap.size rfl 32 (hArr h (.slice g1 h.shot.nodes.length q1) (.slice g2 h.shot.led.held.length q2) (.slice g3 h.shot.led.last.length q3) (.slice g4 h.log.length q4)) (0, 0) _ HA5.out Try.underlying32 rfl (by kernel_rfl) ?_))
  refine (rtermAt_any h _ i _ HIH5.out HF.out HI0.out HI1.out).mono ?_
  rintro e w6 ⟨rfl, hb⟩
  obtain ⟨tp, htp⟩ : ∃ t, (termP h i).1 = t := ⟨_, rfl⟩
  rw [htp]
  have HTP := Lib.hid htp
  generalize (termP h i).2 = tb
  clear htp
  have HA6 := Lib.hid ((hb.block _ (lt_of_row HA5.out)).trans HA5.out)
  have HC6 := Lib.hid ((hb.block _ (lt_of_row HC5.out)).trans HC5.out)
  have HB6 := Lib.hid (HB5.out.trans (hb.mono HB5.out.size))
  have HS6 := Lib.hid (Nat.le_trans HS5.out hb.size)
  have HX6 := Lib.hid ((hb.block _ (lt_of_row HX5.out)).trans HX5.out)
  have HO6 : Hid (OwnR 5 heldC 67 w6 (w.heap.size + 2) (.slice a2 h.shot.led.held.length b2) h.shot.led.held ∧ OwnR 6 lastC 71 w6 (w.heap.size + 2) (.slice a3 h.shot.led.last.length b3) h.shot.led.last) := Lib.hid ⟨owns_below hb HO5.out.1, owns_below hb HO5.out.2⟩
  have x1 := (cell_of_row w6 _ 1 _ _ _ HX6.out).trans rfl
  have y1 := La.frozen_of (o := 1) HX6.out
  obtain ⟨W7, hW7⟩ : ∃ q, w6.setCell ⟨w4.heap.size, 1, none⟩ (.int .u64 tp) = q := ⟨_, rfl⟩
  have HSWW := HSW4.out
  have HX7 : Hid (W7.heap[w4.heap.size]? = some (.cells (sArr (⟨i, tp, [], h.shot.led⟩ : Sho) (.slice none 0 0) (.slice a2 h.shot.led.held.length b2) (.slice a3 h.shot.led.last.length b3)) 29 (0, 0))) := Lib.hid (by rw [← hW7, heap_setCell_same w6 w4.heap.size 1 _ _ _ HX6.out]; rfl)
  have HA7 : Hid (W7.heap[w.heap.size]? = some (.cells (hArr h (.slice g1 h.shot.nodes.length q1) (.slice g2 h.shot.led.held.length q2) (.slice g3 h.shot.led.last.length q3) (.slice g4 h.log.length q4)) 32 (0, 0))) := Lib.hid (by rw [← hW7]; exact (heap_setCell_other _ _ _ _ (by show w.heap.size ≠ w4.heap.size; omega)).trans HA6.out)
  have HC7 : Hid (W7.heap[w.heap.size + 1]? = some (.cells zSA 29 (0, 0))) := Lib.hid (by rw [← hW7]; exact (heap_setCell_other _ _ _ _ (by show w.heap.size + 1 ≠ w4.heap.size; omega)).trans HC6.out)
  have HB7 : Hid (Below w.heap.size w W7) := Lib.hid (by rw [← hW7]; exact HB6.out.setCell (by show w.heap.size ≤ w4.heap.size; omega) _)
  have HO7 : Hid (OwnR 5 heldC 67 W7 (w.heap.size + 2) (.slice a2 h.shot.led.held.length b2) h.shot.led.held ∧ OwnR 6 lastC 71 W7 (w.heap.size + 2) (.slice a3 h.shot.led.last.length b3) h.shot.led.last) := Lib.hid (by rw [← hW7]; exact ⟨own_cellT HO6.out.1 HX6.out (by decide), own_cellT HO6.out.2 HX6.out (by decide)⟩)
  have HS7 : Hid (w.heap.size + 2 ≤ W7.heap.size) := Lib.hid (by have := lt_of_row HX7.out; omega)
  have HIH7 : Hid (IsHard W7 (.agg (hArr h (.slice g1 h.shot.nodes.length q1) (.slice g2 h.shot.led.held.length q2) (.slice g3 h.shot.led.last.length q3) (.slice g4 h.log.length q4))) h) := Lib.hid (HIW.out.below HB7.out (Nat.le_refl _))
  clear hb HSWW
  go_wp2_with (first | (with_reducible refine wpList_load_row rfl 32 (.tmp 2) rfl w.heap.size rfl 32 (hArr h (.slice g1 h.shot.nodes.length q1) (.slice g2 h.shot.led.held.length q2) (.slice g3 h.shot.led.last.length q3) (.slice g4 h.log.length q4)) (0, 0) _ HA7.out Try.underlying32 rfl (by kernel_rfl) ?_) | fail)
  refine (rconf_any h _ i _ HIH7.out HFT.out HI0.out HI1.out).mono ?_
  rintro e w8 ⟨vc, rfl, ownc, hb⟩
  have hcw : ∀ n ∈ (confV h i).2, (Lit.int .i64 n).wf = true := conf_wf OK.out HW.out HEW.out
  obtain ⟨cn, hcn⟩ : ∃ c, (confV h i).2 = c := ⟨_, rfl⟩
  rw [hcn] at hcw ownc
  have HCN := Lib.hid hcn
  clear hcn
  generalize (confV h i).1 = ci
  have HCW := Lib.hid hcw
  obtain ⟨a1, b1, rfl, -⟩ := ownc.sl hcw
  have HA8 := Lib.hid ((hb.block _ (lt_of_row HA7.out)).trans HA7.out)
  have HC8 := Lib.hid ((hb.block _ (lt_of_row HC7.out)).trans HC7.out)
  have HB8 := Lib.hid (HB7.out.trans (hb.mono HB7.out.size))
  have HS8 := Lib.hid (Nat.le_trans HS7.out hb.size)
  have HX8 := Lib.hid ((hb.block _ (lt_of_row HX7.out)).trans HX7.out)
  have HO8 : Hid (OwnR 5 heldC 67 w8 (w.heap.size + 2) (.slice a2 h.shot.led.held.length b2) h.shot.led.held ∧ OwnR 6 lastC 71 w8 (w.heap.size + 2) (.slice a3 h.shot.led.last.length b3) h.shot.led.last) := Lib.hid ⟨owns_below hb HO7.out.1, owns_below hb HO7.out.2⟩
  have HN8 : Hid (OwnI w8 (w.heap.size + 2) (.slice a1 cn.length b1) cn) := Lib.hid (OwnK.lower ownc HS7.out)
  have x2 := (cell_of_row w8 _ 2 _ _ _ HX8.out).trans rfl
  have y2 := La.frozen_of (o := 2) HX8.out
  obtain ⟨W9, hW9⟩ : ∃ q, w8.setCell ⟨w4.heap.size, 2, none⟩ (.slice a1 cn.length b1) = q := ⟨_, rfl⟩
  have HSWW := HSW4.out
  have HX9 : Hid (W9.heap[w4.heap.size]? = some (.cells (sArr (⟨i, tp, cn, h.shot.led⟩ : Sho) (.slice a1 cn.length b1) (.slice a2 h.shot.led.held.length b2) (.slice a3 h.shot.led.last.length b3)) 29 (0, 0))) := Lib.hid (by rw [← hW9, heap_setCell_same w8 w4.heap.size 2 _ _ _ HX8.out]; rfl)
  have HA9 : Hid (W9.heap[w.heap.size]? = some (.cells (hArr h (.slice g1 h.shot.nodes.length q1) (.slice g2 h.shot.led.held.length q2) (.slice g3 h.shot.led.last.length q3) (.slice g4 h.log.length q4)) 32 (0, 0))) := Lib.hid (by rw [← hW9]; exact (heap_setCell_other _ _ _ _ (by show w.heap.size ≠ w4.heap.size; omega)).trans HA8.out)
  have HC9 : Hid (W9.heap[w.heap.size + 1]? = some (.cells zSA 29 (0, 0))) := Lib.hid (by rw [← hW9]; exact (heap_setCell_other _ _ _ _ (by show w.heap.size + 1 ≠ w4.heap.size; omega)).trans HC8.out)
  have HB9 : Hid (Below w.heap.size w W9) := Lib.hid (by rw [← hW9]; exact HB8.out.setCell (by show w.heap.size ≤ w4.heap.size; omega) _)
  have HO9 : Hid (OwnR 5 heldC 67 W9 (w.heap.size + 2) (.slice a2 h.shot.led.held.length b2) h.shot.led.held ∧ OwnR 6 lastC 71 W9 (w.heap.size + 2) (.slice a3 h.shot.led.last.length b3) h.shot.led.last) := Lib.hid (by rw [← hW9]; exact ⟨own_cellT HO8.out.1 HX8.out (by decide), own_cellT HO8.out.2 HX8.out (by decide)⟩)
  have HN9 : Hid (OwnI W9 (w.heap.size + 2) (.slice a1 cn.length b1) cn) := Lib.hid (by rw [← hW9]; exact own_cellT HN8.out HX8.out (by decide))
  have HZ9 : Hid (w4.heap.size < W9.heap.size) := Lib.hid (lt_of_row HX9.out)
  have z10 := (cell_of_row W9 _ 10 _ _ _ HA9.out).trans rfl
  clear hb HSWW ownc hcw
  have hlen0 : (h.log.length : Int) ≤ 4611686018427387904 := by omega
  go_wp2
  go_loopw [7, 8, 9, 10, 11, 12, 52] (fun _ _ _ _ _ _ c wr => ∃ k : Nat, k ≤ h.log.length ∧ c = .int .i64 k ∧ ∃ (L : Led) (a2 : Option Addr) (b2 : Nat) (a3 : Option Addr) (b3 : Nat), Hid (atL h (min k KK) = L) ∧ Hid (wr.heap[w4.heap.size]? = some (.cells (sArr (⟨i, tp, cn, L⟩ : Sho) (.slice a1 cn.length b1) (.slice a2 L.held.length b2) (.slice a3 L.last.length b3)) 29 (0, 0))) ∧ Hid (OwnR 5 heldC 67 wr (w.heap.size + 2) (.slice a2 L.held.length b2) L.held ∧ OwnR 6 lastC 71 wr (w.heap.size + 2) (.slice a3 L.last.length b3) L.last) ∧ Hid (OwnI wr (w.heap.size + 2) (.slice a1 cn.length b1) cn) ∧ Hid (wr.heap[w.heap.size]? = some (.cells (hArr h (.slice g1 h.shot.nodes.length q1) (.slice g2 h.shot.led.held.length q2) (.slice g3 h.shot.led.last.length q3) (.slice g4 h.log.length q4)) 32 (0, 0))) ∧ Hid (wr.heap[w.heap.size + 1]? = some (.cells zSA 29 (0, 0))) ∧ Hid (Below w.heap.size w wr) ∧ Hid (w4.heap.size < wr.heap.size)) (fun _ _ _ _ _ _ c _ => h.log.length - (intOf c).toNat)
  case atStart => exact ⟨0, Nat.zero_le _, rfl, h.shot.led, a2, b2, a3, b3, Lib.hid (by rw [Nat.zero_min]; rfl), HX9, HO9, HN9, HA9, HC9, HB9, HZ9⟩
  case round =>
    clear HX9 HO9 HN9 HA9 HC9 HB9 HZ9
    obtain ⟨k, hk, rfl, L, a2, b2, a3, b3, HL, HX, HO, HN, HA, HC, HB, HZ⟩ := hrel
    by_cases hlt : k < h.log.length
    · have hkl : k < rows.length := by rw [HRL.out]; exact hlt
      obtain ⟨b, off, hav, hbl, hcc⟩ := Ld.rows_open hkl HRC.out
      subst hav
      have hrg : wr.rangeAt b (off + k * 9) (entC rows[k]) := fun j u hu => by
        rw [Nat.add_assoc]
        exact (HB.out.cell (p := ⟨b, off + (k * 9 + j), none⟩) hbl).trans (hcc k _ (Ld.rgetD hkl) j u hu)
      have hxe := HENT.out rows[k] (List.getElem_mem hkl)
      have hxg : h.log[k]? = some rows[k].1 := by rw [← HMAP.out, List.getElem?_map, List.getElem?_eq_getElem hkl]; rfl
      clear hcc hbl
      generalize rows[k] = rk at hrg hxe hxg
      obtain ⟨x, vx⟩ := rk
      dsimp only at hxe hxg
      obtain ⟨hxs, hxw⟩ := hxe
      obtain ⟨ax, cx, rfl, -⟩ := id hxs
      have hsE : (wr.alloc (.cells #[.int .u64 0, .int .i64 0, .int .i64 0, .int .i64 0, .slice none 0 0, .int .u64 0, .int .u64 0, .int .u64 0, .int .u64 0] 36)).heap[wr.heap.size]? = some (.cells #[.int .u64 0, .int .i64 0, .int .i64 0, .int .i64 0, .slice none 0 0, .int .u64 0, .int .u64 0, .int .u64 0, .int .u64 0] 36 (0, 0)) := heap_alloc_new _ _
      obtain ⟨W1, hW1⟩ : ∃ q, (wr.alloc (.cells #[.int .u64 0, .int .i64 0, .int .i64 0, .int .i64 0, .slice none 0 0, .int .u64 0, .int .u64 0, .int .u64 0, .int .u64 0] 36)).setRow wr.heap.size (entC (x, .slice ax x.cmd.nodes.length cx)).toArray = q := ⟨_, rfl⟩
      have hbE : Below wr.heap.size wr W1 := by rw [← hW1]; exact Ld.below_row ((Below.refl _ _).alloc (Nat.le_refl _) _) (Nat.le_refl _) _
      have HE1 : Hid (W1.heap[wr.heap.size]? = some (.cells (entC (x, .slice ax x.cmd.nodes.length cx)).toArray 36 (0, 0))) := Lib.hid (by rw [← hW1]; exact setRow_heap _ _ _ _ _ _ hsE)
      have HX1 := Lib.hid ((hbE.block _ (lt_of_row HX.out)).trans HX.out)
      have HA1 := Lib.hid ((hbE.block _ (lt_of_row HA.out)).trans HA.out)
      have HC1 := Lib.hid ((hbE.block _ (lt_of_row HC.out)).trans HC.out)
      have HB1 := Lib.hid (HB.out.trans (hbE.mono HB.out.size))
      have HO1 : Hid (OwnR 5 heldC 67 W1 (w.heap.size + 2) (.slice a2 L.held.length b2) L.held ∧ OwnR 6 lastC 71 W1 (w.heap.size + 2) (.slice a3 L.last.length b3) L.last) := Lib.hid ⟨owns_below hbE HO.out.1, owns_below hbE HO.out.2⟩
      have HN1 : Hid (OwnI W1 (w.heap.size + 2) (.slice a1 cn.length b1) cn) := Lib.hid (owns_below hbE HN.out)
      have HIC : Hid (IsCmd W1 (.agg (Cm.cArr x.cmd (.slice ax x.cmd.nodes.length cx))) x.cmd) := Lib.hid ⟨_, rfl, (hxs.below HB.out (Nat.le_refl _)).below hbE (Nat.le_refl _), hxw.2⟩
      have HZ1 : Hid (w4.heap.size < W1.heap.size) := Lib.hid (lt_of_row HX1.out)
      have hd3 := (cell_of_row W1 _ 3 _ _ _ HA1.out).trans rfl
      have HXG := Lib.hid hxg
      have hkz : (k : Int) < (h.log.length : Int) := by omega
      clear hbE hxs hxw hxg
      by_cases hle : k < KK
      · have hlz : h.shot.index + (k : Int) + 1 ≤ i := by have := HKI.out; omega
        have HMK : Hid (min k KK = k) := Lib.hid (by omega)
        have hLK := HL.out
        rw [HMK.out] at hLK
        have HLW : Hid L.wf := Lib.hid (by rw [← hLK]; exact (at_ok OK.out HF.out HW.out HEW.out k (by omega)).2)
        have HLF : Hid (IsLed.fits L) := Lib.hid (by rw [← hLK]; exact at_fits OK.out HF.out HW.out HEW.out (by omega))
        have hE := at_err OK.out HF.out HW.out HEW.out HXG.out
        rw [hLK] at hE
        have HEE := Lib.hid hE
        clear hLK hE
        have hrl := sled_range HX1.out
        have hrc := cmd_range9 HE1.out
        go_wp2_with (first
          | (with_reducible refine wpList_load_mid rfl 36 (.tmp 55) rfl b (off + k * 9) rfl (entC (x, .slice ax x.cmd.nodes.length cx)) _ hrg Try.underlying36 rfl (by kernel_rfl) ?_)
          | (with_reducible refine wpList_store_row rfl 36 (.tmp 8) (.tmp 56) rfl wr.heap.size (entC (x, .slice ax x.cmd.nodes.length cx)).toArray rfl rfl 36 _ hsE (by kernel_rfl) rfl (entA_one _ _ _ _) ?_; rw [hW1]; clear hW1 hsE)
          | (with_reducible refine wpList_load_mid rfl 27 (.tmp 68) rfl w4.heap.size 3 rfl (lArr L (.slice a2 L.held.length b2) (.slice a3 L.last.length b3)).toList _ hrl Try.underlying27 rfl (by kernel_rfl) ?_)
          | (with_reducible refine wpList_load_mid rfl 34 (.tmp 71) rfl wr.heap.size 1 rfl (Cm.cArr x.cmd (.slice ax x.cmd.nodes.length cx)).toList _ hrc Try.underlying34 rfl (by kernel_rfl) ?_))
        refine (Lr.apply_any L _ _ (h.shot.index + (k : Int) + 1) x.cmd _ (⟨_, _, rfl, HO1.out.1.sl heldC_len, HO1.out.2.sl lastC_len, HLW.out⟩ : IsLed W1 (.agg (lArr L (.slice a2 L.held.length b2) (.slice a3 L.last.length b3))) L) HLF.out HIC.out (idx_wf HF.out (by omega))).mono ?_
        rintro e wB ⟨vhB, vlB, rfl, oh, ol, hmw, hb⟩
        rw [HEE.out.1]
        obtain ⟨M, hM⟩ : ∃ M, applyL L (h.shot.index + (k : Int) + 1) x.cmd = M := ⟨_, rfl⟩
        rw [hM] at oh ol ⊢
        have HMM : Hid (atL h (min (k + 1) KK) = M) := Lib.hid (by rw [show min (k + 1) KK = k + 1 by omega, ← HEE.out.2]; exact hM)
        generalize answerL L (h.shot.index + (k : Int) + 1) x.cmd = an
        clear hmw hM hrl hrc
        obtain ⟨d2, f2, rfl, -⟩ := oh.sl heldC_len
        obtain ⟨d3, f3, rfl, -⟩ := ol.sl lastC_len
        obtain ⟨W2, hW2, hb2, hR2, hA2, hz2, hs1, hs2⟩ := La.boxed wB M an (.slice d2 M.held.length f2) (.slice d3 M.last.length f3)
        have hb12 := hb.trans (hb2.mono hb.size)
        have HR2 := Lib.hid hR2
        have HX2 := Lib.hid ((hb12.block _ (lt_of_row HX1.out)).trans HX1.out)
        have HA2 := Lib.hid ((hb12.block _ (lt_of_row HA1.out)).trans HA1.out)
        have HC2 := Lib.hid ((hb12.block _ (lt_of_row HC1.out)).trans HC1.out)
        have HB2 := Lib.hid (HB1.out.trans (hb12.mono HB1.out.size))
        have HO2 : Hid (OwnR 5 heldC 67 W2 (w.heap.size + 2) (.slice d2 M.held.length f2) M.held ∧ OwnR 6 lastC 71 W2 (w.heap.size + 2) (.slice d3 M.last.length f3) M.last) := Lib.hid (by
          have hq : w.heap.size + 2 ≤ W1.heap.size := by have h1 := HZ1.out; have h2 := HSW4.out; omega
          exact ⟨owns_below hb2 (oh.lower hq), owns_below hb2 (ol.lower hq)⟩)
        have HN2 : Hid (OwnI W2 (w.heap.size + 2) (.slice a1 cn.length b1) cn) := Lib.hid (owns_below hb12 HN1.out)
        have HS1 := Lib.hid hs1
        have HS2 := Lib.hid hs2
        have hth := there_row HX2.out 3 4 (by simp)
        obtain ⟨W3, hW3⟩ : ∃ q, W2.setCells w4.heap.size 3 (lArr M (.slice d2 M.held.length f2) (.slice d3 M.last.length f3)).toList = q := ⟨_, rfl⟩
        have HX3 : Hid (W3.heap[w4.heap.size]? = some (.cells (sArr (⟨i, tp, cn, M⟩ : Sho) (.slice a1 cn.length b1) (.slice d2 M.held.length f2) (.slice d3 M.last.length f3)) 29 (0, 0))) := Lib.hid (by rw [← hW3]; exact led_put HX2.out M _ _)
        have HSWW := HSW4.out
        have HA3 : Hid (W3.heap[w.heap.size]? = some (.cells (hArr h (.slice g1 h.shot.nodes.length q1) (.slice g2 h.shot.led.held.length q2) (.slice g3 h.shot.led.last.length q3) (.slice (some ⟨b, off, none⟩) h.log.length q4)) 32 (0, 0))) := Lib.hid (by rw [← hW3]; exact (setCells_other _ _ _ _ (by omega)).trans HA2.out)
        have HC3 : Hid (W3.heap[w.heap.size + 1]? = some (.cells zSA 29 (0, 0))) := Lib.hid (by rw [← hW3]; exact (setCells_other _ _ _ _ (by omega)).trans HC2.out)
        have HB3 : Hid (Below w.heap.size w W3) := Lib.hid (by rw [← hW3]; exact HB2.out.trans (setCells_below _ (by omega) _ _ _))
        have HO3 : Hid (OwnR 5 heldC 67 W3 (w.heap.size + 2) (.slice d2 M.held.length f2) M.held ∧ OwnR 6 lastC 71 W3 (w.heap.size + 2) (.slice d3 M.last.length f3) M.last) := Lib.hid (by rw [← hW3]; exact ⟨own_cellsT HO2.out.1 HX2.out (by decide), own_cellsT HO2.out.2 HX2.out (by decide)⟩)
        have HN3 : Hid (OwnI W3 (w.heap.size + 2) (.slice a1 cn.length b1) cn) := Lib.hid (by rw [← hW3]; exact own_cellsT HN2.out HX2.out (by decide))
        have HZ3 : Hid (w4.heap.size < W3.heap.size) := Lib.hid (lt_of_row HX3.out)
        clear oh ol hb hb2 hb12 hR2 hA2 hz2 hs1 hs2 HSWW
        go_wp2_with (first
          | (with_reducible refine wpList_store_row rfl 27 (.tmp 10) (.tmp 74) rfl wB.heap.size (lArr M (.slice d2 M.held.length f2) (.slice d3 M.last.length f3)) rfl rfl 27 _ HS1.out (by kernel_rfl) rfl (lArr_one M d2 d3 _ _ _ _) ?_)
          | (with_reducible refine wpList_store_row rfl 69 (.tmp 11) (.tmp 75) rfl (wB.heap.size + 1) (aA an) rfl rfl 69 _ HS2.out (by kernel_rfl) rfl (by simp [Value.oneCell']) ?_; rw [hW2]; clear hW2)
          | (with_reducible refine wpList_load_row rfl 27 (.tmp 10) rfl wB.heap.size rfl 27 (lArr M (.slice d2 M.held.length f2) (.slice d3 M.last.length f3)) (0, 0) _ HR2.out Try.underlying27 rfl (by kernel_rfl) ?_)
          | (refine wpList_store_mid rfl 27 (.tmp 80) (.tmp 79) rfl w4.heap.size 3 (lArr M (.slice d2 M.held.length f2) (.slice d3 M.last.length f3)) rfl rfl hth (by kernel_rfl) (lArr_one M d2 d3 _ _ _ _) ?_; rw [hW3]; clear hW3 hth))
        go_roundw
        case rel => exact ⟨k + 1, by omega, by go_num, M, d2, f2, d3, f3, HMM, HX3, HO3, HN3, HA3, HC3, HB3, HZ3⟩
        case measure => simp [intOf]; omega
      · have hlz : i < h.shot.index + (k : Int) + 1 := by have := HKI.out; omega
        have HLM : Hid (atL h (min (k + 1) KK) = L) := Lib.hid (by rw [show min (k + 1) KK = min k KK by omega]; exact HL.out)
        go_wp2_with (first
          | (with_reducible refine wpList_load_mid rfl 36 (.tmp 55) rfl b (off + k * 9) rfl (entC (x, .slice ax x.cmd.nodes.length cx)) _ hrg Try.underlying36 rfl (by kernel_rfl) ?_)
          | (with_reducible refine wpList_store_row rfl 36 (.tmp 8) (.tmp 56) rfl wr.heap.size (entC (x, .slice ax x.cmd.nodes.length cx)).toArray rfl rfl 36 _ hsE (by kernel_rfl) rfl (entA_one _ _ _ _) ?_; rw [hW1]; clear hW1 hsE))
        go_roundw
        case rel => exact ⟨k + 1, by omega, by go_num, L, a2, b2, a3, b3, HLM, HX1, HO1, HN1, HA1, HC1, HB1, HZ1⟩
        case measure => simp [intOf]; omega
    · obtain rfl : k = h.log.length := by omega
      have HEQ : (⟨i, tp, cn, L⟩ : Sho) = atS h i := by
        have q := HL.out
        rw [show min h.log.length KK = KK by have := HKL.out; omega] at q
        unfold atS
        rw [HKK.out, HTP.out, HCN.out, q]
      have FIN : Hid (AtE h i w (.returned (.tuple #[.agg (sArr (⟨i, tp, cn, L⟩ : Sho) (.slice a1 cn.length b1) (.slice a2 L.held.length b2) (.slice a3 L.last.length b3)), .int .i64 0])) (wr.setRow (w.heap.size + 1) (sArr (⟨i, tp, cn, L⟩ : Sho) (.slice a1 cn.length b1) (.slice a2 L.held.length b2) (.slice a3 L.last.length b3)))) := Lib.hid (at_yes HEQ OK.out HIN.out HN.out HO.out.1 HO.out.2 HCW.out HB.out)
      clear HEQ
      go_wp2_with (first | (with_reducible refine wpList_load_row rfl 29 (.tmp 6) rfl w4.heap.size rfl 29 (sArr (⟨i, tp, cn, L⟩ : Sho) (.slice a1 cn.length b1) (.slice a2 L.held.length b2) (.slice a3 L.last.length b3)) (0, 0) _ HX.out Try.underlying29 rfl (by kernel_rfl) ?_) | (with_reducible refine wpList_store_row rfl 29 (.tmp 4) (.tmp 82) rfl (w.heap.size + 1) (sArr (⟨i, tp, cn, L⟩ : Sho) (.slice a1 cn.length b1) (.slice a2 L.held.length b2) (.slice a3 L.last.length b3)) rfl rfl 29 _ HC.out (by kernel_rfl) rfl (Sh.sArr_one _ _ _ _ _ _ _ _ _ _) ?_))
      exact bodyPost_ret (v := .tuple #[.agg (sArr (⟨i, tp, cn, L⟩ : Sho) (.slice a1 cn.length b1) (.slice a2 L.held.length b2) (.slice a3 L.last.length b3)), .int .i64 0]) (results_ct rfl _ _ (w.heap.size + 1) 29 _ (0, 0) _ rfl (setRow_heap _ _ _ _ _ _ HC.out) Try.underlying29 rfl (by kernel_rfl) rfl) rfl FIN.out
end At
end Go.Proofs.Ytgadbghlcejkfaa
