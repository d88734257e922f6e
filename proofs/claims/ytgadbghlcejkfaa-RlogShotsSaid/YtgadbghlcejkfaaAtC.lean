/- Package rlog's At. No condition but the bounds of what may last. -/
import Derived.Test.YtgadbghlcejkfaaAtA
import Derived.Deep.RegionHeld3
import Derived.Deep.MidRow
namespace Go.Proofs.Ytgadbghlcejkfaa
open Go.ChangeShapes Go.WideShapes Go.ChangeAt Go.RowKit Go.Deep
set_option linter.unusedVariables false
set_option maxRecDepth 100000
namespace At
open Hd Rl Ld La Rc
set_option maxHeartbeats 3000000 in
theorem atE_any (h : Har) (v : Value) (i : Int) (w : World) (hh : IsHard w v h) (hft : IsHard.fits h) (hi0 : 0 ≤ i) (hi1 : i ≤ 18446744073709551615) : Calls Try.prog 32 #[v, .int .u64 i] w (AtE h i w) := by
  obtain ⟨vn, vh, vl, vg, rfl, hn, hhe, hl, hg, -⟩ := id hh
  obtain ⟨g1, q1, rfl, -⟩ := id hn
  obtain ⟨g2, q2, rfl, -⟩ := id hhe
  obtain ⟨g3, q3, rfl, -⟩ := id hl
  obtain ⟨g4, q4, rfl, -⟩ := IsLog.len hg
  obtain ⟨W0, hW0⟩ : ∃ q, (w.alloc (.cells (hArr h (.slice g1 h.shot.nodes.length q1) (.slice g2 h.shot.led.held.length q2) (.slice g3 h.shot.led.last.length q3) (.slice g4 h.log.length q4)) 32)).alloc (.cells zSA 29) = q := ⟨_, rfl⟩
  have hb0 : Below w.heap.size w W0 := by rw [← hW0]; exact ((Below.refl _ _).alloc (Nat.le_refl _) _).alloc (by simp) _
  have HA0 : Hid (W0.heap[w.heap.size]? = some (.cells (hArr h (.slice g1 h.shot.nodes.length q1) (.slice g2 h.shot.led.held.length q2) (.slice g3 h.shot.led.last.length q3) (.slice g4 h.log.length q4)) 32 (0, 0))) := Lib.hid (by rw [← hW0]; exact heap_alloc2_old _ _ _)
  have HC0 : Hid (W0.heap[w.heap.size + 1]? = some (.cells zSA 29 (0, 0))) := Lib.hid (by rw [← hW0]; exact heap_alloc2_new _ _ _)
  have HS0 : Hid (w.heap.size + 2 ≤ W0.heap.size) := Lib.hid (by rw [← hW0]; simp)
  have HB0 := Lib.hid hb0
  have HHL := Lib.hid (⟨hhe, hl⟩ : SlR 5 heldC w (.slice g2 h.shot.led.held.length q2) h.shot.led.held ∧ SlR 6 lastC w (.slice g3 h.shot.led.last.length q3) h.shot.led.last)
  have HIW := Lib.hid hh
  have HW := Lib.hid (IsHard.harW hh)
  have HEW := Lib.hid (ents_w hh)
  have HFT := Lib.hid hft
  have HI0 := Lib.hid hi0
  have HI1 := Lib.hid hi1
  have HIH0 := Lib.hid (hh.below hb0 (Nat.le_refl _))
  clear hh hft hi0 hi1 hn hhe hl hg hb0
  go_enter Try.func32, Try.ntmps32
  go_wp2_with (first | (with_reducible refine wpList_load_row rfl 32 (.tmp 2) rfl w.heap.size rfl 32 (hArr h (.slice g1 h.shot.nodes.length q1) (.slice g2 h.shot.led.held.length q2) (.slice g3 h.shot.led.last.length q3) (.slice g4 h.log.length q4)) (0, 0) _ HA0.out Try.underlying32 rfl (by kernel_rfl) ?_) | fail)
  refine (valid_any h _ _ HIH0.out).mono ?_
  rintro e w1 ⟨t1, rfl, ht1, hb⟩
  have HA1 := Lib.hid ((hb.block _ (lt_of_row HA0.out)).trans HA0.out)
  have HC1 := Lib.hid ((hb.block _ (lt_of_row HC0.out)).trans HC0.out)
  have HB1 := Lib.hid (HB0.out.trans (hb.mono HB0.out.size))
  have HS1 := Lib.hid (Nat.le_trans HS0.out hb.size)
  have HIH1 := Lib.hid (HIH0.out.below hb (Nat.le_refl _))
  clear hb
  cases t1
  · have FIN : Hid (AtE h i w (.returned (.tuple #[.agg zSA, .int .i64 130])) (w1.setRow (w.heap.size + 1) zSA)) := Lib.hid (at_no (.inl ⟨rfl, fun q => by have := ht1.2 q; cases this⟩) (by omega) HB1.out)
    clear ht1
    go_wp2_with (first | (with_reducible refine wpList_store_row rfl 29 (.tmp 4) (.tmp 15) rfl (w.heap.size + 1) zSA rfl rfl 29 _ HC1.out (by kernel_rfl) rfl zSA_one ?_) | fail)
    exact bodyPost_ret (v := .tuple #[.agg zSA, .int .i64 130]) (results_ct rfl _ _ (w.heap.size + 1) 29 _ (0, 0) _ rfl (setRow_heap _ _ _ _ _ _ HC1.out) Try.underlying29 rfl (by kernel_rfl) rfl) rfl FIN.out
  have OK := Lib.hid (ht1.1 rfl)
  clear ht1
  have HF : Hid (Fit h) := Lib.hid (fit_of HW.out.1 OK.out)
  go_wp2_with (first | (with_reducible refine wpList_load_row rfl 32 (.tmp 2) rfl w.heap.size rfl 32 (hArr h (.slice g1 h.shot.nodes.length q1) (.slice g2 h.shot.led.held.length q2) (.slice g3 h.shot.led.last.length q3) (.slice g4 h.log.length q4)) (0, 0) _ HA1.out Try.underlying32 rfl (by kernel_rfl) ?_) | fail)
  refine (termAt_any h _ i _ HIH1.out HF.out HI0.out HI1.out).mono ?_
  rintro e w2 ⟨rfl, hb⟩
  have HA2 := Lib.hid ((hb.block _ (lt_of_row HA1.out)).trans HA1.out)
  have HC2 := Lib.hid ((hb.block _ (lt_of_row HC1.out)).trans HC1.out)
  have HB2 := Lib.hid (HB1.out.trans (hb.mono HB1.out.size))
  have HS2 := Lib.hid (Nat.le_trans HS1.out hb.size)
  have HIH2 := Lib.hid (HIH1.out.below hb (Nat.le_refl _))
  clear hb
  cases hin : (termP h i).2
  · have FIN : Hid (AtE h i w (.returned (.tuple #[.agg zSA, .int .i64 4])) (w2.setRow (w.heap.size + 1) zSA)) := Lib.hid (at_no (.inr ⟨rfl, OK.out, hin⟩) (by omega) HB2.out)
    clear hin
    go_wp2_with (first | (with_reducible refine wpList_store_row rfl 29 (.tmp 4) (.tmp 24) rfl (w.heap.size + 1) zSA rfl rfl 29 _ HC2.out (by kernel_rfl) rfl zSA_one ?_) | fail)
    exact bodyPost_ret (v := .tuple #[.agg zSA, .int .i64 4]) (results_ct rfl _ _ (w.heap.size + 1) 29 _ (0, 0) _ rfl (setRow_heap _ _ _ _ _ _ HC2.out) Try.underlying29 rfl (by kernel_rfl) rfl) rfl FIN.out
  have HIN := Lib.hid hin
  have hrange := term_in.1 hin
  unfold lastI at hrange
  have hfit := HF.out
  have hfit1 := hfit.1
  have hfit2 := hfit.2
  clear hin hfit
  obtain ⟨KK, hKK⟩ : ∃ K : Nat, i = h.shot.index + K := ⟨(i - h.shot.index).toNat, by omega⟩
  have hKl : KK ≤ h.log.length := by omega
  have HKL := Lib.hid hKl
  have HKK : Hid ((i - h.shot.index).toNat = KK) := Lib.hid (by omega)
  have HKI := Lib.hid hKK
  clear hKK hrange
  obtain ⟨tp, htp⟩ : ∃ t, (termP h i).1 = t := ⟨_, rfl⟩
  rw [htp]
  have HTP := Lib.hid htp
  clear htp
  go_wp2_with (first | (with_reducible refine wpList_load_row rfl 32 (.tmp 2) rfl w.heap.size rfl 32 (hArr h (.slice g1 h.shot.nodes.length q1) (.slice g2 h.shot.led.held.length q2) (.slice g3 h.shot.led.last.length q3) (.slice g4 h.log.length q4)) (0, 0) _ HA2.out Try.underlying32 rfl (by kernel_rfl) ?_) | fail)
  refine (conf_any h _ i _ HIH2.out HFT.out HI0.out HI1.out).mono ?_
  rintro e w3 ⟨vc, rfl, ownc, hb⟩
  have HA3 := Lib.hid ((hb.block _ (lt_of_row HA2.out)).trans HA2.out)
  have HC3 := Lib.hid ((hb.block _ (lt_of_row HC2.out)).trans HC2.out)
  have HB3 := Lib.hid (HB2.out.trans (hb.mono HB2.out.size))
  have HS3 := Lib.hid (Nat.le_trans HS2.out hb.size)
  have hcw : ∀ n ∈ (confV h i).2, (Lit.int .i64 n).wf = true := conf_wf OK.out HW.out HEW.out
  obtain ⟨cn, hcn⟩ : ∃ c, (confV h i).2 = c := ⟨_, rfl⟩
  rw [hcn] at hcw ownc
  have HCN := Lib.hid hcn
  clear hcn
  generalize (confV h i).1 = ci
  have HCW := Lib.hid hcw
  obtain ⟨a1, b1, rfl, -⟩ := ownc.sl hcw
  have HN3 : Hid (OwnI w3 (w.heap.size + 2) (.slice a1 cn.length b1) cn) := Lib.hid (OwnK.lower ownc HS2.out)
  have HIL3 : Hid (IsLed w3 (.agg (lArr h.shot.led (.slice g2 h.shot.led.held.length q2) (.slice g3 h.shot.led.last.length q3))) h.shot.led) := Lib.hid ⟨_, _, rfl, HHL.out.1.below HB3.out (Nat.le_refl _), HHL.out.2.below HB3.out (Nat.le_refl _), HW.out.1.2.2.2.2.2⟩
  have hrg3 := led_range HA3.out
  have d3 := (cell_of_row w3 _ 3 _ _ _ HA3.out).trans rfl
  clear ownc hb hcw
  go_wp2_with (first | (with_reducible refine wpList_load_mid rfl 27 (.tmp 32) rfl w.heap.size 6 rfl (lArr h.shot.led (.slice g2 h.shot.led.held.length q2) (.slice g3 h.shot.led.last.length q3)).toList _ hrg3 Try.underlying27 rfl (by kernel_rfl) ?_) | fail)
  refine (Vc.led_own h.shot.led _ _ HIL3.out HFT.out.1.2).mono ?_
  rintro e w4 ⟨vh4, vl4, rfl, oh, ol, hlw, hb⟩
  have HA4 := Lib.hid ((hb.block _ (lt_of_row HA3.out)).trans HA3.out)
  have HC4 := Lib.hid ((hb.block _ (lt_of_row HC3.out)).trans HC3.out)
  have HB4 := Lib.hid (HB3.out.trans (hb.mono HB3.out.size))
  have HS4 := Lib.hid (Nat.le_trans HS3.out hb.size)
  obtain ⟨a2, b2, rfl, -⟩ := oh.sl heldC_len
  obtain ⟨a3, b3, rfl, -⟩ := ol.sl lastC_len
  have hst : (w4.alloc (.cells zArr 27)).heap[w4.heap.size]? = some (.cells zArr 27 (0, 0)) := heap_alloc_new _ _
  obtain ⟨W5, hW5⟩ : ∃ q, (w4.alloc (.cells zArr 27)).setRow w4.heap.size (lArr h.shot.led (.slice a2 h.shot.led.held.length b2) (.slice a3 h.shot.led.last.length b3)) = q := ⟨_, rfl⟩
  have hbx : Below w4.heap.size w4 W5 := by rw [← hW5]; exact Ld.below_row ((Below.refl _ _).alloc (Nat.le_refl _) _) (Nat.le_refl _) _
  have HX5 : Hid (W5.heap[w4.heap.size]? = some (.cells (lArr h.shot.led (.slice a2 h.shot.led.held.length b2) (.slice a3 h.shot.led.last.length b3)) 27 (0, 0))) := Lib.hid (by rw [← hW5]; exact setRow_heap _ _ _ _ _ _ hst)
  have HO5 : Hid (OwnR 5 heldC 67 W5 (w.heap.size + 2) (.slice a2 h.shot.led.held.length b2) h.shot.led.held ∧ OwnR 6 lastC 71 W5 (w.heap.size + 2) (.slice a3 h.shot.led.last.length b3) h.shot.led.last) := Lib.hid ⟨owns_below hbx (oh.lower HS3.out), owns_below hbx (ol.lower HS3.out)⟩
  have HN5 : Hid (OwnI W5 (w.heap.size + 2) (.slice a1 cn.length b1) cn) := Lib.hid (owns_below hbx (owns_below hb HN3.out))
  have HZ5 : Hid (w4.heap.size < W5.heap.size) := Lib.hid (lt_of_row HX5.out)
  have HSW4 : Hid (w.heap.size + 2 ≤ w4.heap.size) := HS4
  have HA5 := Lib.hid ((hbx.block _ (lt_of_row HA4.out)).trans HA4.out)
  have HC5 := Lib.hid ((hbx.block _ (lt_of_row HC4.out)).trans HC4.out)
  have HB5 := Lib.hid (HB4.out.trans (hbx.mono HB4.out.size))
  have HS5 := Lib.hid (Nat.le_trans HS4.out hbx.size)
  have d5 := (cell_of_row W5 _ 3 _ _ _ HA5.out).trans rfl
  have hi5 : h.shot.index + 1 ≤ 18446744073709551615 := by omega
  clear oh ol hlw hb hbx d3 hrg3
  go_wp2_with (first | (with_reducible refine wpList_store_row rfl 27 (.tmp 10) (.tmp 34) rfl w4.heap.size (lArr h.shot.led (.slice a2 h.shot.led.held.length b2) (.slice a3 h.shot.led.last.length b3)) rfl rfl 27 _ hst (by kernel_rfl) rfl (lArr_one _ _ _ _ _ _ _) ?_; rw [hW5]; clear hW5 hst) | fail)
  go_loopw [11] (fun x wr => ∃ k : Nat, k ≤ KK ∧ x = .int .u64 (h.shot.index + 1 + k) ∧ ∃ (L : Led) (a2 : Option Addr) (b2 : Nat) (a3 : Option Addr) (b3 : Nat), Hid (atL h k = L) ∧ Hid (wr.heap[w4.heap.size]? = some (.cells (lArr L (.slice a2 L.held.length b2) (.slice a3 L.last.length b3)) 27 (0, 0))) ∧ Hid (OwnR 5 heldC 67 wr (w.heap.size + 2) (.slice a2 L.held.length b2) L.held ∧ OwnR 6 lastC 71 wr (w.heap.size + 2) (.slice a3 L.last.length b3) L.last) ∧ Hid (OwnI wr (w.heap.size + 2) (.slice a1 cn.length b1) cn) ∧ Hid (wr.heap[w.heap.size]? = some (.cells (hArr h (.slice g1 h.shot.nodes.length q1) (.slice g2 h.shot.led.held.length q2) (.slice g3 h.shot.led.last.length q3) (.slice g4 h.log.length q4)) 32 (0, 0))) ∧ Hid (wr.heap[w.heap.size + 1]? = some (.cells zSA 29 (0, 0))) ∧ Hid (Below w.heap.size w wr) ∧ Hid (w4.heap.size < wr.heap.size)) (fun x _ => KK + 1 - (intOf x - h.shot.index - 1).toNat)
  case atStart => exact ⟨0, Nat.zero_le _, by simp, h.shot.led, a2, b2, a3, b3, Lib.hid rfl, HX5, HO5, HN5, HA5, HC5, HB5, HZ5⟩
  case round =>
    clear HX5 HO5 HN5 HA5 HC5 HB5 HZ5 d5
    obtain ⟨k, hk, rfl, L, a2, b2, a3, b3, HL, HX, HO, HN, HA, HC, HB, HZ⟩ := hrel
    by_cases hlt : k < KK
    · have hkz : h.shot.index + 1 + (k : Int) ≤ i := by have := HKI.out; omega
      have HID : Hid (h.shot.index + 1 + (k : Int) = h.shot.index + (k : Int) + 1) := Lib.hid (by omega)
      have HLW : Hid L.wf := Lib.hid (by rw [← HL.out]; exact (at_ok OK.out HF.out HW.out HEW.out k (by omega)).2)
      have HBd := Lib.hid HB.out.drew
      have HOd : Hid (OwnR 5 heldC 67 wr.drew (w.heap.size + 2) (.slice a2 L.held.length b2) L.held ∧ OwnR 6 lastC 71 wr.drew (w.heap.size + 2) (.slice a3 L.last.length b3) L.last) := Lib.hid HO.out
      have HAd : Hid (wr.drew.heap[w.heap.size]? = some (.cells (hArr h (.slice g1 h.shot.nodes.length q1) (.slice g2 h.shot.led.held.length q2) (.slice g3 h.shot.led.last.length q3) (.slice g4 h.log.length q4)) 32 (0, 0))) := Lib.hid HA.out
      have HXd : Hid (wr.drew.heap[w4.heap.size]? = some (.cells (lArr L (.slice a2 L.held.length b2) (.slice a3 L.last.length b3)) 27 (0, 0))) := Lib.hid HX.out
      have HCd : Hid (wr.drew.heap[w.heap.size + 1]? = some (.cells zSA 29 (0, 0))) := Lib.hid HC.out
      have HSd : Hid (w.heap.size + 2 ≤ wr.drew.heap.size) := Lib.hid (by have h1 := HZ.out; have h2 := HSW4.out; show w.heap.size + 2 ≤ wr.heap.size; omega)
      have HIHd : Hid (IsHard wr.drew (.agg (hArr h (.slice g1 h.shot.nodes.length q1) (.slice g2 h.shot.led.held.length q2) (.slice g3 h.shot.led.last.length q3) (.slice g4 h.log.length q4))) h) := Lib.hid (HIW.out.below HBd.out (Nat.le_refl _))
      have HRX := Lib.hid (row_range HXd.out)
      go_wp2_with fail
      refine wp_region_held_drew (S := fun w' => w'.rangeAt w.heap.size 0 (hArr h (.slice g1 h.shot.nodes.length q1) (.slice g2 h.shot.led.held.length q2) (.slice g3 h.shot.led.last.length q3) (.slice g4 h.log.length q4)).toList) (by kernel_rfl) (row_range HAd.out) (fun hHeld => ?_)
      refine wpAnyH_take (i := 1) (v := .int .u64 (h.shot.index + 1 + (k : Int))) rfl (by kernel_rfl) (by kernel_rfl) (by kernel_rfl) (fun _ _ _ h => h) (Or.inl ⟨by kernel_rfl, ?_⟩) (by assumption) ?_
      · intro w hSw
        clear hSw hHeld
        go_simp
        try first | with_reducible rfl | kernel_rfl
      simp only [Act.put, List.getElem_toArray, List.getElem_cons_succ, List.getElem_cons_zero, List.setIfInBounds_toArray, List.set_cons_succ, List.set_cons_zero]
      refine wpAnyH_take (i := 2) (v := .agg (hArr h (.slice g1 h.shot.nodes.length q1) (.slice g2 h.shot.led.held.length q2) (.slice g3 h.shot.led.last.length q3) (.slice g4 h.log.length q4))) rfl (by kernel_rfl) (by kernel_rfl) (by kernel_rfl) (fun _ _ _ h => h) (yieldsIf_load_mid (by kernel_rfl) _ _ rfl w.heap.size 0 (by kernel_rfl) (hArr h (.slice g1 h.shot.nodes.length q1) (.slice g2 h.shot.led.held.length q2) (.slice g3 h.shot.led.last.length q3) (.slice g4 h.log.length q4)).toList _ (fun w h => h) Try.underlying32 rfl (by kernel_rfl)) (by assumption) ?_
      simp only [Act.put, List.getElem_toArray, List.getElem_cons_succ, List.getElem_cons_zero, List.setIfInBounds_toArray, List.set_cons_succ, List.set_cons_zero]
      refine wpAnyH_take (i := 3) (v := .int .u64 (h.shot.index + 1 + (k : Int))) rfl (by kernel_rfl) (by kernel_rfl) (by kernel_rfl) (fun _ _ _ h => h) (Or.inl ⟨by kernel_rfl, ?_⟩) (by assumption) ?_
      · intro w hSw
        clear hSw hHeld
        go_simp
        try first | with_reducible rfl | kernel_rfl
      simp only [Act.put, List.getElem_toArray, List.getElem_cons_succ, List.getElem_cons_zero, List.setIfInBounds_toArray, List.set_cons_succ, List.set_cons_zero]
      refine wpAnyH_ready (rs := [0, 4]) (by kernel_rfl) (by simp) ?_
      refine AllReadyH.cons rfl (fun K hK => ?_) (AllReadyH.cons rfl (fun K hK => ?_) AllReadyH.nil)
      · rw [if_pos (by kernel_rfl)]
        refine wp_load_mid 27 (.tmp 10) rfl w4.heap.size 0 (by kernel_rfl) (lArr L (.slice a2 L.held.length b2) (.slice a3 L.last.length b3)).toList _ HRX.out Try.underlying27 rfl (by kernel_rfl) ?_
        refine hK.out _ _ (row_range HAd.out) (fun hHeld => ?_)
        clear hK K
        refine wpAnyH_ready (rs := [4]) (by kernel_rfl) (by simp) ?_
        refine AllReadyH.cons rfl (fun K hK => ?_) AllReadyH.nil
        go_simp
        refine (Rl.at_any h _ (h.shot.index + 1 + (k : Int)) _ HIHd.out HF.out (by omega) (by unfold lastI; omega)).mono ?_
        rintro e wA ⟨⟨x', vn'⟩, rfl, hget, hsl, hxw, hb⟩
        rw [show (h.shot.index + 1 + (k : Int) - h.shot.index).toNat - 1 = k by omega] at hget
        have HGET : Hid (h.log[k]? = some x') := Lib.hid hget
        have HXW : Hid x'.wf := Lib.hid hxw
        have HSX : Hid (Sl .i64 wA vn' x'.cmd.nodes) := Lib.hid hsl
        have HBA := Lib.hid hb
        have HRA := Lib.hid (row_range ((hb.block _ (lt_of_row HAd.out)).trans HAd.out))
        have HRX := Lib.hid (row_range ((hb.block _ (lt_of_row HXd.out)).trans HXd.out))
        clear hget hsl hxw hb
        refine hK.out _ _ HRA.out (fun hHeld => ?_)
        clear hK K
        refine wpAnyH_take (i := 5) (v := .agg (Cm.cArr x'.cmd vn')) rfl (by kernel_rfl) (by kernel_rfl) (by kernel_rfl) (fun _ _ _ h => h) (Or.inl ⟨by kernel_rfl, ?_⟩) (by assumption) ?_
        · intro w hSw
          clear hSw hHeld
          go_simp
          try first | with_reducible rfl | kernel_rfl
        simp only [Act.put, List.getElem_toArray, List.getElem_cons_succ, List.getElem_cons_zero, List.setIfInBounds_toArray, List.set_cons_succ, List.set_cons_zero]
        refine wpAnyH_ready (rs := [6]) (by kernel_rfl) (by simp) ?_
        refine AllReadyH.cons rfl (fun K hK => ?_) AllReadyH.nil
        go_simp
        refine (La.apply_any L _ _ (h.shot.index + 1 + (k : Int)) x'.cmd _ (⟨_, _, rfl, (HOd.out.1.below HBA.out (Nat.le_refl _)).sl heldC_len, (HOd.out.2.below HBA.out (Nat.le_refl _)).sl lastC_len, HLW.out⟩ : IsLed wA (.agg (lArr L (.slice a2 L.held.length b2) (.slice a3 L.last.length b3))) L) ⟨_, rfl, HSX.out, HXW.out.2⟩ (by rw [HID.out]; exact idx_wf HF.out (by omega))).mono ?_
        rintro e wB ⟨vhB, vlB, rfl, oh, ol, -, hmw, hb⟩
        have hE := at_err OK.out HF.out HW.out HEW.out HGET.out
        rw [HL.out, ← HID.out] at hE
        rw [hE.1]
        obtain ⟨M, hM⟩ : ∃ M, applyL L (h.shot.index + 1 + (k : Int)) x'.cmd = M := ⟨_, rfl⟩
        rw [hM] at oh ol ⊢
        have HMM : Hid (atL h (k + 1) = M) := Lib.hid (hE.2.symm.trans hM)
        generalize answerL L (h.shot.index + 1 + (k : Int)) x'.cmd = an
        clear hE hmw hM
        obtain ⟨d2, f2, rfl, -⟩ := oh.sl heldC_len
        obtain ⟨d3, f3, rfl, -⟩ := ol.sl lastC_len
        have hbb := HBA.out.trans (hb.mono HBA.out.size)
        have HBB := Lib.hid hbb
        have HAB := Lib.hid ((hbb.block _ (lt_of_row HAd.out)).trans HAd.out)
        have HXB := Lib.hid ((hbb.block _ (lt_of_row HXd.out)).trans HXd.out)
        have HCB := Lib.hid ((hbb.block _ (lt_of_row HCd.out)).trans HCd.out)
        have HOB : Hid (OwnR 5 heldC 67 wB (w.heap.size + 2) (.slice d2 M.held.length f2) M.held ∧ OwnR 6 lastC 71 wB (w.heap.size + 2) (.slice d3 M.last.length f3) M.last) := Lib.hid ⟨oh.lower (Nat.le_trans HSd.out HBA.out.size), ol.lower (Nat.le_trans HSd.out HBA.out.size)⟩
        have HNB := Lib.hid (owns_below hbb HN.out)
        clear oh ol hb hbb
        refine hK.out _ _ (row_range HAB.out) (fun hHeld => ?_)
        clear hK K
        refine wpAnyH_take (i := 7) (v := .tuple #[.agg (lArr M (.slice d2 M.held.length f2) (.slice d3 M.last.length f3)), .agg #[.int .i64 an.code, .int .i64 an.token, .int .u64 an.serial], .int .i64 0]) rfl (by kernel_rfl) (by kernel_rfl) (by kernel_rfl) (fun _ _ _ h => h) (Or.inl ⟨by kernel_rfl, ?_⟩) (by assumption) ?_
        · intro w hSw
          clear hSw hHeld
          go_simp
          try first | with_reducible rfl | kernel_rfl
        simp only [Act.put, List.getElem_toArray, List.getElem_cons_succ, List.getElem_cons_zero, List.setIfInBounds_toArray, List.set_cons_succ, List.set_cons_zero]
        refine wpAnyH_take (i := 8) (v := .agg (lArr M (.slice d2 M.held.length f2) (.slice d3 M.last.length f3))) rfl (by kernel_rfl) (by kernel_rfl) (by kernel_rfl) (fun _ _ _ h => h) (Or.inl ⟨by kernel_rfl, ?_⟩) (by assumption) ?_
        · intro w hSw
          clear hSw hHeld
          go_simp
          try first | with_reducible rfl | kernel_rfl
        simp only [Act.put, List.getElem_toArray, List.getElem_cons_succ, List.getElem_cons_zero, List.setIfInBounds_toArray, List.set_cons_succ, List.set_cons_zero]
        refine wpAnyH_take (i := 9) (v := .agg #[.int .i64 an.code, .int .i64 an.token, .int .u64 an.serial]) rfl (by kernel_rfl) (by kernel_rfl) (by kernel_rfl) (fun _ _ _ h => h) (Or.inl ⟨by kernel_rfl, ?_⟩) (by assumption) ?_
        · intro w hSw
          clear hSw hHeld
          go_simp
          try first | with_reducible rfl | kernel_rfl
        simp only [Act.put, List.getElem_toArray, List.getElem_cons_succ, List.getElem_cons_zero, List.setIfInBounds_toArray, List.set_cons_succ, List.set_cons_zero]
        refine wpAnyH_take (i := 10) (v := .int .i64 0) rfl (by kernel_rfl) (by kernel_rfl) (by kernel_rfl) (fun _ _ _ h => h) (Or.inl ⟨by kernel_rfl, ?_⟩) (by assumption) ?_
        · intro w hSw
          clear hSw hHeld
          go_simp
          try first | with_reducible rfl | kernel_rfl
        simp only [Act.put, List.getElem_toArray, List.getElem_cons_succ, List.getElem_cons_zero, List.setIfInBounds_toArray, List.set_cons_succ, List.set_cons_zero]
        refine wpAnyH_ready (rs := [11]) (by kernel_rfl) (by simp) ?_
        refine AllReadyH.cons rfl (fun K hK => ?_) AllReadyH.nil
        rw [if_pos (by kernel_rfl)]
        refine wp_store_row 27 (.tmp 10) (.tmp 52) (by kernel_rfl) w4.heap.size (lArr M (.slice d2 M.held.length f2) (.slice d3 M.last.length f3)) (by kernel_rfl) (by kernel_rfl) 27 (lArr L (.slice a2 L.held.length b2) (.slice a3 L.last.length b3)) HXB.out (by kernel_rfl) (by kernel_rfl) (lArr_one M d2 d3 _ _ _ _) ?_
        obtain ⟨WS, hWS⟩ : ∃ q, wB.setRow w4.heap.size (lArr M (.slice d2 M.held.length f2) (.slice d3 M.last.length f3)) = q := ⟨_, rfl⟩
        rw [hWS]
        have HSW := HSW4.out
        have HAS : Hid (WS.heap[w.heap.size]? = some (.cells (hArr h (.slice g1 h.shot.nodes.length q1) (.slice g2 h.shot.led.held.length q2) (.slice g3 h.shot.led.last.length q3) (.slice g4 h.log.length q4)) 32 (0, 0))) := Lib.hid (by rw [← hWS]; exact (setRow_other _ _ _ _ (by omega)).trans HAB.out)
        have HCS : Hid (WS.heap[w.heap.size + 1]? = some (.cells zSA 29 (0, 0))) := Lib.hid (by rw [← hWS]; exact (setRow_other _ _ _ _ (by omega)).trans HCB.out)
        have HXS : Hid (WS.heap[w4.heap.size]? = some (.cells (lArr M (.slice d2 M.held.length f2) (.slice d3 M.last.length f3)) 27 (0, 0))) := Lib.hid (by rw [← hWS]; exact setRow_heap _ _ _ _ _ _ HXB.out)
        have HBS : Hid (Below w.heap.size w WS) := Lib.hid (by rw [← hWS]; exact Ld.below_row (HBd.out.trans (HBB.out.mono HBd.out.size)) (by omega) _)
        have HOS : Hid (OwnR 5 heldC 67 WS (w.heap.size + 2) (.slice d2 M.held.length f2) M.held ∧ OwnR 6 lastC 71 WS (w.heap.size + 2) (.slice d3 M.last.length f3) M.last) := Lib.hid (by rw [← hWS]; exact ⟨own_rowT HOB.out.1 HXB.out (by decide), own_rowT HOB.out.2 HXB.out (by decide)⟩)
        have HNS : Hid (OwnI WS (w.heap.size + 2) (.slice a1 cn.length b1) cn) := Lib.hid (by rw [← hWS]; exact own_rowT HNB.out HXB.out (by decide))
        have HZS : Hid (w4.heap.size < WS.heap.size) := Lib.hid (lt_of_row HXS.out)
        refine hK.out _ _ (row_range HAS.out) (fun hHeld => ?_)
        clear hK K hWS HSW
        refine wpAnyH_done (by kernel_rfl) ?_ _
        clear hHeld
        go_wp2
        go_roundw
        case rel => exact ⟨k + 1, by omega, by go_num, M, d2, f2, d3, f3, HMM, HXS, HOS, HNS, HAS, HCS, HBS, HZS⟩
        case measure => simp [intOf]; omega
      · go_simp
        refine (Rl.at_any h _ (h.shot.index + 1 + (k : Int)) _ HIHd.out HF.out (by omega) (by unfold lastI; omega)).mono ?_
        rintro e wA ⟨⟨x', vn'⟩, rfl, hget, hsl, hxw, hb⟩
        rw [show (h.shot.index + 1 + (k : Int) - h.shot.index).toNat - 1 = k by omega] at hget
        have HGET : Hid (h.log[k]? = some x') := Lib.hid hget
        have HXW : Hid x'.wf := Lib.hid hxw
        have HSX : Hid (Sl .i64 wA vn' x'.cmd.nodes) := Lib.hid hsl
        have HBA := Lib.hid hb
        have HRA := Lib.hid (row_range ((hb.block _ (lt_of_row HAd.out)).trans HAd.out))
        have HRX := Lib.hid (row_range ((hb.block _ (lt_of_row HXd.out)).trans HXd.out))
        clear hget hsl hxw hb
        refine hK.out _ _ HRA.out (fun hHeld => ?_)
        clear hK K
        refine wpAnyH_take (i := 5) (v := .agg (Cm.cArr x'.cmd vn')) rfl (by kernel_rfl) (by kernel_rfl) (by kernel_rfl) (fun _ _ _ h => h) (Or.inl ⟨by kernel_rfl, ?_⟩) (by assumption) ?_
        · intro w hSw
          clear hSw hHeld
          go_simp
          try first | with_reducible rfl | kernel_rfl
        simp only [Act.put, List.getElem_toArray, List.getElem_cons_succ, List.getElem_cons_zero, List.setIfInBounds_toArray, List.set_cons_succ, List.set_cons_zero]
        refine wpAnyH_ready (rs := [0]) (by kernel_rfl) (by simp) ?_
        refine AllReadyH.cons rfl (fun K hK => ?_) AllReadyH.nil
        rw [if_pos (by kernel_rfl)]
        refine wp_load_mid 27 (.tmp 10) rfl w4.heap.size 0 (by kernel_rfl) (lArr L (.slice a2 L.held.length b2) (.slice a3 L.last.length b3)).toList _ HRX.out Try.underlying27 rfl (by kernel_rfl) ?_
        refine hK.out _ _ HRA.out (fun hHeld => ?_)
        clear hK K
        refine wpAnyH_ready (rs := [6]) (by kernel_rfl) (by simp) ?_
        refine AllReadyH.cons rfl (fun K hK => ?_) AllReadyH.nil
        go_simp
        refine (La.apply_any L _ _ (h.shot.index + 1 + (k : Int)) x'.cmd _ (⟨_, _, rfl, (HOd.out.1.below HBA.out (Nat.le_refl _)).sl heldC_len, (HOd.out.2.below HBA.out (Nat.le_refl _)).sl lastC_len, HLW.out⟩ : IsLed wA (.agg (lArr L (.slice a2 L.held.length b2) (.slice a3 L.last.length b3))) L) ⟨_, rfl, HSX.out, HXW.out.2⟩ (by rw [HID.out]; exact idx_wf HF.out (by omega))).mono ?_
        rintro e wB ⟨vhB, vlB, rfl, oh, ol, -, hmw, hb⟩
        have hE := at_err OK.out HF.out HW.out HEW.out HGET.out
        rw [HL.out, ← HID.out] at hE
        rw [hE.1]
        obtain ⟨M, hM⟩ : ∃ M, applyL L (h.shot.index + 1 + (k : Int)) x'.cmd = M := ⟨_, rfl⟩
        rw [hM] at oh ol ⊢
        have HMM : Hid (atL h (k + 1) = M) := Lib.hid (hE.2.symm.trans hM)
        generalize answerL L (h.shot.index + 1 + (k : Int)) x'.cmd = an
        clear hE hmw hM
        obtain ⟨d2, f2, rfl, -⟩ := oh.sl heldC_len
        obtain ⟨d3, f3, rfl, -⟩ := ol.sl lastC_len
        have hbb := HBA.out.trans (hb.mono HBA.out.size)
        have HBB := Lib.hid hbb
        have HAB := Lib.hid ((hbb.block _ (lt_of_row HAd.out)).trans HAd.out)
        have HXB := Lib.hid ((hbb.block _ (lt_of_row HXd.out)).trans HXd.out)
        have HCB := Lib.hid ((hbb.block _ (lt_of_row HCd.out)).trans HCd.out)
        have HOB : Hid (OwnR 5 heldC 67 wB (w.heap.size + 2) (.slice d2 M.held.length f2) M.held ∧ OwnR 6 lastC 71 wB (w.heap.size + 2) (.slice d3 M.last.length f3) M.last) := Lib.hid ⟨oh.lower (Nat.le_trans HSd.out HBA.out.size), ol.lower (Nat.le_trans HSd.out HBA.out.size)⟩
        have HNB := Lib.hid (owns_below hbb HN.out)
        clear oh ol hb hbb
        refine hK.out _ _ (row_range HAB.out) (fun hHeld => ?_)
        clear hK K
        refine wpAnyH_take (i := 7) (v := .tuple #[.agg (lArr M (.slice d2 M.held.length f2) (.slice d3 M.last.length f3)), .agg #[.int .i64 an.code, .int .i64 an.token, .int .u64 an.serial], .int .i64 0]) rfl (by kernel_rfl) (by kernel_rfl) (by kernel_rfl) (fun _ _ _ h => h) (Or.inl ⟨by kernel_rfl, ?_⟩) (by assumption) ?_
        · intro w hSw
          clear hSw hHeld
          go_simp
          try first | with_reducible rfl | kernel_rfl
        simp only [Act.put, List.getElem_toArray, List.getElem_cons_succ, List.getElem_cons_zero, List.setIfInBounds_toArray, List.set_cons_succ, List.set_cons_zero]
        refine wpAnyH_take (i := 8) (v := .agg (lArr M (.slice d2 M.held.length f2) (.slice d3 M.last.length f3))) rfl (by kernel_rfl) (by kernel_rfl) (by kernel_rfl) (fun _ _ _ h => h) (Or.inl ⟨by kernel_rfl, ?_⟩) (by assumption) ?_
        · intro w hSw
          clear hSw hHeld
          go_simp
          try first | with_reducible rfl | kernel_rfl
        simp only [Act.put, List.getElem_toArray, List.getElem_cons_succ, List.getElem_cons_zero, List.setIfInBounds_toArray, List.set_cons_succ, List.set_cons_zero]
        refine wpAnyH_take (i := 9) (v := .agg #[.int .i64 an.code, .int .i64 an.token, .int .u64 an.serial]) rfl (by kernel_rfl) (by kernel_rfl) (by kernel_rfl) (fun _ _ _ h => h) (Or.inl ⟨by kernel_rfl, ?_⟩) (by assumption) ?_
        · intro w hSw
          clear hSw hHeld
          go_simp
          try first | with_reducible rfl | kernel_rfl
        simp only [Act.put, List.getElem_toArray, List.getElem_cons_succ, List.getElem_cons_zero, List.setIfInBounds_toArray, List.set_cons_succ, List.set_cons_zero]
        refine wpAnyH_take (i := 10) (v := .int .i64 0) rfl (by kernel_rfl) (by kernel_rfl) (by kernel_rfl) (fun _ _ _ h => h) (Or.inl ⟨by kernel_rfl, ?_⟩) (by assumption) ?_
        · intro w hSw
          clear hSw hHeld
          go_simp
          try first | with_reducible rfl | kernel_rfl
        simp only [Act.put, List.getElem_toArray, List.getElem_cons_succ, List.getElem_cons_zero, List.setIfInBounds_toArray, List.set_cons_succ, List.set_cons_zero]
        refine wpAnyH_ready (rs := [11]) (by kernel_rfl) (by simp) ?_
        refine AllReadyH.cons rfl (fun K hK => ?_) AllReadyH.nil
        rw [if_pos (by kernel_rfl)]
        refine wp_store_row 27 (.tmp 10) (.tmp 52) (by kernel_rfl) w4.heap.size (lArr M (.slice d2 M.held.length f2) (.slice d3 M.last.length f3)) (by kernel_rfl) (by kernel_rfl) 27 (lArr L (.slice a2 L.held.length b2) (.slice a3 L.last.length b3)) HXB.out (by kernel_rfl) (by kernel_rfl) (lArr_one M d2 d3 _ _ _ _) ?_
        obtain ⟨WS, hWS⟩ : ∃ q, wB.setRow w4.heap.size (lArr M (.slice d2 M.held.length f2) (.slice d3 M.last.length f3)) = q := ⟨_, rfl⟩
        rw [hWS]
        have HSW := HSW4.out
        have HAS : Hid (WS.heap[w.heap.size]? = some (.cells (hArr h (.slice g1 h.shot.nodes.length q1) (.slice g2 h.shot.led.held.length q2) (.slice g3 h.shot.led.last.length q3) (.slice g4 h.log.length q4)) 32 (0, 0))) := Lib.hid (by rw [← hWS]; exact (setRow_other _ _ _ _ (by omega)).trans HAB.out)
        have HCS : Hid (WS.heap[w.heap.size + 1]? = some (.cells zSA 29 (0, 0))) := Lib.hid (by rw [← hWS]; exact (setRow_other _ _ _ _ (by omega)).trans HCB.out)
        have HXS : Hid (WS.heap[w4.heap.size]? = some (.cells (lArr M (.slice d2 M.held.length f2) (.slice d3 M.last.length f3)) 27 (0, 0))) := Lib.hid (by rw [← hWS]; exact setRow_heap _ _ _ _ _ _ HXB.out)
        have HBS : Hid (Below w.heap.size w WS) := Lib.hid (by rw [← hWS]; exact Ld.below_row (HBd.out.trans (HBB.out.mono HBd.out.size)) (by omega) _)
        have HOS : Hid (OwnR 5 heldC 67 WS (w.heap.size + 2) (.slice d2 M.held.length f2) M.held ∧ OwnR 6 lastC 71 WS (w.heap.size + 2) (.slice d3 M.last.length f3) M.last) := Lib.hid (by rw [← hWS]; exact ⟨own_rowT HOB.out.1 HXB.out (by decide), own_rowT HOB.out.2 HXB.out (by decide)⟩)
        have HNS : Hid (OwnI WS (w.heap.size + 2) (.slice a1 cn.length b1) cn) := Lib.hid (by rw [← hWS]; exact own_rowT HNB.out HXB.out (by decide))
        have HZS : Hid (w4.heap.size < WS.heap.size) := Lib.hid (lt_of_row HXS.out)
        refine hK.out _ _ (row_range HAS.out) (fun hHeld => ?_)
        clear hK K hWS HSW
        refine wpAnyH_done (by kernel_rfl) ?_ _
        clear hHeld
        go_wp2
        go_roundw
        case rel => exact ⟨k + 1, by omega, by go_num, M, d2, f2, d3, f3, HMM, HXS, HOS, HNS, HAS, HCS, HBS, HZS⟩
        case measure => simp [intOf]; omega
    · obtain rfl : k = KK := by omega
      have hkz : i < h.shot.index + 1 + (k : Int) := by have := HKI.out; omega
      have HEQ : (⟨i, tp, cn, L⟩ : Sho) = atS h i := by unfold atS; rw [HKK.out, HTP.out, HCN.out, HL.out]
      have FIN : Hid (AtE h i w (.returned (.tuple #[.agg (sArr (⟨i, tp, cn, L⟩ : Sho) (.slice a1 cn.length b1) (.slice a2 L.held.length b2) (.slice a3 L.last.length b3)), .int .i64 0])) (wr.setRow (w.heap.size + 1) (sArr (⟨i, tp, cn, L⟩ : Sho) (.slice a1 cn.length b1) (.slice a2 L.held.length b2) (.slice a3 L.last.length b3)))) := Lib.hid (at_yes HEQ OK.out HIN.out HN.out HO.out.1 HO.out.2 HCW.out HB.out)
      clear HEQ
      go_wp2_with (first | (with_reducible refine wpList_load_row rfl 27 (.tmp 10) rfl w4.heap.size rfl 27 (lArr L (.slice a2 L.held.length b2) (.slice a3 L.last.length b3)) (0, 0) _ HX.out Try.underlying27 rfl (by kernel_rfl) ?_) | (with_reducible refine wpList_store_row rfl 29 (.tmp 4) (.tmp 59) rfl (w.heap.size + 1) (sArr (⟨i, tp, cn, L⟩ : Sho) (.slice a1 cn.length b1) (.slice a2 L.held.length b2) (.slice a3 L.last.length b3)) rfl rfl 29 _ HC.out (by kernel_rfl) rfl (Sh.sArr_one _ _ _ _ _ _ _ _ _ _) ?_))
      exact bodyPost_ret (v := .tuple #[.agg (sArr (⟨i, tp, cn, L⟩ : Sho) (.slice a1 cn.length b1) (.slice a2 L.held.length b2) (.slice a3 L.last.length b3)), .int .i64 0]) (results_ct rfl _ _ (w.heap.size + 1) 29 _ (0, 0) _ rfl (setRow_heap _ _ _ _ _ _ HC.out) Try.underlying29 rfl (by kernel_rfl) rfl) rfl FIN.out
end At
end Go.Proofs.Ytgadbghlcejkfaa
