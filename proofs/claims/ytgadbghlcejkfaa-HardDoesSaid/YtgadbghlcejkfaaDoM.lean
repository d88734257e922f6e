/- What hard.Do does with records of kinds 1 and 2. No condition but the bounds of what may last. What hard.Do does with records of kind 4. No condition but the bounds of what may last. -/
import Derived.Test.YtgadbghlcejkfaaDoA
import Derived.Deep.QuietTactic
import Derived.BigQuiet
import Derived.Deep.MidRow
namespace Go.Proofs.Ytgadbghlcejkfaa
open Go.ChangeShapes Go.WideShapes Go.ChangeAt Go.RowKit Go.Deep
set_option linter.unusedVariables false
set_option maxRecDepth 100000
namespace Rc
open Hd Nv
set_option maxHeartbeats 8000000 in
theorem do_1 (h : Har) (vv : Value) (r : RecR) (v : Value) (w : World) (hh : IsHard w vv h) (hf : IsHard.fits h)  (hr : IsRec w v r) (hrf : IsRec.fits r) (ok : hardOk h) (fr : fitsP r) (fo : followsP h r) (hk : r.kind = 1) : Calls Try.prog 17 #[vv, v] w (Did h r w) := by
  obtain ⟨vn, vh, vl, vg, rfl, hn, hhe, hl, hg, hhw⟩ := id hh
  obtain ⟨g1, q1, rfl, -⟩ := id hn
  obtain ⟨g2, q2, rfl, -⟩ := id hhe
  obtain ⟨g3, q3, rfl, -⟩ := id hl
  obtain ⟨g4, q4, rfl, -⟩ := IsLog.len hg
  obtain ⟨vc, vn, vh, vl, rfl, ⟨hc, hn2, hh2, hl2⟩, hwf⟩ := id hr
  obtain ⟨a1, b1, rfl, -⟩ := id hc
  obtain ⟨a2, b2, rfl, -⟩ := id hn2
  obtain ⟨a3, b3, rfl, -⟩ := id hh2
  obtain ⟨a4, b4, rfl, -⟩ := id hl2
  obtain ⟨W0, hW0, hb0, hz0, hA0, hB0, hC0⟩ := box3 w (hArr h (.slice g1 h.shot.nodes.length q1) (.slice g2 h.shot.led.held.length q2) (.slice g3 h.shot.led.last.length q3) (.slice g4 h.log.length q4)) (rArr r (.slice a1 r.ent.cmd.nodes.length b1) (.slice a2 r.shot.nodes.length b2) (.slice a3 r.shot.led.held.length b3) (.slice a4 r.shot.led.last.length b4)) zH
  have HIRW := Lib.hid hr
  have HIH0 := Lib.hid (hh.below hb0 (Nat.le_refl _))
  have HIR0 := Lib.hid (hr.below hb0 (Nat.le_refl _))
  have HWH := Lib.hid (IsHard.harW hh)
  have HRW := Lib.hid hwf
  have HA0 := Lib.hid hA0
  have HB0 := Lib.hid hB0
  have HC0 := Lib.hid hC0
  have HS0 : Hid (w.heap.size + 3 ≤ W0.heap.size) := Lib.hid (by omega)
  have HBW0 := Lib.hid hb0
  clear hh hr hn hhe hl hg hhw hc hn2 hh2 hl2 hwf hb0 hA0 hB0 hC0 hz0
  have HLA : Hid (h.shot.index + h.log.length ≤ 4611686018427387904) := Lib.hid ok.2.2.2.1
  have HF := Lib.hid hf
  have HRF := Lib.hid hrf
  have OK := Lib.hid ok
  have FR := Lib.hid fr
  have FO := Lib.hid fo
  clear hf hrf ok fr fo
  have HE : Hid (doH h r = { h with boot := r.boot }) := Lib.hid (by unfold doH; rw [if_pos hk])
  have n1 : (r.kind == 1) = true := beq_iff_eq.2 hk
  clear hk
  go_enter Try.func17, Try.ntmps17
  go_wp2_with ((with_reducible refine wpList_load_row rfl 32 (.tmp 2) rfl w.heap.size rfl 32 (hArr h (.slice g1 h.shot.nodes.length q1) (.slice g2 h.shot.led.held.length q2) (.slice g3 h.shot.led.last.length q3) (.slice g4 h.log.length q4)) (0, 0) _ HA0.out Try.underlying32 rfl (by kernel_rfl) ?_))
  refine (check_any h _ _ HIH0.out).mono ?_
  rintro e w1 ⟨z1, rfl, hz1, hb1⟩
  obtain rfl : z1 = 0 := by
    rcases hz1 with g | g
    · exact g.1
    · exact absurd OK.out g.2
  clear hz1
  have HA1 := Lib.hid ((hb1.block _ (lt_of_row HA0.out)).trans HA0.out)
  have HB1 := Lib.hid ((hb1.block _ (lt_of_row HB0.out)).trans HB0.out)
  have HC1 := Lib.hid ((hb1.block _ (lt_of_row HC0.out)).trans HC0.out)
  have HBW1 := Lib.hid (HBW0.out.trans (hb1.mono HBW0.out.size))
  have HS1 := Lib.hid (Nat.le_trans HS0.out hb1.size)
  have HIH1 := Lib.hid (HIH0.out.below hb1 (Nat.le_refl _))
  have HIR1 := Lib.hid (HIR0.out.below hb1 (Nat.le_refl _))
  clear hb1
  go_wp2_with ((with_reducible refine wpList_load_rowG rfl 38 (.tmp 3) rfl (w.heap.size + 1) rfl 38 (rArr r (.slice a1 r.ent.cmd.nodes.length b1) (.slice a2 r.shot.nodes.length b2) (.slice a3 r.shot.led.held.length b3) (.slice a4 r.shot.led.last.length b4)) (0, 0) _ HB1.out Try.underlying38 rfl (by kernel_rfl) ?_))
  refine (fits_any r _ _ HIR1.out).mono ?_
  rintro e w2 ⟨t2, rfl, ht2, hb2⟩
  obtain rfl : t2 = true := ht2.2 FR.out
  clear ht2
  have HA2 := Lib.hid ((hb2.block _ (lt_of_row HA1.out)).trans HA1.out)
  have HB2 := Lib.hid ((hb2.block _ (lt_of_row HB1.out)).trans HB1.out)
  have HC2 := Lib.hid ((hb2.block _ (lt_of_row HC1.out)).trans HC1.out)
  have HBW2 := Lib.hid (HBW1.out.trans (hb2.mono HBW1.out.size))
  have HS2 := Lib.hid (Nat.le_trans HS1.out hb2.size)
  have HIH2 := Lib.hid (HIH1.out.below hb2 (Nat.le_refl _))
  have HIR2 := Lib.hid (HIR1.out.below hb2 (Nat.le_refl _))
  clear hb2
  go_wp2_with (first | (with_reducible refine wpList_load_rowG rfl 32 (.tmp 2) rfl w.heap.size rfl 32 (hArr h (.slice g1 h.shot.nodes.length q1) (.slice g2 h.shot.led.held.length q2) (.slice g3 h.shot.led.last.length q3) (.slice g4 h.log.length q4)) (0, 0) _ HA2.out Try.underlying32 rfl (by kernel_rfl) ?_) | (with_reducible refine wpList_load_rowG rfl 38 (.tmp 3) rfl (w.heap.size + 1) rfl 38 (rArr r (.slice a1 r.ent.cmd.nodes.length b1) (.slice a2 r.shot.nodes.length b2) (.slice a3 r.shot.led.held.length b3) (.slice a4 r.shot.led.last.length b4)) (0, 0) _ HB2.out Try.underlying38 rfl (by kernel_rfl) ?_))
  refine (follows_any h _ r _ _ HIH2.out HIR2.out HLA.out).mono ?_
  rintro e w3 ⟨t3, rfl, ht3, hb3⟩
  obtain rfl : t3 = true := ht3.2 FO.out
  clear ht3
  have HA3 := Lib.hid ((hb3.block _ (lt_of_row HA2.out)).trans HA2.out)
  have HB3 := Lib.hid ((hb3.block _ (lt_of_row HB2.out)).trans HB2.out)
  have HC3 := Lib.hid ((hb3.block _ (lt_of_row HC2.out)).trans HC2.out)
  have HBW3 := Lib.hid (HBW2.out.trans (hb3.mono HBW2.out.size))
  have HS3 := Lib.hid (Nat.le_trans HS2.out hb3.size)
  have HIH3 := Lib.hid (HIH2.out.below hb3 (Nat.le_refl _))
  have HIR3 := Lib.hid (HIR2.out.below hb3 (Nat.le_refl _))
  clear hb3
  go_wp2_with ((with_reducible refine wpList_load_row rfl 32 (.tmp 2) rfl w.heap.size rfl 32 (hArr h (.slice g1 h.shot.nodes.length q1) (.slice g2 h.shot.led.held.length q2) (.slice g3 h.shot.led.last.length q3) (.slice g4 h.log.length q4)) (0, 0) _ HA3.out Try.underlying32 rfl (by kernel_rfl) ?_))
  refine (Vc.hard_own h _ _ HIH3.out HF.out).mono ?_
  rintro e w4 ⟨un, uh, ul, ug, rows, rfl, o1, o2, o3, o4, o5, hmap, hb4⟩
  have HA4 := Lib.hid ((hb4.block _ (lt_of_row HA3.out)).trans HA3.out)
  have HB4 := Lib.hid ((hb4.block _ (lt_of_row HB3.out)).trans HB3.out)
  have HC4 := Lib.hid ((hb4.block _ (lt_of_row HC3.out)).trans HC3.out)
  have HBW4 := Lib.hid (HBW3.out.trans (hb4.mono HBW3.out.size))
  have HS4 := Lib.hid (Nat.le_trans HS3.out hb4.size)
  have HIR4 := Lib.hid (HIR3.out.below hb4 (Nat.le_refl _))
  clear hb4
  obtain ⟨k1, m1, rfl, -⟩ := o1.sl HWH.out.2
  obtain ⟨k2, m2, rfl, -⟩ := o2.sl heldC_len
  obtain ⟨k3, m3, rfl, -⟩ := o3.sl lastC_len
  have HOG : Hid (OwnR 9 entC 36 w4 (w.heap.size + 3) ug rows ∧ EntsO w4 (w.heap.size + 3) ug.ownBlock rows) := Lib.hid ⟨o4.lower HS3.out, fun r hr => ⟨OwnK.lower (o5 r hr).1 HS3.out, (o5 r hr).2⟩⟩
  have HMAP := Lib.hid hmap
  have HO123 : Hid (OwnI w4 (w.heap.size + 3) (.slice k1 h.shot.nodes.length m1) h.shot.nodes ∧ OwnR 5 heldC 67 w4 (w.heap.size + 3) (.slice k2 h.shot.led.held.length m2) h.shot.led.held ∧ OwnR 6 lastC 71 w4 (w.heap.size + 3) (.slice k3 h.shot.led.last.length m3) h.shot.led.last) := Lib.hid ⟨OwnK.lower o1 HS3.out, o2.lower HS3.out, o3.lower HS3.out⟩
  obtain ⟨k4, m4, hug, -⟩ := HOG.out.1.sl entC_len
  have hrl : rows.length = h.log.length := by rw [← hmap, List.length_map]
  rw [hrl] at hug
  subst hug
  obtain ⟨W5, hW5⟩ : ∃ q, w4.setRow w.heap.size (hArr h (.slice k1 h.shot.nodes.length m1) (.slice k2 h.shot.led.held.length m2) (.slice k3 h.shot.led.last.length m3) (.slice k4 h.log.length m4)) = q := ⟨_, rfl⟩
  have HRL := Lib.hid hrl
  have HA5 : Hid (W5.heap[w.heap.size]? = some (.cells (hArr h (.slice k1 h.shot.nodes.length m1) (.slice k2 h.shot.led.held.length m2) (.slice k3 h.shot.led.last.length m3) (.slice k4 h.log.length m4)) 32 (0, 0))) := Lib.hid (by rw [← hW5]; exact setRow_heap _ _ _ _ _ _ HA4.out)
  have HB5 : Hid (W5.heap[w.heap.size + 1]? = some (.cells (rArr r (.slice a1 r.ent.cmd.nodes.length b1) (.slice a2 r.shot.nodes.length b2) (.slice a3 r.shot.led.held.length b3) (.slice a4 r.shot.led.last.length b4)) 38 (0, 0))) := Lib.hid (by rw [← hW5]; exact (setRow_other w4 _ _ _ (by omega)).trans HB4.out)
  have HC5 : Hid (W5.heap[w.heap.size + 2]? = some (.cells zH 32 (0, 0))) := Lib.hid (by rw [← hW5]; exact (setRow_other w4 _ _ _ (by omega)).trans HC4.out)
  have HBW5 : Hid (Below w.heap.size w W5) := Lib.hid (by rw [← hW5]; exact Ld.below_row HBW4.out (Nat.le_refl _) _)
  have HS5 : Hid (w.heap.size + 3 ≤ W5.heap.size) := Lib.hid (by rw [← hW5]; simpa using HS4.out)
  have HIR5 : Hid (IsRec W5 (.agg (rArr r (.slice a1 r.ent.cmd.nodes.length b1) (.slice a2 r.shot.nodes.length b2) (.slice a3 r.shot.led.held.length b3) (.slice a4 r.shot.led.last.length b4))) r) := Lib.hid (HIRW.out.below HBW5.out (Nat.le_refl _))
  have HOS5 : Hid (OwnI W5 (w.heap.size + 3) (.slice k1 h.shot.nodes.length m1) h.shot.nodes ∧ OwnR 5 heldC 67 W5 (w.heap.size + 3) (.slice k2 h.shot.led.held.length m2) h.shot.led.held ∧ OwnR 6 lastC 71 W5 (w.heap.size + 3) (.slice k3 h.shot.led.last.length m3) h.shot.led.last) := Lib.hid (by rw [← hW5]; exact ⟨owns_row HO123.out.1 (by omega), owns_row HO123.out.2.1 (by omega), owns_row HO123.out.2.2 (by omega)⟩)
  have HOL5 : Hid (OwnR 9 entC 36 W5 (w.heap.size + 3) (.slice k4 h.log.length m4) rows ∧ EntsO W5 (w.heap.size + 3) (Value.slice k4 h.log.length m4).ownBlock rows) := Lib.hid (by rw [← hW5]; exact ⟨owns_row HOG.out.1 (by omega), fun r hr => ⟨owns_row (HOG.out.2 r hr).1 (by omega), (HOG.out.2 r hr).2⟩⟩)
  have HO5 : Hid (OwnH W5 (w.heap.size + 3) (.slice k1 h.shot.nodes.length m1) (.slice k2 h.shot.led.held.length m2) (.slice k3 h.shot.led.last.length m3) (.slice k4 h.log.length m4) h) := Lib.hid ⟨HOS5.out.1, HOS5.out.2.1, HOS5.out.2.2, by have q := LogP.whole HOL5.out.1 HOL5.out.2; rw [HMAP.out] at q; exact q⟩
  clear o1 o2 o3 o4 o5 hmap hrl
  have c0 := (cells21 HB5.out).1
  have c2 := (cell_of_row W5 _ 2 _ _ _ HB5.out).trans rfl
  have d0 := (cell_of_row W5 _ 0 _ _ _ HA5.out).trans rfl
  have f0 := La.frozen_of (o := 0) HA5.out
  obtain ⟨W6, hW6⟩ : ∃ q, (W5.setCell ⟨w.heap.size, 0, none⟩ (.int .u64 r.boot)) = q := ⟨_, rfl⟩
  have HA6 : Hid (W6.heap[w.heap.size]? = some (.cells (hArr { h with boot := r.boot } (.slice k1 h.shot.nodes.length m1) (.slice k2 h.shot.led.held.length m2) (.slice k3 h.shot.led.last.length m3) (.slice k4 h.log.length m4)) 32 (0, 0))) := Lib.hid (by rw [← hW6, heap_setCell_same W5 w.heap.size 0 _ _ _ HA5.out]; rfl)
  have HC6 : Hid (W6.heap[w.heap.size + 2]? = some (.cells zH 32 (0, 0))) := Lib.hid (by rw [← hW6]; exact (heap_setCell_other _ _ _ _ (by simp)).trans HC5.out)
  have HBW6 : Hid (Below w.heap.size w W6) := Lib.hid (by rw [← hW6]; exact HBW5.out.setCell (Nat.le_refl _) _)
  have HM6 : Hid (∀ e sz v n xs, W5.ownsRow (w.heap.size + 3) e sz v n xs → W6.ownsRow (w.heap.size + 3) e sz v n xs) := Lib.hid (by rw [← hW6]; exact fun e sz v n xs q => owns_cell q (by omega))
  have HO6 : Hid (OwnH W6 (w.heap.size + 3) (.slice k1 h.shot.nodes.length m1) (.slice k2 h.shot.led.held.length m2) (.slice k3 h.shot.led.last.length m3) (.slice k4 h.log.length m4) { h with boot := r.boot }) := Lib.hid (HO5.out.map HM6.out)
  have HW6 : Hid (HarW { h with boot := r.boot }) := Lib.hid ⟨⟨HRW.out.2.2.1, HWH.out.1.2⟩, HWH.out.2⟩
  go_wp2_with (first | (with_reducible refine wpList_store_row rfl 32 (.tmp 2) (.tmp 22) rfl w.heap.size (hArr h (.slice k1 h.shot.nodes.length m1) (.slice k2 h.shot.led.held.length m2) (.slice k3 h.shot.led.last.length m3) (.slice k4 h.log.length m4)) rfl rfl 32 _ HA4.out (by kernel_rfl) rfl (hArr_one _ _ _ _ _ _ _ _ _ _ _ _ _) ?_; rw [hW5]) | (with_reducible refine wpList_load_row rfl 32 (.tmp 2) rfl w.heap.size rfl 32 (hArr { h with boot := r.boot } (.slice k1 h.shot.nodes.length m1) (.slice k2 h.shot.led.held.length m2) (.slice k3 h.shot.led.last.length m3) (.slice k4 h.log.length m4)) (0, 0) _ HA6.out Try.underlying32 rfl (by kernel_rfl) ?_))
  refine (check_any { h with boot := r.boot } _ _ (HO6.out.hard HW6.out)).mono ?_
  rintro e w7 ⟨z7, rfl, hz7, hb7⟩
  have HA7 := Lib.hid ((hb7.block _ (lt_of_row HA6.out)).trans HA6.out)
  have HC7 := Lib.hid ((hb7.block _ (lt_of_row HC6.out)).trans HC6.out)
  have HBW7 := Lib.hid (HBW6.out.trans (hb7.mono HBW6.out.size))
  have OW7 := Lib.hid (HO6.out.map fun e sz v n xs q => owns_below hb7 q)
  clear hb7
  rcases hz7 with ⟨rfl, hok⟩ | ⟨rfl, hno⟩
  · have FIN := Lib.hid (did_yes HE.out OK.out FR.out FO.out hok OW7.out HW6.out HBW7.out)
    clear hok
    go_wp2_with (first | (with_reducible refine wpList_load_row rfl 32 (.tmp 2) rfl w.heap.size rfl 32 (hArr { h with boot := r.boot } (.slice k1 h.shot.nodes.length m1) (.slice k2 h.shot.led.held.length m2) (.slice k3 h.shot.led.last.length m3) (.slice k4 h.log.length m4)) (0, 0) _ HA7.out Try.underlying32 rfl (by kernel_rfl) ?_) | (with_reducible refine wpList_store_row rfl 32 (.tmp 4) (.tmp 76) rfl (w.heap.size + 2) (hArr { h with boot := r.boot } (.slice k1 h.shot.nodes.length m1) (.slice k2 h.shot.led.held.length m2) (.slice k3 h.shot.led.last.length m3) (.slice k4 h.log.length m4)) rfl rfl 32 _ HC7.out (by kernel_rfl) rfl (hArr_one _ _ _ _ _ _ _ _ _ _ _ _ _) ?_))
    exact bodyPost_ret (v := .tuple #[.agg (hArr { h with boot := r.boot } (.slice k1 h.shot.nodes.length m1) (.slice k2 h.shot.led.held.length m2) (.slice k3 h.shot.led.last.length m3) (.slice k4 h.log.length m4)), .int .i64 0]) (results_ct rfl _ _ (w.heap.size + 2) 32 _ (0, 0) _ rfl (setRow_heap _ _ _ _ _ _ HC7.out) Try.underlying32 rfl (by kernel_rfl) rfl) rfl FIN.out
  · have FIN := Lib.hid (did_no (h := h) (r := r) (fun g => hno (by have q := g.2.2.2; rw [HE.out] at q; exact q)) HBW7.out)
    clear hno
    go_wp2_with ((with_reducible refine wpList_store_row rfl 32 (.tmp 4) (.tmp 75) rfl (w.heap.size + 2) zH rfl rfl 32 _ HC7.out (by kernel_rfl) rfl zH_one ?_))
    exact bodyPost_ret (v := .tuple #[.agg zH, .int .i64 130]) (results_ct rfl _ _ (w.heap.size + 2) 32 _ (0, 0) _ rfl (setRow_heap _ _ _ _ _ _ HC7.out) Try.underlying32 rfl (by kernel_rfl) rfl) rfl FIN.out
set_option maxHeartbeats 8000000 in
theorem do_2 (h : Har) (vv : Value) (r : RecR) (v : Value) (w : World) (hh : IsHard w vv h) (hf : IsHard.fits h)  (hr : IsRec w v r) (hrf : IsRec.fits r) (ok : hardOk h) (fr : fitsP r) (fo : followsP h r) (hk : r.kind = 2) : Calls Try.prog 17 #[vv, v] w (Did h r w) := by
  obtain ⟨vn, vh, vl, vg, rfl, hn, hhe, hl, hg, hhw⟩ := id hh
  obtain ⟨g1, q1, rfl, -⟩ := id hn
  obtain ⟨g2, q2, rfl, -⟩ := id hhe
  obtain ⟨g3, q3, rfl, -⟩ := id hl
  obtain ⟨g4, q4, rfl, -⟩ := IsLog.len hg
  obtain ⟨vc, vn, vh, vl, rfl, ⟨hc, hn2, hh2, hl2⟩, hwf⟩ := id hr
  obtain ⟨a1, b1, rfl, -⟩ := id hc
  obtain ⟨a2, b2, rfl, -⟩ := id hn2
  obtain ⟨a3, b3, rfl, -⟩ := id hh2
  obtain ⟨a4, b4, rfl, -⟩ := id hl2
  obtain ⟨W0, hW0, hb0, hz0, hA0, hB0, hC0⟩ := box3 w (hArr h (.slice g1 h.shot.nodes.length q1) (.slice g2 h.shot.led.held.length q2) (.slice g3 h.shot.led.last.length q3) (.slice g4 h.log.length q4)) (rArr r (.slice a1 r.ent.cmd.nodes.length b1) (.slice a2 r.shot.nodes.length b2) (.slice a3 r.shot.led.held.length b3) (.slice a4 r.shot.led.last.length b4)) zH
  have HIRW := Lib.hid hr
  have HIH0 := Lib.hid (hh.below hb0 (Nat.le_refl _))
  have HIR0 := Lib.hid (hr.below hb0 (Nat.le_refl _))
  have HWH := Lib.hid (IsHard.harW hh)
  have HRW := Lib.hid hwf
  have HA0 := Lib.hid hA0
  have HB0 := Lib.hid hB0
  have HC0 := Lib.hid hC0
  have HS0 : Hid (w.heap.size + 3 ≤ W0.heap.size) := Lib.hid (by omega)
  have HBW0 := Lib.hid hb0
  clear hh hr hn hhe hl hg hhw hc hn2 hh2 hl2 hwf hb0 hA0 hB0 hC0 hz0
  have HLA : Hid (h.shot.index + h.log.length ≤ 4611686018427387904) := Lib.hid ok.2.2.2.1
  have HF := Lib.hid hf
  have HRF := Lib.hid hrf
  have OK := Lib.hid ok
  have FR := Lib.hid fr
  have FO := Lib.hid fo
  clear hf hrf ok fr fo
  have HE : Hid (doH h r = { h with term := r.term, vote := r.vote }) := Lib.hid (by unfold doH; rw [if_neg (by omega), if_pos hk])
  have n1 : (r.kind == 1) = false := beq_eq_false_iff_ne.2 (by omega)
  have n2 : (r.kind == 2) = true := beq_iff_eq.2 hk
  clear hk
  go_enter Try.func17, Try.ntmps17
  go_wp2_with ((with_reducible refine wpList_load_row rfl 32 (.tmp 2) rfl w.heap.size rfl 32 (hArr h (.slice g1 h.shot.nodes.length q1) (.slice g2 h.shot.led.held.length q2) (.slice g3 h.shot.led.last.length q3) (.slice g4 h.log.length q4)) (0, 0) _ HA0.out Try.underlying32 rfl (by kernel_rfl) ?_))
  refine (check_any h _ _ HIH0.out).mono ?_
  rintro e w1 ⟨z1, rfl, hz1, hb1⟩
  obtain rfl : z1 = 0 := by
    rcases hz1 with g | g
    · exact g.1
    · exact absurd OK.out g.2
  clear hz1
  have HA1 := Lib.hid ((hb1.block _ (lt_of_row HA0.out)).trans HA0.out)
  have HB1 := Lib.hid ((hb1.block _ (lt_of_row HB0.out)).trans HB0.out)
  have HC1 := Lib.hid ((hb1.block _ (lt_of_row HC0.out)).trans HC0.out)
  have HBW1 := Lib.hid (HBW0.out.trans (hb1.mono HBW0.out.size))
  have HS1 := Lib.hid (Nat.le_trans HS0.out hb1.size)
  have HIH1 := Lib.hid (HIH0.out.below hb1 (Nat.le_refl _))
  have HIR1 := Lib.hid (HIR0.out.below hb1 (Nat.le_refl _))
  clear hb1
  go_wp2_with ((with_reducible refine wpList_load_rowG rfl 38 (.tmp 3) rfl (w.heap.size + 1) rfl 38 (rArr r (.slice a1 r.ent.cmd.nodes.length b1) (.slice a2 r.shot.nodes.length b2) (.slice a3 r.shot.led.held.length b3) (.slice a4 r.shot.led.last.length b4)) (0, 0) _ HB1.out Try.underlying38 rfl (by kernel_rfl) ?_))
  refine (fits_any r _ _ HIR1.out).mono ?_
  rintro e w2 ⟨t2, rfl, ht2, hb2⟩
  obtain rfl : t2 = true := ht2.2 FR.out
  clear ht2
  have HA2 := Lib.hid ((hb2.block _ (lt_of_row HA1.out)).trans HA1.out)
  have HB2 := Lib.hid ((hb2.block _ (lt_of_row HB1.out)).trans HB1.out)
  have HC2 := Lib.hid ((hb2.block _ (lt_of_row HC1.out)).trans HC1.out)
  have HBW2 := Lib.hid (HBW1.out.trans (hb2.mono HBW1.out.size))
  have HS2 := Lib.hid (Nat.le_trans HS1.out hb2.size)
  have HIH2 := Lib.hid (HIH1.out.below hb2 (Nat.le_refl _))
  have HIR2 := Lib.hid (HIR1.out.below hb2 (Nat.le_refl _))
  clear hb2
  go_wp2_with (first | (with_reducible refine wpList_load_rowG rfl 32 (.tmp 2) rfl w.heap.size rfl 32 (hArr h (.slice g1 h.shot.nodes.length q1) (.slice g2 h.shot.led.held.length q2) (.slice g3 h.shot.led.last.length q3) (.slice g4 h.log.length q4)) (0, 0) _ HA2.out Try.underlying32 rfl (by kernel_rfl) ?_) | (with_reducible refine wpList_load_rowG rfl 38 (.tmp 3) rfl (w.heap.size + 1) rfl 38 (rArr r (.slice a1 r.ent.cmd.nodes.length b1) (.slice a2 r.shot.nodes.length b2) (.slice a3 r.shot.led.held.length b3) (.slice a4 r.shot.led.last.length b4)) (0, 0) _ HB2.out Try.underlying38 rfl (by kernel_rfl) ?_))
  refine (follows_any h _ r _ _ HIH2.out HIR2.out HLA.out).mono ?_
  rintro e w3 ⟨t3, rfl, ht3, hb3⟩
  obtain rfl : t3 = true := ht3.2 FO.out
  clear ht3
  have HA3 := Lib.hid ((hb3.block _ (lt_of_row HA2.out)).trans HA2.out)
  have HB3 := Lib.hid ((hb3.block _ (lt_of_row HB2.out)).trans HB2.out)
  have HC3 := Lib.hid ((hb3.block _ (lt_of_row HC2.out)).trans HC2.out)
  have HBW3 := Lib.hid (HBW2.out.trans (hb3.mono HBW2.out.size))
  have HS3 := Lib.hid (Nat.le_trans HS2.out hb3.size)
  have HIH3 := Lib.hid (HIH2.out.below hb3 (Nat.le_refl _))
  have HIR3 := Lib.hid (HIR2.out.below hb3 (Nat.le_refl _))
  clear hb3
  go_wp2_with ((with_reducible refine wpList_load_row rfl 32 (.tmp 2) rfl w.heap.size rfl 32 (hArr h (.slice g1 h.shot.nodes.length q1) (.slice g2 h.shot.led.held.length q2) (.slice g3 h.shot.led.last.length q3) (.slice g4 h.log.length q4)) (0, 0) _ HA3.out Try.underlying32 rfl (by kernel_rfl) ?_))
  refine (Vc.hard_own h _ _ HIH3.out HF.out).mono ?_
  rintro e w4 ⟨un, uh, ul, ug, rows, rfl, o1, o2, o3, o4, o5, hmap, hb4⟩
  have HA4 := Lib.hid ((hb4.block _ (lt_of_row HA3.out)).trans HA3.out)
  have HB4 := Lib.hid ((hb4.block _ (lt_of_row HB3.out)).trans HB3.out)
  have HC4 := Lib.hid ((hb4.block _ (lt_of_row HC3.out)).trans HC3.out)
  have HBW4 := Lib.hid (HBW3.out.trans (hb4.mono HBW3.out.size))
  have HS4 := Lib.hid (Nat.le_trans HS3.out hb4.size)
  have HIR4 := Lib.hid (HIR3.out.below hb4 (Nat.le_refl _))
  clear hb4
  obtain ⟨k1, m1, rfl, -⟩ := o1.sl HWH.out.2
  obtain ⟨k2, m2, rfl, -⟩ := o2.sl heldC_len
  obtain ⟨k3, m3, rfl, -⟩ := o3.sl lastC_len
  have HOG : Hid (OwnR 9 entC 36 w4 (w.heap.size + 3) ug rows ∧ EntsO w4 (w.heap.size + 3) ug.ownBlock rows) := Lib.hid ⟨o4.lower HS3.out, fun r hr => ⟨OwnK.lower (o5 r hr).1 HS3.out, (o5 r hr).2⟩⟩
  have HMAP := Lib.hid hmap
  have HO123 : Hid (OwnI w4 (w.heap.size + 3) (.slice k1 h.shot.nodes.length m1) h.shot.nodes ∧ OwnR 5 heldC 67 w4 (w.heap.size + 3) (.slice k2 h.shot.led.held.length m2) h.shot.led.held ∧ OwnR 6 lastC 71 w4 (w.heap.size + 3) (.slice k3 h.shot.led.last.length m3) h.shot.led.last) := Lib.hid ⟨OwnK.lower o1 HS3.out, o2.lower HS3.out, o3.lower HS3.out⟩
  obtain ⟨k4, m4, hug, -⟩ := HOG.out.1.sl entC_len
  have hrl : rows.length = h.log.length := by rw [← hmap, List.length_map]
  rw [hrl] at hug
  subst hug
  obtain ⟨W5, hW5⟩ : ∃ q, w4.setRow w.heap.size (hArr h (.slice k1 h.shot.nodes.length m1) (.slice k2 h.shot.led.held.length m2) (.slice k3 h.shot.led.last.length m3) (.slice k4 h.log.length m4)) = q := ⟨_, rfl⟩
  have HRL := Lib.hid hrl
  have HA5 : Hid (W5.heap[w.heap.size]? = some (.cells (hArr h (.slice k1 h.shot.nodes.length m1) (.slice k2 h.shot.led.held.length m2) (.slice k3 h.shot.led.last.length m3) (.slice k4 h.log.length m4)) 32 (0, 0))) := Lib.hid (by rw [← hW5]; exact setRow_heap _ _ _ _ _ _ HA4.out)
  have HB5 : Hid (W5.heap[w.heap.size + 1]? = some (.cells (rArr r (.slice a1 r.ent.cmd.nodes.length b1) (.slice a2 r.shot.nodes.length b2) (.slice a3 r.shot.led.held.length b3) (.slice a4 r.shot.led.last.length b4)) 38 (0, 0))) := Lib.hid (by rw [← hW5]; exact (setRow_other w4 _ _ _ (by omega)).trans HB4.out)
  have HC5 : Hid (W5.heap[w.heap.size + 2]? = some (.cells zH 32 (0, 0))) := Lib.hid (by rw [← hW5]; exact (setRow_other w4 _ _ _ (by omega)).trans HC4.out)
  have HBW5 : Hid (Below w.heap.size w W5) := Lib.hid (by rw [← hW5]; exact Ld.below_row HBW4.out (Nat.le_refl _) _)
  have HS5 : Hid (w.heap.size + 3 ≤ W5.heap.size) := Lib.hid (by rw [← hW5]; simpa using HS4.out)
  have HIR5 : Hid (IsRec W5 (.agg (rArr r (.slice a1 r.ent.cmd.nodes.length b1) (.slice a2 r.shot.nodes.length b2) (.slice a3 r.shot.led.held.length b3) (.slice a4 r.shot.led.last.length b4))) r) := Lib.hid (HIRW.out.below HBW5.out (Nat.le_refl _))
  have HOS5 : Hid (OwnI W5 (w.heap.size + 3) (.slice k1 h.shot.nodes.length m1) h.shot.nodes ∧ OwnR 5 heldC 67 W5 (w.heap.size + 3) (.slice k2 h.shot.led.held.length m2) h.shot.led.held ∧ OwnR 6 lastC 71 W5 (w.heap.size + 3) (.slice k3 h.shot.led.last.length m3) h.shot.led.last) := Lib.hid (by rw [← hW5]; exact ⟨owns_row HO123.out.1 (by omega), owns_row HO123.out.2.1 (by omega), owns_row HO123.out.2.2 (by omega)⟩)
  have HOL5 : Hid (OwnR 9 entC 36 W5 (w.heap.size + 3) (.slice k4 h.log.length m4) rows ∧ EntsO W5 (w.heap.size + 3) (Value.slice k4 h.log.length m4).ownBlock rows) := Lib.hid (by rw [← hW5]; exact ⟨owns_row HOG.out.1 (by omega), fun r hr => ⟨owns_row (HOG.out.2 r hr).1 (by omega), (HOG.out.2 r hr).2⟩⟩)
  have HO5 : Hid (OwnH W5 (w.heap.size + 3) (.slice k1 h.shot.nodes.length m1) (.slice k2 h.shot.led.held.length m2) (.slice k3 h.shot.led.last.length m3) (.slice k4 h.log.length m4) h) := Lib.hid ⟨HOS5.out.1, HOS5.out.2.1, HOS5.out.2.2, by have q := LogP.whole HOL5.out.1 HOL5.out.2; rw [HMAP.out] at q; exact q⟩
  clear o1 o2 o3 o4 o5 hmap hrl
  have c0 := (cells21 HB5.out).1
  have c1 := (cell_of_row W5 _ 1 _ _ _ HB5.out).trans rfl
  have c3 := (cell_of_row W5 _ 3 _ _ _ HB5.out).trans rfl
  have d1 := (cell_of_row W5 _ 1 _ _ _ HA5.out).trans rfl
  have f1 := La.frozen_of (o := 1) HA5.out
  have d2 := (cell_of_row W5 _ 2 _ _ _ HA5.out).trans rfl
  have f2 := La.frozen_of (o := 2) HA5.out
  obtain ⟨W6, hW6⟩ : ∃ q, ((W5.setCell ⟨w.heap.size, 1, none⟩ (.int .u64 r.term)).setCell ⟨w.heap.size, 2, none⟩ (.int .i64 r.vote)).drew = q := ⟨_, rfl⟩
  have HA6 : Hid (W6.heap[w.heap.size]? = some (.cells (hArr { h with term := r.term, vote := r.vote } (.slice k1 h.shot.nodes.length m1) (.slice k2 h.shot.led.held.length m2) (.slice k3 h.shot.led.last.length m3) (.slice k4 h.log.length m4)) 32 (0, 0))) := Lib.hid (by rw [← hW6]; exact (heap_setCell_same _ w.heap.size 2 _ _ (.int .i64 r.vote) (heap_setCell_same W5 w.heap.size 1 _ _ (.int .u64 r.term) HA5.out)).trans rfl)
  have HC6 : Hid (W6.heap[w.heap.size + 2]? = some (.cells zH 32 (0, 0))) := Lib.hid (by rw [← hW6]; exact (heap_setCell_other _ ⟨w.heap.size, 2, none⟩ _ (.int .i64 r.vote) (by simp)).trans ((heap_setCell_other W5 ⟨w.heap.size, 1, none⟩ _ (.int .u64 r.term) (by simp)).trans HC5.out))
  have HBW6 : Hid (Below w.heap.size w W6) := Lib.hid (by rw [← hW6]; exact ((HBW5.out.setCell (Nat.le_refl _) _).setCell (Nat.le_refl _) _).drew)
  have HM6 : Hid (∀ e sz v n xs, W5.ownsRow (w.heap.size + 3) e sz v n xs → W6.ownsRow (w.heap.size + 3) e sz v n xs) := Lib.hid (by rw [← hW6]; exact fun e sz v n xs q => owns_cell (owns_cell (j := 1) (u := .int .u64 r.term) q (by omega)) (by omega))
  have HO6 : Hid (OwnH W6 (w.heap.size + 3) (.slice k1 h.shot.nodes.length m1) (.slice k2 h.shot.led.held.length m2) (.slice k3 h.shot.led.last.length m3) (.slice k4 h.log.length m4) { h with term := r.term, vote := r.vote }) := Lib.hid (HO5.out.map HM6.out)
  have HW6 : Hid (HarW { h with term := r.term, vote := r.vote }) := Lib.hid ⟨⟨HWH.out.1.1, HRW.out.2.2.2.1, HRW.out.2.1, HWH.out.1.2.2.2⟩, HWH.out.2⟩
  go_wp2_with (first | (with_reducible refine wpList_store_row rfl 32 (.tmp 2) (.tmp 22) rfl w.heap.size (hArr h (.slice k1 h.shot.nodes.length m1) (.slice k2 h.shot.led.held.length m2) (.slice k3 h.shot.led.last.length m3) (.slice k4 h.log.length m4)) rfl rfl 32 _ HA4.out (by kernel_rfl) rfl (hArr_one _ _ _ _ _ _ _ _ _ _ _ _ _) ?_; rw [hW5]) | fail)
  go_region
  try rw [hW6]
  clear hW6 c0 c1 c3 d1 d2 f1 f2
  go_wp2_with ((with_reducible refine wpList_load_row rfl 32 (.tmp 2) rfl w.heap.size rfl 32 (hArr { h with term := r.term, vote := r.vote } (.slice k1 h.shot.nodes.length m1) (.slice k2 h.shot.led.held.length m2) (.slice k3 h.shot.led.last.length m3) (.slice k4 h.log.length m4)) (0, 0) _ HA6.out Try.underlying32 rfl (by kernel_rfl) ?_))
  refine (check_any { h with term := r.term, vote := r.vote } _ _ (HO6.out.hard HW6.out)).mono ?_
  rintro e w7 ⟨z7, rfl, hz7, hb7⟩
  have HA7 := Lib.hid ((hb7.block _ (lt_of_row HA6.out)).trans HA6.out)
  have HC7 := Lib.hid ((hb7.block _ (lt_of_row HC6.out)).trans HC6.out)
  have HBW7 := Lib.hid (HBW6.out.trans (hb7.mono HBW6.out.size))
  have OW7 := Lib.hid (HO6.out.map fun e sz v n xs q => owns_below hb7 q)
  clear hb7
  rcases hz7 with ⟨rfl, hok⟩ | ⟨rfl, hno⟩
  · have FIN := Lib.hid (did_yes HE.out OK.out FR.out FO.out hok OW7.out HW6.out HBW7.out)
    clear hok
    go_wp2_with (first | (with_reducible refine wpList_load_row rfl 32 (.tmp 2) rfl w.heap.size rfl 32 (hArr { h with term := r.term, vote := r.vote } (.slice k1 h.shot.nodes.length m1) (.slice k2 h.shot.led.held.length m2) (.slice k3 h.shot.led.last.length m3) (.slice k4 h.log.length m4)) (0, 0) _ HA7.out Try.underlying32 rfl (by kernel_rfl) ?_) | (with_reducible refine wpList_store_row rfl 32 (.tmp 4) (.tmp 76) rfl (w.heap.size + 2) (hArr { h with term := r.term, vote := r.vote } (.slice k1 h.shot.nodes.length m1) (.slice k2 h.shot.led.held.length m2) (.slice k3 h.shot.led.last.length m3) (.slice k4 h.log.length m4)) rfl rfl 32 _ HC7.out (by kernel_rfl) rfl (hArr_one _ _ _ _ _ _ _ _ _ _ _ _ _) ?_))
    exact bodyPost_ret (v := .tuple #[.agg (hArr { h with term := r.term, vote := r.vote } (.slice k1 h.shot.nodes.length m1) (.slice k2 h.shot.led.held.length m2) (.slice k3 h.shot.led.last.length m3) (.slice k4 h.log.length m4)), .int .i64 0]) (results_ct rfl _ _ (w.heap.size + 2) 32 _ (0, 0) _ rfl (setRow_heap _ _ _ _ _ _ HC7.out) Try.underlying32 rfl (by kernel_rfl) rfl) rfl FIN.out
  · have FIN := Lib.hid (did_no (h := h) (r := r) (fun g => hno (by have q := g.2.2.2; rw [HE.out] at q; exact q)) HBW7.out)
    clear hno
    go_wp2_with ((with_reducible refine wpList_store_row rfl 32 (.tmp 4) (.tmp 75) rfl (w.heap.size + 2) zH rfl rfl 32 _ HC7.out (by kernel_rfl) rfl zH_one ?_))
    exact bodyPost_ret (v := .tuple #[.agg zH, .int .i64 130]) (results_ct rfl _ _ (w.heap.size + 2) 32 _ (0, 0) _ rfl (setRow_heap _ _ _ _ _ _ HC7.out) Try.underlying32 rfl (by kernel_rfl) rfl) rfl FIN.out
end Rc
end Go.Proofs.Ytgadbghlcejkfaa
namespace Go.Proofs.Ytgadbghlcejkfaa
open Go.ChangeShapes Go.WideShapes Go.ChangeAt Go.RowKit Go.Deep
set_option linter.unusedVariables false
set_option maxRecDepth 100000
namespace Rc
open Hd Nv
theorem piece_take {w : World} {B : Nat} {a : Option Addr} {log : List Ent} {rows : List ERow} {m : Nat} (own : OwnR 9 entC 36 w B (.slice a log.length m) rows) (hl : rows.length = log.length) {j : Nat} (hj : j ≤ log.length) : PieceOf (.slice a log.length m) log (.slice a j m) (log.take j) := by
  rcases own.2 with ⟨e, h0⟩ | ⟨g, cap, cur, e, -⟩
  · simp only [Value.slice.injEq] at e
    obtain ⟨rfl, hn, rfl⟩ := e
    have hj0 : j = 0 := by omega
    subst hj0
    exact .inl ⟨rfl, rfl⟩
  · simp only [Value.slice.injEq] at e
    obtain ⟨rfl, hn, rfl⟩ := e
    refine .inr (.inl ⟨g, 0, m, 0, rfl, ?_, ?_, ?_⟩)
    · rw [List.length_take, Nat.min_eq_left hj]; simp
    · rw [List.length_take]; omega
    · rw [List.drop_zero, List.length_take, Nat.min_eq_left hj]
theorem own_cap {w : World} {B n m : Nat} {a : Option Addr} {rows : List ERow} (own : OwnR 9 entC 36 w B (.slice a n m) rows) : n ≤ m ∧ m ≤ maxLen := by
  rcases own.2 with ⟨e, h0⟩ | ⟨g, cap, cur, e, -, -, h3, h4, -⟩
  · simp only [Value.slice.injEq] at e
    obtain ⟨-, hn, rfl⟩ := e
    exact ⟨by omega, Nat.zero_le _⟩
  · simp only [Value.slice.injEq] at e
    obtain ⟨-, hn, rfl⟩ := e
    exact ⟨by omega, h4⟩
set_option maxHeartbeats 8000000 in
theorem do_4 (h : Har) (vv : Value) (r : RecR) (v : Value) (w : World) (hh : IsHard w vv h) (hf : IsHard.fits h)  (hr : IsRec w v r) (hrf : IsRec.fits r) (ok : hardOk h) (fr : fitsP r) (fo : followsP h r) (hk : r.kind = 4) : Calls Try.prog 17 #[vv, v] w (Did h r w) := by
  obtain ⟨vn, vh, vl, vg, rfl, hn, hhe, hl, hg, hhw⟩ := id hh
  obtain ⟨g1, q1, rfl, -⟩ := id hn
  obtain ⟨g2, q2, rfl, -⟩ := id hhe
  obtain ⟨g3, q3, rfl, -⟩ := id hl
  obtain ⟨g4, q4, rfl, -⟩ := IsLog.len hg
  obtain ⟨vc, vn, vh, vl, rfl, ⟨hc, hn2, hh2, hl2⟩, hwf⟩ := id hr
  obtain ⟨a1, b1, rfl, -⟩ := id hc
  obtain ⟨a2, b2, rfl, -⟩ := id hn2
  obtain ⟨a3, b3, rfl, -⟩ := id hh2
  obtain ⟨a4, b4, rfl, -⟩ := id hl2
  obtain ⟨W0, hW0, hb0, hz0, hA0, hB0, hC0⟩ := box3 w (hArr h (.slice g1 h.shot.nodes.length q1) (.slice g2 h.shot.led.held.length q2) (.slice g3 h.shot.led.last.length q3) (.slice g4 h.log.length q4)) (rArr r (.slice a1 r.ent.cmd.nodes.length b1) (.slice a2 r.shot.nodes.length b2) (.slice a3 r.shot.led.held.length b3) (.slice a4 r.shot.led.last.length b4)) zH
  have HIRW := Lib.hid hr
  have HIH0 := Lib.hid (hh.below hb0 (Nat.le_refl _))
  have HIR0 := Lib.hid (hr.below hb0 (Nat.le_refl _))
  have HWH := Lib.hid (IsHard.harW hh)
  have HRW := Lib.hid hwf
  have HA0 := Lib.hid hA0
  have HB0 := Lib.hid hB0
  have HC0 := Lib.hid hC0
  have HS0 : Hid (w.heap.size + 3 ≤ W0.heap.size) := Lib.hid (by omega)
  have HBW0 := Lib.hid hb0
  clear hh hr hn hhe hl hg hhw hc hn2 hh2 hl2 hwf hb0 hA0 hB0 hC0 hz0
  have HLA : Hid (h.shot.index + h.log.length ≤ 4611686018427387904) := Lib.hid ok.2.2.2.1
  have HF := Lib.hid hf
  have HRF := Lib.hid hrf
  have OK := Lib.hid ok
  have FR := Lib.hid fr
  have FO := Lib.hid fo
  clear hf hrf ok fr fo
  have hU := FO.out
  unfold followsP at hU
  rw [if_neg (by omega), if_neg (by omega), if_neg (by omega), if_pos hk] at hU
  obtain ⟨j, hj⟩ : ∃ j : Nat, r.index = h.shot.index + j + 1 := ⟨(r.index - h.shot.index - 1).toNat, by omega⟩
  have HE : Hid (doH h r = { h with log := h.log.take j }) := Lib.hid (by unfold doH; rw [if_neg (by omega), if_neg (by omega), if_neg (by omega), if_pos hk, show (r.index - h.shot.index - 1).toNat = j by omega])
  have e1 : r.index - h.shot.index = (j : Int) + 1 := by omega
  have e2 : (j : Int) + 1 - 1 = (j : Int) := by omega
  have hle : h.shot.index ≤ r.index := by omega
  have hjl : j ≤ h.log.length := by omega
  have HJ := Lib.hid hjl
  have hx0 := Ld.u64_nonneg HWH.out.1.2.2.2.1
  have hw3 := bounds_u64 HRW.out.2.2.2.2.1
  have n1 : (r.kind == 1) = false := beq_eq_false_iff_ne.2 (by omega)
  have n2 : (r.kind == 2) = false := beq_eq_false_iff_ne.2 (by omega)
  have n3 : (r.kind == 3) = false := beq_eq_false_iff_ne.2 (by omega)
  have n4 : (r.kind == 4) = true := beq_iff_eq.2 hk
  clear hk hj hU
  go_enter Try.func17, Try.ntmps17
  go_wp2_with ((with_reducible refine wpList_load_row rfl 32 (.tmp 2) rfl w.heap.size rfl 32 (hArr h (.slice g1 h.shot.nodes.length q1) (.slice g2 h.shot.led.held.length q2) (.slice g3 h.shot.led.last.length q3) (.slice g4 h.log.length q4)) (0, 0) _ HA0.out Try.underlying32 rfl (by kernel_rfl) ?_))
  refine (check_any h _ _ HIH0.out).mono ?_
  rintro e w1 ⟨z1, rfl, hz1, hb1⟩
  obtain rfl : z1 = 0 := by
    rcases hz1 with g | g
    · exact g.1
    · exact absurd OK.out g.2
  clear hz1
  have HA1 := Lib.hid ((hb1.block _ (lt_of_row HA0.out)).trans HA0.out)
  have HB1 := Lib.hid ((hb1.block _ (lt_of_row HB0.out)).trans HB0.out)
  have HC1 := Lib.hid ((hb1.block _ (lt_of_row HC0.out)).trans HC0.out)
  have HBW1 := Lib.hid (HBW0.out.trans (hb1.mono HBW0.out.size))
  have HS1 := Lib.hid (Nat.le_trans HS0.out hb1.size)
  have HIH1 := Lib.hid (HIH0.out.below hb1 (Nat.le_refl _))
  have HIR1 := Lib.hid (HIR0.out.below hb1 (Nat.le_refl _))
  clear hb1
  go_wp2_with ((with_reducible refine wpList_load_rowG rfl 38 (.tmp 3) rfl (w.heap.size + 1) rfl 38 (rArr r (.slice a1 r.ent.cmd.nodes.length b1) (.slice a2 r.shot.nodes.length b2) (.slice a3 r.shot.led.held.length b3) (.slice a4 r.shot.led.last.length b4)) (0, 0) _ HB1.out Try.underlying38 rfl (by kernel_rfl) ?_))
  refine (fits_any r _ _ HIR1.out).mono ?_
  rintro e w2 ⟨t2, rfl, ht2, hb2⟩
  obtain rfl : t2 = true := ht2.2 FR.out
  clear ht2
  have HA2 := Lib.hid ((hb2.block _ (lt_of_row HA1.out)).trans HA1.out)
  have HB2 := Lib.hid ((hb2.block _ (lt_of_row HB1.out)).trans HB1.out)
  have HC2 := Lib.hid ((hb2.block _ (lt_of_row HC1.out)).trans HC1.out)
  have HBW2 := Lib.hid (HBW1.out.trans (hb2.mono HBW1.out.size))
  have HS2 := Lib.hid (Nat.le_trans HS1.out hb2.size)
  have HIH2 := Lib.hid (HIH1.out.below hb2 (Nat.le_refl _))
  have HIR2 := Lib.hid (HIR1.out.below hb2 (Nat.le_refl _))
  clear hb2
  go_wp2_with (first | (with_reducible refine wpList_load_rowG rfl 32 (.tmp 2) rfl w.heap.size rfl 32 (hArr h (.slice g1 h.shot.nodes.length q1) (.slice g2 h.shot.led.held.length q2) (.slice g3 h.shot.led.last.length q3) (.slice g4 h.log.length q4)) (0, 0) _ HA2.out Try.underlying32 rfl (by kernel_rfl) ?_) | (with_reducible refine wpList_load_rowG rfl 38 (.tmp 3) rfl (w.heap.size + 1) rfl 38 (rArr r (.slice a1 r.ent.cmd.nodes.length b1) (.slice a2 r.shot.nodes.length b2) (.slice a3 r.shot.led.held.length b3) (.slice a4 r.shot.led.last.length b4)) (0, 0) _ HB2.out Try.underlying38 rfl (by kernel_rfl) ?_))
  refine (follows_any h _ r _ _ HIH2.out HIR2.out HLA.out).mono ?_
  rintro e w3 ⟨t3, rfl, ht3, hb3⟩
  obtain rfl : t3 = true := ht3.2 FO.out
  clear ht3
  have HA3 := Lib.hid ((hb3.block _ (lt_of_row HA2.out)).trans HA2.out)
  have HB3 := Lib.hid ((hb3.block _ (lt_of_row HB2.out)).trans HB2.out)
  have HC3 := Lib.hid ((hb3.block _ (lt_of_row HC2.out)).trans HC2.out)
  have HBW3 := Lib.hid (HBW2.out.trans (hb3.mono HBW2.out.size))
  have HS3 := Lib.hid (Nat.le_trans HS2.out hb3.size)
  have HIH3 := Lib.hid (HIH2.out.below hb3 (Nat.le_refl _))
  have HIR3 := Lib.hid (HIR2.out.below hb3 (Nat.le_refl _))
  clear hb3
  go_wp2_with ((with_reducible refine wpList_load_row rfl 32 (.tmp 2) rfl w.heap.size rfl 32 (hArr h (.slice g1 h.shot.nodes.length q1) (.slice g2 h.shot.led.held.length q2) (.slice g3 h.shot.led.last.length q3) (.slice g4 h.log.length q4)) (0, 0) _ HA3.out Try.underlying32 rfl (by kernel_rfl) ?_))
  refine (Vc.hard_own h _ _ HIH3.out HF.out).mono ?_
  rintro e w4 ⟨un, uh, ul, ug, rows, rfl, o1, o2, o3, o4, o5, hmap, hb4⟩
  have HA4 := Lib.hid ((hb4.block _ (lt_of_row HA3.out)).trans HA3.out)
  have HB4 := Lib.hid ((hb4.block _ (lt_of_row HB3.out)).trans HB3.out)
  have HC4 := Lib.hid ((hb4.block _ (lt_of_row HC3.out)).trans HC3.out)
  have HBW4 := Lib.hid (HBW3.out.trans (hb4.mono HBW3.out.size))
  have HS4 := Lib.hid (Nat.le_trans HS3.out hb4.size)
  have HIR4 := Lib.hid (HIR3.out.below hb4 (Nat.le_refl _))
  clear hb4
  obtain ⟨k1, m1, rfl, -⟩ := o1.sl HWH.out.2
  obtain ⟨k2, m2, rfl, -⟩ := o2.sl heldC_len
  obtain ⟨k3, m3, rfl, -⟩ := o3.sl lastC_len
  have HOG : Hid (OwnR 9 entC 36 w4 (w.heap.size + 3) ug rows ∧ EntsO w4 (w.heap.size + 3) ug.ownBlock rows) := Lib.hid ⟨o4.lower HS3.out, fun r hr => ⟨OwnK.lower (o5 r hr).1 HS3.out, (o5 r hr).2⟩⟩
  have HMAP := Lib.hid hmap
  have HO123 : Hid (OwnI w4 (w.heap.size + 3) (.slice k1 h.shot.nodes.length m1) h.shot.nodes ∧ OwnR 5 heldC 67 w4 (w.heap.size + 3) (.slice k2 h.shot.led.held.length m2) h.shot.led.held ∧ OwnR 6 lastC 71 w4 (w.heap.size + 3) (.slice k3 h.shot.led.last.length m3) h.shot.led.last) := Lib.hid ⟨OwnK.lower o1 HS3.out, o2.lower HS3.out, o3.lower HS3.out⟩
  obtain ⟨k4, m4, hug, -⟩ := HOG.out.1.sl entC_len
  have hrl : rows.length = h.log.length := by rw [← hmap, List.length_map]
  rw [hrl] at hug
  subst hug
  obtain ⟨W5, hW5⟩ : ∃ q, w4.setRow w.heap.size (hArr h (.slice k1 h.shot.nodes.length m1) (.slice k2 h.shot.led.held.length m2) (.slice k3 h.shot.led.last.length m3) (.slice k4 h.log.length m4)) = q := ⟨_, rfl⟩
  have HRL := Lib.hid hrl
  have HA5 : Hid (W5.heap[w.heap.size]? = some (.cells (hArr h (.slice k1 h.shot.nodes.length m1) (.slice k2 h.shot.led.held.length m2) (.slice k3 h.shot.led.last.length m3) (.slice k4 h.log.length m4)) 32 (0, 0))) := Lib.hid (by rw [← hW5]; exact setRow_heap _ _ _ _ _ _ HA4.out)
  have HB5 : Hid (W5.heap[w.heap.size + 1]? = some (.cells (rArr r (.slice a1 r.ent.cmd.nodes.length b1) (.slice a2 r.shot.nodes.length b2) (.slice a3 r.shot.led.held.length b3) (.slice a4 r.shot.led.last.length b4)) 38 (0, 0))) := Lib.hid (by rw [← hW5]; exact (setRow_other w4 _ _ _ (by omega)).trans HB4.out)
  have HC5 : Hid (W5.heap[w.heap.size + 2]? = some (.cells zH 32 (0, 0))) := Lib.hid (by rw [← hW5]; exact (setRow_other w4 _ _ _ (by omega)).trans HC4.out)
  have HBW5 : Hid (Below w.heap.size w W5) := Lib.hid (by rw [← hW5]; exact Ld.below_row HBW4.out (Nat.le_refl _) _)
  have HS5 : Hid (w.heap.size + 3 ≤ W5.heap.size) := Lib.hid (by rw [← hW5]; simpa using HS4.out)
  have HIR5 : Hid (IsRec W5 (.agg (rArr r (.slice a1 r.ent.cmd.nodes.length b1) (.slice a2 r.shot.nodes.length b2) (.slice a3 r.shot.led.held.length b3) (.slice a4 r.shot.led.last.length b4))) r) := Lib.hid (HIRW.out.below HBW5.out (Nat.le_refl _))
  have HOS5 : Hid (OwnI W5 (w.heap.size + 3) (.slice k1 h.shot.nodes.length m1) h.shot.nodes ∧ OwnR 5 heldC 67 W5 (w.heap.size + 3) (.slice k2 h.shot.led.held.length m2) h.shot.led.held ∧ OwnR 6 lastC 71 W5 (w.heap.size + 3) (.slice k3 h.shot.led.last.length m3) h.shot.led.last) := Lib.hid (by rw [← hW5]; exact ⟨owns_row HO123.out.1 (by omega), owns_row HO123.out.2.1 (by omega), owns_row HO123.out.2.2 (by omega)⟩)
  have HOL5 : Hid (OwnR 9 entC 36 W5 (w.heap.size + 3) (.slice k4 h.log.length m4) rows ∧ EntsO W5 (w.heap.size + 3) (Value.slice k4 h.log.length m4).ownBlock rows) := Lib.hid (by rw [← hW5]; exact ⟨owns_row HOG.out.1 (by omega), fun r hr => ⟨owns_row (HOG.out.2 r hr).1 (by omega), (HOG.out.2 r hr).2⟩⟩)
  have HO5 : Hid (OwnH W5 (w.heap.size + 3) (.slice k1 h.shot.nodes.length m1) (.slice k2 h.shot.led.held.length m2) (.slice k3 h.shot.led.last.length m3) (.slice k4 h.log.length m4) h) := Lib.hid ⟨HOS5.out.1, HOS5.out.2.1, HOS5.out.2.2, by have q := LogP.whole HOL5.out.1 HOL5.out.2; rw [HMAP.out] at q; exact q⟩
  clear o1 o2 o3 o4 o5 hmap hrl
  have hcap := own_cap HOL5.out.1
  unfold maxLen at hcap
  have hjm : j ≤ m4 := by omega
  have c0 := (cells21 HB5.out).1
  have c4 := (cell_of_row W5 _ 4 _ _ _ HB5.out).trans rfl
  have d3 := (cell_of_row W5 _ 3 _ _ _ HA5.out).trans rfl
  have f3 := La.frozen_of (o := 3) HA5.out
  have d10 := (cell_of_row W5 _ 10 _ _ _ HA5.out).trans rfl
  have f10 := La.frozen_of (o := 10) HA5.out
  obtain ⟨W6, hW6⟩ : ∃ q, (W5.setCell ⟨w.heap.size, 10, none⟩ (.slice k4 j m4)) = q := ⟨_, rfl⟩
  have HA6 : Hid (W6.heap[w.heap.size]? = some (.cells (hArr { h with log := h.log.take j } (.slice k1 h.shot.nodes.length m1) (.slice k2 h.shot.led.held.length m2) (.slice k3 h.shot.led.last.length m3) (.slice k4 j m4)) 32 (0, 0))) := Lib.hid (by rw [← hW6, heap_setCell_same W5 w.heap.size 10 _ _ _ HA5.out]; rfl)
  have HC6 : Hid (W6.heap[w.heap.size + 2]? = some (.cells zH 32 (0, 0))) := Lib.hid (by rw [← hW6]; exact (heap_setCell_other _ _ _ _ (by simp)).trans HC5.out)
  have HBW6 : Hid (Below w.heap.size w W6) := Lib.hid (by rw [← hW6]; exact HBW5.out.setCell (Nat.le_refl _) _)
  have HM6 : Hid (∀ e sz v n xs, W5.ownsRow (w.heap.size + 3) e sz v n xs → W6.ownsRow (w.heap.size + 3) e sz v n xs) := Lib.hid (by rw [← hW6]; exact fun e sz v n xs q => owns_cell q (by omega))
  have HO6 : Hid (OwnH W6 (w.heap.size + 3) (.slice k1 h.shot.nodes.length m1) (.slice k2 h.shot.led.held.length m2) (.slice k3 h.shot.led.last.length m3) (.slice k4 j m4) { h with log := h.log.take j }) := Lib.hid (have q := HO5.out.map HM6.out; ⟨q.1, q.2.1, q.2.2.1, q.2.2.2.piece (piece_take HOL5.out.1 HRL.out HJ.out)⟩)
  have HW6 : Hid (HarW { h with log := h.log.take j }) := Lib.hid ⟨HWH.out.1, HWH.out.2⟩
  go_wp2_with (first | (with_reducible refine wpList_store_row rfl 32 (.tmp 2) (.tmp 22) rfl w.heap.size (hArr h (.slice k1 h.shot.nodes.length m1) (.slice k2 h.shot.led.held.length m2) (.slice k3 h.shot.led.last.length m3) (.slice k4 h.log.length m4)) rfl rfl 32 _ HA4.out (by kernel_rfl) rfl (hArr_one _ _ _ _ _ _ _ _ _ _ _ _ _) ?_; rw [hW5]) | (with_reducible refine wpList_load_row rfl 32 (.tmp 2) rfl w.heap.size rfl 32 (hArr { h with log := h.log.take j } (.slice k1 h.shot.nodes.length m1) (.slice k2 h.shot.led.held.length m2) (.slice k3 h.shot.led.last.length m3) (.slice k4 j m4)) (0, 0) _ HA6.out Try.underlying32 rfl (by kernel_rfl) ?_))
  refine (check_any { h with log := h.log.take j } _ _ (HO6.out.hard HW6.out)).mono ?_
  rintro e w7 ⟨z7, rfl, hz7, hb7⟩
  have HA7 := Lib.hid ((hb7.block _ (lt_of_row HA6.out)).trans HA6.out)
  have HC7 := Lib.hid ((hb7.block _ (lt_of_row HC6.out)).trans HC6.out)
  have HBW7 := Lib.hid (HBW6.out.trans (hb7.mono HBW6.out.size))
  have OW7 := Lib.hid (HO6.out.map fun e sz v n xs q => owns_below hb7 q)
  clear hb7
  rcases hz7 with ⟨rfl, hok⟩ | ⟨rfl, hno⟩
  · have FIN := Lib.hid (did_yes HE.out OK.out FR.out FO.out hok OW7.out HW6.out HBW7.out)
    clear hok
    go_wp2_with (first | (with_reducible refine wpList_load_row rfl 32 (.tmp 2) rfl w.heap.size rfl 32 (hArr { h with log := h.log.take j } (.slice k1 h.shot.nodes.length m1) (.slice k2 h.shot.led.held.length m2) (.slice k3 h.shot.led.last.length m3) (.slice k4 j m4)) (0, 0) _ HA7.out Try.underlying32 rfl (by kernel_rfl) ?_) | (with_reducible refine wpList_store_row rfl 32 (.tmp 4) (.tmp 76) rfl (w.heap.size + 2) (hArr { h with log := h.log.take j } (.slice k1 h.shot.nodes.length m1) (.slice k2 h.shot.led.held.length m2) (.slice k3 h.shot.led.last.length m3) (.slice k4 j m4)) rfl rfl 32 _ HC7.out (by kernel_rfl) rfl (hArr_one _ _ _ _ _ _ _ _ _ _ _ _ _) ?_))
    exact bodyPost_ret (v := .tuple #[.agg (hArr { h with log := h.log.take j } (.slice k1 h.shot.nodes.length m1) (.slice k2 h.shot.led.held.length m2) (.slice k3 h.shot.led.last.length m3) (.slice k4 j m4)), .int .i64 0]) (results_ct rfl _ _ (w.heap.size + 2) 32 _ (0, 0) _ rfl (setRow_heap _ _ _ _ _ _ HC7.out) Try.underlying32 rfl (by kernel_rfl) rfl) rfl FIN.out
  · have FIN := Lib.hid (did_no (h := h) (r := r) (fun g => hno (by have q := g.2.2.2; rw [HE.out] at q; exact q)) HBW7.out)
    clear hno
    go_wp2_with ((with_reducible refine wpList_store_row rfl 32 (.tmp 4) (.tmp 75) rfl (w.heap.size + 2) zH rfl rfl 32 _ HC7.out (by kernel_rfl) rfl zH_one ?_))
    exact bodyPost_ret (v := .tuple #[.agg zH, .int .i64 130]) (results_ct rfl _ _ (w.heap.size + 2) 32 _ (0, 0) _ rfl (setRow_heap _ _ _ _ _ _ HC7.out) Try.underlying32 rfl (by kernel_rfl) rfl) rfl FIN.out
end Rc
end Go.Proofs.Ytgadbghlcejkfaa
