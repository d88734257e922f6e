/- The law RlogShots returns true for all that may be read as what lasts, and any two indexes: with the snapshot at some index as a record, the last index and term, and the snapshot at any index from there on, are what they were. No condition. -/
import Derived.Test.YtgadbghlcejkfaaBse
import Derived.Test.YtgadbghlcejkfaaAtJ
import Derived.Test.YtgadbghlcejkfaaSmE
import Derived.Deep.MidRow
namespace Go.Proofs.Ytgadbghlcejkfaa.rlogShots
open Go.ChangeShapes Go.WideShapes Go.ChangeAt Go.RowKit
open Go.ChangeMaps (open_string shut_string)
set_option linter.unusedVariables false

theorem own : ownKnob Try.prog.godebug = none := by kernel_rfl
theorem laidOut : laidOutB Try.prog = true := by kernel_rfl

open Rc Hd Rl Go.Deep
set_option maxHeartbeats 3000000 in
theorem walk (v0 : Value) (x0 : Har) (a1 : Int) (a2 : Int) (w : World) (w0 : IsHard w v0 x0) (b0 : IsHard.fits x0) (w1 : (Lit.int .u64 a1).wf = true) (w2 : (Lit.int .u64 a2).wf = true) :
    Calls Try.prog 10 #[v0, .int .u64 a1, .int .u64 a2] w fun e w' => e = .returned (.bool true) ∧ Below w.heap.size w w' := by
  obtain ⟨vn, vh, vl, vg, rfl, -⟩ := id w0
  obtain ⟨W0, hW0⟩ : ∃ q, w.alloc (.cells (hArr x0 vn vh vl vg) 32) = q := ⟨_, rfl⟩
  have hb0 : Below w.heap.size w W0 := by rw [← hW0]; exact (Below.refl _ _).alloc (Nat.le_refl _) _
  have HA0 : Hid (W0.heap[w.heap.size]? = some (.cells (hArr x0 vn vh vl vg) 32 (0, 0))) := Lib.hid (by rw [← hW0]; exact heap_alloc_new _ _)
  have HB0 := Lib.hid hb0
  have HI0 := Lib.hid (w0.below hb0 (Nat.le_refl _))
  have HF := Lib.hid b0
  have HW := Lib.hid (IsHard.harW w0)
  have HEW := Lib.hid (At.ents_w w0)
  have HU := Lib.hid w1
  have B1 := Lib.hid (bounds_u64 w1)
  have HV := Lib.hid w2
  have B2 := Lib.hid (bounds_u64 w2)
  clear w0 b0 hb0 w1 w2
  go_enter Try.func10, Try.ntmps10
  go_wp2_with fail
  refine (Rl.live_any _).mono ?_
  rintro e wa ⟨rfl, hb1⟩
  have HB1 := Lib.hid (HB0.out.trans (hb1.mono HB0.out.size))
  have HA1 := Lib.hid ((hb1.block _ (lt_of_row HA0.out)).trans HA0.out)
  have HI1 := Lib.hid (HI0.out.below hb1 (Nat.le_refl _))
  clear hb1 HA0 HI0
  go_wp2_with (first | (with_reducible refine wpList_load_row rfl 32 (.tmp 3) rfl w.heap.size rfl 32 (hArr x0 vn vh vl vg) (0, 0) _ HA1.out Try.underlying32 rfl (by kernel_rfl) ?_) | fail)
  refine (At.atE_any x0 _ a1 _ HI1.out HF.out B1.out.1 B1.out.2).mono ?_
  rintro e wb ⟨s, z, v1, v2, v3, rfl, hd, o1, o2, o3, hcw, hb2⟩
  have HSW := Lib.hid (At.at_shot HW.out HEW.out HU.out hd)
  obtain ⟨p1, pk1, rfl, -⟩ := o1.sl hcw
  obtain ⟨p2, pk2, rfl, -⟩ := o2.sl heldC_len
  obtain ⟨p3, pk3, rfl, -⟩ := o3.sl lastC_len
  have hst : (wb.alloc (.cells At.zSA 29)).heap[wb.heap.size]? = some (.cells At.zSA 29 (0, 0)) := heap_alloc_new _ _
  obtain ⟨W2, hW2⟩ : ∃ q, (wb.alloc (.cells At.zSA 29)).setRow wb.heap.size (sArr s (.slice p1 s.nodes.length pk1) (.slice p2 s.led.held.length pk2) (.slice p3 s.led.last.length pk3)) = q := ⟨_, rfl⟩
  have HX8 : Hid (W2.heap[wb.heap.size]? = some (.cells (sArr s (.slice p1 s.nodes.length pk1) (.slice p2 s.led.held.length pk2) (.slice p3 s.led.last.length pk3)) 29 (0, 0))) := Lib.hid (by rw [← hW2]; exact setRow_heap _ _ _ _ _ _ hst)
  have hbx : Below wb.heap.size wb W2 := by rw [← hW2]; exact Ld.below_row ((Below.refl _ _).alloc (Nat.le_refl _) _) (Nat.le_refl _) _
  have hb12 := hb2.trans (hbx.mono hb2.size)
  have HB2 := Lib.hid (HB1.out.trans (hb12.mono HB1.out.size))
  have HA2 := Lib.hid ((hb12.block _ (lt_of_row HA1.out)).trans HA1.out)
  have HI2 := Lib.hid (HI1.out.below hb12 (Nat.le_refl _))
  have HOA : Hid (OwnI W2 wa.heap.size (.slice p1 s.nodes.length pk1) s.nodes ∧ OwnR 5 heldC 67 W2 wa.heap.size (.slice p2 s.led.held.length pk2) s.led.held ∧ OwnR 6 lastC 71 W2 wa.heap.size (.slice p3 s.led.last.length pk3) s.led.last) := Lib.hid ⟨owns_below hbx o1, owns_below hbx o2, owns_below hbx o3⟩
  have HCW := Lib.hid hcw
  clear o1 o2 o3 hcw hb2 hbx hb12 HA1 HI1
  rcases hd with ⟨rfl, ok, hin, hs⟩ | ⟨rfl, -, -⟩ | ⟨rfl, -, -, -⟩
  · obtain ⟨HSO, HCAN, hlast, hss⟩ := At.shots_same ok HW.out HEW.out hin
    obtain ⟨x, hx⟩ : ∃ q, q = doH x0 (At.shR (At.atS x0 a1)) := ⟨_, rfl⟩
    have HFX : Hid (IsHard.fits x) := Lib.hid (by rw [hx]; exact At.doR_fits HF.out HSO)
    rw [← hx] at hlast hss
    have HSS := Lib.hid hss
    have HLA := Lib.hid hlast
    have HCA := Lib.hid HCAN
    have HSO' := Lib.hid HSO
    have HHX := Lib.hid hx
    have HSE := Lib.hid hs
    clear hss hlast HCAN HSO hx
    have HR2 : Hid (IsRec W2 (.agg (rArr (At.shR s) (.slice none 0 0) (.slice p1 s.nodes.length pk1) (.slice p2 s.led.held.length pk2) (.slice p3 s.led.last.length pk3))) (At.shR s)) := Lib.hid (At.shR_is (OwnK.sl HOA.out.1 HCW.out) (HOA.out.2.1.sl heldC_len) (HOA.out.2.2.sl lastC_len) HSW.out)
    have HRF : Hid (IsRec.fits (At.shR s)) := Lib.hid (by rw [HSE.out]; exact At.shR_fits HSO'.out)
    clear hs ok hin
    go_wp2_with (first | (with_reducible refine wpList_store_row rfl 29 (.tmp 8) (.tmp 25) rfl wb.heap.size (sArr s (.slice p1 s.nodes.length pk1) (.slice p2 s.led.held.length pk2) (.slice p3 s.led.last.length pk3)) rfl rfl 29 _ hst (by kernel_rfl) rfl (Sh.sArr_one _ _ _ _ _ _ _ _ _ _) ?_; rw [hW2]; clear hW2 hst) | (with_reducible refine wpList_load_row rfl 32 (.tmp 3) rfl w.heap.size rfl 32 (hArr x0 vn vh vl vg) (0, 0) _ HA2.out Try.underlying32 rfl (by kernel_rfl) ?_) | (with_reducible refine wpList_load_row rfl 29 (.tmp 8) rfl wb.heap.size rfl 29 (sArr s (.slice p1 s.nodes.length pk1) (.slice p2 s.led.held.length pk2) (.slice p3 s.led.last.length pk3)) (0, 0) _ HX8.out Try.underlying29 rfl (by kernel_rfl) ?_))
    refine (Rc.do_any x0 _ (At.shR s) _ _ HI2.out HF.out HR2.out HRF.out).mono ?_
    rintro e wc ⟨z2, x', un, uh, ul, ug, rfl, hd2, own, hw2, hb3⟩
    obtain ⟨rfl, rfl⟩ : z2 = 0 ∧ x' = x := by
      rw [HSE.out] at hd2
      rcases hd2 with ⟨q1, -, q2⟩ | ⟨-, q2, -⟩
      · exact ⟨q1, q2.trans HHX.out.symm⟩
      · exact absurd HCA.out q2
    obtain ⟨x, hxx⟩ : ∃ q, q = x' := ⟨_, rfl⟩
    subst hxx
    obtain ⟨q1, qk1, rfl, -⟩ := own.1.sl hw2.2
    obtain ⟨q2, qk2, rfl, -⟩ := own.2.1.sl heldC_len
    obtain ⟨q3, qk3, rfl, -⟩ := own.2.2.1.sl lastC_len
    obtain ⟨q4, qk4, rfl, -⟩ := IsLog.len own.2.2.2.log
    have hst : (wc.alloc (.cells zH 32)).heap[wc.heap.size]? = some (.cells zH 32 (0, 0)) := heap_alloc_new _ _
    obtain ⟨W3, hW3⟩ : ∃ q, (wc.alloc (.cells zH 32)).setRow wc.heap.size (hArr x (.slice q1 x.shot.nodes.length qk1) (.slice q2 x.shot.led.held.length qk2) (.slice q3 x.shot.led.last.length qk3) (.slice q4 x.log.length qk4)) = q := ⟨_, rfl⟩
    have HX10 : Hid (W3.heap[wc.heap.size]? = some (.cells (hArr x (.slice q1 x.shot.nodes.length qk1) (.slice q2 x.shot.led.held.length qk2) (.slice q3 x.shot.led.last.length qk3) (.slice q4 x.log.length qk4)) 32 (0, 0))) := Lib.hid (by rw [← hW3]; exact setRow_heap _ _ _ _ _ _ hst)
    have hbx : Below wc.heap.size wc W3 := by rw [← hW3]; exact Ld.below_row ((Below.refl _ _).alloc (Nat.le_refl _) _) (Nat.le_refl _) _
    have hb23 := hb3.trans (hbx.mono hb3.size)
    have HB3 := Lib.hid (HB2.out.trans (hb23.mono HB2.out.size))
    have HA3 := Lib.hid ((hb23.block _ (lt_of_row HA2.out)).trans HA2.out)
    have HI3 := Lib.hid (HI2.out.below hb23 (Nat.le_refl _))
    have HY3 := Lib.hid ((OwnH.map own fun e sz v n xs q => owns_below hbx q).hard hw2)
    clear own hw2 hd2 hb3 hbx hb23 HA2 HI2 HOA HX8 HR2 HRF HSE HHX HCA HSO' HSW HCW
    go_wp2_with (first | (with_reducible refine wpList_store_row rfl 32 (.tmp 10) (.tmp 35) rfl wc.heap.size (hArr x (.slice q1 x.shot.nodes.length qk1) (.slice q2 x.shot.led.held.length qk2) (.slice q3 x.shot.led.last.length qk3) (.slice q4 x.log.length qk4)) rfl rfl 32 _ hst (by kernel_rfl) rfl (Hd.hArr_one _ _ _ _ _ _ _ _ _ _ _ _ _) ?_; rw [hW3]; clear hW3 hst) | (with_reducible refine wpList_load_row rfl 32 (.tmp 3) rfl w.heap.size rfl 32 (hArr x0 vn vh vl vg) (0, 0) _ HA3.out Try.underlying32 rfl (by kernel_rfl) ?_))
    refine (Rl.last_any2 x0 _ _ HI3.out).mono ?_
    rintro e wd ⟨rfl, hb4⟩
    have HB4 := Lib.hid (HB3.out.trans (hb4.mono HB3.out.size))
    have HA4 := Lib.hid ((hb4.block _ (lt_of_row HA3.out)).trans HA3.out)
    have HXX4 := Lib.hid ((hb4.block _ (lt_of_row HX10.out)).trans HX10.out)
    have HI4 := Lib.hid (HI3.out.below hb4 (Nat.le_refl _))
    have HY4 := Lib.hid (HY3.out.below hb4 (Nat.le_refl _))
    clear hb4 HA3 HX10 HI3 HY3
    go_wp2_with (first | (with_reducible refine wpList_load_row rfl 32 (.tmp 10) rfl wc.heap.size rfl 32 (hArr x (.slice q1 x.shot.nodes.length qk1) (.slice q2 x.shot.led.held.length qk2) (.slice q3 x.shot.led.last.length qk3) (.slice q4 x.log.length qk4)) (0, 0) _ HXX4.out Try.underlying32 rfl (by kernel_rfl) ?_) | fail)
    refine (Rl.last_any2 x _ _ HY4.out).mono ?_
    rintro e we ⟨rfl, hb5⟩
    rw [HLA.out]
    obtain ⟨L1, hL1⟩ : ∃ q, (lastV x0).1 = q := ⟨_, rfl⟩
    obtain ⟨L2, hL2⟩ : ∃ q, (lastV x0).2 = q := ⟨_, rfl⟩
    rw [hL1, hL2]
    have n1 : (L1 != L1) = false := by simp
    have n2 : (L2 != L2) = false := by simp
    have HB5 := Lib.hid (HB4.out.trans (hb5.mono HB4.out.size))
    have HA5 := Lib.hid ((hb5.block _ (lt_of_row HA4.out)).trans HA4.out)
    have HXX5 := Lib.hid ((hb5.block _ (lt_of_row HXX4.out)).trans HXX4.out)
    have HI5 := Lib.hid (HI4.out.below hb5 (Nat.le_refl _))
    have HY5 := Lib.hid (HY4.out.below hb5 (Nat.le_refl _))
    clear hb5 HA4 HXX4 HI4 HY4
    by_cases hp : a2 < a1
    · go_wp2_with (first | (with_reducible refine wpList_load_row rfl 32 (.tmp 3) rfl w.heap.size rfl 32 (hArr x0 vn vh vl vg) (0, 0) _ HA5.out Try.underlying32 rfl (by kernel_rfl) ?_) | fail)
      refine (At.atE_any x0 _ a1 _ HI5.out HF.out B1.out.1 B1.out.2).mono ?_
      rintro e wf ⟨t, z3, v1, v2, v3, rfl, hd3, o1, o2, o3, hcw, hb6⟩
      have HTW := Lib.hid (At.at_shot HW.out HEW.out HU.out hd3)
      obtain ⟨c1, ck1, rfl, -⟩ := o1.sl hcw
      obtain ⟨c2, ck2, rfl, -⟩ := o2.sl heldC_len
      obtain ⟨c3, ck3, rfl, -⟩ := o3.sl lastC_len
      have hst : (wf.alloc (.cells At.zSA 29)).heap[wf.heap.size]? = some (.cells At.zSA 29 (0, 0)) := heap_alloc_new _ _
      obtain ⟨W6, hW6⟩ : ∃ q, (wf.alloc (.cells At.zSA 29)).setRow wf.heap.size (sArr t (.slice c1 t.nodes.length ck1) (.slice c2 t.led.held.length ck2) (.slice c3 t.led.last.length ck3)) = q := ⟨_, rfl⟩
      have HX16 : Hid (W6.heap[wf.heap.size]? = some (.cells (sArr t (.slice c1 t.nodes.length ck1) (.slice c2 t.led.held.length ck2) (.slice c3 t.led.last.length ck3)) 29 (0, 0))) := Lib.hid (by rw [← hW6]; exact setRow_heap _ _ _ _ _ _ hst)
      have hbx : Below wf.heap.size wf W6 := by rw [← hW6]; exact Ld.below_row ((Below.refl _ _).alloc (Nat.le_refl _) _) (Nat.le_refl _) _
      have hb56 := hb6.trans (hbx.mono hb6.size)
      have HB6 := Lib.hid (HB5.out.trans (hb56.mono HB5.out.size))
      have HXX6 := Lib.hid ((hb56.block _ (lt_of_row HXX5.out)).trans HXX5.out)
      have HY6 := Lib.hid (HY5.out.below hb56 (Nat.le_refl _))
      have HT6 : Hid (IsShot W6 (.agg (sArr t (.slice c1 t.nodes.length ck1) (.slice c2 t.led.held.length ck2) (.slice c3 t.led.last.length ck3))) t) := Lib.hid ⟨_, _, _, rfl, (OwnK.below o1 hbx (Nat.le_refl _)).sl hcw, (o2.below hbx (Nat.le_refl _)).sl heldC_len, (o3.below hbx (Nat.le_refl _)).sl lastC_len, HTW.out⟩
      have HD3 := Lib.hid hd3
      clear o1 o2 o3 hcw hd3 hb6 hbx hb56 HXX5 HY5 HA5 HI5
      go_wp2_with (first | (with_reducible refine wpList_store_row rfl 29 (.tmp 16) (.tmp 65) rfl wf.heap.size (sArr t (.slice c1 t.nodes.length ck1) (.slice c2 t.led.held.length ck2) (.slice c3 t.led.last.length ck3)) rfl rfl 29 _ hst (by kernel_rfl) rfl (Sh.sArr_one _ _ _ _ _ _ _ _ _ _) ?_; rw [hW6]; clear hW6 hst) | (with_reducible refine wpList_load_row rfl 32 (.tmp 10) rfl wc.heap.size rfl 32 (hArr x (.slice q1 x.shot.nodes.length qk1) (.slice q2 x.shot.led.held.length qk2) (.slice q3 x.shot.led.last.length qk3) (.slice q4 x.log.length qk4)) (0, 0) _ HXX6.out Try.underlying32 rfl (by kernel_rfl) ?_))
      refine (At.atE_any x _ a1 _ HY6.out HFX.out B1.out.1 B1.out.2).mono ?_
      rintro e wg ⟨t', z4, v1', v2', v3', rfl, hd4, o1, o2, o3, hcw, hb7⟩
      obtain ⟨rfl, rfl⟩ := HSS.out a1 z3 z4 t t' (Int.le_refl _) HD3.out hd4
      obtain ⟨t, htt⟩ : ∃ q, q = t' := ⟨_, rfl⟩
      subst htt
      obtain ⟨d1, dk1, rfl, -⟩ := o1.sl hcw
      obtain ⟨d2, dk2, rfl, -⟩ := o2.sl heldC_len
      obtain ⟨d3, dk3, rfl, -⟩ := o3.sl lastC_len
      have hst : (wg.alloc (.cells At.zSA 29)).heap[wg.heap.size]? = some (.cells At.zSA 29 (0, 0)) := heap_alloc_new _ _
      obtain ⟨W7, hW7⟩ : ∃ q, (wg.alloc (.cells At.zSA 29)).setRow wg.heap.size (sArr t (.slice d1 t.nodes.length dk1) (.slice d2 t.led.held.length dk2) (.slice d3 t.led.last.length dk3)) = q := ⟨_, rfl⟩
      have HX18 : Hid (W7.heap[wg.heap.size]? = some (.cells (sArr t (.slice d1 t.nodes.length dk1) (.slice d2 t.led.held.length dk2) (.slice d3 t.led.last.length dk3)) 29 (0, 0))) := Lib.hid (by rw [← hW7]; exact setRow_heap _ _ _ _ _ _ hst)
      have hbx : Below wg.heap.size wg W7 := by rw [← hW7]; exact Ld.below_row ((Below.refl _ _).alloc (Nat.le_refl _) _) (Nat.le_refl _) _
      have hb67 := hb7.trans (hbx.mono hb7.size)
      have HB7 := Lib.hid (HB6.out.trans (hb67.mono HB6.out.size))
      have HX167 := Lib.hid ((hb67.block _ (lt_of_row HX16.out)).trans HX16.out)
      have HT7 := Lib.hid (HT6.out.below hb67 (Nat.le_refl _))
      have HS7 : Hid (IsShot W7 (.agg (sArr t (.slice d1 t.nodes.length dk1) (.slice d2 t.led.held.length dk2) (.slice d3 t.led.last.length dk3))) t) := Lib.hid ⟨_, _, _, rfl, (OwnK.below o1 hbx (Nat.le_refl _)).sl hcw, (o2.below hbx (Nat.le_refl _)).sl heldC_len, (o3.below hbx (Nat.le_refl _)).sl lastC_len, HTW.out⟩
      have ez : (z4 == z4) = true := beq_iff_eq.2 rfl
      clear o1 o2 o3 hcw hd4 hb7 hbx hb67 HXX6 HY6 HX16 HT6 HD3
      go_wp2_with (first | (with_reducible refine wpList_store_row rfl 29 (.tmp 18) (.tmp 71) rfl wg.heap.size (sArr t (.slice d1 t.nodes.length dk1) (.slice d2 t.led.held.length dk2) (.slice d3 t.led.last.length dk3)) rfl rfl 29 _ hst (by kernel_rfl) rfl (Sh.sArr_one _ _ _ _ _ _ _ _ _ _) ?_; rw [hW7]; clear hW7 hst) | (with_reducible refine wpList_load_rowG rfl 29 (.tmp 16) rfl wf.heap.size rfl 29 (sArr t (.slice c1 t.nodes.length ck1) (.slice c2 t.led.held.length ck2) (.slice c3 t.led.last.length ck3)) (0, 0) _ HX167.out Try.underlying29 rfl (by kernel_rfl) ?_) | (with_reducible refine wpList_load_rowG rfl 29 (.tmp 18) rfl wg.heap.size rfl 29 (sArr t (.slice d1 t.nodes.length dk1) (.slice d2 t.led.held.length dk2) (.slice d3 t.led.last.length dk3)) (0, 0) _ HX18.out Try.underlying29 rfl (by kernel_rfl) ?_))
      refine (Sh.same_any t _ _ _ HT7.out HS7.out).mono ?_
      rintro e wr ⟨rfl, hb8⟩
      go_wp2
      go_ret
      exact ⟨rfl, HB7.out.trans (hb8.mono HB7.out.size)⟩
    · go_wp2_with (first | (with_reducible refine wpList_load_row rfl 32 (.tmp 3) rfl w.heap.size rfl 32 (hArr x0 vn vh vl vg) (0, 0) _ HA5.out Try.underlying32 rfl (by kernel_rfl) ?_) | fail)
      refine (At.atE_any x0 _ a2 _ HI5.out HF.out B2.out.1 B2.out.2).mono ?_
      rintro e wf ⟨t, z3, v1, v2, v3, rfl, hd3, o1, o2, o3, hcw, hb6⟩
      have HTW := Lib.hid (At.at_shot HW.out HEW.out HV.out hd3)
      obtain ⟨c1, ck1, rfl, -⟩ := o1.sl hcw
      obtain ⟨c2, ck2, rfl, -⟩ := o2.sl heldC_len
      obtain ⟨c3, ck3, rfl, -⟩ := o3.sl lastC_len
      have hst : (wf.alloc (.cells At.zSA 29)).heap[wf.heap.size]? = some (.cells At.zSA 29 (0, 0)) := heap_alloc_new _ _
      obtain ⟨W6, hW6⟩ : ∃ q, (wf.alloc (.cells At.zSA 29)).setRow wf.heap.size (sArr t (.slice c1 t.nodes.length ck1) (.slice c2 t.led.held.length ck2) (.slice c3 t.led.last.length ck3)) = q := ⟨_, rfl⟩
      have HX16 : Hid (W6.heap[wf.heap.size]? = some (.cells (sArr t (.slice c1 t.nodes.length ck1) (.slice c2 t.led.held.length ck2) (.slice c3 t.led.last.length ck3)) 29 (0, 0))) := Lib.hid (by rw [← hW6]; exact setRow_heap _ _ _ _ _ _ hst)
      have hbx : Below wf.heap.size wf W6 := by rw [← hW6]; exact Ld.below_row ((Below.refl _ _).alloc (Nat.le_refl _) _) (Nat.le_refl _) _
      have hb56 := hb6.trans (hbx.mono hb6.size)
      have HB6 := Lib.hid (HB5.out.trans (hb56.mono HB5.out.size))
      have HXX6 := Lib.hid ((hb56.block _ (lt_of_row HXX5.out)).trans HXX5.out)
      have HY6 := Lib.hid (HY5.out.below hb56 (Nat.le_refl _))
      have HT6 : Hid (IsShot W6 (.agg (sArr t (.slice c1 t.nodes.length ck1) (.slice c2 t.led.held.length ck2) (.slice c3 t.led.last.length ck3))) t) := Lib.hid ⟨_, _, _, rfl, (OwnK.below o1 hbx (Nat.le_refl _)).sl hcw, (o2.below hbx (Nat.le_refl _)).sl heldC_len, (o3.below hbx (Nat.le_refl _)).sl lastC_len, HTW.out⟩
      have HD3 := Lib.hid hd3
      clear o1 o2 o3 hcw hd3 hb6 hbx hb56 HXX5 HY5 HA5 HI5
      go_wp2_with (first | (with_reducible refine wpList_store_row rfl 29 (.tmp 16) (.tmp 65) rfl wf.heap.size (sArr t (.slice c1 t.nodes.length ck1) (.slice c2 t.led.held.length ck2) (.slice c3 t.led.last.length ck3)) rfl rfl 29 _ hst (by kernel_rfl) rfl (Sh.sArr_one _ _ _ _ _ _ _ _ _ _) ?_; rw [hW6]; clear hW6 hst) | (with_reducible refine wpList_load_row rfl 32 (.tmp 10) rfl wc.heap.size rfl 32 (hArr x (.slice q1 x.shot.nodes.length qk1) (.slice q2 x.shot.led.held.length qk2) (.slice q3 x.shot.led.last.length qk3) (.slice q4 x.log.length qk4)) (0, 0) _ HXX6.out Try.underlying32 rfl (by kernel_rfl) ?_))
      refine (At.atE_any x _ a2 _ HY6.out HFX.out B2.out.1 B2.out.2).mono ?_
      rintro e wg ⟨t', z4, v1', v2', v3', rfl, hd4, o1, o2, o3, hcw, hb7⟩
      obtain ⟨rfl, rfl⟩ := HSS.out a2 z3 z4 t t' hp HD3.out hd4
      obtain ⟨t, htt⟩ : ∃ q, q = t' := ⟨_, rfl⟩
      subst htt
      obtain ⟨d1, dk1, rfl, -⟩ := o1.sl hcw
      obtain ⟨d2, dk2, rfl, -⟩ := o2.sl heldC_len
      obtain ⟨d3, dk3, rfl, -⟩ := o3.sl lastC_len
      have hst : (wg.alloc (.cells At.zSA 29)).heap[wg.heap.size]? = some (.cells At.zSA 29 (0, 0)) := heap_alloc_new _ _
      obtain ⟨W7, hW7⟩ : ∃ q, (wg.alloc (.cells At.zSA 29)).setRow wg.heap.size (sArr t (.slice d1 t.nodes.length dk1) (.slice d2 t.led.held.length dk2) (.slice d3 t.led.last.length dk3)) = q := ⟨_, rfl⟩
      have HX18 : Hid (W7.heap[wg.heap.size]? = some (.cells (sArr t (.slice d1 t.nodes.length dk1) (.slice d2 t.led.held.length dk2) (.slice d3 t.led.last.length dk3)) 29 (0, 0))) := Lib.hid (by rw [← hW7]; exact setRow_heap _ _ _ _ _ _ hst)
      have hbx : Below wg.heap.size wg W7 := by rw [← hW7]; exact Ld.below_row ((Below.refl _ _).alloc (Nat.le_refl _) _) (Nat.le_refl _) _
      have hb67 := hb7.trans (hbx.mono hb7.size)
      have HB7 := Lib.hid (HB6.out.trans (hb67.mono HB6.out.size))
      have HX167 := Lib.hid ((hb67.block _ (lt_of_row HX16.out)).trans HX16.out)
      have HT7 := Lib.hid (HT6.out.below hb67 (Nat.le_refl _))
      have HS7 : Hid (IsShot W7 (.agg (sArr t (.slice d1 t.nodes.length dk1) (.slice d2 t.led.held.length dk2) (.slice d3 t.led.last.length dk3))) t) := Lib.hid ⟨_, _, _, rfl, (OwnK.below o1 hbx (Nat.le_refl _)).sl hcw, (o2.below hbx (Nat.le_refl _)).sl heldC_len, (o3.below hbx (Nat.le_refl _)).sl lastC_len, HTW.out⟩
      have ez : (z4 == z4) = true := beq_iff_eq.2 rfl
      clear o1 o2 o3 hcw hd4 hb7 hbx hb67 HXX6 HY6 HX16 HT6 HD3
      go_wp2_with (first | (with_reducible refine wpList_store_row rfl 29 (.tmp 18) (.tmp 71) rfl wg.heap.size (sArr t (.slice d1 t.nodes.length dk1) (.slice d2 t.led.held.length dk2) (.slice d3 t.led.last.length dk3)) rfl rfl 29 _ hst (by kernel_rfl) rfl (Sh.sArr_one _ _ _ _ _ _ _ _ _ _) ?_; rw [hW7]; clear hW7 hst) | (with_reducible refine wpList_load_rowG rfl 29 (.tmp 16) rfl wf.heap.size rfl 29 (sArr t (.slice c1 t.nodes.length ck1) (.slice c2 t.led.held.length ck2) (.slice c3 t.led.last.length ck3)) (0, 0) _ HX167.out Try.underlying29 rfl (by kernel_rfl) ?_) | (with_reducible refine wpList_load_rowG rfl 29 (.tmp 18) rfl wg.heap.size rfl 29 (sArr t (.slice d1 t.nodes.length dk1) (.slice d2 t.led.held.length dk2) (.slice d3 t.led.last.length dk3)) (0, 0) _ HX18.out Try.underlying29 rfl (by kernel_rfl) ?_))
      refine (Sh.same_any t _ _ _ HT7.out HS7.out).mono ?_
      rintro e wr ⟨rfl, hb8⟩
      go_wp2
      go_ret
      exact ⟨rfl, HB7.out.trans (hb8.mono HB7.out.size)⟩
  · go_wp2_with (first | (with_reducible refine wpList_store_row rfl 29 (.tmp 8) (.tmp 25) rfl wb.heap.size (sArr s (.slice p1 s.nodes.length pk1) (.slice p2 s.led.held.length pk2) (.slice p3 s.led.last.length pk3)) rfl rfl 29 _ hst (by kernel_rfl) rfl (Sh.sArr_one _ _ _ _ _ _ _ _ _ _) ?_; rw [hW2]; clear hW2 hst) | fail)
    go_ret
    exact ⟨rfl, HB2.out⟩
  · go_wp2_with (first | (with_reducible refine wpList_store_row rfl 29 (.tmp 8) (.tmp 25) rfl wb.heap.size (sArr s (.slice p1 s.nodes.length pk1) (.slice p2 s.led.held.length pk2) (.slice p3 s.led.last.length pk3)) rfl rfl 29 _ hst (by kernel_rfl) rfl (Sh.sArr_one _ _ _ _ _ _ _ _ _ _) ?_; rw [hW2]; clear hW2 hst) | fail)
    go_ret
    exact ⟨rfl, HB2.out⟩

set_option maxRecDepth 100000 in
theorem contract (H : Type) (enc : TypeId × Value → H) (W : World) (base : Nat) (args : Array Value) (ds gs : List (DataW H)) (before : List MemPlace)
    (hval0 : ∀ (j : Nat) t v, Try.f10.params[j]? = some t → args[j]? = some v → Value.okWide Try.prog W .any base t v)
    (hW : DataW.Whole enc Try.prog Try.f10.params.toList Rows.rlogShotsSpec.vars false W args.toList ds gs before)
    (hsz0 : (DataW.weightsEach Try.prog (Try.f10.params.toList ++ Rows.rlogShotsSpec.plain.varTypes Try.prog) (ds ++ gs)).all (· ≤ reachBytes) = true) :
    Calls Try.prog 10 args W fun e W' => ∃ v, e = .returned v ∧ Rows.rlogShotsSpec.post enc Try.prog Try.f10 false true false false W args v W' := by
  have hval : ∀ (j : Nat) t v, Try.f10.params[j]? = some t → args[j]? = some v → Value.okWide Try.prog W .any base t v := hval0
  have hW' := hW
  obtain ⟨p, q, hA0, hV, rfl, hfz, hnd⟩ := hW
  have hA : DataW.TrodAll enc Try.prog W 0 (fun _ => true) true Try.f10.params.toList args.toList ds p := hA0
  rw [Try.params10] at hA hval
  have hsz := hsz0
  rw [Try.params10] at hsz
  obtain ⟨v0, vs0, d0, ds0, p0, q0, hargs, rfl, rfl, h0, r0⟩ := trodAll_cons hA
  obtain ⟨v1, vs1, d1, ds1, p1, q1, rfl, rfl, rfl, h1, r1⟩ := trodAll_cons r0
  obtain ⟨v2, vs2, d2, ds2, p2, q2, rfl, rfl, rfl, h2, r2⟩ := trodAll_cons r1
  obtain ⟨rfl, rfl, rfl⟩ := trodAll_nil r2
  obtain rfl : args = #[v0, v1, v2] := by cases args; simp_all
  obtain ⟨rfl, rfl⟩ := trodVars_none hV
  clear hA0 hval0
  have k0 := h0
  have lt0 : ∀ x ∈ p0, x.block < W.heap.size := by obtain ⟨m, hm⟩ := k0; exact DataW.trod_lt m _ _ _ hm
  have k1 := h1
  have lt1 : ∀ x ∈ p1, x.block < W.heap.size := by obtain ⟨m, hm⟩ := k1; exact DataW.trod_lt m _ _ _ hm
  have k2 := h2
  have lt2 : ∀ x ∈ p2, x.block < W.heap.size := by obtain ⟨m, hm⟩ := k2; exact DataW.trod_lt m _ _ _ hm
  obtain ⟨x0, w0, -, s0⟩ := open_hard (hval 0 32 v0 rfl rfl) k0
  have b0 : IsHard.fits x0 := s0 (wt_arg hsz (j := 0) rfl rfl)
  obtain ⟨a1, rfl, -, -, w1⟩ := open_int Try.underlying22 (hval 1 22 v1 rfl rfl) h1
  obtain ⟨a2, rfl, -, -, w2⟩ := open_int Try.underlying22 (hval 2 22 v2 rfl rfl) h2
  refine (walk v0 x0 a1 a2 W w0 b0 w1 w2).mono fun e W' ⟨he, bel⟩ => ?_
  subst he
  exact ⟨_, rfl, _, _, _, [], _, [], hW', trodAll_mk1 (shut_bool Try.underlying4 _), (trodAll_cons_mk (Below.trod laidOut (by kernel_rfl) (of_decide_eq_true (by kernel_rfl)) k0 bel lt0) (trodAll_cons_mk (Below.trod laidOut (by kernel_rfl) (of_decide_eq_true (by kernel_rfl)) k1 bel lt1) (trodAll_cons_mk (Below.trod laidOut (by kernel_rfl) (of_decide_eq_true (by kernel_rfl)) k2 bel lt2) trodAll_mk0))), rfl, bel.frame _, fun h => by cases h⟩

set_option maxRecDepth 100000 in
theorem lifted (os : Os) (started : os.Started) (H : Type) (enc : TypeId × Value → H) :
    ReturnsInHanded {} Try.checked os 10 .any (Rows.rlogShotsSpec.pre6 enc Try.prog Try.f10 Rows.rlogShotsRow.domain false) (Rows.rlogShotsSpec.post enc Try.prog Try.f10 false true false false) := by
  refine returnsInHanded_of_change_sized (C := Try.checked) own started (by kernel_rfl) Try.func10
    (ChangeSpec.witness6 (enc := enc) (C := Try.checked) false ⟨#[], #[.agg #[.int .u64 0, .int .u64 0, .int .i64 0, .int .u64 0, .int .u64 0, .slice none 0 0, .int .i64 0, .int .u64 0, .slice none 0 0, .slice none 0 0, .slice none 0 0], .int .u64 0, .int .u64 0], []⟩ 8 (by kernel_rfl) (by kernel_rfl) (by kernel_rfl) (by kernel_rfl)) ?_
  intro W base args ds gs before hval0 hW hcnd hsz _
  exact contract H enc W base args ds gs before hval0 hW hsz

theorem proved : Rows.RlogShotsSaid :=
  OpenClaim.holds_of_wide 10 Try.f10 rfl rfl rfl rfl rfl rfl rfl ⟨rfl, rfl, rfl, rfl, rfl⟩ rfl rfl rfl rfl rfl (by kernel_rfl) Try.func10 (by kernel_rfl)
    (of_decide_eq_true (by kernel_rfl)) (by unfold Func.isWrapper; first | (rw [if_pos (by decide +kernel)]; kernel_rfl) | (rw [if_neg (by decide +kernel)]; exact ⟨rfl, rfl⟩))
    (fun os started H enc _ => lifted os started H enc)
end Go.Proofs.Ytgadbghlcejkfaa.rlogShots
