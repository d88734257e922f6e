/- The law HardDoes returns true for all that may be read as what lasts and as a record: package hard's Do answers what the document's own Do answers, what lasts and the record and their copies stay as they were though what it tells is written over, and the chapter's example holds. No condition. -/
import Derived.Test.YtgadbghlcejkfaaBse
import Derived.Test.YtgadbghlcejkfaaHdX
import Derived.Deep.MidRow
namespace Go.Proofs.Ytgadbghlcejkfaa.hardDoes
open Go.ChangeShapes Go.WideShapes Go.ChangeAt Go.RowKit
open Go.ChangeMaps (open_string shut_string)
set_option linter.unusedVariables false

theorem own : ownKnob Try.prog.godebug = none := by kernel_rfl
theorem laidOut : laidOutB Try.prog = true := by kernel_rfl

open Rc Hd Nv Go.Deep
set_option maxHeartbeats 8000000 in
theorem walk (v0 : Value) (x0 : Har) (v1 : Value) (x1 : RecR) (w : World) (w0 : IsHard w v0 x0) (b0 : IsHard.fits x0) (w1 : IsRec w v1 x1) (b1 : IsRec.fits x1) :
    Calls Try.prog 3 #[v0, v1] w fun e w' => e = .returned (.bool true) ∧ Below w.heap.size w w' := by
  obtain ⟨vn, vh, vl, vg, rfl, -⟩ := id w0
  obtain ⟨rc, rn, rh, rl, rfl, -⟩ := id w1
  obtain ⟨W0, hW0⟩ : ∃ q, (w.alloc (.cells (hArr x0 vn vh vl vg) 32)).alloc (.cells (rArr x1 rc rn rh rl) 38) = q := ⟨_, rfl⟩
  have hb0 : Below w.heap.size w W0 := by rw [← hW0]; exact ((Below.refl _ _).alloc (Nat.le_refl _) _).alloc (by simp) _
  have HA0 : Hid (W0.heap[w.heap.size]? = some (.cells (hArr x0 vn vh vl vg) 32 (0, 0))) := Lib.hid (by rw [← hW0]; exact heap_alloc2_old _ _ _)
  have HR0 : Hid (W0.heap[w.heap.size + 1]? = some (.cells (rArr x1 rc rn rh rl) 38 (0, 0))) := Lib.hid (by rw [← hW0]; exact heap_alloc2_new _ _ _)
  have HB0 := Lib.hid hb0
  have HI0 := Lib.hid (w0.below hb0 (Nat.le_refl _))
  have HJ0 := Lib.hid (w1.below hb0 (Nat.le_refl _))
  have HF := Lib.hid b0
  have HRF := Lib.hid b1
  clear w0 w1 b0 b1 hb0
  go_enter Try.func3, Try.ntmps3
  go_wp2_with (first | (with_reducible refine wpList_load_row rfl 32 (.tmp 2) rfl w.heap.size rfl 32 (hArr x0 vn vh vl vg) (0, 0) _ HA0.out Try.underlying32 rfl (by kernel_rfl) ?_) | fail)
  refine (Hd.copy_any x0 _ _ HI0.out HF.out).mono ?_
  rintro e wa ⟨v1, rfl, hi1, hb1⟩
  obtain ⟨cn, ch, cl, cg, rfl, hs0, hs1, hs2, hs3, -⟩ := id hi1
  obtain ⟨s0, k0, rfl, -⟩ := id hs0
  obtain ⟨s1, k1, rfl, -⟩ := id hs1
  obtain ⟨s2, k2, rfl, -⟩ := id hs2
  obtain ⟨s3, k3, rfl, -, -⟩ := Hd.IsLog.len hs3
  have hst : (wa.alloc (.cells zH 32)).heap[wa.heap.size]? = some (.cells zH 32 (0, 0)) := heap_alloc_new _ _
  obtain ⟨W1, hW1⟩ : ∃ q, (wa.alloc (.cells zH 32)).setRow wa.heap.size (hArr x0 (.slice s0 x0.shot.nodes.length k0) (.slice s1 x0.shot.led.held.length k1) (.slice s2 x0.shot.led.last.length k2) (.slice s3 x0.log.length k3)) = q := ⟨_, rfl⟩
  have HX5 : Hid (W1.heap[wa.heap.size]? = some (.cells (hArr x0 (.slice s0 x0.shot.nodes.length k0) (.slice s1 x0.shot.led.held.length k1) (.slice s2 x0.shot.led.last.length k2) (.slice s3 x0.log.length k3)) 32 (0, 0))) := Lib.hid (by rw [← hW1]; exact setRow_heap _ _ _ _ _ _ hst)
  have hbx : Below wa.heap.size wa W1 := by rw [← hW1]; exact Ld.below_row ((Below.refl _ _).alloc (Nat.le_refl _) _) (Nat.le_refl _) _
  have hb01 := hb1.trans (hbx.mono hb1.size)
  have HB1 := Lib.hid (HB0.out.trans (hb01.mono HB0.out.size))
  have HA1 := Lib.hid ((hb01.block _ (lt_of_row HA0.out)).trans HA0.out)
  have HR1 := Lib.hid ((hb01.block _ (lt_of_row HR0.out)).trans HR0.out)
  have HI1 := Lib.hid (HI0.out.below hb01 (Nat.le_refl _))
  have HJ1 := Lib.hid (HJ0.out.below hb01 (Nat.le_refl _))
  have HO1 := Lib.hid (hi1.below hbx (Nat.le_refl _))
  clear hi1 hs0 hs1 hs2 hs3 hb1 hbx hb01
  go_wp2_with (first | (with_reducible refine wpList_store_row rfl 32 (.tmp 5) (.tmp 16) rfl wa.heap.size (hArr x0 (.slice s0 x0.shot.nodes.length k0) (.slice s1 x0.shot.led.held.length k1) (.slice s2 x0.shot.led.last.length k2) (.slice s3 x0.log.length k3)) rfl rfl 32 _ hst (by kernel_rfl) rfl (Hd.hArr_one _ _ _ _ _ _ _ _ _ _ _ _ _) ?_; rw [hW1]; clear hW1 hst) | (with_reducible refine wpList_load_row rfl 38 (.tmp 3) rfl (w.heap.size + 1) rfl 38 (rArr x1 rc rn rh rl) (0, 0) _ HR1.out Try.underlying38 rfl (by kernel_rfl) ?_))
  refine (copyrec_any x1 _ _ HJ1.out HRF.out).mono ?_
  rintro e wb ⟨p1, n1, p2, n2, p3, n3, p4, n4, rfl, ro, hb2⟩
  have hst : (wb.alloc (.cells zR 38)).heap[wb.heap.size]? = some (.cells zR 38 (0, 0)) := heap_alloc_new _ _
  obtain ⟨W2, hW2⟩ : ∃ q, (wb.alloc (.cells zR 38)).setRow wb.heap.size (rArr x1 (.slice p1 x1.ent.cmd.nodes.length n1) (.slice p2 x1.shot.nodes.length n2) (.slice p3 x1.shot.led.held.length n3) (.slice p4 x1.shot.led.last.length n4)) = q := ⟨_, rfl⟩
  have HX6 : Hid (W2.heap[wb.heap.size]? = some (.cells (rArr x1 (.slice p1 x1.ent.cmd.nodes.length n1) (.slice p2 x1.shot.nodes.length n2) (.slice p3 x1.shot.led.held.length n3) (.slice p4 x1.shot.led.last.length n4)) 38 (0, 0))) := Lib.hid (by rw [← hW2]; exact setRow_heap _ _ _ _ _ _ hst)
  have hbx : Below wb.heap.size wb W2 := by rw [← hW2]; exact Ld.below_row ((Below.refl _ _).alloc (Nat.le_refl _) _) (Nat.le_refl _) _
  have hb12 := hb2.trans (hbx.mono hb2.size)
  have HB2 := Lib.hid (HB1.out.trans (hb12.mono HB1.out.size))
  have HA2 := Lib.hid ((hb12.block _ (lt_of_row HA1.out)).trans HA1.out)
  have HR2 := Lib.hid ((hb12.block _ (lt_of_row HR1.out)).trans HR1.out)
  have HX52 := Lib.hid ((hb12.block _ (lt_of_row HX5.out)).trans HX5.out)
  have HI2 := Lib.hid (HI1.out.below hb12 (Nat.le_refl _))
  have HJ2 := Lib.hid (HJ1.out.below hb12 (Nat.le_refl _))
  have HO2 := Lib.hid (HO1.out.below hb12 (Nat.le_refl _))
  have HM2 : Hid (IsRec W2 (.agg (rArr x1 (.slice p1 x1.ent.cmd.nodes.length n1) (.slice p2 x1.shot.nodes.length n2) (.slice p3 x1.shot.led.held.length n3) (.slice p4 x1.shot.led.last.length n4))) x1) := Lib.hid ⟨_, _, _, _, rfl, ro.recL.below hbx (Nat.le_refl _), ro.2.2.2⟩
  clear ro hb2 hbx hb12 HA1 HR1 HI1 HJ1 HO1 HB1 HX5 HA0 HR0 HB0 HI0 HJ0
  go_wp2_with (first | (with_reducible refine wpList_store_row rfl 38 (.tmp 6) (.tmp 18) rfl wb.heap.size (rArr x1 (.slice p1 x1.ent.cmd.nodes.length n1) (.slice p2 x1.shot.nodes.length n2) (.slice p3 x1.shot.led.held.length n3) (.slice p4 x1.shot.led.last.length n4)) rfl rfl 38 _ hst (by kernel_rfl) rfl (Rc.rArr_one _ _ _ _ _ _ _ _ _ _ _ _ _) ?_; rw [hW2]; clear hW2 hst) | (with_reducible refine wpList_load_row rfl 32 (.tmp 5) rfl wa.heap.size rfl 32 (hArr x0 (.slice s0 x0.shot.nodes.length k0) (.slice s1 x0.shot.led.held.length k1) (.slice s2 x0.shot.led.last.length k2) (.slice s3 x0.log.length k3)) (0, 0) _ HX52.out Try.underlying32 rfl (by kernel_rfl) ?_) | (with_reducible refine wpList_load_row rfl 38 (.tmp 6) rfl wb.heap.size rfl 38 (rArr x1 (.slice p1 x1.ent.cmd.nodes.length n1) (.slice p2 x1.shot.nodes.length n2) (.slice p3 x1.shot.led.held.length n3) (.slice p4 x1.shot.led.last.length n4)) (0, 0) _ HX6.out Try.underlying38 rfl (by kernel_rfl) ?_))
  refine (do_any x0 _ x1 _ _ HO2.out HF.out HM2.out HRF.out).mono ?_
  rintro e wc ⟨z, h', vn', vh', vl', vg', rfl, hd, own, hw, hb3⟩
  obtain ⟨a1, c1, rfl, -⟩ := own.1.sl hw.2
  obtain ⟨a2, c2, rfl, -⟩ := own.2.1.sl heldC_len
  obtain ⟨a3, c3, rfl, -⟩ := own.2.2.1.sl lastC_len
  obtain ⟨g, c, m, kk, a7, c7, rfl, hpi, hat⟩ := Hx.PI.of_log own.2.2.2
  have hst : (wc.alloc (.cells zH 32)).heap[wc.heap.size]? = some (.cells zH 32 (0, 0)) := heap_alloc_new _ _
  obtain ⟨W3, hW3⟩ : ∃ q, (wc.alloc (.cells zH 32)).setRow wc.heap.size (hArr h' (.slice a1 h'.shot.nodes.length c1) (.slice a2 h'.shot.led.held.length c2) (.slice a3 h'.shot.led.last.length c3) (.slice a7 h'.log.length c7)) = q := ⟨_, rfl⟩
  have HX7 : Hid (W3.heap[wc.heap.size]? = some (.cells (hArr h' (.slice a1 h'.shot.nodes.length c1) (.slice a2 h'.shot.led.held.length c2) (.slice a3 h'.shot.led.last.length c3) (.slice a7 h'.log.length c7)) 32 (0, 0))) := Lib.hid (by rw [← hW3]; exact setRow_heap _ _ _ _ _ _ hst)
  have hbx : Below wc.heap.size wc W3 := by rw [← hW3]; exact Ld.below_row ((Below.refl _ _).alloc (Nat.le_refl _) _) (Nat.le_refl _) _
  have hb23 := hb3.trans (hbx.mono hb3.size)
  have HB3 := Lib.hid hb23
  have HOW3 := Lib.hid (OwnH.map own fun e sz v n xs q => owns_below hbx q)
  have HHW := Lib.hid hw
  have HD := Lib.hid hd
  have HAT := Lib.hid hat
  have HA3 := Lib.hid ((hb23.block _ (lt_of_row HA2.out)).trans HA2.out)
  have HR3 := Lib.hid ((hb23.block _ (lt_of_row HR2.out)).trans HR2.out)
  have HI3 := Lib.hid (HI2.out.below hb23 (Nat.le_refl _))
  have HJ3 := Lib.hid (HJ2.out.below hb23 (Nat.le_refl _))
  have HPI : Hid (∀ W, Below wc.heap.size wc W → Hx.PI W W2.heap.size g c m kk h'.log.length) := Lib.hid (fun W hW => by
    rcases hpi with q | ⟨q1, rows, q2, q3⟩
    · exact .inl q
    · exact .inr ⟨q1, rows, q2, owns_below hW q3.1, fun r hr => by
        obtain ⟨xs, t1, t2, t3⟩ := q3.2 r hr
        exact ⟨xs, owns_below hW t1, t2, t3⟩⟩)
  have HBX3 := Lib.hid hbx
  clear own hw hd hat hpi hb3 hbx hb23
  go_wp2_with (first | (with_reducible refine wpList_store_row rfl 32 (.tmp 7) (.tmp 23) rfl wc.heap.size (hArr h' (.slice a1 h'.shot.nodes.length c1) (.slice a2 h'.shot.led.held.length c2) (.slice a3 h'.shot.led.last.length c3) (.slice a7 h'.log.length c7)) rfl rfl 32 _ hst (by kernel_rfl) rfl (Hd.hArr_one _ _ _ _ _ _ _ _ _ _ _ _ _) ?_; rw [hW3]; clear hW3 hst) | (with_reducible refine wpList_load_row rfl 32 (.tmp 2) rfl w.heap.size rfl 32 (hArr x0 vn vh vl vg) (0, 0) _ HA3.out Try.underlying32 rfl (by kernel_rfl) ?_) | (with_reducible refine wpList_load_row rfl 38 (.tmp 3) rfl (w.heap.size + 1) rfl 38 (rArr x1 rc rn rh rl) (0, 0) _ HR3.out Try.underlying38 rfl (by kernel_rfl) ?_))
  refine (rdo_any x0 _ x1 _ _ HI3.out HF.out HJ3.out HRF.out).mono ?_
  rintro e wd ⟨z2, h2, vn2, vh2, vl2, vg2, rfl, hd2, own2, hw2, hb4⟩
  obtain ⟨rfl, rfl⟩ : h2 = h' ∧ z2 = z := by
    rcases HD.out with ⟨q1, q2, q3⟩ | ⟨q1, q2, q3⟩ <;> rcases hd2 with ⟨t1, t2, t3⟩ | ⟨t1, t2, t3⟩
    · exact ⟨t3.trans q3.symm, t1.trans q1.symm⟩
    · exact absurd q2 t2
    · exact absurd t2 q2
    · exact ⟨t3.trans q3.symm, t1.trans q1.symm⟩
  obtain ⟨e1, f1, rfl, -⟩ := own2.1.sl hw2.2
  obtain ⟨e2, f2, rfl, -⟩ := own2.2.1.sl heldC_len
  obtain ⟨e3, f3, rfl, -⟩ := own2.2.2.1.sl lastC_len
  obtain ⟨e4, f4, rfl, hl1, hl2⟩ := IsLog.len own2.2.2.2.log
  have hlb : (h2.log.length : Int) ≤ 9223372036854775807 := by omega
  have hnb : (h2.shot.nodes.length : Int) ≤ 9223372036854775807 := by have q := (own2.1.sl hw2.2).len; unfold maxLen at q; omega
  clear hl1 hl2
  have hst : (wd.alloc (.cells zH 32)).heap[wd.heap.size]? = some (.cells zH 32 (0, 0)) := heap_alloc_new _ _
  obtain ⟨W4, hW4⟩ : ∃ q, (wd.alloc (.cells zH 32)).setRow wd.heap.size (hArr h2 (.slice e1 h2.shot.nodes.length f1) (.slice e2 h2.shot.led.held.length f2) (.slice e3 h2.shot.led.last.length f3) (.slice e4 h2.log.length f4)) = q := ⟨_, rfl⟩
  have HX9 : Hid (W4.heap[wd.heap.size]? = some (.cells (hArr h2 (.slice e1 h2.shot.nodes.length f1) (.slice e2 h2.shot.led.held.length f2) (.slice e3 h2.shot.led.last.length f3) (.slice e4 h2.log.length f4)) 32 (0, 0))) := Lib.hid (by rw [← hW4]; exact setRow_heap _ _ _ _ _ _ hst)
  have hbx : Below wd.heap.size wd W4 := by rw [← hW4]; exact Ld.below_row ((Below.refl _ _).alloc (Nat.le_refl _) _) (Nat.le_refl _) _
  have hb34 := hb4.trans (hbx.mono hb4.size)
  have HB4 := Lib.hid (HB3.out.trans (hb34.mono HB3.out.size))
  have HB34 := Lib.hid (HBX3.out.trans (hb34.mono HBX3.out.size))
  have HX74 := Lib.hid ((hb34.block _ (lt_of_row HX7.out)).trans HX7.out)
  have HAA4 := Lib.hid ((OwnH.map HOW3.out fun e sz v n xs q => owns_below hb34 q).hard HHW.out)
  have HBB4 := Lib.hid ((OwnH.map own2 fun e sz v n xs q => owns_below hbx q).hard HHW.out)
  have HN4 := Lib.hid (owns_below hb34 HOW3.out.1)
  clear own2 hw2 hd2 hb4 hbx hb34 HX7 HD HA3 HR3 HI3 HJ3 HB3 HOW3
  have ez : (z2 == z2) = true := beq_iff_eq.2 rfl
  go_wp2_with (first | (with_reducible refine wpList_store_row rfl 32 (.tmp 9) (.tmp 29) rfl wd.heap.size (hArr h2 (.slice e1 h2.shot.nodes.length f1) (.slice e2 h2.shot.led.held.length f2) (.slice e3 h2.shot.led.last.length f3) (.slice e4 h2.log.length f4)) rfl rfl 32 _ hst (by kernel_rfl) rfl (Hd.hArr_one _ _ _ _ _ _ _ _ _ _ _ _ _) ?_; rw [hW4]; clear hW4 hst) | (with_reducible refine wpList_load_row rfl 32 (.tmp 7) rfl wc.heap.size rfl 32 (hArr h2 (.slice a1 h2.shot.nodes.length c1) (.slice a2 h2.shot.led.held.length c2) (.slice a3 h2.shot.led.last.length c3) (.slice a7 h2.log.length c7)) (0, 0) _ HX74.out Try.underlying32 rfl (by kernel_rfl) ?_) | (with_reducible refine wpList_load_row rfl 32 (.tmp 9) rfl wd.heap.size rfl 32 (hArr h2 (.slice e1 h2.shot.nodes.length f1) (.slice e2 h2.shot.led.held.length f2) (.slice e3 h2.shot.led.last.length f3) (.slice e4 h2.log.length f4)) (0, 0) _ HX9.out Try.underlying32 rfl (by kernel_rfl) ?_))
  refine (Hd.same_any h2 _ _ _ HAA4.out HBB4.out).mono ?_
  rintro e we ⟨rfl, hb5⟩
  have HB5 := Lib.hid (HB4.out.trans (hb5.mono HB4.out.size))
  have HX75 := Lib.hid ((hb5.block _ (lt_of_row HX74.out)).trans HX74.out)
  have HP5 := Lib.hid (HPI.out we (HB34.out.trans (hb5.mono HB34.out.size)))
  have HN5 : Hid (Hx.LInv we W2.heap.size none (.slice a1 h2.shot.nodes.length c1) h2.shot.nodes.length) := Lib.hid ⟨_, owns_below hb5 HN4.out, rfl, fun q _ => by simp⟩
  have x10 := (cell_of_row we _ 10 _ _ _ HX75.out).trans rfl
  clear hb5 HX74 HAA4 HBB4 HN4 HB4 HB34 HPI HBX3 HX9
  go_wp2
  go_loopw [12, 42] (fun _ i wr => ∃ k : Nat, k ≤ h2.log.length ∧ i = .int .i64 k ∧ Hid (Hx.PI wr W2.heap.size g c m kk h2.log.length) ∧ Hid (Hx.LInv wr W2.heap.size none (.slice a1 h2.shot.nodes.length c1) h2.shot.nodes.length) ∧ Hid (wr.heap[wc.heap.size]? = some (.cells (hArr h2 (.slice a1 h2.shot.nodes.length c1) (.slice a2 h2.shot.led.held.length c2) (.slice a3 h2.shot.led.last.length c3) (.slice a7 h2.log.length c7)) 32 (0, 0))) ∧ Hid (Below W2.heap.size W2 wr)) (fun _ i _ => h2.log.length - (intOf i).toNat)
  case atStart => exact ⟨0, Nat.zero_le _, rfl, HP5, HN5, HX75, HB5⟩
  case round =>
    obtain ⟨k, hk, rfl, HP, HN, HX, HB⟩ := hrel
    have x10 := (cell_of_row wr _ 10 _ _ _ HX.out).trans rfl
    by_cases hlt : k < h2.log.length
    · obtain rfl := HAT.out (by omega)
      obtain ⟨hgB, hgl, ⟨ecs, efr, hent⟩, hfz, ⟨tt, hterm⟩, -⟩ := Hx.PI.at HP.out hlt
      have hne := Hx.ent_ne hent HX.out
      have HT := Lib.hid (Hx.PI.term HP.out hlt)
      have HNT := Lib.hid (HN.out.rowT (g := g) (j := kk * 9 + k * 9) (u := .int .u64 99) hent)
      have HXT := Lib.hid (Hx.box_keep (g := g) (j := kk * 9 + k * 9) (u := .int .u64 99) HX.out hne)
      have HBT := Lib.hid (HB.out.setCell (p := ⟨g, kk * 9 + k * 9, none⟩) hgB (.int .u64 99))
      have HGB := Lib.hid hgB
      have HHT := Lib.hid hterm
      have HKL := Lib.hid hlt
      have hkz : (k : Int) < (h2.log.length : Int) := by omega
      obtain ⟨wT, hWT⟩ : ∃ q, wr.setCell ⟨g, kk * 9 + k * 9, none⟩ (.int .u64 99) = q := ⟨_, rfl⟩
      rw [hWT] at HT HNT HXT HBT
      obtain ⟨-, -, -, -, -, vr, l, hnode, hlin⟩ := Hx.PI.at HT.out hlt
      obtain ⟨ar, cr, rfl, hcr1, hcr2, -⟩ := hlin.open
      unfold maxLen at hcr2
      have HLI := Lib.hid hlin
      have HND := Lib.hid hnode
      have y10 := (cell_of_row wT _ 10 _ _ _ HXT.out).trans rfl
      clear hgB hgl hent hne hlin
      obtain ⟨wo, hwo⟩ : ∃ q, q = wr := ⟨_, rfl⟩
      subst hwo
      go_wp2
      go_loopw [13, 58] (fun _ i wr => ∃ j : Nat, j ≤ l ∧ i = .int .i64 j ∧ Hid (Hx.PI wr W2.heap.size g c m kk h2.log.length) ∧ Hid (Hx.LInv wr W2.heap.size (some g) (.slice ar l cr) l) ∧ wr.cell? ⟨g, kk * 9 + k * 9 + 4, none⟩ = some (.slice ar l cr) ∧ Hid (Hx.LInv wr W2.heap.size none (.slice a1 h2.shot.nodes.length c1) h2.shot.nodes.length) ∧ Hid (wr.heap[wc.heap.size]? = some (.cells (hArr h2 (.slice a1 h2.shot.nodes.length c1) (.slice a2 h2.shot.led.held.length c2) (.slice a3 h2.shot.led.last.length c3) (.slice (some ⟨g, kk * 9, none⟩) h2.log.length c7)) 32 (0, 0))) ∧ Hid (Below W2.heap.size W2 wr)) (fun _ i _ => l - (intOf i).toNat)
      case atStart => exact ⟨0, Nat.zero_le _, rfl, HT, HLI, HND.out, HNT, HXT, HBT⟩
      case round =>
        obtain ⟨j, hj, rfl, HP2, HL2, hnd2, HN2, HX2, HB2r⟩ := hrel
        have y10 := (cell_of_row wr _ 10 _ _ _ HX2.out).trans rfl
        by_cases hjl : j < l
        · obtain ⟨a', c', e', -, -, hop⟩ := HL2.out.open
          simp only [Value.slice.injEq] at e'
          obtain ⟨rfl, -, rfl⟩ := e'
          obtain ⟨q, rfl, hq1, hq2, hq3, hq4, hq5⟩ := hop (by omega)
          have hqx := HL2.out.ne HX2.out
          have hfz2 := hq4 j
          obtain ⟨zc, hcell2⟩ := hq5 j hjl
          have HY1 := Lib.hid (HP2.out.set (j := j) hq3)
          have HY2 := Lib.hid (HL2.out.set q j)
          have HY3 := Lib.hid (HB2r.out.setCell (p := ⟨q, j, none⟩) hq1 (.int .i64 99))
          have HY4 := Lib.hid ((Hx.cell_other (q := q) (g := g) (u := .int .i64 99) (j := j) (o := kk * 9 + k * 9 + 4) (fun e => hq3 (congrArg some e))).trans hnd2)
          have HY5 := Lib.hid (HN2.out.set q j)
          have HY6 := Lib.hid (Hx.box_keep (g := q) (j := j) (u := .int .i64 99) HX2.out hqx)
          have hjz : (j : Int) < (l : Int) := by omega
          clear hop hq1 hq2 hq3 hq4 hq5 hqx
          go_wp2
          go_roundw
          case rel => exact ⟨j + 1, by omega, by go_num, HY1, HY2, HY4.out, HY5, HY6, HY3⟩
          case measure => simp [intOf]; omega
        · obtain rfl : j = l := by omega
          go_wp2
          go_roundw
          case rel => exact ⟨k + 1, by have := HKL.out; omega, by go_num, HP2, HN2, HX2, HB2r⟩
          case measure => simp [intOf]; have := HKL.out; omega
    · obtain rfl : k = h2.log.length := by omega
      have x5 := (cell_of_row wr _ 5 _ _ _ HX.out).trans rfl
      obtain ⟨wo, hwo⟩ : ∃ q, q = wr := ⟨_, rfl⟩
      subst hwo
      go_wp2
      go_loopw [14, 76] (fun _ i wr => ∃ j : Nat, j ≤ h2.shot.nodes.length ∧ i = .int .i64 j ∧ Hid (Hx.LInv wr W2.heap.size none (.slice a1 h2.shot.nodes.length c1) h2.shot.nodes.length) ∧ Hid (wr.heap[wc.heap.size]? = some (.cells (hArr h2 (.slice a1 h2.shot.nodes.length c1) (.slice a2 h2.shot.led.held.length c2) (.slice a3 h2.shot.led.last.length c3) (.slice a7 h2.log.length c7)) 32 (0, 0))) ∧ Hid (Below W2.heap.size W2 wr)) (fun _ i _ => h2.shot.nodes.length - (intOf i).toNat)
      case atStart => exact ⟨0, Nat.zero_le _, rfl, HN, HX, HB⟩
      case round =>
        obtain ⟨j, hj, rfl, HN2, HX2, HB2r⟩ := hrel
        have y5 := (cell_of_row wr _ 5 _ _ _ HX2.out).trans rfl
        by_cases hjl : j < h2.shot.nodes.length
        · obtain ⟨a', c', e', -, -, hop⟩ := HN2.out.open
          simp only [Value.slice.injEq] at e'
          obtain ⟨rfl, -, rfl⟩ := e'
          obtain ⟨q, rfl, hq1, hq2, hq3, hq4, hq5⟩ := hop (by omega)
          have hqx := HN2.out.ne HX2.out
          have hfz2 := hq4 j
          obtain ⟨zc, hcell2⟩ := hq5 j hjl
          have HY3 := Lib.hid (HB2r.out.setCell (p := ⟨q, j, none⟩) hq1 (.int .i64 99))
          have HY5 := Lib.hid (HN2.out.set q j)
          have HY6 := Lib.hid (Hx.box_keep (g := q) (j := j) (u := .int .i64 99) HX2.out hqx)
          have hjz : (j : Int) < (h2.shot.nodes.length : Int) := by omega
          clear hop hq1 hq2 hq3 hq4 hq5 hqx
          go_wp2
          go_roundw
          case rel => exact ⟨j + 1, by omega, by go_num, HY5, HY6, HY3⟩
          case measure => simp [intOf]; omega
        · obtain rfl : j = h2.shot.nodes.length := by omega
          have HBE := Lib.hid HB2r.out
          go_wp2_with fail
          refine (live_any _).mono ?_
          rintro e wf ⟨rfl, hb6⟩
          have HB6 := Lib.hid (HBE.out.trans (hb6.mono HBE.out.size))
          have HA6 := Lib.hid ((HB6.out.block _ (lt_of_row HA2.out)).trans HA2.out)
          have HR6 := Lib.hid ((HB6.out.block _ (lt_of_row HR2.out)).trans HR2.out)
          have HX56 := Lib.hid ((HB6.out.block _ (lt_of_row HX52.out)).trans HX52.out)
          have HX66 := Lib.hid ((HB6.out.block _ (lt_of_row HX6.out)).trans HX6.out)
          clear hb6
          go_wp2_with (first | (with_reducible refine wpList_load_rowG rfl 32 (.tmp 5) rfl wa.heap.size rfl 32 (hArr x0 (.slice s0 x0.shot.nodes.length k0) (.slice s1 x0.shot.led.held.length k1) (.slice s2 x0.shot.led.last.length k2) (.slice s3 x0.log.length k3)) (0, 0) _ HX56.out Try.underlying32 rfl (by kernel_rfl) ?_) | (with_reducible refine wpList_load_rowG rfl 32 (.tmp 2) rfl w.heap.size rfl 32 (hArr x0 vn vh vl vg) (0, 0) _ HA6.out Try.underlying32 rfl (by kernel_rfl) ?_))
          refine (Hd.same_any x0 _ _ _ (HO2.out.below HB6.out (Nat.le_refl _)) (HI2.out.below HB6.out (Nat.le_refl _))).mono ?_
          rintro e wg ⟨rfl, hb7⟩
          have HB7 := Lib.hid (HB6.out.trans (hb7.mono HB6.out.size))
          have HR7 := Lib.hid ((hb7.block _ (lt_of_row HR6.out)).trans HR6.out)
          have HX67 := Lib.hid ((hb7.block _ (lt_of_row HX66.out)).trans HX66.out)
          clear hb7
          go_wp2_with (first | (with_reducible refine wpList_load_rowG rfl 38 (.tmp 6) rfl wb.heap.size rfl 38 (rArr x1 (.slice p1 x1.ent.cmd.nodes.length n1) (.slice p2 x1.shot.nodes.length n2) (.slice p3 x1.shot.led.held.length n3) (.slice p4 x1.shot.led.last.length n4)) (0, 0) _ HX67.out Try.underlying38 rfl (by kernel_rfl) ?_) | (with_reducible refine wpList_load_rowG rfl 38 (.tmp 3) rfl (w.heap.size + 1) rfl 38 (rArr x1 rc rn rh rl) (0, 0) _ HR7.out Try.underlying38 rfl (by kernel_rfl) ?_))
          refine (rec_same x1 _ _ _ (HM2.out.below HB7.out (Nat.le_refl _)) (HJ2.out.below HB7.out (Nat.le_refl _))).mono ?_
          rintro e wh ⟨rfl, hb8⟩
          go_wp2
          go_ret
          exact ⟨rfl, HB2.out.trans ((HB7.out.trans (hb8.mono HB7.out.size)).mono HB2.out.size)⟩

set_option maxRecDepth 100000 in
theorem contract (H : Type) (enc : TypeId × Value → H) (W : World) (base : Nat) (args : Array Value) (ds gs : List (DataW H)) (before : List MemPlace)
    (hval0 : ∀ (j : Nat) t v, Try.f3.params[j]? = some t → args[j]? = some v → Value.okWide Try.prog W .any base t v)
    (hW : DataW.Whole enc Try.prog Try.f3.params.toList Rows.hardDoesSpec.vars false W args.toList ds gs before)
    (hsz0 : (DataW.weightsEach Try.prog (Try.f3.params.toList ++ Rows.hardDoesSpec.plain.varTypes Try.prog) (ds ++ gs)).all (· ≤ reachBytes) = true) :
    Calls Try.prog 3 args W fun e W' => ∃ v, e = .returned v ∧ Rows.hardDoesSpec.post enc Try.prog Try.f3 false true false false W args v W' := by
  have hval : ∀ (j : Nat) t v, Try.f3.params[j]? = some t → args[j]? = some v → Value.okWide Try.prog W .any base t v := hval0
  have hW' := hW
  obtain ⟨p, q, hA0, hV, rfl, hfz, hnd⟩ := hW
  have hA : DataW.TrodAll enc Try.prog W 0 (fun _ => true) true Try.f3.params.toList args.toList ds p := hA0
  rw [Try.params3] at hA hval
  have hsz := hsz0
  rw [Try.params3] at hsz
  obtain ⟨v0, vs0, d0, ds0, p0, q0, hargs, rfl, rfl, h0, r0⟩ := trodAll_cons hA
  obtain ⟨v1, vs1, d1, ds1, p1, q1, rfl, rfl, rfl, h1, r1⟩ := trodAll_cons r0
  obtain ⟨rfl, rfl, rfl⟩ := trodAll_nil r1
  obtain rfl : args = #[v0, v1] := by cases args; simp_all
  obtain ⟨rfl, rfl⟩ := trodVars_none hV
  clear hA0 hval0
  have k0 := h0
  have lt0 : ∀ x ∈ p0, x.block < W.heap.size := by obtain ⟨m, hm⟩ := k0; exact DataW.trod_lt m _ _ _ hm
  have k1 := h1
  have lt1 : ∀ x ∈ p1, x.block < W.heap.size := by obtain ⟨m, hm⟩ := k1; exact DataW.trod_lt m _ _ _ hm
  obtain ⟨x0, w0, -, s0⟩ := open_hard (hval 0 32 v0 rfl rfl) k0
  have b0 : IsHard.fits x0 := s0 (wt_arg hsz (j := 0) rfl rfl)
  obtain ⟨x1, w1, -, s1⟩ := open_rec (hval 1 38 v1 rfl rfl) k1
  have b1 : IsRec.fits x1 := s1 (wt_arg hsz (j := 1) rfl rfl)
  refine (walk v0 x0 v1 x1 W w0 b0 w1 b1).mono fun e W' ⟨he, bel⟩ => ?_
  subst he
  exact ⟨_, rfl, _, _, _, [], _, [], hW', trodAll_mk1 (shut_bool Try.underlying4 _), (trodAll_cons_mk (Below.trod laidOut (by kernel_rfl) (of_decide_eq_true (by kernel_rfl)) k0 bel lt0) (trodAll_cons_mk (Below.trod laidOut (by kernel_rfl) (of_decide_eq_true (by kernel_rfl)) k1 bel lt1) trodAll_mk0)), rfl, bel.frame _, fun h => by cases h⟩

set_option maxRecDepth 100000 in
theorem lifted (os : Os) (started : os.Started) (H : Type) (enc : TypeId × Value → H) :
    ReturnsInHanded {} Try.checked os 3 .any (Rows.hardDoesSpec.pre6 enc Try.prog Try.f3 Rows.hardDoesRow.domain false) (Rows.hardDoesSpec.post enc Try.prog Try.f3 false true false false) := by
  refine returnsInHanded_of_change_sized (C := Try.checked) own started (by kernel_rfl) Try.func3
    (ChangeSpec.witness6 (enc := enc) (C := Try.checked) false ⟨#[], #[.agg #[.int .u64 0, .int .u64 0, .int .i64 0, .int .u64 0, .int .u64 0, .slice none 0 0, .int .i64 0, .int .u64 0, .slice none 0 0, .slice none 0 0, .slice none 0 0], .agg #[.int .i64 0, .int .i64 0, .int .u64 0, .int .u64 0, .int .u64 0, .int .u64 0, .int .i64 0, .int .i64 0, .int .i64 0, .slice none 0 0, .int .u64 0, .int .u64 0, .int .u64 0, .int .u64 0, .int .u64 0, .int .u64 0, .slice none 0 0, .int .i64 0, .int .u64 0, .slice none 0 0, .slice none 0 0]], []⟩ 8 (by kernel_rfl) (by kernel_rfl) (by kernel_rfl) (by kernel_rfl)) ?_
  intro W base args ds gs before hval0 hW hcnd hsz _
  exact contract H enc W base args ds gs before hval0 hW hsz

theorem proved : Rows.HardDoesSaid :=
  OpenClaim.holds_of_wide 3 Try.f3 rfl rfl rfl rfl rfl rfl rfl ⟨rfl, rfl, rfl, rfl, rfl⟩ rfl rfl rfl rfl rfl (by kernel_rfl) Try.func3 (by kernel_rfl)
    (of_decide_eq_true (by kernel_rfl)) (by unfold Func.isWrapper; first | (rw [if_pos (by decide +kernel)]; kernel_rfl) | (rw [if_neg (by decide +kernel)]; exact ⟨rfl, rfl⟩))
    (fun os started H enc _ => lifted os started H enc)
end Go.Proofs.Ytgadbghlcejkfaa.hardDoes
