/- The law RlogAt returns true for all that may be read as what lasts, and any index: package rlog's At answers the document's own answer, what is written into the snapshot afterwards changes neither what lasts nor its copy, and the chapter's example holds. No condition. -/
import Derived.Test.YtgadbghlcejkfaaBse
import Derived.Test.YtgadbghlcejkfaaAtE
import Derived.Test.YtgadbghlcejkfaaSmE
import Derived.Deep.MidRow
namespace Go.Proofs.Ytgadbghlcejkfaa.rlogAt
open Go.ChangeShapes Go.WideShapes Go.ChangeAt Go.RowKit
open Go.ChangeMaps (open_string shut_string)
set_option linter.unusedVariables false

theorem own : ownKnob Try.prog.godebug = none := by kernel_rfl
theorem laidOut : laidOutB Try.prog = true := by kernel_rfl

open Rc Hd Rl Go.Deep
theorem exH_fits : IsHard.fits exH := by
  refine ⟨⟨by decide, by decide, by decide⟩, by decide, fun x hx => ?_⟩
  simp only [exH, List.mem_cons, List.not_mem_nil, or_false] at hx
  rcases hx with rfl | rfl <;> exact (by decide : (0 : Nat) * 8 ≤ 140737488351232)
set_option maxHeartbeats 3000000 in
theorem walk (v0 : Value) (x0 : Har) (a1 : Int) (w : World) (w0 : IsHard w v0 x0) (b0 : IsHard.fits x0) (w1 : (Lit.int .u64 a1).wf = true) :
    Calls Try.prog 8 #[v0, .int .u64 a1] w fun e w' => e = .returned (.bool true) ∧ Below w.heap.size w w' := by
  obtain ⟨vn, vh, vl, vg, rfl, -⟩ := id w0
  obtain ⟨W0, hW0⟩ : ∃ q, w.alloc (.cells (hArr x0 vn vh vl vg) 32) = q := ⟨_, rfl⟩
  have hb0 : Below w.heap.size w W0 := by rw [← hW0]; exact (Below.refl _ _).alloc (Nat.le_refl _) _
  have HA0 : Hid (W0.heap[w.heap.size]? = some (.cells (hArr x0 vn vh vl vg) 32 (0, 0))) := Lib.hid (by rw [← hW0]; exact heap_alloc_new _ _)
  have HB0 := Lib.hid hb0
  have HI0 := Lib.hid (w0.below hb0 (Nat.le_refl _))
  have HF := Lib.hid b0
  have HW := Lib.hid (IsHard.harW w0)
  have HEW := Lib.hid (At.ents_w w0)
  have HU := Lib.hid w1
  have B1 := Lib.hid (bounds_u64 w1)
  clear w0 b0 hb0 w1
  go_enter Try.func8, Try.ntmps8
  go_wp2_with (first | (with_reducible refine wpList_load_row rfl 32 (.tmp 2) rfl w.heap.size rfl 32 (hArr x0 vn vh vl vg) (0, 0) _ HA0.out Try.underlying32 rfl (by kernel_rfl) ?_) | fail)
  refine (Hd.copy_any x0 _ _ HI0.out HF.out).mono ?_
  rintro e wa ⟨v1, rfl, hi1, hb1⟩
  obtain ⟨cn, ch, cl, cg, rfl, hs0, hs1, hs2, hs3, -⟩ := id hi1
  obtain ⟨s0, k0, rfl, -⟩ := id hs0
  obtain ⟨s1, k1, rfl, -⟩ := id hs1
  obtain ⟨s2, k2, rfl, -⟩ := id hs2
  obtain ⟨s3, k3, rfl, -, -⟩ := Hd.IsLog.len hs3
  have hst : (wa.alloc (.cells At.zHA 32)).heap[wa.heap.size]? = some (.cells At.zHA 32 (0, 0)) := heap_alloc_new _ _
  obtain ⟨W1, hW1⟩ : ∃ q, (wa.alloc (.cells At.zHA 32)).setRow wa.heap.size (hArr x0 (.slice s0 x0.shot.nodes.length k0) (.slice s1 x0.shot.led.held.length k1) (.slice s2 x0.shot.led.last.length k2) (.slice s3 x0.log.length k3)) = q := ⟨_, rfl⟩
  have HX5 : Hid (W1.heap[wa.heap.size]? = some (.cells (hArr x0 (.slice s0 x0.shot.nodes.length k0) (.slice s1 x0.shot.led.held.length k1) (.slice s2 x0.shot.led.last.length k2) (.slice s3 x0.log.length k3)) 32 (0, 0))) := Lib.hid (by rw [← hW1]; exact setRow_heap _ _ _ _ _ _ hst)
  have hbx : Below wa.heap.size wa W1 := by rw [← hW1]; exact Ld.below_row ((Below.refl _ _).alloc (Nat.le_refl _) _) (Nat.le_refl _) _
  have hb01 := hb1.trans (hbx.mono hb1.size)
  have HB1 := Lib.hid (HB0.out.trans (hb01.mono HB0.out.size))
  have HA1 := Lib.hid ((hb01.block _ (lt_of_row HA0.out)).trans HA0.out)
  have HI1 := Lib.hid (HI0.out.below hb01 (Nat.le_refl _))
  have HO1 := Lib.hid (hi1.below hbx (Nat.le_refl _))
  clear hi1 hs0 hs1 hs2 hs3 hb1 hbx hb01 HA0 HI0 HB0
  go_wp2_with (first | (with_reducible refine wpList_store_row rfl 32 (.tmp 5) (.tmp 17) rfl wa.heap.size (hArr x0 (.slice s0 x0.shot.nodes.length k0) (.slice s1 x0.shot.led.held.length k1) (.slice s2 x0.shot.led.last.length k2) (.slice s3 x0.log.length k3)) rfl rfl 32 _ hst (by kernel_rfl) rfl (Hd.hArr_one _ _ _ _ _ _ _ _ _ _ _ _ _) ?_; rw [hW1]; clear hW1 hst) | (with_reducible refine wpList_load_row rfl 32 (.tmp 5) rfl wa.heap.size rfl 32 (hArr x0 (.slice s0 x0.shot.nodes.length k0) (.slice s1 x0.shot.led.held.length k1) (.slice s2 x0.shot.led.last.length k2) (.slice s3 x0.log.length k3)) (0, 0) _ HX5.out Try.underlying32 rfl (by kernel_rfl) ?_))
  refine (At.atE_any x0 _ a1 _ HO1.out HF.out B1.out.1 B1.out.2).mono ?_
  rintro e wb ⟨s, z, vn', vh', vl', rfl, hd, o1, o2, o3, hcw, hb2⟩
  have HSW := Lib.hid (At.at_shot HW.out HEW.out HU.out hd)
  obtain ⟨a2, c1, rfl, hc1, hm1, -⟩ := o1.sl hcw
  obtain ⟨a3, c2, rfl, hc2, hm2, -⟩ := o2.sl heldC_len
  obtain ⟨a4, c3, rfl, hc3, hm3, -⟩ := o3.sl lastC_len
  unfold maxLen at hm1 hm2 hm3
  have hln1 : (s.nodes.length : Int) ≤ 9223372036854775807 := by omega
  have hln2 : (s.led.held.length : Int) ≤ 9223372036854775807 := by omega
  have hln3 : (s.led.last.length : Int) ≤ 9223372036854775807 := by omega
  clear hc1 hm1 hc2 hm2 hc3 hm3
  have hst : (wb.alloc (.cells At.zSA 29)).heap[wb.heap.size]? = some (.cells At.zSA 29 (0, 0)) := heap_alloc_new _ _
  obtain ⟨W2, hW2⟩ : ∃ q, (wb.alloc (.cells At.zSA 29)).setRow wb.heap.size (sArr s (.slice a2 s.nodes.length c1) (.slice a3 s.led.held.length c2) (.slice a4 s.led.last.length c3)) = q := ⟨_, rfl⟩
  have HX6 : Hid (W2.heap[wb.heap.size]? = some (.cells (sArr s (.slice a2 s.nodes.length c1) (.slice a3 s.led.held.length c2) (.slice a4 s.led.last.length c3)) 29 (0, 0))) := Lib.hid (by rw [← hW2]; exact setRow_heap _ _ _ _ _ _ hst)
  have hbx : Below wb.heap.size wb W2 := by rw [← hW2]; exact Ld.below_row ((Below.refl _ _).alloc (Nat.le_refl _) _) (Nat.le_refl _) _
  have hb12 := hb2.trans (hbx.mono hb2.size)
  have HB2 := Lib.hid hb12
  have HA2 := Lib.hid ((hb12.block _ (lt_of_row HA1.out)).trans HA1.out)
  have HI2 := Lib.hid (HI1.out.below hb12 (Nat.le_refl _))
  have HOA : Hid (OwnI W2 W1.heap.size (.slice a2 s.nodes.length c1) s.nodes ∧ OwnR 5 heldC 67 W2 W1.heap.size (.slice a3 s.led.held.length c2) s.led.held ∧ OwnR 6 lastC 71 W2 W1.heap.size (.slice a4 s.led.last.length c3) s.led.last) := Lib.hid ⟨owns_below hbx o1, owns_below hbx o2, owns_below hbx o3⟩
  have HCW := Lib.hid hcw
  have HDD := Lib.hid hd
  clear o1 o2 o3 hd hcw hb2 hbx hb12
  go_wp2_with (first | (with_reducible refine wpList_store_row rfl 29 (.tmp 6) (.tmp 22) rfl wb.heap.size (sArr s (.slice a2 s.nodes.length c1) (.slice a3 s.led.held.length c2) (.slice a4 s.led.last.length c3)) rfl rfl 29 _ hst (by kernel_rfl) rfl (Sh.sArr_one _ _ _ _ _ _ _ _ _ _) ?_; rw [hW2]; clear hW2 hst) | (with_reducible refine wpList_load_row rfl 32 (.tmp 2) rfl w.heap.size rfl 32 (hArr x0 vn vh vl vg) (0, 0) _ HA2.out Try.underlying32 rfl (by kernel_rfl) ?_))
  refine (At.ratE_any x0 _ a1 _ HI2.out HF.out B1.out.1 B1.out.2).mono ?_
  rintro e wc ⟨s2', z2, vn2, vh2, vl2, rfl, hd2, o1, o2, o3, hcw, hb3⟩
  obtain ⟨rfl, rfl⟩ := At.at_one HDD.out hd2
  obtain ⟨e1, f1, rfl, -⟩ := o1.sl hcw
  obtain ⟨e2, f2, rfl, -⟩ := o2.sl heldC_len
  obtain ⟨e3, f3, rfl, -⟩ := o3.sl lastC_len
  obtain ⟨s, hss⟩ : ∃ q, q = s2' := ⟨_, rfl⟩
  subst hss
  have hst : (wc.alloc (.cells At.zSA 29)).heap[wc.heap.size]? = some (.cells At.zSA 29 (0, 0)) := heap_alloc_new _ _
  obtain ⟨W3, hW3⟩ : ∃ q, (wc.alloc (.cells At.zSA 29)).setRow wc.heap.size (sArr s (.slice e1 s.nodes.length f1) (.slice e2 s.led.held.length f2) (.slice e3 s.led.last.length f3)) = q := ⟨_, rfl⟩
  have HX7 : Hid (W3.heap[wc.heap.size]? = some (.cells (sArr s (.slice e1 s.nodes.length f1) (.slice e2 s.led.held.length f2) (.slice e3 s.led.last.length f3)) 29 (0, 0))) := Lib.hid (by rw [← hW3]; exact setRow_heap _ _ _ _ _ _ hst)
  have hbx : Below wc.heap.size wc W3 := by rw [← hW3]; exact Ld.below_row ((Below.refl _ _).alloc (Nat.le_refl _) _) (Nat.le_refl _) _
  have hb23 := hb3.trans (hbx.mono hb3.size)
  have HB3 := Lib.hid (HB2.out.trans (hb23.mono HB2.out.size))
  have HX63 := Lib.hid ((hb23.block _ (lt_of_row HX6.out)).trans HX6.out)
  have HOA3 : Hid (OwnI W3 W1.heap.size (.slice a2 s.nodes.length c1) s.nodes ∧ OwnR 5 heldC 67 W3 W1.heap.size (.slice a3 s.led.held.length c2) s.led.held ∧ OwnR 6 lastC 71 W3 W1.heap.size (.slice a4 s.led.last.length c3) s.led.last) := Lib.hid ⟨owns_below hb23 HOA.out.1, owns_below hb23 HOA.out.2.1, owns_below hb23 HOA.out.2.2⟩
  have HAA : Hid (IsShot W3 (.agg (sArr s (.slice a2 s.nodes.length c1) (.slice a3 s.led.held.length c2) (.slice a4 s.led.last.length c3))) s) := Lib.hid ⟨_, _, _, rfl, HOA3.out.1.sl HCW.out, HOA3.out.2.1.sl heldC_len, HOA3.out.2.2.sl lastC_len, HSW.out⟩
  have HBBB : Hid (IsShot W3 (.agg (sArr s (.slice e1 s.nodes.length f1) (.slice e2 s.led.held.length f2) (.slice e3 s.led.last.length f3))) s) := Lib.hid ⟨_, _, _, rfl, (OwnK.below o1 hbx (Nat.le_refl _)).sl hcw, (o2.below hbx (Nat.le_refl _)).sl heldC_len, (o3.below hbx (Nat.le_refl _)).sl lastC_len, HSW.out⟩
  clear o1 o2 o3 hd2 hcw hb3 hbx hb23 HX6 HA2 HI2 HB2 HOA HDD
  have ez : (z2 == z2) = true := beq_iff_eq.2 rfl
  go_wp2_with (first | (with_reducible refine wpList_store_row rfl 29 (.tmp 8) (.tmp 28) rfl wc.heap.size (sArr s (.slice e1 s.nodes.length f1) (.slice e2 s.led.held.length f2) (.slice e3 s.led.last.length f3)) rfl rfl 29 _ hst (by kernel_rfl) rfl (Sh.sArr_one _ _ _ _ _ _ _ _ _ _) ?_; rw [hW3]; clear hW3 hst) | (with_reducible refine wpList_load_row rfl 29 (.tmp 6) rfl wb.heap.size rfl 29 (sArr s (.slice a2 s.nodes.length c1) (.slice a3 s.led.held.length c2) (.slice a4 s.led.last.length c3)) (0, 0) _ HX63.out Try.underlying29 rfl (by kernel_rfl) ?_) | (with_reducible refine wpList_load_row rfl 29 (.tmp 8) rfl wc.heap.size rfl 29 (sArr s (.slice e1 s.nodes.length f1) (.slice e2 s.led.held.length f2) (.slice e3 s.led.last.length f3)) (0, 0) _ HX7.out Try.underlying29 rfl (by kernel_rfl) ?_))
  refine (Sh.same_any s _ _ _ HAA.out HBBB.out).mono ?_
  rintro e wr ⟨rfl, hb4⟩
  have HP : Hid (At.AtP W1 wb.heap.size (sArr s (.slice a2 s.nodes.length c1) (.slice a3 s.led.held.length c2) (.slice a4 s.led.last.length c3)) (.slice a2 s.nodes.length c1) (.slice a3 s.led.held.length c2) (.slice a4 s.led.last.length c3) s.nodes.length s.led.held.length s.led.last.length wr) := Lib.hid ⟨At.BlkI.of (owns_below hb4 HOA3.out.1), At.BlkI.of (owns_below hb4 HOA3.out.2.1), At.BlkI.of (owns_below hb4 HOA3.out.2.2), (hb4.block _ (lt_of_row HX63.out)).trans HX63.out, HB3.out.trans (hb4.mono HB3.out.size)⟩
  clear hb4 HOA3 HAA HBBB HX63 HX7 HB3
  have x5 := (cell_of_row wr _ 5 _ _ _ HP.out.2.2.2.1).trans rfl
  obtain ⟨wo, hwo⟩ : ∃ q, q = wr := ⟨_, rfl⟩
  subst hwo
  go_wp2
  go_loopw [11, 42] (fun _ i wr => ∃ k : Nat, k ≤ s.led.held.length ∧ i = .int .i64 k ∧ Hid (At.AtP W1 wb.heap.size (sArr s (.slice a2 s.nodes.length c1) (.slice a3 s.led.held.length c2) (.slice a4 s.led.last.length c3)) (.slice a2 s.nodes.length c1) (.slice a3 s.led.held.length c2) (.slice a4 s.led.last.length c3) s.nodes.length s.led.held.length s.led.last.length wr)) (fun _ i _ => s.led.held.length - (intOf i).toNat)
  case atStart => exact ⟨0, Nat.zero_le _, rfl, HP⟩
  case round =>
    clear HP
    obtain ⟨k, hk, rfl, HP⟩ := hrel
    have x5 := (cell_of_row wr _ 5 _ _ _ HP.out.2.2.2.1).trans rfl
    by_cases hlt : k < s.led.held.length
    · obtain ⟨q, hqa, hqB, hfz, ⟨zu, hcell⟩, cur, hrow⟩ := HP.out.2.1.at (j := 1) hlt (by decide)
      have HN := Lib.hid (HP.out.set (j := k * 5 + 1) (u := .int .i64 99) hqB hrow (by decide))
      have hkz : (k : Int) < (s.led.held.length : Int) := by omega
      subst hqa
      clear hrow hqB
      go_wp2
      go_roundw
      case rel => exact ⟨k + 1, by omega, by go_num, HN⟩
      case measure => simp [intOf]; omega
    · obtain rfl : k = s.led.held.length := by omega
      have x6 := (cell_of_row wr _ 6 _ _ _ HP.out.2.2.2.1).trans rfl
      obtain ⟨wo, hwo⟩ : ∃ q, q = wr := ⟨_, rfl⟩
      subst hwo
      go_wp2
      go_loopw [12, 56] (fun _ i wr => ∃ k : Nat, k ≤ s.led.last.length ∧ i = .int .i64 k ∧ Hid (At.AtP W1 wb.heap.size (sArr s (.slice a2 s.nodes.length c1) (.slice a3 s.led.held.length c2) (.slice a4 s.led.last.length c3)) (.slice a2 s.nodes.length c1) (.slice a3 s.led.held.length c2) (.slice a4 s.led.last.length c3) s.nodes.length s.led.held.length s.led.last.length wr)) (fun _ i _ => s.led.last.length - (intOf i).toNat)
      case atStart => exact ⟨0, Nat.zero_le _, rfl, HP⟩
      case round =>
        clear HP
        obtain ⟨k, hk, rfl, HP⟩ := hrel
        have x6 := (cell_of_row wr _ 6 _ _ _ HP.out.2.2.2.1).trans rfl
        by_cases hlt : k < s.led.last.length
        · obtain ⟨q, hqa, hqB, hfz, ⟨zu, hcell⟩, cur, hrow⟩ := HP.out.2.2.1.at (j := 0) hlt (by decide)
          have HN := Lib.hid (HP.out.set (j := k * 6 + 0) (u := .int .i64 99) hqB hrow (by decide))
          have hkz : (k : Int) < (s.led.last.length : Int) := by omega
          subst hqa
          simp only [Nat.add_zero] at hfz hcell HN
          clear hrow hqB
          go_wp2
          go_roundw
          case rel => exact ⟨k + 1, by omega, by go_num, HN⟩
          case measure => simp [intOf]; omega
        · obtain rfl : k = s.led.last.length := by omega
          have x2 := (cell_of_row wr _ 2 _ _ _ HP.out.2.2.2.1).trans rfl
          obtain ⟨wo, hwo⟩ : ∃ q, q = wr := ⟨_, rfl⟩
          subst hwo
          go_wp2
          go_loopw [13, 69] (fun _ i wr => ∃ k : Nat, k ≤ s.nodes.length ∧ i = .int .i64 k ∧ Hid (At.AtP W1 wb.heap.size (sArr s (.slice a2 s.nodes.length c1) (.slice a3 s.led.held.length c2) (.slice a4 s.led.last.length c3)) (.slice a2 s.nodes.length c1) (.slice a3 s.led.held.length c2) (.slice a4 s.led.last.length c3) s.nodes.length s.led.held.length s.led.last.length wr)) (fun _ i _ => s.nodes.length - (intOf i).toNat)
          case atStart => exact ⟨0, Nat.zero_le _, rfl, HP⟩
          case round =>
            clear HP
            obtain ⟨k, hk, rfl, HP⟩ := hrel
            have x2 := (cell_of_row wr _ 2 _ _ _ HP.out.2.2.2.1).trans rfl
            by_cases hlt : k < s.nodes.length
            · obtain ⟨q, hqa, hqB, hfz, ⟨zu, hcell⟩, cur, hrow⟩ := HP.out.1.at (j := 0) hlt (by decide)
              have HN := Lib.hid (HP.out.set (j := k * 1 + 0) (u := .int .i64 99) hqB hrow (by decide))
              have hkz : (k : Int) < (s.nodes.length : Int) := by omega
              subst hqa
              simp only [Nat.mul_one, Nat.add_zero] at hfz hcell HN
              clear hrow hqB
              go_wp2
              go_roundw
              case rel => exact ⟨k + 1, by omega, by go_num, HN⟩
              case measure => simp [intOf]; omega
            · obtain rfl : k = s.nodes.length := by omega
              have HBE := Lib.hid HP.out.2.2.2.2
              go_wp2_with fail
              refine (Rl.example_any _).mono ?_
              rintro e we ⟨ve, rfl, hex, hb6⟩
              have HB6 := Lib.hid (HBE.out.trans (hb6.mono HBE.out.size))
              clear hb6
              go_wp2_with fail
              refine (At.atE_any exH _ 6 _ hex exH_fits (by decide) (by decide)).mono ?_
              rintro e wf ⟨sx, zx, vn3, vh3, vl3, rfl, hd3, o31, o32, o33, hcw3, hb7⟩
              obtain ⟨rfl, hi3, ht3⟩ := At.ex_one hd3
              obtain ⟨y1, z1, rfl, -⟩ := o31.sl hcw3
              obtain ⟨y2, z22, rfl, -⟩ := o32.sl heldC_len
              obtain ⟨y3, z33, rfl, -⟩ := o33.sl lastC_len
              have hst : (wf.alloc (.cells At.zSA 29)).heap[wf.heap.size]? = some (.cells At.zSA 29 (0, 0)) := heap_alloc_new _ _
              obtain ⟨W8, hW8⟩ : ∃ q, (wf.alloc (.cells At.zSA 29)).setRow wf.heap.size (sArr sx (.slice y1 sx.nodes.length z1) (.slice y2 sx.led.held.length z22) (.slice y3 sx.led.last.length z33)) = q := ⟨_, rfl⟩
              have HX8 : Hid (W8.heap[wf.heap.size]? = some (.cells (sArr sx (.slice y1 sx.nodes.length z1) (.slice y2 sx.led.held.length z22) (.slice y3 sx.led.last.length z33)) 29 (0, 0))) := Lib.hid (by rw [← hW8]; exact setRow_heap _ _ _ _ _ _ hst)
              have hbx : Below wf.heap.size wf W8 := by rw [← hW8]; exact Ld.below_row ((Below.refl _ _).alloc (Nat.le_refl _) _) (Nat.le_refl _) _
              have HB8 := Lib.hid (HB6.out.trans ((hb7.trans (hbx.mono hb7.size)).mono HB6.out.size))
              have p0 := (cell_of_row W8 _ 0 _ _ _ HX8.out).trans rfl
              have p1 := (cell_of_row W8 _ 1 _ _ _ HX8.out).trans rfl
              have q6 : (sx.index == 6) = true := beq_iff_eq.2 hi3
              have q2 : (sx.term == 2) = true := beq_iff_eq.2 ht3
              have HA8 := Lib.hid ((HB8.out.block _ (lt_of_row HA1.out)).trans HA1.out)
              have HX58 := Lib.hid ((HB8.out.block _ (lt_of_row HX5.out)).trans HX5.out)
              clear hex hd3 o31 o32 o33 hcw3 hb7 hbx hi3 ht3 HX8
              go_wp2_with (first | (with_reducible refine wpList_store_row rfl 29 (.tmp 14) (.tmp 80) rfl wf.heap.size (sArr sx (.slice y1 sx.nodes.length z1) (.slice y2 sx.led.held.length z22) (.slice y3 sx.led.last.length z33)) rfl rfl 29 _ hst (by kernel_rfl) rfl (Sh.sArr_one _ _ _ _ _ _ _ _ _ _) ?_; rw [hW8]; clear hW8 hst) | (with_reducible refine wpList_load_rowG rfl 32 (.tmp 5) rfl wa.heap.size rfl 32 (hArr x0 (.slice s0 x0.shot.nodes.length k0) (.slice s1 x0.shot.led.held.length k1) (.slice s2 x0.shot.led.last.length k2) (.slice s3 x0.log.length k3)) (0, 0) _ HX58.out Try.underlying32 rfl (by kernel_rfl) ?_) | (with_reducible refine wpList_load_rowG rfl 32 (.tmp 2) rfl w.heap.size rfl 32 (hArr x0 vn vh vl vg) (0, 0) _ HA8.out Try.underlying32 rfl (by kernel_rfl) ?_))
              refine (Hd.same_any x0 _ _ _ (HO1.out.below HB8.out (Nat.le_refl _)) (HI1.out.below HB8.out (Nat.le_refl _))).mono ?_
              rintro e wg ⟨rfl, hb9⟩
              go_wp2
              go_ret
              exact ⟨rfl, HB1.out.trans ((HB8.out.trans (hb9.mono HB8.out.size)).mono HB1.out.size)⟩

set_option maxRecDepth 100000 in
theorem contract (H : Type) (enc : TypeId × Value → H) (W : World) (base : Nat) (args : Array Value) (ds gs : List (DataW H)) (before : List MemPlace)
    (hval0 : ∀ (j : Nat) t v, Try.f8.params[j]? = some t → args[j]? = some v → Value.okWide Try.prog W .any base t v)
    (hW : DataW.Whole enc Try.prog Try.f8.params.toList Rows.rlogAtSpec.vars false W args.toList ds gs before)
    (hsz0 : (DataW.weightsEach Try.prog (Try.f8.params.toList ++ Rows.rlogAtSpec.plain.varTypes Try.prog) (ds ++ gs)).all (· ≤ reachBytes) = true) :
    Calls Try.prog 8 args W fun e W' => ∃ v, e = .returned v ∧ Rows.rlogAtSpec.post enc Try.prog Try.f8 false true false false W args v W' := by
  have hval : ∀ (j : Nat) t v, Try.f8.params[j]? = some t → args[j]? = some v → Value.okWide Try.prog W .any base t v := hval0
  have hW' := hW
  obtain ⟨p, q, hA0, hV, rfl, hfz, hnd⟩ := hW
  have hA : DataW.TrodAll enc Try.prog W 0 (fun _ => true) true Try.f8.params.toList args.toList ds p := hA0
  rw [Try.params8] at hA hval
  have hsz := hsz0
  rw [Try.params8] at hsz
  obtain ⟨v0, vs0, d0, ds0, p0, q0, hargs, rfl, rfl, h0, r0⟩ := trodAll_cons hA
  obtain ⟨v1, vs1, d1, ds1, p1, q1, rfl, rfl, rfl, h1, r1⟩ := trodAll_cons r0
  obtain ⟨rfl, rfl, rfl⟩ := trodAll_nil r1
  obtain rfl : args = #[v0, v1] := by cases args; simp_all
  obtain ⟨rfl, rfl⟩ := trodVars_none hV
  clear hA0 hval0
  have k0 := h0
  have lt0 : ∀ x ∈ p0, x.block < W.heap.size := by obtain ⟨m, hm⟩ := k0; exact DataW.trod_lt m _ _ _ hm
  have k1 := h1
  have lt1 : ∀ x ∈ p1, x.block < W.heap.size := by obtain ⟨m, hm⟩ := k1; exact DataW.trod_lt m _ _ _ hm
  obtain ⟨x0, w0, -, s0⟩ := open_hard (hval 0 32 v0 rfl rfl) k0
  have b0 : IsHard.fits x0 := s0 (wt_arg hsz (j := 0) rfl rfl)
  obtain ⟨a1, rfl, -, -, w1⟩ := open_int Try.underlying22 (hval 1 22 v1 rfl rfl) h1
  refine (walk v0 x0 a1 W w0 b0 w1).mono fun e W' ⟨he, bel⟩ => ?_
  subst he
  exact ⟨_, rfl, _, _, _, [], _, [], hW', trodAll_mk1 (shut_bool Try.underlying4 _), (trodAll_cons_mk (Below.trod laidOut (by kernel_rfl) (of_decide_eq_true (by kernel_rfl)) k0 bel lt0) (trodAll_cons_mk (Below.trod laidOut (by kernel_rfl) (of_decide_eq_true (by kernel_rfl)) k1 bel lt1) trodAll_mk0)), rfl, bel.frame _, fun h => by cases h⟩

set_option maxRecDepth 100000 in
theorem lifted (os : Os) (started : os.Started) (H : Type) (enc : TypeId × Value → H) :
    ReturnsInHanded {} Try.checked os 8 .any (Rows.rlogAtSpec.pre6 enc Try.prog Try.f8 Rows.rlogAtRow.domain false) (Rows.rlogAtSpec.post enc Try.prog Try.f8 false true false false) := by
  refine returnsInHanded_of_change_sized (C := Try.checked) own started (by kernel_rfl) Try.func8
    (ChangeSpec.witness6 (enc := enc) (C := Try.checked) false ⟨#[], #[.agg #[.int .u64 0, .int .u64 0, .int .i64 0, .int .u64 0, .int .u64 0, .slice none 0 0, .int .i64 0, .int .u64 0, .slice none 0 0, .slice none 0 0, .slice none 0 0], .int .u64 0], []⟩ 8 (by kernel_rfl) (by kernel_rfl) (by kernel_rfl) (by kernel_rfl)) ?_
  intro W base args ds gs before hval0 hW hcnd hsz _
  exact contract H enc W base args ds gs before hval0 hW hsz

theorem proved : Rows.RlogAtSaid :=
  OpenClaim.holds_of_wide 8 Try.f8 rfl rfl rfl rfl rfl rfl rfl ⟨rfl, rfl, rfl, rfl, rfl⟩ rfl rfl rfl rfl rfl (by kernel_rfl) Try.func8 (by kernel_rfl)
    (of_decide_eq_true (by kernel_rfl)) (by unfold Func.isWrapper; first | (rw [if_pos (by decide +kernel)]; kernel_rfl) | (rw [if_neg (by decide +kernel)]; exact ⟨rfl, rfl⟩))
    (fun os started H enc _ => lifted os started H enc)
end Go.Proofs.Ytgadbghlcejkfaa.rlogAt
