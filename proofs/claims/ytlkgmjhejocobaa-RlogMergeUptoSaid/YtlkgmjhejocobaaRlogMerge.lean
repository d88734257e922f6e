/- The law RlogMerge returns true for all that may be read as what lasts and as what Merge is asked, each of at most 1048576 parts: package rlog's Merge answers what the document's own Merge answers, what lasts and the entries stay as they were, and the chapter's example holds. No condition but that bound of size. -/
import Derived.Test.YtlkgmjhejocobaaBse
import Derived.Test.YtlkgmjhejocobaaWyA
import Derived.Deep.MidRow
namespace Go.Proofs.Ytlkgmjhejocobaa.rlogMerge
open Go.ChangeShapes Go.WideShapes Go.ChangeAt Go.RowKit
open Go.ChangeMaps (open_string shut_string)
set_option linter.unusedVariables false

theorem own : ownKnob Try.prog.godebug = none := by kernel_rfl
theorem laidOut : laidOutB Try.prog = true := by kernel_rfl

open Rc Hd Nv Rl Mg Go.Deep
set_option maxHeartbeats 8000000 in
theorem walk (v0 : Value) (x0 : Har) (v1 : Value) (x1 : WayT) (w : World) (w0 : IsHardU w v0 x0) (b0 : IsHardU.size x0 ≤ 1048576) (f0 : IsHardU.fits x0) (w1 : IsWay w v1 x1) (b1 : IsWay.size x1 ≤ 1048576) (f1 : IsWay.fits x1) :
    Calls Try.prog 11 #[v0, v1] w fun e w' => e = .returned (.bool true) ∧ Below w.heap.size w w' := by
  obtain ⟨vn, vh, vl, vg, rfl, hn, hhe, hll, hg, hwf⟩ := id w0
  obtain ⟨g1, q1, rfl, -⟩ := id hn
  obtain ⟨g2, q2, rfl, -⟩ := id hhe
  obtain ⟨g3, q3, rfl, -⟩ := id hll
  obtain ⟨g4, q4, rfl, -⟩ := IsLog.len hg
  obtain ⟨wg, rfl, hwl, wi, wt, wcc⟩ := id w1
  obtain ⟨wa, wc, rfl, -⟩ := IsLog.len hwl
  have i0 := Ld.u64_nonneg wi
  have i1 := Mg.u64_le wi
  have c0 := Ld.u64_nonneg wcc
  have c1 := Mg.u64_le wcc
  have bh : x0.log.length ≤ 1048576 := b0
  have bl : x1.l.length ≤ 1048576 := b1
  have hfl := f1.1
  obtain ⟨W0, hW0⟩ : ∃ q, (w.alloc (.cells (hArr x0 (.slice g1 x0.shot.nodes.length q1) (.slice g2 x0.shot.led.held.length q2) (.slice g3 x0.shot.led.last.length q3) (.slice g4 x0.log.length q4)) 43)).alloc (.cells (wArr x1 (.slice wa x1.l.length wc)) 66) = q := ⟨_, rfl⟩
  have hb0 : Below w.heap.size w W0 := by rw [← hW0]; exact ((Below.refl _ _).alloc (Nat.le_refl _) _).alloc (by simp) _
  have HA0 : Hid (W0.heap[w.heap.size]? = some (.cells (hArr x0 (.slice g1 x0.shot.nodes.length q1) (.slice g2 x0.shot.led.held.length q2) (.slice g3 x0.shot.led.last.length q3) (.slice g4 x0.log.length q4)) 43 (0, 0))) := Lib.hid (by rw [← hW0]; exact heap_alloc2_old _ _ _)
  have HW0 : Hid (W0.heap[w.heap.size + 1]? = some (.cells (wArr x1 (.slice wa x1.l.length wc)) 66 (0, 0))) := Lib.hid (by rw [← hW0]; exact heap_alloc2_new _ _ _)
  have HB0 := Lib.hid hb0
  have HI0 := Lib.hid (w0.below hb0 (Nat.le_refl _))
  have HL0 := Lib.hid (hwl.below hb0 (Nat.le_refl _))
  have HF := Lib.hid f0
  have HLF := Lib.hid f1.2
  clear w0 w1 b0 b1 f0 f1 hb0 hn hhe hll hg hwf hwl wi wt wcc
  go_enter Try.func11, Try.ntmps11
  go_wp2_with (first | (with_reducible refine wpList_load_row rfl 43 (.tmp 2) rfl w.heap.size rfl 43 (hArr x0 (.slice g1 x0.shot.nodes.length q1) (.slice g2 x0.shot.led.held.length q2) (.slice g3 x0.shot.led.last.length q3) (.slice g4 x0.log.length q4)) (0, 0) _ HA0.out Try.underlying43 rfl (by kernel_rfl) ?_) | fail)
  refine (Hd.copy_any x0 _ _ HI0.out HF.out).mono ?_
  rintro e wq ⟨v1, rfl, hi1, hb1⟩
  obtain ⟨cn, ch, cl, cg, rfl, hs0, hs1, hs2, hs3, -⟩ := id hi1
  obtain ⟨s0, k0, rfl, -⟩ := id hs0
  obtain ⟨s1, k1, rfl, -⟩ := id hs1
  obtain ⟨s2, k2, rfl, -⟩ := id hs2
  obtain ⟨s3, k3, rfl, -, -⟩ := Hd.IsLog.len hs3
  have hst : (wq.alloc (.cells zHM 43)).heap[wq.heap.size]? = some (.cells zHM 43 (0, 0)) := heap_alloc_new _ _
  obtain ⟨W1, hW1⟩ : ∃ q, (wq.alloc (.cells zHM 43)).setRow wq.heap.size (hArr x0 (.slice s0 x0.shot.nodes.length k0) (.slice s1 x0.shot.led.held.length k1) (.slice s2 x0.shot.led.last.length k2) (.slice s3 x0.log.length k3)) = q := ⟨_, rfl⟩
  have HX1 : Hid (W1.heap[wq.heap.size]? = some (.cells (hArr x0 (.slice s0 x0.shot.nodes.length k0) (.slice s1 x0.shot.led.held.length k1) (.slice s2 x0.shot.led.last.length k2) (.slice s3 x0.log.length k3)) 43 (0, 0))) := Lib.hid (by rw [← hW1]; exact setRow_heap _ _ _ _ _ _ hst)
  have hbx : Below wq.heap.size wq W1 := by rw [← hW1]; exact Ld.below_row ((Below.refl _ _).alloc (Nat.le_refl _) _) (Nat.le_refl _) _
  have hb01 := hb1.trans (hbx.mono hb1.size)
  have HB1 := Lib.hid (HB0.out.trans (hb01.mono HB0.out.size))
  have HA1 := Lib.hid ((hb01.block _ (lt_of_row HA0.out)).trans HA0.out)
  have HW1 := Lib.hid ((hb01.block _ (lt_of_row HW0.out)).trans HW0.out)
  have HI1 := Lib.hid (HI0.out.below hb01 (Nat.le_refl _))
  have HL1 := Lib.hid (HL0.out.below hb01 (Nat.le_refl _))
  have HM1 := Lib.hid (hi1.below hbx (Nat.le_refl _))
  have y0 := (cell_of_row _ _ 0 _ _ _ HW1.out).trans rfl
  have y1 := (cell_of_row _ _ 1 _ _ _ HW1.out).trans rfl
  have y2 := (cell_of_row _ _ 2 _ _ _ HW1.out).trans rfl
  have y3 := (cell_of_row _ _ 3 _ _ _ HW1.out).trans rfl
  clear hi1 hs0 hs1 hs2 hs3 hb1 hbx hb01
  go_wp2_with (first | (with_reducible refine wpList_store_row rfl 43 (.tmp 5) (.tmp 14) rfl wq.heap.size (hArr x0 (.slice s0 x0.shot.nodes.length k0) (.slice s1 x0.shot.led.held.length k1) (.slice s2 x0.shot.led.last.length k2) (.slice s3 x0.log.length k3)) rfl rfl 43 _ hst (by kernel_rfl) rfl (Hd.hArr_one _ _ _ _ _ _ _ _ _ _ _ _ _) ?_; rw [hW1]; clear hW1 hst) | fail)
  refine (Hd.ents_any x1.l _ _ HL1.out hfl HLF.out).mono ?_
  rintro e w2 ⟨ve, rfl, hle, hb2⟩
  obtain ⟨ea, ec, rfl, -⟩ := IsLog.len hle
  have HB2 := Lib.hid (HB1.out.trans (hb2.mono HB1.out.size))
  have HA2 := Lib.hid ((hb2.block _ (lt_of_row HA1.out)).trans HA1.out)
  have HW2 := Lib.hid ((hb2.block _ (lt_of_row HW1.out)).trans HW1.out)
  have HI2 := Lib.hid (HI1.out.below hb2 (Nat.le_refl _))
  have HL2 := Lib.hid (HL1.out.below hb2 (Nat.le_refl _))
  have HM2 := Lib.hid (HM1.out.below hb2 (Nat.le_refl _))
  have HX2 := Lib.hid ((hb2.block _ (lt_of_row HX1.out)).trans HX1.out)
  have HE2 := Lib.hid hle
  clear y0 y1 y2 y3 hb2 hle
  have y0 := (cell_of_row _ _ 0 _ _ _ HW2.out).trans rfl
  have y1 := (cell_of_row _ _ 1 _ _ _ HW2.out).trans rfl
  have y2 := (cell_of_row _ _ 2 _ _ _ HW2.out).trans rfl
  have y3 := (cell_of_row _ _ 3 _ _ _ HW2.out).trans rfl
  go_wp2_with (first | (with_reducible refine wpList_load_row rfl 43 (.tmp 5) rfl wq.heap.size rfl 43 (hArr x0 (.slice s0 x0.shot.nodes.length k0) (.slice s1 x0.shot.led.held.length k1) (.slice s2 x0.shot.led.last.length k2) (.slice s3 x0.log.length k3)) (0, 0) _ HX2.out Try.underlying43 rfl (by kernel_rfl) ?_) | fail)
  refine (merge_any x0 _ x1.i x1.t x1.c x1.l _ _ HM2.out HF.out (by omega) HE2.out HLF.out (by omega) i0 i1 c0 c1).mono ?_
  rintro e w3 ⟨va, rfl, hra, hb3⟩
  have HB3 := Lib.hid (HB2.out.trans (hb3.mono HB2.out.size))
  have HA3 := Lib.hid ((hb3.block _ (lt_of_row HA2.out)).trans HA2.out)
  have HW3 := Lib.hid ((hb3.block _ (lt_of_row HW2.out)).trans HW2.out)
  have HI3 := Lib.hid (HI2.out.below hb3 (Nat.le_refl _))
  have HL3 := Lib.hid (HL2.out.below hb3 (Nat.le_refl _))
  have HM3 := Lib.hid (HM2.out.below hb3 (Nat.le_refl _))
  have HX3 := Lib.hid ((hb3.block _ (lt_of_row HX2.out)).trans HX2.out)
  have HE3 := Lib.hid (HE2.out.below hb3 (Nat.le_refl _))
  have HR3 := Lib.hid hra
  obtain ⟨N, hN⟩ : ∃ q, mergeV x0 x1.i x1.t x1.c x1.l = q := ⟨_, rfl⟩
  rw [hN] at HR3 ⊢
  clear y0 y1 y2 y3 hb3 hra
  have y0 := (cell_of_row _ _ 0 _ _ _ HW3.out).trans rfl
  have y1 := (cell_of_row _ _ 1 _ _ _ HW3.out).trans rfl
  have y2 := (cell_of_row _ _ 2 _ _ _ HW3.out).trans rfl
  have y3 := (cell_of_row _ _ 3 _ _ _ HW3.out).trans rfl
  go_wp2_with (first | (with_reducible refine wpList_load_row rfl 43 (.tmp 2) rfl w.heap.size rfl 43 (hArr x0 (.slice g1 x0.shot.nodes.length q1) (.slice g2 x0.shot.led.held.length q2) (.slice g3 x0.shot.led.last.length q3) (.slice g4 x0.log.length q4)) (0, 0) _ HA3.out Try.underlying43 rfl (by kernel_rfl) ?_) | fail)
  refine (rmerge_any x0 _ x1.i x1.t x1.c x1.l _ _ HI3.out HF.out (by omega) HL3.out HLF.out (by omega) i0 i1 c0 c1).mono ?_
  rintro e w4 ⟨vb, rfl, hrb, hb4⟩
  rw [hN] at hrb ⊢
  clear hN
  have HB4 := Lib.hid (HB3.out.trans (hb4.mono HB3.out.size))
  have HA4 := Lib.hid ((hb4.block _ (lt_of_row HA3.out)).trans HA3.out)
  have HW4 := Lib.hid ((hb4.block _ (lt_of_row HW3.out)).trans HW3.out)
  have HI4 := Lib.hid (HI3.out.below hb4 (Nat.le_refl _))
  have HL4 := Lib.hid (HL3.out.below hb4 (Nat.le_refl _))
  have HM4 := Lib.hid (HM3.out.below hb4 (Nat.le_refl _))
  have HX4 := Lib.hid ((hb4.block _ (lt_of_row HX3.out)).trans HX3.out)
  have HE4 := Lib.hid (HE3.out.below hb4 (Nat.le_refl _))
  have HR4 := Lib.hid (HR3.out.below hb4 (Nat.le_refl _))
  have HS4 := Lib.hid hrb
  clear y0 y1 y2 y3 hb4 hrb
  go_wp2_with fail
  refine (example_any _).mono ?_
  rintro e w5 ⟨v5, rfl, hi5, hb5⟩
  have HB5 := Lib.hid (HB4.out.trans (hb5.mono HB4.out.size))
  have HA5 := Lib.hid ((hb5.block _ (lt_of_row HA4.out)).trans HA4.out)
  have HW5 := Lib.hid ((hb5.block _ (lt_of_row HW4.out)).trans HW4.out)
  have HI5 := Lib.hid (HI4.out.below hb5 (Nat.le_refl _))
  have HL5 := Lib.hid (HL4.out.below hb5 (Nat.le_refl _))
  have HM5 := Lib.hid (HM4.out.below hb5 (Nat.le_refl _))
  have HX5 := Lib.hid ((hb5.block _ (lt_of_row HX4.out)).trans HX4.out)
  have HE5 := Lib.hid (HE4.out.below hb5 (Nat.le_refl _))
  have HR5 := Lib.hid (HR4.out.below hb5 (Nat.le_refl _))
  have HS5 := Lib.hid (HS4.out.below hb5 (Nat.le_refl _))
  have HI5x := Lib.hid hi5
  have HX6 : Hid (∀ ww : World, Below w5.heap.size w5 ww → IsHard ww v5 exH) := Lib.hid (fun ww hw => HI5x.out.below hw (Nat.le_refl _))
  obtain ⟨a5, b5', c5, d5, rfl, -⟩ := id hi5
  clear hb5 hi5
  have HLX : Hid (∀ ww : World, IsLog (ww.alloc (.cells #[.int .u64 3, .int .i64 1, .int .i64 0, .int .i64 0, .slice none 0 0, .int .u64 0, .int .u64 0, .int .u64 0, .int .u64 0] 47)) (.slice (some ⟨ww.heap.size, 0, none⟩) 1 1) [⟨3, noop⟩]) := Lib.hid (fun ww => ⟨[(⟨3, noop⟩, .slice none 0 0)], SlR.one entC_len ww ww.heap.size rfl _ _ rfl, fun r hr => by
    simp only [List.mem_cons, List.not_mem_nil, or_false] at hr
    subst hr
    exact ⟨Cm.sl_nil _ _, by decide, by unfold Cmd.wf; decide⟩, rfl⟩)
  go_wp2_with fail
  have hb6 : Below w5.heap.size w5 (w5.alloc (.cells #[.int .u64 3, .int .i64 1, .int .i64 0, .int .i64 0, .slice none 0 0, .int .u64 0, .int .u64 0, .int .u64 0, .int .u64 0] 47)) := (Below.refl _ _).alloc (Nat.le_refl _) _
  refine (merge_any exH _ 6 2 0 [⟨3, noop⟩] _ _ (HX6.out _ hb6) exH_fits (by decide) (HLX.out w5) (fun x hx => by simp only [List.mem_cons, List.not_mem_nil, or_false] at hx; subst hx; show (0 : Nat) * 8 ≤ 140737488351232; decide) (by decide) (by decide) (by decide) (by decide) (by decide)).mono ?_
  rintro e w7 ⟨v7, rfl, -, hb7⟩
  rw [exH_merge]
  have hb57 := hb6.trans (hb7.mono hb6.size)
  have HB7 := Lib.hid (HB5.out.trans (hb57.mono HB5.out.size))
  have HA7 := Lib.hid ((hb57.block _ (lt_of_row HA5.out)).trans HA5.out)
  have HW7 := Lib.hid ((hb57.block _ (lt_of_row HW5.out)).trans HW5.out)
  have HI7 := Lib.hid (HI5.out.below hb57 (Nat.le_refl _))
  have HL7 := Lib.hid (HL5.out.below hb57 (Nat.le_refl _))
  have HM7 := Lib.hid (HM5.out.below hb57 (Nat.le_refl _))
  have HX7 := Lib.hid ((hb57.block _ (lt_of_row HX5.out)).trans HX5.out)
  have HE7 := Lib.hid (HE5.out.below hb57 (Nat.le_refl _))
  have HR7 := Lib.hid (HR5.out.below hb57 (Nat.le_refl _))
  have HS7 := Lib.hid (HS5.out.below hb57 (Nat.le_refl _))
  clear hb6 hb7 hb57
  go_wp2_with fail
  refine (recs_same _ _ _ _ HR7.out HS7.out).mono ?_
  rintro e w8 ⟨rfl, hb8⟩
  have HB8 := Lib.hid (HB7.out.trans (hb8.mono HB7.out.size))
  have HA8 := Lib.hid ((hb8.block _ (lt_of_row HA7.out)).trans HA7.out)
  have HW8 := Lib.hid ((hb8.block _ (lt_of_row HW7.out)).trans HW7.out)
  have HI8 := Lib.hid (HI7.out.below hb8 (Nat.le_refl _))
  have HL8 := Lib.hid (HL7.out.below hb8 (Nat.le_refl _))
  have HM8 := Lib.hid (HM7.out.below hb8 (Nat.le_refl _))
  have HX8 := Lib.hid ((hb8.block _ (lt_of_row HX7.out)).trans HX7.out)
  have HE8 := Lib.hid (HE7.out.below hb8 (Nat.le_refl _))
  clear hb8
  go_wp2_with (first | (with_reducible refine wpList_load_rowG rfl 43 (.tmp 5) rfl wq.heap.size rfl 43 (hArr x0 (.slice s0 x0.shot.nodes.length k0) (.slice s1 x0.shot.led.held.length k1) (.slice s2 x0.shot.led.last.length k2) (.slice s3 x0.log.length k3)) (0, 0) _ HX8.out Try.underlying43 rfl (by kernel_rfl) ?_) | (with_reducible refine wpList_load_rowG rfl 43 (.tmp 2) rfl w.heap.size rfl 43 (hArr x0 (.slice g1 x0.shot.nodes.length q1) (.slice g2 x0.shot.led.held.length q2) (.slice g3 x0.shot.led.last.length q3) (.slice g4 x0.log.length q4)) (0, 0) _ HA8.out Try.underlying43 rfl (by kernel_rfl) ?_))
  refine (Hd.same_any x0 _ _ _ HM8.out HI8.out).mono ?_
  rintro e w9 ⟨rfl, hb9⟩
  have HB9 := Lib.hid (HB8.out.trans (hb9.mono HB8.out.size))
  have HA9 := Lib.hid ((hb9.block _ (lt_of_row HA8.out)).trans HA8.out)
  have HW9 := Lib.hid ((hb9.block _ (lt_of_row HW8.out)).trans HW8.out)
  have HI9 := Lib.hid (HI8.out.below hb9 (Nat.le_refl _))
  have HL9 := Lib.hid (HL8.out.below hb9 (Nat.le_refl _))
  have HE9 := Lib.hid (HE8.out.below hb9 (Nat.le_refl _))
  clear hb9
  have y0 := (cell_of_row _ _ 0 _ _ _ HW9.out).trans rfl
  have y1 := (cell_of_row _ _ 1 _ _ _ HW9.out).trans rfl
  have y2 := (cell_of_row _ _ 2 _ _ _ HW9.out).trans rfl
  have y3 := (cell_of_row _ _ 3 _ _ _ HW9.out).trans rfl
  go_wp2_with fail
  refine (Hd.ents_same x1.l _ _ _ HE9.out HL9.out).mono ?_
  rintro e wz ⟨rfl, hbz⟩
  go_wp2
  go_ret
  exact ⟨rfl, HB9.out.trans (hbz.mono HB9.out.size)⟩

set_option maxRecDepth 100000 in
theorem contract (H : Type) (enc : TypeId × Value → H) (W : World) (base : Nat) (args : Array Value) (ds gs : List (DataW H)) (before : List MemPlace)
    (hval0 : ∀ (j : Nat) t v, Try.f11.params[j]? = some t → args[j]? = some v → Value.okWide Try.prog W .any base t v)
    (hW : DataW.Whole enc Try.prog Try.f11.params.toList Rows.rlogMergeSpec.vars false W args.toList ds gs before)
    (hk : Rows.uptoSmall H (ds ++ gs) = true) :
    Calls Try.prog 11 args W fun e W' => ∃ v, e = .returned v ∧ Rows.rlogMergeSpec.post enc Try.prog Try.f11 false true false false W args v W' := by
  have hval : ∀ (j : Nat) t v, Try.f11.params[j]? = some t → args[j]? = some v → Value.okWide Try.prog W .any base t v := hval0
  have hW' := hW
  obtain ⟨p, q, hA0, hV, rfl, hfz, hnd⟩ := hW
  have hA : DataW.TrodAll enc Try.prog W 0 (fun _ => true) true Try.f11.params.toList args.toList ds p := hA0
  rw [Try.params11] at hA hval
  obtain ⟨v0, vs0, d0, ds0, p0, q0, hargs, rfl, rfl, h0, r0⟩ := trodAll_cons hA
  obtain ⟨v1, vs1, d1, ds1, p1, q1, rfl, rfl, rfl, h1, r1⟩ := trodAll_cons r0
  obtain ⟨rfl, rfl, rfl⟩ := trodAll_nil r1
  obtain rfl : args = #[v0, v1] := by cases args; simp_all
  obtain ⟨rfl, rfl⟩ := trodVars_none hV
  clear hA0 hval0
  simp only [List.append_nil] at hk
  have ub := of_decide_eq_true hk
  have u0 : Rows.uptoBulk d0 ≤ 1048576 := Nat.le_trans (bulk_mem (l := [d0, d1]) (by simp)) ub
  have u1 : Rows.uptoBulk d1 ≤ 1048576 := Nat.le_trans (bulk_mem (l := [d0, d1]) (by simp)) ub
  clear hk ub
  have k0 := h0
  have lt0 : ∀ x ∈ p0, x.block < W.heap.size := by obtain ⟨m, hm⟩ := k0; exact DataW.trod_lt m _ _ _ hm
  have k1 := h1
  have lt1 : ∀ x ∈ p1, x.block < W.heap.size := by obtain ⟨m, hm⟩ := k1; exact DataW.trod_lt m _ _ _ hm
  obtain ⟨x0, w0, b00, s0⟩ := open_hardU (hval 0 43 v0 rfl rfl) k0
  have b0 : IsHardU.size x0 ≤ 1048576 := Nat.le_trans b00 u0
  have f0 : IsHardU.fits x0 := s0 (wt_small u0 (by decide +kernel))
  obtain ⟨x1, w1, b10, s1⟩ := open_way (hval 1 66 v1 rfl rfl) k1
  have b1 : IsWay.size x1 ≤ 1048576 := Nat.le_trans b10 u1
  have f1 : IsWay.fits x1 := s1 (wt_small u1 (by decide +kernel))
  refine (walk v0 x0 v1 x1 W w0 b0 f0 w1 b1 f1).mono fun e W' ⟨he, bel⟩ => ?_
  subst he
  exact ⟨_, rfl, _, _, _, [], _, [], hW', trodAll_mk1 (shut_bool Try.underlying4 _), (trodAll_cons_mk (Below.trod laidOut (by kernel_rfl) (of_decide_eq_true (by kernel_rfl)) k0 bel lt0) (trodAll_cons_mk (Below.trod laidOut (by kernel_rfl) (of_decide_eq_true (by kernel_rfl)) k1 bel lt1) trodAll_mk0)), rfl, bel.frame _, fun h => by cases h⟩

set_option maxRecDepth 100000 in
theorem lifted (os : Os) (started : os.Started) (H : Type) (enc : TypeId × Value → H) (F : Stop.Interp) :
    ReturnsInHanded {} Try.checked os 11 .any ((Rows.OpenSpec.upto Rows.rlogMergeSpec).pre6 enc Try.prog Try.f11 Rows.rlogMergeUptoRow.domain false) (((Rows.OpenSpec.upto Rows.rlogMergeSpec).at F).post enc Try.prog Try.f11 false true false false) := by
  refine returnsInHanded_of_cond (C := Try.checked) (s := Rows.OpenSpec.upto Rows.rlogMergeSpec) (k := Rows.uptoSmall) rfl own started (by kernel_rfl) Try.func11
    (OpenSpec.witness (enc := enc) (C := Try.checked) (s := Rows.OpenSpec.upto Rows.rlogMergeSpec) (k := Rows.uptoSmall) rfl false ⟨#[], #[.agg #[.int .u64 0, .int .u64 0, .int .i64 0, .int .u64 0, .int .u64 0, .slice none 0 0, .int .i64 0, .int .u64 0, .slice none 0 0, .slice none 0 0, .slice none 0 0], .agg #[.int .u64 0, .int .u64 0, .int .u64 0, .slice none 0 0]], []⟩ 8 (by kernel_rfl) (by kernel_rfl) (by kernel_rfl)
      (x := ([.agg [.lit (.int .u64 0), .lit (.int .u64 0), .lit (.int .i64 0), .agg [.lit (.int .u64 0), .lit (.int .u64 0), .nil, .agg [.lit (.int .i64 0), .lit (.int .u64 0), .nil, .nil]], .nil], .agg [.lit (.int .u64 0), .lit (.int .u64 0), .lit (.int .u64 0), .nil]], [], [])) (by kernel_rfl) rfl (by kernel_rfl)) ?_
  intro W base args ds gs before hval hW _ hk _
  exact contract H enc W base args ds gs before hval hW hk

theorem proved : Rows.RlogMergeUptoSaid :=
  OpenClaim.holds_of_cond 11 Try.f11 rfl rfl rfl rfl rfl rfl rfl ⟨rfl, rfl, rfl, rfl, rfl⟩ rfl rfl rfl rfl rfl (by kernel_rfl) Try.func11 (by kernel_rfl)
    (of_decide_eq_true (by kernel_rfl)) (by unfold Func.isWrapper; first | (rw [if_pos (by decide +kernel)]; kernel_rfl) | (rw [if_neg (by decide +kernel)]; exact ⟨rfl, rfl⟩))
    (fun os started H enc _ F => lifted os started H enc F)
end Go.Proofs.Ytlkgmjhejocobaa.rlogMerge
