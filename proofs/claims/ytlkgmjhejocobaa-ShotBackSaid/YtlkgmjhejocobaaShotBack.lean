/- The law ShotBack returns true for all that may be read as a snapshot: what shot.Encode writes is read by shot.Decode as what it was, or the snapshot may not be. No condition. -/
import Derived.Test.YtlkgmjhejocobaaBse
import Derived.Test.YtlkgmjhejocobaaEdL
import Derived.Test.YtlkgmjhejocobaaSmE
import Derived.Deep.MidRow
namespace Go.Proofs.Ytlkgmjhejocobaa.shotBack
open Go.ChangeShapes Go.WideShapes Go.ChangeAt Go.RowKit
open Go.ChangeMaps (open_string shut_string)
set_option linter.unusedVariables false

theorem own : ownKnob Try.prog.godebug = none := by kernel_rfl
theorem laidOut : laidOutB Try.prog = true := by kernel_rfl

open Sc Cm Nm Sh Go.Deep
set_option maxHeartbeats 4000000 in
theorem walk (v0 : Value) (x0 : Sho) (w : World) (w0 : IsShot w v0 x0) (b0 : IsShot.fits x0) :
    Calls Try.prog 5 #[v0] w fun e w' => e = .returned (.bool true) ∧ Below w.heap.size w w' := by
  obtain ⟨vn, vh, vl, rfl, hn, hh, hl, hwf⟩ := id w0
  obtain ⟨a1, b1, rfl, -⟩ := id hn
  obtain ⟨a2, b2, rfl, -⟩ := id hh
  obtain ⟨a3, b3, rfl, -⟩ := id hl
  obtain ⟨W0, hW0⟩ : ∃ q, w.alloc (.cells (sArr x0 (.slice a1 x0.nodes.length b1) (.slice a2 x0.led.held.length b2) (.slice a3 x0.led.last.length b3)) 29) = q := ⟨_, rfl⟩
  have hb0 : Below w.heap.size w W0 := by rw [← hW0]; exact (Below.refl _ _).alloc (Nat.le_refl _) _
  have HS0 : Hid (W0.heap[w.heap.size]? = some (.cells (sArr x0 (.slice a1 x0.nodes.length b1) (.slice a2 x0.led.held.length b2) (.slice a3 x0.led.last.length b3)) 29 (0, 0))) := Lib.hid (by rw [← hW0]; exact heap_alloc_new _ _)
  have HB0 := Lib.hid hb0
  have HI0 := Lib.hid (w0.below hb0 (Nat.le_refl _))
  have HWF := Lib.hid hwf
  clear w0 hn hh hl hwf hb0
  go_enter Try.func5, Try.ntmps5
  go_wp2_with fail
  refine (Sc.live_any _).mono ?_
  rintro e w1 ⟨rfl, hb1⟩
  have HB1 := Lib.hid (HB0.out.trans (hb1.mono HB0.out.size))
  have HS1 := Lib.hid ((hb1.block _ (row_lt HS0.out)).trans HS0.out)
  have HI1 := Lib.hid (HI0.out.below hb1 (Nat.le_refl _))
  clear hb1
  go_wp2_with (first | (with_reducible refine wpList_load_row rfl 29 (.tmp 1) rfl w.heap.size rfl 29 (sArr x0 (.slice a1 x0.nodes.length b1) (.slice a2 x0.led.held.length b2) (.slice a3 x0.led.last.length b3)) (0, 0) _ HS1.out Try.underlying29 rfl (by kernel_rfl) ?_) | fail)
  refine (enc_any x0 _ _ HI1.out).mono ?_
  rintro e w2 ⟨v2, z2, l2, rfl, hz2, ho2, hb2⟩
  have HB2 := Lib.hid (HB1.out.trans (hb2.mono HB1.out.size))
  have HS2 := Lib.hid ((hb2.block _ (row_lt HS1.out)).trans HS1.out)
  have HI2 := Lib.hid (HI1.out.below hb2 (Nat.le_refl _))
  clear hb2
  rcases hz2 with ⟨rfl, ok, rfl⟩ | ⟨rfl, no, rfl⟩
  · have HDV := Lib.hid (dec_enc HWF.out ok)
    have HQ := Lib.hid (ho2.sl (shotB_len (nums_of HWF.out ok)).2)
    clear ok ho2
    go_wp2_with fail
    refine (dec_any (shotB x0) _ _ HQ.out).mono ?_
    rintro e w3 ⟨s3, z3, vn, vh, vl, rfl, hd, o1, o2, o3, hw3, hb3⟩
    rw [HDV.out] at hd
    simp only [Prod.mk.injEq] at hd
    obtain ⟨rfl, rfl⟩ := hd
    obtain ⟨d1, m1, q1, rfl⟩ := own_formx o1
    obtain ⟨d2, m2, q2, rfl⟩ := own_formx o2
    obtain ⟨d3, m3, q3, rfl⟩ := own_formx o3
    have HI3 := Lib.hid (DecE.shot (zs := []) o1 o2 o3 hw3)
    have HB3 := Lib.hid (HB2.out.trans (hb3.mono HB2.out.size))
    have HS3 := Lib.hid ((hb3.block _ (row_lt HS2.out)).trans HS2.out)
    have HJ3 := Lib.hid (HI2.out.below hb3 (Nat.le_refl _))
    have hsS : (w3.alloc (.cells zSA 29)).heap[w3.heap.size]? = some (.cells zSA 29 (0, 0)) := heap_alloc_new _ _
    obtain ⟨W4, hW4⟩ : ∃ q, (w3.alloc (.cells zSA 29)).setRow w3.heap.size (sArr x0 (.slice d1 m1 q1) (.slice d2 m2 q2) (.slice d3 m3 q3)) = q := ⟨_, rfl⟩
    have hb4 : Below w3.heap.size w3 W4 := by rw [← hW4]; exact Ld.below_row ((Below.refl _ _).alloc (Nat.le_refl _) _) (Nat.le_refl _) _
    have HX4 : Hid (W4.heap[w3.heap.size]? = some (.cells (sArr x0 (.slice d1 m1 q1) (.slice d2 m2 q2) (.slice d3 m3 q3)) 29 (0, 0))) := Lib.hid (by rw [← hW4]; exact setRow_heap _ _ _ _ _ _ hsS)
    have HB4 := Lib.hid (HB3.out.trans (hb4.mono HB3.out.size))
    have HS4 := Lib.hid ((hb4.block _ (row_lt HS3.out)).trans HS3.out)
    have HJ4 := Lib.hid (HJ3.out.below hb4 (Nat.le_refl _))
    have HI4 := Lib.hid (HI3.out.below hb4 (Nat.le_refl _))
    clear hb3 hb4 o1 o2 o3 hw3
    go_wp2_with (first
      | (with_reducible refine wpList_store_row rfl 29 (.tmp 6) (.tmp 30) rfl w3.heap.size (sArr x0 (.slice d1 m1 q1) (.slice d2 m2 q2) (.slice d3 m3 q3)) rfl rfl 29 _ hsS (by kernel_rfl) rfl (sArr_one _ _ _ _ _ _ _ _ _ _) ?_; rw [hW4]; clear hW4 hsS)
      | (with_reducible refine wpList_load_rowG rfl 29 (.tmp 1) rfl w.heap.size rfl 29 (sArr x0 (.slice a1 x0.nodes.length b1) (.slice a2 x0.led.held.length b2) (.slice a3 x0.led.last.length b3)) (0, 0) _ HS4.out Try.underlying29 rfl (by kernel_rfl) ?_)
      | (with_reducible refine wpList_load_rowG rfl 29 (.tmp 6) rfl w3.heap.size rfl 29 (sArr x0 (.slice d1 m1 q1) (.slice d2 m2 q2) (.slice d3 m3 q3)) (0, 0) _ HX4.out Try.underlying29 rfl (by kernel_rfl) ?_))
    refine (Sh.same_any x0 _ _ _ HJ4.out HI4.out).mono ?_
    rintro e w5 ⟨rfl, hb5⟩
    go_wp2
    go_ret
    exact ⟨rfl, HB4.out.trans (hb5.mono HB4.out.size)⟩
  · have NO := Lib.hid no
    obtain ⟨a, cap, rfl, -⟩ := id (ho2.sl (fun n hn => by simp at hn))
    clear no ho2
    go_wp2_with (first | (with_reducible refine wpList_load_rowG rfl 29 (.tmp 1) rfl w.heap.size rfl 29 (sArr x0 (.slice a1 x0.nodes.length b1) (.slice a2 x0.led.held.length b2) (.slice a3 x0.led.last.length b3)) (0, 0) _ HS2.out Try.underlying29 rfl (by kernel_rfl) ?_) | fail)
    refine (Sh.check_any x0 _ _ HI2.out).mono ?_
    rintro e w3 ⟨z3, rfl, hz3, hb3⟩
    obtain rfl : z3 = 60 := by
      rcases hz3 with g | g
      · exact absurd g.2 NO.out
      · exact g.1
    have HB3 := Lib.hid (HB2.out.trans (hb3.mono HB2.out.size))
    clear hz3 hb3
    go_wp2
    go_ret
    exact ⟨rfl, HB3.out⟩

set_option maxRecDepth 100000 in
theorem contract (H : Type) (enc : TypeId × Value → H) (W : World) (base : Nat) (args : Array Value) (ds gs : List (DataW H)) (before : List MemPlace)
    (hval0 : ∀ (j : Nat) t v, Try.f5.params[j]? = some t → args[j]? = some v → Value.okWide Try.prog W .any base t v)
    (hW : DataW.Whole enc Try.prog Try.f5.params.toList Rows.shotBackSpec.vars false W args.toList ds gs before)
    (hsz0 : (DataW.weightsEach Try.prog (Try.f5.params.toList ++ Rows.shotBackSpec.plain.varTypes Try.prog) (ds ++ gs)).all (· ≤ reachBytes) = true) :
    Calls Try.prog 5 args W fun e W' => ∃ v, e = .returned v ∧ Rows.shotBackSpec.post enc Try.prog Try.f5 false true false false W args v W' := by
  have hval : ∀ (j : Nat) t v, Try.f5.params[j]? = some t → args[j]? = some v → Value.okWide Try.prog W .any base t v := hval0
  have hW' := hW
  obtain ⟨p, q, hA0, hV, rfl, hfz, hnd⟩ := hW
  have hA : DataW.TrodAll enc Try.prog W 0 (fun _ => true) true Try.f5.params.toList args.toList ds p := hA0
  rw [Try.params5] at hA hval
  have hsz := hsz0
  rw [Try.params5] at hsz
  obtain ⟨v0, vs0, d0, ds0, p0, q0, hargs, rfl, rfl, h0, r0⟩ := trodAll_cons hA
  obtain ⟨rfl, rfl, rfl⟩ := trodAll_nil r0
  obtain rfl : args = #[v0] := by cases args; simp_all
  obtain ⟨rfl, rfl⟩ := trodVars_none hV
  clear hA0 hval0
  have k0 := h0
  have lt0 : ∀ x ∈ p0, x.block < W.heap.size := by obtain ⟨m, hm⟩ := k0; exact DataW.trod_lt m _ _ _ hm
  obtain ⟨x0, w0, -, s0⟩ := open_shot (hval 0 29 v0 rfl rfl) k0
  have b0 : IsShot.fits x0 := s0 (wt_arg hsz (j := 0) rfl rfl)
  refine (walk v0 x0 W w0 b0).mono fun e W' ⟨he, bel⟩ => ?_
  subst he
  exact ⟨_, rfl, _, _, _, [], _, [], hW', trodAll_mk1 (shut_bool Try.underlying4 _), (trodAll_cons_mk (Below.trod laidOut (by kernel_rfl) (of_decide_eq_true (by kernel_rfl)) k0 bel lt0) trodAll_mk0), rfl, bel.frame _, fun h => by cases h⟩

set_option maxRecDepth 100000 in
theorem lifted (os : Os) (started : os.Started) (H : Type) (enc : TypeId × Value → H) :
    ReturnsInHanded {} Try.checked os 5 .any (Rows.shotBackSpec.pre6 enc Try.prog Try.f5 Rows.shotBackRow.domain false) (Rows.shotBackSpec.post enc Try.prog Try.f5 false true false false) := by
  refine returnsInHanded_of_change_sized (C := Try.checked) own started (by kernel_rfl) Try.func5
    (ChangeSpec.witness6 (enc := enc) (C := Try.checked) false ⟨#[], #[.agg #[.int .u64 0, .int .u64 0, .slice none 0 0, .int .i64 0, .int .u64 0, .slice none 0 0, .slice none 0 0]], []⟩ 8 (by kernel_rfl) (by kernel_rfl) (by kernel_rfl) (by kernel_rfl)) ?_
  intro W base args ds gs before hval0 hW hcnd hsz _
  exact contract H enc W base args ds gs before hval0 hW hsz

theorem proved : Rows.ShotBackSaid :=
  OpenClaim.holds_of_wide 5 Try.f5 rfl rfl rfl rfl rfl rfl rfl ⟨rfl, rfl, rfl, rfl, rfl⟩ rfl rfl rfl rfl rfl (by kernel_rfl) Try.func5 (by kernel_rfl)
    (of_decide_eq_true (by kernel_rfl)) (by unfold Func.isWrapper; first | (rw [if_pos (by decide +kernel)]; kernel_rfl) | (rw [if_neg (by decide +kernel)]; exact ⟨rfl, rfl⟩))
    (fun os started H enc _ => lifted os started H enc)
end Go.Proofs.Ytlkgmjhejocobaa.shotBack
