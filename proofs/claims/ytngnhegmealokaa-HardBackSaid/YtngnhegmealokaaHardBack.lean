/- The law HardBack returns true for all that may be read as a record: what hard.Encode writes is read by hard.Decode as what it was, or the record may not be. No condition. -/
import Derived.Test.YtngnhegmealokaaBse
import Derived.Test.YtngnhegmealokaaRkJ
import Derived.Test.YtngnhegmealokaaCmR
import Derived.Deep.MidRow
namespace Go.Proofs.Ytngnhegmealokaa.hardBack
open Go.ChangeShapes Go.WideShapes Go.ChangeAt Go.RowKit
open Go.ChangeMaps (open_string shut_string)
set_option linter.unusedVariables false

theorem own : ownKnob Try.prog.godebug = none := by kernel_rfl
theorem laidOut : laidOutB Try.prog = true := by kernel_rfl

open Rk Rc Hd Nv Go.Deep
set_option maxHeartbeats 4000000 in
theorem walk (v0 : Value) (x0 : RecR) (w : World) (w0 : IsRec w v0 x0) (b0 : IsRec.fits x0) :
    Calls Try.prog 5 #[v0] w fun e w' => e = .returned (.bool true) ∧ Below w.heap.size w w' := by
  obtain ⟨vc, vn, vh, vl, rfl, ⟨hc, hn, hh, hl⟩, hwf⟩ := id w0
  obtain ⟨a1, b1, rfl, -⟩ := id hc
  obtain ⟨a2, b2, rfl, -⟩ := id hn
  obtain ⟨a3, b3, rfl, -⟩ := id hh
  obtain ⟨a4, b4, rfl, -⟩ := id hl
  obtain ⟨W1, hW1⟩ : ∃ q, w.alloc (.cells (rArr x0 (.slice a1 x0.ent.cmd.nodes.length b1) (.slice a2 x0.shot.nodes.length b2) (.slice a3 x0.shot.led.held.length b3) (.slice a4 x0.shot.led.last.length b4)) 35) = q := ⟨_, rfl⟩
  have hb1 : Below w.heap.size w W1 := by rw [← hW1]; exact (Below.refl _ _).alloc (Nat.le_refl _) _
  have HA1 : Hid (W1.heap[w.heap.size]? = some (.cells (rArr x0 (.slice a1 x0.ent.cmd.nodes.length b1) (.slice a2 x0.shot.nodes.length b2) (.slice a3 x0.shot.led.held.length b3) (.slice a4 x0.shot.led.last.length b4)) 35 (0, 0))) := Lib.hid (by rw [← hW1]; exact heap_alloc_new _ _)
  have HB1 := Lib.hid hb1
  have HR1 := Lib.hid (w0.below hb1 (Nat.le_refl _))
  have HWF := Lib.hid hwf
  clear w0 hc hn hh hl hwf hb1
  go_enter Try.func5, Try.ntmps5
  go_wp2_with fail
  refine (Rk.writes_any _).mono ?_
  rintro e w2 ⟨rfl, hb2⟩
  have HB2 := Lib.hid (HB1.out.trans (hb2.mono HB1.out.size))
  have HA2 := Lib.hid ((hb2.block _ (Rk.row_ltx HA1.out)).trans HA1.out)
  have HR2 := Lib.hid (HR1.out.below hb2 (Nat.le_refl _))
  clear hb2
  go_wp2_with (first | (with_reducible refine wpList_load_row rfl 35 (.tmp 1) rfl w.heap.size rfl 35 (rArr x0 (.slice a1 x0.ent.cmd.nodes.length b1) (.slice a2 x0.shot.nodes.length b2) (.slice a3 x0.shot.led.held.length b3) (.slice a4 x0.shot.led.last.length b4)) (0, 0) _ HA2.out Try.underlying35 rfl (by kernel_rfl) ?_) | fail)
  refine (Rk.enc_any x0 _ _ HR2.out).mono ?_
  rintro e w3 ⟨s3, z3, rfl, hz3, hb3⟩
  have HB3 := Lib.hid (HB2.out.trans (hb3.mono HB2.out.size))
  have HA3 := Lib.hid ((hb3.block _ (Rk.row_ltx HA2.out)).trans HA2.out)
  have HR3 := Lib.hid (HR2.out.below hb3 (Nat.le_refl _))
  clear hb3
  rcases hz3 with ⟨hf, rfl, rfl⟩ | ⟨-, rfl, rfl⟩
  · have HD := Lib.hid (Rk.back HWF.out hf)
    clear hf
    go_wp2_with fail
    refine (Rk.dec_any _ _).mono ?_
    rintro e w4 ⟨r4, z4, v1, v2, v3, v4, rfl, hd, hr4, hb4⟩
    rw [HD.out] at hd
    simp only [Prod.mk.injEq] at hd
    obtain ⟨rfl, rfl⟩ := hd
    obtain ⟨v1', v2', v3', v4', ev, ⟨k1, k2, k3, k4⟩, -⟩ := id hr4
    obtain ⟨rfl, rfl, rfl, rfl⟩ : v1' = v1 ∧ v2' = v2 ∧ v3' = v3 ∧ v4' = v4 := by
      simp only [Value.agg.injEq, Array.mk.injEq, List.cons.injEq, true_and, and_true] at ev
      exact ⟨ev.1.symm, ev.2.1.symm, ev.2.2.1.symm, ev.2.2.2.symm⟩
    obtain ⟨d1, p1, rfl, -⟩ := id k1
    obtain ⟨d2, p2, rfl, -⟩ := id k2
    obtain ⟨d3, p3, rfl, -⟩ := id k3
    obtain ⟨d4, p4, rfl, -⟩ := id k4
    have hsS : (w4.alloc (.cells zR 35)).heap[w4.heap.size]? = some (.cells zR 35 (0, 0)) := heap_alloc_new _ _
    obtain ⟨W5, hW5⟩ : ∃ q, (w4.alloc (.cells zR 35)).setRow w4.heap.size (rArr x0 (.slice d1 x0.ent.cmd.nodes.length p1) (.slice d2 x0.shot.nodes.length p2) (.slice d3 x0.shot.led.held.length p3) (.slice d4 x0.shot.led.last.length p4)) = q := ⟨_, rfl⟩
    have hb5 : Below w4.heap.size w4 W5 := by rw [← hW5]; exact Ld.below_row ((Below.refl _ _).alloc (Nat.le_refl _) _) (Nat.le_refl _) _
    have HX5 : Hid (W5.heap[w4.heap.size]? = some (.cells (rArr x0 (.slice d1 x0.ent.cmd.nodes.length p1) (.slice d2 x0.shot.nodes.length p2) (.slice d3 x0.shot.led.held.length p3) (.slice d4 x0.shot.led.last.length p4)) 35 (0, 0))) := Lib.hid (by rw [← hW5]; exact setRow_heap _ _ _ _ _ _ hsS)
    have hb34 := hb4.trans (hb5.mono hb4.size)
    have HB5 := Lib.hid (HB3.out.trans (hb34.mono HB3.out.size))
    have HA5 := Lib.hid ((hb34.block _ (Rk.row_ltx HA3.out)).trans HA3.out)
    have HR5 := Lib.hid (HR3.out.below hb34 (Nat.le_refl _))
    have HY5 := Lib.hid (hr4.below hb5 (Nat.le_refl _))
    clear hr4 hb4 hb5 hb34 k1 k2 k3 k4 ev
    go_wp2_with (first
      | (with_reducible refine wpList_store_row rfl 35 (.tmp 6) (.tmp 24) rfl w4.heap.size (rArr x0 (.slice d1 x0.ent.cmd.nodes.length p1) (.slice d2 x0.shot.nodes.length p2) (.slice d3 x0.shot.led.held.length p3) (.slice d4 x0.shot.led.last.length p4)) rfl rfl 35 _ hsS (by kernel_rfl) rfl (rArr_one _ _ _ _ _ _ _ _ _ _ _ _ _) ?_; rw [hW5]; clear hW5 hsS)
      | (with_reducible refine wpList_load_rowG rfl 35 (.tmp 6) rfl w4.heap.size rfl 35 (rArr x0 (.slice d1 x0.ent.cmd.nodes.length p1) (.slice d2 x0.shot.nodes.length p2) (.slice d3 x0.shot.led.held.length p3) (.slice d4 x0.shot.led.last.length p4)) (0, 0) _ HX5.out Try.underlying35 rfl (by kernel_rfl) ?_)
      | (with_reducible refine wpList_load_rowG rfl 35 (.tmp 1) rfl w.heap.size rfl 35 (rArr x0 (.slice a1 x0.ent.cmd.nodes.length b1) (.slice a2 x0.shot.nodes.length b2) (.slice a3 x0.shot.led.held.length b3) (.slice a4 x0.shot.led.last.length b4)) (0, 0) _ HA5.out Try.underlying35 rfl (by kernel_rfl) ?_))
    refine (Rc.rec_same x0 _ _ _ HY5.out HR5.out).mono ?_
    rintro e w6 ⟨rfl, hb6⟩
    have HB6 := Lib.hid (HB5.out.trans (hb6.mono HB5.out.size))
    clear hb6
    go_wp2
    go_ret
    exact ⟨rfl, HB6.out⟩
  · go_wp2_with fail
    go_ret
    exact ⟨rfl, HB3.out⟩

set_option maxRecDepth 100000 in
theorem contract (H : Type) (enc : TypeId × Value → H) (W : World) (base : Nat) (args : Array Value) (ds gs : List (DataW H)) (before : List MemPlace)
    (hval0 : ∀ (j : Nat) t v, Try.f5.params[j]? = some t → args[j]? = some v → Value.okWide Try.prog W .any base t v)
    (hW : DataW.Whole enc Try.prog Try.f5.params.toList Rows.hardBackSpec.vars false W args.toList ds gs before)
    (hsz0 : (DataW.weightsEach Try.prog (Try.f5.params.toList ++ Rows.hardBackSpec.plain.varTypes Try.prog) (ds ++ gs)).all (· ≤ reachBytes) = true) :
    Calls Try.prog 5 args W fun e W' => ∃ v, e = .returned v ∧ Rows.hardBackSpec.post enc Try.prog Try.f5 false true false false W args v W' := by
  have hval : ∀ (j : Nat) t v, Try.f5.params[j]? = some t → args[j]? = some v → Value.okWide Try.prog W .any base t v := hval0
  have hW' := hW
  obtain ⟨p, q, hA0, hV, rfl, hfz, hnd⟩ := hW
  have hA : DataW.TrodAll enc Try.prog W 0 (fun _ => true) true Try.f5.params.toList args.toList ds p := hA0
  rw [Try.params5] at hA hval
  have hsz := hsz0
  rw [Try.params5] at hsz
  obtain ⟨v0, vs0, d0, ds0, p0, q0, hargs, rfl, rfl, h0, r0⟩ := trodAll_cons hA
  obtain ⟨rfl, rfl, rfl⟩ := trodAll_nil r0
  obtain rfl : args = #[v0] := by cases args; simp_all
  obtain ⟨rfl, rfl⟩ := trodVars_none hV
  clear hA0 hval0
  have k0 := h0
  have lt0 : ∀ x ∈ p0, x.block < W.heap.size := by obtain ⟨m, hm⟩ := k0; exact DataW.trod_lt m _ _ _ hm
  obtain ⟨x0, w0, -, s0⟩ := open_rec (hval 0 35 v0 rfl rfl) k0
  have b0 : IsRec.fits x0 := s0 (wt_arg hsz (j := 0) rfl rfl)
  refine (walk v0 x0 W w0 b0).mono fun e W' ⟨he, bel⟩ => ?_
  subst he
  exact ⟨_, rfl, _, _, _, [], _, [], hW', trodAll_mk1 (shut_bool Try.underlying4 _), (trodAll_cons_mk (Below.trod laidOut (by kernel_rfl) (of_decide_eq_true (by kernel_rfl)) k0 bel lt0) trodAll_mk0), rfl, bel.frame _, fun h => by cases h⟩

set_option maxRecDepth 100000 in
theorem lifted (os : Os) (started : os.Started) (H : Type) (enc : TypeId × Value → H) :
    ReturnsInHanded {} Try.checked os 5 .any (Rows.hardBackSpec.pre6 enc Try.prog Try.f5 Rows.hardBackRow.domain false) (Rows.hardBackSpec.post enc Try.prog Try.f5 false true false false) := by
  refine returnsInHanded_of_change_sized (C := Try.checked) own started (by kernel_rfl) Try.func5
    (ChangeSpec.witness6 (enc := enc) (C := Try.checked) false ⟨#[], #[.agg #[.int .i64 0, .int .i64 0, .int .u64 0, .int .u64 0, .int .u64 0, .int .u64 0, .int .i64 0, .int .i64 0, .int .i64 0, .slice none 0 0, .int .u64 0, .int .u64 0, .int .u64 0, .int .u64 0, .int .u64 0, .int .u64 0, .slice none 0 0, .int .i64 0, .int .u64 0, .slice none 0 0, .slice none 0 0]], []⟩ 8 (by kernel_rfl) (by kernel_rfl) (by kernel_rfl) (by kernel_rfl)) ?_
  intro W base args ds gs before hval0 hW hcnd hsz _
  exact contract H enc W base args ds gs before hval0 hW hsz

theorem proved : Rows.HardBackSaid :=
  OpenClaim.holds_of_wide 5 Try.f5 rfl rfl rfl rfl rfl rfl rfl ⟨rfl, rfl, rfl, rfl, rfl⟩ rfl rfl rfl rfl rfl (by kernel_rfl) Try.func5 (by kernel_rfl)
    (of_decide_eq_true (by kernel_rfl)) (by unfold Func.isWrapper; first | (rw [if_pos (by decide +kernel)]; kernel_rfl) | (rw [if_neg (by decide +kernel)]; exact ⟨rfl, rfl⟩))
    (fun os started H enc _ => lifted os started H enc)
end Go.Proofs.Ytngnhegmealokaa.hardBack
