/- The law RlogTerm returns true for all that may be read as what lasts, and any index: package rlog's Term answers what the document's own answer is, and the chapter's example holds. No condition. -/
import Derived.Test.YtnmlbakiolecnaaSl
import Derived.Test.YtnmlbakiolecnaaRlC
namespace Go.Proofs.Ytnmlbakiolecnaa.rlogTerm
open Go.ChangeShapes Go.WideShapes Go.ChangeAt Go.RowKit
open Go.ChangeMaps (open_string shut_string)
set_option linter.unusedVariables false

theorem own : ownKnob Try.prog.godebug = none := by kernel_rfl
theorem laidOut : laidOutB Try.prog = true := by kernel_rfl

set_option maxHeartbeats 2000000 in
theorem walk (v0 : Value) (x0 : Har) (a1 : Int) (w : World) (w0 : IsHard w v0 x0) (b0 : IsHard.fits x0) (w1 : (Lit.int .u64 a1).wf = true) :
    Calls Try.prog 9 #[v0, .int .u64 a1] w fun e w' => e = .returned (.bool true) ∧ Below w.heap.size w w' := by
  obtain ⟨vn, vh, vl, vg, rfl, -, -, -, hg, -⟩ := id w0
  obtain ⟨a, cap, rfl, hlc, hcm⟩ := Hd.IsLog.len hg
  have hb0 : Below w.heap.size w (w.alloc (.cells (hArr x0 vn vh vl (.slice a x0.log.length cap)) 32)) := (Below.refl _ _).alloc (Nat.le_refl _) _
  have HH := Lib.hid (w0.below hb0 (Nat.le_refl _))
  have hr : Below (w.heap.size + 1) (w.alloc (.cells (hArr x0 vn vh vl (.slice a x0.log.length cap)) 32)) (w.alloc (.cells (hArr x0 vn vh vl (.slice a x0.log.length cap)) 32)) := Below.refl _ _
  have HX0 := Lib.hid hr
  obtain ⟨b0, b1, b2, b3, b4, b5, b6, b7, b8, b9, b10⟩ := Hd.cells11 (Hd.box_cells hr)
  clear w0 hg hb0 hr
  have B1 := Lib.hid (bounds_u64 w1)
  have HEX : Hid (Rl.termV Rl.exH 6 = (2, true)) := Lib.hid (by rw [Rl.termV_yes Rl.exH_ok]; decide)
  clear w1
  go_enter Try.func9, Try.ntmps9
  go_wp2_with fail
  refine (Rl.term_any x0 _ _ _ HH.out B1.out.1 B1.out.2).mono ?_
  rintro e w1 ⟨rfl, hb1⟩
  have hx : Below (w.heap.size + 1) (w.alloc (.cells (hArr x0 vn vh vl (.slice a x0.log.length cap)) 32)) w1 := HX0.out.trans (hb1.mono (by simp))
  have HX1 := Lib.hid hx
  have HB1 := Lib.hid (Hd.box_below hx)
  have HH1 := Lib.hid (HH.out.below hb1 (Nat.le_refl _))
  clear b0 b1 b2 b3 b4 b5 b6 b7 b8 b9 b10
  obtain ⟨b0, b1, b2, b3, b4, b5, b6, b7, b8, b9, b10⟩ := Hd.cells11 (Hd.box_cells hx)
  clear hb1 hx
  go_wp2_with fail
  refine (Rl.rterm_any x0 _ _ _ HH1.out B1.out.1 B1.out.2).mono ?_
  rintro e w2 ⟨rfl, hb2⟩
  have hx : Below (w.heap.size + 1) (w.alloc (.cells (hArr x0 vn vh vl (.slice a x0.log.length cap)) 32)) w2 := HX1.out.trans (hb2.mono (by have := HX1.out.size; simpa using this))
  have HX2 := Lib.hid hx
  have HB2 := Lib.hid (Hd.box_below hx)
  have HH2 := Lib.hid (HH1.out.below hb2 (Nat.le_refl _))
  clear b0 b1 b2 b3 b4 b5 b6 b7 b8 b9 b10
  obtain ⟨b0, b1, b2, b3, b4, b5, b6, b7, b8, b9, b10⟩ := Hd.cells11 (Hd.box_cells hx)
  clear hb2 hx
  go_wp2_with fail
  refine (Rl.example_any _).mono ?_
  rintro e w3 ⟨ve, rfl, hex, hb3⟩
  have HB3 := Lib.hid (HB2.out.trans (hb3.mono HB2.out.size))
  go_wp2_with fail
  refine (Rl.term_any Rl.exH _ 6 _ hex (by omega) (by omega)).mono ?_
  rintro e w4 ⟨rfl, hb4⟩
  rw [HEX.out]
  have HB4 := Lib.hid (HB3.out.trans (hb4.mono HB3.out.size))
  clear hb4 hb3 hex
  go_wp2
  go_ret
  exact ⟨rfl, HB4.out⟩

set_option maxRecDepth 100000 in
theorem contract (H : Type) (enc : TypeId × Value → H) (W : World) (base : Nat) (args : Array Value) (ds gs : List (DataW H)) (before : List MemPlace)
    (hval0 : ∀ (j : Nat) t v, Try.f9.params[j]? = some t → args[j]? = some v → Value.okWide Try.prog W .any base t v)
    (hW : DataW.Whole enc Try.prog Try.f9.params.toList Rows.rlogTermSpec.vars false W args.toList ds gs before)
    (hsz0 : (DataW.weightsEach Try.prog (Try.f9.params.toList ++ Rows.rlogTermSpec.plain.varTypes Try.prog) (ds ++ gs)).all (· ≤ reachBytes) = true) :
    Calls Try.prog 9 args W fun e W' => ∃ v, e = .returned v ∧ Rows.rlogTermSpec.post enc Try.prog Try.f9 false true false false W args v W' := by
  have hval : ∀ (j : Nat) t v, Try.f9.params[j]? = some t → args[j]? = some v → Value.okWide Try.prog W .any base t v := hval0
  have hW' := hW
  obtain ⟨p, q, hA0, hV, rfl, hfz, hnd⟩ := hW
  have hA : DataW.TrodAll enc Try.prog W 0 (fun _ => true) true Try.f9.params.toList args.toList ds p := hA0
  rw [Try.params9] at hA hval
  have hsz := hsz0
  rw [Try.params9] at hsz
  obtain ⟨v0, vs0, d0, ds0, p0, q0, hargs, rfl, rfl, h0, r0⟩ := trodAll_cons hA
  obtain ⟨v1, vs1, d1, ds1, p1, q1, rfl, rfl, rfl, h1, r1⟩ := trodAll_cons r0
  obtain ⟨rfl, rfl, rfl⟩ := trodAll_nil r1
  obtain rfl : args = #[v0, v1] := by cases args; simp_all
  obtain ⟨rfl, rfl⟩ := trodVars_none hV
  clear hA0 hval0
  have k0 := h0
  have lt0 : ∀ x ∈ p0, x.block < W.heap.size := by obtain ⟨m, hm⟩ := k0; exact DataW.trod_lt m _ _ _ hm
  have k1 := h1
  have lt1 : ∀ x ∈ p1, x.block < W.heap.size := by obtain ⟨m, hm⟩ := k1; exact DataW.trod_lt m _ _ _ hm
  obtain ⟨x0, w0, -, s0⟩ := open_hard (hval 0 32 v0 rfl rfl) k0
  have b0 : IsHard.fits x0 := s0 (wt_arg hsz (j := 0) rfl rfl)
  obtain ⟨a1, rfl, -, -, w1⟩ := open_int Try.underlying22 (hval 1 22 v1 rfl rfl) h1
  refine (walk v0 x0 a1 W w0 b0 w1).mono fun e W' ⟨he, bel⟩ => ?_
  subst he
  exact ⟨_, rfl, _, _, _, [], _, [], hW', trodAll_mk1 (shut_bool Try.underlying4 _), (trodAll_cons_mk (Below.trod laidOut (by kernel_rfl) (of_decide_eq_true (by kernel_rfl)) k0 bel lt0) (trodAll_cons_mk (Below.trod laidOut (by kernel_rfl) (of_decide_eq_true (by kernel_rfl)) k1 bel lt1) trodAll_mk0)), rfl, bel.frame _, fun h => by cases h⟩

set_option maxRecDepth 100000 in
theorem lifted (os : Os) (started : os.Started) (H : Type) (enc : TypeId × Value → H) :
    ReturnsInHanded {} Try.checked os 9 .any (Rows.rlogTermSpec.pre6 enc Try.prog Try.f9 Rows.rlogTermRow.domain false) (Rows.rlogTermSpec.post enc Try.prog Try.f9 false true false false) := by
  refine returnsInHanded_of_change_sized (C := Try.checked) own started (by kernel_rfl) Try.func9
    (ChangeSpec.witness6 (enc := enc) (C := Try.checked) false ⟨#[], #[.agg #[.int .u64 0, .int .u64 0, .int .i64 0, .int .u64 0, .int .u64 0, .slice none 0 0, .int .i64 0, .int .u64 0, .slice none 0 0, .slice none 0 0, .slice none 0 0], .int .u64 0], []⟩ 8 (by kernel_rfl) (by kernel_rfl) (by kernel_rfl) (by kernel_rfl)) ?_
  intro W base args ds gs before hval0 hW hcnd hsz _
  exact contract H enc W base args ds gs before hval0 hW hsz

theorem proved : Rows.RlogTermSaid :=
  OpenClaim.holds_of_wide 9 Try.f9 rfl rfl rfl rfl rfl rfl rfl ⟨rfl, rfl, rfl, rfl, rfl⟩ rfl rfl rfl rfl rfl (by kernel_rfl) Try.func9 (by kernel_rfl)
    (of_decide_eq_true (by kernel_rfl)) (by unfold Func.isWrapper; first | (rw [if_pos (by decide +kernel)]; kernel_rfl) | (rw [if_neg (by decide +kernel)]; exact ⟨rfl, rfl⟩))
    (fun os started H enc _ => lifted os started H enc)
end Go.Proofs.Ytnmlbakiolecnaa.rlogTerm
