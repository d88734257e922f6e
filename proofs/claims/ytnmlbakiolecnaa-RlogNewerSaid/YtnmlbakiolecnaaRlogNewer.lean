/- The law RlogNewer returns true for all that may be read as what lasts, and any two numbers: package rlog's Newer answers what the document's own answer is, and the chapter's example holds. No condition. -/
import Derived.Test.YtnmlbakiolecnaaSl
import Derived.Test.YtnmlbakiolecnaaRlC
import Derived.Deep.RegionHeld
namespace Go.Proofs.Ytnmlbakiolecnaa.rlogNewer
open Go.ChangeShapes Go.WideShapes Go.ChangeAt Go.RowKit
open Go.ChangeMaps (open_string shut_string)
set_option linter.unusedVariables false

theorem own : ownKnob Try.prog.godebug = none := by kernel_rfl
theorem laidOut : laidOutB Try.prog = true := by kernel_rfl

open Hd Rl
theorem s_mk {w wr : World} {x0 : Har} {vn vh vl vg : Value} (hb : Below (w.heap.size + 1) (w.alloc (.cells (hArr x0 vn vh vl vg) 32)) wr) : Below (w.heap.size + 1) (w.alloc (.cells (hArr x0 vn vh vl vg) 32)) wr ∧ wr.cell? ⟨w.heap.size, 0, none⟩ = some (.int .u64 x0.boot) ∧ wr.cell? ⟨w.heap.size, 1, none⟩ = some (.int .u64 x0.term) ∧ wr.cell? ⟨w.heap.size, 2, none⟩ = some (.int .i64 x0.vote) ∧ wr.cell? ⟨w.heap.size, 3, none⟩ = some (.int .u64 x0.shot.index) ∧ wr.cell? ⟨w.heap.size, 4, none⟩ = some (.int .u64 x0.shot.term) ∧ wr.cell? ⟨w.heap.size, 5, none⟩ = some vn ∧ wr.cell? ⟨w.heap.size, 6, none⟩ = some (.int .i64 x0.shot.led.limit) ∧ wr.cell? ⟨w.heap.size, 7, none⟩ = some (.int .u64 x0.shot.led.next) ∧ wr.cell? ⟨w.heap.size, 8, none⟩ = some vh ∧ wr.cell? ⟨w.heap.size, 9, none⟩ = some vl ∧ wr.cell? ⟨w.heap.size, 10, none⟩ = some vg := ⟨hb, cells11 (box_cells hb)⟩
theorem s_step {w wp wr : World} {x0 : Har} {vn vh vl vg : Value} (hb : Below wp.heap.size wp wr) (h : Below (w.heap.size + 1) (w.alloc (.cells (hArr x0 vn vh vl vg) 32)) wp ∧ wp.cell? ⟨w.heap.size, 0, none⟩ = some (.int .u64 x0.boot) ∧ wp.cell? ⟨w.heap.size, 1, none⟩ = some (.int .u64 x0.term) ∧ wp.cell? ⟨w.heap.size, 2, none⟩ = some (.int .i64 x0.vote) ∧ wp.cell? ⟨w.heap.size, 3, none⟩ = some (.int .u64 x0.shot.index) ∧ wp.cell? ⟨w.heap.size, 4, none⟩ = some (.int .u64 x0.shot.term) ∧ wp.cell? ⟨w.heap.size, 5, none⟩ = some vn ∧ wp.cell? ⟨w.heap.size, 6, none⟩ = some (.int .i64 x0.shot.led.limit) ∧ wp.cell? ⟨w.heap.size, 7, none⟩ = some (.int .u64 x0.shot.led.next) ∧ wp.cell? ⟨w.heap.size, 8, none⟩ = some vh ∧ wp.cell? ⟨w.heap.size, 9, none⟩ = some vl ∧ wp.cell? ⟨w.heap.size, 10, none⟩ = some vg) : Below (w.heap.size + 1) (w.alloc (.cells (hArr x0 vn vh vl vg) 32)) wr ∧ wr.cell? ⟨w.heap.size, 0, none⟩ = some (.int .u64 x0.boot) ∧ wr.cell? ⟨w.heap.size, 1, none⟩ = some (.int .u64 x0.term) ∧ wr.cell? ⟨w.heap.size, 2, none⟩ = some (.int .i64 x0.vote) ∧ wr.cell? ⟨w.heap.size, 3, none⟩ = some (.int .u64 x0.shot.index) ∧ wr.cell? ⟨w.heap.size, 4, none⟩ = some (.int .u64 x0.shot.term) ∧ wr.cell? ⟨w.heap.size, 5, none⟩ = some vn ∧ wr.cell? ⟨w.heap.size, 6, none⟩ = some (.int .i64 x0.shot.led.limit) ∧ wr.cell? ⟨w.heap.size, 7, none⟩ = some (.int .u64 x0.shot.led.next) ∧ wr.cell? ⟨w.heap.size, 8, none⟩ = some vh ∧ wr.cell? ⟨w.heap.size, 9, none⟩ = some vl ∧ wr.cell? ⟨w.heap.size, 10, none⟩ = some vg :=
  s_mk (h.1.trans (hb.mono (by have := h.1.size; simpa using this)))
theorem s_hard {w wp : World} {x0 : Har} {vn vh vl vg : Value} (h0 : IsHard w (.agg (hArr x0 vn vh vl vg)) x0) (h : Below (w.heap.size + 1) (w.alloc (.cells (hArr x0 vn vh vl vg) 32)) wp ∧ wp.cell? ⟨w.heap.size, 0, none⟩ = some (.int .u64 x0.boot) ∧ wp.cell? ⟨w.heap.size, 1, none⟩ = some (.int .u64 x0.term) ∧ wp.cell? ⟨w.heap.size, 2, none⟩ = some (.int .i64 x0.vote) ∧ wp.cell? ⟨w.heap.size, 3, none⟩ = some (.int .u64 x0.shot.index) ∧ wp.cell? ⟨w.heap.size, 4, none⟩ = some (.int .u64 x0.shot.term) ∧ wp.cell? ⟨w.heap.size, 5, none⟩ = some vn ∧ wp.cell? ⟨w.heap.size, 6, none⟩ = some (.int .i64 x0.shot.led.limit) ∧ wp.cell? ⟨w.heap.size, 7, none⟩ = some (.int .u64 x0.shot.led.next) ∧ wp.cell? ⟨w.heap.size, 8, none⟩ = some vh ∧ wp.cell? ⟨w.heap.size, 9, none⟩ = some vl ∧ wp.cell? ⟨w.heap.size, 10, none⟩ = some vg) : IsHard wp (.agg (hArr x0 vn vh vl vg)) x0 :=
  h0.below (box_below h.1) (Nat.le_refl _)
theorem s_below {w wp : World} {x0 : Har} {vn vh vl vg : Value} (h : Below (w.heap.size + 1) (w.alloc (.cells (hArr x0 vn vh vl vg) 32)) wp ∧ wp.cell? ⟨w.heap.size, 0, none⟩ = some (.int .u64 x0.boot) ∧ wp.cell? ⟨w.heap.size, 1, none⟩ = some (.int .u64 x0.term) ∧ wp.cell? ⟨w.heap.size, 2, none⟩ = some (.int .i64 x0.vote) ∧ wp.cell? ⟨w.heap.size, 3, none⟩ = some (.int .u64 x0.shot.index) ∧ wp.cell? ⟨w.heap.size, 4, none⟩ = some (.int .u64 x0.shot.term) ∧ wp.cell? ⟨w.heap.size, 5, none⟩ = some vn ∧ wp.cell? ⟨w.heap.size, 6, none⟩ = some (.int .i64 x0.shot.led.limit) ∧ wp.cell? ⟨w.heap.size, 7, none⟩ = some (.int .u64 x0.shot.led.next) ∧ wp.cell? ⟨w.heap.size, 8, none⟩ = some vh ∧ wp.cell? ⟨w.heap.size, 9, none⟩ = some vl ∧ wp.cell? ⟨w.heap.size, 10, none⟩ = some vg) : Below w.heap.size w wp := box_below h.1
set_option maxRecDepth 100000 in
set_option maxHeartbeats 8000000 in
theorem walk (v0 : Value) (x0 : Har) (a1 : Int) (a2 : Int) (w : World) (w0 : IsHard w v0 x0) (b0 : IsHard.fits x0) (w1 : (Lit.int .u64 a1).wf = true) (w2 : (Lit.int .u64 a2).wf = true) :
    Calls Try.prog 10 #[v0, .int .u64 a1, .int .u64 a2] w fun e w' => e = .returned (.bool true) ∧ Below w.heap.size w w' := by
  obtain ⟨vn, vh, vl, vg, rfl, -, -, -, hg, -⟩ := id w0
  have HH := Lib.hid w0
  have hr : Below (w.heap.size + 1) (w.alloc (.cells (hArr x0 vn vh vl vg) 32)) (w.alloc (.cells (hArr x0 vn vh vl vg) 32)).drew := (Below.refl _ _).drew
  have HR := Lib.hid (s_mk hr)
  clear w0 hg hr
  have B1 := Lib.hid (bounds_u64 w1)
  have B2 := Lib.hid (bounds_u64 w2)
  have HEX : Hid (Rl.newerV Rl.exH 6 4 = true) := Lib.hid (by rw [Rl.newerV_yes Rl.exH_ok, Rl.exH_last]; decide)
  clear w1 w2
  go_enter Try.func10, Try.ntmps10
  go_wp2_with fail
  go_region_held (fun w' => Below (w.heap.size + 1) (w.alloc (.cells (hArr x0 vn vh vl vg) 32)) w' ∧ w'.cell? ⟨w.heap.size, 0, none⟩ = some (.int .u64 x0.boot) ∧ w'.cell? ⟨w.heap.size, 1, none⟩ = some (.int .u64 x0.term) ∧ w'.cell? ⟨w.heap.size, 2, none⟩ = some (.int .i64 x0.vote) ∧ w'.cell? ⟨w.heap.size, 3, none⟩ = some (.int .u64 x0.shot.index) ∧ w'.cell? ⟨w.heap.size, 4, none⟩ = some (.int .u64 x0.shot.term) ∧ w'.cell? ⟨w.heap.size, 5, none⟩ = some vn ∧ w'.cell? ⟨w.heap.size, 6, none⟩ = some (.int .i64 x0.shot.led.limit) ∧ w'.cell? ⟨w.heap.size, 7, none⟩ = some (.int .u64 x0.shot.led.next) ∧ w'.cell? ⟨w.heap.size, 8, none⟩ = some vh ∧ w'.cell? ⟨w.heap.size, 9, none⟩ = some vl ∧ w'.cell? ⟨w.heap.size, 10, none⟩ = some vg)
    (first | exact s_step (by assumption) ‹Below (w.heap.size + 1) _ _ ∧ _› | exact HR.out)
    (first
      | (go_at_call 31; refine (Rl.example_any _).mono ?_; rintro e u1 ⟨ve, rfl, hex, hb1⟩)
      | (go_at_call 32; refine (Rl.newer_any Rl.exH _ 6 4 _ hex (by omega) (by omega) (by omega) (by omega)).mono ?_; rintro e u2 ⟨rfl, hb2⟩; rw [HEX.out]; clear hex)
      | (go_at_call 32; refine (Rl.newer_any x0 _ a1 a2 _ (s_hard HH.out ‹Below (w.heap.size + 1) _ _ ∧ _›) B1.out.1 B1.out.2 B2.out.1 B2.out.2).mono ?_; rintro e u3 ⟨rfl, hb3⟩)
      | (go_at_call 33; refine (Rl.rnewer_any x0 _ a1 a2 _ (s_hard HH.out ‹Below (w.heap.size + 1) _ _ ∧ _›) B1.out.1 B1.out.2 B2.out.1 B2.out.2).mono ?_; rintro e u4 ⟨rfl, hb4⟩))
  all_goals
    go_wp2
    go_ret
    exact ⟨rfl, s_below (by assumption)⟩

set_option maxRecDepth 100000 in
theorem contract (H : Type) (enc : TypeId × Value → H) (W : World) (base : Nat) (args : Array Value) (ds gs : List (DataW H)) (before : List MemPlace)
    (hval0 : ∀ (j : Nat) t v, Try.f10.params[j]? = some t → args[j]? = some v → Value.okWide Try.prog W .any base t v)
    (hW : DataW.Whole enc Try.prog Try.f10.params.toList Rows.rlogNewerSpec.vars false W args.toList ds gs before)
    (hsz0 : (DataW.weightsEach Try.prog (Try.f10.params.toList ++ Rows.rlogNewerSpec.plain.varTypes Try.prog) (ds ++ gs)).all (· ≤ reachBytes) = true) :
    Calls Try.prog 10 args W fun e W' => ∃ v, e = .returned v ∧ Rows.rlogNewerSpec.post enc Try.prog Try.f10 false true false false W args v W' := by
  have hval : ∀ (j : Nat) t v, Try.f10.params[j]? = some t → args[j]? = some v → Value.okWide Try.prog W .any base t v := hval0
  have hW' := hW
  obtain ⟨p, q, hA0, hV, rfl, hfz, hnd⟩ := hW
  have hA : DataW.TrodAll enc Try.prog W 0 (fun _ => true) true Try.f10.params.toList args.toList ds p := hA0
  rw [Try.params10] at hA hval
  have hsz := hsz0
  rw [Try.params10] at hsz
  obtain ⟨v0, vs0, d0, ds0, p0, q0, hargs, rfl, rfl, h0, r0⟩ := trodAll_cons hA
  obtain ⟨v1, vs1, d1, ds1, p1, q1, rfl, rfl, rfl, h1, r1⟩ := trodAll_cons r0
  obtain ⟨v2, vs2, d2, ds2, p2, q2, rfl, rfl, rfl, h2, r2⟩ := trodAll_cons r1
  obtain ⟨rfl, rfl, rfl⟩ := trodAll_nil r2
  obtain rfl : args = #[v0, v1, v2] := by cases args; simp_all
  obtain ⟨rfl, rfl⟩ := trodVars_none hV
  clear hA0 hval0
  have k0 := h0
  have lt0 : ∀ x ∈ p0, x.block < W.heap.size := by obtain ⟨m, hm⟩ := k0; exact DataW.trod_lt m _ _ _ hm
  have k1 := h1
  have lt1 : ∀ x ∈ p1, x.block < W.heap.size := by obtain ⟨m, hm⟩ := k1; exact DataW.trod_lt m _ _ _ hm
  have k2 := h2
  have lt2 : ∀ x ∈ p2, x.block < W.heap.size := by obtain ⟨m, hm⟩ := k2; exact DataW.trod_lt m _ _ _ hm
  obtain ⟨x0, w0, -, s0⟩ := open_hard (hval 0 32 v0 rfl rfl) k0
  have b0 : IsHard.fits x0 := s0 (wt_arg hsz (j := 0) rfl rfl)
  obtain ⟨a1, rfl, -, -, w1⟩ := open_int Try.underlying22 (hval 1 22 v1 rfl rfl) h1
  obtain ⟨a2, rfl, -, -, w2⟩ := open_int Try.underlying22 (hval 2 22 v2 rfl rfl) h2
  refine (walk v0 x0 a1 a2 W w0 b0 w1 w2).mono fun e W' ⟨he, bel⟩ => ?_
  subst he
  exact ⟨_, rfl, _, _, _, [], _, [], hW', trodAll_mk1 (shut_bool Try.underlying4 _), (trodAll_cons_mk (Below.trod laidOut (by kernel_rfl) (of_decide_eq_true (by kernel_rfl)) k0 bel lt0) (trodAll_cons_mk (Below.trod laidOut (by kernel_rfl) (of_decide_eq_true (by kernel_rfl)) k1 bel lt1) (trodAll_cons_mk (Below.trod laidOut (by kernel_rfl) (of_decide_eq_true (by kernel_rfl)) k2 bel lt2) trodAll_mk0))), rfl, bel.frame _, fun h => by cases h⟩

set_option maxRecDepth 100000 in
theorem lifted (os : Os) (started : os.Started) (H : Type) (enc : TypeId × Value → H) :
    ReturnsInHanded {} Try.checked os 10 .any (Rows.rlogNewerSpec.pre6 enc Try.prog Try.f10 Rows.rlogNewerRow.domain false) (Rows.rlogNewerSpec.post enc Try.prog Try.f10 false true false false) := by
  refine returnsInHanded_of_change_sized (C := Try.checked) own started (by kernel_rfl) Try.func10
    (ChangeSpec.witness6 (enc := enc) (C := Try.checked) false ⟨#[], #[.agg #[.int .u64 0, .int .u64 0, .int .i64 0, .int .u64 0, .int .u64 0, .slice none 0 0, .int .i64 0, .int .u64 0, .slice none 0 0, .slice none 0 0, .slice none 0 0], .int .u64 0, .int .u64 0], []⟩ 8 (by kernel_rfl) (by kernel_rfl) (by kernel_rfl) (by kernel_rfl)) ?_
  intro W base args ds gs before hval0 hW hcnd hsz _
  exact contract H enc W base args ds gs before hval0 hW hsz

theorem proved : Rows.RlogNewerSaid :=
  OpenClaim.holds_of_wide 10 Try.f10 rfl rfl rfl rfl rfl rfl rfl ⟨rfl, rfl, rfl, rfl, rfl⟩ rfl rfl rfl rfl rfl (by kernel_rfl) Try.func10 (by kernel_rfl)
    (of_decide_eq_true (by kernel_rfl)) (by unfold Func.isWrapper; first | (rw [if_pos (by decide +kernel)]; kernel_rfl) | (rw [if_neg (by decide +kernel)]; exact ⟨rfl, rfl⟩))
    (fun os started H enc _ => lifted os started H enc)
end Go.Proofs.Ytnmlbakiolecnaa.rlogNewer
