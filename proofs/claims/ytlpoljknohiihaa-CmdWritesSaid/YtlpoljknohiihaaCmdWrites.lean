/- The law CmdWrites returns true for every command: package cmd's Encode hands back the bytes and the error that the document's own answer does, and the chapter's first example holds. No condition. -/
import Derived.Test.YtlpoljknohiihaaSl
import Derived.Test.YtlpoljknohiihaaCmdL
namespace Go.Proofs.Ytlpoljknohiihaa.cmdWrites
open Go.ChangeShapes Go.WideShapes Go.ChangeAt Go.RowKit
open Go.ChangeMaps (open_string shut_string)
set_option linter.unusedVariables false

theorem own : ownKnob Try.prog.godebug = none := by kernel_rfl
theorem laidOut : laidOutB Try.prog = true := by kernel_rfl

set_option maxHeartbeats 400000 in
theorem walk (v0 : Value) (x0 : Cmd) (w : World) (w0 : IsCmd w v0 x0) (b0 : IsCmd.fits x0) :
    Calls Try.prog 4 #[v0] w fun e w' => e = .returned (.bool true) ∧ Below w.heap.size w w' := by
  obtain ⟨vn, rfl, hsl, hwf⟩ := id w0
  have hb0 : Below w.heap.size w (w.alloc (.cells (Cm.cArr x0 vn) 25)) := (Below.refl _ _).alloc (Nat.le_refl _) _
  have hi0 := Lib.hid (w0.below hb0 (Nat.le_refl _))
  have hh0 : (w.alloc (.cells (Cm.cArr x0 vn) 25)).heap[w.heap.size]? = some (.cells (Cm.cArr x0 vn) 25 (0, 0)) := heap_alloc_new _ _
  have HH0 := Lib.hid hh0
  clear hh0 hsl hwf w0
  go_enter Try.func4, Try.ntmps4
  go_wp2_with fail
  refine (Cm.encode_all x0 _ _ hi0.out).mono ?_
  rintro e w1 ⟨v1, rfl, hs1, hb1⟩
  have hh1 := (hb1.block w.heap.size (by simp)).trans HH0.out
  have hi1 := hi0.out.below hb1 (Nat.le_refl _)
  have hB1 := hb0.trans (hb1.mono (by simp))
  go_wp2_with (first
    | (refine wpList_load_rowG rfl 25 (.tmp 1) rfl w.heap.size rfl 25 (Cm.cArr x0 vn) (0, 0) _ hh1 Try.underlying25 rfl (by kernel_rfl) ?_)
    | (go_at_call 14; refine (Cm.rencode_all x0 _ _ hi1).mono ?_; rintro e w2 ⟨v2, rfl, hs2, hb2⟩; have hs12 := hs1.below hb2 (Nat.le_refl _))
    | (go_at_call 15; refine (Cm.live_any _).mono ?_; rintro e w3 ⟨rfl, hb3⟩; have hq1 := run_str (hs12.below hb3 (Nat.le_refl _)); have hq2 := run_str (hs2.below hb3 (Nat.le_refl _))))
  go_ret
  exact ⟨rfl, (hB1.trans (hb2.mono hB1.size)).trans (hb3.mono (Nat.le_trans hB1.size hb2.size))⟩

set_option maxRecDepth 100000 in
theorem contract (H : Type) (enc : TypeId × Value → H) (W : World) (base : Nat) (args : Array Value) (ds gs : List (DataW H)) (before : List MemPlace)
    (hval0 : ∀ (j : Nat) t v, Try.f4.params[j]? = some t → args[j]? = some v → Value.okWide Try.prog W .any base t v)
    (hW : DataW.Whole enc Try.prog Try.f4.params.toList Rows.cmdWritesSpec.vars false W args.toList ds gs before)
    (hsz0 : (DataW.weightsEach Try.prog (Try.f4.params.toList ++ Rows.cmdWritesSpec.plain.varTypes Try.prog) (ds ++ gs)).all (· ≤ reachBytes) = true) :
    Calls Try.prog 4 args W fun e W' => ∃ v, e = .returned v ∧ Rows.cmdWritesSpec.post enc Try.prog Try.f4 false true false false W args v W' := by
  have hval : ∀ (j : Nat) t v, Try.f4.params[j]? = some t → args[j]? = some v → Value.okWide Try.prog W .any base t v := hval0
  have hW' := hW
  obtain ⟨p, q, hA0, hV, rfl, hfz, hnd⟩ := hW
  have hA : DataW.TrodAll enc Try.prog W 0 (fun _ => true) true Try.f4.params.toList args.toList ds p := hA0
  rw [Try.params4] at hA hval
  have hsz := hsz0
  rw [Try.params4] at hsz
  obtain ⟨v0, vs0, d0, ds0, p0, q0, hargs, rfl, rfl, h0, r0⟩ := trodAll_cons hA
  obtain ⟨rfl, rfl, rfl⟩ := trodAll_nil r0
  obtain rfl : args = #[v0] := by cases args; simp_all
  obtain ⟨rfl, rfl⟩ := trodVars_none hV
  clear hA0 hval0
  have k0 := h0
  have lt0 : ∀ x ∈ p0, x.block < W.heap.size := by obtain ⟨m, hm⟩ := k0; exact DataW.trod_lt m _ _ _ hm
  obtain ⟨x0, w0, -, s0⟩ := open_cmd (hval 0 25 v0 rfl rfl) k0
  have b0 : IsCmd.fits x0 := s0 (wt_arg hsz (j := 0) rfl rfl)
  refine (walk v0 x0 W w0 b0).mono fun e W' ⟨he, bel⟩ => ?_
  subst he
  exact ⟨_, rfl, _, _, _, [], _, [], hW', trodAll_mk1 (shut_bool Try.underlying4 _), (trodAll_cons_mk (Below.trod laidOut (by kernel_rfl) (of_decide_eq_true (by kernel_rfl)) k0 bel lt0) trodAll_mk0), rfl, bel.frame _, fun h => by cases h⟩

set_option maxRecDepth 100000 in
theorem lifted (os : Os) (started : os.Started) (H : Type) (enc : TypeId × Value → H) :
    ReturnsInHanded {} Try.checked os 4 .any (Rows.cmdWritesSpec.pre6 enc Try.prog Try.f4 Rows.cmdWritesRow.domain false) (Rows.cmdWritesSpec.post enc Try.prog Try.f4 false true false false) := by
  refine returnsInHanded_of_change_sized (C := Try.checked) own started (by kernel_rfl) Try.func4
    (ChangeSpec.witness6 (enc := enc) (C := Try.checked) false ⟨#[], #[.agg #[.int .i64 0, .int .i64 0, .int .i64 0, .slice none 0 0, .int .u64 0, .int .u64 0, .int .u64 0, .int .u64 0]], []⟩ 8 (by kernel_rfl) (by kernel_rfl) (by kernel_rfl) (by kernel_rfl)) ?_
  intro W base args ds gs before hval0 hW hcnd hsz _
  exact contract H enc W base args ds gs before hval0 hW hsz

theorem proved : Rows.CmdWritesSaid :=
  OpenClaim.holds_of_wide 4 Try.f4 rfl rfl rfl rfl rfl rfl rfl ⟨rfl, rfl, rfl, rfl, rfl⟩ rfl rfl rfl rfl rfl (by kernel_rfl) Try.func4 (by kernel_rfl)
    (of_decide_eq_true (by kernel_rfl)) (by unfold Func.isWrapper; first | (rw [if_pos (by decide +kernel)]; kernel_rfl) | (rw [if_neg (by decide +kernel)]; exact ⟨rfl, rfl⟩))
    (fun os started H enc _ => lifted os started H enc)
end Go.Proofs.Ytlpoljknohiihaa.cmdWrites
