/- The law NodesSteps returns true for every two lists: package nodes' Steps answers what the document's own answer is, and the chapter's example holds. No condition. -/
import Derived.Test.YtlbadhkdkbghbaaSl
import Derived.Test.YtlbadhkdkbghbaaNodT
namespace Go.Proofs.Ytlbadhkdkbghbaa.nodesSteps
open Go.ChangeShapes Go.WideShapes Go.ChangeAt Go.RowKit
open Go.ChangeMaps (open_string shut_string)
set_option linter.unusedVariables false

theorem own : ownKnob Try.prog.godebug = none := by kernel_rfl
theorem laidOut : laidOutB Try.prog = true := by kernel_rfl

set_option maxHeartbeats 400000 in
theorem walk (v0 : Value) (z0 : List Int) (v1 : Value) (z1 : List Int) (w : World) (w0 : Sl .i64 w v0 z0) (b0 : z0.length * 8 ≤ 140737488351232) (w1 : Sl .i64 w v1 z1) (b1 : z1.length * 8 ≤ 140737488351232) :
    Calls Try.prog 7 #[v0, v1] w fun e w' => e = .returned (.bool true) ∧ Below w.heap.size w w' := by
  have k1 := Lib.hid Nd.steps12
  go_enter Try.func7, Try.ntmps7
  go_wp2_with fail
  have hl1 := (Sl.new (k := .i64) (e := 3) (fr := (0, 0)) (n := 1) (c := 1) w #[Value.int .i64 1] [1] rfl rfl (by decide) (by decide) (by decide)).below ((Below.refl _ _).alloc (Nat.le_refl _) (.cells #[Value.int .i64 1, Value.int .i64 2] 3)) (Nat.le_refl _)
  have hl2 := Sl.newAt (k := .i64) (e := 3) (fr := (0, 0)) (n := 2) (c := 2) (w.alloc (.cells #[Value.int .i64 1] 3)) (w.heap.size + 1) (by simp) #[Value.int .i64 1, Value.int .i64 2] [1, 2] rfl rfl (by decide) (by decide) (by decide)
  refine (Nd.steps_any _ _ _ _ _ hl1 hl2).mono ?_
  rintro e u1 ⟨rfl, hb1⟩
  rw [k1.out]
  have hb01 : Below w.heap.size w u1 := (((Below.refl _ _).alloc (Nat.le_refl _) _).alloc (by simp) _).trans (hb1.mono (by simp; omega))
  have h0 := w0.below hb01 (Nat.le_refl _)
  have h1 := w1.below hb01 (Nat.le_refl _)
  clear hl1 hl2 hb1
  go_wp2_with fail
  refine (Nd.steps_any _ _ _ _ _ h0 h1).mono ?_
  rintro e u2 ⟨rfl, hb2⟩
  go_wp2_with fail
  refine (Nd.rsteps_any _ _ _ _ _ (h0.below hb2 (Nat.le_refl _)) (h1.below hb2 (Nat.le_refl _)) b0 b1).mono ?_
  rintro e u3 ⟨rfl, rfl⟩
  go_wp2
  go_ret
  exact ⟨rfl, hb01.trans (hb2.mono hb01.size)⟩

set_option maxRecDepth 100000 in
theorem contract (H : Type) (enc : TypeId × Value → H) (W : World) (base : Nat) (args : Array Value) (ds gs : List (DataW H)) (before : List MemPlace)
    (hval0 : ∀ (j : Nat) t v, Try.f7.params[j]? = some t → args[j]? = some v → Value.okWide Try.prog W .any base t v)
    (hW : DataW.Whole enc Try.prog Try.f7.params.toList Rows.nodesStepsSpec.vars false W args.toList ds gs before)
    (hsz0 : (DataW.weightsEach Try.prog (Try.f7.params.toList ++ Rows.nodesStepsSpec.plain.varTypes Try.prog) (ds ++ gs)).all (· ≤ reachBytes) = true) :
    Calls Try.prog 7 args W fun e W' => ∃ v, e = .returned v ∧ Rows.nodesStepsSpec.post enc Try.prog Try.f7 false true false false W args v W' := by
  have hval : ∀ (j : Nat) t v, Try.f7.params[j]? = some t → args[j]? = some v → Value.okWide Try.prog W .any base t v := hval0
  have hW' := hW
  obtain ⟨p, q, hA0, hV, rfl, hfz, hnd⟩ := hW
  have hA : DataW.TrodAll enc Try.prog W 0 (fun _ => true) true Try.f7.params.toList args.toList ds p := hA0
  rw [Try.params7] at hA hval
  have hsz := hsz0
  rw [Try.params7] at hsz
  obtain ⟨v0, vs0, d0, ds0, p0, q0, hargs, rfl, rfl, h0, r0⟩ := trodAll_cons hA
  obtain ⟨v1, vs1, d1, ds1, p1, q1, rfl, rfl, rfl, h1, r1⟩ := trodAll_cons r0
  obtain ⟨rfl, rfl, rfl⟩ := trodAll_nil r1
  obtain rfl : args = #[v0, v1] := by cases args; simp_all
  obtain ⟨rfl, rfl⟩ := trodVars_none hV
  clear hA0 hval0
  have k0 := h0
  have lt0 : ∀ x ∈ p0, x.block < W.heap.size := by obtain ⟨m, hm⟩ := k0; exact DataW.trod_lt m _ _ _ hm
  have k1 := h1
  have lt1 : ∀ x ∈ p1, x.block < W.heap.size := by obtain ⟨m, hm⟩ := k1; exact DataW.trod_lt m _ _ _ hm
  obtain ⟨z0, w0, u00, b00⟩ := open_sl Try.underlying22 Try.underlying3 (by kernel_rfl) (okWide_slice Try.underlying22 (hval 0 22 v0 rfl rfl)).choose_spec.choose_spec.choose_spec k0
  have b0 : z0.length * 8 ≤ 140737488351232 := by
    have := b00 hsz (j := 0) rfl rfl
    rw [show Try.prog.bytesOf 3 = 8 from by kernel_rfl] at this
    simpa [reachBytes] using this
  obtain ⟨z1, w1, u10, b10⟩ := open_sl Try.underlying22 Try.underlying3 (by kernel_rfl) (okWide_slice Try.underlying22 (hval 1 22 v1 rfl rfl)).choose_spec.choose_spec.choose_spec k1
  have b1 : z1.length * 8 ≤ 140737488351232 := by
    have := b10 hsz (j := 1) rfl rfl
    rw [show Try.prog.bytesOf 3 = 8 from by kernel_rfl] at this
    simpa [reachBytes] using this
  refine (walk v0 z0 v1 z1 W w0 b0 w1 b1).mono fun e W' ⟨he, bel⟩ => ?_
  subst he
  exact ⟨_, rfl, _, _, _, [], _, [], hW', trodAll_mk1 (shut_bool Try.underlying4 _), (trodAll_cons_mk (Below.trod laidOut (by kernel_rfl) (of_decide_eq_true (by kernel_rfl)) k0 bel lt0) (trodAll_cons_mk (Below.trod laidOut (by kernel_rfl) (of_decide_eq_true (by kernel_rfl)) k1 bel lt1) trodAll_mk0)), rfl, bel.frame _, fun h => by cases h⟩

set_option maxRecDepth 100000 in
theorem lifted (os : Os) (started : os.Started) (H : Type) (enc : TypeId × Value → H) :
    ReturnsInHanded {} Try.checked os 7 .any (Rows.nodesStepsSpec.pre6 enc Try.prog Try.f7 Rows.nodesStepsRow.domain false) (Rows.nodesStepsSpec.post enc Try.prog Try.f7 false true false false) := by
  refine returnsInHanded_of_change_sized (C := Try.checked) own started (by kernel_rfl) Try.func7
    (ChangeSpec.witness6 (enc := enc) (C := Try.checked) false ⟨#[], #[.slice none 0 0, .slice none 0 0], []⟩ 8 (by kernel_rfl) (by kernel_rfl) (by kernel_rfl) (by kernel_rfl)) ?_
  intro W base args ds gs before hval0 hW hcnd hsz _
  exact contract H enc W base args ds gs before hval0 hW hsz

theorem proved : Rows.NodesStepsSaid :=
  OpenClaim.holds_of_wide 7 Try.f7 rfl rfl rfl rfl rfl rfl rfl ⟨rfl, rfl, rfl, rfl, rfl⟩ rfl rfl rfl rfl rfl (by kernel_rfl) Try.func7 (by kernel_rfl)
    (of_decide_eq_true (by kernel_rfl)) (by unfold Func.isWrapper; first | (rw [if_pos (by decide +kernel)]; kernel_rfl) | (rw [if_neg (by decide +kernel)]; exact ⟨rfl, rfl⟩))
    (fun os started H enc _ => lifted os started H enc)
end Go.Proofs.Ytlbadhkdkbghbaa.nodesSteps
