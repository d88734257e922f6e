/- The law NodesBack returns true for every two lists: steps go both ways, no set steps to itself, and what steps may be. No condition. -/
import Derived.Test.YtlbadhkdkbghbaaSl
import Derived.Test.YtlbadhkdkbghbaaNodT
namespace Go.Proofs.Ytlbadhkdkbghbaa.nodesBack
open Go.ChangeShapes Go.WideShapes Go.ChangeAt Go.RowKit
open Go.ChangeMaps (open_string shut_string)
set_option linter.unusedVariables false

theorem own : ownKnob Try.prog.godebug = none := by kernel_rfl
theorem laidOut : laidOutB Try.prog = true := by kernel_rfl

set_option maxHeartbeats 400000 in
theorem walk (v0 : Value) (z0 : List Int) (v1 : Value) (z1 : List Int) (w : World) (w0 : Sl .i64 w v0 z0) (b0 : z0.length * 8 ≤ 140737488351232) (w1 : Sl .i64 w v1 z1) (b1 : z1.length * 8 ≤ 140737488351232) :
    Calls Try.prog 10 #[v0, v1] w fun e w' => e = .returned (.bool true) ∧ Below w.heap.size w w' := by
  have k1 := Lib.hid Nd.steps12
  have HS := Lib.hid (Nd.stepsB_self z0)
  have HC := Lib.hid (Nd.stepsB_comm z1 z0)
  go_enter Try.func10, Try.ntmps10
  go_wp2_with fail
  have hl1 := (Sl.new (k := .i64) (e := 3) (fr := (0, 0)) (n := 1) (c := 1) w #[Value.int .i64 1] [1] rfl rfl (by decide) (by decide) (by decide)).below ((Below.refl _ _).alloc (Nat.le_refl _) (.cells #[Value.int .i64 1, Value.int .i64 2] 3)) (Nat.le_refl _)
  have hl2 := Sl.newAt (k := .i64) (e := 3) (fr := (0, 0)) (n := 2) (c := 2) (w.alloc (.cells #[Value.int .i64 1] 3)) (w.heap.size + 1) (by simp) #[Value.int .i64 1, Value.int .i64 2] [1, 2] rfl rfl (by decide) (by decide) (by decide)
  refine (Nd.steps_any _ _ _ _ _ hl1 hl2).mono ?_
  rintro e u1 ⟨rfl, hb1⟩
  rw [k1.out]
  have hb01 : Below w.heap.size w u1 := (((Below.refl _ _).alloc (Nat.le_refl _) _).alloc (by simp) _).trans (hb1.mono (by simp; omega))
  clear hl1 hl2 hb1
  go_wp2_with fail
  refine (Nd.steps_any _ _ _ _ _ (w0.below hb01 (Nat.le_refl _)) (w1.below hb01 (Nat.le_refl _))).mono ?_
  rintro e u2 ⟨rfl, hb2⟩
  have hb02 := hb01.trans (hb2.mono hb01.size)
  clear hb01 hb2
  go_wp2_with fail
  refine (Nd.steps_any _ _ _ _ _ (w1.below hb02 (Nat.le_refl _)) (w0.below hb02 (Nat.le_refl _))).mono ?_
  rintro e u3 ⟨rfl, hb3⟩
  rw [HC.out]
  have hb03 := hb02.trans (hb3.mono hb02.size)
  clear hb02 hb3
  go_wp2_with fail
  refine (Nd.steps_any _ _ _ _ _ (w0.below hb03 (Nat.le_refl _)) (w0.below hb03 (Nat.le_refl _))).mono ?_
  rintro e u4 ⟨rfl, hb4⟩
  rw [HS.out]
  have hb04 := hb03.trans (hb4.mono hb03.size)
  clear hb03 hb4
  go_wp2_with fail
  refine (Nd.steps_any _ _ _ _ _ (w0.below hb04 (Nat.le_refl _)) (w1.below hb04 (Nat.le_refl _))).mono ?_
  rintro e u5 ⟨rfl, hb5⟩
  have hb05 := hb04.trans (hb5.mono hb04.size)
  clear hb04 hb5
  cases hst : Nd.stepsB z0 z1 with
  | false =>
    go_wp2
    go_ret
    exact ⟨rfl, hb05⟩
  | true =>
    have hck := Nd.stepsB_chk hst
    have he0 : Nd.errOf (Nd.chk z0) = 0 := by rw [hck.1]; rfl
    have he1 : Nd.errOf (Nd.chk z1) = 0 := by rw [hck.2.1]; rfl
    have HE0 := Lib.hid he0
    have HE1 := Lib.hid he1
    clear hck he0 he1 hst
    go_wp2_with fail
    refine (Nd.check_any _ _ _ (w0.below hb05 (Nat.le_refl _))).mono ?_
    rintro e u6 ⟨rfl, rfl⟩
    rw [HE0.out]
    go_wp2_with fail
    refine (Nd.check_any _ _ _ (w1.below hb05 (Nat.le_refl _))).mono ?_
    rintro e u6 ⟨rfl, rfl⟩
    rw [HE1.out]
    go_wp2
    go_ret
    exact ⟨rfl, hb05⟩

set_option maxRecDepth 100000 in
theorem contract (H : Type) (enc : TypeId × Value → H) (W : World) (base : Nat) (args : Array Value) (ds gs : List (DataW H)) (before : List MemPlace)
    (hval0 : ∀ (j : Nat) t v, Try.f10.params[j]? = some t → args[j]? = some v → Value.okWide Try.prog W .any base t v)
    (hW : DataW.Whole enc Try.prog Try.f10.params.toList Rows.nodesBackSpec.vars false W args.toList ds gs before)
    (hsz0 : (DataW.weightsEach Try.prog (Try.f10.params.toList ++ Rows.nodesBackSpec.plain.varTypes Try.prog) (ds ++ gs)).all (· ≤ reachBytes) = true) :
    Calls Try.prog 10 args W fun e W' => ∃ v, e = .returned v ∧ Rows.nodesBackSpec.post enc Try.prog Try.f10 false true false false W args v W' := by
  have hval : ∀ (j : Nat) t v, Try.f10.params[j]? = some t → args[j]? = some v → Value.okWide Try.prog W .any base t v := hval0
  have hW' := hW
  obtain ⟨p, q, hA0, hV, rfl, hfz, hnd⟩ := hW
  have hA : DataW.TrodAll enc Try.prog W 0 (fun _ => true) true Try.f10.params.toList args.toList ds p := hA0
  rw [Try.params10] at hA hval
  have hsz := hsz0
  rw [Try.params10] at hsz
  obtain ⟨v0, vs0, d0, ds0, p0, q0, hargs, rfl, rfl, h0, r0⟩ := trodAll_cons hA
  obtain ⟨v1, vs1, d1, ds1, p1, q1, rfl, rfl, rfl, h1, r1⟩ := trodAll_cons r0
  obtain ⟨rfl, rfl, rfl⟩ := trodAll_nil r1
  obtain rfl : args = #[v0, v1] := by cases args; simp_all
  obtain ⟨rfl, rfl⟩ := trodVars_none hV
  clear hA0 hval0
  have k0 := h0
  have lt0 : ∀ x ∈ p0, x.block < W.heap.size := by obtain ⟨m, hm⟩ := k0; exact DataW.trod_lt m _ _ _ hm
  have k1 := h1
  have lt1 : ∀ x ∈ p1, x.block < W.heap.size := by obtain ⟨m, hm⟩ := k1; exact DataW.trod_lt m _ _ _ hm
  obtain ⟨z0, w0, u00, b00⟩ := open_sl Try.underlying22 Try.underlying3 (by kernel_rfl) (okWide_slice Try.underlying22 (hval 0 22 v0 rfl rfl)).choose_spec.choose_spec.choose_spec k0
  have b0 : z0.length * 8 ≤ 140737488351232 := by
    have := b00 hsz (j := 0) rfl rfl
    rw [show Try.prog.bytesOf 3 = 8 from by kernel_rfl] at this
    simpa [reachBytes] using this
  obtain ⟨z1, w1, u10, b10⟩ := open_sl Try.underlying22 Try.underlying3 (by kernel_rfl) (okWide_slice Try.underlying22 (hval 1 22 v1 rfl rfl)).choose_spec.choose_spec.choose_spec k1
  have b1 : z1.length * 8 ≤ 140737488351232 := by
    have := b10 hsz (j := 1) rfl rfl
    rw [show Try.prog.bytesOf 3 = 8 from by kernel_rfl] at this
    simpa [reachBytes] using this
  refine (walk v0 z0 v1 z1 W w0 b0 w1 b1).mono fun e W' ⟨he, bel⟩ => ?_
  subst he
  exact ⟨_, rfl, _, _, _, [], _, [], hW', trodAll_mk1 (shut_bool Try.underlying4 _), (trodAll_cons_mk (Below.trod laidOut (by kernel_rfl) (of_decide_eq_true (by kernel_rfl)) k0 bel lt0) (trodAll_cons_mk (Below.trod laidOut (by kernel_rfl) (of_decide_eq_true (by kernel_rfl)) k1 bel lt1) trodAll_mk0)), rfl, bel.frame _, fun h => by cases h⟩

set_option maxRecDepth 100000 in
theorem lifted (os : Os) (started : os.Started) (H : Type) (enc : TypeId × Value → H) :
    ReturnsInHanded {} Try.checked os 10 .any (Rows.nodesBackSpec.pre6 enc Try.prog Try.f10 Rows.nodesBackRow.domain false) (Rows.nodesBackSpec.post enc Try.prog Try.f10 false true false false) := by
  refine returnsInHanded_of_change_sized (C := Try.checked) own started (by kernel_rfl) Try.func10
    (ChangeSpec.witness6 (enc := enc) (C := Try.checked) false ⟨#[], #[.slice none 0 0, .slice none 0 0], []⟩ 8 (by kernel_rfl) (by kernel_rfl) (by kernel_rfl) (by kernel_rfl)) ?_
  intro W base args ds gs before hval0 hW hcnd hsz _
  exact contract H enc W base args ds gs before hval0 hW hsz

theorem proved : Rows.NodesBackSaid :=
  OpenClaim.holds_of_wide 10 Try.f10 rfl rfl rfl rfl rfl rfl rfl ⟨rfl, rfl, rfl, rfl, rfl⟩ rfl rfl rfl rfl rfl (by kernel_rfl) Try.func10 (by kernel_rfl)
    (of_decide_eq_true (by kernel_rfl)) (by unfold Func.isWrapper; first | (rw [if_pos (by decide +kernel)]; kernel_rfl) | (rw [if_neg (by decide +kernel)]; exact ⟨rfl, rfl⟩))
    (fun os started H enc _ => lifted os started H enc)
end Go.Proofs.Ytlbadhkdkbghbaa.nodesBack
