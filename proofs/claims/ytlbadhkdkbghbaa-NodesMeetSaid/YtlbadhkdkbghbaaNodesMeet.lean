/- The law NodesMeet returns true for every four lists: two majorities, of one set or of two that are one step apart, have a node in common. No condition. -/
import Derived.Test.YtlbadhkdkbghbaaSl
import Derived.Test.YtlbadhkdkbghbaaNodU
namespace Go.Proofs.Ytlbadhkdkbghbaa.nodesMeet
open Go.ChangeShapes Go.WideShapes Go.ChangeAt Go.RowKit
open Go.ChangeMaps (open_string shut_string)
set_option linter.unusedVariables false

theorem own : ownKnob Try.prog.godebug = none := by kernel_rfl
theorem laidOut : laidOutB Try.prog = true := by kernel_rfl

set_option maxHeartbeats 400000 in
theorem walk (v0 : Value) (z0 : List Int) (v1 : Value) (z1 : List Int) (v2 : Value) (z2 : List Int) (v3 : Value) (z3 : List Int) (w : World) (w0 : Sl .i64 w v0 z0) (b0 : z0.length * 8 ≤ 140737488351232) (w1 : Sl .i64 w v1 z1) (b1 : z1.length * 8 ≤ 140737488351232) (w2 : Sl .i64 w v2 z2) (b2 : z2.length * 8 ≤ 140737488351232) (w3 : Sl .i64 w v3 z3) (b3 : z3.length * 8 ≤ 140737488351232) :
    Calls Try.prog 9 #[v0, v1, v2, v3] w fun e w' => e = .returned (.bool true) ∧ Below w.heap.size w w' := by
  have k1 := Lib.hid Nd.maj123
  go_enter Try.func9, Try.ntmps9
  go_wp2_with fail
  have hl1 := (Sl.new (k := .i64) (e := 3) (fr := (0, 0)) (n := 3) (c := 3) w #[Value.int .i64 1, Value.int .i64 2, Value.int .i64 3] [1, 2, 3] rfl rfl (by decide) (by decide) (by decide)).below ((Below.refl _ _).alloc (Nat.le_refl _) (.cells #[Value.int .i64 3, Value.int .i64 1] 3)) (Nat.le_refl _)
  have hl2 := Sl.newAt (k := .i64) (e := 3) (fr := (0, 0)) (n := 2) (c := 2) (w.alloc (.cells #[Value.int .i64 1, Value.int .i64 2, Value.int .i64 3] 3)) (w.heap.size + 1) (by simp) #[Value.int .i64 3, Value.int .i64 1] [3, 1] rfl rfl (by decide) (by decide) (by decide)
  refine (Nd.majority_any _ _ _ _ _ hl1 hl2).mono ?_
  rintro e u1 ⟨rfl, hb1⟩
  rw [k1.out]
  have hb01 : Below w.heap.size w u1 := (((Below.refl _ _).alloc (Nat.le_refl _) _).alloc (by simp) _).trans (hb1.mono (by simp; omega))
  clear hl1 hl2 hb1
  go_wp2_with fail
  refine (Nd.steps_any _ _ _ _ _ (w0.below hb01 (Nat.le_refl _)) (w1.below hb01 (Nat.le_refl _))).mono ?_
  rintro e u2 ⟨rfl, hb2⟩
  have hb02 := hb01.trans (hb2.mono hb01.size)
  clear hb01 hb2
  cases hst : Nd.stepsB z0 z1 with
  | true =>
    have HST : Hid (Nd.stepsB z0 z1 = true ∨ z0 = z1) := Lib.hid (.inl hst)
    clear hst
    go_wp2_with fail
    refine (Nd.majority_any _ _ _ _ _ (w0.below hb02 (Nat.le_refl _)) (w2.below hb02 (Nat.le_refl _))).mono ?_
    rintro e u5 ⟨rfl, hb5⟩
    have hb05 := hb02.trans (hb5.mono hb02.size)
    clear hb02 hb5
    cases hma : Nd.majB z0 z2 with
    | false =>
      go_wp2
      go_ret
      exact ⟨rfl, hb05⟩
    | true =>
      have HMA := Lib.hid hma
      clear hma
      go_wp2_with fail
      refine (Nd.majority_any _ _ _ _ _ (w1.below hb05 (Nat.le_refl _)) (w3.below hb05 (Nat.le_refl _))).mono ?_
      rintro e u6 ⟨rfl, hb6⟩
      have hb06 := hb05.trans (hb6.mono hb05.size)
      clear hb05 hb6
      cases hmb : Nd.majB z1 z3 with
      | false =>
        go_wp2
        go_ret
        exact ⟨rfl, hb06⟩
      | true =>
        have HR := Lib.hid (Nd.meet HST.out HMA.out hmb)
        clear hmb
        go_wp2_with fail
        refine (Nd.inner_any _ _ _ _ _ (w0.below hb06 (Nat.le_refl _)) (w2.below hb06 (Nat.le_refl _)) b2).mono ?_
        rintro e u7 ⟨v7, rfl, -, hs7, hb7⟩
        have hb07 := hb06.trans (hb7.mono hb06.size)
        clear hb06 hb7
        go_wp2_with fail
        refine (Nd.inner_any _ _ _ _ _ (w1.below hb07 (Nat.le_refl _)) (w3.below hb07 (Nat.le_refl _)) b3).mono ?_
        rintro e u8 ⟨v8, rfl, -, hs8, hb8⟩
        have hb08 := hb07.trans (hb8.mono hb07.size)
        have hs78 := hs7.below hb8 (Nat.le_refl _)
        clear hb07 hb8 hs7
        go_wp2_with fail
        refine (Nd.common_any _ _ _ _ _ hs78 hs8).mono ?_
        rintro e u9 ⟨rfl, rfl⟩
        go_wp2
        go_ret
        exact ⟨ret_bool HR.out, hb08⟩
  | false =>
    clear hst
    go_wp2_with fail
    refine (Nd.same_any _ _ _ _ _ (w0.below hb02 (Nat.le_refl _)) (w1.below hb02 (Nat.le_refl _))).mono ?_
    rintro e u3 ⟨rfl, hb3⟩
    have hb03 := hb02.trans (hb3.mono hb02.size)
    clear hb02 hb3
    cases hsm : decide (z0 = z1) with
    | false =>
      clear hsm
      go_wp2
      go_ret
      exact ⟨rfl, hb03⟩
    | true =>
      have HST : Hid (Nd.stepsB z0 z1 = true ∨ z0 = z1) := Lib.hid (.inr (of_decide_eq_true hsm))
      clear hsm
      go_wp2_with fail
      refine (Nd.majority_any _ _ _ _ _ (w0.below hb03 (Nat.le_refl _)) (w2.below hb03 (Nat.le_refl _))).mono ?_
      rintro e u5 ⟨rfl, hb5⟩
      have hb05 := hb03.trans (hb5.mono hb03.size)
      clear hb03 hb5
      cases hma : Nd.majB z0 z2 with
      | false =>
        go_wp2
        go_ret
        exact ⟨rfl, hb05⟩
      | true =>
        have HMA := Lib.hid hma
        clear hma
        go_wp2_with fail
        refine (Nd.majority_any _ _ _ _ _ (w1.below hb05 (Nat.le_refl _)) (w3.below hb05 (Nat.le_refl _))).mono ?_
        rintro e u6 ⟨rfl, hb6⟩
        have hb06 := hb05.trans (hb6.mono hb05.size)
        clear hb05 hb6
        cases hmb : Nd.majB z1 z3 with
        | false =>
          go_wp2
          go_ret
          exact ⟨rfl, hb06⟩
        | true =>
          have HR := Lib.hid (Nd.meet HST.out HMA.out hmb)
          clear hmb
          go_wp2_with fail
          refine (Nd.inner_any _ _ _ _ _ (w0.below hb06 (Nat.le_refl _)) (w2.below hb06 (Nat.le_refl _)) b2).mono ?_
          rintro e u7 ⟨v7, rfl, -, hs7, hb7⟩
          have hb07 := hb06.trans (hb7.mono hb06.size)
          clear hb06 hb7
          go_wp2_with fail
          refine (Nd.inner_any _ _ _ _ _ (w1.below hb07 (Nat.le_refl _)) (w3.below hb07 (Nat.le_refl _)) b3).mono ?_
          rintro e u8 ⟨v8, rfl, -, hs8, hb8⟩
          have hb08 := hb07.trans (hb8.mono hb07.size)
          have hs78 := hs7.below hb8 (Nat.le_refl _)
          clear hb07 hb8 hs7
          go_wp2_with fail
          refine (Nd.common_any _ _ _ _ _ hs78 hs8).mono ?_
          rintro e u9 ⟨rfl, rfl⟩
          go_wp2
          go_ret
          exact ⟨ret_bool HR.out, hb08⟩

set_option maxRecDepth 100000 in
theorem contract (H : Type) (enc : TypeId × Value → H) (W : World) (base : Nat) (args : Array Value) (ds gs : List (DataW H)) (before : List MemPlace)
    (hval0 : ∀ (j : Nat) t v, Try.f9.params[j]? = some t → args[j]? = some v → Value.okWide Try.prog W .any base t v)
    (hW : DataW.Whole enc Try.prog Try.f9.params.toList Rows.nodesMeetSpec.vars false W args.toList ds gs before)
    (hsz0 : (DataW.weightsEach Try.prog (Try.f9.params.toList ++ Rows.nodesMeetSpec.plain.varTypes Try.prog) (ds ++ gs)).all (· ≤ reachBytes) = true) :
    Calls Try.prog 9 args W fun e W' => ∃ v, e = .returned v ∧ Rows.nodesMeetSpec.post enc Try.prog Try.f9 false true false false W args v W' := by
  have hval : ∀ (j : Nat) t v, Try.f9.params[j]? = some t → args[j]? = some v → Value.okWide Try.prog W .any base t v := hval0
  have hW' := hW
  obtain ⟨p, q, hA0, hV, rfl, hfz, hnd⟩ := hW
  have hA : DataW.TrodAll enc Try.prog W 0 (fun _ => true) true Try.f9.params.toList args.toList ds p := hA0
  rw [Try.params9] at hA hval
  have hsz := hsz0
  rw [Try.params9] at hsz
  obtain ⟨v0, vs0, d0, ds0, p0, q0, hargs, rfl, rfl, h0, r0⟩ := trodAll_cons hA
  obtain ⟨v1, vs1, d1, ds1, p1, q1, rfl, rfl, rfl, h1, r1⟩ := trodAll_cons r0
  obtain ⟨v2, vs2, d2, ds2, p2, q2, rfl, rfl, rfl, h2, r2⟩ := trodAll_cons r1
  obtain ⟨v3, vs3, d3, ds3, p3, q3, rfl, rfl, rfl, h3, r3⟩ := trodAll_cons r2
  obtain ⟨rfl, rfl, rfl⟩ := trodAll_nil r3
  obtain rfl : args = #[v0, v1, v2, v3] := by cases args; simp_all
  obtain ⟨rfl, rfl⟩ := trodVars_none hV
  clear hA0 hval0
  have k0 := h0
  have lt0 : ∀ x ∈ p0, x.block < W.heap.size := by obtain ⟨m, hm⟩ := k0; exact DataW.trod_lt m _ _ _ hm
  have k1 := h1
  have lt1 : ∀ x ∈ p1, x.block < W.heap.size := by obtain ⟨m, hm⟩ := k1; exact DataW.trod_lt m _ _ _ hm
  have k2 := h2
  have lt2 : ∀ x ∈ p2, x.block < W.heap.size := by obtain ⟨m, hm⟩ := k2; exact DataW.trod_lt m _ _ _ hm
  have k3 := h3
  have lt3 : ∀ x ∈ p3, x.block < W.heap.size := by obtain ⟨m, hm⟩ := k3; exact DataW.trod_lt m _ _ _ hm
  obtain ⟨z0, w0, u00, b00⟩ := open_sl Try.underlying22 Try.underlying3 (by kernel_rfl) (okWide_slice Try.underlying22 (hval 0 22 v0 rfl rfl)).choose_spec.choose_spec.choose_spec k0
  have b0 : z0.length * 8 ≤ 140737488351232 := by
    have := b00 hsz (j := 0) rfl rfl
    rw [show Try.prog.bytesOf 3 = 8 from by kernel_rfl] at this
    simpa [reachBytes] using this
  obtain ⟨z1, w1, u10, b10⟩ := open_sl Try.underlying22 Try.underlying3 (by kernel_rfl) (okWide_slice Try.underlying22 (hval 1 22 v1 rfl rfl)).choose_spec.choose_spec.choose_spec k1
  have b1 : z1.length * 8 ≤ 140737488351232 := by
    have := b10 hsz (j := 1) rfl rfl
    rw [show Try.prog.bytesOf 3 = 8 from by kernel_rfl] at this
    simpa [reachBytes] using this
  obtain ⟨z2, w2, u20, b20⟩ := open_sl Try.underlying22 Try.underlying3 (by kernel_rfl) (okWide_slice Try.underlying22 (hval 2 22 v2 rfl rfl)).choose_spec.choose_spec.choose_spec k2
  have b2 : z2.length * 8 ≤ 140737488351232 := by
    have := b20 hsz (j := 2) rfl rfl
    rw [show Try.prog.bytesOf 3 = 8 from by kernel_rfl] at this
    simpa [reachBytes] using this
  obtain ⟨z3, w3, u30, b30⟩ := open_sl Try.underlying22 Try.underlying3 (by kernel_rfl) (okWide_slice Try.underlying22 (hval 3 22 v3 rfl rfl)).choose_spec.choose_spec.choose_spec k3
  have b3 : z3.length * 8 ≤ 140737488351232 := by
    have := b30 hsz (j := 3) rfl rfl
    rw [show Try.prog.bytesOf 3 = 8 from by kernel_rfl] at this
    simpa [reachBytes] using this
  refine (walk v0 z0 v1 z1 v2 z2 v3 z3 W w0 b0 w1 b1 w2 b2 w3 b3).mono fun e W' ⟨he, bel⟩ => ?_
  subst he
  exact ⟨_, rfl, _, _, _, [], _, [], hW', trodAll_mk1 (shut_bool Try.underlying4 _), (trodAll_cons_mk (Below.trod laidOut (by kernel_rfl) (of_decide_eq_true (by kernel_rfl)) k0 bel lt0) (trodAll_cons_mk (Below.trod laidOut (by kernel_rfl) (of_decide_eq_true (by kernel_rfl)) k1 bel lt1) (trodAll_cons_mk (Below.trod laidOut (by kernel_rfl) (of_decide_eq_true (by kernel_rfl)) k2 bel lt2) (trodAll_cons_mk (Below.trod laidOut (by kernel_rfl) (of_decide_eq_true (by kernel_rfl)) k3 bel lt3) trodAll_mk0)))), rfl, bel.frame _, fun h => by cases h⟩

set_option maxRecDepth 100000 in
theorem lifted (os : Os) (started : os.Started) (H : Type) (enc : TypeId × Value → H) :
    ReturnsInHanded {} Try.checked os 9 .any (Rows.nodesMeetSpec.pre6 enc Try.prog Try.f9 Rows.nodesMeetRow.domain false) (Rows.nodesMeetSpec.post enc Try.prog Try.f9 false true false false) := by
  refine returnsInHanded_of_change_sized (C := Try.checked) own started (by kernel_rfl) Try.func9
    (ChangeSpec.witness6 (enc := enc) (C := Try.checked) false ⟨#[], #[.slice none 0 0, .slice none 0 0, .slice none 0 0, .slice none 0 0], []⟩ 8 (by kernel_rfl) (by kernel_rfl) (by kernel_rfl) (by kernel_rfl)) ?_
  intro W base args ds gs before hval0 hW hcnd hsz _
  exact contract H enc W base args ds gs before hval0 hW hsz

theorem proved : Rows.NodesMeetSaid :=
  OpenClaim.holds_of_wide 9 Try.f9 rfl rfl rfl rfl rfl rfl rfl ⟨rfl, rfl, rfl, rfl, rfl⟩ rfl rfl rfl rfl rfl (by kernel_rfl) Try.func9 (by kernel_rfl)
    (of_decide_eq_true (by kernel_rfl)) (by unfold Func.isWrapper; first | (rw [if_pos (by decide +kernel)]; kernel_rfl) | (rw [if_neg (by decide +kernel)]; exact ⟨rfl, rfl⟩))
    (fun os started H enc _ => lifted os started H enc)
end Go.Proofs.Ytlbadhkdkbghbaa.nodesMeet
