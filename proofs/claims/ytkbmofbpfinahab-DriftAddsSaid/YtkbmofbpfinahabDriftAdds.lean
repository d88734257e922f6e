/- The law DriftAdds returns true for every rho and every four numbers: what may go by at two goes may go by at one. No condition. -/
import Derived.Test.YtkbmofbpfinahabRows
import Derived.WalkKit
import Derived.ProofKit
import Derived.OpenShut
import Derived.ShutString
import Derived.Test.YtkbmofbpfinahabDriftA
namespace Go.Proofs.Ytkbmofbpfinahab.driftAdds
open Go.ChangeShapes Go.WideShapes Go.ChangeAt Go.RowKit
open Go.ChangeMaps (open_string shut_string)
set_option linter.unusedVariables false      -- a walk need not use every 'w<i>' (that an integer argument fits its kind)

theorem own : ownKnob Try.prog.godebug = none := by kernel_rfl

theorem live_ex (w : World) : Calls Try.prog 23 #[] w fun e w' => e = .returned (.bool true) ∧ w = w' := by
  have h1 : Dr.mayB 100 10 9 = true := by decide
  have h2 : Dr.mayB 100 10 8 = false := by decide
  go_enter Try.func23, Try.ntmps23
  go_wp2_with fail
  refine (Dr.may_any _ _ _ _).mono ?_
  rintro e w' ⟨rfl, rfl⟩
  rw [h1]
  go_wp2_with fail
  refine (Dr.may_any _ _ _ _).mono ?_
  rintro e w' ⟨rfl, rfl⟩
  rw [h2]
  go_wp2
  go_ret
  exact ⟨rfl, rfl⟩

theorem may_of {r t c : Int} (h : Dr.mayB r t c = true) : 0 ≤ t ∧ t ≤ 1099511627776 ∧ 0 ≤ c ∧ c ≤ 1099511627776 := by
  have := of_decide_eq_true h
  exact ⟨this.2.2.1, this.2.2.2.1, this.2.2.2.2.1, this.2.2.2.2.2.1⟩
theorem may_add {r t c s d : Int} (h : Dr.mayB r t c = true) (g : Dr.mayB r s d = true) (h1 : t + s ≤ 1099511627776) (h2 : c + d ≤ 1099511627776) : Dr.mayB r (t + s) (c + d) = true := by
  obtain ⟨a0, a1, a2, a3, a4, a5, a6, a7⟩ := of_decide_eq_true h
  obtain ⟨_, _, b2, b3, b4, b5, b6, b7⟩ := of_decide_eq_true g
  apply decide_eq_true
  have m1 := Int.mul_add (1000 - r) t s
  have m2 := Int.mul_add (1000 + r) t s
  omega

set_option maxHeartbeats 400000 in
theorem walk (a0 : Int) (a1 : Int) (a2 : Int) (a3 : Int) (a4 : Int) (w0 : (Lit.int .i64 a0).wf = true) (w1 : (Lit.int .i64 a1).wf = true) (w2 : (Lit.int .i64 a2).wf = true) (w3 : (Lit.int .i64 a3).wf = true) (w4 : (Lit.int .i64 a4).wf = true) (w : World) :
    Calls Try.prog 9 #[.int .i64 a0, .int .i64 a1, .int .i64 a2, .int .i64 a3, .int .i64 a4] w fun e w' => e = .returned (.bool true) ∧ Grown w w' := by
  cases e1' : Dr.mayB a0 a1 a2
  · have e1 := Lib.hid e1'
    clear e1'
    · skip
      go_enter Try.func9, Try.ntmps9
      go_wp2_with fail
      refine (Dr.may_any _ _ _ _).mono ?_
      rintro e w' ⟨rfl, rfl⟩
      rw [e1.out]
      go_wp2_with fail
      refine (live_ex _).mono ?_
      rintro e w' ⟨rfl, rfl⟩
      go_wp2
      go_ret
      exact ⟨rfl, Grown.refl _⟩
  · have e1 := Lib.hid e1'
    cases e2' : Dr.mayB a0 a3 a4
    · have e2 := Lib.hid e2'
      clear e1' e2'
      go_enter Try.func9, Try.ntmps9
      go_wp2_with fail
      refine (Dr.may_any _ _ _ _).mono ?_
      rintro e w' ⟨rfl, rfl⟩
      rw [e1.out]
      go_wp2_with fail
      refine (Dr.may_any _ _ _ _).mono ?_
      rintro e w' ⟨rfl, rfl⟩
      rw [e2.out]
      go_wp2_with fail
      refine (live_ex _).mono ?_
      rintro e w' ⟨rfl, rfl⟩
      go_wp2
      go_ret
      exact ⟨rfl, Grown.refl _⟩
    · have e2 := Lib.hid e2'
      have p1 := may_of e1'
      have p2 := may_of e2'
      have p3 := Lib.hid (may_add e1' e2')
      obtain ⟨b0, b1, b2, b3⟩ := p1
      obtain ⟨d0, d1, d2, d3⟩ := p2
      clear e1' e2'
      by_cases c1 : 1099511627776 < a1 + a3
      · skip
        go_enter Try.func9, Try.ntmps9
        go_wp2_with fail
        refine (Dr.may_any _ _ _ _).mono ?_
        rintro e w' ⟨rfl, rfl⟩
        rw [e1.out]
        go_wp2_with fail
        refine (Dr.may_any _ _ _ _).mono ?_
        rintro e w' ⟨rfl, rfl⟩
        rw [e2.out]
        go_wp2_with fail
        refine (live_ex _).mono ?_
        rintro e w' ⟨rfl, rfl⟩
        go_wp2
        go_ret
        exact ⟨rfl, Grown.refl _⟩
      by_cases c2 : 1099511627776 < a2 + a4
      · skip
        go_enter Try.func9, Try.ntmps9
        go_wp2_with fail
        refine (Dr.may_any _ _ _ _).mono ?_
        rintro e w' ⟨rfl, rfl⟩
        rw [e1.out]
        go_wp2_with fail
        refine (Dr.may_any _ _ _ _).mono ?_
        rintro e w' ⟨rfl, rfl⟩
        rw [e2.out]
        go_wp2_with fail
        refine (live_ex _).mono ?_
        rintro e w' ⟨rfl, rfl⟩
        go_wp2
        go_ret
        exact ⟨rfl, Grown.refl _⟩
      have e3 := Lib.hid (p3.out (by omega) (by omega))
      clear p3
      go_enter Try.func9, Try.ntmps9
      go_wp2_with fail
      refine (Dr.may_any _ _ _ _).mono ?_
      rintro e w' ⟨rfl, rfl⟩
      rw [e1.out]
      go_wp2_with fail
      refine (Dr.may_any _ _ _ _).mono ?_
      rintro e w' ⟨rfl, rfl⟩
      rw [e2.out]
      go_wp2_with fail
      refine (live_ex _).mono ?_
      rintro e w' ⟨rfl, rfl⟩
      go_wp2_with fail
      refine (Dr.may_any _ _ _ _).mono ?_
      rintro e w' ⟨rfl, rfl⟩
      rw [e3.out]
      go_wp2
      go_ret
      exact ⟨rfl, Grown.refl _⟩

/-! ### THE ROW's STEP: WRITTEN OUT: LEAVE IT -/
set_option maxRecDepth 100000 in
theorem lifted (os : Os) (started : os.Started) (H : Type) (enc : TypeId × Value → H) :
    ReturnsInHanded {} Try.checked os 9 .any (Rows.driftAddsSpec.pre6 enc Try.prog Try.f9 Rows.driftAddsRow.domain false) (Rows.driftAddsSpec.post enc Try.prog Try.f9 false true false false) := by
  refine returnsInHanded_of_change (C := Try.checked) own started (by kernel_rfl) Try.func9
    (ChangeSpec.witness6 (enc := enc) (C := Try.checked) false ⟨#[], #[.int .i64 0, .int .i64 0, .int .i64 0, .int .i64 0, .int .i64 0], []⟩ 8 (by kernel_rfl) (by kernel_rfl) (by kernel_rfl) (by kernel_rfl)) ?_
  intro W base args ds gs before hval0 hW hcnd _
  have hval : ∀ (j : Nat) t v, Try.f9.params[j]? = some t → args[j]? = some v → Value.okWide Try.prog W .any base t v := hval0
  have hW' := hW
  obtain ⟨p, q, hA0, hV, rfl, hfz, hnd⟩ := hW
  have hA : DataW.TrodAll enc Try.prog W 0 (fun _ => true) true Try.f9.params.toList args.toList ds p := hA0
  rw [Try.params9] at hA hval
  obtain ⟨v0, vs0, d0, ds0, p0, q0, hargs, rfl, rfl, h0, r0⟩ := trodAll_cons hA
  obtain ⟨v1, vs1, d1, ds1, p1, q1, rfl, rfl, rfl, h1, r1⟩ := trodAll_cons r0
  obtain ⟨v2, vs2, d2, ds2, p2, q2, rfl, rfl, rfl, h2, r2⟩ := trodAll_cons r1
  obtain ⟨v3, vs3, d3, ds3, p3, q3, rfl, rfl, rfl, h3, r3⟩ := trodAll_cons r2
  obtain ⟨v4, vs4, d4, ds4, p4, q4, rfl, rfl, rfl, h4, r4⟩ := trodAll_cons r3
  obtain ⟨rfl, rfl, rfl⟩ := trodAll_nil r4
  obtain rfl : args = #[v0, v1, v2, v3, v4] := by cases args; simp_all
  obtain ⟨rfl, rfl⟩ := trodVars_none hV
  obtain ⟨a0, rfl, rfl, rfl, w0⟩ := open_int Try.underlying3 (hval 0 3 v0 rfl rfl) h0
  obtain ⟨a1, rfl, rfl, rfl, w1⟩ := open_int Try.underlying2 (hval 1 2 v1 rfl rfl) h1
  obtain ⟨a2, rfl, rfl, rfl, w2⟩ := open_int Try.underlying2 (hval 2 2 v2 rfl rfl) h2
  obtain ⟨a3, rfl, rfl, rfl, w3⟩ := open_int Try.underlying2 (hval 3 2 v3 rfl rfl) h3
  obtain ⟨a4, rfl, rfl, rfl, w4⟩ := open_int Try.underlying2 (hval 4 2 v4 rfl rfl) h4
  clear hA0 hval0
  simp only [List.append_nil] at hW'
  refine (walk a0 a1 a2 a3 a4 w0 w1 w2 w3 w4 W).mono fun e W' ⟨he, hg⟩ => ?_
  subst he
  exact ⟨_, rfl, post_of_same (pa := []) (pv := []) hW' (fun _ _ _ => (trodAll_cons_mk (shut_bool Try.underlying4 _) trodAll_mk0)) (fun sp _ => (trodAll_cons_mk (shut_int Try.underlying3 w0) (trodAll_cons_mk (shut_int Try.underlying2 w1) (trodAll_cons_mk (shut_int Try.underlying2 w2) (trodAll_cons_mk (shut_int Try.underlying2 w3) (trodAll_cons_mk (shut_int Try.underlying2 w4) trodAll_mk0)))))) (fun _ _ => rfl) rfl
    (hg.frame _) hg.2.1 (ok_one (by kernel_rfl) rfl (okWide_bool_mk Try.underlying4 _))⟩

theorem over : Rows.driftAddsRow.holds Try.pinned (OpenSpec.ofChange Rows.driftAddsSpec) :=
  OpenClaim.holds_of_wide 9 Try.f9 rfl rfl rfl rfl rfl rfl rfl ⟨rfl, rfl, rfl, rfl, rfl⟩ rfl rfl rfl rfl rfl (by kernel_rfl) Try.func9 (by kernel_rfl)
    (of_decide_eq_true (by kernel_rfl)) (by unfold Func.isWrapper; first | (rw [if_pos (by decide +kernel)]; kernel_rfl) | (rw [if_neg (by decide +kernel)]; exact ⟨rfl, rfl⟩))
    (fun os started H enc _ => lifted os started H enc)

/-- ████ THE STATEMENT ████ -/
theorem proved : Rows.DriftAddsSaid :=
  over
end Go.Proofs.Ytkbmofbpfinahab.driftAdds
