/- The law DriftEnds returns true for every rho and every number: Least and Most of a span may be, and nothing beyond them. No condition. -/
import Derived.Test.YtkbmofbpfinahabRows
import Derived.WalkKit
import Derived.ProofKit
import Derived.OpenShut
import Derived.ShutString
import Derived.Test.YtkbmofbpfinahabDriftA
namespace Go.Proofs.Ytkbmofbpfinahab.driftEnds
open Go.ChangeShapes Go.WideShapes Go.ChangeAt Go.RowKit
open Go.ChangeMaps (open_string shut_string)
set_option linter.unusedVariables false      -- a walk need not use every 'w<i>' (that an integer argument fits its kind)

theorem own : ownKnob Try.prog.godebug = none := by kernel_rfl

theorem live_ex (w : World) : Calls Try.prog 23 #[] w fun e w' => e = .returned (.bool true) ∧ w = w' := by
  have h1 : Dr.mayB 100 10 9 = true := by decide
  have h2 : Dr.mayB 100 10 8 = false := by decide
  go_enter Try.func23, Try.ntmps23
  go_wp2_with fail
  refine (Dr.may_any _ _ _ _).mono ?_
  rintro e w' ⟨rfl, rfl⟩
  rw [h1]
  go_wp2_with fail
  refine (Dr.may_any _ _ _ _).mono ?_
  rintro e w' ⟨rfl, rfl⟩
  rw [h2]
  go_wp2
  go_ret
  exact ⟨rfl, rfl⟩

theorem lo_bd {r t : Int} (h : 0 ≤ r ∧ r ≤ 500 ∧ 0 ≤ t ∧ t ≤ 1099511627776) : 0 ≤ Dr.lo r t ∧ Dr.lo r t ≤ 1099511627776 := by
  obtain ⟨a0, a1, a2, a3⟩ := h
  obtain ⟨m0, m1⟩ := Dr.slow_mul a0 a1 a2 a3
  unfold Dr.lo; omega
theorem hi_bd {r t : Int} (h : 0 ≤ r ∧ r ≤ 500 ∧ 0 ≤ t ∧ t ≤ 1099511627776) : 0 ≤ Dr.hi r t ∧ Dr.hi r t ≤ 1649267441664 := by
  obtain ⟨a0, a1, a2, a3⟩ := h
  obtain ⟨m0, m1⟩ := Dr.fast_mul a0 a1 a2 a3
  unfold Dr.hi; omega
theorem may_lo {r t : Int} (h : 0 ≤ r ∧ r ≤ 500 ∧ 0 ≤ t ∧ t ≤ 1099511627776) : Dr.mayB r t (Dr.lo r t - 1) = false := by
  obtain ⟨a0, a1, a2, a3⟩ := h
  obtain ⟨m0, m1⟩ := Dr.slow_mul a0 a1 a2 a3
  apply decide_eq_false
  unfold Dr.lo; omega
theorem may_hi {r t : Int} (h : 0 ≤ r ∧ r ≤ 500 ∧ 0 ≤ t ∧ t ≤ 1099511627776) : Dr.mayB r t (Dr.hi r t + 1) = false := by
  obtain ⟨a0, a1, a2, a3⟩ := h
  obtain ⟨m0, m1⟩ := Dr.fast_mul a0 a1 a2 a3
  apply decide_eq_false
  unfold Dr.hi; omega
theorem may_mid {r t c : Int} (h : 0 ≤ r ∧ r ≤ 500 ∧ 0 ≤ t ∧ t ≤ 1099511627776) (h0 : Dr.hi r t ≤ 1099511627776) (h1 : Dr.lo r t ≤ c) (h2 : c ≤ Dr.hi r t) : Dr.mayB r t c = true := by
  obtain ⟨a0, a1, a2, a3⟩ := h
  obtain ⟨m0, m1⟩ := Dr.slow_mul a0 a1 a2 a3
  obtain ⟨n0, n1⟩ := Dr.fast_mul a0 a1 a2 a3
  apply decide_eq_true
  unfold Dr.lo at h1; unfold Dr.hi at h2 h0; omega

set_option maxHeartbeats 400000 in
theorem walk (a0 : Int) (a1 : Int) (w0 : (Lit.int .i64 a0).wf = true) (w1 : (Lit.int .i64 a1).wf = true) (w : World) :
    Calls Try.prog 8 #[.int .i64 a0, .int .i64 a1] w fun e w' => e = .returned (.bool true) ∧ Grown w w' := by
  by_cases h' : 0 ≤ a0 ∧ a0 ≤ 500 ∧ 0 ≤ a1 ∧ a1 ≤ 1099511627776
  · have h := Lib.hid h'
    clear h'
    obtain ⟨l0, l1⟩ := lo_bd h.out
    obtain ⟨u0, u1⟩ := hi_bd h.out
    have e1 := Lib.hid (may_lo h.out)
    have e2 := Lib.hid (may_hi h.out)
    by_cases c1 : 1099511627776 < Dr.hi a0 a1
    · skip
      go_enter Try.func8, Try.ntmps8
      go_wp2_with fail
      refine (Dr.least_yes _ _ _ h.out).mono ?_
      rintro e w' ⟨rfl, rfl⟩
      go_wp2_with fail
      refine (Dr.most_yes _ _ _ h.out).mono ?_
      rintro e w' ⟨rfl, rfl⟩
      go_wp2_with fail
      refine (live_ex _).mono ?_
      rintro e w' ⟨rfl, rfl⟩
      go_wp2_with fail
      refine (Dr.may_any _ _ _ _).mono ?_
      rintro e w' ⟨rfl, rfl⟩
      rw [e1.out]
      go_wp2_with fail
      refine (Dr.may_any _ _ _ _).mono ?_
      rintro e w' ⟨rfl, rfl⟩
      rw [e2.out]
      go_wp2
      go_ret
      exact ⟨rfl, Grown.refl _⟩
    by_cases c2 : Dr.hi a0 a1 < Dr.lo a0 a1
    · skip
      go_enter Try.func8, Try.ntmps8
      go_wp2_with fail
      refine (Dr.least_yes _ _ _ h.out).mono ?_
      rintro e w' ⟨rfl, rfl⟩
      go_wp2_with fail
      refine (Dr.most_yes _ _ _ h.out).mono ?_
      rintro e w' ⟨rfl, rfl⟩
      go_wp2_with fail
      refine (live_ex _).mono ?_
      rintro e w' ⟨rfl, rfl⟩
      go_wp2_with fail
      refine (Dr.may_any _ _ _ _).mono ?_
      rintro e w' ⟨rfl, rfl⟩
      rw [e1.out]
      go_wp2_with fail
      refine (Dr.may_any _ _ _ _).mono ?_
      rintro e w' ⟨rfl, rfl⟩
      rw [e2.out]
      go_wp2
      go_ret
      exact ⟨rfl, Grown.refl _⟩
    · have e3 := Lib.hid (may_mid h.out (by omega) (Int.le_refl _) (by omega))
      have e4 := Lib.hid (may_mid h.out (by omega) (c := Dr.hi a0 a1) (by omega) (Int.le_refl _))
      go_enter Try.func8, Try.ntmps8
      go_wp2_with fail
      refine (Dr.least_yes _ _ _ h.out).mono ?_
      rintro e w' ⟨rfl, rfl⟩
      go_wp2_with fail
      refine (Dr.most_yes _ _ _ h.out).mono ?_
      rintro e w' ⟨rfl, rfl⟩
      go_wp2_with fail
      refine (live_ex _).mono ?_
      rintro e w' ⟨rfl, rfl⟩
      go_wp2_with fail
      refine (Dr.may_any _ _ _ _).mono ?_
      rintro e w' ⟨rfl, rfl⟩
      rw [e3.out]
      go_wp2_with fail
      refine (Dr.may_any _ _ _ _).mono ?_
      rintro e w' ⟨rfl, rfl⟩
      rw [e4.out]
      go_wp2_with fail
      refine (Dr.may_any _ _ _ _).mono ?_
      rintro e w' ⟨rfl, rfl⟩
      rw [e1.out]
      go_wp2_with fail
      refine (Dr.may_any _ _ _ _).mono ?_
      rintro e w' ⟨rfl, rfl⟩
      rw [e2.out]
      go_wp2
      go_ret
      exact ⟨rfl, Grown.refl _⟩
  · have h := Lib.hid h'
    clear h'
    have hm := Lib.hid (Dr.mayB_no1 (c := 0) h.out)
    go_enter Try.func8, Try.ntmps8
    go_wp2_with fail
    refine (Dr.least_no _ _ _ h.out).mono ?_
    rintro e w' ⟨rfl, rfl⟩
    go_wp2_with fail
    refine (Dr.most_no _ _ _ h.out).mono ?_
    rintro e w' ⟨rfl, rfl⟩
    go_wp2_with fail
    refine (live_ex _).mono ?_
    rintro e w' ⟨rfl, rfl⟩
    go_wp2_with fail
    refine (Dr.may_any _ _ _ _).mono ?_
    rintro e w' ⟨rfl, rfl⟩
    rw [hm.out]
    go_wp2
    go_ret
    exact ⟨rfl, Grown.refl _⟩

/-! ### THE ROW's STEP: WRITTEN OUT: LEAVE IT -/
set_option maxRecDepth 100000 in
theorem lifted (os : Os) (started : os.Started) (H : Type) (enc : TypeId × Value → H) :
    ReturnsInHanded {} Try.checked os 8 .any (Rows.driftEndsSpec.pre6 enc Try.prog Try.f8 Rows.driftEndsRow.domain false) (Rows.driftEndsSpec.post enc Try.prog Try.f8 false true false false) := by
  refine returnsInHanded_of_change (C := Try.checked) own started (by kernel_rfl) Try.func8
    (ChangeSpec.witness6 (enc := enc) (C := Try.checked) false ⟨#[], #[.int .i64 0, .int .i64 0], []⟩ 8 (by kernel_rfl) (by kernel_rfl) (by kernel_rfl) (by kernel_rfl)) ?_
  intro W base args ds gs before hval0 hW hcnd _
  have hval : ∀ (j : Nat) t v, Try.f8.params[j]? = some t → args[j]? = some v → Value.okWide Try.prog W .any base t v := hval0
  have hW' := hW
  obtain ⟨p, q, hA0, hV, rfl, hfz, hnd⟩ := hW
  have hA : DataW.TrodAll enc Try.prog W 0 (fun _ => true) true Try.f8.params.toList args.toList ds p := hA0
  rw [Try.params8] at hA hval
  obtain ⟨v0, vs0, d0, ds0, p0, q0, hargs, rfl, rfl, h0, r0⟩ := trodAll_cons hA
  obtain ⟨v1, vs1, d1, ds1, p1, q1, rfl, rfl, rfl, h1, r1⟩ := trodAll_cons r0
  obtain ⟨rfl, rfl, rfl⟩ := trodAll_nil r1
  obtain rfl : args = #[v0, v1] := by cases args; simp_all
  obtain ⟨rfl, rfl⟩ := trodVars_none hV
  obtain ⟨a0, rfl, rfl, rfl, w0⟩ := open_int Try.underlying3 (hval 0 3 v0 rfl rfl) h0
  obtain ⟨a1, rfl, rfl, rfl, w1⟩ := open_int Try.underlying2 (hval 1 2 v1 rfl rfl) h1
  clear hA0 hval0
  simp only [List.append_nil] at hW'
  refine (walk a0 a1 w0 w1 W).mono fun e W' ⟨he, hg⟩ => ?_
  subst he
  exact ⟨_, rfl, post_of_same (pa := []) (pv := []) hW' (fun _ _ _ => (trodAll_cons_mk (shut_bool Try.underlying4 _) trodAll_mk0)) (fun sp _ => (trodAll_cons_mk (shut_int Try.underlying3 w0) (trodAll_cons_mk (shut_int Try.underlying2 w1) trodAll_mk0))) (fun _ _ => rfl) rfl
    (hg.frame _) hg.2.1 (ok_one (by kernel_rfl) rfl (okWide_bool_mk Try.underlying4 _))⟩

theorem over : Rows.driftEndsRow.holds Try.pinned (OpenSpec.ofChange Rows.driftEndsSpec) :=
  OpenClaim.holds_of_wide 8 Try.f8 rfl rfl rfl rfl rfl rfl rfl ⟨rfl, rfl, rfl, rfl, rfl⟩ rfl rfl rfl rfl rfl (by kernel_rfl) Try.func8 (by kernel_rfl)
    (of_decide_eq_true (by kernel_rfl)) (by unfold Func.isWrapper; first | (rw [if_pos (by decide +kernel)]; kernel_rfl) | (rw [if_neg (by decide +kernel)]; exact ⟨rfl, rfl⟩))
    (fun os started H enc _ => lifted os started H enc)

/-- ████ THE STATEMENT ████ -/
theorem proved : Rows.DriftEndsSaid :=
  over
end Go.Proofs.Ytkbmofbpfinahab.driftEnds
