/- The law DriftShorter returns true for every rho and every lease: Short is no more than the lease, with no drift the lease, with more drift no more. No condition. -/
import Derived.Test.YtkbmofbpfinahabRows
import Derived.WalkKit
import Derived.ProofKit
import Derived.OpenShut
import Derived.ShutString
import Derived.Test.YtkbmofbpfinahabDriftA
namespace Go.Proofs.Ytkbmofbpfinahab.driftShorter
open Go.ChangeShapes Go.WideShapes Go.ChangeAt Go.RowKit
open Go.ChangeMaps (open_string shut_string)
set_option linter.unusedVariables false      -- a walk need not use every 'w<i>' (that an integer argument fits its kind)

theorem own : ownKnob Try.prog.godebug = none := by kernel_rfl

theorem short_ex (w : World) : Calls Try.prog 22 #[] w fun e w' => e = .returned (.bool true) ∧ w = w' := by
  have hk : (Dr.sh 100 1000 == 818) = true := by decide
  go_enter Try.func22, Try.ntmps22
  go_wp2_with fail
  refine (Dr.short_yes _ _ _ (by decide)).mono ?_
  rintro e w' ⟨rfl, rfl⟩
  go_wp2
  go_ret
  exact ⟨rfl, rfl⟩

theorem sh_zero (l : Int) : Dr.sh 0 l = l := by unfold Dr.sh; omega
theorem sh_le {r l : Int} (h0 : 0 ≤ r) (h1 : r ≤ 500) (h2 : 1 ≤ l) (h3 : l ≤ 1073741824) : 0 ≤ Dr.sh r l ∧ Dr.sh r l ≤ l := by
  unfold Dr.sh
  constructor
  · exact Int.ediv_nonneg (Int.mul_nonneg (by omega) (by omega)) (by omega)
  · apply Int.ediv_le_of_le_mul (by omega)
    exact Int.mul_le_mul_of_nonneg_left (by omega) (by omega)
theorem sh_mono {r l : Int} (h0 : 0 ≤ r) (h1 : r ≤ 500) (h2 : 1 ≤ l) (h3 : l ≤ 1073741824) : Dr.sh (r + 1) l ≤ Dr.sh r l := by
  unfold Dr.sh
  apply (Int.le_ediv_iff_mul_le (by omega)).2
  have h4 := Int.ediv_mul_le (l * (1000 - (r + 1))) (show (1000 + (r + 1)) ≠ 0 by omega)
  have h5 : 0 ≤ l * (1000 - (r + 1)) / (1000 + (r + 1)) := Int.ediv_nonneg (Int.mul_nonneg (by omega) (by omega)) (by omega)
  have h6 : l * (1000 - (r + 1)) / (1000 + (r + 1)) * (1000 + r) ≤ l * (1000 - (r + 1)) / (1000 + (r + 1)) * (1000 + (r + 1)) := Int.mul_le_mul_of_nonneg_left (by omega) h5
  have h7 : l * (1000 - (r + 1)) ≤ l * (1000 - r) := Int.mul_le_mul_of_nonneg_left (by omega) (by omega)
  omega

set_option maxHeartbeats 400000 in
theorem walk (a0 : Int) (a1 : Int) (w0 : (Lit.int .i64 a0).wf = true) (w1 : (Lit.int .i64 a1).wf = true) (w : World) :
    Calls Try.prog 11 #[.int .i64 a0, .int .i64 a1] w fun e w' => e = .returned (.bool true) ∧ Grown w w' := by
  by_cases hr : 0 ≤ a0 ∧ a0 ≤ 500
  · by_cases hl : 1 ≤ a1 ∧ a1 ≤ 1073741824
    · obtain ⟨r0, r1⟩ := hr
      obtain ⟨l0, l1⟩ := hl
      obtain ⟨s0, s1⟩ := sh_le r0 r1 l0 l1
      have z := Lib.hid (sh_zero a1)
      have hz : (Dr.sh 0 a1 == a1) = true := by rw [z.out]; simp
      by_cases h5 : a0 = 500
      · have h6 : ¬ (0 ≤ a0 + 1 ∧ a0 + 1 ≤ 500 ∧ 1 ≤ a1 ∧ a1 ≤ 1073741824) := by omega
        have H6 := Lib.hid h6
        clear h6
        have H5 : 500 ≤ a0 := by omega
        clear h5
        go_enter Try.func11, Try.ntmps11
        go_wp2_with fail
        refine (Dr.short_yes _ _ _ (by omega)).mono ?_
        rintro e w' ⟨rfl, rfl⟩
        go_wp2_with fail
        refine (Dr.short_no _ _ _ (H6.out)).mono ?_
        rintro e w' ⟨rfl, rfl⟩
        go_wp2_with fail
        refine (Dr.short_yes _ _ _ (by omega)).mono ?_
        rintro e w' ⟨rfl, rfl⟩
        go_wp2_with fail
        refine (short_ex _).mono ?_
        rintro e w' ⟨rfl, rfl⟩
        go_wp2
        go_ret
        exact ⟨rfl, Grown.refl _⟩
      · have h7 : Dr.sh (a0 + 1) a1 ≤ Dr.sh a0 a1 := sh_mono r0 r1 l0 l1
        have h6 : a0 + 1 ≤ 500 := by omega
        go_enter Try.func11, Try.ntmps11
        go_wp2_with fail
        refine (Dr.short_yes _ _ _ (by omega)).mono ?_
        rintro e w' ⟨rfl, rfl⟩
        go_wp2_with fail
        refine (Dr.short_yes _ _ _ (by omega)).mono ?_
        rintro e w' ⟨rfl, rfl⟩
        go_wp2_with fail
        refine (Dr.short_yes _ _ _ (by omega)).mono ?_
        rintro e w' ⟨rfl, rfl⟩
        go_wp2_with fail
        refine (short_ex _).mono ?_
        rintro e w' ⟨rfl, rfl⟩
        go_wp2
        go_ret
        exact ⟨rfl, Grown.refl _⟩
    · have hl := Lib.hid hl
      obtain ⟨r0, r1⟩ := hr
      go_enter Try.func11, Try.ntmps11
      go_wp2_with fail
      refine (Dr.short_no _ _ _ (by have := hl.out; omega)).mono ?_
      rintro e w' ⟨rfl, rfl⟩
      go_wp2_with fail
      refine (Dr.short_no _ _ _ (by have := hl.out; omega)).mono ?_
      rintro e w' ⟨rfl, rfl⟩
      go_wp2_with fail
      refine (Dr.short_no _ _ _ (by have := hl.out; omega)).mono ?_
      rintro e w' ⟨rfl, rfl⟩
      go_wp2_with fail
      refine (short_ex _).mono ?_
      rintro e w' ⟨rfl, rfl⟩
      go_wp2
      go_ret
      exact ⟨rfl, Grown.refl _⟩
  · by_cases hn : a0 < 0
    · clear hr
      go_enter Try.func11, Try.ntmps11
      go_wp2_with fail
      refine (Dr.short_no _ _ _ (by omega)).mono ?_
      rintro e w' ⟨rfl, rfl⟩
      go_wp2_with fail
      refine (short_ex _).mono ?_
      rintro e w' ⟨rfl, rfl⟩
      go_wp2
      go_ret
      exact ⟨rfl, Grown.refl _⟩
    · have hp : 500 < a0 := by omega
      clear hr hn
      go_enter Try.func11, Try.ntmps11
      go_wp2_with fail
      refine (Dr.short_no _ _ _ (by omega)).mono ?_
      rintro e w' ⟨rfl, rfl⟩
      go_wp2_with fail
      refine (short_ex _).mono ?_
      rintro e w' ⟨rfl, rfl⟩
      go_wp2
      go_ret
      exact ⟨rfl, Grown.refl _⟩

/-! ### THE ROW's STEP: WRITTEN OUT: LEAVE IT -/
set_option maxRecDepth 100000 in
theorem lifted (os : Os) (started : os.Started) (H : Type) (enc : TypeId × Value → H) :
    ReturnsInHanded {} Try.checked os 11 .any (Rows.driftShorterSpec.pre6 enc Try.prog Try.f11 Rows.driftShorterRow.domain false) (Rows.driftShorterSpec.post enc Try.prog Try.f11 false true false false) := by
  refine returnsInHanded_of_change (C := Try.checked) own started (by kernel_rfl) Try.func11
    (ChangeSpec.witness6 (enc := enc) (C := Try.checked) false ⟨#[], #[.int .i64 0, .int .i64 0], []⟩ 8 (by kernel_rfl) (by kernel_rfl) (by kernel_rfl) (by kernel_rfl)) ?_
  intro W base args ds gs before hval0 hW hcnd _
  have hval : ∀ (j : Nat) t v, Try.f11.params[j]? = some t → args[j]? = some v → Value.okWide Try.prog W .any base t v := hval0
  have hW' := hW
  obtain ⟨p, q, hA0, hV, rfl, hfz, hnd⟩ := hW
  have hA : DataW.TrodAll enc Try.prog W 0 (fun _ => true) true Try.f11.params.toList args.toList ds p := hA0
  rw [Try.params11] at hA hval
  obtain ⟨v0, vs0, d0, ds0, p0, q0, hargs, rfl, rfl, h0, r0⟩ := trodAll_cons hA
  obtain ⟨v1, vs1, d1, ds1, p1, q1, rfl, rfl, rfl, h1, r1⟩ := trodAll_cons r0
  obtain ⟨rfl, rfl, rfl⟩ := trodAll_nil r1
  obtain rfl : args = #[v0, v1] := by cases args; simp_all
  obtain ⟨rfl, rfl⟩ := trodVars_none hV
  obtain ⟨a0, rfl, rfl, rfl, w0⟩ := open_int Try.underlying3 (hval 0 3 v0 rfl rfl) h0
  obtain ⟨a1, rfl, rfl, rfl, w1⟩ := open_int Try.underlying2 (hval 1 2 v1 rfl rfl) h1
  clear hA0 hval0
  simp only [List.append_nil] at hW'
  refine (walk a0 a1 w0 w1 W).mono fun e W' ⟨he, hg⟩ => ?_
  subst he
  exact ⟨_, rfl, post_of_same (pa := []) (pv := []) hW' (fun _ _ _ => (trodAll_cons_mk (shut_bool Try.underlying4 _) trodAll_mk0)) (fun sp _ => (trodAll_cons_mk (shut_int Try.underlying3 w0) (trodAll_cons_mk (shut_int Try.underlying2 w1) trodAll_mk0))) (fun _ _ => rfl) rfl
    (hg.frame _) hg.2.1 (ok_one (by kernel_rfl) rfl (okWide_bool_mk Try.underlying4 _))⟩

theorem over : Rows.driftShorterRow.holds Try.pinned (OpenSpec.ofChange Rows.driftShorterSpec) :=
  OpenClaim.holds_of_wide 11 Try.f11 rfl rfl rfl rfl rfl rfl rfl ⟨rfl, rfl, rfl, rfl, rfl⟩ rfl rfl rfl rfl rfl (by kernel_rfl) Try.func11 (by kernel_rfl)
    (of_decide_eq_true (by kernel_rfl)) (by unfold Func.isWrapper; first | (rw [if_pos (by decide +kernel)]; kernel_rfl) | (rw [if_neg (by decide +kernel)]; exact ⟨rfl, rfl⟩))
    (fun os started H enc _ => lifted os started H enc)

/-- ████ THE STATEMENT ████ -/
theorem proved : Rows.DriftShorterSaid :=
  over
end Go.Proofs.Ytkbmofbpfinahab.driftShorter
