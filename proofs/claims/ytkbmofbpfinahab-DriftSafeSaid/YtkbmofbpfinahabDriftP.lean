/- What drift.May and the functions under it hand back, as plain functions of integers. No condition. -/
import Derived.Test.YtkbmofbpfinahabRows
import Derived.WalkKit
import Derived.ProofKit
import Derived.OpenShut
import Derived.Outline
import Derived.Lib.Hide
namespace Go.Proofs.Ytkbmofbpfinahab
open Go.ChangeShapes Go.WideShapes Go.ChangeAt Go.RowKit
namespace Dr
set_option linter.unusedVariables false

def goodB (r : Int) : Bool := decide (0 ≤ r ∧ r ≤ 500)
def spanB (t : Int) : Bool := decide (0 ≤ t ∧ t ≤ 1099511627776)
def fitsB (r t : Int) : Bool := decide (0 ≤ r ∧ r ≤ 500 ∧ 0 ≤ t ∧ t ≤ 1099511627776)

theorem fits_yes {r t : Int} (h : 0 ≤ r ∧ r ≤ 500 ∧ 0 ≤ t ∧ t ≤ 1099511627776) : fitsB r t = true := decide_eq_true h
theorem fits_no {r t : Int} (h : ¬ (0 ≤ r ∧ r ≤ 500 ∧ 0 ≤ t ∧ t ≤ 1099511627776)) : fitsB r t = false := decide_eq_false h
theorem of_fits {r t : Int} (h : fitsB r t = true) : 0 ≤ r ∧ r ≤ 500 ∧ 0 ≤ t ∧ t ≤ 1099511627776 := of_decide_eq_true h
theorem of_not {r t : Int} (h : fitsB r t = false) : ¬ (0 ≤ r ∧ r ≤ 500 ∧ 0 ≤ t ∧ t ≤ 1099511627776) := of_decide_eq_false h

def lo (r t : Int) : Int := ((1000 - r) * t + 1000 - 1) / 1000
def hi (r t : Int) : Int := (1000 + r) * t / 1000
def so (r t : Int) : Int := (1000 * t + (1000 + r) - 1) / (1000 + r)
def la (r t : Int) : Int := 1000 * t / (1000 - r)
def sh (r l : Int) : Int := l * (1000 - r) / (1000 + r)
def shortB (r l : Int) : Bool := decide (0 ≤ r ∧ r ≤ 500 ∧ 1 ≤ l ∧ l ≤ 1073741824)
def mayB (r t c : Int) : Bool := decide (0 ≤ r ∧ r ≤ 500 ∧ 0 ≤ t ∧ t ≤ 1099511627776 ∧ 0 ≤ c ∧ c ≤ 1099511627776 ∧ (1000 - r) * t ≤ 1000 * c ∧ 1000 * c ≤ (1000 + r) * t)

theorem ret_bool {a b : Bool} (h : a = b) : Ending.returned (.bool a) = .returned (.bool b) := by rw [h]
theorem ret_int {k : IntKind} {a b : Int} (h : a = b) : Ending.returned (.int k a) = .returned (.int k b) := by rw [h]

/-- the products that the code reckons, with their bounds -/
theorem slow_mul {r t : Int} (h0 : 0 ≤ r) (h1 : r ≤ 500) (h2 : 0 ≤ t) (h3 : t ≤ 1099511627776) : 0 ≤ (1000 - r) * t ∧ (1000 - r) * t ≤ 1099511627776000 := by
  constructor
  · exact Int.mul_nonneg (by omega) h2
  · have := Int.mul_le_mul (show 1000 - r ≤ 1000 by omega) h3 h2 (by omega)
    omega
theorem fast_mul {r t : Int} (h0 : 0 ≤ r) (h1 : r ≤ 500) (h2 : 0 ≤ t) (h3 : t ≤ 1099511627776) : 0 ≤ (1000 + r) * t ∧ (1000 + r) * t ≤ 1649267441664000 := by
  constructor
  · exact Int.mul_nonneg (by omega) h2
  · have := Int.mul_le_mul (show 1000 + r ≤ 1500 by omega) h3 h2 (by omega)
    omega

/-! ### the code -/
set_option maxHeartbeats 400000 in
theorem fits_any (r t : Int) (w : World) :
    Calls Try.prog 26 #[.int .i64 r, .int .i64 t] w fun e w' => e = .returned (.bool (fitsB r t)) ∧ w = w' := by
  go_enter Try.func26, Try.ntmps26
  go_wp2
  all_goals (go_ret; exact ⟨ret_bool (by unfold fitsB; first | exact decide_eq_decide.2 (by omega) | exact (decide_eq_false (by omega)).symm), rfl⟩)

set_option maxHeartbeats 400000 in
theorem slow_any (r : Int) (w : World) (h0 : 0 ≤ r) (h1 : r ≤ 500) :
    Calls Try.prog 28 #[.int .i64 r] w fun e w' => e = .returned (.int .i64 (1000 - r)) ∧ w = w' := by
  go_enter Try.func28, Try.ntmps28
  go_wp2
  go_ret
  exact ⟨rfl, rfl⟩

set_option maxHeartbeats 400000 in
theorem fast_any (r : Int) (w : World) (h0 : 0 ≤ r) (h1 : r ≤ 500) :
    Calls Try.prog 32 #[.int .i64 r] w fun e w' => e = .returned (.int .i64 (1000 + r)) ∧ w = w' := by
  go_enter Try.func32, Try.ntmps32
  go_wp2
  go_ret
  exact ⟨rfl, rfl⟩

theorem mayB_no1 {r t c : Int} (h : ¬ (0 ≤ r ∧ r ≤ 500 ∧ 0 ≤ t ∧ t ≤ 1099511627776)) : mayB r t c = false := decide_eq_false (by omega)
theorem mayB_no2 {r t c : Int} (h : ¬ (0 ≤ r ∧ r ≤ 500 ∧ 0 ≤ c ∧ c ≤ 1099511627776)) : mayB r t c = false := decide_eq_false (by omega)
theorem mayB_yes {r t c : Int} (h : 0 ≤ r ∧ r ≤ 500 ∧ 0 ≤ t ∧ t ≤ 1099511627776) (g : 0 ≤ r ∧ r ≤ 500 ∧ 0 ≤ c ∧ c ≤ 1099511627776) :
    mayB r t c = decide ((1000 - r) * t ≤ 1000 * c ∧ 1000 * c ≤ (1000 + r) * t) := decide_eq_decide.2 (by omega)

set_option maxHeartbeats 400000 in
theorem may_any (r t c : Int) (w : World) :
    Calls Try.prog 24 #[.int .i64 r, .int .i64 t, .int .i64 c] w fun e w' => e = .returned (.bool (mayB r t c)) ∧ w = w' := by
  by_cases h : 0 ≤ r ∧ r ≤ 500 ∧ 0 ≤ t ∧ t ≤ 1099511627776
  · by_cases g : 0 ≤ r ∧ r ≤ 500 ∧ 0 ≤ c ∧ c ≤ 1099511627776
    · have hm := Lib.hid (mayB_yes h g)
      have hf := Lib.hid (fits_yes h)
      have hg := Lib.hid (fits_yes g)
      obtain ⟨a0, a1, a2, a3⟩ := h
      obtain ⟨_, _, b2, b3⟩ := g
      obtain ⟨m0, m1⟩ := slow_mul a0 a1 a2 a3
      obtain ⟨n0, n1⟩ := fast_mul a0 a1 a2 a3
      go_enter Try.func24, Try.ntmps24
      go_wp2_with fail
      refine (fits_any _ _ _).mono ?_
      rintro e w' ⟨rfl, rfl⟩
      rw [hf.out]
      go_wp2_with fail
      refine (fits_any _ _ _).mono ?_
      rintro e w' ⟨rfl, rfl⟩
      rw [hg.out]
      go_wp2_with (first
    | (go_at_call 28; refine (slow_any _ _ a0 a1).mono ?_; rintro e w' ⟨rfl, rfl⟩)
    | (go_at_call 32; refine (fast_any _ _ a0 a1).mono ?_; rintro e w' ⟨rfl, rfl⟩))
      all_goals (go_ret; exact ⟨ret_bool (by rw [hm.out]; first | exact decide_eq_decide.2 (by omega) | exact (decide_eq_false (by omega)).symm), rfl⟩)
    · have hm := Lib.hid (mayB_no2 (t := t) g)
      have hf := Lib.hid (fits_yes h)
      have hg := Lib.hid (fits_no g)
      clear h g
      go_enter Try.func24, Try.ntmps24
      go_wp2_with fail
      refine (fits_any _ _ _).mono ?_
      rintro e w' ⟨rfl, rfl⟩
      rw [hf.out]
      go_wp2_with fail
      refine (fits_any _ _ _).mono ?_
      rintro e w' ⟨rfl, rfl⟩
      rw [hg.out]
      go_wp2
      go_ret
      exact ⟨ret_bool hm.out.symm, rfl⟩
  · have hm := Lib.hid (mayB_no1 (c := c) h)
    have hf := Lib.hid (fits_no h)
    clear h
    go_enter Try.func24, Try.ntmps24
    go_wp2_with fail
    refine (fits_any _ _ _).mono ?_
    rintro e w' ⟨rfl, rfl⟩
    rw [hf.out]
    go_wp2
    go_ret
    exact ⟨ret_bool hm.out.symm, rfl⟩

/-! ### the document's answers -/
set_option maxHeartbeats 400000 in
theorem rgood_any (r : Int) (w : World) :
    Calls Try.prog 29 #[.int .i64 r] w fun e w' => e = .returned (.bool (goodB r)) ∧ w = w' := by
  go_enter Try.func29, Try.ntmps29
  go_wp2
  all_goals (go_ret; exact ⟨ret_bool (by unfold goodB; first | exact decide_eq_decide.2 (by omega) | exact (decide_eq_false (by omega)).symm), rfl⟩)

set_option maxHeartbeats 400000 in
theorem rspan_any (t : Int) (w : World) :
    Calls Try.prog 30 #[.int .i64 t] w fun e w' => e = .returned (.bool (spanB t)) ∧ w = w' := by
  go_enter Try.func30, Try.ntmps30
  go_wp2
  all_goals (go_ret; exact ⟨ret_bool (by unfold spanB; first | exact decide_eq_decide.2 (by omega) | exact (decide_eq_false (by omega)).symm), rfl⟩)

theorem good_yes {r : Int} (h0 : 0 ≤ r) (h1 : r ≤ 500) : goodB r = true := decide_eq_true ⟨h0, h1⟩
theorem good_no {r : Int} (h : ¬ (0 ≤ r ∧ r ≤ 500)) : goodB r = false := decide_eq_false h
theorem span_yes {r : Int} (h0 : 0 ≤ r) (h1 : r ≤ 1099511627776) : spanB r = true := decide_eq_true ⟨h0, h1⟩
theorem span_no {r : Int} (h : ¬ (0 ≤ r ∧ r ≤ 1099511627776)) : spanB r = false := decide_eq_false h

end Dr
end Go.Proofs.Ytkbmofbpfinahab
