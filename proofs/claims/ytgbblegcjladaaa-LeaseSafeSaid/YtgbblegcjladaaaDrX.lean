/- What drift.May and the functions under it hand back, as plain functions of integers. No condition. What the functions of package drift, and the document's own answers for them, hand back, as plain functions of integers. No condition. What the document's own answer for May hands back. No condition. -/
import Derived.Test.YtgbblegcjladaaaRows
import Derived.WalkKit
import Derived.ProofKit
import Derived.OpenShut
import Derived.Outline
import Derived.Lib.Hide
namespace Go.Proofs.Ytgbblegcjladaaa
open Go.ChangeShapes Go.WideShapes Go.ChangeAt Go.RowKit
namespace Dr
set_option linter.unusedVariables false
set_option maxRecDepth 100000

def goodB (r : Int) : Bool := decide (0 ≤ r ∧ r ≤ 500)
def spanB (t : Int) : Bool := decide (0 ≤ t ∧ t ≤ 1099511627776)
def fitsB (r t : Int) : Bool := decide (0 ≤ r ∧ r ≤ 500 ∧ 0 ≤ t ∧ t ≤ 1099511627776)

theorem fits_yes {r t : Int} (h : 0 ≤ r ∧ r ≤ 500 ∧ 0 ≤ t ∧ t ≤ 1099511627776) : fitsB r t = true := decide_eq_true h
theorem fits_no {r t : Int} (h : ¬ (0 ≤ r ∧ r ≤ 500 ∧ 0 ≤ t ∧ t ≤ 1099511627776)) : fitsB r t = false := decide_eq_false h
theorem of_fits {r t : Int} (h : fitsB r t = true) : 0 ≤ r ∧ r ≤ 500 ∧ 0 ≤ t ∧ t ≤ 1099511627776 := of_decide_eq_true h
theorem of_not {r t : Int} (h : fitsB r t = false) : ¬ (0 ≤ r ∧ r ≤ 500 ∧ 0 ≤ t ∧ t ≤ 1099511627776) := of_decide_eq_false h

def lo (r t : Int) : Int := ((1000 - r) * t + 1000 - 1) / 1000
def hi (r t : Int) : Int := (1000 + r) * t / 1000
def so (r t : Int) : Int := (1000 * t + (1000 + r) - 1) / (1000 + r)
def la (r t : Int) : Int := 1000 * t / (1000 - r)
def sh (r l : Int) : Int := l * (1000 - r) / (1000 + r)
def shortB (r l : Int) : Bool := decide (0 ≤ r ∧ r ≤ 500 ∧ 1 ≤ l ∧ l ≤ 1073741824)
def mayB (r t c : Int) : Bool := decide (0 ≤ r ∧ r ≤ 500 ∧ 0 ≤ t ∧ t ≤ 1099511627776 ∧ 0 ≤ c ∧ c ≤ 1099511627776 ∧ (1000 - r) * t ≤ 1000 * c ∧ 1000 * c ≤ (1000 + r) * t)

theorem ret_bool {a b : Bool} (h : a = b) : Ending.returned (.bool a) = .returned (.bool b) := by rw [h]
theorem ret_int {k : IntKind} {a b : Int} (h : a = b) : Ending.returned (.int k a) = .returned (.int k b) := by rw [h]

/-- the products that the code reckons, with their bounds -/
theorem slow_mul {r t : Int} (h0 : 0 ≤ r) (h1 : r ≤ 500) (h2 : 0 ≤ t) (h3 : t ≤ 1099511627776) : 0 ≤ (1000 - r) * t ∧ (1000 - r) * t ≤ 1099511627776000 := by
  constructor
  · exact Int.mul_nonneg (by omega) h2
  · have := Int.mul_le_mul (show 1000 - r ≤ 1000 by omega) h3 h2 (by omega)
    omega
theorem fast_mul {r t : Int} (h0 : 0 ≤ r) (h1 : r ≤ 500) (h2 : 0 ≤ t) (h3 : t ≤ 1099511627776) : 0 ≤ (1000 + r) * t ∧ (1000 + r) * t ≤ 1649267441664000 := by
  constructor
  · exact Int.mul_nonneg (by omega) h2
  · have := Int.mul_le_mul (show 1000 + r ≤ 1500 by omega) h3 h2 (by omega)
    omega

/-! ### the code -/
theorem mayB_no1 {r t c : Int} (h : ¬ (0 ≤ r ∧ r ≤ 500 ∧ 0 ≤ t ∧ t ≤ 1099511627776)) : mayB r t c = false := decide_eq_false (by omega)
theorem mayB_no2 {r t c : Int} (h : ¬ (0 ≤ r ∧ r ≤ 500 ∧ 0 ≤ c ∧ c ≤ 1099511627776)) : mayB r t c = false := decide_eq_false (by omega)
theorem mayB_yes {r t c : Int} (h : 0 ≤ r ∧ r ≤ 500 ∧ 0 ≤ t ∧ t ≤ 1099511627776) (g : 0 ≤ r ∧ r ≤ 500 ∧ 0 ≤ c ∧ c ≤ 1099511627776) :
    mayB r t c = decide ((1000 - r) * t ≤ 1000 * c ∧ 1000 * c ≤ (1000 + r) * t) := decide_eq_decide.2 (by omega)

/-! ### the document's answers -/
set_option maxHeartbeats 400000 in
theorem rgood_any (r : Int) (w : World) :
    Calls Try.prog 56 #[.int .i64 r] w fun e w' => e = .returned (.bool (goodB r)) ∧ w = w' := by
  go_enter Try.func56, Try.ntmps56
  go_wp2
  all_goals (go_ret; exact ⟨ret_bool (by unfold goodB; first | exact decide_eq_decide.2 (by omega) | exact (decide_eq_false (by omega)).symm), rfl⟩)

set_option maxHeartbeats 400000 in
theorem rspan_any (t : Int) (w : World) :
    Calls Try.prog 57 #[.int .i64 t] w fun e w' => e = .returned (.bool (spanB t)) ∧ w = w' := by
  go_enter Try.func57, Try.ntmps57
  go_wp2
  all_goals (go_ret; exact ⟨ret_bool (by unfold spanB; first | exact decide_eq_decide.2 (by omega) | exact (decide_eq_false (by omega)).symm), rfl⟩)

theorem good_yes {r : Int} (h0 : 0 ≤ r) (h1 : r ≤ 500) : goodB r = true := decide_eq_true ⟨h0, h1⟩
theorem good_no {r : Int} (h : ¬ (0 ≤ r ∧ r ≤ 500)) : goodB r = false := decide_eq_false h
theorem span_yes {r : Int} (h0 : 0 ≤ r) (h1 : r ≤ 1099511627776) : spanB r = true := decide_eq_true ⟨h0, h1⟩
theorem span_no {r : Int} (h : ¬ (0 ≤ r ∧ r ≤ 1099511627776)) : spanB r = false := decide_eq_false h

end Dr
end Go.Proofs.Ytgbblegcjladaaa
namespace Go.Proofs.Ytgbblegcjladaaa
open Go.ChangeShapes Go.WideShapes Go.ChangeAt Go.RowKit
namespace Dr
set_option linter.unusedVariables false
set_option maxRecDepth 100000

theorem short_mul {r l : Int} (h0 : 0 ≤ r) (h1 : r ≤ 500) (h2 : 1 ≤ l) (h3 : l ≤ 1073741824) : 0 ≤ l * (1000 - r) ∧ l * (1000 - r) ≤ 1073741824000 := by
  constructor
  · exact Int.mul_nonneg (by omega) (by omega)
  · have := Int.mul_le_mul h3 (show 1000 - r ≤ 1000 by omega) (by omega) (by omega)
    omega

theorem up_zero {a b : Int} (hb : 1 ≤ b) (h : a % b = 0) : a / b = (a + b - 1) / b := by
  obtain ⟨q, rfl⟩ := Int.dvd_of_emod_eq_zero h
  rw [Int.mul_ediv_cancel_left _ (by omega), show b * q + b - 1 = (b - 1) + b * q from by omega, Int.add_mul_ediv_left _ _ (by omega), Int.ediv_eq_zero_of_lt (by omega) (by omega)]
  omega
theorem up_some {a b : Int} (ha : 0 ≤ a) (hb : 1 ≤ b) (h : ¬ a % b = 0) : a / b + 1 = (a + b - 1) / b := by
  have h1 := Int.emod_nonneg a (show b ≠ 0 by omega)
  have h2 := Int.emod_lt_of_pos a (show 0 < b by omega)
  have h3 := Int.emod_add_mul_ediv a b
  have h5 : b * (a / b + 1) = b * (a / b) + b := by rw [Int.mul_add, Int.mul_one]
  have h4 : a + b - 1 = (a % b - 1) + b * (a / b + 1) := by omega
  have h6 : (a % b - 1) / b = 0 := Int.ediv_eq_zero_of_lt (by omega) (by omega)
  rw [h4, Int.add_mul_ediv_left _ _ (by omega), h6]
  omega

set_option maxHeartbeats 400000 in
theorem rshort_yes (r l : Int) (w : World) (h : 0 ≤ r ∧ r ≤ 500 ∧ 1 ≤ l ∧ l ≤ 1073741824) :
    Calls Try.prog 36 #[.int .i64 r, .int .i64 l] w fun e w' => e = .returned (.tuple #[.int .i64 (sh r l), .int .i64 0]) ∧ w = w' := by
  obtain ⟨a0, a1, a2, a3⟩ := h
  obtain ⟨m0, m1⟩ := short_mul a0 a1 a2 a3
  have hG := Lib.hid (good_yes a0 a1)
  go_enter Try.func36, Try.ntmps36
  go_wp2_with (go_at_call 56; refine (rgood_any _ _).mono ?_; rintro e w' ⟨rfl, rfl⟩; rw [hG.out])
  go_ret2
  exact ⟨rfl, rfl⟩

set_option maxHeartbeats 400000 in
theorem rshort_no (r l : Int) (w : World) (h : ¬ (0 ≤ r ∧ r ≤ 500 ∧ 1 ≤ l ∧ l ≤ 1073741824)) :
    Calls Try.prog 36 #[.int .i64 r, .int .i64 l] w fun e w' => e = .returned (.tuple #[.int .i64 0, .int .i64 1]) ∧ w = w' := by
  by_cases g : 0 ≤ r ∧ r ≤ 500
  · have hG := Lib.hid (good_yes g.1 g.2)
    by_cases hl : l < 1
    · clear h g
      go_enter Try.func36, Try.ntmps36
      go_wp2_with (go_at_call 56; refine (rgood_any _ _).mono ?_; rintro e w' ⟨rfl, rfl⟩; rw [hG.out])
      go_ret2
      exact ⟨rfl, rfl⟩
    · have h2 : 1073741824 < l := by omega
      clear h g
      go_enter Try.func36, Try.ntmps36
      go_wp2_with (go_at_call 56; refine (rgood_any _ _).mono ?_; rintro e w' ⟨rfl, rfl⟩; rw [hG.out])
      go_ret2
      exact ⟨rfl, rfl⟩
  · have hG := Lib.hid (good_no g)
    clear h g
    go_enter Try.func36, Try.ntmps36
    go_wp2_with (go_at_call 56; refine (rgood_any _ _).mono ?_; rintro e w' ⟨rfl, rfl⟩; rw [hG.out])
    go_ret2
    exact ⟨rfl, rfl⟩

end Dr
end Go.Proofs.Ytgbblegcjladaaa
namespace Go.Proofs.Ytgbblegcjladaaa
open Go.ChangeShapes Go.WideShapes Go.ChangeAt Go.RowKit
namespace Dr
set_option linter.unusedVariables false
set_option maxRecDepth 100000

set_option maxHeartbeats 400000 in
theorem rmay_any (r t c : Int) (w : World) :
    Calls Try.prog 37 #[.int .i64 r, .int .i64 t, .int .i64 c] w fun e w' => e = .returned (.bool (mayB r t c)) ∧ w = w' := by
  by_cases hr : 0 ≤ r ∧ r ≤ 500
  · have hG := Lib.hid (good_yes hr.1 hr.2)
    by_cases ht : 0 ≤ t ∧ t ≤ 1099511627776
    · have hT := Lib.hid (span_yes ht.1 ht.2)
      by_cases hc : 0 ≤ c ∧ c ≤ 1099511627776
      · have hC := Lib.hid (span_yes hc.1 hc.2)
        have hm := Lib.hid (mayB_yes ⟨hr.1, hr.2, ht.1, ht.2⟩ ⟨hr.1, hr.2, hc.1, hc.2⟩)
        obtain ⟨a0, a1⟩ := hr
        obtain ⟨a2, a3⟩ := ht
        obtain ⟨b2, b3⟩ := hc
        obtain ⟨m0, m1⟩ := slow_mul a0 a1 a2 a3
        obtain ⟨n0, n1⟩ := fast_mul a0 a1 a2 a3
        go_enter Try.func37, Try.ntmps37
        go_wp2_with (go_at_call 56; refine (rgood_any _ _).mono ?_; rintro e w' ⟨rfl, rfl⟩; rw [hG.out])
        (refine (rspan_any _ _).mono ?_; rintro e w' ⟨rfl, rfl⟩; rw [hT.out])
        go_wp2_with fail
        (refine (rspan_any _ _).mono ?_; rintro e w' ⟨rfl, rfl⟩; rw [hC.out])
        go_wp2
        all_goals (go_ret; exact ⟨ret_bool (by rw [hm.out]; first | exact decide_eq_decide.2 (by omega) | exact (decide_eq_false (by omega)).symm), rfl⟩)
      · have hC := Lib.hid (span_no hc)
        have hm := Lib.hid (mayB_no2 (r := r) (t := t) (c := c) (by omega))
        clear hc ht hr
        go_enter Try.func37, Try.ntmps37
        go_wp2_with (go_at_call 56; refine (rgood_any _ _).mono ?_; rintro e w' ⟨rfl, rfl⟩; rw [hG.out])
        (refine (rspan_any _ _).mono ?_; rintro e w' ⟨rfl, rfl⟩; rw [hT.out])
        go_wp2_with fail
        (refine (rspan_any _ _).mono ?_; rintro e w' ⟨rfl, rfl⟩; rw [hC.out])
        go_wp2
        go_ret
        exact ⟨ret_bool hm.out.symm, rfl⟩
    · have hT := Lib.hid (span_no ht)
      have hm := Lib.hid (mayB_no1 (r := r) (t := t) (c := c) (by omega))
      clear ht hr
      go_enter Try.func37, Try.ntmps37
      go_wp2_with (go_at_call 56; refine (rgood_any _ _).mono ?_; rintro e w' ⟨rfl, rfl⟩; rw [hG.out])
      (refine (rspan_any _ _).mono ?_; rintro e w' ⟨rfl, rfl⟩; rw [hT.out])
      go_wp2
      go_ret
      exact ⟨ret_bool hm.out.symm, rfl⟩
  · have hG := Lib.hid (good_no hr)
    have hm := Lib.hid (mayB_no1 (r := r) (t := t) (c := c) (by omega))
    clear hr
    go_enter Try.func37, Try.ntmps37
    go_wp2_with (go_at_call 56; refine (rgood_any _ _).mono ?_; rintro e w' ⟨rfl, rfl⟩; rw [hG.out])
    go_ret
    exact ⟨ret_bool hm.out.symm, rfl⟩
end Dr
end Go.Proofs.Ytgbblegcjladaaa
