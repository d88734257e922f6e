/- What the functions of package drift, and the document's own answers for them, hand back, as plain functions of integers. No condition. -/
import Derived.Test.YtkbmofbpfinahabDriftP
namespace Go.Proofs.Ytkbmofbpfinahab
open Go.ChangeShapes Go.WideShapes Go.ChangeAt Go.RowKit
namespace Dr
set_option linter.unusedVariables false

set_option maxHeartbeats 400000 in
theorem up_any (a b : Int) (w : World) (h0 : 0 ≤ a) (h1 : a ≤ 4611686018427387904) (h2 : 1 ≤ b) (h3 : b ≤ 2000) :
    Calls Try.prog 27 #[.int .i64 a, .int .i64 b] w fun e w' => e = .returned (.int .i64 ((a + b - 1) / b)) ∧ w = w' := by
  go_enter Try.func27, Try.ntmps27
  go_wp2
  go_ret
  exact ⟨rfl, rfl⟩

set_option maxHeartbeats 400000 in
theorem least_yes (r t : Int) (w : World) (h : 0 ≤ r ∧ r ≤ 500 ∧ 0 ≤ t ∧ t ≤ 1099511627776) :
    Calls Try.prog 12 #[.int .i64 r, .int .i64 t] w fun e w' => e = .returned (.tuple #[.int .i64 (lo r t), .int .i64 0]) ∧ w = w' := by
  obtain ⟨a0, a1, a2, a3⟩ := h
  obtain ⟨m0, m1⟩ := slow_mul a0 a1 a2 a3
  have hf := Lib.hid (fits_yes ⟨a0, a1, a2, a3⟩)
  go_enter Try.func12, Try.ntmps12
  go_wp2_with fail
  refine (fits_any _ _ _).mono ?_
  rintro e w' ⟨rfl, rfl⟩
  rw [hf.out]
  go_wp2_with (first
    | (go_at_call 28; refine (slow_any _ _ a0 a1).mono ?_; rintro e w' ⟨rfl, rfl⟩)
    | (go_at_call 27; refine (up_any _ _ _ (by omega) (by omega) (by omega) (by omega)).mono ?_; rintro e w' ⟨rfl, rfl⟩))
  go_ret2
  exact ⟨rfl, rfl⟩

set_option maxHeartbeats 400000 in
theorem most_yes (r t : Int) (w : World) (h : 0 ≤ r ∧ r ≤ 500 ∧ 0 ≤ t ∧ t ≤ 1099511627776) :
    Calls Try.prog 14 #[.int .i64 r, .int .i64 t] w fun e w' => e = .returned (.tuple #[.int .i64 (hi r t), .int .i64 0]) ∧ w = w' := by
  obtain ⟨a0, a1, a2, a3⟩ := h
  obtain ⟨m0, m1⟩ := fast_mul a0 a1 a2 a3
  have hf := Lib.hid (fits_yes ⟨a0, a1, a2, a3⟩)
  go_enter Try.func14, Try.ntmps14
  go_wp2_with fail
  refine (fits_any _ _ _).mono ?_
  rintro e w' ⟨rfl, rfl⟩
  rw [hf.out]
  go_wp2_with (first
    | (go_at_call 32; refine (fast_any _ _ a0 a1).mono ?_; rintro e w' ⟨rfl, rfl⟩))
  go_ret2
  exact ⟨rfl, rfl⟩

set_option maxHeartbeats 400000 in
theorem soonest_yes (r t : Int) (w : World) (h : 0 ≤ r ∧ r ≤ 500 ∧ 0 ≤ t ∧ t ≤ 1099511627776) :
    Calls Try.prog 16 #[.int .i64 r, .int .i64 t] w fun e w' => e = .returned (.tuple #[.int .i64 (so r t), .int .i64 0]) ∧ w = w' := by
  obtain ⟨a0, a1, a2, a3⟩ := h
  have hf := Lib.hid (fits_yes ⟨a0, a1, a2, a3⟩)
  go_enter Try.func16, Try.ntmps16
  go_wp2_with fail
  refine (fits_any _ _ _).mono ?_
  rintro e w' ⟨rfl, rfl⟩
  rw [hf.out]
  go_wp2_with (first
    | (go_at_call 32; refine (fast_any _ _ a0 a1).mono ?_; rintro e w' ⟨rfl, rfl⟩)
    | (go_at_call 27; refine (up_any _ _ _ (by omega) (by omega) (by omega) (by omega)).mono ?_; rintro e w' ⟨rfl, rfl⟩))
  go_ret2
  exact ⟨rfl, rfl⟩

set_option maxHeartbeats 400000 in
theorem latest_yes (r t : Int) (w : World) (h : 0 ≤ r ∧ r ≤ 500 ∧ 0 ≤ t ∧ t ≤ 1099511627776) :
    Calls Try.prog 18 #[.int .i64 r, .int .i64 t] w fun e w' => e = .returned (.tuple #[.int .i64 (la r t), .int .i64 0]) ∧ w = w' := by
  obtain ⟨a0, a1, a2, a3⟩ := h
  have hf := Lib.hid (fits_yes ⟨a0, a1, a2, a3⟩)
  go_enter Try.func18, Try.ntmps18
  go_wp2_with fail
  refine (fits_any _ _ _).mono ?_
  rintro e w' ⟨rfl, rfl⟩
  rw [hf.out]
  go_wp2_with (first
    | (go_at_call 28; refine (slow_any _ _ a0 a1).mono ?_; rintro e w' ⟨rfl, rfl⟩))
  go_ret2
  exact ⟨rfl, rfl⟩

set_option maxHeartbeats 400000 in
theorem least_no (r t : Int) (w : World) (h : ¬ (0 ≤ r ∧ r ≤ 500 ∧ 0 ≤ t ∧ t ≤ 1099511627776)) :
    Calls Try.prog 12 #[.int .i64 r, .int .i64 t] w fun e w' => e = .returned (.tuple #[.int .i64 0, .int .i64 1]) ∧ w = w' := by
  have hf := Lib.hid (fits_no h)
  clear h
  go_enter Try.func12, Try.ntmps12
  go_wp2_with fail
  refine (fits_any _ _ _).mono ?_
  rintro e w' ⟨rfl, rfl⟩
  rw [hf.out]
  go_wp2
  go_ret2
  exact ⟨rfl, rfl⟩

set_option maxHeartbeats 400000 in
theorem most_no (r t : Int) (w : World) (h : ¬ (0 ≤ r ∧ r ≤ 500 ∧ 0 ≤ t ∧ t ≤ 1099511627776)) :
    Calls Try.prog 14 #[.int .i64 r, .int .i64 t] w fun e w' => e = .returned (.tuple #[.int .i64 0, .int .i64 1]) ∧ w = w' := by
  have hf := Lib.hid (fits_no h)
  clear h
  go_enter Try.func14, Try.ntmps14
  go_wp2_with fail
  refine (fits_any _ _ _).mono ?_
  rintro e w' ⟨rfl, rfl⟩
  rw [hf.out]
  go_wp2
  go_ret2
  exact ⟨rfl, rfl⟩

set_option maxHeartbeats 400000 in
theorem soonest_no (r t : Int) (w : World) (h : ¬ (0 ≤ r ∧ r ≤ 500 ∧ 0 ≤ t ∧ t ≤ 1099511627776)) :
    Calls Try.prog 16 #[.int .i64 r, .int .i64 t] w fun e w' => e = .returned (.tuple #[.int .i64 0, .int .i64 1]) ∧ w = w' := by
  have hf := Lib.hid (fits_no h)
  clear h
  go_enter Try.func16, Try.ntmps16
  go_wp2_with fail
  refine (fits_any _ _ _).mono ?_
  rintro e w' ⟨rfl, rfl⟩
  rw [hf.out]
  go_wp2
  go_ret2
  exact ⟨rfl, rfl⟩

set_option maxHeartbeats 400000 in
theorem latest_no (r t : Int) (w : World) (h : ¬ (0 ≤ r ∧ r ≤ 500 ∧ 0 ≤ t ∧ t ≤ 1099511627776)) :
    Calls Try.prog 18 #[.int .i64 r, .int .i64 t] w fun e w' => e = .returned (.tuple #[.int .i64 0, .int .i64 1]) ∧ w = w' := by
  have hf := Lib.hid (fits_no h)
  clear h
  go_enter Try.func18, Try.ntmps18
  go_wp2_with fail
  refine (fits_any _ _ _).mono ?_
  rintro e w' ⟨rfl, rfl⟩
  rw [hf.out]
  go_wp2
  go_ret2
  exact ⟨rfl, rfl⟩

theorem short_mul {r l : Int} (h0 : 0 ≤ r) (h1 : r ≤ 500) (h2 : 1 ≤ l) (h3 : l ≤ 1073741824) : 0 ≤ l * (1000 - r) ∧ l * (1000 - r) ≤ 1073741824000 := by
  constructor
  · exact Int.mul_nonneg (by omega) (by omega)
  · have := Int.mul_le_mul h3 (show 1000 - r ≤ 1000 by omega) (by omega) (by omega)
    omega

set_option maxHeartbeats 400000 in
theorem short_yes (r l : Int) (w : World) (h : 0 ≤ r ∧ r ≤ 500 ∧ 1 ≤ l ∧ l ≤ 1073741824) :
    Calls Try.prog 20 #[.int .i64 r, .int .i64 l] w fun e w' => e = .returned (.tuple #[.int .i64 (sh r l), .int .i64 0]) ∧ w = w' := by
  obtain ⟨a0, a1, a2, a3⟩ := h
  obtain ⟨m0, m1⟩ := short_mul a0 a1 a2 a3
  have hf := Lib.hid (fits_yes (r := r) (t := 0) ⟨a0, a1, by omega, by omega⟩)
  go_enter Try.func20, Try.ntmps20
  go_wp2_with fail
  refine (fits_any _ _ _).mono ?_
  rintro e w' ⟨rfl, rfl⟩
  rw [hf.out]
  go_wp2_with (first
    | (go_at_call 28; refine (slow_any _ _ a0 a1).mono ?_; rintro e w' ⟨rfl, rfl⟩)
    | (go_at_call 32; refine (fast_any _ _ a0 a1).mono ?_; rintro e w' ⟨rfl, rfl⟩))
  go_ret2
  exact ⟨rfl, rfl⟩

set_option maxHeartbeats 400000 in
theorem short_no (r l : Int) (w : World) (h : ¬ (0 ≤ r ∧ r ≤ 500 ∧ 1 ≤ l ∧ l ≤ 1073741824)) :
    Calls Try.prog 20 #[.int .i64 r, .int .i64 l] w fun e w' => e = .returned (.tuple #[.int .i64 0, .int .i64 1]) ∧ w = w' := by
  by_cases hr : 0 ≤ r ∧ r ≤ 500
  · have hf := Lib.hid (fits_yes (r := r) (t := 0) ⟨hr.1, hr.2, by omega, by omega⟩)
    by_cases hl : l < 1
    · clear h hr
      go_enter Try.func20, Try.ntmps20
      go_wp2_with fail
      refine (fits_any _ _ _).mono ?_
      rintro e w' ⟨rfl, rfl⟩
      rw [hf.out]
      go_wp2
      go_ret2
      exact ⟨rfl, rfl⟩
    · have h2 : 1073741824 < l := by omega
      clear h hr
      go_enter Try.func20, Try.ntmps20
      go_wp2_with fail
      refine (fits_any _ _ _).mono ?_
      rintro e w' ⟨rfl, rfl⟩
      rw [hf.out]
      go_wp2
      go_ret2
      exact ⟨rfl, rfl⟩
  · have hf := Lib.hid (fits_no (r := r) (t := 0) (by omega))
    clear h hr
    go_enter Try.func20, Try.ntmps20
    go_wp2_with fail
    refine (fits_any _ _ _).mono ?_
    rintro e w' ⟨rfl, rfl⟩
    rw [hf.out]
    go_wp2
    go_ret2
    exact ⟨rfl, rfl⟩

theorem up_zero {a b : Int} (hb : 1 ≤ b) (h : a % b = 0) : a / b = (a + b - 1) / b := by
  obtain ⟨q, rfl⟩ := Int.dvd_of_emod_eq_zero h
  rw [Int.mul_ediv_cancel_left _ (by omega), show b * q + b - 1 = (b - 1) + b * q from by omega, Int.add_mul_ediv_left _ _ (by omega), Int.ediv_eq_zero_of_lt (by omega) (by omega)]
  omega
theorem up_some {a b : Int} (ha : 0 ≤ a) (hb : 1 ≤ b) (h : ¬ a % b = 0) : a / b + 1 = (a + b - 1) / b := by
  have h1 := Int.emod_nonneg a (show b ≠ 0 by omega)
  have h2 := Int.emod_lt_of_pos a (show 0 < b by omega)
  have h3 := Int.emod_add_mul_ediv a b
  have h5 : b * (a / b + 1) = b * (a / b) + b := by rw [Int.mul_add, Int.mul_one]
  have h4 : a + b - 1 = (a % b - 1) + b * (a / b + 1) := by omega
  have h6 : (a % b - 1) / b = 0 := Int.ediv_eq_zero_of_lt (by omega) (by omega)
  rw [h4, Int.add_mul_ediv_left _ _ (by omega), h6]
  omega

set_option maxHeartbeats 400000 in
theorem rup_any (a b : Int) (w : World) (h0 : 0 ≤ a) (h1 : a ≤ 4611686018427387904) (h2 : 1 ≤ b) (h3 : b ≤ 2000) :
    Calls Try.prog 31 #[.int .i64 a, .int .i64 b] w fun e w' => e = .returned (.int .i64 ((a + b - 1) / b)) ∧ w = w' := by
  have hd : 0 ≤ a / b ∧ a / b ≤ a := ⟨Int.ediv_nonneg h0 (by omega), Int.ediv_le_self _ h0⟩
  obtain ⟨hd0, hd1⟩ := hd
  by_cases h : a % b = 0
  · have hz := Lib.hid (up_zero h2 h)
    go_enter Try.func31, Try.ntmps31
    go_wp2
    go_ret
    exact ⟨ret_int hz.out, rfl⟩
  · have hz := Lib.hid (up_some h0 h2 h)
    go_enter Try.func31, Try.ntmps31
    go_wp2
    go_ret
    exact ⟨ret_int hz.out, rfl⟩

set_option maxHeartbeats 400000 in
theorem rleast_yes (r t : Int) (w : World) (h : 0 ≤ r ∧ r ≤ 500 ∧ 0 ≤ t ∧ t ≤ 1099511627776) :
    Calls Try.prog 13 #[.int .i64 r, .int .i64 t] w fun e w' => e = .returned (.tuple #[.int .i64 (lo r t), .int .i64 0]) ∧ w = w' := by
  obtain ⟨a0, a1, a2, a3⟩ := h
  obtain ⟨m0, m1⟩ := slow_mul a0 a1 a2 a3
  have hG := Lib.hid (good_yes a0 a1)
  have hS := Lib.hid (span_yes a2 a3)
  go_enter Try.func13, Try.ntmps13
  go_wp2_with (first
    | (go_at_call 29; refine (rgood_any _ _).mono ?_; rintro e w' ⟨rfl, rfl⟩; rw [hG.out])
    | (go_at_call 30; refine (rspan_any _ _).mono ?_; rintro e w' ⟨rfl, rfl⟩; rw [hS.out])
    | (go_at_call 31; refine (rup_any _ _ _ (by omega) (by omega) (by omega) (by omega)).mono ?_; rintro e w' ⟨rfl, rfl⟩))
  go_ret2
  exact ⟨rfl, rfl⟩

set_option maxHeartbeats 400000 in
theorem rleast_no (r t : Int) (w : World) (h : ¬ (0 ≤ r ∧ r ≤ 500 ∧ 0 ≤ t ∧ t ≤ 1099511627776)) :
    Calls Try.prog 13 #[.int .i64 r, .int .i64 t] w fun e w' => e = .returned (.tuple #[.int .i64 0, .int .i64 1]) ∧ w = w' := by
  by_cases g : 0 ≤ r ∧ r ≤ 500
  · have hG := Lib.hid (good_yes g.1 g.2)
    have hS := Lib.hid (span_no (r := t) (by omega))
    clear h g
    go_enter Try.func13, Try.ntmps13
    go_wp2_with (first
      | (go_at_call 29; refine (rgood_any _ _).mono ?_; rintro e w' ⟨rfl, rfl⟩; rw [hG.out])
      | (go_at_call 30; refine (rspan_any _ _).mono ?_; rintro e w' ⟨rfl, rfl⟩; rw [hS.out]))
    go_ret2
    exact ⟨rfl, rfl⟩
  · have hG := Lib.hid (good_no g)
    clear h g
    go_enter Try.func13, Try.ntmps13
    go_wp2_with (go_at_call 29; refine (rgood_any _ _).mono ?_; rintro e w' ⟨rfl, rfl⟩; rw [hG.out])
    go_ret2
    exact ⟨rfl, rfl⟩

set_option maxHeartbeats 400000 in
theorem rmost_yes (r t : Int) (w : World) (h : 0 ≤ r ∧ r ≤ 500 ∧ 0 ≤ t ∧ t ≤ 1099511627776) :
    Calls Try.prog 15 #[.int .i64 r, .int .i64 t] w fun e w' => e = .returned (.tuple #[.int .i64 (hi r t), .int .i64 0]) ∧ w = w' := by
  obtain ⟨a0, a1, a2, a3⟩ := h
  obtain ⟨m0, m1⟩ := fast_mul a0 a1 a2 a3
  have hG := Lib.hid (good_yes a0 a1)
  have hS := Lib.hid (span_yes a2 a3)
  go_enter Try.func15, Try.ntmps15
  go_wp2_with (first
    | (go_at_call 29; refine (rgood_any _ _).mono ?_; rintro e w' ⟨rfl, rfl⟩; rw [hG.out])
    | (go_at_call 30; refine (rspan_any _ _).mono ?_; rintro e w' ⟨rfl, rfl⟩; rw [hS.out]))
  go_ret2
  exact ⟨rfl, rfl⟩

set_option maxHeartbeats 400000 in
theorem rmost_no (r t : Int) (w : World) (h : ¬ (0 ≤ r ∧ r ≤ 500 ∧ 0 ≤ t ∧ t ≤ 1099511627776)) :
    Calls Try.prog 15 #[.int .i64 r, .int .i64 t] w fun e w' => e = .returned (.tuple #[.int .i64 0, .int .i64 1]) ∧ w = w' := by
  by_cases g : 0 ≤ r ∧ r ≤ 500
  · have hG := Lib.hid (good_yes g.1 g.2)
    have hS := Lib.hid (span_no (r := t) (by omega))
    clear h g
    go_enter Try.func15, Try.ntmps15
    go_wp2_with (first
      | (go_at_call 29; refine (rgood_any _ _).mono ?_; rintro e w' ⟨rfl, rfl⟩; rw [hG.out])
      | (go_at_call 30; refine (rspan_any _ _).mono ?_; rintro e w' ⟨rfl, rfl⟩; rw [hS.out]))
    go_ret2
    exact ⟨rfl, rfl⟩
  · have hG := Lib.hid (good_no g)
    clear h g
    go_enter Try.func15, Try.ntmps15
    go_wp2_with (go_at_call 29; refine (rgood_any _ _).mono ?_; rintro e w' ⟨rfl, rfl⟩; rw [hG.out])
    go_ret2
    exact ⟨rfl, rfl⟩

set_option maxHeartbeats 400000 in
theorem rsoonest_yes (r t : Int) (w : World) (h : 0 ≤ r ∧ r ≤ 500 ∧ 0 ≤ t ∧ t ≤ 1099511627776) :
    Calls Try.prog 17 #[.int .i64 r, .int .i64 t] w fun e w' => e = .returned (.tuple #[.int .i64 (so r t), .int .i64 0]) ∧ w = w' := by
  obtain ⟨a0, a1, a2, a3⟩ := h
  have hG := Lib.hid (good_yes a0 a1)
  have hS := Lib.hid (span_yes a2 a3)
  go_enter Try.func17, Try.ntmps17
  go_wp2_with (first
    | (go_at_call 29; refine (rgood_any _ _).mono ?_; rintro e w' ⟨rfl, rfl⟩; rw [hG.out])
    | (go_at_call 30; refine (rspan_any _ _).mono ?_; rintro e w' ⟨rfl, rfl⟩; rw [hS.out])
    | (go_at_call 31; refine (rup_any _ _ _ (by omega) (by omega) (by omega) (by omega)).mono ?_; rintro e w' ⟨rfl, rfl⟩))
  go_ret2
  exact ⟨rfl, rfl⟩

set_option maxHeartbeats 400000 in
theorem rsoonest_no (r t : Int) (w : World) (h : ¬ (0 ≤ r ∧ r ≤ 500 ∧ 0 ≤ t ∧ t ≤ 1099511627776)) :
    Calls Try.prog 17 #[.int .i64 r, .int .i64 t] w fun e w' => e = .returned (.tuple #[.int .i64 0, .int .i64 1]) ∧ w = w' := by
  by_cases g : 0 ≤ r ∧ r ≤ 500
  · have hG := Lib.hid (good_yes g.1 g.2)
    have hS := Lib.hid (span_no (r := t) (by omega))
    clear h g
    go_enter Try.func17, Try.ntmps17
    go_wp2_with (first
      | (go_at_call 29; refine (rgood_any _ _).mono ?_; rintro e w' ⟨rfl, rfl⟩; rw [hG.out])
      | (go_at_call 30; refine (rspan_any _ _).mono ?_; rintro e w' ⟨rfl, rfl⟩; rw [hS.out]))
    go_ret2
    exact ⟨rfl, rfl⟩
  · have hG := Lib.hid (good_no g)
    clear h g
    go_enter Try.func17, Try.ntmps17
    go_wp2_with (go_at_call 29; refine (rgood_any _ _).mono ?_; rintro e w' ⟨rfl, rfl⟩; rw [hG.out])
    go_ret2
    exact ⟨rfl, rfl⟩

set_option maxHeartbeats 400000 in
theorem rlatest_yes (r t : Int) (w : World) (h : 0 ≤ r ∧ r ≤ 500 ∧ 0 ≤ t ∧ t ≤ 1099511627776) :
    Calls Try.prog 19 #[.int .i64 r, .int .i64 t] w fun e w' => e = .returned (.tuple #[.int .i64 (la r t), .int .i64 0]) ∧ w = w' := by
  obtain ⟨a0, a1, a2, a3⟩ := h
  have hG := Lib.hid (good_yes a0 a1)
  have hS := Lib.hid (span_yes a2 a3)
  go_enter Try.func19, Try.ntmps19
  go_wp2_with (first
    | (go_at_call 29; refine (rgood_any _ _).mono ?_; rintro e w' ⟨rfl, rfl⟩; rw [hG.out])
    | (go_at_call 30; refine (rspan_any _ _).mono ?_; rintro e w' ⟨rfl, rfl⟩; rw [hS.out]))
  go_ret2
  exact ⟨rfl, rfl⟩

set_option maxHeartbeats 400000 in
theorem rlatest_no (r t : Int) (w : World) (h : ¬ (0 ≤ r ∧ r ≤ 500 ∧ 0 ≤ t ∧ t ≤ 1099511627776)) :
    Calls Try.prog 19 #[.int .i64 r, .int .i64 t] w fun e w' => e = .returned (.tuple #[.int .i64 0, .int .i64 1]) ∧ w = w' := by
  by_cases g : 0 ≤ r ∧ r ≤ 500
  · have hG := Lib.hid (good_yes g.1 g.2)
    have hS := Lib.hid (span_no (r := t) (by omega))
    clear h g
    go_enter Try.func19, Try.ntmps19
    go_wp2_with (first
      | (go_at_call 29; refine (rgood_any _ _).mono ?_; rintro e w' ⟨rfl, rfl⟩; rw [hG.out])
      | (go_at_call 30; refine (rspan_any _ _).mono ?_; rintro e w' ⟨rfl, rfl⟩; rw [hS.out]))
    go_ret2
    exact ⟨rfl, rfl⟩
  · have hG := Lib.hid (good_no g)
    clear h g
    go_enter Try.func19, Try.ntmps19
    go_wp2_with (go_at_call 29; refine (rgood_any _ _).mono ?_; rintro e w' ⟨rfl, rfl⟩; rw [hG.out])
    go_ret2
    exact ⟨rfl, rfl⟩

set_option maxHeartbeats 400000 in
theorem rshort_yes (r l : Int) (w : World) (h : 0 ≤ r ∧ r ≤ 500 ∧ 1 ≤ l ∧ l ≤ 1073741824) :
    Calls Try.prog 21 #[.int .i64 r, .int .i64 l] w fun e w' => e = .returned (.tuple #[.int .i64 (sh r l), .int .i64 0]) ∧ w = w' := by
  obtain ⟨a0, a1, a2, a3⟩ := h
  obtain ⟨m0, m1⟩ := short_mul a0 a1 a2 a3
  have hG := Lib.hid (good_yes a0 a1)
  go_enter Try.func21, Try.ntmps21
  go_wp2_with (go_at_call 29; refine (rgood_any _ _).mono ?_; rintro e w' ⟨rfl, rfl⟩; rw [hG.out])
  go_ret2
  exact ⟨rfl, rfl⟩

set_option maxHeartbeats 400000 in
theorem rshort_no (r l : Int) (w : World) (h : ¬ (0 ≤ r ∧ r ≤ 500 ∧ 1 ≤ l ∧ l ≤ 1073741824)) :
    Calls Try.prog 21 #[.int .i64 r, .int .i64 l] w fun e w' => e = .returned (.tuple #[.int .i64 0, .int .i64 1]) ∧ w = w' := by
  by_cases g : 0 ≤ r ∧ r ≤ 500
  · have hG := Lib.hid (good_yes g.1 g.2)
    by_cases hl : l < 1
    · clear h g
      go_enter Try.func21, Try.ntmps21
      go_wp2_with (go_at_call 29; refine (rgood_any _ _).mono ?_; rintro e w' ⟨rfl, rfl⟩; rw [hG.out])
      go_ret2
      exact ⟨rfl, rfl⟩
    · have h2 : 1073741824 < l := by omega
      clear h g
      go_enter Try.func21, Try.ntmps21
      go_wp2_with (go_at_call 29; refine (rgood_any _ _).mono ?_; rintro e w' ⟨rfl, rfl⟩; rw [hG.out])
      go_ret2
      exact ⟨rfl, rfl⟩
  · have hG := Lib.hid (good_no g)
    clear h g
    go_enter Try.func21, Try.ntmps21
    go_wp2_with (go_at_call 29; refine (rgood_any _ _).mono ?_; rintro e w' ⟨rfl, rfl⟩; rw [hG.out])
    go_ret2
    exact ⟨rfl, rfl⟩

end Dr
end Go.Proofs.Ytkbmofbpfinahab
