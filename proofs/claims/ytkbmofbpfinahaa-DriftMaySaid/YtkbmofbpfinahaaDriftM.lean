/- What the document's own answer for May hands back. No condition. -/
import Derived.Test.YtkbmofbpfinahaaDriftP
namespace Go.Proofs.Ytkbmofbpfinahaa
open Go.ChangeShapes Go.WideShapes Go.ChangeAt Go.RowKit
namespace Dr
set_option linter.unusedVariables false

set_option maxHeartbeats 400000 in
theorem rmay_any (r t c : Int) (w : World) :
    Calls Try.prog 24 #[.int .i64 r, .int .i64 t, .int .i64 c] w fun e w' => e = .returned (.bool (mayB r t c)) ∧ w = w' := by
  by_cases hr : 0 ≤ r ∧ r ≤ 500
  · have hG := Lib.hid (good_yes hr.1 hr.2)
    by_cases ht : 0 ≤ t ∧ t ≤ 1099511627776
    · have hT := Lib.hid (span_yes ht.1 ht.2)
      by_cases hc : 0 ≤ c ∧ c ≤ 1099511627776
      · have hC := Lib.hid (span_yes hc.1 hc.2)
        have hm := Lib.hid (mayB_yes ⟨hr.1, hr.2, ht.1, ht.2⟩ ⟨hr.1, hr.2, hc.1, hc.2⟩)
        obtain ⟨a0, a1⟩ := hr
        obtain ⟨a2, a3⟩ := ht
        obtain ⟨b2, b3⟩ := hc
        obtain ⟨m0, m1⟩ := slow_mul a0 a1 a2 a3
        obtain ⟨n0, n1⟩ := fast_mul a0 a1 a2 a3
        go_enter Try.func24, Try.ntmps24
        go_wp2_with (go_at_call 29; refine (rgood_any _ _).mono ?_; rintro e w' ⟨rfl, rfl⟩; rw [hG.out])
        (refine (rspan_any _ _).mono ?_; rintro e w' ⟨rfl, rfl⟩; rw [hT.out])
        go_wp2_with fail
        (refine (rspan_any _ _).mono ?_; rintro e w' ⟨rfl, rfl⟩; rw [hC.out])
        go_wp2
        all_goals (go_ret; exact ⟨ret_bool (by rw [hm.out]; first | exact decide_eq_decide.2 (by omega) | exact (decide_eq_false (by omega)).symm), rfl⟩)
      · have hC := Lib.hid (span_no hc)
        have hm := Lib.hid (mayB_no2 (r := r) (t := t) (c := c) (by omega))
        clear hc ht hr
        go_enter Try.func24, Try.ntmps24
        go_wp2_with (go_at_call 29; refine (rgood_any _ _).mono ?_; rintro e w' ⟨rfl, rfl⟩; rw [hG.out])
        (refine (rspan_any _ _).mono ?_; rintro e w' ⟨rfl, rfl⟩; rw [hT.out])
        go_wp2_with fail
        (refine (rspan_any _ _).mono ?_; rintro e w' ⟨rfl, rfl⟩; rw [hC.out])
        go_wp2
        go_ret
        exact ⟨ret_bool hm.out.symm, rfl⟩
    · have hT := Lib.hid (span_no ht)
      have hm := Lib.hid (mayB_no1 (r := r) (t := t) (c := c) (by omega))
      clear ht hr
      go_enter Try.func24, Try.ntmps24
      go_wp2_with (go_at_call 29; refine (rgood_any _ _).mono ?_; rintro e w' ⟨rfl, rfl⟩; rw [hG.out])
      (refine (rspan_any _ _).mono ?_; rintro e w' ⟨rfl, rfl⟩; rw [hT.out])
      go_wp2
      go_ret
      exact ⟨ret_bool hm.out.symm, rfl⟩
  · have hG := Lib.hid (good_no hr)
    have hm := Lib.hid (mayB_no1 (r := r) (t := t) (c := c) (by omega))
    clear hr
    go_enter Try.func24, Try.ntmps24
    go_wp2_with (go_at_call 29; refine (rgood_any _ _).mono ?_; rintro e w' ⟨rfl, rfl⟩; rw [hG.out])
    go_ret
    exact ⟨ret_bool hm.out.symm, rfl⟩
end Dr
end Go.Proofs.Ytkbmofbpfinahaa
