/- The document's own Steps; what the law on majorities that meet calls. No condition but the lists' sizes. -/
import Derived.Test.YtlbadhkdkbghbaaNodS
import Derived.Test.YtlbadhkdkbghbaaNodV
import Derived.Test.YtlbadhkdkbghbaaNodO
namespace Go.Proofs.Ytlbadhkdkbghbaa
open Go.ChangeShapes Go.WideShapes Go.ChangeAt Go.RowKit
set_option linter.unusedVariables false
namespace Nd

set_option maxHeartbeats 1000000 in
theorem rmore_any (v u : Value) (l t : List Int) (w : World) (hs : Sl .i64 w v l) (hv : Sl .i64 w u t) (hl8 : t.length * 8 ≤ 140737488351232) :
    Calls Try.prog 33 #[v, u] w fun e w' => e = .returned (.bool (moreB l t)) ∧ w = w' := by
  have HS := Lib.hid (fun n => rhas_any v l n w hs)
  obtain ⟨av, capv, rfl, -⟩ := hs
  by_cases hl : l.length = t.length + 1
  · have HE : Hid (moreB l t = t.all fun n => decide (n ∈ l)) := Lib.hid (by unfold moreB; rw [decide_eq_true hl, Bool.true_and])
    have hne : ((l.length : Int) != (t.length : Int) + 1) = false := by rw [bne_eq_false_iff_eq]; omega
    have HNE := Lib.hid hl
    rcases Sl.cases hv with ⟨a, cap, rfl, rfl⟩ | ⟨b, off, cap, rfl, h0, hlc, hcm, hlt, hc⟩
    · have h1 : l.length = 1 := hl
      rw [h1]
      clear hv hne hl h1
      go_enter Try.func33, Try.ntmps33
      go_wp2
      refine wp_loop_rounds 1 ?_
      rw [rounds_succ]
      go_wp2
      go_ret
      exact ⟨ret_bool HE.out.symm, rfl⟩
    · have HC := Lib.hid hc
      clear hv hc hl
      go_enter Try.func33, Try.ntmps33
      go_wp2
      go_loop [15] (fun i => ∃ k : Nat, k ≤ t.length ∧ i = .int .i64 k ∧ Hid (∀ n ∈ t.take k, n ∈ l)) (fun i => t.length - (intOf i).toNat)
      case atStart => exact ⟨0, Nat.zero_le _, rfl, Lib.hid (by simp)⟩
      case round =>
        obtain ⟨k, hk, rfl, HO⟩ := hrel
        by_cases hlt2 : k < t.length
        · have hcx := HC.out k hlt2
          have HT := Lib.hid (take_get hlt2)
          have HM := Lib.hid (mem_get hlt2)
          generalize t.getD k 0 = z at *
          by_cases hz : z ∈ l
          · have HO2 : Hid (∀ n ∈ t.take (k + 1), n ∈ l) := by
              refine Lib.hid fun n hn => ?_
              rw [HT.out, List.mem_append, List.mem_singleton] at hn
              rcases hn with hn | rfl
              · exact HO.out n hn
              · exact hz
            have hd := Lib.hid (decide_eq_true hz)
            clear hz
            go_wp2_with (go_at_call 17; refine (HS.out _).mono ?_; rintro e w1 ⟨rfl, rfl⟩; rw [hd.out])
            go_round
            case rel => exact ⟨k + 1, by omega, by go_num, HO2⟩
            case measure => simp [intOf]; omega
          · have HB : Hid (moreB l t = false) := Lib.hid (by rw [HE.out, List.all_eq_false]; exact ⟨z, HM.out, by simpa using hz⟩)
            have hd := Lib.hid (decide_eq_false hz)
            clear hz
            go_wp2_with (go_at_call 17; refine (HS.out _).mono ?_; rintro e w1 ⟨rfl, rfl⟩; rw [hd.out])
            go_ret
            exact ⟨ret_bool HB.out.symm, rfl⟩
        · obtain rfl : k = t.length := by omega
          have HB : Hid (moreB l t = true) := Lib.hid (by rw [HE.out, List.all_eq_true]; intro n hn; have := HO.out; rw [List.take_length] at this; exact decide_eq_true (this n hn))
          go_wp2
          go_ret
          exact ⟨ret_bool HB.out.symm, rfl⟩
  · have HB : Hid (moreB l t = false) := Lib.hid (by unfold moreB; rw [decide_eq_false hl, Bool.false_and])
    have hne : ((l.length : Int) != (t.length : Int) + 1) = true := by rw [bne_iff_ne]; omega
    have hne2 : ((l.length : Int) == (t.length : Int) + 1) = false := beq_eq_false_iff_ne.2 (by omega)
    obtain ⟨a2, cap2, rfl, -⟩ := hv
    clear hl
    go_enter Try.func33, Try.ntmps33
    go_wp2
    go_ret
    exact ⟨ret_bool HB.out.symm, rfl⟩

set_option maxHeartbeats 1000000 in
theorem rsteps_any (v u : Value) (a b : List Int) (w : World) (hs : Sl .i64 w v a) (hv : Sl .i64 w u b) (ha8 : a.length * 8 ≤ 140737488351232) (hb8 : b.length * 8 ≤ 140737488351232) :
    Calls Try.prog 23 #[v, u] w fun e w' => e = .returned (.bool (stepsB a b)) ∧ w = w' := by
  have HM := Lib.hid (steps_more a b)
  cases ha : chk a with
  | false =>
    have hce : errOf (chk a) = 1 := by rw [ha]; rfl
    have HC := Lib.hid hce
    have HR : Hid (stepsB a b = false) := Lib.hid (by rw [HM.out, ha]; rfl)
    clear ha hce
    go_enter Try.func23, Try.ntmps23
    go_wp2_with fail
    refine (rcheck_any _ _ _ hs).mono ?_
    rintro e w1 ⟨rfl, rfl⟩
    rw [HC.out]
    go_wp2
    go_ret
    exact ⟨ret_bool HR.out.symm, rfl⟩
  | true =>
    have hce : errOf (chk a) = 0 := by rw [ha]; rfl
    have HC := Lib.hid hce
    cases hb : chk b with
    | false =>
      have hcf : errOf (chk b) = 1 := by rw [hb]; rfl
      have HF := Lib.hid hcf
      have HR : Hid (stepsB a b = false) := Lib.hid (by rw [HM.out, ha, hb]; rfl)
      clear ha hb hce hcf
      go_enter Try.func23, Try.ntmps23
      go_wp2_with fail
      refine (rcheck_any _ _ _ hs).mono ?_
      rintro e w1 ⟨rfl, rfl⟩
      rw [HC.out]
      go_wp2_with fail
      refine (rcheck_any _ _ _ hv).mono ?_
      rintro e w1 ⟨rfl, rfl⟩
      rw [HF.out]
      go_wp2
      go_ret
      exact ⟨ret_bool HR.out.symm, rfl⟩
    | true =>
      have hcf : errOf (chk b) = 0 := by rw [hb]; rfl
      have HF := Lib.hid hcf
      have HR : Hid (stepsB a b = (moreB a b || moreB b a)) := Lib.hid (by rw [HM.out, ha, hb]; rfl)
      clear ha hb hce hcf
      cases hm : moreB a b with
      | true =>
        have HR2 : Hid (stepsB a b = true) := Lib.hid (by rw [HR.out, hm]; rfl)
        have HMM := Lib.hid hm
        clear hm
        go_enter Try.func23, Try.ntmps23
        go_wp2_with fail
        refine (rcheck_any _ _ _ hs).mono ?_
        rintro e w1 ⟨rfl, rfl⟩
        rw [HC.out]
        go_wp2_with fail
        refine (rcheck_any _ _ _ hv).mono ?_
        rintro e w1 ⟨rfl, rfl⟩
        rw [HF.out]
        go_wp2_with fail
        refine (rmore_any _ _ _ _ _ hs hv hb8).mono ?_
        rintro e w1 ⟨rfl, rfl⟩
        rw [HMM.out]
        go_wp2
        go_ret
        exact ⟨ret_bool HR2.out.symm, rfl⟩
      | false =>
        have HR2 : Hid (stepsB a b = moreB b a) := Lib.hid (by rw [HR.out, hm]; rfl)
        have HMM := Lib.hid hm
        clear hm
        go_enter Try.func23, Try.ntmps23
        go_wp2_with fail
        refine (rcheck_any _ _ _ hs).mono ?_
        rintro e w1 ⟨rfl, rfl⟩
        rw [HC.out]
        go_wp2_with fail
        refine (rcheck_any _ _ _ hv).mono ?_
        rintro e w1 ⟨rfl, rfl⟩
        rw [HF.out]
        go_wp2_with fail
        refine (rmore_any _ _ _ _ _ hs hv hb8).mono ?_
        rintro e w1 ⟨rfl, rfl⟩
        rw [HMM.out]
        go_wp2_with fail
        refine (rmore_any _ _ _ _ _ hv hs ha8).mono ?_
        rintro e w1 ⟨rfl, rfl⟩
        go_wp2
        go_ret
        exact ⟨ret_bool HR2.out.symm, rfl⟩
end Nd
end Go.Proofs.Ytlbadhkdkbghbaa
