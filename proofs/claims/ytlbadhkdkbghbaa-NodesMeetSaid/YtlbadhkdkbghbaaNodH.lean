/- Whether one is in a list: nodes.Has and the document's own answer. No condition. -/
import Derived.Test.YtlbadhkdkbghbaaNodA
namespace Go.Proofs.Ytlbadhkdkbghbaa
open Go.ChangeShapes Go.WideShapes Go.ChangeAt Go.RowKit
set_option linter.unusedVariables false
namespace Nd

/-! ### whether one is there -/
set_option maxHeartbeats 400000 in
theorem rhas_any (v : Value) (zs : List Int) (n : Int) (w : World) (hs : Sl .i64 w v zs) :
    Calls Try.prog 17 #[v, .int .i64 n] w fun e w' => e = .returned (.bool (decide (n ∈ zs))) ∧ w = w' := by
  rcases Sl.cases hs with ⟨a, cap, rfl, rfl⟩ | ⟨b, off, cap, rfl, h0, hlc, hcm, hlt, hc⟩
  · clear hs
    go_enter Try.func17, Try.ntmps17
    go_wp2
    refine wp_loop_rounds 1 ?_
    rw [rounds_succ]
    go_wp2
    go_ret
    exact ⟨rfl, rfl⟩
  · have HC := Lib.hid hc
    clear hs hc
    go_enter Try.func17, Try.ntmps17
    go_wp2
    go_loop [9] (fun i => ∃ k : Nat, k ≤ zs.length ∧ i = .int .i64 k ∧ Hid (n ∉ zs.take k)) (fun i => zs.length - (intOf i).toNat)
    case atStart => exact ⟨0, Nat.zero_le _, rfl, Lib.hid (by simp)⟩
    case round =>
      obtain ⟨k, hk, rfl, HO⟩ := hrel
      by_cases hlt2 : k < zs.length
      · have hcx := HC.out k hlt2
        have HM := Lib.hid (mem_get hlt2)
        have HT := Lib.hid (take_get hlt2)
        generalize zs.getD k 0 = z at *
        by_cases hz : z = n
        · subst hz
          have HB := Lib.hid (decide_eq_true HM.out)
          go_wp2
          go_ret
          exact ⟨ret_bool HB.out.symm, rfl⟩
        · have hz2 : (z == n) = false := by simpa using hz
          have HO2 : Hid (n ∉ zs.take (k + 1)) := by
            refine Lib.hid ?_
            rw [HT.out, List.mem_append, List.mem_singleton]
            rintro (h | h)
            · exact HO.out h
            · exact hz h.symm
          clear hz
          go_wp2
          go_round
          case rel => exact ⟨k + 1, by omega, by go_num, HO2⟩
          case measure => simp [intOf]; omega
      · obtain rfl : k = zs.length := by omega
        have HO2 := HO.out
        rw [List.take_length] at HO2
        have HB := Lib.hid (decide_eq_false HO2)
        clear HO2
        go_wp2
        go_ret
        exact ⟨ret_bool HB.out.symm, rfl⟩

def IdxOf (zs : List Int) (n : Int) (w : World) (e : Ending) (w' : World) : Prop := (∃ i : Int, e = .returned (.int .i64 i) ∧ decide (0 ≤ i) = decide (n ∈ zs)) ∧ w = w'
set_option maxHeartbeats 400000 in
theorem index_any (v : Value) (zs : List Int) (n : Int) (w : World) (hs : Sl .i64 w v zs) :
    Calls Try.prog 35 #[v, .int .i64 n] w (IdxOf zs n w) := by
  rcases Sl.cases hs with ⟨a, cap, rfl, rfl⟩ | ⟨b, off, cap, rfl, h0, hlc, hcm, hlt, hc⟩
  · clear hs
    go_enter Try.func35, Try.ntmps35
    go_wp2
    refine wp_loop_rounds 1 ?_
    rw [rounds_succ]
    go_wp2
    go_ret
    exact ⟨⟨-1, rfl, by simp⟩, rfl⟩
  · have HC := Lib.hid hc
    clear hs hc
    go_enter Try.func35, Try.ntmps35
    go_wp2
    go_loop [8] (fun i => ∃ k : Nat, k ≤ zs.length ∧ i = .int .i64 k ∧ Hid (n ∉ zs.take k)) (fun i => zs.length - (intOf i).toNat)
    case atStart => exact ⟨0, Nat.zero_le _, rfl, Lib.hid (by simp)⟩
    case round =>
      obtain ⟨k, hk, rfl, HO⟩ := hrel
      by_cases hlt2 : k < zs.length
      · have hcx := HC.out k hlt2
        have HM := Lib.hid (mem_get hlt2)
        have HT := Lib.hid (take_get hlt2)
        generalize zs.getD k 0 = z at *
        by_cases hz : z = n
        · subst hz
          have HB := Lib.hid (decide_eq_true HM.out)
          go_wp2
          go_ret
          exact ⟨⟨k, rfl, by rw [HB.out]; simp⟩, rfl⟩
        · have hz2 : (n == z) = false := by rw [beq_eq_false_iff_ne]; exact fun h => hz h.symm
          have HO2 : Hid (n ∉ zs.take (k + 1)) := by
            refine Lib.hid ?_
            rw [HT.out, List.mem_append, List.mem_singleton]
            rintro (h | h)
            · exact HO.out h
            · exact hz h.symm
          clear hz
          go_wp2
          go_round
          case rel => exact ⟨k + 1, by omega, by go_num, HO2⟩
          case measure => simp [intOf]; omega
      · obtain rfl : k = zs.length := by omega
        have HO2 := HO.out
        rw [List.take_length] at HO2
        have HB := Lib.hid (decide_eq_false HO2)
        clear HO2
        go_wp2
        go_ret
        exact ⟨⟨-1, rfl, by rw [HB.out]; simp⟩, rfl⟩

set_option maxHeartbeats 400000 in
theorem contains_any (v : Value) (zs : List Int) (n : Int) (w : World) (hs : Sl .i64 w v zs) :
    Calls Try.prog 29 #[v, .int .i64 n] w fun e w' => e = .returned (.bool (decide (n ∈ zs))) ∧ w = w' := by
  go_enter Try.func29, Try.ntmps29
  go_wp2_with fail
  refine (index_any _ _ _ _ hs).mono ?_
  rintro e w' ⟨⟨i, rfl, hi⟩, rfl⟩
  have HI := Lib.hid hi
  clear hi
  go_wp2
  all_goals (go_ret; exact ⟨ret_bool HI.out, rfl⟩)

set_option maxHeartbeats 400000 in
theorem has_any (v : Value) (zs : List Int) (n : Int) (w : World) (hs : Sl .i64 w v zs) :
    Calls Try.prog 16 #[v, .int .i64 n] w fun e w' => e = .returned (.bool (decide (n ∈ zs))) ∧ w = w' := by
  go_enter Try.func16, Try.ntmps16
  go_wp2_with fail
  refine (contains_any _ _ _ _ hs).mono ?_
  rintro e w' ⟨rfl, rfl⟩
  go_wp2
  go_ret
  exact ⟨rfl, rfl⟩
end Nd
end Go.Proofs.Ytlbadhkdkbghbaa
