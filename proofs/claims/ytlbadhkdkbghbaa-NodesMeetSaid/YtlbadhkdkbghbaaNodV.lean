/- The document's own Majority. No condition but the list's size. -/
import Derived.Test.YtlbadhkdkbghbaaNodJ
import Derived.Test.YtlbadhkdkbghbaaNodH
namespace Go.Proofs.Ytlbadhkdkbghbaa
open Go.ChangeShapes Go.WideShapes Go.ChangeAt Go.RowKit
set_option linter.unusedVariables false
/-- an operation whose guard says yes goes as one that has none -/
theorem unguard {P : Program} {ops : Array Oper} {rest : List Oper} {o : Oper} {a : Act} {w : World} {Q : Exit → Act → World → Prop} (hw : Region.wanted o (yielded ops a.tmps) = true)
    (h : wpList P ops Q ({ o with guard := none } :: rest) a w) : wpList P ops Q (o :: rest) a w := by
  unfold wpList at *
  rw [if_pos hw]
  rw [if_pos (show Region.wanted _ _ = true from rfl)] at h
  exact h
namespace Nd
def inV (l votes : List Int) : List Int := l.filter fun n => decide (n ∈ votes)
theorem inV_le (l v : List Int) : (inV l v).length ≤ l.length := List.length_filter_le _ _
theorem inV_snoc (l v : List Int) (z : Int) : inV (l ++ [z]) v = if z ∈ v then inV l v ++ [z] else inV l v := by
  unfold inV
  by_cases h : z ∈ v <;> simp [List.filter_append, h]

set_option maxHeartbeats 1000000 in
theorem rmajority_any (v u : Value) (zs vs : List Int) (w : World) (hs : Sl .i64 w v zs) (hv : Sl .i64 w u vs) (hb8 : zs.length * 8 ≤ 140737488351232) :
    Calls Try.prog 21 #[v, u] w fun e w' => e = .returned (.bool (majB zs vs)) ∧ w = w' := by
  have hend : ∀ (k : Int), k = ((inV zs vs).length : Int) → chk zs = true → decide ((zs.length : Int) < 2 * k) = majB zs vs := fun k hk hc => by
    unfold majB; rw [hc, Bool.true_and, hk]; rfl
  have hend2 : chk zs = false → majB zs vs = false := fun hc => by unfold majB; rw [hc]; rfl
  have HE := Lib.hid hend
  have HE2 := Lib.hid hend2
  have HCK := Lib.hid (fun w => check_any v zs w)
  clear hend hend2
  rcases Sl.cases hs with ⟨a, cap, rfl, rfl⟩ | ⟨b, off, cap, rfl, h0, hlc, hcm, hlt, hc⟩
  · have HM := Lib.hid (HE2.out rfl)
    clear HE HE2
    go_enter Try.func21, Try.ntmps21
    go_wp2
    refine wp_loop_rounds 1 ?_
    rw [rounds_succ]
    go_wp2_with (go_at_call 14; refine (rcheck_any _ _ _ hs).mono ?_; rintro e w1 ⟨rfl, rfl⟩)
    go_ret
    exact ⟨ret_bool HM.out.symm, rfl⟩
  · have HC := Lib.hid hc
    have HS := Lib.hid hs
    clear hs hc
    go_enter Try.func21, Try.ntmps21
    go_wp2
    go_loop [5, 10] (fun s i => ∃ k : Nat, k ≤ zs.length ∧ i = .int .i64 k ∧ s = .int .i64 ((inV (zs.take k) vs).length : Int)) (fun _ i => zs.length - (intOf i).toNat)
    case atStart => exact ⟨0, Nat.zero_le _, rfl, rfl⟩
    case round =>
      obtain ⟨k, hk, rfl, rfl⟩ := hrel
      have hle := inV_le (zs.take k) vs
      rw [List.length_take, Nat.min_eq_left hk] at hle
      by_cases hlt2 : k < zs.length
      · have hcx := HC.out k hlt2
        have HT := Lib.hid (take_get hlt2)
        generalize zs.getD k 0 = z at *
        by_cases hz : z ∈ vs
        · have HO : Hid (((inV (zs.take k) vs).length : Int) + 1 = ((inV (zs.take (k + 1)) vs).length : Int)) := Lib.hid (by rw [HT.out, inV_snoc, if_pos hz, List.length_append]; rfl)
          have hd := Lib.hid (decide_eq_true hz)
          clear hz
          go_wp2_with (go_at_call 17; refine (rhas_any _ _ _ _ hv).mono ?_; rintro e w1 ⟨rfl, rfl⟩; rw [hd.out])
          go_round
          case rel => exact ⟨k + 1, by omega, by go_num, by rw [← HO.out]⟩
          case measure => simp [intOf]; omega
        · have HO : Hid (inV (zs.take k) vs = inV (zs.take (k + 1)) vs) := Lib.hid (by rw [HT.out, inV_snoc, if_neg hz])
          have hd := Lib.hid (decide_eq_false hz)
          clear hz
          go_wp2_with (go_at_call 17; refine (rhas_any _ _ _ _ hv).mono ?_; rintro e w1 ⟨rfl, rfl⟩; rw [hd.out])
          go_round
          case rel => exact ⟨k + 1, by omega, by go_num, by rw [← HO.out]⟩
          case measure => simp [intOf]; omega
      · obtain rfl : k = zs.length := by omega
        rw [List.take_length] at *
        cases hck : chk zs with
        | false =>
          have HM := Lib.hid (HE2.out hck)
          have hce : errOf (chk zs) = 1 := by rw [hck]; rfl
          have HCE := Lib.hid hce
          clear hck hce
          go_wp2_with (go_at_call 14; refine (rcheck_any _ _ _ HS.out).mono ?_; rintro e w1 ⟨rfl, rfl⟩; rw [HCE.out])
          go_ret
          exact ⟨ret_bool HM.out.symm, rfl⟩
        | true =>
          have HM := Lib.hid (HE.out _ rfl hck)
          have hce : errOf (chk zs) = 0 := by rw [hck]; rfl
          have HCE := Lib.hid hce
          clear hck hce
          go_wp2_with (go_at_call 14; refine (rcheck_any _ _ _ HS.out).mono ?_; rintro e w1 ⟨rfl, rfl⟩; rw [HCE.out])
          all_goals
            go_ret
            exact ⟨ret_bool HM.out, rfl⟩
theorem maj123 : majB [1, 2, 3] [3, 1] = true := by decide
end Nd
end Go.Proofs.Ytlbadhkdkbghbaa
