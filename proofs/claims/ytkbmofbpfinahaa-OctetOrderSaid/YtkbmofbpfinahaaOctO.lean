/- Bytes of numbers are ordered as the numbers are: on lists alone. No condition. -/
import Derived.Test.YtkbmofbpfinahaaOctR
namespace Go.Proofs.Ytkbmofbpfinahaa
set_option linter.unusedVariables false
namespace Oc
def by8 (l : List Int) : List UInt8 := l.map fun n => UInt8.ofNat n.toNat
theorem by8_app (a b : List Int) : by8 (a ++ b) = by8 a ++ by8 b := by simp [by8]
theorem u8_lt {a b : Nat} (ha : a < 256) (hb : b < 256) : (UInt8.ofNat a < UInt8.ofNat b) ↔ a < b := by
  rw [UInt8.lt_iff_toNat_lt, UInt8.toNat_ofNat', UInt8.toNat_ofNat', Nat.mod_eq_of_lt (by omega), Nat.mod_eq_of_lt (by omega)]
theorem u8_eq {a b : Nat} (ha : a < 256) (hb : b < 256) : (UInt8.ofNat a = UInt8.ofNat b) ↔ a = b := by
  constructor
  · intro h
    have := congrArg UInt8.toNat h
    rw [UInt8.toNat_ofNat', UInt8.toNat_ofNat', Nat.mod_eq_of_lt (by omega), Nat.mod_eq_of_lt (by omega)] at this
    exact this
  · rintro rfl; rfl
theorem less_refl : ∀ l : List UInt8, Op.bytesLess l l = false
  | [] => rfl
  | a :: l => by simp [Op.bytesLess, less_refl l]
theorem less_app : ∀ (a b : List UInt8) (x y : UInt8), a.length = b.length → Op.bytesLess (a ++ [x]) (b ++ [y]) = (Op.bytesLess a b || (a == b && decide (x < y)))
  | [], [], x, y, _ => by simp [Op.bytesLess]
  | a :: c, b :: d, x, y, h => by
    simp only [List.cons_append, Op.bytesLess]
    rw [less_app c d x y (by simpa using h)]
    have e : (a :: c == b :: d) = (a == b && c == d) := rfl
    rw [e]
    cases a == b <;> cases Op.bytesLess c d <;> cases c == d <;> cases decide (x < y) <;> simp
  | [], _ :: _, _, _, h => by simp at h
  | _ :: _, [], _, _, h => by simp at h
theorem be_inj {w n m : Nat} (hn : n < 256 ^ w) (hm : m < 256 ^ w) (h : by8 (be w n) = by8 (be w m)) : n = m := by
  induction w generalizing n m with
  | zero => simp at hn hm; omega
  | succ w ih =>
    rw [Nat.pow_succ] at hn hm
    simp only [be, by8_app] at h
    have h2 := List.append_inj h (by simp [by8, be_length])
    have h3 := ih (by omega) (by omega) h2.1
    have h4 := h2.2
    simp only [by8, List.map_cons, List.map_nil, List.cons.injEq, and_true, Int.toNat_natCast] at h4
    rw [u8_eq (by omega) (by omega)] at h4
    omega
theorem be_less (w n m : Nat) (hn : n < 256 ^ w) (hm : m < 256 ^ w) : Op.bytesLess (by8 (be w n)) (by8 (be w m)) = decide (n < m) := by
  induction w generalizing n m with
  | zero =>
    simp at hn hm
    subst hn; subst hm; rfl
  | succ w ih =>
    rw [Nat.pow_succ] at hn hm
    have ihh := ih (n / 256) (m / 256) (by omega) (by omega)
    simp only [be, by8_app]
    have e1 : by8 [((n % 256 : Nat) : Int)] = [UInt8.ofNat (n % 256)] := by unfold by8; rw [List.map_singleton, Int.toNat_natCast]
    have e2 : by8 [((m % 256 : Nat) : Int)] = [UInt8.ofNat (m % 256)] := by unfold by8; rw [List.map_singleton, Int.toNat_natCast]
    rw [e1, e2, less_app _ _ _ _ (by simp [by8, be_length]), ihh]
    have e3 : decide (UInt8.ofNat (n % 256) < UInt8.ofNat (m % 256)) = decide (n % 256 < m % 256) := decide_eq_decide.2 (u8_lt (by omega) (by omega))
    rw [e3]
    by_cases hq : n / 256 = m / 256
    · rw [hq]
      simp
      omega
    · have hne : (by8 (be w (n / 256)) == by8 (be w (m / 256))) = false := by
        rw [beq_eq_false_iff_ne]
        intro h
        exact hq (be_inj (by omega) (by omega) h)
      rw [hne]
      simp
      omega
theorem bw_gt {n k : Nat} (h : k < bw n) : 256 ^ k ≤ n := by
  rcases Nat.lt_or_ge n (256 ^ k) with h2 | h2
  · have := bw_le k n h2; omega
  · exact h2
theorem num_less {n m : Nat} (hn : n < 18446744073709551616) (hm : m < 18446744073709551616) : Op.bytesLess (by8 (numL n)) (by8 (numL m)) = decide (n < m) := by
  have h8 := bw_le8 hn
  have g8 := bw_le8 hm
  have hl := bw_lt n
  have gl := bw_lt m
  have e1 : ∀ k, by8 (numL k) = UInt8.ofNat (bw k) :: by8 (be (bw k) k) := fun k => by simp [by8, numL]
  rw [e1, e1]
  simp only [Op.bytesLess]
  rcases Nat.lt_trichotomy (bw n) (bw m) with h | h | h
  · have h1 : n < m := Nat.lt_of_lt_of_le hl (bw_gt h)
    have h2 := (u8_lt (a := bw n) (b := bw m) (by omega) (by omega)).2 h
    simp [h1, h2]
  · have h2 : ¬ UInt8.ofNat (bw n) < UInt8.ofNat (bw m) := by rw [u8_lt (by omega) (by omega)]; omega
    rw [h] at hl h2 ⊢
    rw [be_less _ _ _ hl gl]
    simp
  · have h1 : ¬ n < m := by have := bw_gt h; omega
    have h2 : ¬ UInt8.ofNat (bw n) < UInt8.ofNat (bw m) := by rw [u8_lt (by omega) (by omega)]; omega
    have h3 : ¬ UInt8.ofNat (bw n) = UInt8.ofNat (bw m) := by rw [u8_eq (by omega) (by omega)]; omega
    simp [h1, h2, h3]
theorem num_same {n m : Nat} (hn : n < 18446744073709551616) (hm : m < 18446744073709551616) (h : n ≠ m) : by8 (numL n) ≠ by8 (numL m) := by
  intro e
  have h1 := num_less hn hm
  have h2 := num_less hm hn
  rw [e] at h1
  rw [e] at h2
  rw [less_refl] at h1 h2
  have := of_decide_eq_false h1.symm
  have := of_decide_eq_false h2.symm
  omega
theorem str_list (l : List Int) : (strOfNums l).toList = by8 l := by
  rw [ByteArray.toList_eq]; rfl
end Oc
end Go.Proofs.Ytkbmofbpfinahaa
