/- Sorting a short list by swaps, on lists. No condition. -/
import Derived.Test.YtogebbplfoainaaBse
namespace Go.Proofs.Ytogebbplfoainaa
open Go.ChangeShapes Go.WideShapes Go.ChangeAt Go.RowKit
set_option linter.unusedVariables false
set_option maxRecDepth 100000
namespace Nm
abbrev at0 (l : List Int) (k : Nat) : Int := l.getD k 0
/-- two neighbours change places -/
def swp (l : List Int) (j : Nat) : List Int := l.take (j - 1) ++ at0 l j :: at0 l (j - 1) :: l.drop (j + 1)
theorem split_at {l : List Int} {j : Nat} (h0 : 0 < j) (hj : j < l.length) : l = l.take (j - 1) ++ at0 l (j - 1) :: at0 l j :: l.drop (j + 1) := by
  have h1 : l.drop (j - 1) = at0 l (j - 1) :: l.drop j := by
    rw [List.drop_eq_getElem_cons (by omega : j - 1 < l.length), show j - 1 + 1 = j by omega]
    simp [at0, List.getD, List.getElem?_eq_getElem (show j - 1 < l.length by omega)]
  have h2 : l.drop j = at0 l j :: l.drop (j + 1) := by
    rw [List.drop_eq_getElem_cons hj]
    simp [at0, List.getD, List.getElem?_eq_getElem hj]
  rw [← h2, ← h1, List.take_append_drop]
theorem swp_perm {l : List Int} {j : Nat} (h0 : 0 < j) (hj : j < l.length) : (swp l j).Perm l := by
  conv => rhs; rw [split_at h0 hj]
  unfold swp
  exact List.Perm.append_left _ (List.Perm.swap _ _ _)
theorem swp_at {l : List Int} {j k : Nat} (h0 : 0 < j) (hj : j < l.length) : at0 (swp l j) k = if k = j then at0 l (j - 1) else if k + 1 = j then at0 l j else at0 l k := by
  have ht : (l.take (j - 1)).length = j - 1 := by rw [List.length_take]; omega
  unfold swp
  by_cases h1 : k = j
  · rw [if_pos h1]
    subst h1
    simp only [at0, List.getD, List.getElem?_append_right (show (l.take (k - 1)).length ≤ k by omega), ht, show k - (k - 1) = 1 by omega]
    rfl
  rw [if_neg h1]
  by_cases h2 : k + 1 = j
  · rw [if_pos h2]
    subst h2
    simp only [at0, List.getD, List.getElem?_append_right (show (l.take (k + 1 - 1)).length ≤ k by omega), ht, show k - (k + 1 - 1) = 0 by omega]
    rfl
  rw [if_neg h2]
  rcases Nat.lt_or_ge k j with g | g
  · simp only [at0, List.getD, List.getElem?_append_left (show k < (l.take (j - 1)).length by omega)]
    rw [List.getElem?_take_of_lt (by omega)]
  · simp only [at0, List.getD, List.getElem?_append_right (show (l.take (j - 1)).length ≤ k by omega), ht]
    obtain ⟨d, rfl⟩ : ∃ d, k = j + 1 + d := ⟨k - (j + 1), by omega⟩
    rw [show j + 1 + d - (j - 1) = d + 2 by omega]
    simp [List.getElem?_drop]
def sortedTo (l : List Int) (i : Nat) : Prop := ∀ a b, a < b → b < i → at0 l a ≤ at0 l b
/-- sorted up to i, but for the one at j, which is no more than those behind it -/
def almost (l : List Int) (i j : Nat) : Prop := (∀ a b, a < b → b ≤ i → a ≠ j → b ≠ j → at0 l a ≤ at0 l b) ∧ ∀ b, j < b → b ≤ i → at0 l j ≤ at0 l b
theorem almost_start {l : List Int} {i : Nat} (h : sortedTo l i) : almost l i i := ⟨fun a b hab hb ha hb2 => h a b hab (by omega), fun b h1 h2 => absurd h1 (by omega)⟩
theorem almost_swp {l : List Int} {i j : Nat} (h0 : 0 < j) (hji : j ≤ i) (hi : i < l.length) (h : almost l i j) (hl : at0 l j < at0 l (j - 1)) : almost (swp l j) i (j - 1) := by
  obtain ⟨h1, h2⟩ := h
  have hj : j < l.length := by omega
  refine ⟨fun a b hab hb ha hb2 => ?_, fun b hb1 hb2 => ?_⟩
  · rw [swp_at h0 hj, swp_at h0 hj]
    by_cases ea : a = j
    · rw [if_pos ea, if_neg (by omega), if_neg (by omega)]
      exact h1 _ _ (by omega) hb (by omega) (by omega)
    · rw [if_neg ea, if_neg (by omega)]
      by_cases eb : b = j
      · rw [if_pos eb]
        exact h1 _ _ (by omega) (by omega) ea (by omega)
      · rw [if_neg eb, if_neg (by omega)]
        exact h1 _ _ hab hb ea eb
  · rw [swp_at h0 hj, swp_at h0 hj, if_neg (by omega), if_pos (by omega)]
    by_cases eb : b = j
    · rw [if_pos eb]; omega
    · rw [if_neg eb, if_neg (by omega)]
      exact h2 _ (by omega) hb2
theorem almost_end {l : List Int} {i j : Nat} (hji : j ≤ i) (h : almost l i j) (hs : j = 0 ∨ at0 l (j - 1) ≤ at0 l j) : sortedTo l (i + 1) := by
  obtain ⟨h1, h2⟩ := h
  intro a b hab hb
  by_cases ea : a = j
  · subst ea; exact h2 b hab (by omega)
  · by_cases eb : b = j
    · subst eb
      rcases hs with hs | hs
      · omega
      · by_cases e : a = b - 1
        · subst e; exact hs
        · exact Int.le_trans (h1 a (b - 1) (by omega) (by omega) ea (by omega)) hs
    · exact h1 a b hab (by omega) ea eb
theorem sorted_one (l : List Int) : sortedTo l 1 := fun a b h1 h2 => absurd h1 (by omega)
end Nm
end Go.Proofs.Ytogebbplfoainaa
