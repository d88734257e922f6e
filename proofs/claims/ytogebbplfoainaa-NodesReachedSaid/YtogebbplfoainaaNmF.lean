/- The document's own Mid. The map is one of the call's own. -/
import Derived.Test.YtogebbplfoainaaNmE
namespace Go.Proofs.Ytogebbplfoainaa
open Go.ChangeShapes Go.WideShapes Go.ChangeAt Go.RowKit Go.Maps
set_option linter.unusedVariables false
set_option maxRecDepth 100000
namespace Nm
open Nd (Sl.cases take_get)
/-- how many of l are no less than y -/
def cntG (l : List Int) (y : Int) : Nat := (l.filter fun x => decide (y ≤ x)).length
theorem cntG_snoc (l : List Int) (x y : Int) : cntG (l ++ [x]) y = if y ≤ x then cntG l y + 1 else cntG l y := by
  unfold cntG
  by_cases h : y ≤ x <;> simp [List.filter_append, h]
theorem cntG_le (l : List Int) (y : Int) : cntG l y ≤ l.length := List.length_filter_le _ _
/-- the greatest of the part's numbers that more than half of l have reached -/
def best (l : List Int) (part : List Int) : Int := part.foldl (fun m y => if l.length < 2 * cntG l y then max m y else m) 0
theorem best_snoc (l part : List Int) (y : Int) : best l (part ++ [y]) = if l.length < 2 * cntG l y then max (best l part) y else best l part := by
  unfold best; rw [List.foldl_append]; rfl
theorem cnt_hi {l : List Int} {i : Nat} (hs : sortedTo l l.length) (hi : i < l.length) {y : Int} (h : y ≤ at0 l i) : l.length - i ≤ cntG l y := by
  unfold cntG
  conv => rhs; rw [← List.take_append_drop i l, List.filter_append, List.length_append]
  have h1 : (l.drop i).filter (fun x => decide (y ≤ x)) = l.drop i := by
    rw [List.filter_eq_self]
    intro x hx
    obtain ⟨k, hk, rfl⟩ := List.mem_iff_getElem.1 hx
    rw [List.length_drop] at hk
    rw [List.getElem_drop]
    have h2 : l[i + k] = at0 l (i + k) := by simp [at0, List.getD, List.getElem?_eq_getElem (show i + k < l.length by omega)]
    rw [h2]
    apply decide_eq_true
    rcases Nat.eq_zero_or_pos k with e | e
    · subst e; exact h
    · exact Int.le_trans h (hs i (i + k) (by omega) (by omega))
  rw [h1, List.length_drop]
  omega
theorem cnt_lo {l : List Int} {i : Nat} (hs : sortedTo l l.length) (hi : i < l.length) {y : Int} (h : at0 l i < y) : cntG l y ≤ l.length - (i + 1) := by
  unfold cntG
  conv => lhs; rw [← List.take_append_drop (i + 1) l, List.filter_append, List.length_append]
  have h1 : (l.take (i + 1)).filter (fun x => decide (y ≤ x)) = [] := by
    rw [List.filter_eq_nil_iff]
    intro x hx
    obtain ⟨k, hk, rfl⟩ := List.mem_iff_getElem.1 hx
    rw [List.length_take] at hk
    rw [List.getElem_take]
    have h2 : l[k] = at0 l k := by simp [at0, List.getD, List.getElem?_eq_getElem (show k < l.length by omega)]
    rw [h2]
    have h3 : at0 l k ≤ at0 l i := by
      by_cases e : k = i
      · subst e; exact Int.le_refl _
      · exact hs k i (by omega) hi
    simp only [decide_eq_true_eq]
    omega
  rw [h1]
  have h2 := List.length_filter_le (fun x => decide (y ≤ x)) (l.drop (i + 1))
  rw [List.length_drop] at h2
  simpa using h2
theorem cntG_perm {l l' : List Int} (h : l.Perm l') (y : Int) : cntG l y = cntG l' y := (h.filter _).length_eq
theorem best_top {l : List Int} {m : Int} (hc : ∀ y ∈ l, l.length < 2 * cntG l y ↔ y ≤ m) : ∀ (part : List Int) (a : Int), a ≤ m → (∀ y ∈ part, y ∈ l) →
    a ≤ part.foldl (fun m y => if l.length < 2 * cntG l y then max m y else m) a ∧ part.foldl (fun m y => if l.length < 2 * cntG l y then max m y else m) a ≤ m ∧ (m ∈ part → part.foldl (fun m y => if l.length < 2 * cntG l y then max m y else m) a = m)
  | [], a, ha, _ => ⟨Int.le_refl _, ha, fun h => by cases h⟩
  | y :: part, a, ha, hm => by
    have hy := hc y (hm y (by simp))
    rw [List.foldl_cons]
    by_cases e : l.length < 2 * cntG l y
    · rw [if_pos e]
      have e1 := hy.1 e
      obtain ⟨a1, a2, a3⟩ := best_top hc part (max a y) (by omega) fun z hz => hm z (by simp [hz])
      refine ⟨by omega, a2, fun h => ?_⟩
      rcases List.mem_cons.1 h with h | h
      · omega
      · exact a3 h
    · rw [if_neg e]
      have e1 : ¬ y ≤ m := fun g => e (hy.2 g)
      obtain ⟨a1, a2, a3⟩ := best_top hc part a ha fun z hz => hm z (by simp [hz])
      refine ⟨a1, a2, fun h => ?_⟩
      rcases List.mem_cons.1 h with h | h
      · omega
      · exact a3 h
/-- the middle of the sorted list is the greatest that more than half have reached -/
theorem mid_best {l zs : List Int} (hp : l.Perm zs) (hs : sortedTo l l.length) (h0 : 0 < l.length) (hn : ∀ x ∈ zs, 0 ≤ x) : at0 l ((l.length - 1) / 2) = best zs zs := by
  have hi : (l.length - 1) / 2 < l.length := by omega
  have hmem : at0 l ((l.length - 1) / 2) ∈ zs := by
    rw [← hp.mem_iff]
    have h2 : at0 l ((l.length - 1) / 2) = l[(l.length - 1) / 2] := by simp [at0, List.getD, List.getElem?_eq_getElem hi]
    rw [h2]; exact List.getElem_mem _
  refine ((best_top (fun y hy => ?_) zs 0 (hn _ hmem) fun y hy => hy).2.2 hmem).symm
  rw [← cntG_perm hp, ← hp.length_eq]
  constructor
  · intro h
    refine Int.not_lt.1 fun g => ?_
    have := cnt_lo hs hi g
    omega
  · intro h
    have := cnt_hi hs hi h
    omega
end Nm
end Go.Proofs.Ytogebbplfoainaa
