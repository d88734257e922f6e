/- The document's Slice. No condition but the bounds of what may last. -/
import Derived.Test.YtnmlbakiolecnaaRlH
namespace Go.Proofs.Ytnmlbakiolecnaa
open Go.ChangeShapes Go.WideShapes Go.ChangeAt Go.RowKit
set_option linter.unusedVariables false
set_option maxRecDepth 100000
namespace Rl
open Hd
/-- is an entry taken? -/
def inP (h : Har) (i m : Int) (n k : Nat) : Prop := hardOk h ∧ i ≤ h.shot.index + k + 1 ∧ h.shot.index < i ∧ (n : Int) < m
open Classical in
noncomputable def outV (h : Har) (i m : Int) : Nat → List Ent
  | 0 => []
  | k + 1 => match h.log[k]? with
    | some x => if inP h i m (outV h i m k).length k then outV h i m k ++ [x] else outV h i m k
    | none => outV h i m k
theorem out_yes {h : Har} {i m : Int} {k : Nat} {x : Ent} (hx : h.log[k]? = some x) (hp : inP h i m (outV h i m k).length k) : outV h i m (k + 1) = outV h i m k ++ [x] := by
  rw [outV, hx]; exact if_pos hp
theorem out_no {h : Har} {i m : Int} {k : Nat} {x : Ent} (hx : h.log[k]? = some x) (hp : ¬ inP h i m (outV h i m k).length k) : outV h i m (k + 1) = outV h i m k := by
  rw [outV, hx]; exact if_neg hp
theorem out_len {h : Har} {i m : Int} : ∀ k, (outV h i m k).length ≤ k
  | 0 => Nat.le_refl _
  | k + 1 => by
    have := out_len (h := h) (i := i) (m := m) k
    rw [outV]
    split
    · split
      · rw [List.length_append]; simpa using this
      · omega
    · omega
theorem out_take {h : Har} {i m : Int} (ok : hardOk h) (hi : h.shot.index < i) : ∀ k, k ≤ h.log.length → outV h i m k = ((h.log.take k).drop ((i - h.shot.index).toNat - 1)).take m.toNat
  | 0, _ => by simp [outV]
  | k + 1, hk => by
    have ih := out_take (m := m) ok hi k (by omega)
    have hx : h.log[k]? = some h.log[k] := List.getElem?_eq_getElem (by omega)
    have hl : (h.log.take k).length = k := by rw [List.length_take]; omega
    rw [List.take_succ_eq_append_getElem (by omega)]
    by_cases c : (i - h.shot.index).toNat - 1 ≤ k
    · have hol : (outV h i m k).length = min m.toNat (k - ((i - h.shot.index).toNat - 1)) := by rw [ih, List.length_take, List.length_drop, hl]
      rw [List.drop_append_of_le_length (by omega)]
      by_cases c2 : inP h i m (outV h i m k).length k
      · rw [out_yes hx c2, ih]
        have h4 := c2.2.2.2
        rw [hol] at h4
        have q1 : ((h.log.take k).drop ((i - h.shot.index).toNat - 1)).take m.toNat = (h.log.take k).drop ((i - h.shot.index).toNat - 1) := List.take_of_length_le (by rw [List.length_drop, hl]; omega)
        have q2 : ((h.log.take k).drop ((i - h.shot.index).toNat - 1) ++ [h.log[k]]).take m.toNat = (h.log.take k).drop ((i - h.shot.index).toNat - 1) ++ [h.log[k]] := List.take_of_length_le (by rw [List.length_append, List.length_drop, hl, List.length_singleton]; omega)
        rw [q1, q2]
      · rw [out_no hx c2, ih]
        have h4 : ¬ ((outV h i m k).length : Int) < m := fun q => c2 ⟨ok, by omega, hi, q⟩
        rw [hol] at h4
        have q2 : ((h.log.take k).drop ((i - h.shot.index).toNat - 1) ++ [h.log[k]]).take m.toNat = ((h.log.take k).drop ((i - h.shot.index).toNat - 1)).take m.toNat := List.take_append_of_le_length (by rw [List.length_drop, hl]; omega)
        rw [q2]
    · have c2 : ¬ inP h i m (outV h i m k).length k := fun q => by have := q.2.1; omega
      rw [out_no hx c2, ih, List.drop_eq_nil_of_le (by omega), List.drop_eq_nil_of_le (by rw [List.length_append, hl]; simp; omega)]
theorem out_slice {h : Har} {i m : Int} (hs : 0 ≤ h.shot.index) : outV h i m h.log.length = sliceV h i m := by
  by_cases ok : hardOk h
  · by_cases hi : h.shot.index < i
    · rw [out_take ok hi _ (Nat.le_refl _), List.take_length]
      by_cases c : i ≤ lastI h ∧ 1 ≤ m
      · rw [sliceV_yes ok ⟨hi, c.1⟩ c.2]
      · rw [sliceV_no fun q => c ⟨q.2.1.2, q.2.2⟩]
        unfold lastI at c
        by_cases c2 : 1 ≤ m
        · rw [List.drop_eq_nil_of_le (by omega)]; simp
        · rw [show m.toNat = 0 by omega]; simp
    · rw [sliceV_no fun q => hi q.2.1.1]
      have : ∀ k, outV h i m k = [] := fun k => by
        induction k with
        | zero => rfl
        | succ k ih =>
          rw [outV]
          split
          · rw [if_neg fun q => hi q.2.2.1]; exact ih
          · exact ih
      exact this _
  · rw [sliceV_no fun q => ok q.1]
    have : ∀ k, outV h i m k = [] := fun k => by
      induction k with
      | zero => rfl
      | succ k ih =>
        rw [outV]
        split
        · rw [if_neg fun q => ok q.1]; exact ih
        · exact ih
    exact this _
end Rl
end Go.Proofs.Ytnmlbakiolecnaa
