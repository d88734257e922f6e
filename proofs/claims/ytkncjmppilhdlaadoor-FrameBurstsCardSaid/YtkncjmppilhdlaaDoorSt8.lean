/- Bytes that the call owns: read and written one by one. No condition. -/
import Derived.Test.YtkncjmppilhdlaaDoorS8
namespace Go.Proofs.YtkncjmppilhdlaaDoor
open Go.ChangeShapes Go.WideShapes Go.ChangeAt Go.RowKit
set_option linter.unusedVariables false
theorem store8 {w : World} {B g n cap : Nat} {xs : List Int} (h : Own w B (.slice (some ⟨g, 0, none⟩) n cap) xs) (j : Nat) (z : Int) :
    Own (w.setCell ⟨g, j, none⟩ (.int .u8 z)) B (.slice (some ⟨g, 0, none⟩) n cap) (xs.set j z) := by
  have hn : n = xs.length := by
    have := h.2
    rcases this with ⟨h', _⟩ | ⟨g', cap', cur, h', _⟩
    · simp at h'
    · simp at h'; exact h'.2.1
  subst hn
  have h1 := (World.ownsRow.stored h j (.int .u8 z)).1
  unfold Own
  rw [List.length_set, List.map_set]
  exact h1
theorem cell8 {w : World} {B g n cap : Nat} {xs : List Int} (h : Own w B (.slice (some ⟨g, 0, none⟩) n cap) xs) {k : Nat} (hk : k < xs.length) : w.cell? ⟨g, k, none⟩ = some (.int .u8 (xs.getD k 0)) := by
  have h := World.ownsRow.cells h (g := g) rfl k (.int .u8 (xs.getD k 0)) (by simp [List.getElem?_map, List.getElem?_eq_getElem hk, List.getD])
  rw [add_plain, Nat.zero_add] at h
  exact h
theorem froz8 {w : World} {B g n cap : Nat} {xs : List Int} (h : Own w B (.slice (some ⟨g, 0, none⟩) n cap) xs) (k : Nat) : w.frozen? ⟨g, k, none⟩ = false := by
  have hn : n = xs.length := by
    have := h.2
    rcases this with ⟨h', _⟩ | ⟨g', cap', cur, h', _⟩
    · simp at h'
    · simp at h'; exact h'.2.1
  subst hn
  have h2 : w.ownsRow B 5 1 (.slice (some ⟨g, 0, none⟩) xs.length cap) xs.length (xs.map (Value.int .u8)) := h
  exact h2.frozenAt k
/-- nil, or at the head of a block of the call's -/
theorem Own.cases {w : World} {B : Nat} {v : Value} {xs : List Int} (h : Own w B v xs) : (v = .slice none 0 0 ∧ xs = []) ∨ ∃ g cap, v = .slice (some ⟨g, 0, none⟩) xs.length cap ∧ B ≤ g ∧ xs.length ≤ cap ∧ cap ≤ maxLen := by
  rcases h.2 with ⟨h1, h0⟩ | ⟨g, cap, cur, e, hg, hh, hle, hcm, _⟩
  · exact .inl ⟨h1, List.eq_nil_of_length_eq_zero h0⟩
  · exact .inr ⟨g, cap, e, hg, hle, hcm⟩
end Go.Proofs.YtkncjmppilhdlaaDoor
