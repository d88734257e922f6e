/- A request: ledger.once. No condition but sizes. (Printed by wip/tools/laonce.py.) -/
import Derived.Test.YtgbblegcjladaaaLaH
namespace Go.Proofs.Ytgbblegcjladaaa
open Go.ChangeShapes Go.WideShapes Go.ChangeAt Go.RowKit Go.Lib
set_option linter.unusedVariables false
set_option maxRecDepth 100000
namespace La
open Ld Cm
theorem last_eql (x y : LastR) (w : World) : (binOp .eql 103 (.agg (lastA x)) (.agg (lastA y))).run Try.prog w = .ok (.bool (decide (x = y))) w := by
  obtain ⟨a1, a2, a3, a4, a5, a6⟩ := x
  obtain ⟨b1, b2, b3, b4, b5, b6⟩ := y
  go_simp
  by_cases h1 : a1 = b1 <;> by_cases h2 : a2 = b2 <;> by_cases h3 : a3 = b3 <;> by_cases h4 : a4 = b4 <;> by_cases h5 : a5 = b5 <;> by_cases h6 : a6 = b6 <;> simp [h1, h2, h3, h4, h5, h6]
theorem again_iff {c : Cmd} {r : LastR} (h : r.node = c.node) : again c r = decide (r = ⟨c.node, c.boot, c.seq, r.code, r.token, r.serial⟩) := by
  obtain ⟨a1, a2, a3, a4, a5, a6⟩ := r
  unfold again
  simp only [] at h
  subst h
  simp
theorem size_cells (g : Nat) : ∀ (vs : List Value) (o : Nat) (w : World), (w.setCells g o vs).heap.size = w.heap.size
  | [], _, _ => rfl
  | v :: r, o, w => (size_cells g r (o + 1) _).trans (by simp)
theorem other_cells (g q : Nat) : ∀ (vs : List Value) (o : Nat) {w : World}, q ≠ g → (w.setCells g o vs).heap[q]? = w.heap[q]?
  | [], _, _, _ => rfl
  | v :: r, o, w, h => (other_cells g q r (o + 1) h).trans (heap_setCell_other _ _ _ _ (by show q ≠ g; exact h))
theorem below_cells (p : Nat) {g : Nat} (hg : p ≤ g) : ∀ (vs : List Value) (o : Nat) (w : World), Below p w (w.setCells g o vs)
  | [], _, _ => Below.refl _ _
  | v :: r, o, w => ((Below.refl _ _).setCell hg _).trans (below_cells p hg r (o + 1) _)
theorem Wid.cells {p : Nat} {a b : Option Nat} {w w' : World} (h : Wid p a b w w') {g : Nat} (hg : b = some g ∨ w.heap.size ≤ g) (o : Nat) (vs : List Value) : Wid p a b w (w'.setCells g o vs) := by
  refine ⟨?_, ?_, ?_, by rw [size_cells]; exact h.size, fun k hk h1 h2 h3 => (other_cells _ _ _ _ (fun e => ?_)).trans (h.block k hk h1 h2 h3)⟩
  · exact (below_cells 0 (Nat.zero_le g) vs o w').os.trans h.os
  · exact (below_cells 0 (Nat.zero_le g) vs o w').tape.trans h.tape
  · exact (below_cells 0 (Nat.zero_le g) vs o w').output.trans h.output
  · subst e
    rcases hg with h4 | h4
    · exact h3 h4.symm
    · omega
theorem put_set {k : Nat} {l : List LastR} {x y : LastR} (hk : k ≤ l.length) : (putAt k x l).set k y = putAt k y l := by
  unfold putAt
  rw [List.set_append, if_neg (by rw [List.length_take]; omega), List.length_take, Nat.min_eq_left hk, Nat.sub_self, List.set_cons_zero]
theorem last_short {L N : Int} {xs : List LastR} (h : lastP L N xs) : xs.length ≤ 7 := by
  obtain ⟨hp, hb⟩ := h
  rcases Nat.eq_zero_or_pos xs.length with h0 | h0
  · omega
  · have hge : ∀ j (hj : j < xs.length), (j : Int) + 1 ≤ xs[j].node := by
      intro j hj
      induction j with
      | zero => have := (hb _ (List.getElem_mem hj)).1; omega
      | succ j ih => have := ih (by omega); have := List.pairwise_iff_getElem.1 hp j (j + 1) (by omega) hj (by omega); omega
    have h8 := hge (xs.length - 1) (by omega)
    have h9 := (hb _ (List.getElem_mem (by omega : xs.length - 1 < xs.length))).2.1
    omega
theorem below_of_grown {w w' : World} {r : Option Nat} {p : Nat} (h : w.grownBy w' r) (hr : ∀ q, r = some q → p ≤ q) (hp : p ≤ w.heap.size) : Below p w w' :=
  ⟨h.os, h.tape, h.output, h.size, fun k hk => h.block k (by omega) (fun e => by have := hr k e.symm; omega)⟩
theorem fit_of {l : Led} (hL : LedP l) (hw : l.wf) : Fit l := ⟨hL.1, hL.2.1, hL.2.2.2.1, hw.2.1⟩

end La
end Go.Proofs.Ytgbblegcjladaaa
