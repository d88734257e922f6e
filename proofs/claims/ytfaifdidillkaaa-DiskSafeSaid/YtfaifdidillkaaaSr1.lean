/- What slices.Sort leaves of a row of single cells that the call owns. No condition. -/
import Derived.Test.YtfaifdidillkaaaOnl
import Derived.Shelf.Sort.Plain
import Derived.Shelf.Slices.In.SortNone
namespace Go.Proofs.Ytfaifdidillkaaa
open Go.ChangeShapes Go.WideShapes Go.ChangeAt Go.RowKit Go.Deep
set_option linter.unusedVariables false
set_option maxRecDepth 100000
set_option linter.unusedSimpArgs false
namespace Sr1
variable {β : Type} [Inhabited β] {enc : β → Value} {e : TypeId} {w w' : World} {B g c : Nat} {ss : List β}
theorem get_at (l : List β) (i : Nat) (h : i < l.length) : (l.map enc)[i]? = some (enc (l.toArray)[i]!) := by
  rw [List.getElem?_map, List.getElem?_eq_getElem h]
  simp [h]
theorem holds (h : w.ownsRow B e 1 (.slice (some ⟨g, 0, none⟩) ss.length c) ss.length (ss.map enc)) : Sort.Holds enc w g 0 ss.toArray := by
  intro j hj
  have hj' : j < ss.length := by simpa using hj
  have hcl := World.ownsRow.cells h (g := g) rfl j _ (get_at ss j hj')
  rw [add_plain] at hcl
  refine ⟨hcl, ?_⟩
  rcases h.2 with ⟨q, -⟩ | ⟨g2, cap, cur, e2, -, hh, -⟩
  · cases q
  · simp only [Value.slice.injEq, Option.some.injEq, Addr.mk.injEq] at e2
    obtain ⟨⟨rfl, -⟩, -⟩ := e2
    exact frozen_of_row _ _ _ _ _ hh
theorem done (h : w.ownsRow B e 1 (.slice (some ⟨g, 0, none⟩) ss.length c) ss.length (ss.map enc)) {d : List β} {q : Nat} {os : Array Obj} (hs : d.length = ss.length) (hw : w' = Sort.grow (Sort.putRow enc (Sort.ahead w q) g 0 d.toArray) os) :
    w'.ownsRow B e 1 (.slice (some ⟨g, 0, none⟩) ss.length c) ss.length (d.map enc) ∧ Only (fun k => k = g) w w' := by
  rcases h.2 with ⟨q, -⟩ | ⟨g2, cap, cur, e2, hB, hh, hle, hcm, hsz, htk⟩
  · cases q
  simp only [Value.slice.injEq, Option.some.injEq, Addr.mk.injEq] at e2
  obtain ⟨⟨rfl, -⟩, -, rfl⟩ := e2
  have hlt := row_lt hh
  have hrow : w'.heap[g]? = some (.cells (Sort.putCells enc 0 d.toArray cur) e (0, 0)) := by
    rw [hw]
    show ((Sort.putRow enc (Sort.ahead w q) g 0 d.toArray).heap ++ os)[g]? = _
    rw [Array.getElem?_append_left (by unfold Sort.putRow Sort.mapBlock; simpa [Sort.ahead] using hlt)]
    unfold Sort.putRow Sort.mapBlock
    have : (Sort.ahead w q).heap[g]? = some (.cells cur e (0, 0)) := hh
    simp only [Array.getElem?_modify, if_true, this, Option.map_some, Sort.onCells]
  have hoth : ∀ k, k < w.heap.size → k ≠ g → w'.heap[k]? = w.heap[k]? := fun k hk hne => by
    rw [hw]
    show ((Sort.putRow enc (Sort.ahead w q) g 0 d.toArray).heap ++ os)[k]? = _
    rw [Array.getElem?_append_left (by unfold Sort.putRow Sort.mapBlock; simpa [Sort.ahead] using hk)]
    unfold Sort.putRow Sort.mapBlock
    simp only [Array.getElem?_modify, if_neg (fun q => hne q.symm : ¬ g = k)]
    rfl
  refine ⟨⟨by simp [hs], .inr ⟨g, c, _, rfl, hB, hrow, hle, hcm, by simpa [Sort.putCells] using hsz, ?_⟩⟩, ?_⟩
  · apply List.ext_getElem?
    intro t
    rw [List.getElem?_take]
    by_cases ht : t < ss.length * 1
    · have ht2 : t < d.length := by omega
      rw [if_pos ht, get_at d t ht2]
      have hc : t < cur.size := by rw [hsz]; omega
      have ht3 : t < ss.length := by omega
      simp [Sort.putCells, hs, ht3, hc, ht2]
    · rw [if_neg ht, List.getElem?_eq_none (by rw [List.length_map]; omega)]
  · refine ⟨by rw [hw]; rfl, by rw [hw]; rfl, by rw [hw]; rfl, ?_, fun k hk hne => hoth k hk hne⟩
    rw [hw]
    show w.heap.size ≤ ((Sort.putRow enc (Sort.ahead w q) g 0 d.toArray).heap ++ os).size
    unfold Sort.putRow Sort.mapBlock
    simp [Sort.ahead]
end Sr1
end Go.Proofs.Ytfaifdidillkaaa
