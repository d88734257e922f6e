/- What slices.SortFunc leaves of a row that the call owns: a sorted permutation; all else is as it was. No condition. -/
import Derived.Test.YteihopgnpiajoaaOnl
import Derived.Shelf.SlSortCmp.NoneTotal
namespace Go.Proofs.Yteihopgnpiajoaa
open Go.ChangeShapes Go.WideShapes Go.ChangeAt Go.RowKit Go.Deep
set_option linter.unusedVariables false
set_option maxRecDepth 100000
set_option linter.unusedSimpArgs false
namespace Srt
variable {α : Type} [Inhabited α] {sz : Nat} {C : α → List Value} {e : TypeId} {w w' : World} {B g n c : Nat} {xs : List α}
theorem get_ofl (l : List α) (i : Nat) (h : i < l.length) : (l.toArray)[i]! = l[i] := by simp [h]
theorem lget (l : List Value) (i : Nat) (h : i < l.length) : l[i]! = l[i] := by simp [h]
theorem flat_flat (hC : ∀ x, (C x).length = sz) (d : Array α) (t : Nat) (h : t < d.size * sz) : (d.toList.flatMap C)[t]? = some (Sort.flatK C sz d)[t]! := by
  have k0 : 0 < sz := by rcases Nat.eq_zero_or_pos sz with q | q; (subst q; simp at h); exact q
  have h1 : t / sz < d.size := Nat.div_lt_of_lt_mul (by rw [Nat.mul_comm]; exact h)
  have h2 : t % sz < sz := Nat.mod_lt _ k0
  rw [Sort.get_flatK C sz d t h]
  have e1 : d[t / sz]! = d.toList[t / sz]'(by simpa using h1) := by rw [getElem!_pos d _ h1]; simp
  have e2 := flat_at hC d.toList (t / sz) (t % sz) _ ((C d[t / sz]!)[t % sz]!) (by rw [List.getElem?_eq_getElem (by simpa using h1), ← e1]) (by rw [lget _ _ (by rw [hC]; exact h2)]; exact List.getElem?_eq_getElem _)
  rw [Nat.mul_comm, Nat.div_add_mod] at e2
  exact e2
theorem holds (hC : ∀ x, (C x).length = sz) (h : OwnR sz C e w B (.slice (some ⟨g, 0, none⟩) n c) xs) : Sort.HoldsK C sz w g 0 xs.toArray := by
  intro j hj
  rw [Sort.size_flatK] at hj
  have h1 := flat_flat hC xs.toArray j hj
  have hcl := World.ownsRow.cells h (g := g) rfl j _ h1
  rw [add_plain] at hcl
  refine ⟨hcl, ?_⟩
  rcases h.2 with ⟨q, -⟩ | ⟨g2, cap, cur, e2, -, hh, -⟩
  · cases q
  · simp only [Value.slice.injEq, Option.some.injEq, Addr.mk.injEq] at e2
    obtain ⟨⟨rfl, -⟩, -⟩ := e2
    exact frozen_of_row _ _ _ _ _ hh
theorem heap_row (d : Array Value) {cur : Array Value} {t : TypeId} {fr : Nat × Nat} (h : w.heap[g]? = some (.cells cur t fr)) : (Sort.putRow id w g 0 d).heap[g]? = some (.cells (Sort.putCells id 0 d cur) t fr) := by
  unfold Sort.putRow Sort.mapBlock
  simp only [Array.getElem?_modify, if_true, h, Option.map_some, Sort.onCells]
theorem heap_oth (d : Array Value) {i : Nat} (h : i ≠ g) : (Sort.putRow id w g 0 d).heap[i]? = w.heap[i]? := by
  unfold Sort.putRow Sort.mapBlock
  simp only [Array.getElem?_modify, if_neg (fun q => h q.symm : ¬ g = i)]
theorem done (hC : ∀ x, (C x).length = sz) (h : OwnR sz C e w B (.slice (some ⟨g, 0, none⟩) xs.length c) xs) {d' : Array α} {q : Nat} {os : Array Obj} (hs : d'.size = xs.length) (hw : w' = sortWorldK C sz w g 0 q d' os) :
    OwnR sz C e w' B (.slice (some ⟨g, 0, none⟩) xs.length c) d'.toList ∧ Only (fun k => k = g) w w' := by
  rcases h.2 with ⟨q, -⟩ | ⟨g2, cap, cur, e2, hB, hh, hle, hcm, hsz, htk⟩
  · cases q
  simp only [Value.slice.injEq, Option.some.injEq, Addr.mk.injEq] at e2
  obtain ⟨⟨rfl, -⟩, -, rfl⟩ := e2
  have hlt := row_lt hh
  have hrow : w'.heap[g]? = some (.cells (Sort.putCells id 0 (Sort.flatK C sz d') cur) e (0, 0)) := by
    rw [hw]
    unfold sortWorldK
    show ((Sort.putRowK C sz (Sort.ahead w q) g 0 d').heap ++ os)[g]? = _
    rw [Array.getElem?_append_left (by unfold Sort.putRowK Sort.putRow Sort.mapBlock; simpa [Sort.ahead] using hlt)]
    exact heap_row (w := Sort.ahead w q) _ hh
  have hoth : ∀ k, k < w.heap.size → k ≠ g → w'.heap[k]? = w.heap[k]? := fun k hk hne => by
    rw [hw]
    unfold sortWorldK
    show ((Sort.putRowK C sz (Sort.ahead w q) g 0 d').heap ++ os)[k]? = _
    rw [Array.getElem?_append_left (by unfold Sort.putRowK Sort.putRow Sort.mapBlock; simpa [Sort.ahead] using hk)]
    exact heap_oth (w := Sort.ahead w q) _ hne
  have hl : d'.toList.length = xs.length := by simp [hs]
  refine ⟨?_, ?_⟩
  · unfold OwnR
    rw [hl]
    refine ⟨by rw [flat_len hC, hl], .inr ⟨g, c, _, rfl, hB, hrow, hle, hcm, by simpa [Sort.putCells] using hsz, ?_⟩⟩
    apply List.ext_getElem?
    intro t
    rw [List.getElem?_take]
    by_cases ht : t < xs.length * sz
    · rw [if_pos ht, flat_flat hC d' t (by rw [hs]; exact ht)]
      have hc : t < cur.size := by rw [hsz]; exact Nat.lt_of_lt_of_le ht (Nat.mul_le_mul_right _ hle)
      simp [Sort.putCells, hs, ht, hc]
    · rw [if_neg ht, List.getElem?_eq_none (by rw [flat_len hC]; simp [hs]; omega)]
  · refine ⟨by rw [hw]; rfl, by rw [hw]; rfl, by rw [hw]; rfl, ?_, fun k hk hne => hoth k hk hne⟩
    rw [hw]
    unfold sortWorldK
    show w.heap.size ≤ ((Sort.putRowK C sz (Sort.ahead w q) g 0 d').heap ++ os).size
    unfold Sort.putRowK Sort.putRow Sort.mapBlock
    simp [Sort.ahead]
end Srt
end Go.Proofs.Yteihopgnpiajoaa
