/- Which row a command names: ledger.fitting. No condition. -/
import Derived.Test.YtgbblegcjladaaaLaC
import Derived.Test.YtgbblegcjladaaaLdB
namespace Go.Proofs.Ytgbblegcjladaaa
open Go.ChangeShapes Go.WideShapes Go.ChangeAt Go.RowKit
set_option linter.unusedVariables false
set_option maxRecDepth 100000
namespace La
open Ld Cm

def fitZ (c : Cmd) (xs : List Held) : Int := if fitAt c xs < xs.length then (fitAt c xs : Int) else -1
theorem fitAt_of {c : Cmd} {xs : List Held} {k : Nat} {x : Held} (hx : xs[k]? = some x) (h : ∀ y ∈ xs.take k, named c y = false) (hn : named c x = true) : fitAt c xs = k := by
  obtain ⟨hk, rfl⟩ := List.getElem?_eq_some_iff.1 hx
  unfold fitAt
  rw [List.findIdx_eq hk]
  refine ⟨hn, fun j hj => h _ (List.mem_take_iff_getElem.2 ⟨j, by omega, rfl⟩)⟩
theorem fitAt_none {c : Cmd} {xs : List Held} (h : ∀ y ∈ xs, named c y = false) : fitAt c xs = xs.length := by
  unfold fitAt
  rw [List.findIdx_eq_length]
  exact h
/-- the row that would be named -/
def wanted (c : Cmd) (x : Held) : Held := if c.kind = 6 then ⟨c.token, x.node, x.boot, c.serial, c.stamp⟩ else ⟨c.token, c.node, c.boot, c.serial, x.stamp⟩
theorem named_iff (c : Cmd) (x : Held) : named c x = decide (x = wanted c x) := by
  unfold named wanted
  obtain ⟨a, b, d, e, f⟩ := x
  by_cases h : c.kind = 6
  · rw [if_pos h, if_pos h]
    simp
  · rw [if_neg h, if_neg h]
    simp
theorem box_row {w wr : World} {A : Array Value} {T : TypeId} (hb : Below (w.heap.size + 1) (w.alloc (.cells A T)) wr) : wr.heap[w.heap.size]? = some (.cells A T (0, 0)) :=
  (hb.block w.heap.size (by omega)).trans (heap_alloc_new _ _)
theorem held_eql (x y : Held) (w : World) : (binOp .eql 47 (.agg (hA x)) (.agg (hA y))).run Try.prog w = .ok (.bool (decide (x = y))) w := by
  obtain ⟨a1, a2, a3, a4, a5⟩ := x
  obtain ⟨b1, b2, b3, b4, b5⟩ := y
  go_simp
  by_cases h1 : a1 = b1 <;> by_cases h2 : a2 = b2 <;> by_cases h3 : a3 = b3 <;> by_cases h4 : a4 = b4 <;> by_cases h5 : a5 = b5 <;> simp [h1, h2, h3, h4, h5]

end La
end Go.Proofs.Ytgbblegcjladaaa
