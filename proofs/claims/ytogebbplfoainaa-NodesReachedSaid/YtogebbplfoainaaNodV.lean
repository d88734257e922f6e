/- The document's own Majority. No condition but the list's size. -/
import Derived.Test.YtogebbplfoainaaNodJ
import Derived.Test.YtogebbplfoainaaNodH
namespace Go.Proofs.Ytogebbplfoainaa
open Go.ChangeShapes Go.WideShapes Go.ChangeAt Go.RowKit
set_option linter.unusedVariables false
set_option maxRecDepth 100000
/-- an operation whose guard says yes goes as one that has none -/
theorem unguard {P : Program} {ops : Array Oper} {rest : List Oper} {o : Oper} {a : Act} {w : World} {Q : Exit → Act → World → Prop} (hw : Region.wanted o (yielded ops a.tmps) = true)
    (h : wpList P ops Q ({ o with guard := none } :: rest) a w) : wpList P ops Q (o :: rest) a w := by
  unfold wpList at *
  rw [if_pos hw]
  rw [if_pos (show Region.wanted _ _ = true from rfl)] at h
  exact h
namespace Nd
def inV (l votes : List Int) : List Int := l.filter fun n => decide (n ∈ votes)
theorem inV_le (l v : List Int) : (inV l v).length ≤ l.length := List.length_filter_le _ _
theorem inV_snoc (l v : List Int) (z : Int) : inV (l ++ [z]) v = if z ∈ v then inV l v ++ [z] else inV l v := by
  unfold inV
  by_cases h : z ∈ v <;> simp [List.filter_append, h]

theorem maj123 : majB [1, 2, 3] [3, 1] = true := by decide
end Nd
end Go.Proofs.Ytogebbplfoainaa
