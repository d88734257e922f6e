/- A node's rows: ledger.Of and the document's own. No condition but the list's size. -/
import Derived.Test.YtgbblegcjladaaaLdB
import Derived.Laws.Rows
import Derived.Laws.NewBlocks
import Derived.Deep.QuietTactic
import Derived.BigQuiet
namespace Go.Proofs.Ytgbblegcjladaaa
open Go.ChangeShapes Go.WideShapes Go.ChangeAt Go.RowKit
set_option linter.unusedVariables false
set_option maxRecDepth 100000
namespace Ld
def ofL (n : Int) (l : List Held) : List Held := l.filter fun x => x.node == n
theorem ofL_le (n : Int) (l : List Held) : (ofL n l).length ≤ l.length := List.length_filter_le _ _
theorem ofL_snoc (n : Int) (l : List Held) (x : Held) : ofL n (l ++ [x]) = if x.node = n then ofL n l ++ [x] else ofL n l := by
  unfold ofL
  by_cases h : x.node = n <;> simp [List.filter_append, h]
def MadeH (xs : List Held) (w : World) (e : Ending) (w' : World) : Prop := ∃ v, e = .returned v ∧ OwnR 5 heldC 47 w' w.heap.size v xs ∧ SlR 5 heldC w' v xs ∧ Below w.heap.size w w'

end Ld
end Go.Proofs.Ytgbblegcjladaaa
