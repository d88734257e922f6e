/- Whether one is in a list: nodes.Has and the document's own answer. No condition. -/
import Derived.Test.YtogebbplfoainaaBse
namespace Go.Proofs.Ytogebbplfoainaa
open Go.ChangeShapes Go.WideShapes Go.ChangeAt Go.RowKit
set_option linter.unusedVariables false
set_option maxRecDepth 100000
namespace Nd

/-! ### whether one is there -/
def IdxOf (zs : List Int) (n : Int) (w : World) (e : Ending) (w' : World) : Prop := (∃ i : Int, e = .returned (.int .i64 i) ∧ decide (0 ≤ i) = decide (n ∈ zs)) ∧ w = w'
end Nd
end Go.Proofs.Ytogebbplfoainaa
