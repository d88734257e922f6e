/- A token's row: ledger.Find. No condition. -/
import Derived.Test.YtgbblegcjladaaaLaE
import Derived.Test.YtgbblegcjladaaaLedN
import Derived.Test.YtgbblegcjladaaaLcM
namespace Go.Proofs.Ytgbblegcjladaaa
open Go.ChangeShapes Go.WideShapes Go.ChangeAt Go.RowKit
set_option linter.unusedVariables false
set_option maxRecDepth 100000
namespace La
open Ld Cm
def hasT (t : Int) (xs : List Held) : Bool := xs.any fun x => x.token == t
theorem new2' (w : World) (A B : Obj) : ((w.alloc A).alloc B).heap[w.heap.size + 1]? = some B := by have := heap_alloc_new (w.alloc A) B; simpa using this
theorem hA_one (x : Held) : (hA x).all (·.oneCell') = true := by simp [Value.oneCell']
/-- what Find hands back: a row (whatever it is), and whether there is one -/
def Finds (t : Int) (xs : List Held) (w : World) (e : Ending) (w' : World) : Prop := ∃ x : Held, e = .returned (.tuple #[.agg (hA x), .bool (hasT t xs)]) ∧ Below w.heap.size w w'
end La
end Go.Proofs.Ytgbblegcjladaaa
