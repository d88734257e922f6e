/- New ledgers: ledger.New and the document's own. No condition. -/
import Derived.Test.YtgbblegcjladaaaBse
import Derived.Laws.Rows
import Derived.Laws.NewBlocks
namespace Go.Proofs.Ytgbblegcjladaaa
open Go.ChangeShapes Go.WideShapes Go.ChangeAt Go.RowKit
set_option linter.unusedVariables false
set_option maxRecDepth 100000
theorem results_cell2 {P : Program} {fn : Func} {p a : Tmp} {ty : TypeId} (h : fn.results = #[.cell p ty, .tmp a]) (tmps : Array Value) (w : World) (g : Nat) (t : TypeId) (cs : Array Value) (fr : Nat × Nat) (d : TypeDesc)
    (hp : tmps.getD p undef = .pointer (some ⟨g, 0, none⟩)) (hg : w.heap[g]? = some (.cells cs t fr))
    (hu : P.underlying ty = some d) (hd : (match d with | .struct _ | .array _ _ => true | _ => false) = true) (hi : (P.info? ty).map (·.size) = some cs.size) {x : Value} (hx : tmps.getD a undef = x) :
    (results fn tmps).run P w = .ok (.tuple #[.agg cs, x]) w := by
  subst hx
  have hp' : tmps[p]?.getD undef = .pointer (some ⟨g, 0, none⟩) := by simpa using hp
  simp [results, h, hp', asAddr, run_loadVar_row w g t ty cs fr d hg hu hd hi]
namespace Ld

abbrev nilA (l n : Int) : Array Value := #[.int .i64 l, .int .u64 n, .slice none 0 0, .slice none 0 0]
def newL (k : Int) : Int := if 1 ≤ k ∧ k ≤ 65535 then k else 0
def newN (k : Int) : Int := if 1 ≤ k ∧ k ≤ 65535 then 1 else 0
def newE (k : Int) : Int := if 1 ≤ k ∧ k ≤ 65535 then 0 else 1
def New (k : Int) (w : World) (e : Ending) (w' : World) : Prop := e = .returned (.tuple #[.agg (nilA (newL k) (newN k)), .int .i64 (newE k)]) ∧ Below w.heap.size w w'

end Ld
end Go.Proofs.Ytgbblegcjladaaa
