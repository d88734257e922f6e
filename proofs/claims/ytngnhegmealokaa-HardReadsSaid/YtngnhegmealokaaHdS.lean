/- A copy of what lasts. No condition. -/
import Derived.Test.YtngnhegmealokaaEnM
import Derived.Test.YtngnhegmealokaaShS
namespace Go.Proofs.Ytngnhegmealokaa
open Go.ChangeShapes Go.WideShapes Go.ChangeAt Go.RowKit
set_option linter.unusedVariables false
set_option maxRecDepth 100000
theorem EntsO.map {w w' : World} {B D : Nat} {ob : Option Nat} {rows : List ERow} (h : EntsO w B ob rows) (f : ∀ v zs, OwnK .i64 3 w B v zs → OwnK .i64 3 w' D v zs) : Ents w' rows :=
  fun r hr => ⟨(f _ _ (h r hr).1).sl (h r hr).2.2.1, (h r hr).2.1⟩
namespace Hd
theorem hArr_one (h : Har) (a b c d : Option Addr) (i j k m p q r s : Nat) : (hArr h (.slice a i j) (.slice b k m) (.slice c p q) (.slice d r s)).all (·.oneCell') = true := by simp [Value.oneCell']
theorem lt_of_row {w : World} {g : Nat} {o : Obj} (h : w.heap[g]? = some o) : g < w.heap.size := (Array.getElem?_eq_some_iff.1 h).1
def GivesHard (h : Har) (w : World) (e : Ending) (w' : World) : Prop := ∃ v, e = .returned v ∧ IsHard w' v h ∧ Below w.heap.size w w'
end Hd
end Go.Proofs.Ytngnhegmealokaa
