/- The document's own Check of a command: it tells what package cmd's Check tells. No condition. -/
import Derived.Test.YtlkmdoddgfmnbaaCmdR
import Derived.Deep.QuietTactic
import Derived.BigQuiet
namespace Go.Proofs.Ytlkmdoddgfmnbaa
open Go.ChangeShapes Go.WideShapes Go.ChangeAt Go.RowKit
set_option linter.unusedVariables false
set_option maxRecDepth 100000
namespace Cm

theorem quiet_mine {P : Program} {f : FuncId} {args : Array Value} {w : World} {n : Nat} {v : Value}
    (h : Calls P f args (w.drewN n) fun e w' => e = .returned v ∧ w.drewN n = w') : Calls P f args (w.drewN n) fun e w'' => e = .returned v ∧ ∃ m, w'' = w.drewN m :=
  h.mono fun _ _ ⟨he, hm⟩ => ⟨he, n, hm.symm⟩

theorem fieldS_small (k : Int) : (fieldS k).size ≤ 1000 := by
  unfold fieldS
  repeat' split
  all_goals decide

def listB (c : Cmd) : Bool := if hasB (fieldS c.kind) 108 then Nd.chk c.nodes else c.nodes.isEmpty
def rchk (c : Cmd) : Bool := kindB c.kind && (!decide (c.node < 0) && (!decide (c.token < 0) && (rightB (hasB (fieldS c.kind) 110) c.node 7 && (rightB (hasB (fieldS c.kind) 116) c.token 65535 && (rightB (hasB (fieldS c.kind) 98) c.boot 18446744073709551615 && (rightB (hasB (fieldS c.kind) 113) c.seq 18446744073709551615 && (rightB (hasB (fieldS c.kind) 115) c.serial 18446744073709551615 && (rightB (hasB (fieldS c.kind) 109) c.stamp 18446744073709551615 && listB c))))))))

theorem len_zero (l : List Int) : ((l.length : Int) == 0) = l.isEmpty := by
  cases l with
  | nil => rfl
  | cons a l => simp; omega

end Cm
end Go.Proofs.Ytlkmdoddgfmnbaa
