/- Package values: CopyLedger. No condition. Package values: CopyShot. No condition. Package values: CopyHard. No condition. -/
import Derived.Test.YtngnhegmealokaaLcM
import Derived.Test.YtngnhegmealokaaIns
import Derived.Test.YtngnhegmealokaaShS
import Derived.Deep.MidRow
import Derived.Test.YtngnhegmealokaaHdS
import Derived.Test.YtngnhegmealokaaVcM
namespace Go.Proofs.Ytngnhegmealokaa
open Go.ChangeShapes Go.WideShapes Go.ChangeAt Go.RowKit
set_option linter.unusedVariables false
set_option maxRecDepth 100000
namespace Vc
open Ld
end Vc
end Go.Proofs.Ytngnhegmealokaa
namespace Go.Proofs.Ytngnhegmealokaa
open Go.ChangeShapes Go.WideShapes Go.ChangeAt Go.RowKit
set_option linter.unusedVariables false
set_option maxRecDepth 100000
namespace Vc
open Sh
end Vc
end Go.Proofs.Ytngnhegmealokaa
namespace Go.Proofs.Ytngnhegmealokaa
open Go.ChangeShapes Go.WideShapes Go.ChangeAt Go.RowKit
set_option linter.unusedVariables false
set_option maxRecDepth 100000
namespace Vc
open Hd Cm
/-- what lasts, whose lists are all the call's own -/
def GivesHardO (h : Har) (w : World) (e : Ending) (w' : World) : Prop := ∃ vn vh vl vg rows, e = .returned (.agg (hArr h vn vh vl vg)) ∧ OwnI w' w.heap.size vn h.shot.nodes ∧ OwnR 5 heldC 72 w' w.heap.size vh h.shot.led.held ∧ OwnR 6 lastC 76 w' w.heap.size vl h.shot.led.last ∧ OwnR 9 entC 27 w' w.heap.size vg rows ∧ EntsO w' w.heap.size vg.ownBlock rows ∧ rows.map Prod.fst = h.log ∧ Below w.heap.size w w'
end Vc
end Go.Proofs.Ytngnhegmealokaa
