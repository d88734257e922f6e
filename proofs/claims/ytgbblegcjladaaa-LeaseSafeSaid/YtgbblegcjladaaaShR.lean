/- Which snapshots may be, by the document's own answer. No condition. -/
import Derived.Test.YtgbblegcjladaaaShC
import Derived.Test.YtgbblegcjladaaaLcG
namespace Go.Proofs.Ytgbblegcjladaaa
open Go.ChangeShapes Go.WideShapes Go.ChangeAt Go.RowKit
set_option linter.unusedVariables false
set_option maxRecDepth 100000
namespace Sh
def baseOk (s : Sho) : Prop := Nd.chk s.nodes = true ∧ Ld.ledOk s.led ∧ (s.index = 0 ↔ s.term = 0)
theorem shot_iff (s : Sho) : shotOk s ↔ baseOk s ∧ stampsUp s s.led.held.length := ⟨fun h => ⟨⟨h.1, h.2.1, h.2.2.1⟩, h.2.2.2⟩, fun h => ⟨h.1.1, h.1.2.1, h.1.2.2, h.2⟩⟩

end Sh
end Go.Proofs.Ytgbblegcjladaaa
