/- What may last, by the document's own answer. No condition. -/
import Derived.Test.YtgbblegcjladaaaHdC
import Derived.Test.YtgbblegcjladaaaShR
import Derived.Test.YtgbblegcjladaaaCmdKJ
namespace Go.Proofs.Ytgbblegcjladaaa
open Go.ChangeShapes Go.WideShapes Go.ChangeAt Go.RowKit
set_option linter.unusedVariables false
set_option maxRecDepth 100000
namespace Hd
theorem cmd_rcheck (c : Cmd) (v : Value) (w : World) (h : IsCmd w v c) :
    Calls Try.prog 59 #[v] w fun e w' => e = .returned (.int .i64 (Cm.cErr (Cm.chkC c))) ∧ Below w.heap.size w w' := by
  have hw : c.wf := by obtain ⟨_, _, _, h⟩ := h; exact h
  rw [← Cm.rchk_eq hw]
  exact Cm.rcheck_any c v w h
def preOk (h : Har) : Prop := h.boot ≤ top62 ∧ Sh.shotOk h.shot ∧ h.shot.index ≤ top62 ∧ h.shot.index + h.log.length ≤ top62 ∧ 0 ≤ h.vote ∧ h.vote ≤ 7 ∧ (h.term = 0 → h.vote = 0)
theorem hard_iff (h : Har) : hardOk h ↔ preOk h ∧ logUp h.shot.term h.log h.log.length ∧ befE h.shot.term h.log ≤ h.term :=
  ⟨fun g => ⟨⟨g.1, g.2.1, g.2.2.1, g.2.2.2.1, g.2.2.2.2.2.2.1, g.2.2.2.2.2.2.2.1, g.2.2.2.2.2.2.2.2⟩, g.2.2.2.2.1, g.2.2.2.2.2.1⟩, fun g => ⟨g.1.1, g.1.2.1, g.1.2.2.1, g.1.2.2.2.1, g.2.1, g.2.2, g.1.2.2.2.2.1, g.1.2.2.2.2.2.1, g.1.2.2.2.2.2.2⟩⟩
theorem pre_down {h : Har} {g : Bool} {k : Nat} (HU : g = true ↔ preOk h ∧ logUp h.shot.term h.log k) (hg : g = false) : (false = true ↔ preOk h ∧ logUp h.shot.term h.log (k + 1)) :=
  ⟨fun h => (by cases h), fun q => by have := HU.2 ⟨q.1, fun j y hj hy => q.2 j y (by omega) hy⟩; rw [hg] at this; exact this⟩

end Hd
end Go.Proofs.Ytgbblegcjladaaa
