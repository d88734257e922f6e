/- The document's own Encode of a message. No condition. -/
import Derived.Test.YtlfaiemebfkajaaGreatDoorMxM
import Derived.Test.YtlfaiemebfkajaaGreatDoorMsW
import Derived.Test.YtlfaiemebfkajaaGreatDoorEcC
import Derived.Test.YtlfaiemebfkajaaGreatDoorCeB
namespace Go.Proofs.YtlfaiemebfkajaaGreatDoor
open Go.ChangeShapes Go.WideShapes Go.ChangeAt Go.RowKit Go.Deep
set_option linter.unusedVariables false
set_option maxRecDepth 100000
namespace Ms
open Nv Cm Sc
def letB (f : Int) : Int := if f = 0 then 116 else if f = 1 then 105 else if f = 2 then 108 else if f = 3 then 99 else if f = 4 then 102 else if f = 5 then 101 else 115
theorem sbs_fieldT {k : Int} (h : kindM k) : Cm.sbs (fieldT k) = (fieldsM k).map letB := by
  unfold kindM at h
  rcases (show k = 1 ∨ k = 2 ∨ k = 3 ∨ k = 4 ∨ k = 5 ∨ k = 6 by omega) with rfl | rfl | rfl | rfl | rfl | rfl <;> decide
/-- what is known while the document writes a message's bytes -/
def RM (w : World) (cs : Array Value) (vf : Value) (fs : List Int) (v : Value) (bs : List Int) (W : World) : Prop :=
  Own W w.heap.size v bs ∧ Below w.heap.size w W ∧ W.heap[w.heap.size]? = some (.cells cs 33 (0, 0)) ∧ Sl .u8 W vf fs ∧ Far W v vf fs
theorem RM.call {w W W' : World} {cs : Array Value} {vf : Value} {fs : List Int} {v : Value} {bs : List Int} (h : RM w cs vf fs v bs W) (hb : Below W.heap.size W W') : RM w cs vf fs v bs W' :=
  ⟨h.1.below hb (Nat.le_refl _), h.2.1.trans (hb.mono h.2.1.size), (hb.block _ (row_lt h.2.2.1)).trans h.2.2.1, h.2.2.2.1.below hb (Nat.le_refl _), h.2.2.2.2.below hb⟩
theorem RM.app {w W W' : World} {cs : Array Value} {vf : Value} {fs : List Int} {v v' : Value} {bs bs' : List Int} (h : RM w cs vf fs v bs W) (own : Own W' w.heap.size v' bs') (hg : W.grownBy W' v.ownBlock) (hl : Lies W v v') : RM w cs vf fs v' bs' W' :=
  ⟨own, h.2.1.trans (below_grown h.1 h.2.1.size hg), ByT.grown h.1 hg _ _ _ _ h.2.2.1 (by decide), h.2.2.2.1.far h.2.2.2.2 hg, h.2.2.2.2.step hg hl⟩
end Ms
end Go.Proofs.YtlfaiemebfkajaaGreatDoor
