/- A snapshot read as an argument. No condition. -/
import Derived.Test.YtgbblegcjladaaaLcM
import Derived.Test.YtgbblegcjladaaaBse
namespace Go.Proofs.Ytgbblegcjladaaa
open Go.ChangeShapes Go.WideShapes Go.ChangeAt Go.RowKit Go.Deep
set_option linter.unusedVariables false
set_option maxRecDepth 100000
structure Sho where
  index : Int
  term : Int
  nodes : List Int
  led : Led
abbrev sArr (s : Sho) (vn vh vl : Value) : Array Value := #[.int .u64 s.index, .int .u64 s.term, vn, .int .i64 s.led.limit, .int .u64 s.led.next, vh, vl]
def Sho.wf (s : Sho) : Prop := (Lit.int .u64 s.index).wf = true ∧ (Lit.int .u64 s.term).wf = true ∧ s.led.wf
def IsShot (w : World) (v : Value) (s : Sho) : Prop := ∃ vn vh vl, v = .agg (sArr s vn vh vl) ∧ Sl .i64 w vn s.nodes ∧ SlR 5 heldC w vh s.led.held ∧ SlR 6 lastC w vl s.led.last ∧ s.wf
def IsShot.size (s : Sho) : Nat := 0
def IsShot.fits (s : Sho) : Prop := s.nodes.length * 8 ≤ 140737488351232 ∧ IsLed.fits s.led
theorem IsShot.below {w w' : World} {v : Value} {s : Sho} {B : Nat} (h : IsShot w v s) (hb : Below B w w') (hB : w.heap.size ≤ B) : IsShot w' v s := by
  obtain ⟨vn, vh, vl, e, h0, h1, h2, h3⟩ := h
  exact ⟨vn, vh, vl, e, h0.below hb hB, h1.below hb hB, h2.below hb hB, h3⟩
section
variable {H : Type} {enc : TypeId × Value → H} {W : World}
end
namespace Sh
end Sh
end Go.Proofs.Ytgbblegcjladaaa
