/- Which snapshots may be: shot.Check. No condition. -/
import Derived.Test.YtgbblegcjladaaaShT
import Derived.Test.YtgbblegcjladaaaLcM
import Derived.Test.YtgbblegcjladaaaBse
namespace Go.Proofs.Ytgbblegcjladaaa
open Go.ChangeShapes Go.WideShapes Go.ChangeAt Go.RowKit
set_option linter.unusedVariables false
set_option maxRecDepth 100000
namespace Sh
def stampsUp (s : Sho) (k : Nat) : Prop := ∀ j y, j < k → s.led.held[j]? = some y → y.stamp ≤ s.index
def shotOk (s : Sho) : Prop := Nd.chk s.nodes = true ∧ Ld.ledOk s.led ∧ (s.index = 0 ↔ s.term = 0) ∧ stampsUp s s.led.held.length
theorem stamps_zero (s : Sho) : stampsUp s 0 := fun j y hj => absurd hj (Nat.not_lt_zero _)
theorem stamps_succ {s : Sho} {k : Nat} {x : Held} (h : stampsUp s k) (hx : s.led.held[k]? = some x) (hr : x.stamp ≤ s.index) : stampsUp s (k + 1) := by
  intro j y hj hy
  rcases Nat.lt_or_ge j k with h1 | h1
  · exact h j y h1 hy
  · obtain rfl : j = k := by omega
    rw [hx] at hy
    cases hy
    exact hr
def SaysS (s : Sho) (w : World) (e : Ending) (w' : World) : Prop := ∃ z : Int, e = .returned (.int .i64 z) ∧ ((z = 0 ∧ shotOk s) ∨ (z = 60 ∧ ¬ shotOk s)) ∧ Below w.heap.size w w'
theorem says_no {s : Sho} (h : ¬ shotOk s) {w w' : World} (hb : Below w.heap.size w w') : SaysS s w (.returned (.int .i64 60)) w' := ⟨_, rfl, .inr ⟨rfl, h⟩, hb⟩
theorem says_yes {s : Sho} (h : shotOk s) {w w' : World} (hb : Below w.heap.size w w') : SaysS s w (.returned (.int .i64 0)) w' := ⟨_, rfl, .inl ⟨rfl, h⟩, hb⟩
theorem box_below {w wr : World} {o : Obj} (hb : Below (w.heap.size + 1) (w.alloc o) wr) : Below w.heap.size w wr :=
  ((Below.refl _ _).alloc (Nat.le_refl _) _).trans (hb.mono (by omega))

end Sh
end Go.Proofs.Ytgbblegcjladaaa
