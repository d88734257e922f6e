/- A literal's row of structs. No condition. -/
import Derived.Test.YtcgciefoojlpoaaStr
namespace Go.Proofs.Ytcgciefoojlpoaa
open Go.ChangeShapes Go.WideShapes Go.ChangeAt Go.RowKit
set_option linter.unusedVariables false
set_option maxRecDepth 100000
theorem SlR.lit {α : Type} {sz : Nat} {C : α → List Value} (hC : ∀ x, (C x).length = sz) {e : TypeId} (w : World) (g : Nat) (hg : w.heap.size = g) (cs : Array Value) (xs : List α) (n : Nat) (hn : n = xs.length) (h : cs = (xs.flatMap C).toArray) (hm : n ≤ maxLen) :
    SlR sz C (w.alloc (.cells cs e)) (.slice (some ⟨g, 0, none⟩) n n) xs := by
  subst hg; subst hn; subst h
  have h := World.ownsRow_lit (e := e) (size := sz) w (xs.flatMap C).toArray xs.length (Nat.le_refl _) hm (by simpa using flat_len hC xs)
  exact OwnR.sl hC (e := e) (B := w.heap.size) (by simpa [OwnR] using h)
end Go.Proofs.Ytcgciefoojlpoaa
