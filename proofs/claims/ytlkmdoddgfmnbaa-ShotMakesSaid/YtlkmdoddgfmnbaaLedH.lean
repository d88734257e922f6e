/- Small helpers about rows of a ledger. No condition. -/
import Derived.Test.YtlkmdoddgfmnbaaLed
import Derived.Laws.Rows
import Derived.Laws.NewBlocks
import Derived.Deep.QuietTactic
import Derived.BigQuiet
namespace Go.Proofs.Ytlkmdoddgfmnbaa
open Go.ChangeShapes Go.WideShapes Go.ChangeAt Go.RowKit
set_option linter.unusedVariables false
set_option maxRecDepth 100000
namespace Ld
theorem below_drewN {B : Nat} (w : World) (n : Nat) : Below B w (w.drewN n) := ⟨rfl, rfl, rfl, Nat.le_refl _, fun _ _ => rfl⟩
theorem rgetD {α : Type} {l : List α} {k : Nat} (h : k < l.length) : l[k]? = some l[k] := List.getElem?_eq_getElem h
theorem rtake {α : Type} {l : List α} {k : Nat} (h : k < l.length) : l.take (k + 1) = l.take k ++ [l[k]] := List.take_succ_eq_append_getElem h
/-- the five cells of a row -/
theorem held_cells {w : World} {b off k : Nat} {x : Held} (h : ∀ j u, (heldC x)[j]? = some u → w.cell? ⟨b, off + (k * 5 + j), none⟩ = some u) :
    w.cell? ⟨b, off + k * 5, none⟩ = some (.int .i64 x.token) ∧ w.cell? ⟨b, off + k * 5 + 1, none⟩ = some (.int .i64 x.node) ∧ w.cell? ⟨b, off + k * 5 + 2, none⟩ = some (.int .u64 x.boot) ∧ w.cell? ⟨b, off + k * 5 + 3, none⟩ = some (.int .u64 x.serial) ∧ w.cell? ⟨b, off + k * 5 + 4, none⟩ = some (.int .u64 x.stamp) := by
  have h0 := h 0 _ rfl; have h1 := h 1 _ rfl; have h2 := h 2 _ rfl; have h3 := h 3 _ rfl; have h4 := h 4 _ rfl
  simp only [← Nat.add_assoc, Nat.add_zero] at h0 h1 h2 h3 h4
  exact ⟨h0, h1, h2, h3, h4⟩

end Ld
end Go.Proofs.Ytlkmdoddgfmnbaa
