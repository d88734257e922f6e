/- A copy of a snapshot. No condition. -/
import Derived.Test.YtlfaiemebfkajaaGreatDoorShT
import Derived.Test.YtlfaiemebfkajaaGreatDoorLcM
import Derived.Deep.MidRow
namespace Go.Proofs.YtlfaiemebfkajaaGreatDoor
open Go.ChangeShapes Go.WideShapes Go.ChangeAt Go.RowKit
set_option linter.unusedVariables false
set_option maxRecDepth 100000
theorem owns_cell {sz : Nat} {e : TypeId} {w : World} {B g j n : Nat} {v u : Value} {zs : List Value} (hown : w.ownsRow B e sz v n zs) (hg : g < B) : (w.setCell ⟨g, j, none⟩ u).ownsRow B e sz v n zs := by
  refine ⟨hown.1, ?_⟩
  rcases hown.2 with h2 | ⟨q, cap, cur, h2, h3, h4, h5⟩
  · exact .inl h2
  · refine .inr ⟨q, cap, cur, h2, h3, ?_, h5⟩
    rw [heap_setCell_other _ _ _ _ (by simp; omega)]
    exact h4
theorem owns_row {sz : Nat} {e : TypeId} {w : World} {B g n : Nat} {v : Value} {cs : Array Value} {zs : List Value} (hown : w.ownsRow B e sz v n zs) (hg : g < B) : (w.setRow g cs).ownsRow B e sz v n zs := by
  refine ⟨hown.1, ?_⟩
  rcases hown.2 with h2 | ⟨q, cap, cur, h2, h3, h4, h5⟩
  · exact .inl h2
  · refine .inr ⟨q, cap, cur, h2, h3, ?_, h5⟩
    rw [setRow_other _ _ _ _ (by omega)]
    exact h4
theorem owns_cells {sz : Nat} {e : TypeId} {B g n : Nat} {v : Value} {zs : List Value} (hg : g < B) : ∀ (L : List Value) (o : Nat) (w : World), w.ownsRow B e sz v n zs → (w.setCells g o L).ownsRow B e sz v n zs
  | [], _, _, h => h
  | _ :: L, o, w, h => owns_cells hg L (o + 1) _ (owns_cell h hg)
theorem cells_other {g k : Nat} (hk : k ≠ g) : ∀ (L : List Value) (o : Nat) (w : World), (w.setCells g o L).heap[k]? = w.heap[k]?
  | [], _, _ => rfl
  | u :: L, o, w => (cells_other hk L (o + 1) _).trans (heap_setCell_other w ⟨g, o, none⟩ k u (by simpa using hk))
theorem below_cells {B g : Nat} {a : World} (hg : B ≤ g) : ∀ (L : List Value) (o : Nat) (w : World), Below B a w → Below B a (w.setCells g o L)
  | [], _, _, h => h
  | u :: L, o, w, h => below_cells hg L (o + 1) _ (h.setCell (p := ⟨g, o, none⟩) hg u)
namespace Sh
theorem store2 {w1 : World} {g : Nat} {s : Sho} {vn vh vl : Value} (h : w1.heap[g]? = some (.cells (sArr s vn vh vl) 31 (0, 0))) (u : Value) : (w1.setCell ⟨g, 2, none⟩ u).heap[g]? = some (.cells (sArr s u vh vl) 31 (0, 0)) := by
  rw [heap_setCell_same w1 g 2 _ _ u h]; rfl
theorem mid4 {w2 : World} {g : Nat} {s : Sho} {vn vh vl : Value} (h : w2.heap[g]? = some (.cells (sArr s vn vh vl) 31 (0, 0))) (uh ul : Value) : (w2.setCells g 3 (lArr s.led uh ul).toList).heap[g]? = some (.cells (sArr s vn uh ul) 31 (0, 0)) := by
  show ((((w2.setCell ⟨g, 3, none⟩ (.int .i64 s.led.limit)).setCell ⟨g, 4, none⟩ (.int .u64 s.led.next)).setCell ⟨g, 5, none⟩ uh).setCell ⟨g, 6, none⟩ ul).heap[g]? = _
  rw [heap_setCell_same _ g 6 _ _ ul (heap_setCell_same _ g 5 _ _ uh (heap_setCell_same _ g 4 _ _ (.int .u64 s.led.next) (heap_setCell_same w2 g 3 _ _ (.int .i64 s.led.limit) h)))]
  rfl
theorem there4 {w2 : World} {g : Nat} {s : Sho} {vn vh vl : Value} (h : w2.heap[g]? = some (.cells (sArr s vn vh vl) 31 (0, 0))) : w2.there g 3 4 := by
  intro j hj
  refine ⟨?_, frozen_of_row w2 g (3 + j) _ _ h⟩
  rw [cell_of_row w2 g (3 + j) _ _ _ h, Array.getElem?_eq_getElem (by simp; omega)]
  rfl
theorem sArr_one (s : Sho) (a b c : Option Addr) (i j k m p q : Nat) : (sArr s (.slice a i j) (.slice b k m) (.slice c p q)).all (·.oneCell') = true := by simp [Value.oneCell']
def GivesShot (s : Sho) (w : World) (e : Ending) (w' : World) : Prop := ∃ v, e = .returned v ∧ IsShot w' v s ∧ Below w.heap.size w w'

theorem ownK_lower {k : IntKind} {e : TypeId} {w : World} {B D : Nat} {v : Value} {zs : List Int} (h : OwnK k e w B v zs) (hD : D ≤ B) : OwnK k e w D v zs := by
  refine ⟨h.1, ?_⟩
  rcases h.2 with h2 | ⟨q, cap, cur, h2, h3, h4⟩
  · exact .inl h2
  · exact .inr ⟨q, cap, cur, h2, Nat.le_trans hD h3, h4⟩
/-- a snapshot whose lists are the call's own -/
def GivesShotO (s : Sho) (w : World) (e : Ending) (w' : World) : Prop := ∃ vn vh vl, e = .returned (.agg (sArr s vn vh vl)) ∧ OwnI w' w.heap.size vn s.nodes ∧ OwnR 5 heldC 110 w' w.heap.size vh s.led.held ∧ OwnR 6 lastC 114 w' w.heap.size vl s.led.last ∧ Below w.heap.size w w'

end Sh
end Go.Proofs.YtlfaiemebfkajaaGreatDoor
