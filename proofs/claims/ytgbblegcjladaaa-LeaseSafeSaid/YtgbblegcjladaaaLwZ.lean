/- What a ledger's change tells, in boxes. No condition. -/
import Derived.Test.YtgbblegcjladaaaLaL
import Derived.Test.YtgbblegcjladaaaHdC
namespace Go.Proofs.Ytgbblegcjladaaa
open Go.ChangeShapes Go.WideShapes Go.ChangeAt Go.RowKit Go.Lib
set_option linter.unusedVariables false
set_option maxRecDepth 100000
namespace La
open Ld Cm Hd
abbrev aA (a : Ans) : Array Value := #[.int .i64 a.code, .int .i64 a.token, .int .u64 a.serial]
abbrev zA : Array Value := #[.int .i64 0, .int .i64 0, .int .u64 0]
/-- what Apply tells, stored into two boxes -/
theorem boxed (w1 : World) (l : Led) (a : Ans) (vh vl : Value) : ∃ W, (((w1.alloc (.cells zArr 35)).alloc (.cells zA 60)).setRow w1.heap.size (lArr l vh vl)).setRow (w1.heap.size + 1) (aA a) = W ∧ Below w1.heap.size w1 W ∧ W.heap[w1.heap.size]? = some (.cells (lArr l vh vl) 35 (0, 0)) ∧ W.heap[w1.heap.size + 1]? = some (.cells (aA a) 60 (0, 0)) ∧ W.heap.size = w1.heap.size + 2 ∧
    ((w1.alloc (.cells zArr 35)).alloc (.cells zA 60)).heap[w1.heap.size]? = some (.cells zArr 35 (0, 0)) ∧ (((w1.alloc (.cells zArr 35)).alloc (.cells zA 60)).setRow w1.heap.size (lArr l vh vl)).heap[w1.heap.size + 1]? = some (.cells zA 60 (0, 0)) := by
  have h1 : ((w1.alloc (.cells zArr 35)).alloc (.cells zA 60)).heap[w1.heap.size]? = some (.cells zArr 35 (0, 0)) := (heap_alloc_old _ _ (by simp)).trans (heap_alloc_new _ _)
  have h2 : (((w1.alloc (.cells zArr 35)).alloc (.cells zA 60)).setRow w1.heap.size (lArr l vh vl)).heap[w1.heap.size + 1]? = some (.cells zA 60 (0, 0)) := (setRow_other _ _ _ _ (by omega)).trans (new2 _ _ _)
  exact ⟨_, rfl, Ld.below_row (Ld.below_row (((Below.refl _ _).alloc (Nat.le_refl _) _).alloc (by simp) _) (Nat.le_refl _) _) (by omega) _, (setRow_other _ _ _ _ (by omega)).trans (setRow_heap _ _ _ _ _ _ h1), setRow_heap _ _ _ _ _ _ h2, by simp, h1, h2⟩
theorem ans_cells {w : World} {g : Nat} {a : Ans} (h : w.heap[g]? = some (.cells (aA a) 60 (0, 0))) : w.cell? ⟨g, 0, none⟩ = some (.int .i64 a.code) ∧ w.cell? ⟨g, 1, none⟩ = some (.int .i64 a.token) ∧ w.cell? ⟨g, 2, none⟩ = some (.int .u64 a.serial) :=
  ⟨(cell_of_row w _ 0 _ _ _ h).trans rfl, (cell_of_row w _ 1 _ _ _ h).trans rfl, (cell_of_row w _ 2 _ _ _ h).trans rfl⟩
theorem led_fits {l : Led} (h : LedP l) : IsLed.fits l := ⟨by have := h.2.2.2.1; omega, by have := last_short h.2.2.2.2.2; omega⟩
theorem led_forms {w : World} {m : Led} {vh vl : Value} (h : IsLed w (.agg (lArr m vh vl)) m) : ∃ c1 k1 c2 k2, vh = .slice c1 m.held.length k1 ∧ vl = .slice c2 m.last.length k2 := by
  obtain ⟨vh', vl', e', s1, s2, -⟩ := h
  obtain ⟨rfl, rfl⟩ : vh = vh' ∧ vl = vl' := by simpa using e'
  obtain ⟨c1, k1, rfl, -⟩ := id s1
  obtain ⟨c2, k2, rfl, -⟩ := id s2
  exact ⟨_, _, _, _, rfl, rfl⟩
end La
end Go.Proofs.Ytgbblegcjladaaa
