/- Package values: CopyCmd, CopyEntry. No condition. slices.Clone of entries; an entry stored into a row of entries. No condition. values.CopyEntries. No condition. -/
import Derived.Test.YtngnhegmealokaaHdC
import Derived.Test.YtngnhegmealokaaHdS
import Derived.Test.YtngnhegmealokaaIns
namespace Go.Proofs.Ytngnhegmealokaa
open Go.ChangeShapes Go.WideShapes Go.ChangeAt Go.RowKit
set_option linter.unusedVariables false
set_option maxRecDepth 100000
namespace Vc
open Cm
theorem mid8 {w2 : World} {g : Nat} {x : Ent} {vn : Value} (h : w2.heap[g]? = some (.cells (entC (x, vn)).toArray 27 (0, 0))) (un : Value) : (w2.setCells g 1 (cArr x.cmd un).toList).heap[g]? = some (.cells (entC (x, un)).toArray 27 (0, 0)) := by
  show ((((((((w2.setCell ⟨g, 1, none⟩ (.int .i64 x.cmd.kind)).setCell ⟨g, 2, none⟩ (.int .i64 x.cmd.node)).setCell ⟨g, 3, none⟩ (.int .i64 x.cmd.token)).setCell ⟨g, 4, none⟩ un).setCell ⟨g, 5, none⟩ (.int .u64 x.cmd.boot)).setCell ⟨g, 6, none⟩ (.int .u64 x.cmd.seq)).setCell ⟨g, 7, none⟩ (.int .u64 x.cmd.serial)).setCell ⟨g, 8, none⟩ (.int .u64 x.cmd.stamp)).heap[g]? = _
  rw [heap_setCell_same _ g 8 _ _ (.int .u64 x.cmd.stamp) (heap_setCell_same _ g 7 _ _ (.int .u64 x.cmd.serial) (heap_setCell_same _ g 6 _ _ (.int .u64 x.cmd.seq) (heap_setCell_same _ g 5 _ _ (.int .u64 x.cmd.boot) (heap_setCell_same _ g 4 _ _ un (heap_setCell_same _ g 3 _ _ (.int .i64 x.cmd.token) (heap_setCell_same _ g 2 _ _ (.int .i64 x.cmd.node) (heap_setCell_same w2 g 1 _ _ (.int .i64 x.cmd.kind) h)))))))]
  simp only [List.setIfInBounds_toArray, List.set_cons_zero, List.set_cons_succ]
theorem there8 {w2 : World} {g : Nat} {x : Ent} {vn : Value} (h : w2.heap[g]? = some (.cells (entC (x, vn)).toArray 27 (0, 0))) : w2.there g 1 8 := by
  intro j hj
  refine ⟨?_, frozen_of_row w2 g (1 + j) _ _ h⟩
  rw [cell_of_row w2 g (1 + j) _ _ _ h, Array.getElem?_eq_getElem (by simp; omega)]
  rfl
theorem ent_all (x : Ent) (a : Option Addr) (i j : Nat) : ((entC (x, .slice a i j)).toArray).all (·.oneCell') = true := by simp [Value.oneCell']
/-- an entry whose list is the call's own -/
def GivesEntO (x : Ent) (w : World) (e : Ending) (w' : World) : Prop := ∃ vn, e = .returned (.agg (entC (x, vn)).toArray) ∧ OwnK .i64 3 w' w.heap.size vn x.cmd.nodes ∧ Below w.heap.size w w'
end Vc
end Go.Proofs.Ytngnhegmealokaa
namespace Go.Proofs.Ytngnhegmealokaa
open Go.ChangeShapes Go.WideShapes Go.ChangeAt Go.RowKit
set_option linter.unusedVariables false
set_option maxRecDepth 100000
namespace Vc
theorem ents_one {w : World} {rows : List ERow} (h : Ents w rows) : ∀ r ∈ rows, ∀ u ∈ entC r, u.oneCell' = true := by
  intro r hr u hu
  obtain ⟨a, c, e, -⟩ := (h r hr).1
  obtain ⟨x, vr⟩ := r
  simp only [] at e
  subst e
  simp [entC] at hu
  rcases hu with rfl | rfl | rfl | rfl | rfl | rfl | rfl | rfl | rfl <;> rfl
theorem ownE_new (w : World) (g : Nat) (hg : w.heap.size = g) {B : Nat} (hB : B ≤ g) : OwnR 9 entC 27 (w.alloc (.cells #[] 27)) B (.slice (some ⟨g, 0, none⟩) 0 0) ([] : List ERow) := by
  subst hg
  exact ⟨rfl, .inr ⟨w.heap.size, 0, #[], rfl, hB, heap_alloc_new _ _, Nat.le_refl _, Nat.zero_le _, rfl, rfl⟩⟩
/-- a row of its own with the same entries; their lists are shared -/
def ClonedE (rows : List ERow) (w : World) (e : Ending) (w' : World) : Prop := ∃ u, e = .returned u ∧ OwnR 9 entC 27 w' w.heap.size u rows ∧ Below w.heap.size w w'
/-- cells stored one behind the other into a row of the call's own -/
theorem stored_cells {base e size g n cap : Nat} : ∀ (L : List Value) (o : Nat) (w : World) (xs : List Value), w.ownsRow base e size (.slice (some ⟨g, 0, none⟩) n cap) n xs →
    ∃ ys, (w.setCells g o L).ownsRow base e size (.slice (some ⟨g, 0, none⟩) n cap) n ys ∧ ∀ j, ys[j]? = if o ≤ j ∧ j < o + L.length ∧ j < xs.length then L[j - o]? else xs[j]?
  | [], o, w, xs, h => ⟨xs, h, fun j => by rw [if_neg (by simp; omega)]⟩
  | u :: L, o, w, xs, h => by
    obtain ⟨ys, h1, h2⟩ := stored_cells L (o + 1) _ _ (h.stored o u).1
    refine ⟨ys, h1, fun j => ?_⟩
    rw [h2 j, List.length_set]
    by_cases c1 : o + 1 ≤ j ∧ j < o + 1 + L.length ∧ j < xs.length
    · rw [if_pos c1, if_pos (by simp only [List.length_cons]; omega), show j - o = (j - (o + 1)) + 1 by omega, List.getElem?_cons_succ]
    · rw [if_neg c1, List.getElem?_set]
      by_cases c2 : o = j
      · subst c2
        by_cases c3 : o < xs.length
        · rw [if_pos rfl, if_pos c3, if_pos (by simp only [List.length_cons]; omega), Nat.sub_self, List.getElem?_cons_zero]
        · rw [if_pos rfl, if_neg c3, if_neg (by omega), List.getElem?_eq_none (by omega)]
      · rw [if_neg c2, if_neg (by simp only [List.length_cons]; omega)]
theorem flat_set (rows : List ERow) (k : Nat) (r : ERow) (hk : k < rows.length) (ys : List Value) (hy : ∀ j, ys[j]? = if k * 9 ≤ j ∧ j < k * 9 + (entC r).length ∧ j < (rows.flatMap entC).length then (entC r)[j - k * 9]? else (rows.flatMap entC)[j]?) : ys = (rows.set k r).flatMap entC := by
  have hl := flat_len entC_len rows
  have hl2 : ((rows.set k r).flatMap entC).length = rows.length * 9 := by rw [flat_len entC_len, List.length_set]
  apply List.ext_getElem?
  intro j
  rw [hy j, hl]
  by_cases c : j < rows.length * 9
  · have hi : j / 9 < rows.length := by omega
    have hj : j = (j / 9) * 9 + j % 9 := by omega
    have h9 : j % 9 < 9 := by omega
    have e9 : (entC r).length = 9 := rfl
    by_cases c2 : j / 9 = k
    · rw [if_pos (by rw [e9]; omega)]
      obtain ⟨u, hu⟩ : ∃ u, (entC r)[j % 9]? = some u := ⟨_, List.getElem?_eq_getElem (by rw [e9]; exact h9)⟩
      rw [show j - k * 9 = j % 9 by omega, hu]
      have := flat_at entC_len (rows.set k r) (j / 9) (j % 9) r u (by rw [c2, List.getElem?_set, if_pos rfl, if_pos hk]) hu
      rw [← hj] at this
      exact this.symm
    · have e99 : (entC rows[j / 9]).length = 9 := rfl
      rw [if_neg (by rw [e9]; omega)]
      obtain ⟨u, hu⟩ : ∃ u, (entC rows[j / 9])[j % 9]? = some u := ⟨_, List.getElem?_eq_getElem (by rw [e99]; exact h9)⟩
      have h1 := flat_at entC_len rows (j / 9) (j % 9) _ u (List.getElem?_eq_getElem hi) hu
      have h2 := flat_at entC_len (rows.set k r) (j / 9) (j % 9) rows[j / 9] u (by rw [List.getElem?_set, if_neg (by omega)]; exact List.getElem?_eq_getElem hi) hu
      rw [← hj] at h1 h2
      rw [h1, h2]
  · rw [if_neg (by omega), List.getElem?_eq_none (by omega), List.getElem?_eq_none (by omega)]
/-- an entry stored whole into a row of the call's own -/
theorem stored_ent {w : World} {B g cap : Nat} {rows : List ERow} {e : TypeId} (h : OwnR 9 entC e w B (.slice (some ⟨g, 0, none⟩) rows.length cap) rows) (k : Nat) (hk : k < rows.length) (r : ERow) :
    OwnR 9 entC e (w.setCells g (k * 9) (entC r)) B (.slice (some ⟨g, 0, none⟩) rows.length cap) (rows.set k r) := by
  obtain ⟨ys, h1, h2⟩ := stored_cells (entC r) (k * 9) w _ h
  have := flat_set rows k r hk ys h2
  subst this
  unfold OwnR
  rw [List.length_set]
  exact h1
end Vc
end Go.Proofs.Ytngnhegmealokaa
namespace Go.Proofs.Ytngnhegmealokaa
open Go.ChangeShapes Go.WideShapes Go.ChangeAt Go.RowKit
set_option linter.unusedVariables false
set_option maxRecDepth 100000
namespace Vc
open Hd
theorem cells_grown {g : Nat} : ∀ (L : List Value) (o : Nat) (w : World), w.grownBy (w.setCells g o L) (some g)
  | [], _, w => ⟨rfl, rfl, rfl, Nat.le_refl _, fun _ _ _ => rfl⟩
  | u :: L, o, w => by
    have h := cells_grown (g := g) L (o + 1) (w.setCell ⟨g, o, none⟩ u)
    refine ⟨h.os.trans rfl, h.tape.trans rfl, h.output.trans rfl, Nat.le_trans (m := (w.setCell ⟨g, o, none⟩ u).heap.size) (Nat.le_of_eq (by simp)) h.size, fun k hk hne => (h.block k (by simpa using hk) hne).trans (heap_setCell_other _ _ _ _ (fun e => hne (by rw [e])))⟩
theorem there_own {w : World} {B g cap : Nat} {rows : List ERow} {e : TypeId} (h : OwnR 9 entC e w B (.slice (some ⟨g, 0, none⟩) rows.length cap) rows) (k : Nat) (hk : k < rows.length) : w.there g (k * 9) 9 := by
  intro j hj
  have e9 : (entC rows[k]).length = 9 := rfl
  have hc := World.ownsRow.cells h (g := g) rfl (k * 9 + j) _ (flat_at entC_len rows k j _ _ (List.getElem?_eq_getElem hk) (List.getElem?_eq_getElem (by rw [e9]; exact hj)))
  rw [add_plain, Nat.zero_add] at hc
  exact ⟨by rw [hc]; rfl, h.frozenAt _⟩
/-- the first k lists are the call's own and lie elsewhere -/
def EntsP (w : World) (B : Nat) (ob : Option Nat) (rs : List ERow) (k : Nat) : Prop := ∀ j r, rs[j]? = some r → j < k → OwnK .i64 3 w B r.2 r.1.cmd.nodes ∧ ∀ q, r.2.ownBlock = some q → some q ≠ ob
end Vc
end Go.Proofs.Ytngnhegmealokaa
