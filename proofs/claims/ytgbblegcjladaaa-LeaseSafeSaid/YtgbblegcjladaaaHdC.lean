/- What may last: hard.Check. No condition. -/
import Derived.Test.YtgbblegcjladaaaHdT
import Derived.Test.YtgbblegcjladaaaShC
namespace Go.Proofs.Ytgbblegcjladaaa
open Go.ChangeShapes Go.WideShapes Go.ChangeAt Go.RowKit
set_option linter.unusedVariables false
set_option maxRecDepth 100000
namespace Hd
def entOk (bf : Int) (x : Ent) : Prop := 1 ≤ x.term ∧ bf ≤ x.term ∧ Cm.chkC x.cmd = true
def befE (t : Int) (l : List Ent) : Int := (l.getLast?.map Ent.term).getD t
theorem befE_nil (t : Int) : befE t [] = t := rfl
theorem befE_snoc (t : Int) (l : List Ent) (x : Ent) : befE t (l ++ [x]) = x.term := by simp [befE]
def logUp (t : Int) (l : List Ent) (k : Nat) : Prop := ∀ j y, j < k → l[j]? = some y → entOk (befE t (l.take j)) y
theorem logUp_zero (t : Int) (l : List Ent) : logUp t l 0 := fun j y hj => absurd hj (Nat.not_lt_zero _)
theorem logUp_succ {t : Int} {l : List Ent} {k : Nat} {x : Ent} (h : logUp t l k) (hx : l[k]? = some x) (hr : entOk (befE t (l.take k)) x) : logUp t l (k + 1) := by
  intro j y hj hy
  rcases Nat.lt_or_ge j k with h1 | h1
  · exact h j y h1 hy
  · obtain rfl : j = k := by omega
    rw [hx] at hy
    cases hy
    exact hr
theorem logUp_bad {t : Int} {l : List Ent} {k : Nat} {x : Ent} (hx : l[k]? = some x) (hlt : k < l.length) (hr : ¬ entOk (befE t (l.take k)) x) : ¬ logUp t l l.length := fun h => hr (h k x hlt hx)
def top62 : Int := 4611686018427387904
def hardOk (h : Har) : Prop := h.boot ≤ top62 ∧ Sh.shotOk h.shot ∧ h.shot.index ≤ top62 ∧ h.shot.index + h.log.length ≤ top62 ∧ logUp h.shot.term h.log h.log.length ∧ befE h.shot.term h.log ≤ h.term ∧ 0 ≤ h.vote ∧ h.vote ≤ 7 ∧ (h.term = 0 → h.vote = 0)
def SaysH (h : Har) (w : World) (e : Ending) (w' : World) : Prop := ∃ z : Int, e = .returned (.int .i64 z) ∧ ((z = 0 ∧ hardOk h) ∨ (z = 130 ∧ ¬ hardOk h)) ∧ Below w.heap.size w w'
theorem says_no {h : Har} (g : ¬ hardOk h) {w w' : World} (hb : Below w.heap.size w w') : SaysH h w (.returned (.int .i64 130)) w' := ⟨_, rfl, .inr ⟨rfl, g⟩, hb⟩
theorem says_yes {h : Har} (g : hardOk h) {w w' : World} (hb : Below w.heap.size w w') : SaysH h w (.returned (.int .i64 0)) w' := ⟨_, rfl, .inl ⟨rfl, g⟩, hb⟩
/-- an entry's value -/
def IsEnt (w : World) (v : Value) (x : Ent) : Prop := ∃ vn, v = .agg (entC (x, vn)).toArray ∧ Sl .i64 w vn x.cmd.nodes ∧ x.wf
theorem IsEnt.below {w w' : World} {v : Value} {x : Ent} {B : Nat} (h : IsEnt w v x) (hb : Below B w w') (hB : w.heap.size ≤ B) : IsEnt w' v x := by
  obtain ⟨vn, e, h1, h2⟩ := h
  exact ⟨vn, e, h1.below hb hB, h2⟩
def fitsB (x : Ent) : Bool := decide (1 ≤ x.term) && Cm.chkC x.cmd
theorem ent9 {w : World} {g : Nat} {x : Ent} {vn : Value} {t : TypeId} (h : w.heap[g]? = some (.cells (entC (x, vn)).toArray t (0, 0))) :
    w.cell? ⟨g, 0, none⟩ = some (.int .u64 x.term) ∧ w.cell? ⟨g, 1, none⟩ = some (.int .i64 x.cmd.kind) ∧ w.cell? ⟨g, 2, none⟩ = some (.int .i64 x.cmd.node) ∧ w.cell? ⟨g, 3, none⟩ = some (.int .i64 x.cmd.token) ∧ w.cell? ⟨g, 4, none⟩ = some vn ∧ w.cell? ⟨g, 5, none⟩ = some (.int .u64 x.cmd.boot) ∧ w.cell? ⟨g, 6, none⟩ = some (.int .u64 x.cmd.seq) ∧ w.cell? ⟨g, 7, none⟩ = some (.int .u64 x.cmd.serial) ∧ w.cell? ⟨g, 8, none⟩ = some (.int .u64 x.cmd.stamp) :=
  ⟨(cell_of_row w _ 0 _ _ _ h).trans rfl, (cell_of_row w _ 1 _ _ _ h).trans rfl, (cell_of_row w _ 2 _ _ _ h).trans rfl, (cell_of_row w _ 3 _ _ _ h).trans rfl, (cell_of_row w _ 4 _ _ _ h).trans rfl, (cell_of_row w _ 5 _ _ _ h).trans rfl, (cell_of_row w _ 6 _ _ _ h).trans rfl, (cell_of_row w _ 7 _ _ _ h).trans rfl, (cell_of_row w _ 8 _ _ _ h).trans rfl⟩
theorem cErr_eq (b : Bool) : (Cm.cErr b == 0) = b := by cases b <;> rfl
theorem IsLog.len {w : World} {v : Value} {l : List Ent} (h : IsLog w v l) : ∃ a cap, v = .slice a l.length cap ∧ l.length ≤ cap ∧ cap ≤ 9223372036854775807 := by
  obtain ⟨rows, ⟨a, cap, e, h1, h2, _⟩, _, rfl⟩ := h
  unfold maxLen at h2
  exact ⟨a, cap, by rw [e, List.length_map], by rw [List.length_map]; exact h1, h2⟩
theorem hardOk_of {boot term vote : Int} {shot : Sho} {log : List Ent} : hardOk ⟨boot, term, vote, shot, log⟩ ↔ (boot ≤ top62 ∧ Sh.shotOk shot ∧ shot.index ≤ top62 ∧ shot.index + log.length ≤ top62 ∧ logUp shot.term log log.length ∧ befE shot.term log ≤ term ∧ 0 ≤ vote ∧ vote ≤ 7 ∧ (term = 0 → vote = 0)) := Iff.rfl
end Hd
end Go.Proofs.Ytgbblegcjladaaa
