/- What At tells is well made; what a law writes into it. No condition. -/
import Derived.Test.YtgadbghlcejkfaaAtC
import Derived.Test.YtgadbghlcejkfaaRlC
namespace Go.Proofs.Ytgadbghlcejkfaa
open Go.ChangeShapes Go.WideShapes Go.ChangeAt Go.RowKit Go.Deep
set_option linter.unusedVariables false
set_option maxRecDepth 100000
namespace At
open Hd Rl Ld La Rc
theorem term_wf {h : Har} {i : Int} (hw : HarW h) (he : EntsW h) : (Lit.int .u64 (termP h i).1).wf = true := by
  unfold termP
  split
  · exact hw.1.2.2.2.2.1
  split
  · cases q : h.log[((i - h.shot.index).toNat - 1)]? with
    | none => simp only [Option.map_none, Option.getD_none]; decide
    | some x =>
      simp only [Option.map_some, Option.getD_some]
      exact (he x (List.mem_of_getElem? q)).1.1
  · show (Lit.int .u64 0).wf = true
    decide
theorem atS_wf {h : Har} {i : Int} (ok : hardOk h) (hw : HarW h) (he : EntsW h) (hi : (Lit.int .u64 i).wf = true) (hin : (termP h i).2 = true) : (atS h i).wf := by
  have hr := term_in.1 hin
  unfold lastI at hr
  exact ⟨hi, term_wf hw he, (at_ok ok (fit_of hw.1 ok) hw he _ (by omega)).2⟩
theorem at_shot {h : Har} {i z : Int} {s : Sho} (hw : HarW h) (he : EntsW h) (hi : (Lit.int .u64 i).wf = true) (hd : (z = 0 ∧ hardOk h ∧ (termP h i).2 = true ∧ s = atS h i) ∨ (z = 130 ∧ ¬ hardOk h ∧ s = zShoV) ∨ (z = 4 ∧ hardOk h ∧ (termP h i).2 = false ∧ s = zShoV)) : s.wf := by
  rcases hd with ⟨-, ok, hin, rfl⟩ | ⟨-, -, rfl⟩ | ⟨-, -, -, rfl⟩
  · exact atS_wf ok hw he hi hin
  · exact zSho_wf
  · exact zSho_wf
theorem at_one {h : Har} {i z z2 : Int} {s s2 : Sho} (hd : (z = 0 ∧ hardOk h ∧ (termP h i).2 = true ∧ s = atS h i) ∨ (z = 130 ∧ ¬ hardOk h ∧ s = zShoV) ∨ (z = 4 ∧ hardOk h ∧ (termP h i).2 = false ∧ s = zShoV)) (hd2 : (z2 = 0 ∧ hardOk h ∧ (termP h i).2 = true ∧ s2 = atS h i) ∨ (z2 = 130 ∧ ¬ hardOk h ∧ s2 = zShoV) ∨ (z2 = 4 ∧ hardOk h ∧ (termP h i).2 = false ∧ s2 = zShoV)) : s2 = s ∧ z2 = z := by
  rcases hd with ⟨a1, a2, a3, a4⟩ | ⟨a1, a2, a4⟩ | ⟨a1, a2, a3, a4⟩ <;> rcases hd2 with ⟨b1, b2, b3, b4⟩ | ⟨b1, b2, b4⟩ | ⟨b1, b2, b3, b4⟩
  · exact ⟨b4.trans a4.symm, b1.trans a1.symm⟩
  · exact absurd a2 b2
  · rw [a3] at b3; cases b3
  · exact absurd b2 a2
  · exact ⟨b4.trans a4.symm, b1.trans a1.symm⟩
  · exact absurd b2 a2
  · rw [a3] at b3; cases b3
  · exact absurd a2 b2
  · exact ⟨b4.trans a4.symm, b1.trans a1.symm⟩
theorem ex_at : termP exH 6 = (2, true) := by decide
theorem ex_one {z : Int} {s : Sho} (hd : (z = 0 ∧ hardOk exH ∧ (termP exH 6).2 = true ∧ s = atS exH 6) ∨ (z = 130 ∧ ¬ hardOk exH ∧ s = zShoV) ∨ (z = 4 ∧ hardOk exH ∧ (termP exH 6).2 = false ∧ s = zShoV)) : z = 0 ∧ s.index = 6 ∧ s.term = 2 := by
  rcases hd with ⟨a1, -, -, rfl⟩ | ⟨-, a2, -⟩ | ⟨-, -, a3, -⟩
  · exact ⟨a1, rfl, by show (termP exH 6).1 = 2; rw [ex_at]⟩
  · exact absurd exH_ok a2
  · rw [ex_at] at a3; cases a3
/-- n rows of sz cells in a block from B on -/
def BlkI (T : TypeId) (sz : Nat) (w : World) (B : Nat) (v : Value) (n : Nat) : Prop := n = 0 ∨ ∃ q cap cur, v = .slice (some ⟨q, 0, none⟩) n cap ∧ B ≤ q ∧ w.heap[q]? = some (Obj.cells cur T (0, 0)) ∧ n * sz ≤ cur.size
theorem BlkI.of {T : TypeId} {sz B n : Nat} {w : World} {v : Value} {xs : List Value} (h : w.ownsRow B T sz v n xs) : BlkI T sz w B v n := by
  rcases h.2 with ⟨rfl, h0⟩ | ⟨g, cap, cur, rfl, hg, hh, hle, hcm, hsz, htk⟩
  · exact .inl h0
  · exact .inr ⟨g, cap, cur, rfl, hg, hh, by rw [hsz]; exact Nat.mul_le_mul_right sz hle⟩
theorem BlkI.at {T : TypeId} {sz B n c k j : Nat} {w : World} {a : Option Addr} (h : BlkI T sz w B (.slice a n c) n) (hk : k < n) (hj : j < sz) : ∃ q, a = some ⟨q, 0, none⟩ ∧ B ≤ q ∧ w.frozen? ⟨q, k * sz + j, none⟩ = false ∧ (∃ u, w.cell? ⟨q, k * sz + j, none⟩ = some u) ∧ ∃ cur, w.heap[q]? = some (Obj.cells cur T (0, 0)) := by
  rcases h with h | ⟨q, cap, cur, e, hq, hh, hn⟩
  · omega
  · simp only [Value.slice.injEq] at e
    obtain ⟨rfl, -, rfl⟩ := e
    have hlt : k * sz + j < cur.size := by
      have h1 : (k + 1) * sz ≤ n * sz := Nat.mul_le_mul_right sz hk
      rw [Nat.add_mul, Nat.one_mul] at h1
      omega
    refine ⟨q, rfl, hq, frozen_of_row w q _ _ _ hh, ⟨cur[k * sz + j], ?_⟩, cur, hh⟩
    rw [cell_of_row w q (k * sz + j) _ _ _ hh, Array.getElem?_eq_getElem hlt]
theorem BlkI.set {T : TypeId} {sz B n p j : Nat} {w : World} {v u : Value} (h : BlkI T sz w B v n) : BlkI T sz (w.setCell ⟨p, j, none⟩ u) B v n := by
  rcases h with h | ⟨q, cap, cur, e, hq, hh, hn⟩
  · exact .inl h
  · by_cases hp : q = p
    · subst hp
      exact .inr ⟨q, cap, _, e, hq, heap_setCell_same w q j _ _ u hh, by simpa using hn⟩
    · exact .inr ⟨q, cap, cur, e, hq, (heap_setCell_other w ⟨p, j, none⟩ q u (by simpa using hp)).trans hh, hn⟩
def AtP (W2 : World) (g6 : Nat) (row : Array Value) (v1 v2 v3 : Value) (n1 n2 n3 : Nat) (wr : World) : Prop := BlkI 3 1 wr W2.heap.size v1 n1 ∧ BlkI 67 5 wr W2.heap.size v2 n2 ∧ BlkI 71 6 wr W2.heap.size v3 n3 ∧ wr.heap[g6]? = some (Obj.cells row 29 (0, 0)) ∧ Below W2.heap.size W2 wr
theorem AtP.set {W2 : World} {g6 : Nat} {row : Array Value} {v1 v2 v3 : Value} {n1 n2 n3 : Nat} {wr : World} (h : AtP W2 g6 row v1 v2 v3 n1 n2 n3 wr) {q j : Nat} {u : Value} {cur : Array Value} {T : TypeId} (hB : W2.heap.size ≤ q) (hq : wr.heap[q]? = some (Obj.cells cur T (0, 0))) (hT : T ≠ 29) : AtP W2 g6 row v1 v2 v3 n1 n2 n3 (wr.setCell ⟨q, j, none⟩ u) := by
  obtain ⟨h1, h2, h3, h4, h5⟩ := h
  refine ⟨h1.set, h2.set, h3.set, ?_, h5.setCell hB _⟩
  have hne : g6 ≠ q := fun e => by
    subst e
    rw [hq] at h4
    simp only [Option.some.injEq, Obj.cells.injEq] at h4
    exact hT h4.2.1
  exact (heap_setCell_other wr ⟨q, j, none⟩ g6 u (by simpa using hne)).trans h4
end At
end Go.Proofs.Ytgadbghlcejkfaa
