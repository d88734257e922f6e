/- Commands at an index, as arguments: cells as an entry's. No condition. -/
import Derived.Test.YtlkmdoddgfmnbaaHdC
namespace Go.Proofs.Ytlkmdoddgfmnbaa
open Go.ChangeShapes Go.WideShapes Go.ChangeAt Go.RowKit Go.Deep
set_option linter.unusedVariables false
set_option maxRecDepth 100000
def IsLog.size (l : List Ent) : Nat := 0
namespace Hd
def IsEnt.size (x : Ent) : Nat := 0
end Hd
section
variable {H : Type} {enc : TypeId × Value → H} {W : World}
theorem slice_cells {P : Program} {r : Reach} {t e : TypeId} {v : Value} {b0 : Nat} (ht : P.underlying t = some (.slice e)) (hok : Value.okWide P W r b0 t v) : v.cells.toList = [v] := by
  obtain ⟨a, l, c, rfl⟩ := okWide_slice ht hok
  rfl
theorem trod_op {n : Nat} {cs : List Value} {y : DataW H × List MemPlace} (h : DataW.trod enc Try.prog W 0 (fun _ => true) true n 49 cs = some y) :
    ∃ r : ERow, cs = entC r ∧ (Sl .i64 W r.2 r.1.cmd.nodes ∧ r.1.wf) := by
  obtain ⟨xs, m, _, rfl, hlen, hxl, hf⟩ := DataW.trod_struct Try.underlying49 h
  have hl : cs.length = 9 := hlen.trans (by kernel_rfl)
  match cs, hl, xs, hxl with
  | [c0, c1, c2, c3, c4, c5, c6, c7, c8], _, [y0, y1], _ =>
    have k3 : Try.prog.cellsOf 22 = 1 := by kernel_rfl
    have k4 : Try.prog.cellsOf 29 = 8 := by kernel_rfl
    obtain ⟨z0, rfl, w0⟩ := int_cell (P := Try.prog) Try.underlying22 (by simpa [k3] using hf 0 _ rfl)
    obtain ⟨c, ⟨vn, hcs, h1, h2⟩, h3, h4⟩ := trod_cmd (by simpa [k4] using hf 1 _ rfl)
    refine ⟨(⟨z0, c⟩, vn), ?_, h1, w0, h2⟩
    rw [hcs]
theorem open_op {base : Nat} {v : Value} {d : DataW H} {ps : List MemPlace}
    (hok : Value.okWide Try.prog W .any base 49 v) (h : DataW.Trod enc Try.prog W 0 (fun _ => true) true 49 v d ps) : ∃ x, Hd.IsEnt W v x ∧ True := by
  obtain ⟨cs, rfl, hsz⟩ := okWide_struct Try.underlying49 hok
  obtain ⟨fuel, hf⟩ := h
  obtain ⟨⟨x, vn⟩, hcs, h1, h2⟩ := trod_op hf
  refine ⟨x, ⟨vn, ?_, h1, h2⟩, trivial⟩
  obtain ⟨q⟩ := cs
  simp only [Value.cells] at hcs
  subst hcs
  rfl
theorem open_ops {base : Nat} {v : Value} {d : DataW H} {ps : List MemPlace}
    (hok : Value.okWide Try.prog W .any base 43 v) (h : DataW.Trod enc Try.prog W 0 (fun _ => true) true 43 v d ps) : ∃ l, IsLog W v l ∧ True := by
  obtain ⟨fuel, hf⟩ := h
  rw [slice_cells Try.underlying43 hok] at hf
  obtain ⟨rows, g1, g2, g3⟩ := rows_cell2 (P := Try.prog) (C := entC) (Q := fun r => Sl .i64 W r.2 r.1.cmd.nodes ∧ r.1.wf) (F := fun r => True) Try.underlying43 (sz := 9) (by kernel_rfl) (by omega) (fun m cs y h => by
    obtain ⟨r, h1, h2⟩ := trod_op h
    exact ⟨r, h1, h2, fun _ => trivial⟩) hf
  exact ⟨rows.map Prod.fst, ⟨rows, g1, g2, rfl⟩, trivial⟩
end
end Go.Proofs.Ytlkmdoddgfmnbaa
