/- Replies read as an argument. No condition. -/
import Derived.Test.YtdakkjpejhlciaaFrm
namespace Go.Proofs.Ytdakkjpejhlciaa
open Go.ChangeShapes Go.WideShapes Go.ChangeAt Go.RowKit Go.Deep
set_option linter.unusedVariables false
set_option maxRecDepth 100000
section
variable {H : Type} {enc : TypeId × Value → H} {P : Program} {W : World}
theorem trod_rep {n : Nat} {cs : List Value} {y : DataW H × List MemPlace} (h : DataW.trod enc Try.prog W 0 (fun _ => true) true n 34 cs = some y) : ∃ x, cs = repC x ∧ x.wf := by
  obtain ⟨xs, m, _, rfl, hlen, hxl, hf⟩ := DataW.trod_struct Try.underlying34 h
  have hl : cs.length = 3 := hlen.trans (by kernel_rfl)
  match cs, hl, xs, hxl with
  | [c0, c1, c2], _, [y0, y1, y2], _ =>
    have k1 : Try.prog.cellsOf 3 = 1 := by kernel_rfl
    have k3 : Try.prog.cellsOf 9 = 1 := by kernel_rfl
    obtain ⟨z0, rfl, w0⟩ := int_cell (P := Try.prog) Try.underlying3 (by simpa [k1] using hf 0 _ rfl)
    obtain ⟨z1, rfl, w1⟩ := int_cell (P := Try.prog) Try.underlying3 (by simpa [k1] using hf 1 _ rfl)
    obtain ⟨z2, rfl, w2⟩ := str_cell (P := Try.prog) Try.underlying9 (by simpa [k3] using hf 2 _ rfl)
    exact ⟨⟨z0, z1, z2⟩, rfl, w0, w1, w2⟩
theorem open_reps {base : Nat} {v : Value} {d : DataW H} {ps : List MemPlace}
    (hok : Value.okWide Try.prog W .any base 30 v) (h : DataW.Trod enc Try.prog W 0 (fun _ => true) true 30 v d ps) : ∃ l, IsReps W v l ∧ IsReps.size l ≤ Rows.uptoBulk d ∧ (Wt Try.prog 30 d → IsReps.fits l) := by
  obtain ⟨fuel, hf⟩ := h
  rw [slice_cells Try.underlying30 hok] at hf
  obtain ⟨xs, h1, h2, h3, h4⟩ := rows_cell (P := Try.prog) (C := repC) (Q := Rep.wf) Try.underlying30 (sz := 3) (by kernel_rfl) (by omega) (fun m cs y h => trod_rep h) hf
  refine ⟨xs, ⟨h1, h2⟩, h3, fun hw => ?_⟩
  have := h4 hw
  rw [show Try.prog.bytesOf 34 = 32 from by kernel_rfl] at this
  simpa [reachBytes, IsReps.fits] using this
end
end Go.Proofs.Ytdakkjpejhlciaa
