/- A command read as an argument. No condition. -/
import Derived.Test.YtlkmdoddgfmnbaaRd
namespace Go.Proofs.Ytlkmdoddgfmnbaa
open Go.ChangeShapes Go.WideShapes Go.ChangeAt Go.RowKit Go.Deep
set_option linter.unusedVariables false
set_option maxRecDepth 100000

structure Cmd where
  kind : Int
  node : Int
  token : Int
  nodes : List Int
  boot : Int
  seq : Int
  serial : Int
  stamp : Int

def Cmd.wf (c : Cmd) : Prop := (Lit.int .i64 c.kind).wf = true ∧ (Lit.int .i64 c.node).wf = true ∧ (Lit.int .i64 c.token).wf = true ∧ (Lit.int .u64 c.boot).wf = true ∧ (Lit.int .u64 c.seq).wf = true ∧ (Lit.int .u64 c.serial).wf = true ∧ (Lit.int .u64 c.stamp).wf = true

/-- a command in cells -/
def CmdCells (w : World) (cs : List Value) (c : Cmd) : Prop :=
  ∃ vn, cs = [.int .i64 c.kind, .int .i64 c.node, .int .i64 c.token, vn, .int .u64 c.boot, .int .u64 c.seq, .int .u64 c.serial, .int .u64 c.stamp] ∧ Sl .i64 w vn c.nodes ∧ c.wf
/-- a command's value -/
def IsCmd (w : World) (v : Value) (c : Cmd) : Prop :=
  ∃ vn, v = .agg #[.int .i64 c.kind, .int .i64 c.node, .int .i64 c.token, vn, .int .u64 c.boot, .int .u64 c.seq, .int .u64 c.serial, .int .u64 c.stamp] ∧ Sl .i64 w vn c.nodes ∧ c.wf
def IsCmd.size (c : Cmd) : Nat := c.nodes.length
def IsCmd.fits (c : Cmd) : Prop := c.nodes.length * 8 ≤ 140737488351232
theorem IsCmd.below {w w' : World} {v : Value} {c : Cmd} {B : Nat} (h : IsCmd w v c) (hb : Below B w w') (hB : w.heap.size ≤ B) : IsCmd w' v c := by
  obtain ⟨vn, e, h1, h2⟩ := h
  exact ⟨vn, e, h1.below hb hB, h2⟩
theorem CmdCells.below {w w' : World} {cs : List Value} {c : Cmd} {B : Nat} (h : CmdCells w cs c) (hb : Below B w w') (hB : w.heap.size ≤ B) : CmdCells w' cs c := by
  obtain ⟨vn, e, h1, h2⟩ := h
  exact ⟨vn, e, h1.below hb hB, h2⟩

theorem trod_cmd {H : Type} {enc : TypeId × Value → H} {W : World} {n : Nat} {cs : List Value} {y : DataW H × List MemPlace} (h : DataW.trod enc Try.prog W 0 (fun _ => true) true n 29 cs = some y) :
    ∃ c, CmdCells W cs c ∧ c.nodes.length ≤ Rows.uptoBulk y.1 ∧ (Wt Try.prog 29 y.1 → IsCmd.fits c) := by
  obtain ⟨xs, m, _, rfl, hlen, hxl, hf⟩ := DataW.trod_struct Try.underlying29 h
  have hl8 : cs.length = 8 := hlen.trans (by kernel_rfl)
  match cs, hl8, xs, hxl with
  | [c0, c1, c2, c3, c4, c5, c6, c7], _, [y0, y1, y2, y3, y4, y5, y6, y7], _ =>
    have k1 : Try.prog.cellsOf 3 = 1 := by kernel_rfl
    have k2 : Try.prog.cellsOf 27 = 1 := by kernel_rfl
    have k3 : Try.prog.cellsOf 22 = 1 := by kernel_rfl
    obtain ⟨z0, rfl, w0⟩ := int_cell (P := Try.prog) Try.underlying3 (by simpa [k1] using hf 0 _ rfl)
    obtain ⟨z1, rfl, w1⟩ := int_cell (P := Try.prog) Try.underlying3 (by simpa [k1] using hf 1 _ rfl)
    obtain ⟨z2, rfl, w2⟩ := int_cell (P := Try.prog) Try.underlying3 (by simpa [k1] using hf 2 _ rfl)
    obtain ⟨zs, w3, b3, s3⟩ := sl_cell (P := Try.prog) Try.underlying27 Try.underlying3 k1 (by simpa [k2] using hf 3 _ rfl)
    obtain ⟨z4, rfl, w4⟩ := int_cell (P := Try.prog) Try.underlying22 (by simpa [k3] using hf 4 _ rfl)
    obtain ⟨z5, rfl, w5⟩ := int_cell (P := Try.prog) Try.underlying22 (by simpa [k3] using hf 5 _ rfl)
    obtain ⟨z6, rfl, w6⟩ := int_cell (P := Try.prog) Try.underlying22 (by simpa [k3] using hf 6 _ rfl)
    obtain ⟨z7, rfl, w7⟩ := int_cell (P := Try.prog) Try.underlying22 (by simpa [k3] using hf 7 _ rfl)
    refine ⟨⟨z0, z1, z2, zs, z4, z5, z6, z7⟩, ⟨c3, rfl, w3, w0, w1, w2, w4, w5, w6, w7⟩, Nat.le_trans b3 (bulk_field (by simp)), fun hw => ?_⟩
    have := s3 (wt_field Try.underlying29 hw (j := 3) rfl rfl)
    rw [show Try.prog.bytesOf 3 = 8 from by kernel_rfl] at this
    simpa [IsCmd.fits, reachBytes] using this

theorem open_cmd {H : Type} {enc : TypeId × Value → H} {W : World} {base : Nat} {v : Value} {d : DataW H} {ps : List MemPlace}
    (hok : Value.okWide Try.prog W .any base 29 v) (h : DataW.Trod enc Try.prog W 0 (fun _ => true) true 29 v d ps) : ∃ c, IsCmd W v c ∧ IsCmd.size c ≤ Rows.uptoBulk d ∧ (Wt Try.prog 29 d → IsCmd.fits c) := by
  obtain ⟨cs, rfl, hsz⟩ := okWide_struct Try.underlying29 hok
  obtain ⟨fuel, hf⟩ := h
  obtain ⟨c, ⟨vn, hcs, h1, h2⟩, h3, h4⟩ := trod_cmd hf
  refine ⟨c, ⟨vn, ?_, h1, h2⟩, h3, h4⟩
  obtain ⟨l⟩ := cs
  simp only [Value.cells] at hcs
  subst hcs
  rfl
end Go.Proofs.Ytlkmdoddgfmnbaa
