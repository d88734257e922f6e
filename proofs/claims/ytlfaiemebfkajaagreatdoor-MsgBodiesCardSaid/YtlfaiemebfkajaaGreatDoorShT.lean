/- A snapshot read as an argument. No condition. -/
import Derived.Test.YtlfaiemebfkajaaGreatDoorLcM
import Derived.Test.YtlfaiemebfkajaaGreatDoorBse
namespace Go.Proofs.YtlfaiemebfkajaaGreatDoor
open Go.ChangeShapes Go.WideShapes Go.ChangeAt Go.RowKit Go.Deep
set_option linter.unusedVariables false
set_option maxRecDepth 100000
structure Sho where
  index : Int
  term : Int
  nodes : List Int
  led : Led
abbrev sArr (s : Sho) (vn vh vl : Value) : Array Value := #[.int .u64 s.index, .int .u64 s.term, vn, .int .i64 s.led.limit, .int .u64 s.led.next, vh, vl]
def Sho.wf (s : Sho) : Prop := (Lit.int .u64 s.index).wf = true ∧ (Lit.int .u64 s.term).wf = true ∧ s.led.wf
def IsShot (w : World) (v : Value) (s : Sho) : Prop := ∃ vn vh vl, v = .agg (sArr s vn vh vl) ∧ Sl .i64 w vn s.nodes ∧ SlR 5 heldC w vh s.led.held ∧ SlR 6 lastC w vl s.led.last ∧ s.wf
def IsShot.size (s : Sho) : Nat := 0
def IsShot.fits (s : Sho) : Prop := s.nodes.length * 8 ≤ 140737488351232 ∧ IsLed.fits s.led
theorem IsShot.below {w w' : World} {v : Value} {s : Sho} {B : Nat} (h : IsShot w v s) (hb : Below B w w') (hB : w.heap.size ≤ B) : IsShot w' v s := by
  obtain ⟨vn, vh, vl, e, h0, h1, h2, h3⟩ := h
  exact ⟨vn, vh, vl, e, h0.below hb hB, h1.below hb hB, h2.below hb hB, h3⟩
section
variable {H : Type} {enc : TypeId × Value → H} {W : World}
theorem trod_shot {n : Nat} {cs : List Value} {y : DataW H × List MemPlace} (h : DataW.trod enc Tryz.prog W 0 (fun _ => true) true n 31 cs = some y) :
    ∃ s vn vh vl, cs = (sArr s vn vh vl).toList ∧ (Sl .i64 W vn s.nodes ∧ SlR 5 heldC W vh s.led.held ∧ SlR 6 lastC W vl s.led.last ∧ s.wf) ∧ (Wt Tryz.prog 31 y.1 → IsShot.fits s) := by
  obtain ⟨xs, m, _, rfl, hlen, hxl, hf⟩ := DataW.trod_struct Tryz.underlying31 h
  have hl : cs.length = 7 := hlen.trans (by kernel_rfl)
  match cs, hl, xs, hxl with
  | [c0, c1, c2, c3, c4, c5, c6], _, [y0, y1, y2, y3], _ =>
    have k1 : Tryz.prog.cellsOf 3 = 1 := by kernel_rfl
    have k2 : Tryz.prog.cellsOf 25 = 1 := by kernel_rfl
    have k3 : Tryz.prog.cellsOf 23 = 1 := by kernel_rfl
    have k4 : Tryz.prog.cellsOf 29 = 4 := by kernel_rfl
    obtain ⟨z0, rfl, w0⟩ := int_cell (P := Tryz.prog) Tryz.underlying23 (by simpa [k3] using hf 0 _ rfl)
    obtain ⟨z1, rfl, w1⟩ := int_cell (P := Tryz.prog) Tryz.underlying23 (by simpa [k3] using hf 1 _ rfl)
    obtain ⟨zs, w2, b2, s2⟩ := sl_cell (P := Tryz.prog) Tryz.underlying25 Tryz.underlying3 k1 (by simpa [k2] using hf 2 _ rfl)
    obtain ⟨l, ⟨vh, vl, hcs, h1, h2, h5⟩, h3, h4⟩ := trod_led (by simpa [k4] using hf 3 _ rfl)
    simp only [List.cons.injEq, and_true] at hcs
    obtain ⟨rfl, rfl, rfl, rfl⟩ := hcs
    refine ⟨⟨z0, z1, zs, l⟩, c2, _, _, rfl, ⟨w2, h1, h2, w0, w1, h5⟩, fun hw => ⟨?_, h4 (wt_field Tryz.underlying31 hw (j := 3) rfl rfl)⟩⟩
    have := s2 (wt_field Tryz.underlying31 hw (j := 2) rfl rfl)
    rw [show Tryz.prog.bytesOf 3 = 8 from by kernel_rfl] at this
    simpa [reachBytes] using this
theorem open_shot {base : Nat} {v : Value} {d : DataW H} {ps : List MemPlace}
    (hok : Value.okWide Tryz.prog W .any base 31 v) (h : DataW.Trod enc Tryz.prog W 0 (fun _ => true) true 31 v d ps) : ∃ s, IsShot W v s ∧ IsShot.size s ≤ Rows.uptoBulk d ∧ (Wt Tryz.prog 31 d → IsShot.fits s) := by
  obtain ⟨cs, rfl, hsz⟩ := okWide_struct Tryz.underlying31 hok
  obtain ⟨fuel, hf⟩ := h
  obtain ⟨s, vn, vh, vl, hcs, h1, h4⟩ := trod_shot hf
  refine ⟨s, ⟨vn, vh, vl, ?_, h1⟩, Nat.zero_le _, h4⟩
  obtain ⟨q⟩ := cs
  simp only [Value.cells] at hcs
  subst hcs
  rfl
end
namespace Sh
theorem cells7 {w : World} {g : Nat} {s : Sho} {vn vh vl : Value} (h : w.heap[g]? = some (.cells (sArr s vn vh vl) 31 (0, 0))) :
    w.cell? ⟨g, 0, none⟩ = some (.int .u64 s.index) ∧ w.cell? ⟨g, 1, none⟩ = some (.int .u64 s.term) ∧ w.cell? ⟨g, 2, none⟩ = some vn ∧ w.cell? ⟨g, 3, none⟩ = some (.int .i64 s.led.limit) ∧ w.cell? ⟨g, 4, none⟩ = some (.int .u64 s.led.next) ∧ w.cell? ⟨g, 5, none⟩ = some vh ∧ w.cell? ⟨g, 6, none⟩ = some vl :=
  ⟨(cell_of_row w _ 0 _ _ _ h).trans rfl, (cell_of_row w _ 1 _ _ _ h).trans rfl, (cell_of_row w _ 2 _ _ _ h).trans rfl, (cell_of_row w _ 3 _ _ _ h).trans rfl, (cell_of_row w _ 4 _ _ _ h).trans rfl, (cell_of_row w _ 5 _ _ _ h).trans rfl, (cell_of_row w _ 6 _ _ _ h).trans rfl⟩
theorem box_cells {w wr : World} {s : Sho} {vn vh vl : Value} (hb : Below (w.heap.size + 1) (w.alloc (.cells (sArr s vn vh vl) 31)) wr) :
    wr.heap[w.heap.size]? = some (.cells (sArr s vn vh vl) 31 (0, 0)) := (hb.block w.heap.size (by omega)).trans (heap_alloc_new _ _)
end Sh
end Go.Proofs.YtlfaiemebfkajaaGreatDoor
