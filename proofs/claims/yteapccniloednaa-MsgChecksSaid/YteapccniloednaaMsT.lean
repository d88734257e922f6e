/- A message, read as an argument. No condition. -/
import Derived.Test.YteapccniloednaaHdT
namespace Go.Proofs.Yteapccniloednaa
open Go.ChangeShapes Go.WideShapes Go.ChangeAt Go.RowKit Go.Deep
set_option linter.unusedVariables false
set_option maxRecDepth 100000
structure Mes where
  kind : Int
  src : Int
  dst : Int
  term : Int
  index : Int
  lterm : Int
  commit : Int
  flag : Bool
  ents : List Ent
  shot : Sho
abbrev mArr (m : Mes) (ve vn vh vl : Value) : Array Value := #[.int .i64 m.kind, .int .i64 m.src, .int .i64 m.dst, .int .u64 m.term, .int .u64 m.index, .int .u64 m.lterm, .int .u64 m.commit, .bool m.flag, ve, .int .u64 m.shot.index, .int .u64 m.shot.term, vn, .int .i64 m.shot.led.limit, .int .u64 m.shot.led.next, vh, vl]
def Mes.wf (m : Mes) : Prop := (Lit.int .i64 m.kind).wf = true ∧ (Lit.int .i64 m.src).wf = true ∧ (Lit.int .i64 m.dst).wf = true ∧ (Lit.int .u64 m.term).wf = true ∧ (Lit.int .u64 m.index).wf = true ∧ (Lit.int .u64 m.lterm).wf = true ∧ (Lit.int .u64 m.commit).wf = true ∧ m.shot.wf
def IsMsg (w : World) (v : Value) (m : Mes) : Prop := ∃ ve vn vh vl, v = .agg (mArr m ve vn vh vl) ∧ IsLog w ve m.ents ∧ Sl .i64 w vn m.shot.nodes ∧ SlR 5 heldC w vh m.shot.led.held ∧ SlR 6 lastC w vl m.shot.led.last ∧ m.wf
def IsMsg.size (m : Mes) : Nat := 0
def IsMsg.fits (m : Mes) : Prop := IsShot.fits m.shot ∧ m.ents.length * 88 ≤ 140737488351232 ∧ ∀ x ∈ m.ents, IsCmd.fits x.cmd
theorem IsMsg.below {w w' : World} {v : Value} {m : Mes} {B : Nat} (h : IsMsg w v m) (hb : Below B w w') (hB : w.heap.size ≤ B) : IsMsg w' v m := by
  obtain ⟨ve, vn, vh, vl, e, h0, h1, h2, h3, h4⟩ := h
  exact ⟨ve, vn, vh, vl, e, h0.below hb hB, h1.below hb hB, h2.below hb hB, h3.below hb hB, h4⟩
section
variable {H : Type} {enc : TypeId × Value → H} {P : Program} {W : World}
theorem bool_cell {t : TypeId} {n : Nat} {v : Value} {y : DataW H × List MemPlace} (ht : P.underlying t = some .bool) (h : DataW.trod enc P W 0 (fun _ => true) true n t [v] = some y) :
    ∃ z, v = .bool z := by
  obtain ⟨z, h1, _⟩ := DataW.trod_bool ht h
  simp only [List.cons.injEq, and_true] at h1
  exact ⟨z, h1⟩
theorem trod_msg {n : Nat} {cs : List Value} {y : DataW H × List MemPlace} (h : DataW.trod enc Try.prog W 0 (fun _ => true) true n 32 cs = some y) :
    ∃ m ve vn vh vl, cs = (mArr m ve vn vh vl).toList ∧ (IsLog W ve m.ents ∧ Sl .i64 W vn m.shot.nodes ∧ SlR 5 heldC W vh m.shot.led.held ∧ SlR 6 lastC W vl m.shot.led.last ∧ m.wf) ∧ (Wt Try.prog 32 y.1 → IsMsg.fits m) := by
  obtain ⟨xs, m, _, rfl, hlen, hxl, hf⟩ := DataW.trod_struct Try.underlying32 h
  have hl : cs.length = 16 := hlen.trans (by kernel_rfl)
  match cs, hl, xs, hxl with
  | [c0, c1, c2, c3, c4, c5, c6, c7, c8, c9, c10, c11, c12, c13, c14, c15], _, [y0, y1, y2, y3, y4, y5, y6, y7, y8, y9], _ =>
    have k1 : Try.prog.cellsOf 3 = 1 := by kernel_rfl
    have k2 : Try.prog.cellsOf 4 = 1 := by kernel_rfl
    have k3 : Try.prog.cellsOf 22 = 1 := by kernel_rfl
    have k7 : Try.prog.cellsOf 30 = 7 := by kernel_rfl
    have ke : Try.prog.cellsOf 23 = 1 := by kernel_rfl
    obtain ⟨z0, rfl, w0⟩ := int_cell (P := Try.prog) Try.underlying3 (by simpa [k1] using hf 0 _ rfl)
    obtain ⟨z1, rfl, w1⟩ := int_cell (P := Try.prog) Try.underlying3 (by simpa [k1] using hf 1 _ rfl)
    obtain ⟨z2, rfl, w2⟩ := int_cell (P := Try.prog) Try.underlying3 (by simpa [k1] using hf 2 _ rfl)
    obtain ⟨z3, rfl, w3⟩ := int_cell (P := Try.prog) Try.underlying22 (by simpa [k3] using hf 3 _ rfl)
    obtain ⟨z4, rfl, w4⟩ := int_cell (P := Try.prog) Try.underlying22 (by simpa [k3] using hf 4 _ rfl)
    obtain ⟨z5, rfl, w5⟩ := int_cell (P := Try.prog) Try.underlying22 (by simpa [k3] using hf 5 _ rfl)
    obtain ⟨z6, rfl, w6⟩ := int_cell (P := Try.prog) Try.underlying22 (by simpa [k3] using hf 6 _ rfl)
    obtain ⟨z7, rfl⟩ := bool_cell (P := Try.prog) Try.underlying4 (by simpa [k2] using hf 7 _ rfl)
    obtain ⟨rows, g1, g2, g3⟩ := rows_cell2 (P := Try.prog) (C := entC) (Q := fun r => Sl .i64 W r.2 r.1.cmd.nodes ∧ r.1.wf) (F := fun r => IsCmd.fits r.1.cmd) Try.underlying23 (sz := 9) (by kernel_rfl) (by omega) (fun m cs y h => trod_entry h) (by simpa [ke] using hf 8 _ rfl)
    obtain ⟨s, vn, vh, vl, hcs, ⟨h1, h2, h3, h4⟩, h5⟩ := trod_shot (by simpa [k7] using hf 9 _ rfl)
    simp only [List.cons.injEq, and_true] at hcs
    obtain ⟨rfl, rfl, rfl, rfl, rfl, rfl, rfl⟩ := hcs
    refine ⟨⟨z0, z1, z2, z3, z4, z5, z6, z7, rows.map Prod.fst, s⟩, c8, _, _, _, rfl, ⟨⟨rows, g1, g2, rfl⟩, h1, h2, h3, w0, w1, w2, w3, w4, w5, w6, h4⟩, fun hw => ⟨h5 (wt_field Try.underlying32 hw (j := 9) rfl rfl), ?_⟩⟩
    obtain ⟨q1, q2⟩ := g3 (wt_field Try.underlying32 hw (j := 8) rfl rfl)
    rw [show Try.prog.bytesOf 54 = 88 from by kernel_rfl] at q1
    unfold reachBytes at q1
    refine ⟨by simp; omega, fun x hx => ?_⟩
    obtain ⟨r, hr, rfl⟩ := List.mem_map.1 hx
    exact q2 r hr
theorem open_msg {base : Nat} {v : Value} {d : DataW H} {ps : List MemPlace}
    (hok : Value.okWide Try.prog W .any base 32 v) (h : DataW.Trod enc Try.prog W 0 (fun _ => true) true 32 v d ps) : ∃ m, IsMsg W v m ∧ IsMsg.size m ≤ Rows.uptoBulk d ∧ (Wt Try.prog 32 d → IsMsg.fits m) := by
  obtain ⟨cs, rfl, hsz⟩ := okWide_struct Try.underlying32 hok
  obtain ⟨fuel, hf⟩ := h
  obtain ⟨m, ve, vn, vh, vl, hcs, h1, h4⟩ := trod_msg hf
  refine ⟨m, ⟨ve, vn, vh, vl, ?_, h1⟩, Nat.zero_le _, h4⟩
  obtain ⟨q⟩ := cs
  simp only [Value.cells] at hcs
  subst hcs
  rfl
end
namespace Ms
theorem cells16 {w : World} {g : Nat} {m : Mes} {ve vn vh vl : Value} (h : w.heap[g]? = some (.cells (mArr m ve vn vh vl) 32 (0, 0))) :
    w.cell? ⟨g, 0, none⟩ = some (.int .i64 m.kind) ∧ w.cell? ⟨g, 1, none⟩ = some (.int .i64 m.src) ∧ w.cell? ⟨g, 2, none⟩ = some (.int .i64 m.dst) ∧ w.cell? ⟨g, 3, none⟩ = some (.int .u64 m.term) ∧ w.cell? ⟨g, 4, none⟩ = some (.int .u64 m.index) ∧ w.cell? ⟨g, 5, none⟩ = some (.int .u64 m.lterm) ∧ w.cell? ⟨g, 6, none⟩ = some (.int .u64 m.commit) ∧ w.cell? ⟨g, 7, none⟩ = some (.bool m.flag) ∧ w.cell? ⟨g, 8, none⟩ = some ve ∧ w.cell? ⟨g, 9, none⟩ = some (.int .u64 m.shot.index) ∧ w.cell? ⟨g, 10, none⟩ = some (.int .u64 m.shot.term) ∧ w.cell? ⟨g, 11, none⟩ = some vn ∧ w.cell? ⟨g, 12, none⟩ = some (.int .i64 m.shot.led.limit) ∧ w.cell? ⟨g, 13, none⟩ = some (.int .u64 m.shot.led.next) ∧ w.cell? ⟨g, 14, none⟩ = some vh ∧ w.cell? ⟨g, 15, none⟩ = some vl :=
  ⟨(cell_of_row w _ 0 _ _ _ h).trans rfl, (cell_of_row w _ 1 _ _ _ h).trans rfl, (cell_of_row w _ 2 _ _ _ h).trans rfl, (cell_of_row w _ 3 _ _ _ h).trans rfl, (cell_of_row w _ 4 _ _ _ h).trans rfl, (cell_of_row w _ 5 _ _ _ h).trans rfl, (cell_of_row w _ 6 _ _ _ h).trans rfl, (cell_of_row w _ 7 _ _ _ h).trans rfl, (cell_of_row w _ 8 _ _ _ h).trans rfl, (cell_of_row w _ 9 _ _ _ h).trans rfl, (cell_of_row w _ 10 _ _ _ h).trans rfl, (cell_of_row w _ 11 _ _ _ h).trans rfl, (cell_of_row w _ 12 _ _ _ h).trans rfl, (cell_of_row w _ 13 _ _ _ h).trans rfl, (cell_of_row w _ 14 _ _ _ h).trans rfl, (cell_of_row w _ 15 _ _ _ h).trans rfl⟩
theorem IsMsg_shot {w : World} {m : Mes} {ve vn vh vl : Value} (h : IsMsg w (.agg (mArr m ve vn vh vl)) m) : IsShot w (.agg (sArr m.shot vn vh vl)) m.shot := by
  obtain ⟨ve', vn', vh', vl', e, h0, h1, h2, h3, h4⟩ := h
  simp only [Value.agg.injEq, Array.mk.injEq, List.cons.injEq, and_true, true_and] at e
  obtain ⟨rfl, rfl, rfl, rfl⟩ := e
  exact ⟨_, _, _, rfl, h1, h2, h3, h4.2.2.2.2.2.2.2⟩
theorem IsMsg_log {w : World} {m : Mes} {ve vn vh vl : Value} (h : IsMsg w (.agg (mArr m ve vn vh vl)) m) : IsLog w ve m.ents := by
  obtain ⟨ve', vn', vh', vl', e, h0, h1, h2, h3, h4⟩ := h
  simp only [Value.agg.injEq, Array.mk.injEq, List.cons.injEq, and_true, true_and] at e
  obtain ⟨rfl, rfl, rfl, rfl⟩ := e
  exact h0
end Ms
end Go.Proofs.Yteapccniloednaa
