/- A ledger read as an argument. No condition. -/
import Derived.Test.YtlkmdoddgfmnbaaStr
namespace Go.Proofs.Ytlkmdoddgfmnbaa
open Go.ChangeShapes Go.WideShapes Go.ChangeAt Go.RowKit Go.Deep
set_option linter.unusedVariables false
set_option maxRecDepth 100000

structure Held where
  token : Int
  node : Int
  boot : Int
  serial : Int
  stamp : Int
deriving DecidableEq
structure LastR where
  node : Int
  boot : Int
  seq : Int
  code : Int
  token : Int
  serial : Int
deriving DecidableEq
structure Led where
  limit : Int
  next : Int
  held : List Held
  last : List LastR
deriving DecidableEq
def heldC (x : Held) : List Value := [.int .i64 x.token, .int .i64 x.node, .int .u64 x.boot, .int .u64 x.serial, .int .u64 x.stamp]
def lastC (x : LastR) : List Value := [.int .i64 x.node, .int .u64 x.boot, .int .u64 x.seq, .int .i64 x.code, .int .i64 x.token, .int .u64 x.serial]
def Held.wf (x : Held) : Prop := (Lit.int .i64 x.token).wf = true ∧ (Lit.int .i64 x.node).wf = true ∧ (Lit.int .u64 x.boot).wf = true ∧ (Lit.int .u64 x.serial).wf = true ∧ (Lit.int .u64 x.stamp).wf = true
def LastR.wf (x : LastR) : Prop := (Lit.int .i64 x.node).wf = true ∧ (Lit.int .u64 x.boot).wf = true ∧ (Lit.int .u64 x.seq).wf = true ∧ (Lit.int .i64 x.code).wf = true ∧ (Lit.int .i64 x.token).wf = true ∧ (Lit.int .u64 x.serial).wf = true
theorem heldC_len (x : Held) : (heldC x).length = 5 := rfl
theorem lastC_len (x : LastR) : (lastC x).length = 6 := rfl
theorem heldC_one (x : Held) : ∀ u ∈ heldC x, u.oneCell' = true := by intro u hu; simp [heldC] at hu; rcases hu with rfl | rfl | rfl | rfl | rfl <;> rfl
theorem lastC_one (x : LastR) : ∀ u ∈ lastC x, u.oneCell' = true := by intro u hu; simp [lastC] at hu; rcases hu with rfl | rfl | rfl | rfl | rfl | rfl <;> rfl

def Led.wf (l : Led) : Prop := (Lit.int .i64 l.limit).wf = true ∧ (Lit.int .u64 l.next).wf = true ∧ (∀ x ∈ l.held, x.wf) ∧ ∀ x ∈ l.last, x.wf
/-- a ledger in cells, and its value -/
def LedCells (w : World) (cs : List Value) (l : Led) : Prop := ∃ vh vl, cs = [.int .i64 l.limit, .int .u64 l.next, vh, vl] ∧ SlR 5 heldC w vh l.held ∧ SlR 6 lastC w vl l.last ∧ l.wf
abbrev lArr (l : Led) (vh vl : Value) : Array Value := #[.int .i64 l.limit, .int .u64 l.next, vh, vl]
def IsLed (w : World) (v : Value) (l : Led) : Prop := ∃ vh vl, v = .agg (lArr l vh vl) ∧ SlR 5 heldC w vh l.held ∧ SlR 6 lastC w vl l.last ∧ l.wf
def IsLed.size (l : Led) : Nat := l.held.length + l.last.length
def IsLed.fits (l : Led) : Prop := l.held.length * 40 ≤ 140737488351232 ∧ l.last.length * 48 ≤ 140737488351232
theorem IsLed.below {w w' : World} {v : Value} {l : Led} {B : Nat} (h : IsLed w v l) (hb : Below B w w') (hB : w.heap.size ≤ B) : IsLed w' v l := by
  obtain ⟨vh, vl, e, h1, h2, h3⟩ := h
  exact ⟨vh, vl, e, h1.below hb hB, h2.below hb hB, h3⟩

section
variable {H : Type} {enc : TypeId × Value → H} {W : World}
theorem trod_held {n : Nat} {cs : List Value} {y : DataW H × List MemPlace} (h : DataW.trod enc Try.prog W 0 (fun _ => true) true n 39 cs = some y) : ∃ x, cs = heldC x ∧ x.wf := by
  obtain ⟨xs, m, _, rfl, hlen, hxl, hf⟩ := DataW.trod_struct Try.underlying39 h
  have hl : cs.length = 5 := hlen.trans (by kernel_rfl)
  match cs, hl, xs, hxl with
  | [c0, c1, c2, c3, c4], _, [y0, y1, y2, y3, y4], _ =>
    have k1 : Try.prog.cellsOf 3 = 1 := by kernel_rfl
    have k3 : Try.prog.cellsOf 22 = 1 := by kernel_rfl
    obtain ⟨z0, rfl, w0⟩ := int_cell (P := Try.prog) Try.underlying3 (by simpa [k1] using hf 0 _ rfl)
    obtain ⟨z1, rfl, w1⟩ := int_cell (P := Try.prog) Try.underlying3 (by simpa [k1] using hf 1 _ rfl)
    obtain ⟨z2, rfl, w2⟩ := int_cell (P := Try.prog) Try.underlying22 (by simpa [k3] using hf 2 _ rfl)
    obtain ⟨z3, rfl, w3⟩ := int_cell (P := Try.prog) Try.underlying22 (by simpa [k3] using hf 3 _ rfl)
    obtain ⟨z4, rfl, w4⟩ := int_cell (P := Try.prog) Try.underlying22 (by simpa [k3] using hf 4 _ rfl)
    exact ⟨⟨z0, z1, z2, z3, z4⟩, rfl, w0, w1, w2, w3, w4⟩
theorem trod_answer {n : Nat} {cs : List Value} {y : DataW H × List MemPlace} (h : DataW.trod enc Try.prog W 0 (fun _ => true) true n 33 cs = some y) : ∃ a b c, cs = [.int .i64 a, .int .i64 b, .int .u64 c] ∧ (Lit.int .i64 a).wf = true ∧ (Lit.int .i64 b).wf = true ∧ (Lit.int .u64 c).wf = true := by
  obtain ⟨xs, m, _, rfl, hlen, hxl, hf⟩ := DataW.trod_struct Try.underlying33 h
  have hl : cs.length = 3 := hlen.trans (by kernel_rfl)
  match cs, hl, xs, hxl with
  | [c0, c1, c2], _, [y0, y1, y2], _ =>
    have k1 : Try.prog.cellsOf 3 = 1 := by kernel_rfl
    have k3 : Try.prog.cellsOf 22 = 1 := by kernel_rfl
    obtain ⟨z0, rfl, w0⟩ := int_cell (P := Try.prog) Try.underlying3 (by simpa [k1] using hf 0 _ rfl)
    obtain ⟨z1, rfl, w1⟩ := int_cell (P := Try.prog) Try.underlying3 (by simpa [k1] using hf 1 _ rfl)
    obtain ⟨z2, rfl, w2⟩ := int_cell (P := Try.prog) Try.underlying22 (by simpa [k3] using hf 2 _ rfl)
    exact ⟨z0, z1, z2, rfl, w0, w1, w2⟩
theorem trod_last {n : Nat} {cs : List Value} {y : DataW H × List MemPlace} (h : DataW.trod enc Try.prog W 0 (fun _ => true) true n 41 cs = some y) : ∃ x, cs = lastC x ∧ x.wf := by
  obtain ⟨xs, m, _, rfl, hlen, hxl, hf⟩ := DataW.trod_struct Try.underlying41 h
  have hl : cs.length = 6 := hlen.trans (by kernel_rfl)
  match cs, hl, xs, hxl with
  | [c0, c1, c2, c3, c4, c5], _, [y0, y1, y2, y3], _ =>
    have k1 : Try.prog.cellsOf 3 = 1 := by kernel_rfl
    have k3 : Try.prog.cellsOf 22 = 1 := by kernel_rfl
    have k4 : Try.prog.cellsOf 33 = 3 := by kernel_rfl
    obtain ⟨z0, rfl, w0⟩ := int_cell (P := Try.prog) Try.underlying3 (by simpa [k1] using hf 0 _ rfl)
    obtain ⟨z1, rfl, w1⟩ := int_cell (P := Try.prog) Try.underlying22 (by simpa [k3] using hf 1 _ rfl)
    obtain ⟨z2, rfl, w2⟩ := int_cell (P := Try.prog) Try.underlying22 (by simpa [k3] using hf 2 _ rfl)
    obtain ⟨z3, z4, z5, he, w3, w4, w5⟩ := trod_answer (by simpa [k4] using hf 3 _ rfl)
    simp only [List.cons.injEq, and_true] at he
    obtain ⟨rfl, rfl, rfl⟩ := he
    exact ⟨⟨z0, z1, z2, z3, z4, z5⟩, rfl, w0, w1, w2, w3, w4, w5⟩
theorem trod_led {n : Nat} {cs : List Value} {y : DataW H × List MemPlace} (h : DataW.trod enc Try.prog W 0 (fun _ => true) true n 26 cs = some y) :
    ∃ l, LedCells W cs l ∧ IsLed.size l ≤ Rows.uptoBulk y.1 ∧ (Wt Try.prog 26 y.1 → IsLed.fits l) := by
  obtain ⟨xs, m, _, rfl, hlen, hxl, hf⟩ := DataW.trod_struct Try.underlying26 h
  have hl : cs.length = 4 := hlen.trans (by kernel_rfl)
  match cs, hl, xs, hxl with
  | [c0, c1, c2, c3], _, [y0, y1, y2, y3], _ =>
    have k1 : Try.prog.cellsOf 3 = 1 := by kernel_rfl
    have k3 : Try.prog.cellsOf 22 = 1 := by kernel_rfl
    have kh : Try.prog.cellsOf 23 = 1 := by kernel_rfl
    have kl : Try.prog.cellsOf 24 = 1 := by kernel_rfl
    obtain ⟨z0, rfl, w0⟩ := int_cell (P := Try.prog) Try.underlying3 (by simpa [k1] using hf 0 _ rfl)
    obtain ⟨z1, rfl, w1⟩ := int_cell (P := Try.prog) Try.underlying22 (by simpa [k3] using hf 1 _ rfl)
    obtain ⟨hs, h1, h2, h3, h4⟩ := rows_cell (P := Try.prog) (C := heldC) (Q := Held.wf) Try.underlying23 (sz := 5) (by kernel_rfl) (by omega) (fun m cs y h => trod_held h) (by simpa [kh] using hf 2 _ rfl)
    obtain ⟨ls, g1, g2, g3, g4⟩ := rows_cell (P := Try.prog) (C := lastC) (Q := LastR.wf) Try.underlying24 (sz := 6) (by kernel_rfl) (by omega) (fun m cs y h => trod_last h) (by simpa [kl] using hf 3 _ rfl)
    refine ⟨⟨z0, z1, hs, ls⟩, ⟨c2, c3, rfl, h1, g1, w0, w1, h2, g2⟩, ?_, fun hw => ⟨?_, ?_⟩⟩
    · simp only [IsLed.size, Rows.uptoBulk, Rows.uptoBulkAll, List.map_cons, List.map_nil]; omega
    · have := h4 (wt_field Try.underlying26 hw (j := 2) rfl rfl)
      rw [show Try.prog.bytesOf 39 = 40 from by kernel_rfl] at this
      simpa [reachBytes] using this
    · have := g4 (wt_field Try.underlying26 hw (j := 3) rfl rfl)
      rw [show Try.prog.bytesOf 41 = 48 from by kernel_rfl] at this
      simpa [reachBytes] using this
theorem open_led {base : Nat} {v : Value} {d : DataW H} {ps : List MemPlace}
    (hok : Value.okWide Try.prog W .any base 26 v) (h : DataW.Trod enc Try.prog W 0 (fun _ => true) true 26 v d ps) : ∃ l, IsLed W v l ∧ IsLed.size l ≤ Rows.uptoBulk d ∧ (Wt Try.prog 26 d → IsLed.fits l) := by
  obtain ⟨cs, rfl, hsz⟩ := okWide_struct Try.underlying26 hok
  obtain ⟨fuel, hf⟩ := h
  obtain ⟨l, ⟨vh, vl, hcs, h1, h2, h5⟩, h3, h4⟩ := trod_led hf
  refine ⟨l, ⟨vh, vl, ?_, h1, h2, h5⟩, h3, h4⟩
  obtain ⟨q⟩ := cs
  simp only [Value.cells] at hcs
  subst hcs
  rfl
end
theorem info_held : (Try.prog.info? 39).map (fun i => (i.zero, i.size, i.bytes)) = some (some (.agg #[.int .i64 0, .int .i64 0, .int .u64 0, .int .u64 0, .int .u64 0]), 5, 40) := by kernel_rfl
theorem info_last : (Try.prog.info? 41).map (fun i => (i.zero, i.size, i.bytes)) = some (some (.agg #[.int .i64 0, .int .u64 0, .int .u64 0, .int .i64 0, .int .i64 0, .int .u64 0]), 6, 48) := by kernel_rfl
end Go.Proofs.Ytlkmdoddgfmnbaa
