/- What a law does with a disk, as an argument; '[]byte(s)'. No condition. -/
import Derived.Test.YtfaifdidillkaaaDkH
import Derived.Laws.IdiomStrings
namespace Go.Proofs.Ytfaifdidillkaaa
open Go.ChangeShapes Go.WideShapes Go.ChangeAt Go.RowKit Go.Deep
set_option linter.unusedVariables false
set_option maxRecDepth 100000
set_option linter.unusedSimpArgs false
namespace Dk
structure DOp where
  kind : Int
  n : Int
  name : ByteArray
  b : ByteArray
  keep : List Int
abbrev DRow := DOp × Value
abbrev dopC (r : DRow) : List Value := [.int .i64 r.1.kind, .int .i64 r.1.n, .string r.1.name, .string r.1.b, r.2]
theorem dopC_len (r : DRow) : (dopC r).length = 5 := rfl
def DOp.wf (x : DOp) : Prop := (Lit.int .i64 x.kind).wf = true ∧ (Lit.int .i64 x.n).wf = true ∧ x.name.size ≤ maxLen ∧ x.b.size ≤ maxLen
def IsDOps (w : World) (v : Value) (l : List DOp) : Prop := ∃ rows : List DRow, SlR 5 dopC w v rows ∧ (∀ r ∈ rows, r.1.wf ∧ SlR 1 inC w r.2 r.1.keep) ∧ rows.map Prod.fst = l
def IsDOps.size (l : List DOp) : Nat := 0
theorem IsDOps.below {w w' : World} {v : Value} {l : List DOp} {B : Nat} (h : IsDOps w v l) (hb : Below B w w') (hB : w.heap.size ≤ B) : IsDOps w' v l := by
  obtain ⟨rows, h1, h2, h3⟩ := h
  exact ⟨rows, h1.below hb hB, fun r hr => ⟨(h2 r hr).1, (h2 r hr).2.below hb hB⟩, h3⟩
section
variable {H : Type} {enc : TypeId × Value → H} {W : World}
theorem str_cell {P : Program} {t : TypeId} {n : Nat} {v : Value} {y : DataW H × List MemPlace} (ht : P.underlying t = some .string) (h : DataW.trod enc P W 0 (fun _ => true) true n t [v] = some y) : ∃ s : ByteArray, v = .string s ∧ s.size ≤ maxLen := by
  obtain ⟨s, h1, _, hs⟩ := DataW.trod_string ht h
  simp only [List.cons.injEq, and_true] at h1
  exact ⟨s, h1, hs⟩
theorem slice_cells {P : Program} {r : Reach} {t e : TypeId} {v : Value} {b0 : Nat} (ht : P.underlying t = some (.slice e)) (hok : Value.okWide P W r b0 t v) : v.cells.toList = [v] := by
  obtain ⟨a, l, c, rfl⟩ := okWide_slice ht hok
  rfl
theorem sl_slr {w : World} {v : Value} {zs : List Int} (h : Sl .i64 w v zs) : SlR 1 inC w v zs := by
  obtain ⟨a, cap, e, h1, h2, h3, h4⟩ := h
  refine ⟨a, cap, e, h1, h2, ?_⟩
  rcases h4 with h4 | ⟨b, off, sp, ha, h5⟩
  · exact .inl h4
  · refine .inr ⟨b, off, sp, ha, ?_⟩
    rcases h5 with h5 | ⟨h6, h7, h8⟩
    · exact .inl h5
    · refine .inr ⟨h6, h7, fun i x hx j u hu => ?_⟩
      obtain ⟨hi, hx2⟩ := List.getElem?_eq_some_iff.1 hx
      match j, hu with
      | 0, hu =>
        simp at hu
        subst hu
        rw [Nat.mul_one, Nat.add_zero, h8 i hi, ← hx2]
        simp [List.getD, hi]
theorem trod_ints {n : Nat} {v : Value} {y : DataW H × List MemPlace} (h : DataW.trod enc Try.prog W 0 (fun _ => true) true n 28 [v] = some y) : ∃ zs, SlR 1 inC W v zs := by
  obtain ⟨zs, h1, -, -⟩ := sl_cell (P := Try.prog) Try.underlying28 Try.underlying3 (by kernel_rfl) h
  exact ⟨zs, sl_slr h1⟩
theorem trod_dop {n : Nat} {cs : List Value} {y : DataW H × List MemPlace} (h : DataW.trod enc Try.prog W 0 (fun _ => true) true n 30 cs = some y) :
    ∃ r : DRow, cs = dopC r ∧ (r.1.wf ∧ SlR 1 inC W r.2 r.1.keep) := by
  obtain ⟨xs, m, _, rfl, hlen, hxl, hf⟩ := DataW.trod_struct Try.underlying30 h
  have hl : cs.length = 5 := hlen.trans (by kernel_rfl)
  match cs, hl, xs, hxl with
  | [c0, c1, c2, c3, c4], _, [y0, y1, y2, y3, y4], _ =>
    have k1 : Try.prog.cellsOf 3 = 1 := by kernel_rfl
    have k2 : Try.prog.cellsOf 9 = 1 := by kernel_rfl
    have k3 : Try.prog.cellsOf 28 = 1 := by kernel_rfl
    obtain ⟨z0, rfl, w0⟩ := int_cell (P := Try.prog) Try.underlying3 (by simpa [k1, k2, k3] using hf 0 _ rfl)
    obtain ⟨z1, rfl, w1⟩ := int_cell (P := Try.prog) Try.underlying3 (by simpa [k1, k2, k3] using hf 1 _ rfl)
    obtain ⟨z2, rfl, w2⟩ := str_cell (P := Try.prog) Try.underlying9 (by simpa [k1, k2, k3] using hf 2 _ rfl)
    obtain ⟨z3, rfl, w3⟩ := str_cell (P := Try.prog) Try.underlying9 (by simpa [k1, k2, k3] using hf 3 _ rfl)
    obtain ⟨zs, h4⟩ := trod_ints (v := c4) (by simpa [k1, k2, k3] using hf 4 _ rfl)
    exact ⟨(⟨z0, z1, z2, z3, zs⟩, c4), rfl, ⟨w0, w1, w2, w3⟩, h4⟩
theorem open_dops {base : Nat} {v : Value} {d : DataW H} {ps : List MemPlace}
    (hok : Value.okWide Try.prog W .any base 22 v) (h : DataW.Trod enc Try.prog W 0 (fun _ => true) true 22 v d ps) : ∃ l, IsDOps W v l ∧ True := by
  obtain ⟨fuel, hf⟩ := h
  rw [slice_cells Try.underlying22 hok] at hf
  obtain ⟨rows, g1, g2, -, -⟩ := rows_cell (P := Try.prog) (C := dopC) (Q := fun r => r.1.wf ∧ SlR 1 inC W r.2 r.1.keep) Try.underlying22 (sz := 5) (by kernel_rfl) (by omega) (fun m cs y h => trod_dop h) hf
  exact ⟨rows.map Prod.fst, ⟨rows, g1, g2, rfl⟩, trivial⟩
end
theorem dop_cells {w : World} {b o : Nat} {x : DRow} (h : ∀ j u, (dopC x)[j]? = some u → w.cell? ⟨b, o + j, none⟩ = some u) : w.cell? ⟨b, o, none⟩ = some (.int .i64 x.1.kind) ∧ w.cell? ⟨b, o + 1, none⟩ = some (.int .i64 x.1.n) ∧ w.cell? ⟨b, o + 2, none⟩ = some (.string x.1.name) ∧ w.cell? ⟨b, o + 3, none⟩ = some (.string x.1.b) ∧ w.cell? ⟨b, o + 4, none⟩ = some x.2 := ⟨h 0 _ rfl, h 1 _ rfl, h 2 _ rfl, h 3 _ rfl, h 4 _ rfl⟩
open _root_.Go.Proofs.Ytfaifdidillkaaa.St in
/-- '[]byte(s)' -/
theorem conv_bytes (w : World) (s : ByteArray) (hl : s.size ≤ maxLen) : ∃ cap w', (convert 9 39 (.string s)).run Try.prog w = .ok (.slice (some ⟨w.heap.size, 0, none⟩) s.size cap) w' ∧
    SlR 1 byC w' (.slice (some ⟨w.heap.size, 0, none⟩) s.size cap) (sb s) ∧ Below w.heap.size w w' ∧ ∃ cur fr, w'.heap[w.heap.size]? = some (.cells cur 5 fr) := by
  refine ⟨_, _, run_bytes_of_string w _ _ 5 s Try.underlying9 Try.underlying39 Try.underlying5, ?_, (Below.refl _ _).drew.alloc (Nat.le_refl _) _, ⟨_, _, heap_alloc_new w.drew _⟩⟩
  refine ⟨_, _, by rw [sb_length], by rw [sb_length]; exact grownCap_ge _ _ _ _, grownCap_le_maxLen _ _ _ _ hl, .inr ⟨w.heap.size, 0, none, rfl, .inr ⟨rfl, ?_, ?_⟩⟩⟩
  · show w.heap.size < (w.heap.push _).size
    simp
  · intro i x hx j u hu
    have hi : i < s.size := by rw [← sb_length]; exact (List.getElem?_eq_some_iff.1 hx).1
    have hj : j = 0 ∧ u = .int .u8 x := by
      match j, hu with
      | 0, hu => simp at hu; exact ⟨rfl, hu.symm⟩
    obtain ⟨rfl, rfl⟩ := hj
    rw [Nat.zero_add, Nat.mul_one, Nat.add_zero]
    refine (World.cell?_alloc_mark w.drew _ _ _ i).trans ?_
    rw [bytesRow_at s _ i hi]
    have h2 := (List.getElem?_eq_some_iff.1 hx).2
    rw [← h2]
    unfold sb
    simp
end Dk
end Go.Proofs.Ytfaifdidillkaaa
