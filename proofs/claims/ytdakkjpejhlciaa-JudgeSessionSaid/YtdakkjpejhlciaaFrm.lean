/- Frames, replies and texts read as arguments. No condition. -/
import Derived.Test.YtdakkjpejhlciaaStr
namespace Go.Proofs.Ytdakkjpejhlciaa
open Go.ChangeShapes Go.WideShapes Go.ChangeAt Go.RowKit Go.Deep
set_option linter.unusedVariables false
set_option maxRecDepth 100000
structure Frm where
  kind : Int
  text : ByteArray
structure Rep where
  kind : Int
  node : Int
  text : ByteArray
def frmC (x : Frm) : List Value := [.int .u8 x.kind, .string x.text]
def repC (x : Rep) : List Value := [.int .i64 x.kind, .int .i64 x.node, .string x.text]
def strC (s : ByteArray) : List Value := [.string s]
theorem frmC_len (x : Frm) : (frmC x).length = 2 := rfl
theorem repC_len (x : Rep) : (repC x).length = 3 := rfl
theorem strC_len (x : ByteArray) : (strC x).length = 1 := rfl
theorem frmC_one (x : Frm) : ∀ u ∈ frmC x, u.oneCell' = true := by intro u hu; simp [frmC] at hu; rcases hu with rfl | rfl <;> rfl
theorem repC_one (x : Rep) : ∀ u ∈ repC x, u.oneCell' = true := by intro u hu; simp [repC] at hu; rcases hu with rfl | rfl | rfl <;> rfl
theorem strC_one (x : ByteArray) : ∀ u ∈ strC x, u.oneCell' = true := by intro u hu; simp [strC] at hu; subst hu; rfl
def Frm.wf (x : Frm) : Prop := (Lit.int .u8 x.kind).wf = true ∧ x.text.size ≤ maxLen
def Rep.wf (x : Rep) : Prop := (Lit.int .i64 x.kind).wf = true ∧ (Lit.int .i64 x.node).wf = true ∧ x.text.size ≤ maxLen
def IsFrms (w : World) (v : Value) (xs : List Frm) : Prop := SlR 2 frmC w v xs ∧ ∀ x ∈ xs, x.wf
def IsReps (w : World) (v : Value) (xs : List Rep) : Prop := SlR 3 repC w v xs ∧ ∀ x ∈ xs, x.wf
def IsStrs (w : World) (v : Value) (xs : List ByteArray) : Prop := SlR 1 strC w v xs ∧ ∀ x ∈ xs, x.size ≤ maxLen
def IsFrms.size (xs : List Frm) : Nat := xs.length
def IsReps.size (xs : List Rep) : Nat := xs.length
def IsStrs.size (xs : List ByteArray) : Nat := xs.length
def IsFrms.fits (xs : List Frm) : Prop := xs.length * 24 ≤ 140737488351232
def IsReps.fits (xs : List Rep) : Prop := xs.length * 32 ≤ 140737488351232
def IsStrs.fits (xs : List ByteArray) : Prop := xs.length * 16 ≤ 140737488351232
theorem IsFrms.below {w w' : World} {v : Value} {xs : List Frm} {B : Nat} (h : IsFrms w v xs) (hb : Below B w w') (hB : w.heap.size ≤ B) : IsFrms w' v xs := ⟨h.1.below hb hB, h.2⟩
theorem IsReps.below {w w' : World} {v : Value} {xs : List Rep} {B : Nat} (h : IsReps w v xs) (hb : Below B w w') (hB : w.heap.size ≤ B) : IsReps w' v xs := ⟨h.1.below hb hB, h.2⟩
theorem IsStrs.below {w w' : World} {v : Value} {xs : List ByteArray} {B : Nat} (h : IsStrs w v xs) (hb : Below B w w') (hB : w.heap.size ≤ B) : IsStrs w' v xs := ⟨h.1.below hb hB, h.2⟩
section
variable {H : Type} {enc : TypeId × Value → H} {P : Program} {W : World}
theorem str_cell {t : TypeId} {n : Nat} {v : Value} {y : DataW H × List MemPlace} (ht : P.underlying t = some .string) (h : DataW.trod enc P W 0 (fun _ => true) true n t [v] = some y) : ∃ s : ByteArray, v = .string s ∧ s.size ≤ maxLen := by
  obtain ⟨s, h1, _, hs⟩ := DataW.trod_string ht h
  simp only [List.cons.injEq, and_true] at h1
  exact ⟨s, h1, hs⟩
theorem slice_cells {r : Reach} {t e : TypeId} {v : Value} {b0 : Nat} (ht : P.underlying t = some (.slice e)) (hok : Value.okWide P W r b0 t v) : v.cells.toList = [v] := by
  obtain ⟨a, l, c, rfl⟩ := okWide_slice ht hok
  rfl
theorem trod_frm {n : Nat} {cs : List Value} {y : DataW H × List MemPlace} (h : DataW.trod enc Try.prog W 0 (fun _ => true) true n 57 cs = some y) : ∃ x, cs = frmC x ∧ x.wf := by
  obtain ⟨xs, m, _, rfl, hlen, hxl, hf⟩ := DataW.trod_struct Try.underlying57 h
  have hl : cs.length = 2 := hlen.trans (by kernel_rfl)
  match cs, hl, xs, hxl with
  | [c0, c1], _, [y0, y1], _ =>
    have k1 : Try.prog.cellsOf 5 = 1 := by kernel_rfl
    have k3 : Try.prog.cellsOf 9 = 1 := by kernel_rfl
    obtain ⟨z0, rfl, w0⟩ := int_cell (P := Try.prog) Try.underlying5 (by simpa [k1] using hf 0 _ rfl)
    obtain ⟨z1, rfl, w1⟩ := str_cell (P := Try.prog) Try.underlying9 (by simpa [k3] using hf 1 _ rfl)
    exact ⟨⟨z0, z1⟩, rfl, w0, w1⟩
theorem open_frms {base : Nat} {v : Value} {d : DataW H} {ps : List MemPlace}
    (hok : Value.okWide Try.prog W .any base 29 v) (h : DataW.Trod enc Try.prog W 0 (fun _ => true) true 29 v d ps) : ∃ l, IsFrms W v l ∧ IsFrms.size l ≤ Rows.uptoBulk d ∧ (Wt Try.prog 29 d → IsFrms.fits l) := by
  obtain ⟨fuel, hf⟩ := h
  rw [slice_cells Try.underlying29 hok] at hf
  obtain ⟨xs, h1, h2, h3, h4⟩ := rows_cell (P := Try.prog) (C := frmC) (Q := Frm.wf) Try.underlying29 (sz := 2) (by kernel_rfl) (by omega) (fun m cs y h => trod_frm h) hf
  refine ⟨xs, ⟨h1, h2⟩, h3, fun hw => ?_⟩
  have := h4 hw
  rw [show Try.prog.bytesOf 57 = 24 from by kernel_rfl] at this
  simpa [reachBytes, IsFrms.fits] using this
theorem open_strs {base : Nat} {v : Value} {d : DataW H} {ps : List MemPlace}
    (hok : Value.okWide Try.prog W .any base 59 v) (h : DataW.Trod enc Try.prog W 0 (fun _ => true) true 59 v d ps) : ∃ l, IsStrs W v l ∧ IsStrs.size l ≤ Rows.uptoBulk d ∧ (Wt Try.prog 59 d → IsStrs.fits l) := by
  obtain ⟨fuel, hf⟩ := h
  rw [slice_cells Try.underlying59 hok] at hf
  obtain ⟨xs, h1, h2, h3, h4⟩ := rows_cell (P := Try.prog) (C := strC) (Q := fun s => s.size ≤ maxLen) Try.underlying59 (sz := 1) (by kernel_rfl) (by omega) (fun m cs y h => by
    obtain ⟨s, hs, _, hm⟩ := DataW.trod_string Try.underlying9 h
    exact ⟨s, hs, hm⟩) hf
  refine ⟨xs, ⟨h1, h2⟩, h3, fun hw => ?_⟩
  have := h4 hw
  rw [show Try.prog.bytesOf 9 = 16 from by kernel_rfl] at this
  simpa [reachBytes, IsStrs.fits] using this
end
theorem frm_cells {w : World} {b off k : Nat} {x : Frm} (h : ∀ j u, (frmC x)[j]? = some u → w.cell? ⟨b, off + (k * 2 + j), none⟩ = some u) :
    w.cell? ⟨b, off + k * 2, none⟩ = some (.int .u8 x.kind) ∧ w.cell? ⟨b, off + k * 2 + 1, none⟩ = some (.string x.text) := by
  have h0 := h 0 _ rfl; have h1 := h 1 _ rfl
  simp only [← Nat.add_assoc, Nat.add_zero] at h0 h1
  exact ⟨h0, h1⟩
theorem rep_cells {w : World} {b off k : Nat} {x : Rep} (h : ∀ j u, (repC x)[j]? = some u → w.cell? ⟨b, off + (k * 3 + j), none⟩ = some u) :
    w.cell? ⟨b, off + k * 3, none⟩ = some (.int .i64 x.kind) ∧ w.cell? ⟨b, off + k * 3 + 1, none⟩ = some (.int .i64 x.node) ∧ w.cell? ⟨b, off + k * 3 + 2, none⟩ = some (.string x.text) := by
  have h0 := h 0 _ rfl; have h1 := h 1 _ rfl; have h2 := h 2 _ rfl
  simp only [← Nat.add_assoc, Nat.add_zero] at h0 h1 h2
  exact ⟨h0, h1, h2⟩
end Go.Proofs.Ytdakkjpejhlciaa
