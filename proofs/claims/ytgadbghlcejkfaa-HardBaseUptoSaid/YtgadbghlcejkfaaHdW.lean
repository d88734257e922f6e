/- What lasts, and lists of records, as arguments, with how long they are. No condition. -/
import Derived.Test.YtgadbghlcejkfaaRec
import Derived.Test.YtgadbghlcejkfaaUpw
namespace Go.Proofs.Ytgadbghlcejkfaa
open Go.ChangeShapes Go.WideShapes Go.ChangeAt Go.RowKit Go.Deep
set_option linter.unusedVariables false
set_option maxRecDepth 100000
abbrev IsHardU := IsHard
def IsHardU.size (h : Har) : Nat := h.log.length
def IsHardU.fits (h : Har) : Prop := IsHard.fits h
abbrev RRow := RecR × Value × Value × Value × Value
def recC (r : RRow) : List Value := (rArr r.1 r.2.1 r.2.2.1 r.2.2.2.1 r.2.2.2.2).toList
theorem recC_len (r : RRow) : (recC r).length = 21 := rfl
def RecsW (w : World) (rows : List RRow) : Prop := ∀ r ∈ rows, RecL w r.1 r.2.1 r.2.2.1 r.2.2.2.1 r.2.2.2.2 ∧ r.1.wf
theorem RecsW.below {w w' : World} {rows : List RRow} {B : Nat} (h : RecsW w rows) (hb : Below B w w') (hB : w.heap.size ≤ B) : RecsW w' rows := fun r hr => ⟨(h r hr).1.below hb hB, (h r hr).2⟩
/-- v reads as the records l -/
def IsRecs (w : World) (v : Value) (l : List RecR) : Prop := ∃ rows : List RRow, SlR 21 recC w v rows ∧ RecsW w rows ∧ rows.map Prod.fst = l
def IsRecs.size (l : List RecR) : Nat := l.length
def IsRecs.fits (l : List RecR) : Prop := ∀ r ∈ l, IsRec.fits r
theorem IsRecs.below {w w' : World} {v : Value} {l : List RecR} {B : Nat} (h : IsRecs w v l) (hb : Below B w w') (hB : w.heap.size ≤ B) : IsRecs w' v l := by
  obtain ⟨rows, h1, h2, h3⟩ := h
  exact ⟨rows, h1.below hb hB, h2.below hb hB, h3⟩
section
variable {H : Type} {enc : TypeId × Value → H} {P : Program} {W : World}
/-- a slice of structs in a cell, whose elements have sizes of their own -/
theorem rows_cell3 {α : Type} {sz : Nat} {C : α → List Value} {Q F : α → Prop} {t e : TypeId} {n : Nat} {v : Value} {y : DataW H × List MemPlace} (ht : P.underlying t = some (.slice e)) (hc : P.cellsOf e = sz) (h0 : 0 < sz)
    (he : ∀ m cs y, DataW.trod enc P W 0 (fun _ => true) true m e cs = some y → ∃ x, cs = C x ∧ Q x ∧ (Wt P e y.1 → F x))
    (h : DataW.trod enc P W 0 (fun _ => true) true n t [v] = some y) :
    ∃ xs, SlR sz C W v xs ∧ (∀ x ∈ xs, Q x) ∧ xs.length ≤ Rows.uptoBulk y.1 ∧ (Wt P t y.1 → xs.length * P.bytesOf e ≤ reachBytes ∧ ∀ x ∈ xs, F x) := by
  rcases open_slice ht h with ⟨hcs, rfl⟩ | ⟨a, len, cap, m, n', D, Pl, hcs, _, hl, hm, hmm, rfl, hi⟩
  · simp only [List.cons.injEq, and_true] at hcs
    subst hcs
    exact ⟨[], SlR.nil _, by simp, Nat.zero_le _, fun _ => ⟨by simp, by simp⟩⟩
  · simp only [List.cons.injEq, and_true] at hcs
    subst hcs
    have hml : len ≤ m := by rw [hmm]; simp only [if_true]; exact hl
    obtain ⟨xs, hxl, hxs⟩ := choose_list (p := fun i x => (Q x ∧ (Wt P e (D i) → F x)) ∧ ∀ j u, (C x)[j]? = some u → W.cell? ((a.add (i * sz)).add j) = some u) len fun i hil => by
      obtain ⟨cs', h1, h2⟩ := hi i (by omega)
      rw [hc] at h1
      obtain ⟨x, rfl, hq, hf⟩ := he _ _ _ h2
      obtain ⟨_, hlen, hat⟩ := World.cells?_some h1
      refine ⟨x, ⟨hq, hf⟩, fun j u hu => ?_⟩
      have hj : j < sz := by
        rcases Nat.lt_or_ge j (C x).length with h | h
        · omega
        · rw [List.getElem?_eq_none h] at hu; cases hu
      rw [hat j hj, hu]
    refine ⟨xs, ?_, fun x hx => ?_, ?_, fun hw => ⟨?_, fun x hx => ?_⟩⟩
    · obtain ⟨b, off, sp⟩ := a
      refine ⟨_, cap, by rw [hxl], by omega, hm, .inr ⟨b, off, sp, rfl, ?_⟩⟩
      rcases Nat.eq_zero_or_pos len with hl0 | hl0
      · exact .inl (List.eq_nil_of_length_eq_zero (by omega))
      · refine .inr ?_
        obtain ⟨cs', h1, _⟩ := hi 0 (by omega)
        rw [hc] at h1
        obtain ⟨_, hlen, hat⟩ := World.cells?_some h1
        have h2 := hat 0 h0
        rw [List.getElem?_eq_getElem (by omega)] at h2
        have hsp : sp = none := by
          have := World.cell?_spot h2
          simpa [Addr.add] using this
        subst hsp
        rw [add_plain, add_plain] at h2
        refine ⟨rfl, World.block_lt_of_cell? _ _ h2, fun i x hx j u hu => ?_⟩
        have h3 := (hxs i x hx).2 j u hu
        rw [add_plain, add_plain, Nat.add_assoc] at h3
        exact h3
    · obtain ⟨i, hi', rfl⟩ := List.mem_iff_getElem.1 hx
      exact (hxs i _ (List.getElem?_eq_getElem hi')).1.1
    · have h1 := (bulk_slice (H := H) (es := (List.range len).map D) (sp := (List.range (m - len)).map fun j => D (len + j))).1
      simp only [List.length_map, List.length_range] at h1
      rw [hxl]; exact h1
    · have h1 := (wt_slice ht hw).1
      simp only [List.length_map, List.length_range] at h1
      rw [hxl]
      exact Nat.le_trans (Nat.mul_le_mul_right _ (by omega)) h1
    · obtain ⟨i, hi', rfl⟩ := List.mem_iff_getElem.1 hx
      exact (hxs i _ (List.getElem?_eq_getElem hi')).1.2 ((wt_slice ht hw).2 _ (List.mem_map.2 ⟨i, by simp; omega, rfl⟩))
theorem trod_hardU {n : Nat} {cs : List Value} {y : DataW H × List MemPlace} (h : DataW.trod enc Try.prog W 0 (fun _ => true) true n 32 cs = some y) :
    ∃ h vn vh vl vg, cs = (hArr h vn vh vl vg).toList ∧ (Sl .i64 W vn h.shot.nodes ∧ SlR 5 heldC W vh h.shot.led.held ∧ SlR 6 lastC W vl h.shot.led.last ∧ IsLog W vg h.log ∧ h.wf) ∧ h.log.length ≤ Rows.uptoBulk y.1 ∧ (Wt Try.prog 32 y.1 → IsHard.fits h) := by
  obtain ⟨xs, m, _, rfl, hlen, hxl, hf⟩ := DataW.trod_struct Try.underlying32 h
  have hl : cs.length = 11 := hlen.trans (by kernel_rfl)
  match cs, hl, xs, hxl with
  | [c0, c1, c2, c3, c4, c5, c6, c7, c8, c9, c10], _, [y0, y1, y2, y3, y4], _ =>
    have k1 : Try.prog.cellsOf 3 = 1 := by kernel_rfl
    have k3 : Try.prog.cellsOf 22 = 1 := by kernel_rfl
    have k7 : Try.prog.cellsOf 29 = 7 := by kernel_rfl
    have ke : Try.prog.cellsOf 30 = 1 := by kernel_rfl
    obtain ⟨z0, rfl, w0⟩ := int_cell (P := Try.prog) Try.underlying22 (by simpa [k3] using hf 0 _ rfl)
    obtain ⟨z1, rfl, w1⟩ := int_cell (P := Try.prog) Try.underlying22 (by simpa [k3] using hf 1 _ rfl)
    obtain ⟨z2, rfl, w2⟩ := int_cell (P := Try.prog) Try.underlying3 (by simpa [k1] using hf 2 _ rfl)
    obtain ⟨s, vn, vh, vl, hcs, ⟨h1, h2, h3, h4⟩, h5⟩ := trod_shot (by simpa [k7] using hf 3 _ rfl)
    obtain ⟨rows, g1, g2, gb, g3⟩ := rows_cell3 (P := Try.prog) (C := entC) (Q := fun r => Sl .i64 W r.2 r.1.cmd.nodes ∧ r.1.wf) (F := fun r => IsCmd.fits r.1.cmd) Try.underlying30 (sz := 9) (by kernel_rfl) (by omega) (fun m cs y h => trod_entry h) (by simpa [ke] using hf 4 _ rfl)
    simp only [List.cons.injEq, and_true] at hcs
    obtain ⟨rfl, rfl, rfl, rfl, rfl, rfl, rfl⟩ := hcs
    refine ⟨⟨z0, z1, z2, s, rows.map Prod.fst⟩, _, _, _, c10, rfl, ⟨h1, h2, h3, ⟨rows, g1, g2, rfl⟩, w0, w1, w2, h4⟩, by rw [List.length_map]; exact Nat.le_trans gb (bulk_field (by simp)), fun hw => ⟨h5 (wt_field Try.underlying32 hw (j := 3) rfl rfl), ?_⟩⟩
    obtain ⟨q1, q2⟩ := g3 (wt_field Try.underlying32 hw (j := 4) rfl rfl)
    rw [show Try.prog.bytesOf 36 = 88 from by kernel_rfl] at q1
    unfold reachBytes at q1
    refine ⟨by simp; omega, fun x hx => ?_⟩
    obtain ⟨r, hr, rfl⟩ := List.mem_map.1 hx
    exact q2 r hr
theorem open_hardU {base : Nat} {v : Value} {d : DataW H} {ps : List MemPlace}
    (hok : Value.okWide Try.prog W .any base 32 v) (h : DataW.Trod enc Try.prog W 0 (fun _ => true) true 32 v d ps) : ∃ h, IsHard W v h ∧ IsHardU.size h ≤ Rows.uptoBulk d ∧ (Wt Try.prog 32 d → IsHard.fits h) := by
  obtain ⟨cs, rfl, hsz⟩ := okWide_struct Try.underlying32 hok
  obtain ⟨fuel, hf⟩ := h
  obtain ⟨h, vn, vh, vl, vg, hcs, h1, h3, h4⟩ := trod_hardU hf
  refine ⟨h, ⟨vn, vh, vl, vg, ?_, h1⟩, h3, h4⟩
  obtain ⟨q⟩ := cs
  simp only [Value.cells] at hcs
  subst hcs
  rfl
theorem slice_cellsU {P : Program} {r : Reach} {t e : TypeId} {v : Value} {b0 : Nat} (ht : P.underlying t = some (.slice e)) (hok : Value.okWide P W r b0 t v) : v.cells.toList = [v] := by
  obtain ⟨a, l, c, rfl⟩ := okWide_slice ht hok
  rfl
theorem open_recs {base : Nat} {v : Value} {d : DataW H} {ps : List MemPlace}
    (hok : Value.okWide Try.prog W .any base 48 v) (h : DataW.Trod enc Try.prog W 0 (fun _ => true) true 48 v d ps) : ∃ l, IsRecs W v l ∧ IsRecs.size l ≤ Rows.uptoBulk d ∧ (Wt Try.prog 48 d → IsRecs.fits l) := by
  obtain ⟨fuel, hf⟩ := h
  rw [slice_cellsU Try.underlying48 hok] at hf
  obtain ⟨rows, g1, g2, gb, g3⟩ := rows_cell3 (P := Try.prog) (C := recC) (Q := fun r => RecL W r.1 r.2.1 r.2.2.1 r.2.2.2.1 r.2.2.2.2 ∧ r.1.wf) (F := fun r => IsRec.fits r.1) Try.underlying48 (sz := 21) (by kernel_rfl) (by omega) (fun m cs y h => by
    obtain ⟨r, vc, vn, vh, vl, h1, h2, h3, h4⟩ := trod_rec h
    exact ⟨(r, vc, vn, vh, vl), h1, ⟨h2, h3⟩, h4⟩) hf
  refine ⟨rows.map Prod.fst, ⟨rows, g1, g2, rfl⟩, by unfold IsRecs.size; rw [List.length_map]; exact gb, fun hw r hr => ?_⟩
  obtain ⟨x, hx, rfl⟩ := List.mem_map.1 hr
  exact (g3 hw).2 x hx
end
end Go.Proofs.Ytgadbghlcejkfaa
