/- What lasts of a node, read as an argument. No condition. -/
import Derived.Test.YtgbblegcjladaaaShT
import Derived.Test.YtgbblegcjladaaaCmdS
namespace Go.Proofs.Ytgbblegcjladaaa
open Go.ChangeShapes Go.WideShapes Go.ChangeAt Go.RowKit Go.Deep
set_option linter.unusedVariables false
set_option maxRecDepth 100000
structure Ent where
  term : Int
  cmd : Cmd
/-- an entry, and the value of its list -/
abbrev ERow := Ent × Value
abbrev entC (r : ERow) : List Value := .int .u64 r.1.term :: (Cm.cArr r.1.cmd r.2).toList
theorem entC_len (r : ERow) : (entC r).length = 9 := rfl
def Ent.wf (x : Ent) : Prop := (Lit.int .u64 x.term).wf = true ∧ x.cmd.wf
/-- the lists of some entries can be read -/
def Ents (w : World) (rows : List ERow) : Prop := ∀ r ∈ rows, Sl .i64 w r.2 r.1.cmd.nodes ∧ r.1.wf
theorem Ents.below {w w' : World} {rows : List ERow} {B : Nat} (h : Ents w rows) (hb : Below B w w') (hB : w.heap.size ≤ B) : Ents w' rows :=
  fun r hr => ⟨(h r hr).1.below hb hB, (h r hr).2⟩
structure Har where
  boot : Int
  term : Int
  vote : Int
  shot : Sho
  log : List Ent
abbrev hArr (h : Har) (vn vh vl vg : Value) : Array Value := #[.int .u64 h.boot, .int .u64 h.term, .int .i64 h.vote, .int .u64 h.shot.index, .int .u64 h.shot.term, vn, .int .i64 h.shot.led.limit, .int .u64 h.shot.led.next, vh, vl, vg]
def Har.wf (h : Har) : Prop := (Lit.int .u64 h.boot).wf = true ∧ (Lit.int .u64 h.term).wf = true ∧ (Lit.int .i64 h.vote).wf = true ∧ h.shot.wf
/-- the log's rows -/
def IsLog (w : World) (vg : Value) (log : List Ent) : Prop := ∃ rows : List ERow, SlR 9 entC w vg rows ∧ Ents w rows ∧ rows.map Prod.fst = log
theorem IsLog.below {w w' : World} {v : Value} {l : List Ent} {B : Nat} (h : IsLog w v l) (hb : Below B w w') (hB : w.heap.size ≤ B) : IsLog w' v l := by
  obtain ⟨rows, h1, h2, h3⟩ := h
  exact ⟨rows, h1.below hb hB, h2.below hb hB, h3⟩
def IsHard (w : World) (v : Value) (h : Har) : Prop := ∃ vn vh vl vg, v = .agg (hArr h vn vh vl vg) ∧ Sl .i64 w vn h.shot.nodes ∧ SlR 5 heldC w vh h.shot.led.held ∧ SlR 6 lastC w vl h.shot.led.last ∧ IsLog w vg h.log ∧ h.wf
def IsHard.size (h : Har) : Nat := 0
def IsHard.fits (h : Har) : Prop := IsShot.fits h.shot ∧ h.log.length * 88 ≤ 140737488351232 ∧ ∀ x ∈ h.log, IsCmd.fits x.cmd
theorem IsHard.below {w w' : World} {v : Value} {h : Har} {B : Nat} (hh : IsHard w v h) (hb : Below B w w') (hB : w.heap.size ≤ B) : IsHard w' v h := by
  obtain ⟨vn, vh, vl, vg, e, h0, h1, h2, h3, h4⟩ := hh
  exact ⟨vn, vh, vl, vg, e, h0.below hb hB, h1.below hb hB, h2.below hb hB, h3.below hb hB, h4⟩
section
variable {H : Type} {enc : TypeId × Value → H} {P : Program} {W : World}
/-- a slice of structs in a cell, whose elements have sizes of their own -/
theorem rows_cell2 {α : Type} {sz : Nat} {C : α → List Value} {Q F : α → Prop} {t e : TypeId} {n : Nat} {v : Value} {y : DataW H × List MemPlace} (ht : P.underlying t = some (.slice e)) (hc : P.cellsOf e = sz) (h0 : 0 < sz)
    (he : ∀ m cs y, DataW.trod enc P W 0 (fun _ => true) true m e cs = some y → ∃ x, cs = C x ∧ Q x ∧ (Wt P e y.1 → F x))
    (h : DataW.trod enc P W 0 (fun _ => true) true n t [v] = some y) :
    ∃ xs, SlR sz C W v xs ∧ (∀ x ∈ xs, Q x) ∧ (Wt P t y.1 → xs.length * P.bytesOf e ≤ reachBytes ∧ ∀ x ∈ xs, F x) := by
  rcases open_slice ht h with ⟨hcs, rfl⟩ | ⟨a, len, cap, m, n', D, Pl, hcs, _, hl, hm, hmm, rfl, hi⟩
  · simp only [List.cons.injEq, and_true] at hcs
    subst hcs
    exact ⟨[], SlR.nil _, by simp, fun _ => ⟨by simp, by simp⟩⟩
  · simp only [List.cons.injEq, and_true] at hcs
    subst hcs
    have hml : len ≤ m := by rw [hmm]; simp only [if_true]; exact hl
    obtain ⟨xs, hxl, hxs⟩ := choose_list (p := fun i x => (Q x ∧ (Wt P e (D i) → F x)) ∧ ∀ j u, (C x)[j]? = some u → W.cell? ((a.add (i * sz)).add j) = some u) len fun i hil => by
      obtain ⟨cs', h1, h2⟩ := hi i (by omega)
      rw [hc] at h1
      obtain ⟨x, rfl, hq, hf⟩ := he _ _ _ h2
      obtain ⟨_, hlen, hat⟩ := World.cells?_some h1
      refine ⟨x, ⟨hq, hf⟩, fun j u hu => ?_⟩
      have hj : j < sz := by
        rcases Nat.lt_or_ge j (C x).length with h | h
        · omega
        · rw [List.getElem?_eq_none h] at hu; cases hu
      rw [hat j hj, hu]
    refine ⟨xs, ?_, fun x hx => ?_, fun hw => ⟨?_, fun x hx => ?_⟩⟩
    · obtain ⟨b, off, sp⟩ := a
      refine ⟨_, cap, by rw [hxl], by omega, hm, .inr ⟨b, off, sp, rfl, ?_⟩⟩
      rcases Nat.eq_zero_or_pos len with hl0 | hl0
      · exact .inl (List.eq_nil_of_length_eq_zero (by omega))
      · refine .inr ?_
        obtain ⟨cs', h1, _⟩ := hi 0 (by omega)
        rw [hc] at h1
        obtain ⟨_, hlen, hat⟩ := World.cells?_some h1
        have h2 := hat 0 h0
        rw [List.getElem?_eq_getElem (by omega)] at h2
        have hsp : sp = none := by
          have := World.cell?_spot h2
          simpa [Addr.add] using this
        subst hsp
        rw [add_plain, add_plain] at h2
        refine ⟨rfl, World.block_lt_of_cell? _ _ h2, fun i x hx j u hu => ?_⟩
        have h3 := (hxs i x hx).2 j u hu
        rw [add_plain, add_plain, Nat.add_assoc] at h3
        exact h3
    · obtain ⟨i, hi', rfl⟩ := List.mem_iff_getElem.1 hx
      exact (hxs i _ (List.getElem?_eq_getElem hi')).1.1
    · have h1 := (wt_slice ht hw).1
      simp only [List.length_map, List.length_range] at h1
      rw [hxl]
      exact Nat.le_trans (Nat.mul_le_mul_right _ (by omega)) h1
    · obtain ⟨i, hi', rfl⟩ := List.mem_iff_getElem.1 hx
      exact (hxs i _ (List.getElem?_eq_getElem hi')).1.2 ((wt_slice ht hw).2 _ (List.mem_map.2 ⟨i, by simp; omega, rfl⟩))
end
namespace Hd
theorem ent_cells {w : World} {b off k : Nat} {r : ERow} (h : ∀ j u, (entC r)[j]? = some u → w.cell? ⟨b, off + (k * 9 + j), none⟩ = some u) :
    w.cell? ⟨b, off + k * 9, none⟩ = some (.int .u64 r.1.term) ∧ w.cell? ⟨b, off + k * 9 + 1, none⟩ = some (.int .i64 r.1.cmd.kind) ∧ w.cell? ⟨b, off + k * 9 + 2, none⟩ = some (.int .i64 r.1.cmd.node) ∧ w.cell? ⟨b, off + k * 9 + 3, none⟩ = some (.int .i64 r.1.cmd.token) ∧ w.cell? ⟨b, off + k * 9 + 4, none⟩ = some r.2 ∧ w.cell? ⟨b, off + k * 9 + 5, none⟩ = some (.int .u64 r.1.cmd.boot) ∧ w.cell? ⟨b, off + k * 9 + 6, none⟩ = some (.int .u64 r.1.cmd.seq) ∧ w.cell? ⟨b, off + k * 9 + 7, none⟩ = some (.int .u64 r.1.cmd.serial) ∧ w.cell? ⟨b, off + k * 9 + 8, none⟩ = some (.int .u64 r.1.cmd.stamp) := by
  have h0 := h 0 _ rfl; have h1 := h 1 _ rfl; have h2 := h 2 _ rfl; have h3 := h 3 _ rfl; have h4 := h 4 _ rfl; have h5 := h 5 _ rfl; have h6 := h 6 _ rfl; have h7 := h 7 _ rfl; have h8 := h 8 _ rfl
  simp only [← Nat.add_assoc, Nat.add_zero] at h0 h1 h2 h3 h4 h5 h6 h7 h8
  exact ⟨h0, h1, h2, h3, h4, h5, h6, h7, h8⟩
theorem box_below {w wr : World} {o : Obj} (hb : Below (w.heap.size + 1) (w.alloc o) wr) : Below w.heap.size w wr :=
  ((Below.refl _ _).alloc (Nat.le_refl _) _).trans (hb.mono (by omega))
end Hd
end Go.Proofs.Ytgbblegcjladaaa
