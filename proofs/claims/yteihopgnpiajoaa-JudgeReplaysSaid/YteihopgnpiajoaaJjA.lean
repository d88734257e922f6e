/- Package judge: observations, what is open, what may come: on lists. No condition. -/
import Derived.Test.YteihopgnpiajoaaOnl
import Derived.Test.YteihopgnpiajoaaMp
namespace Go.Proofs.Yteihopgnpiajoaa
open Go.ChangeShapes Go.WideShapes Go.ChangeAt Go.RowKit Go.Deep
set_option linter.unusedVariables false
set_option maxRecDepth 100000
set_option linter.unusedSimpArgs false
namespace Jj
structure Sx where
  kind : Int
  node : Int
  tok : Int
abbrev sxC (x : Sx) : List Value := [.int .i64 x.kind, .int .i64 x.node, .int .i64 x.tok]
theorem sxC_len (x : Sx) : (sxC x).length = 3 := rfl
theorem sxC_one (x : Sx) : ∀ u ∈ sxC x, u.oneCell' = true := by intro u hu; simp at hu; rcases hu with rfl | rfl | rfl <;> rfl
def Sx.wf (x : Sx) : Prop := (Lit.int .i64 x.kind).wf = true ∧ (Lit.int .i64 x.node).wf = true ∧ (Lit.int .i64 x.tok).wf = true
def IsSeens (w : World) (v : Value) (xs : List Sx) : Prop := SlR 3 sxC w v xs ∧ ∀ x ∈ xs, x.wf
def IsSeens.size (xs : List Sx) : Nat := xs.length
def IsSeens.fits (xs : List Sx) : Prop := xs.length * 24 ≤ 140737488351232
theorem IsSeens.below {w w' : World} {v : Value} {xs : List Sx} {B : Nat} (h : IsSeens w v xs) (hb : Below B w w') (hB : w.heap.size ≤ B) : IsSeens w' v xs := ⟨h.1.below hb hB, h.2⟩
section
variable {H : Type} {enc : TypeId × Value → H} {W : World}
theorem trod_sxC {n : Nat} {cs : List Value} {y : DataW H × List MemPlace} (h : DataW.trod enc Try.prog W 0 (fun _ => true) true n 28 cs = some y) : ∃ x, cs = sxC x ∧ x.wf := by
  obtain ⟨xs, m, _, rfl, hlen, hxl, hf⟩ := DataW.trod_struct Try.underlying28 h
  have hl : cs.length = 3 := hlen.trans (by kernel_rfl)
  match cs, hl, xs, hxl with
  | [c0, c1, c2], _, [y0, y1, y2], _ =>
    have k_int : Try.prog.cellsOf 3 = 1 := by kernel_rfl
    obtain ⟨z0, rfl, w0⟩ := int_cell (P := Try.prog) Try.underlying3 (by simpa [k_int] using hf 0 _ rfl)
    obtain ⟨z1, rfl, w1⟩ := int_cell (P := Try.prog) Try.underlying3 (by simpa [k_int] using hf 1 _ rfl)
    obtain ⟨z2, rfl, w2⟩ := int_cell (P := Try.prog) Try.underlying3 (by simpa [k_int] using hf 2 _ rfl)
    exact ⟨⟨z0, z1, z2⟩, rfl, w0, w1, w2⟩
theorem open_sxC {base : Nat} {v : Value} {d : DataW H} {ps : List MemPlace}
    (hok : Value.okWide Try.prog W .any base 22 v) (h : DataW.Trod enc Try.prog W 0 (fun _ => true) true 22 v d ps) : ∃ l, IsSeens W v l ∧ IsSeens.size l ≤ Rows.uptoBulk d ∧ (Wt Try.prog 22 d → IsSeens.fits l) := by
  obtain ⟨fuel, hf⟩ := h
  rw [slice_cells Try.underlying22 hok] at hf
  obtain ⟨xs, h1, h2, h3, h4⟩ := rows_cell (P := Try.prog) (C := sxC) (Q := Sx.wf) Try.underlying22 (sz := 3) (by kernel_rfl) (by omega) (fun m cs y h => trod_sxC h) hf
  refine ⟨xs, ⟨h1, h2⟩, h3, fun hw => ?_⟩
  have := h4 hw
  rw [show Try.prog.bytesOf 28 = 24 from by kernel_rfl] at this
  simpa [reachBytes, IsSeens.fits] using this
end
theorem sxC_cells {w : World} {b o : Nat} {x : Sx} (h : ∀ j u, (sxC x)[j]? = some u → w.cell? ⟨b, o + j, none⟩ = some u) : w.cell? ⟨b, o, none⟩ = some (.int .i64 x.kind) ∧ w.cell? ⟨b, o + 1, none⟩ = some (.int .i64 x.node) ∧ w.cell? ⟨b, o + 2, none⟩ = some (.int .i64 x.tok) := ⟨h 0 _ rfl, h 1 _ rfl, h 2 _ rfl⟩
structure Cx where
  node : Int
  tok : Int
abbrev cxC (x : Cx) : List Value := [.int .i64 x.node, .int .i64 x.tok]
theorem cxC_len (x : Cx) : (cxC x).length = 2 := rfl
theorem cxC_one (x : Cx) : ∀ u ∈ cxC x, u.oneCell' = true := by intro u hu; simp at hu; rcases hu with rfl | rfl <;> rfl
def Cx.wf (x : Cx) : Prop := (Lit.int .i64 x.node).wf = true ∧ (Lit.int .i64 x.tok).wf = true
theorem cxC_cells {w : World} {b o : Nat} {x : Cx} (h : ∀ j u, (cxC x)[j]? = some u → w.cell? ⟨b, o + j, none⟩ = some u) : w.cell? ⟨b, o, none⟩ = some (.int .i64 x.node) ∧ w.cell? ⟨b, o + 1, none⟩ = some (.int .i64 x.tok) := ⟨h 0 _ rfl, h 1 _ rfl⟩

deriving instance DecidableEq for Cx
deriving instance DecidableEq for Sx
def keepB (s : Sx) (c : Cx) : Bool := !decide (c.node = s.node) || (decide (s.kind = 2) && !decide (c.tok = s.tok))
def stepO (cs : List Cx) (s : Sx) : List Cx := if s.kind = 1 then cs ++ [⟨s.node, s.tok⟩] else cs.filter (keepB s)
def openL (l : List Sx) : List Cx := l.foldl stepO []
def goodB (lim : Int) (s : Sx) : Bool := decide (1 ≤ lim) && decide (1 ≤ s.node) && decide (s.node ≤ 7) && (((decide (s.kind = 1) || decide (s.kind = 2)) && decide (1 ≤ s.tok) && decide (s.tok ≤ lim)) || (decide (s.kind = 3) && decide (s.tok = 0)))
def isB (cs : List Cx) (s : Sx) : Bool := cs.any fun c => decide (c.node = s.node) && decide (c.tok = s.tok)
def otherB (cs : List Cx) (s : Sx) : Bool := cs.any fun c => !decide (c.node = s.node) && decide (c.tok = s.tok)
def manyN (cs : List Cx) (n : Int) : Nat := cs.countP fun c => decide (c.node = n)
def wrongE (lim : Int) (cs : List Cx) (s : Sx) : Int :=
  if goodB lim s = false then 1 else if s.kind = 1 then (if isB cs s = true then 3 else if otherB cs s = true then 220 else if 8 ≤ manyN cs s.node then 6 else 0) else if s.kind = 2 then (if isB cs s = true then 0 else 4) else 0
/-- whose a token is -/
def ownO (cs : List Cx) (t : Int) : Option Int := (cs.find? fun c => decide (c.tok = t)).map Cx.node
def fO (cs : List Cx) (t : Int) : Option Value := (ownO cs t).map (Value.int .i64)
/-- what holds of what is open -/
structure OkC (lim : Int) (cs : List Cx) : Prop where
  nd : (cs.map Cx.tok).Nodup
  node : ∀ c ∈ cs, 1 ≤ c.node ∧ c.node ≤ 7
  tok : ∀ c ∈ cs, 1 ≤ c.tok ∧ c.tok ≤ lim
  many : ∀ n, manyN cs n ≤ 8
theorem OkC.nil (lim : Int) : OkC lim [] := ⟨List.nodup_nil, by simp, by simp, fun n => Nat.zero_le _⟩
theorem OkC.uniq {lim : Int} {cs : List Cx} (h : OkC lim cs) {c d : Cx} (hc : c ∈ cs) (hd : d ∈ cs) (e : c.tok = d.tok) : c = d := by
  have hn := h.nd
  rw [List.Nodup, List.pairwise_map] at hn
  obtain ⟨i, hi, rfl⟩ := List.mem_iff_getElem.1 hc
  obtain ⟨j, hj, rfl⟩ := List.mem_iff_getElem.1 hd
  rcases Nat.lt_trichotomy i j with g | g | g
  · exact absurd e (List.pairwise_iff_getElem.1 hn i j hi hj g)
  · subst g; rfl
  · exact absurd e.symm (List.pairwise_iff_getElem.1 hn j i hj hi g)
theorem OkC.filter {lim : Int} {cs : List Cx} (h : OkC lim cs) (p : Cx → Bool) : OkC lim (cs.filter p) :=
  ⟨(h.nd.sublist (List.Sublist.map _ List.filter_sublist)), fun c hc => h.node c (List.mem_filter.1 hc).1, fun c hc => h.tok c (List.mem_filter.1 hc).1, fun n => Nat.le_trans (List.Sublist.countP_le List.filter_sublist) (h.many n)⟩
theorem own_none {cs : List Cx} {t : Int} (h : ∀ c ∈ cs, c.tok ≠ t) : ownO cs t = none := by
  unfold ownO
  rw [List.find?_eq_none.2 (fun c hc => by simpa using h c hc)]; rfl
theorem own_some {lim : Int} {cs : List Cx} (h : OkC lim cs) {c : Cx} (hc : c ∈ cs) : ownO cs c.tok = some c.node := by
  unfold ownO
  cases hf : cs.find? (fun d => decide (d.tok = c.tok)) with
  | none => exact absurd (List.find?_eq_none.1 hf c hc) (by simp)
  | some d =>
    have h1 := List.find?_some hf
    have h2 := List.mem_of_find?_eq_some hf
    rw [h.uniq h2 hc (by simpa using h1)]; rfl
theorem own_cases {cs : List Cx} (t : Int) : (ownO cs t = none ∧ ∀ c ∈ cs, c.tok ≠ t) ∨ ∃ c ∈ cs, c.tok = t ∧ ownO cs t = some c.node := by
  unfold ownO
  cases hf : cs.find? (fun d => decide (d.tok = t)) with
  | none => exact .inl ⟨rfl, fun c hc e => List.find?_eq_none.1 hf c hc (by simpa using e)⟩
  | some d => exact .inr ⟨d, List.mem_of_find?_eq_some hf, by simpa using List.find?_some hf, rfl⟩
/-- whose it is, as a map tells -/
def ownZ (cs : List Cx) (t : Int) : Int := (ownO cs t).getD 0
theorem is_own {lim : Int} {cs : List Cx} (h : OkC lim cs) (s : Sx) (hs : 1 ≤ s.node) : isB cs s = decide (ownZ cs s.tok = s.node) := by
  rcases own_cases (cs := cs) s.tok with ⟨e, hn⟩ | ⟨c, hc, ht, e⟩
  · unfold ownZ; rw [e]
    have : isB cs s = false := List.any_eq_false.2 (fun c hc => by have := hn c hc; simp [this])
    rw [this]
    exact (decide_eq_false (by show ¬ (0 : Int) = s.node; omega)).symm
  · unfold ownZ; rw [e]
    by_cases g : c.node = s.node
    · have : isB cs s = true := List.any_eq_true.2 ⟨c, hc, by simp [g, ht]⟩
      rw [this]; exact (decide_eq_true g).symm
    · have : isB cs s = false := List.any_eq_false.2 (fun d hd => by
        simp only [Bool.and_eq_true, decide_eq_true_eq, not_and]
        intro g1 g2
        exact g ((h.uniq hc hd (ht.trans g2.symm)) ▸ g1))
      rw [this]; exact (decide_eq_false g).symm
theorem other_own {lim : Int} {cs : List Cx} (h : OkC lim cs) (s : Sx) : otherB cs s = (!decide (ownZ cs s.tok = 0) && !decide (ownZ cs s.tok = s.node)) := by
  rcases own_cases (cs := cs) s.tok with ⟨e, hn⟩ | ⟨c, hc, ht, e⟩
  · unfold ownZ; rw [e]
    have : otherB cs s = false := List.any_eq_false.2 (fun c hc => by have := hn c hc; simp [this])
    rw [this]; rfl
  · unfold ownZ; rw [e]
    have hp := h.node c hc
    have hz : decide ((some c.node).getD 0 = 0) = false := decide_eq_false (by show ¬ c.node = 0; omega)
    rw [hz]
    by_cases g : c.node = s.node
    · have : otherB cs s = false := List.any_eq_false.2 (fun d hd => by
        simp only [Bool.and_eq_true, Bool.not_eq_true', decide_eq_false_iff_not, decide_eq_true_eq, not_and]
        intro g1 g2
        exact g1 ((h.uniq hc hd (ht.trans g2.symm)) ▸ g))
      rw [this]
      have : decide ((some c.node).getD 0 = s.node) = true := decide_eq_true g
      rw [this]; rfl
    · have : otherB cs s = true := List.any_eq_true.2 ⟨c, hc, by simp [g, ht]⟩
      rw [this]
      have : decide ((some c.node).getD 0 = s.node) = false := decide_eq_false g
      rw [this]; rfl
/-- what comes next may be: so is what is behind it -/
theorem ok_step {lim : Int} {cs : List Cx} {s : Sx} (h : OkC lim cs) (hw : wrongE lim cs s = 0) : OkC lim (stepO cs s) := by
  unfold wrongE at hw
  unfold stepO
  by_cases hg : goodB lim s = false
  · rw [if_pos hg] at hw; cases hw
  rw [if_neg hg] at hw
  have hg' : goodB lim s = true := by simpa using hg
  by_cases h1 : s.kind = 1
  · rw [if_pos h1] at hw
    rw [if_pos h1]
    by_cases a1 : isB cs s = true
    · rw [if_pos a1] at hw; cases hw
    rw [if_neg a1] at hw
    by_cases a2 : otherB cs s = true
    · rw [if_pos a2] at hw; cases hw
    rw [if_neg a2] at hw
    by_cases a3 : 8 ≤ manyN cs s.node
    · rw [if_pos a3] at hw; cases hw
    have hno : ∀ c ∈ cs, c.tok ≠ s.tok := fun c hc e => by
      by_cases g : c.node = s.node
      · exact a1 (List.any_eq_true.2 ⟨c, hc, by simp [g, e]⟩)
      · exact a2 (List.any_eq_true.2 ⟨c, hc, by simp [g, e]⟩)
    unfold goodB at hg'
    simp only [h1, Bool.and_eq_true, Bool.or_eq_true, decide_eq_true_eq] at hg'
    refine ⟨?_, fun c hc => ?_, fun c hc => ?_, fun n => ?_⟩
    · rw [List.map_append]
      refine List.nodup_append.2 ⟨h.nd, by simp, fun x hx y hy => ?_⟩
      obtain ⟨c, hc, rfl⟩ := List.mem_map.1 hx
      simp only [List.map_cons, List.map_nil, List.mem_singleton] at hy
      rw [hy]; exact hno c hc
    · rcases List.mem_append.1 hc with hc | hc
      · exact h.node c hc
      · simp only [List.mem_singleton] at hc; subst hc; simp only; omega
    · rcases List.mem_append.1 hc with hc | hc
      · exact h.tok c hc
      · simp only [List.mem_singleton] at hc; subst hc; simp only; omega
    · unfold manyN
      rw [List.countP_append, List.countP_singleton]
      have := h.many n
      unfold manyN at this a3
      by_cases e : s.node = n
      · subst e; split <;> omega
      · rw [if_neg (by simpa using e)]; omega
  · rw [if_neg h1]
    exact h.filter _
/-! ### all at once -/
def Fine (lim : Int) (l : List Sx) (k : Nat) : Prop := ∀ (j : Nat) (s : Sx), j < k → l[j]? = some s → wrongE lim (openL (l.take j)) s = 0
theorem Fine.zero (lim : Int) (l : List Sx) : Fine lim l 0 := fun j s h => absurd h (Nat.not_lt_zero _)
theorem Fine.succ {lim : Int} {l : List Sx} {k : Nat} {s : Sx} (h : Fine lim l k) (hs : l[k]? = some s) (hw : wrongE lim (openL (l.take k)) s = 0) : Fine lim l (k + 1) := fun j x hj hx => by
  rcases Nat.lt_or_ge j k with g | g
  · exact h j x g hx
  · obtain rfl : j = k := by omega
    rw [hs] at hx; cases hx; exact hw
theorem open_succ {l : List Sx} {k : Nat} {s : Sx} (hs : l[k]? = some s) : openL (l.take (k + 1)) = stepO (openL (l.take k)) s := by
  have ht : l.take (k + 1) = l.take k ++ [s] := by rw [List.take_add_one, hs]; rfl
  rw [ht]; unfold openL; rw [List.foldl_append]; rfl
theorem fine_ok {lim : Int} {l : List Sx} : ∀ {k : Nat}, Fine lim l k → k ≤ l.length → OkC lim (openL (l.take k))
  | 0, _, _ => by simpa [openL] using OkC.nil lim
  | k + 1, h, hk => by
    have hs := rgetD (show k < l.length by omega)
    rw [open_succ hs]
    exact ok_step (fine_ok (fun j x hj hx => h j x (by omega) hx) (by omega)) (h k _ (by omega) hs)
/-- what Judge tells -/
def JudP (lim : Int) (l : List Sx) (i e : Int) : Prop := (i = -1 ∧ e = 0 ∧ Fine lim l l.length) ∨ ∃ (k : Nat) (s : Sx), l[k]? = some s ∧ Fine lim l k ∧ wrongE lim (openL (l.take k)) s = e ∧ e ≠ 0 ∧ i = k
theorem JudP.uniq {lim : Int} {l : List Sx} {i e i' e' : Int} (h : JudP lim l i e) (g : JudP lim l i' e') : i = i' ∧ e = e' := by
  rcases h with ⟨rfl, rfl, h⟩ | ⟨k, s, hs, h, hw, hn, rfl⟩
  · rcases g with ⟨rfl, rfl, -⟩ | ⟨k', s', hs', g, gw, gn, rfl⟩
    · exact ⟨rfl, rfl⟩
    · have := h k' s' (List.getElem?_eq_some_iff.1 hs').1 hs'
      rw [gw] at this; exact absurd this gn
  · rcases g with ⟨rfl, rfl, g⟩ | ⟨k', s', hs', g, gw, gn, rfl⟩
    · have := g k s (List.getElem?_eq_some_iff.1 hs).1 hs
      rw [hw] at this; exact absurd this hn
    · rcases Nat.lt_trichotomy k k' with q | q | q
      · have := g k s q hs; rw [hw] at this; exact absurd this hn
      · subst q
        rw [hs] at hs'; cases hs'
        exact ⟨rfl, hw.symm.trans gw⟩
      · have := h k' s' q hs'; rw [gw] at this; exact absurd this gn
end Jj
end Go.Proofs.Yteihopgnpiajoaa
