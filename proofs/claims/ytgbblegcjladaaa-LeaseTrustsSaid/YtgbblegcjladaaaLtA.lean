/- A holder's wallet, on lists: the tokens that are trusted, in increasing order; with one more, without one; what is ended and what stays. No condition. -/
import Derived.Test.YtgbblegcjladaaaLsA
namespace Go.Proofs.Ytgbblegcjladaaa
open Go.ChangeShapes Go.WideShapes Go.ChangeAt Go.RowKit Go.Deep
set_option linter.unusedVariables false
set_option maxRecDepth 100000
set_option linter.unusedSimpArgs false
namespace Lt
structure Tr where
  tok : Int
  ser : Int
  til : Int
deriving DecidableEq
def Tr.wf (x : Tr) : Prop := (Lit.int .i64 x.tok).wf = true ∧ (Lit.int .u64 x.ser).wf = true ∧ (Lit.int .i64 x.til).wf = true
abbrev trC (x : Tr) : List Value := [.int .i64 x.tok, .int .u64 x.ser, .int .i64 x.til]
abbrev trV (x : Tr) : Value := .agg #[.int .i64 x.tok, .int .u64 x.ser, .int .i64 x.til]
theorem trC_len (x : Tr) : (trC x).length = 3 := rfl
def Srt (L : List Tr) : Prop := L.Pairwise (fun a b => a.tok < b.tok)
def fnd (L : List Tr) (t : Int) : Option Tr := L.find? (fun x => x.tok == t)
def woV (t : Int) (L : List Tr) : List Tr := L.filter (fun x => x.tok != t)
def insT (x : Tr) : List Tr → List Tr
  | [] => [x]
  | y :: l => if x.tok < y.tok then x :: y :: l else y :: insT x l
def wiV (x : Tr) (L : List Tr) : List Tr := insT x (woV x.tok L)
def endV (now : Int) (L : List Tr) : List Tr := L.filter (fun x => decide (x.til ≤ now))
def stayV (now : Int) (L : List Tr) : List Tr := L.filter (fun x => !decide (x.til ≤ now))
variable {L : List Tr} {x y : Tr} {t : Int}
theorem Srt.nil : Srt [] := List.Pairwise.nil
theorem Srt.filter (h : Srt L) (p : Tr → Bool) : Srt (L.filter p) := List.Pairwise.filter p h
theorem Srt.wo (h : Srt L) (t : Int) : Srt (woV t L) := h.filter _
theorem Srt.stay (h : Srt L) (now : Int) : Srt (stayV now L) := h.filter _
theorem mem_ins {l : List Tr} : y ∈ insT x l ↔ y = x ∨ y ∈ l := by
  induction l with
  | nil => simp [insT]
  | cons z l ih =>
    unfold insT
    split
    · simp
    · rw [List.mem_cons, ih, List.mem_cons]
      constructor
      · rintro (h | h | h) <;> simp [h]
      · rintro (h | h | h) <;> simp [h]
theorem ins_srt {l : List Tr} (h : Srt l) (hn : ∀ y ∈ l, y.tok ≠ x.tok) : Srt (insT x l) := by
  induction l with
  | nil => exact List.pairwise_singleton _ _
  | cons z l ih =>
    have h1 := List.pairwise_cons.1 h
    unfold insT
    split
    · rename_i hlt
      refine List.pairwise_cons.2 ⟨fun y hy => ?_, h⟩
      rcases List.mem_cons.1 hy with rfl | hy
      · exact hlt
      · have := h1.1 y hy; omega
    · rename_i hlt
      have hz := hn z (List.mem_cons_self ..)
      refine List.pairwise_cons.2 ⟨fun y hy => ?_, ih h1.2 (fun y hy => hn y (List.mem_cons_of_mem _ hy))⟩
      rcases mem_ins.1 hy with rfl | hy
      · omega
      · exact h1.1 y hy
theorem wo_ne (hy : y ∈ woV t L) : y.tok ≠ t := by
  have := (List.mem_filter.1 hy).2
  simpa using this
theorem Srt.wi (h : Srt L) (x : Tr) : Srt (wiV x L) := ins_srt (h.wo _) (fun y hy => wo_ne hy)
theorem mem_wo : y ∈ woV t L ↔ y ∈ L ∧ y.tok ≠ t := by
  unfold woV
  rw [List.mem_filter]
  simp
theorem mem_wi : y ∈ wiV x L ↔ y = x ∨ (y ∈ L ∧ y.tok ≠ x.tok) := by
  unfold wiV
  rw [mem_ins, mem_wo]
theorem Srt.uniq (h : Srt L) (hx : x ∈ L) (hy : y ∈ L) (e : x.tok = y.tok) : x = y := by
  induction L with
  | nil => cases hx
  | cons z l ih =>
    have h1 := List.pairwise_cons.1 h
    rcases List.mem_cons.1 hx with ex | hx
    · rcases List.mem_cons.1 hy with ey | hy
      · rw [ex, ey]
      · have := h1.1 y hy; rw [← ex] at this; omega
    · rcases List.mem_cons.1 hy with ey | hy
      · have := h1.1 x hx; rw [← ey] at this; omega
      · exact ih h1.2 hx hy
theorem fnd_iff (h : Srt L) : fnd L t = some x ↔ x ∈ L ∧ x.tok = t := by
  unfold fnd
  constructor
  · intro e
    exact ⟨List.mem_of_find?_eq_some e, by simpa using List.find?_some e⟩
  · rintro ⟨hx, rfl⟩
    cases e : L.find? (fun y => y.tok == x.tok) with
    | none => exact absurd (List.find?_eq_none.1 e x hx) (by simp)
    | some z =>
      have h1 := List.mem_of_find?_eq_some e
      have h2 : z.tok = x.tok := by simpa using List.find?_some e
      rw [h.uniq h1 hx h2]
theorem fnd_none (h : fnd L t = none) (hx : x ∈ L) : x.tok ≠ t := by
  have := List.find?_eq_none.1 h x hx
  simpa using this
theorem fnd_wi (h : Srt L) (x : Tr) (t : Int) : fnd (wiV x L) t = if t = x.tok then some x else fnd L t := by
  refine Option.ext fun y => ?_
  rw [fnd_iff (h.wi x), mem_wi]
  split
  · rename_i e
    subst e
    constructor
    · rintro ⟨rfl | ⟨-, h2⟩, h3⟩
      · rfl
      · exact absurd h3 h2
    · intro e
      cases e
      exact ⟨.inl rfl, rfl⟩
  · rename_i hne
    rw [fnd_iff h]
    constructor
    · rintro ⟨rfl | ⟨h1, -⟩, h3⟩
      · exact absurd h3.symm hne
      · exact ⟨h1, h3⟩
    · rintro ⟨h1, rfl⟩
      exact ⟨.inr ⟨h1, hne⟩, rfl⟩
theorem fnd_wo (h : Srt L) (k t : Int) : fnd (woV k L) t = if t = k then none else fnd L t := by
  refine Option.ext fun y => ?_
  rw [fnd_iff (h.wo k), mem_wo]
  split
  · rename_i e
    subst e
    constructor
    · rintro ⟨⟨-, h2⟩, h3⟩
      exact absurd h3 h2
    · intro e
      cases e
  · rename_i hne
    rw [fnd_iff h]
    constructor
    · rintro ⟨⟨h1, -⟩, h3⟩
      exact ⟨h1, h3⟩
    · rintro ⟨h1, rfl⟩
      exact ⟨⟨h1, hne⟩, rfl⟩
theorem fnd_filter (h : Srt L) (p : Tr → Bool) (t : Int) : fnd (L.filter p) t = (fnd L t).filter p := by
  refine Option.ext fun y => ?_
  rw [fnd_iff (h.filter p), List.mem_filter, Option.filter_eq_some_iff, fnd_iff h]
  constructor
  · rintro ⟨⟨h1, h2⟩, h3⟩
    exact ⟨⟨h1, h3⟩, h2⟩
  · rintro ⟨⟨h1, h3⟩, h2⟩
    exact ⟨⟨h1, h2⟩, h3⟩
/-- without a token that is not there: the same -/
theorem wo_same (h : fnd L t = none) : woV t L = L := List.filter_eq_self.2 (fun x hx => by simpa using fnd_none h hx)
theorem wo_len (h : Srt L) (hx : fnd L t = some x) : (woV t L).length < L.length := by
  have h1 := (fnd_iff h).1 hx
  exact List.length_filter_lt_length_iff_exists.2 ⟨x, h1.1, by simp [h1.2]⟩
/-- the tokens, sorted, whatever the order in which a map gave them -/
theorem toks_sort (h : Srt L) {ss : List Int} (hp : ss.Perm (L.map Tr.tok)) : ss.mergeSort (fun a b => decide (a ≤ b)) = L.map Tr.tok := by
  refine List.Perm.eq_of_pairwise (le := fun a b : Int => a ≤ b) (fun a b _ _ h1 h2 => Int.le_antisymm h1 h2) ?_ ?_ ((List.mergeSort_perm ss _).trans hp)
  · have := List.pairwise_mergeSort (le := fun a b : Int => decide (a ≤ b)) (fun a b c h1 h2 => by simp only [decide_eq_true_eq] at *; omega) (fun a b => by simp only [Bool.or_eq_true, decide_eq_true_eq]; omega) ss
    exact this.imp (fun h => by simpa using h)
  · exact List.pairwise_map.2 (h.imp (fun h => by omega))
/-- to end what is to be ended, one by one: what stays -/
theorem stay_of (now : Int) (h : Srt L) (f : Int → Option Tr) (hf : ∀ t, f t = if (fnd (endV now L) t).isSome then none else fnd L t) (t : Int) : f t = fnd (stayV now L) t := by
  rw [hf t]
  refine Option.ext fun y => ?_
  rw [fnd_iff (h.stay now)]
  split
  · rename_i e
    obtain ⟨z, hz⟩ := Option.isSome_iff_exists.1 e
    have h1 := (fnd_iff (h.filter _)).1 hz
    have h2 := List.mem_filter.1 h1.1
    constructor
    · intro e
      cases e
    · rintro ⟨hy, e⟩
      have h3 := List.mem_filter.1 hy
      have := h.uniq h2.1 h3.1 (h1.2.trans e.symm)
      subst this
      simp at h2 h3
      omega
  · rename_i hne
    rw [fnd_iff h]
    constructor
    · rintro ⟨hy, e⟩
      refine ⟨List.mem_filter.2 ⟨hy, ?_⟩, e⟩
      cases hd : decide (y.til ≤ now)
      · rfl
      · exfalso
        apply hne
        have e2 : fnd (endV now L) t = some y := (fnd_iff (h.filter _)).2 ⟨List.mem_filter.2 ⟨hy, hd⟩, e⟩
        rw [e2]
        rfl
    · rintro ⟨hy, e⟩
      exact ⟨(List.mem_filter.1 hy).1, e⟩
end Lt
end Go.Proofs.Ytgbblegcjladaaa
