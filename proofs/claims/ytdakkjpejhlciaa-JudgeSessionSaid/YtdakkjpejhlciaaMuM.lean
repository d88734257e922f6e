/- One reply a frame, in order, of a kind that fits it: lists alone. No condition. -/
import Derived.Test.YtdakkjpejhlciaaMuA
namespace Go.Proofs.Ytdakkjpejhlciaa
open Go.ChangeShapes Go.WideShapes Go.ChangeAt Go.RowKit Go.Deep
set_option linter.unusedVariables false
set_option maxRecDepth 100000
set_option linter.unusedSimpArgs false
namespace Mu
open St
def pendN (s : Ses) : Nat := if s.st = 2 ∨ s.st = 4 ∨ s.st = 5 then 1 else 0
def fitX (f : Frm) (r : Rep) : Prop := (f.kind = 66 → r.kind = 1 ∨ r.kind = 4 ∨ r.kind = 6 ∨ r.kind = 7) ∧ (f.kind = 81 → r.kind = 2 ∨ r.kind = 4 ∨ r.kind = 6) ∧ (f.kind = 69 → r.kind = 3 ∨ r.kind = 6 ∨ r.kind = 7) ∧ (f.kind = 0 → r.kind = 8)
/-- frames of which only the last may be the bad end -/
def okF (F : List Frm) : Prop := ∀ (j : Nat) f, F[j]? = some f → (f.kind = 66 ∨ f.kind = 69 ∨ f.kind = 81 ∨ f.kind = 0) ∧ (f.kind = 0 → j + 1 = F.length)
structure Inv (F : List Frm) (s : Ses) : Prop where
  q : s.q = F.drop (s.out.length + pendN s)
  fit : ∀ (i : Nat) f r, F[i]? = some f → s.out[i]? = some r → fitX f r
  len : s.out.length + pendN s ≤ F.length
  last : pendN s = 1 → ∃ f, F[s.out.length]? = some f ∧ (f.kind = 66 ∨ f.kind = 81) ∧ (s.st = 2 → s.wi = true → f.kind = 66) ∧ ((s.st = 2 ∧ s.wi = false) ∨ s.st = 4 ∨ s.st = 5 → f.kind = 81)
  shut : s.st = 0 → s.out.length = F.length ∧ ∃ (j : Nat) (f : Frm), F[j]? = some f ∧ f.kind = 0 ∧ j + 1 = F.length
  clean : s.st ≠ 0 → ∀ (i : Nat) f, i < s.out.length + pendN s → F[i]? = some f → f.kind ≠ 0
variable {F : List Frm} {s : Ses} {f : Frm} {q : List Frm}
theorem pend_takes (h : takesS s) : pendN s = 0 := by unfold pendN; unfold takesS at h; rw [if_neg (by omega)]
theorem inv_head (h : Inv F s) (ht : takesS s) (hq : s.q = f :: q) : F[s.out.length]? = some f ∧ q = F.drop (s.out.length + 1) ∧ s.out.length + 1 ≤ F.length := by
  have e := h.q
  rw [pend_takes ht, Nat.add_zero, hq] at e
  have hl : s.out.length < F.length := by
    rcases Nat.lt_or_ge s.out.length F.length with g | g
    · exact g
    · rw [List.drop_of_length_le g] at e; cases e
  rw [List.drop_eq_getElem_cons hl] at e
  simp only [List.cons.injEq] at e
  exact ⟨by rw [List.getElem?_eq_getElem hl, e.1], e.2, hl⟩
theorem out_snoc {out : List Rep} {r r' : Rep} {i : Nat} (h : (out ++ [r])[i]? = some r') : out[i]? = some r' ∨ (i = out.length ∧ r' = r) := by
  rcases Nat.lt_or_ge i out.length with g | g
  · rw [List.getElem?_append_left g] at h; exact .inl h
  · rw [List.getElem?_append_right g] at h
    have : i - out.length < 1 := (List.getElem?_eq_some_iff.1 h).1
    have e : i = out.length := by omega
    subst e
    simp at h
    exact .inr ⟨rfl, h.symm⟩
/-- a frame begun -/
theorem inv_pend (h : Inv F s) (ht : takesS s) (hq : s.q = f :: q) (s' : Ses) (hq' : s'.q = q) (ho : s'.out = s.out) (hp : pendN s' = 1) (h0 : s'.st ≠ 0) (hk : f.kind = 66 ∨ f.kind = 81) (h2 : s'.st = 2 → s'.wi = true → f.kind = 66) (h3 : (s'.st = 2 ∧ s'.wi = false) ∨ s'.st = 4 ∨ s'.st = 5 → f.kind = 81) : Inv F s' := by
  obtain ⟨e1, e2, e3⟩ := inv_head h ht hq
  have hs0 : s.st ≠ 0 := by unfold takesS at ht; omega
  refine ⟨by rw [hq', ho, hp]; exact e2, fun i g r hg hr => h.fit i g r hg (by rw [← ho]; exact hr), by rw [ho, hp]; exact e3, fun _ => ⟨f, by rw [ho]; exact e1, hk, h2, h3⟩, fun q => absurd q h0, fun _ i g hi hg => ?_⟩
  rw [ho, hp] at hi
  rcases Nat.lt_or_ge i s.out.length with g1 | g1
  · exact h.clean hs0 i g (by rw [pend_takes ht]; omega) hg
  · have : i = s.out.length := by omega
    subst this
    rw [e1] at hg
    cases hg
    omega
/-- a frame answered at once -/
theorem inv_told (h : Inv F s) (ht : takesS s) (hq : s.q = f :: q) (s' : Ses) (r : Rep) (hq' : s'.q = q) (ho : s'.out = s.out ++ [r]) (hp : pendN s' = 0) (h0 : s'.st ≠ 0) (hf : fitX f r) (hk : f.kind ≠ 0) : Inv F s' := by
  obtain ⟨e1, e2, e3⟩ := inv_head h ht hq
  have hs0 : s.st ≠ 0 := by unfold takesS at ht; omega
  have hl : s'.out.length = s.out.length + 1 := by rw [ho, List.length_append]; rfl
  refine ⟨by rw [hq', hl, hp]; exact e2, fun i g r' hg hr => ?_, by rw [hl, hp]; exact e3, fun e => (by omega), fun q => absurd q h0, fun _ i g hi hg => ?_⟩
  · rw [ho] at hr
    rcases out_snoc hr with hr | ⟨rfl, rfl⟩
    · exact h.fit i g r' hg hr
    · rw [e1] at hg; cases hg; exact hf
  · rw [hl, hp] at hi
    rcases Nat.lt_or_ge i s.out.length with g1 | g1
    · exact h.clean hs0 i g (by rw [pend_takes ht]; omega) hg
    · have : i = s.out.length := by omega
      subst this
      rw [e1] at hg
      cases hg
      exact hk
/-- the bad end -/
theorem inv_hang (hF : okF F) (h : Inv F s) (ht : takesS s) (hq : s.q = f :: q) (hk : f.kind = 0) : Inv F (hangS ({ s with q := q }.tell (rep 8))) := by
  obtain ⟨e1, e2, e3⟩ := inv_head h ht hq
  have he := (hF _ f e1).2 hk
  have hl : (hangS ({ s with q := q }.tell (rep 8))).out.length = s.out.length + 1 := by show (s.out ++ [rep 8]).length = _; rw [List.length_append]; rfl
  refine ⟨?_, fun i g r' hg hr => ?_, by rw [hl]; exact e3, fun e => (by cases e), fun _ => ⟨by rw [hl]; exact he, _, f, e1, hk, he⟩, fun e => absurd rfl e⟩
  · rw [hl, List.drop_of_length_le (by show F.length ≤ s.out.length + 1 + 0; omega)]; rfl
  · rcases out_snoc (show (s.out ++ [rep 8])[i]? = some r' from hr) with hr | ⟨rfl, rfl⟩
    · exact h.fit i g r' hg hr
    · rw [e1] at hg; cases hg; exact ⟨fun q => (by omega), fun q => (by omega), fun q => (by omega), fun _ => rfl⟩
theorem inv_proc (hF : okF F) (h : Inv F s) (ht : takesS s) (hq : s.q = f :: q) : Inv F (procV { s with q := q } f).2 := by
  have hk := (hF _ f (inv_head h ht hq).1).1
  have hb := fun e => inv_hang hF h ht hq e
  unfold procV
  split
  · split
    · rename_i c
      exact inv_pend h ht hq _ rfl rfl rfl (by show (2 : Int) ≠ 0; decide) (.inl c) (fun _ _ => c) (by rintro (⟨-, e⟩ | e | e) <;> cases e)
    · split
      · rename_i c
        exact inv_pend h ht hq _ rfl rfl rfl (by show (2 : Int) ≠ 0; decide) (.inr c) (fun _ e => by cases e) (fun _ => c)
      · split
        · rename_i c0 _ _ c
          have c0 : s.st = 1 := c0
          exact inv_told h ht hq _ (rep 7) rfl rfl (by unfold pendN; rw [if_neg]; show ¬ (s.st = 2 ∨ s.st = 4 ∨ s.st = 5); omega) (by show s.st ≠ 0; omega) ⟨fun e => (by omega), fun e => (by omega), fun _ => .inr (.inr rfl), fun e => (by omega)⟩ (by omega)
        · exact hb (by omega)
  · split
    · rename_i c0
      have c0 : s.st = 3 := c0
      split
      · rename_i c
        exact inv_told h ht hq _ (rep 7) rfl rfl (by unfold pendN; rw [if_neg]; show ¬ (s.st = 2 ∨ s.st = 4 ∨ s.st = 5); omega) (by show s.st ≠ 0; omega) ⟨fun _ => .inr (.inr (.inr rfl)), fun e => (by omega), fun e => (by omega), fun e => (by omega)⟩ (by omega)
      · split
        · rename_i c
          exact inv_pend h ht hq _ rfl rfl rfl (by show (5 : Int) ≠ 0; decide) (.inr c) (fun e => by cases e) (fun _ => c)
        · split
          · rename_i c
            exact inv_told h ht hq _ (rep 3) rfl rfl rfl (by show (1 : Int) ≠ 0; decide) ⟨fun e => (by omega), fun e => (by omega), fun _ => .inl rfl, fun e => (by omega)⟩ (by omega)
          · exact hb (by omega)
    · split
      · rename_i c
        exact inv_told h ht hq _ (rep 6) rfl rfl rfl (by show (1 : Int) ≠ 0; decide) ⟨fun _ => .inr (.inr (.inl rfl)), fun _ => .inr (.inr rfl), fun _ => .inr (.inl rfl), fun e => (by omega)⟩ (by omega)
      · exact hb (by omega)
/-- what Next leaves -/
def NxtP (F : List Frm) (n : Nat) (r : (Int × ByteArray) × Ses) : Prop := Inv F r.2 ∧ ((r.1.1 = 0 ∧ r.2.q = [] ∧ (r.2.st = 0 ∨ takesS r.2)) ∨ (r.1.1 = 1 ∧ r.2.st = 2 ∧ r.2.q.length + 1 ≤ n) ∨ (r.1.1 = 2 ∧ r.2.st = 5 ∧ r.2.q.length + 1 ≤ n) ∨ (r.1.1 = 3 ∧ (r.2.st = 1 ∨ r.2.st = 0) ∧ r.2.q.length + 1 ≤ n))
theorem proc_next (s : Ses) (f : Frm) (ht : takesS s) : ((procV s f).1.1 = 0 ∧ ((procV s f).2.st = 0 ∨ takesS (procV s f).2)) ∨ ((procV s f).1.1 = 1 ∧ (procV s f).2.st = 2) ∨ ((procV s f).1.1 = 2 ∧ (procV s f).2.st = 5) ∨ ((procV s f).1.1 = 3 ∧ ((procV s f).2.st = 1 ∨ (procV s f).2.st = 0)) := by
  unfold procV
  split
  · split
    · exact .inr (.inl ⟨rfl, rfl⟩)
    · split
      · exact .inr (.inl ⟨rfl, rfl⟩)
      · split
        · exact .inl ⟨rfl, .inr ht⟩
        · exact .inl ⟨rfl, .inl rfl⟩
  · split
    · split
      · exact .inl ⟨rfl, .inr ht⟩
      · split
        · exact .inr (.inr (.inl ⟨rfl, rfl⟩))
        · split
          · exact .inr (.inr (.inr ⟨rfl, .inl rfl⟩))
          · exact .inr (.inr (.inr ⟨rfl, .inr rfl⟩))
    · split
      · exact .inl ⟨rfl, .inr (.inl rfl)⟩
      · exact .inl ⟨rfl, .inl rfl⟩
theorem inv_loop (hF : okF F) : ∀ (k : Nat) {s : Ses}, s.q.length = k → Inv F s → (s.st = 0 ∨ takesS s) → NxtP F k (loopV s.q.length s) := by
  intro k
  induction k using Nat.strongRecOn with
  | ind k ih =>
    intro s hk h hs
    cases hq : s.q with
    | nil =>
      rw [← hq, loop_end (.inl hq)]
      exact ⟨h, .inl ⟨rfl, hq, hs⟩⟩
    | cons f q =>
      rcases hs with h0 | ht
      · have := h.q
        rw [(h.shut h0).1, List.drop_of_length_le (Nat.le_add_right _ _), hq] at this
        cases this
      · have hi := inv_proc hF h ht hq
        have hl := proc_len { s with q := q } f
        have hkq : k = q.length + 1 := by rw [← hk, hq]; rfl
        have hl2 : (procV { s with q := q } f).2.q.length ≤ q.length := hl
        by_cases h0 : (procV { s with q := q } f).1.1 = 0
        · rw [← hq, loop_cons hq ht h0]
          have hst : (procV { s with q := q } f).2.st = 0 ∨ takesS (procV { s with q := q } f).2 := by
            rcases proc_next { s with q := q } f ht with ⟨-, g⟩ | ⟨g, -⟩ | ⟨g, -⟩ | ⟨g, -⟩
            · exact g
            all_goals omega
          obtain ⟨g1, g2⟩ := ih _ (by omega) rfl hi hst
          refine ⟨g1, ?_⟩
          rcases g2 with g | ⟨a, b, c⟩ | ⟨a, b, c⟩ | ⟨a, b, c⟩
          · exact .inl g
          · exact .inr (.inl ⟨a, b, by omega⟩)
          · exact .inr (.inr (.inl ⟨a, b, by omega⟩))
          · exact .inr (.inr (.inr ⟨a, b, by omega⟩))
        · rw [← hq, loop_stop hq ht h0]
          refine ⟨hi, ?_⟩
          rcases proc_next { s with q := q } f ht with ⟨a, -⟩ | ⟨a, b⟩ | ⟨a, b⟩ | ⟨a, b⟩
          · exact absurd a h0
          · exact .inr (.inl ⟨a, b, by omega⟩)
          · exact .inr (.inr (.inl ⟨a, b, by omega⟩))
          · exact .inr (.inr (.inr ⟨a, b, by omega⟩))
/-- how much there is to do -/
def todo (s : Ses) : Nat := 3 * s.q.length + (if s.st = 4 then 2 else if s.st = 6 then 1 else 0)
/-- the states between two rounds -/
def headS (s : Ses) : Prop := s.st = 0 ∨ takesS s ∨ s.st = 4 ∨ s.st = 6
/-- what Next leaves at a round's head -/
def NxtQ (F : List Frm) (d : Nat) (r : (Int × ByteArray) × Ses) : Prop := Inv F r.2 ∧ ((r.1.1 = 0 ∧ r.2.q = [] ∧ (r.2.st = 0 ∨ takesS r.2)) ∨ (r.1.1 = 1 ∧ r.2.st = 2 ∧ 3 * r.2.q.length + 3 ≤ d) ∨ (r.1.1 = 2 ∧ r.2.st = 5 ∧ 3 * r.2.q.length + 2 ≤ d) ∨ (r.1.1 = 3 ∧ (r.2.st = 1 ∨ r.2.st = 0) ∧ 3 * r.2.q.length + 1 ≤ d))
theorem inv_next (hF : okF F) (h : Inv F s) (hs : headS s) : NxtQ F (todo s) (nextV s) := by
  unfold nextV
  by_cases h4 : s.st = 4
  · rw [if_pos h4]
    have hp : pendN s = 1 := by unfold pendN; rw [if_pos (.inr (.inl h4))]
    have hp' : pendN { s with st := 5, tx := emp } = 1 := rfl
    obtain ⟨f, g1, g2, g3, g4⟩ := h.last hp
    refine ⟨⟨by rw [hp']; have := h.q; rw [hp] at this; exact this, h.fit, by rw [hp']; have := h.len; rw [hp] at this; exact this, fun _ => ⟨f, g1, g2, (fun e => by cases e), fun _ => g4 (.inr (.inl h4))⟩, (fun e => by cases e), fun _ i g hi hg => h.clean (by omega) i g (by rw [hp]; rw [hp'] at hi; exact hi) hg⟩, .inr (.inr (.inl ⟨rfl, rfl, ?_⟩))⟩
    unfold todo
    rw [if_pos h4]
    exact Nat.le_refl _
  · rw [if_neg h4]
    by_cases h6 : s.st = 6
    · rw [if_pos h6]
      have hp : pendN s = 0 := by unfold pendN; rw [if_neg (by omega)]
      have hp' : pendN { s with st := 1 } = 0 := rfl
      refine ⟨⟨by rw [hp']; have := h.q; rw [hp] at this; exact this, h.fit, by rw [hp']; have := h.len; rw [hp] at this; exact this, (fun e => by rw [hp'] at e; cases e), (fun e => by cases e), fun _ i g hi hg => h.clean (by omega) i g (by rw [hp]; rw [hp'] at hi; exact hi) hg⟩, .inr (.inr (.inr ⟨rfl, .inl rfl, ?_⟩))⟩
      unfold todo
      rw [if_neg h4, if_pos h6]
      exact Nat.le_refl _
    · rw [if_neg h6]
      have hs' : s.st = 0 ∨ takesS s := by
        rcases hs with a | a | a | a
        · exact .inl a
        · exact .inr a
        · exact absurd a h4
        · exact absurd a h6
      obtain ⟨g1, g2⟩ := inv_loop hF _ rfl h hs'
      have hd : 3 * s.q.length ≤ todo s := Nat.le_add_right _ _
      refine ⟨g1, ?_⟩
      rcases g2 with g | ⟨a, b, c⟩ | ⟨a, b, c⟩ | ⟨a, b, c⟩
      · exact .inl g
      · exact .inr (.inl ⟨a, b, by omega⟩)
      · exact .inr (.inr (.inl ⟨a, b, by omega⟩))
      · exact .inr (.inr (.inr ⟨a, b, by omega⟩))
/-- the frame that waits is answered -/
theorem inv_done (h : Inv F s) (hp : pendN s = 1) (h0 : s.st ≠ 0) (s' : Ses) (r : Rep) (hq' : s'.q = s.q) (ho : s'.out = s.out ++ [r]) (hp' : pendN s' = 0) (h0' : s'.st ≠ 0) (hf : ∀ f, F[s.out.length]? = some f → fitX f r) : Inv F s' := by
  have hl : s'.out.length = s.out.length + 1 := by rw [ho, List.length_append]; rfl
  refine ⟨by rw [hq', hl, hp', h.q, hp], fun i g r' hg hr => ?_, by rw [hl, hp']; have := h.len; rw [hp] at this; exact this, fun e => (by omega), fun q => absurd q h0', fun _ i g hi hg => h.clean h0 i g (by rw [hp]; omega) hg⟩
  rw [ho] at hr
  rcases out_snoc hr with hr | ⟨rfl, rfl⟩
  · exact h.fit i g r' hg hr
  · exact hf g hg
theorem inv_turn (h : Inv F s) (h2 : s.st = 2) : Inv F ({ s with st := 1, tx := emp }.tell (rep 4)) := by
  have hp : pendN s = 1 := by unfold pendN; rw [if_pos (.inl h2)]
  obtain ⟨f, g1, g2, -⟩ := h.last hp
  refine inv_done h hp (by omega) _ (rep 4) rfl rfl rfl (by show (1 : Int) ≠ 0; decide) (fun g hg => ?_)
  rw [g1] at hg; cases hg
  exact ⟨fun _ => .inr (.inl rfl), fun _ => .inr (.inl rfl), fun e => (by omega), fun e => (by omega)⟩
theorem inv_got (h : Inv F s) (h2 : s.st = 2) : Inv F (gotS s) ∧ headS (gotS s) ∧ todo (gotS s) ≤ 3 * s.q.length + 2 := by
  have hp : pendN s = 1 := by unfold pendN; rw [if_pos (.inl h2)]
  obtain ⟨f, g1, g2, g3, g4⟩ := h.last hp
  unfold gotS
  rw [if_pos h2]
  by_cases hw : s.wi = true
  · rw [if_pos hw]
    refine ⟨inv_done h hp (by omega) _ (rep 1) rfl rfl rfl (by show (3 : Int) ≠ 0; decide) (fun g hg => ?_), .inr (.inl (.inr (.inl rfl))), Nat.le_add_right _ _⟩
    rw [g1] at hg; cases hg
    have := g3 h2 hw
    exact ⟨fun _ => .inl rfl, fun e => (by omega), fun e => (by omega), fun e => (by omega)⟩
  · rw [if_neg hw]
    have hp' : pendN { s with st := 4 } = 1 := rfl
    refine ⟨⟨by rw [hp']; have := h.q; rw [hp] at this; exact this, h.fit, by rw [hp']; have := h.len; rw [hp] at this; exact this, fun _ => ⟨f, g1, g2, (fun e => by cases e), fun _ => g4 (.inl ⟨h2, by simpa using hw⟩)⟩, (fun e => by cases e), fun _ i g hi hg => h.clean (by omega) i g (by rw [hp]; rw [hp'] at hi; exact hi) hg⟩, .inr (.inr (.inl rfl)), Nat.le_refl _⟩
theorem inv_lost (h : Inv F s) (h5 : s.st = 5) : Inv F (lostS s) ∧ headS (lostS s) ∧ todo (lostS s) ≤ 3 * s.q.length + 1 := by
  have hp : pendN s = 1 := by unfold pendN; rw [if_pos (.inr (.inr h5))]
  obtain ⟨f, g1, g2, g3, g4⟩ := h.last hp
  have hk := g4 (.inr (.inr h5))
  unfold lostS
  rw [if_neg (by omega), if_pos (.inr h5)]
  refine ⟨inv_done h hp (by omega) _ (rep 6) rfl rfl rfl (by show (1 : Int) ≠ 0; decide) (fun g hg => ?_), .inr (.inl (.inl rfl)), Nat.le_succ_of_le (Nat.le_refl _)⟩
  rw [g1] at hg; cases hg
  exact ⟨fun e => (by omega), fun _ => .inr (.inr rfl), fun e => (by omega), fun e => (by omega)⟩
theorem inv_ans (h : Inv F s) (h5 : s.st = 5) (t : ByteArray) : Inv F (ansS s t) ∧ headS (ansS s t) ∧ todo (ansS s t) ≤ 3 * s.q.length + 1 := by
  have hp : pendN s = 1 := by unfold pendN; rw [if_pos (.inr (.inr h5))]
  obtain ⟨f, g1, g2, g3, g4⟩ := h.last hp
  have hk := g4 (.inr (.inr h5))
  unfold ansS
  rw [if_pos h5]
  have hf : ∀ g, F[s.out.length]? = some g → fitX g ⟨2, 0, t⟩ := fun g hg => by
    rw [g1] at hg; cases hg
    exact ⟨fun e => (by omega), fun _ => .inl rfl, fun e => (by omega), fun e => (by omega)⟩
  by_cases hw : s.wi = true
  · rw [if_pos hw]
    exact ⟨inv_done h hp (by omega) _ ⟨2, 0, t⟩ rfl rfl rfl (by show (3 : Int) ≠ 0; decide) hf, .inr (.inl (.inr (.inl rfl))), Nat.le_succ_of_le (Nat.le_refl _)⟩
  · rw [if_neg hw]
    exact ⟨inv_done h hp (by omega) _ ⟨2, 0, t⟩ rfl rfl rfl (by show (6 : Int) ≠ 0; decide) hf, .inr (.inr (.inr rfl)), Nat.le_refl _⟩
end Mu
end Go.Proofs.Ytdakkjpejhlciaa
