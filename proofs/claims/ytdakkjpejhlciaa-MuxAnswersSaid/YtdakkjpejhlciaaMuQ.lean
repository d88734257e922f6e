/- What a session of fit frames asks and tells: lists alone. No condition. -/
import Derived.Test.YtdakkjpejhlciaaMuP
namespace Go.Proofs.Ytdakkjpejhlciaa
open Go.ChangeShapes Go.WideShapes Go.ChangeAt Go.RowKit Go.Deep
set_option linter.unusedVariables false
set_option maxRecDepth 100000
set_option linter.unusedSimpArgs false
namespace Mu
open St
/-- the queries of frames, the results of replies, the query that stands -/
def qsF (l : List Frm) : List ByteArray := l.filterMap (fun f => if f.kind = 81 then some f.text else none)
def rsO (l : List Rep) : List ByteArray := l.filterMap (fun r => if r.kind = 2 then some r.text else none)
def pendT (s : Ses) : List ByteArray := if s.st = 4 ∨ (s.st = 2 ∧ s.wi = false) then [s.tx] else []
structure Ans (Q : List ByteArray) (s : Ses) (a b : List ByteArray) : Prop where
  q : a ++ pendT s ++ qsF s.q = Q
  r : rsO s.out = b
  e : ∀ r ∈ s.out, r.kind ≠ 2 → r.text = emp
  k : ∀ f ∈ s.q, kind3 f
def headA (s : Ses) : Prop := s.st = 1 ∨ s.st = 3 ∨ s.st = 4 ∨ s.st = 6
variable {Q a a' b : List ByteArray} {s s' : Ses} {f : Frm} {q : List Frm}
theorem qs_cons (f : Frm) (q : List Frm) : qsF (f :: q) = (if f.kind = 81 then [f.text] else []) ++ qsF q := by
  unfold qsF
  by_cases h : f.kind = 81 <;> simp [List.filterMap_cons, h]
theorem rs_snoc (o : List Rep) (r : Rep) : rsO (o ++ [r]) = rsO o ++ (if r.kind = 2 then [r.text] else []) := by
  unfold rsO
  rw [List.filterMap_append]
  by_cases h : r.kind = 2 <;> simp [List.filterMap_cons, h]
theorem pend_none (h : ¬ (s.st = 4 ∨ (s.st = 2 ∧ s.wi = false))) : pendT s = [] := if_neg h
/-- a frame taken from the queue -/
theorem Ans.take (h : Ans Q s a b) (hs : s.st = 1 ∨ s.st = 3) (hq : s.q = f :: q) (hq' : s'.q = q) (ho : s'.out = s.out ∨ ∃ k : Int, k ≠ 2 ∧ s'.out = s.out ++ [rep k]) (hp : a' ++ pendT s' = a ++ (if f.kind = 81 then [f.text] else [])) : Ans Q s' a' b := by
  have hn : pendT s = [] := pend_none (by omega)
  have h1 := h.q
  rw [hn, hq, qs_cons, List.append_nil] at h1
  refine ⟨by rw [hp, hq', List.append_assoc]; exact h1, ?_, ?_, fun g hg => h.k g (by rw [hq]; rw [hq'] at hg; exact List.mem_cons_of_mem _ hg)⟩
  · rcases ho with e | ⟨k, hk, e⟩
    · rw [e]; exact h.r
    · rw [e, rs_snoc, if_neg (show ¬ (rep k).kind = 2 from hk), List.append_nil]; exact h.r
  · rcases ho with e | ⟨k, hk, e⟩
    · rw [e]; exact h.e
    · rw [e]
      intro r hr hk2
      rcases List.mem_append.1 hr with g | g
      · exact h.e r g hk2
      · simp only [List.mem_singleton] at g
        subst g
        rfl
/-- what one frame leads to, the rest being q -/
def AnsP (Q : List ByteArray) (a b : List ByteArray) (n : Nat) (r : (Int × ByteArray) × Ses) : Prop := (r.1.1 = 0 ∧ r.2.q = [] ∧ (r.2.st = 1 ∨ r.2.st = 3) ∧ Ans Q r.2 a b) ∨ (r.1.1 = 1 ∧ r.2.st = 2 ∧ Ans Q r.2 a b ∧ r.2.q.length + 1 ≤ n) ∨ (r.1.1 = 2 ∧ r.2.st = 5 ∧ Ans Q r.2 (a ++ [r.1.2]) b ∧ r.2.q.length + 1 ≤ n) ∨ (r.1.1 = 3 ∧ r.2.st = 1 ∧ Ans Q r.2 a b ∧ r.2.q.length + 1 ≤ n)
theorem ans_proc (h : Ans Q s a b) (hs : s.st = 1 ∨ s.st = 3) (hq : s.q = f :: q) : (procV { s with q := q } f).2.q = q ∧ (((procV { s with q := q } f).1.1 = 0 ∧ ((procV { s with q := q } f).2.st = 1 ∨ (procV { s with q := q } f).2.st = 3) ∧ Ans Q (procV { s with q := q } f).2 a b) ∨ ((procV { s with q := q } f).1.1 = 1 ∧ (procV { s with q := q } f).2.st = 2 ∧ Ans Q (procV { s with q := q } f).2 a b) ∨ ((procV { s with q := q } f).1.1 = 2 ∧ (procV { s with q := q } f).2.st = 5 ∧ Ans Q (procV { s with q := q } f).2 (a ++ [(procV { s with q := q } f).1.2]) b) ∨ ((procV { s with q := q } f).1.1 = 3 ∧ (procV { s with q := q } f).2.st = 1 ∧ Ans Q (procV { s with q := q } f).2 a b)) := by
  have hk : kind3 f := h.k f (by rw [hq]; exact List.mem_cons_self ..)
  unfold kind3 at hk
  unfold procV
  rcases hs with hs | hs
  · rw [if_pos (show ({ s with q := q } : Ses).st = 1 from hs)]
    rcases hk with c | c | c
    · rw [if_pos c]
      exact ⟨rfl, .inr (.inl ⟨rfl, rfl, h.take (.inl hs) hq rfl (.inl rfl) (by rw [if_neg (by omega)]; rfl)⟩)⟩
    · rw [if_neg (by omega), if_neg (by omega), if_pos c]
      exact ⟨rfl, .inl ⟨rfl, .inl hs, h.take (.inl hs) hq rfl (.inr ⟨7, by decide, rfl⟩) (by rw [if_neg (by omega), pend_none (by show ¬ (s.st = 4 ∨ (s.st = 2 ∧ _)); omega)])⟩⟩
    · rw [if_neg (by omega), if_pos c]
      exact ⟨rfl, .inr (.inl ⟨rfl, rfl, h.take (.inl hs) hq rfl (.inl rfl) (by rw [if_pos c]; rfl)⟩)⟩
  · rw [if_neg (show ¬ ({ s with q := q } : Ses).st = 1 by show ¬ s.st = 1; omega), if_pos (show ({ s with q := q } : Ses).st = 3 from hs)]
    rcases hk with c | c | c
    · rw [if_pos c]
      exact ⟨rfl, .inl ⟨rfl, .inr hs, h.take (.inr hs) hq rfl (.inr ⟨7, by decide, rfl⟩) (by rw [if_neg (by omega), pend_none (by show ¬ (s.st = 4 ∨ (s.st = 2 ∧ _)); omega)])⟩⟩
    · rw [if_neg (by omega), if_neg (by omega), if_pos c]
      exact ⟨rfl, .inr (.inr (.inr ⟨rfl, rfl, h.take (.inr hs) hq rfl (.inr ⟨3, by decide, rfl⟩) (by rw [if_neg (by omega)]; rfl)⟩))⟩
    · rw [if_neg (by omega), if_pos c]
      exact ⟨rfl, .inr (.inr (.inl ⟨rfl, rfl, h.take (.inr hs) hq rfl (.inl rfl) (by rw [if_pos c]; show a ++ [f.text] ++ [] = _; rw [List.append_nil])⟩))⟩
theorem ans_loop : ∀ (k : Nat) {s : Ses}, s.q.length = k → Ans Q s a b → (s.st = 1 ∨ s.st = 3) → AnsP Q a b k (loopV s.q.length s) := by
  intro k
  induction k with
  | zero =>
    intro s hk h hs
    have hq := List.eq_nil_of_length_eq_zero hk
    rw [loop_end (.inl hq)]
    exact .inl ⟨rfl, hq, hs, h⟩
  | succ k ih =>
    intro s hk h hs
    cases hq : s.q with
    | nil => rw [hq] at hk; cases hk
    | cons f q =>
      have hkq : q.length = k := by rw [hq] at hk; exact Nat.succ.inj hk
      have ht : takesS s := by unfold takesS; omega
      obtain ⟨e, hp⟩ := ans_proc h hs hq
      by_cases h0 : (procV { s with q := q } f).1.1 = 0
      · rw [← hq, loop_cons hq ht h0]
        have hl : (procV { s with q := q } f).2.q.length = k := by rw [e]; exact hkq
        have hi : ((procV { s with q := q } f).2.st = 1 ∨ (procV { s with q := q } f).2.st = 3) ∧ Ans Q (procV { s with q := q } f).2 a b := by
          rcases hp with ⟨-, g⟩ | ⟨g, -⟩ | ⟨g, -⟩ | ⟨g, -⟩
          · exact g
          all_goals omega
        have := ih hl hi.2 hi.1
        rw [show (procV { s with q := q } f).2.q.length = q.length from by rw [e]] at this
        try rw [show (procV { s with q := q } f).2.q.length = q.length from by rw [e]]
        rcases this with g | ⟨g1, g2, g3, g4⟩ | ⟨g1, g2, g3, g4⟩ | ⟨g1, g2, g3, g4⟩
        · exact .inl g
        · exact .inr (.inl ⟨g1, g2, g3, Nat.le_succ_of_le g4⟩)
        · exact .inr (.inr (.inl ⟨g1, g2, g3, Nat.le_succ_of_le g4⟩))
        · exact .inr (.inr (.inr ⟨g1, g2, g3, Nat.le_succ_of_le g4⟩))
      · rw [← hq, loop_stop hq ht h0]
        have hl : (procV { s with q := q } f).2.q.length + 1 ≤ k + 1 := by rw [e, hkq]; exact Nat.le_refl _
        rcases hp with ⟨g, -⟩ | ⟨g1, g2, g3⟩ | ⟨g1, g2, g3⟩ | ⟨g1, g2, g3⟩
        · exact absurd g h0
        · exact .inr (.inl ⟨g1, g2, g3, hl⟩)
        · exact .inr (.inr (.inl ⟨g1, g2, g3, hl⟩))
        · exact .inr (.inr (.inr ⟨g1, g2, g3, hl⟩))
/-- what Next leads to at a round's head -/
def AnsQ (Q : List ByteArray) (a b : List ByteArray) (d : Nat) (r : (Int × ByteArray) × Ses) : Prop := (r.1.1 = 0 ∧ r.2.q = [] ∧ (r.2.st = 1 ∨ r.2.st = 3) ∧ Ans Q r.2 a b) ∨ (r.1.1 = 1 ∧ r.2.st = 2 ∧ Ans Q r.2 a b ∧ 3 * r.2.q.length + 3 ≤ d) ∨ (r.1.1 = 2 ∧ r.2.st = 5 ∧ Ans Q r.2 (a ++ [r.1.2]) b ∧ 3 * r.2.q.length + 2 ≤ d) ∨ (r.1.1 = 3 ∧ r.2.st = 1 ∧ Ans Q r.2 a b ∧ 3 * r.2.q.length + 1 ≤ d)
theorem ans_next (h : Ans Q s a b) (hs : headA s) : AnsQ Q a b (todo s) (nextV s) := by
  unfold nextV
  by_cases h4 : s.st = 4
  · rw [if_pos h4]
    refine .inr (.inr (.inl ⟨rfl, rfl, ⟨?_, h.r, h.e, h.k⟩, ?_⟩))
    · have := h.q
      rw [show pendT s = [s.tx] from if_pos (.inl h4)] at this
      show (a ++ [s.tx]) ++ [] ++ qsF s.q = Q
      rw [List.append_nil]
      exact this
    · unfold todo; rw [if_pos h4]; exact Nat.le_refl _
  · rw [if_neg h4]
    by_cases h6 : s.st = 6
    · rw [if_pos h6]
      refine .inr (.inr (.inr ⟨rfl, rfl, ⟨?_, h.r, h.e, h.k⟩, ?_⟩))
      · have := h.q
        rw [pend_none (by omega)] at this
        exact this
      · unfold todo; rw [if_neg h4, if_pos h6]; exact Nat.le_refl _
    · rw [if_neg h6]
      have hs' : s.st = 1 ∨ s.st = 3 := by unfold headA at hs; omega
      have hd : 3 * s.q.length ≤ todo s := Nat.le_add_right _ _
      rcases ans_loop _ rfl h hs' with g | ⟨g1, g2, g3, g4⟩ | ⟨g1, g2, g3, g4⟩ | ⟨g1, g2, g3, g4⟩
      · exact .inl g
      · exact .inr (.inl ⟨g1, g2, g3, by omega⟩)
      · exact .inr (.inr (.inl ⟨g1, g2, g3, by omega⟩))
      · exact .inr (.inr (.inr ⟨g1, g2, g3, by omega⟩))
theorem ans_got (h : Ans Q s a b) (h2 : s.st = 2) : Ans Q (gotS s) a b ∧ headA (gotS s) ∧ todo (gotS s) ≤ 3 * s.q.length + 2 := by
  unfold gotS
  rw [if_pos h2]
  by_cases hw : s.wi = true
  · rw [if_pos hw]
    have h1 := h.q
    rw [pend_none (by rw [hw]; simp; omega)] at h1
    refine ⟨⟨h1, ?_, ?_, h.k⟩, .inr (.inl rfl), Nat.le_add_right _ _⟩
    · show rsO (s.out ++ [rep 1]) = b
      rw [rs_snoc, if_neg (by decide), List.append_nil]; exact h.r
    · intro r hr hk
      rcases List.mem_append.1 (show r ∈ s.out ++ [rep 1] from hr) with g | g
      · exact h.e r g hk
      · simp only [List.mem_singleton] at g; subst g; rfl
  · rw [if_neg hw]
    have h1 := h.q
    rw [show pendT s = [s.tx] from if_pos (.inr ⟨h2, by simpa using hw⟩)] at h1
    exact ⟨⟨h1, h.r, h.e, h.k⟩, .inr (.inr (.inl rfl)), Nat.le_refl _⟩
theorem ans_ans (h : Ans Q s a b) (h5 : s.st = 5) (t : ByteArray) : Ans Q (ansS s t) a (b ++ [t]) ∧ headA (ansS s t) ∧ todo (ansS s t) ≤ 3 * s.q.length + 1 := by
  have h1 := h.q
  rw [pend_none (by omega)] at h1
  have h2 : rsO (s.out ++ [⟨2, 0, t⟩]) = b ++ [t] := by rw [rs_snoc, if_pos rfl, h.r]
  have h3 : ∀ r ∈ s.out ++ [(⟨2, 0, t⟩ : Rep)], r.kind ≠ 2 → r.text = emp := by
    intro r hr hk
    rcases List.mem_append.1 hr with g | g
    · exact h.e r g hk
    · simp only [List.mem_singleton] at g; subst g; exact absurd rfl hk
  unfold ansS
  rw [if_pos h5]
  by_cases hw : s.wi = true
  · rw [if_pos hw]
    exact ⟨⟨h1, h2, h3, h.k⟩, .inr (.inl rfl), Nat.le_add_right _ _⟩
  · rw [if_neg hw]
    exact ⟨⟨h1, h2, h3, h.k⟩, .inr (.inr (.inr rfl)), Nat.le_refl _⟩
/-- at the end nothing stands -/
theorem ans_end (h : Ans Q s a b) (hq : s.q = []) (hs : s.st = 1 ∨ s.st = 3) : a = Q := by
  have h1 := h.q
  rw [pend_none (by omega), hq] at h1
  simpa [qsF] using h1
end Mu
end Go.Proofs.Ytdakkjpejhlciaa
