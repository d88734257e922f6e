/- What a session of fit frames asks and tells: lists alone. No condition. A session, and two lists of texts that are the law's own, all apart. No condition. -/
import Derived.Test.YtdakkjpejhlciaaMuP
namespace Go.Proofs.Ytdakkjpejhlciaa
open Go.ChangeShapes Go.WideShapes Go.ChangeAt Go.RowKit Go.Deep
set_option linter.unusedVariables false
set_option maxRecDepth 100000
set_option linter.unusedSimpArgs false
namespace Mu
open St
/-- the queries of frames, the results of replies, the query that stands -/
def qsF (l : List Frm) : List ByteArray := l.filterMap (fun f => if f.kind = 81 then some f.text else none)
def rsO (l : List Rep) : List ByteArray := l.filterMap (fun r => if r.kind = 2 then some r.text else none)
def pendT (s : Ses) : List ByteArray := if s.st = 4 ∨ (s.st = 2 ∧ s.wi = false) then [s.tx] else []
structure Ans (Q : List ByteArray) (s : Ses) (a b : List ByteArray) : Prop where
  q : a ++ pendT s ++ qsF s.q = Q
  r : rsO s.out = b
  e : ∀ r ∈ s.out, r.kind ≠ 2 → r.text = emp
  k : ∀ f ∈ s.q, kind3 f
def headA (s : Ses) : Prop := s.st = 1 ∨ s.st = 3 ∨ s.st = 4 ∨ s.st = 6
variable {Q a a' b : List ByteArray} {s s' : Ses} {f : Frm} {q : List Frm}
theorem qs_cons (f : Frm) (q : List Frm) : qsF (f :: q) = (if f.kind = 81 then [f.text] else []) ++ qsF q := by
  unfold qsF
  by_cases h : f.kind = 81 <;> simp [List.filterMap_cons, h]
theorem rs_snoc (o : List Rep) (r : Rep) : rsO (o ++ [r]) = rsO o ++ (if r.kind = 2 then [r.text] else []) := by
  unfold rsO
  rw [List.filterMap_append]
  by_cases h : r.kind = 2 <;> simp [List.filterMap_cons, h]
theorem pend_none (h : ¬ (s.st = 4 ∨ (s.st = 2 ∧ s.wi = false))) : pendT s = [] := if_neg h
/-- a frame taken from the queue -/
theorem Ans.take (h : Ans Q s a b) (hs : s.st = 1 ∨ s.st = 3) (hq : s.q = f :: q) (hq' : s'.q = q) (ho : s'.out = s.out ∨ ∃ k : Int, k ≠ 2 ∧ s'.out = s.out ++ [rep k]) (hp : a' ++ pendT s' = a ++ (if f.kind = 81 then [f.text] else [])) : Ans Q s' a' b := by
  have hn : pendT s = [] := pend_none (by omega)
  have h1 := h.q
  rw [hn, hq, qs_cons, List.append_nil] at h1
  refine ⟨by rw [hp, hq', List.append_assoc]; exact h1, ?_, ?_, fun g hg => h.k g (by rw [hq]; rw [hq'] at hg; exact List.mem_cons_of_mem _ hg)⟩
  · rcases ho with e | ⟨k, hk, e⟩
    · rw [e]; exact h.r
    · rw [e, rs_snoc, if_neg (show ¬ (rep k).kind = 2 from hk), List.append_nil]; exact h.r
  · rcases ho with e | ⟨k, hk, e⟩
    · rw [e]; exact h.e
    · rw [e]
      intro r hr hk2
      rcases List.mem_append.1 hr with g | g
      · exact h.e r g hk2
      · simp only [List.mem_singleton] at g
        subst g
        rfl
/-- what one frame leads to, the rest being q -/
def AnsP (Q : List ByteArray) (a b : List ByteArray) (n : Nat) (r : (Int × ByteArray) × Ses) : Prop := (r.1.1 = 0 ∧ r.2.q = [] ∧ (r.2.st = 1 ∨ r.2.st = 3) ∧ Ans Q r.2 a b) ∨ (r.1.1 = 1 ∧ r.2.st = 2 ∧ Ans Q r.2 a b ∧ r.2.q.length + 1 ≤ n) ∨ (r.1.1 = 2 ∧ r.2.st = 5 ∧ Ans Q r.2 (a ++ [r.1.2]) b ∧ r.2.q.length + 1 ≤ n) ∨ (r.1.1 = 3 ∧ r.2.st = 1 ∧ Ans Q r.2 a b ∧ r.2.q.length + 1 ≤ n)
theorem ans_proc (h : Ans Q s a b) (hs : s.st = 1 ∨ s.st = 3) (hq : s.q = f :: q) : (procV { s with q := q } f).2.q = q ∧ (((procV { s with q := q } f).1.1 = 0 ∧ ((procV { s with q := q } f).2.st = 1 ∨ (procV { s with q := q } f).2.st = 3) ∧ Ans Q (procV { s with q := q } f).2 a b) ∨ ((procV { s with q := q } f).1.1 = 1 ∧ (procV { s with q := q } f).2.st = 2 ∧ Ans Q (procV { s with q := q } f).2 a b) ∨ ((procV { s with q := q } f).1.1 = 2 ∧ (procV { s with q := q } f).2.st = 5 ∧ Ans Q (procV { s with q := q } f).2 (a ++ [(procV { s with q := q } f).1.2]) b) ∨ ((procV { s with q := q } f).1.1 = 3 ∧ (procV { s with q := q } f).2.st = 1 ∧ Ans Q (procV { s with q := q } f).2 a b)) := by
  have hk : kind3 f := h.k f (by rw [hq]; exact List.mem_cons_self ..)
  unfold kind3 at hk
  unfold procV
  rcases hs with hs | hs
  · rw [if_pos (show ({ s with q := q } : Ses).st = 1 from hs)]
    rcases hk with c | c | c
    · rw [if_pos c]
      exact ⟨rfl, .inr (.inl ⟨rfl, rfl, h.take (.inl hs) hq rfl (.inl rfl) (by rw [if_neg (by omega)]; rfl)⟩)⟩
    · rw [if_neg (by omega), if_neg (by omega), if_pos c]
      exact ⟨rfl, .inl ⟨rfl, .inl hs, h.take (.inl hs) hq rfl (.inr ⟨7, by decide, rfl⟩) (by rw [if_neg (by omega), pend_none (by show ¬ (s.st = 4 ∨ (s.st = 2 ∧ _)); omega)])⟩⟩
    · rw [if_neg (by omega), if_pos c]
      exact ⟨rfl, .inr (.inl ⟨rfl, rfl, h.take (.inl hs) hq rfl (.inl rfl) (by rw [if_pos c]; rfl)⟩)⟩
  · rw [if_neg (show ¬ ({ s with q := q } : Ses).st = 1 by show ¬ s.st = 1; omega), if_pos (show ({ s with q := q } : Ses).st = 3 from hs)]
    rcases hk with c | c | c
    · rw [if_pos c]
      exact ⟨rfl, .inl ⟨rfl, .inr hs, h.take (.inr hs) hq rfl (.inr ⟨7, by decide, rfl⟩) (by rw [if_neg (by omega), pend_none (by show ¬ (s.st = 4 ∨ (s.st = 2 ∧ _)); omega)])⟩⟩
    · rw [if_neg (by omega), if_neg (by omega), if_pos c]
      exact ⟨rfl, .inr (.inr (.inr ⟨rfl, rfl, h.take (.inr hs) hq rfl (.inr ⟨3, by decide, rfl⟩) (by rw [if_neg (by omega)]; rfl)⟩))⟩
    · rw [if_neg (by omega), if_pos c]
      exact ⟨rfl, .inr (.inr (.inl ⟨rfl, rfl, h.take (.inr hs) hq rfl (.inl rfl) (by rw [if_pos c]; show a ++ [f.text] ++ [] = _; rw [List.append_nil])⟩))⟩
theorem ans_loop : ∀ (k : Nat) {s : Ses}, s.q.length = k → Ans Q s a b → (s.st = 1 ∨ s.st = 3) → AnsP Q a b k (loopV s.q.length s) := by
  intro k
  induction k with
  | zero =>
    intro s hk h hs
    have hq := List.eq_nil_of_length_eq_zero hk
    rw [loop_end (.inl hq)]
    exact .inl ⟨rfl, hq, hs, h⟩
  | succ k ih =>
    intro s hk h hs
    cases hq : s.q with
    | nil => rw [hq] at hk; cases hk
    | cons f q =>
      have hkq : q.length = k := by rw [hq] at hk; exact Nat.succ.inj hk
      have ht : takesS s := by unfold takesS; omega
      obtain ⟨e, hp⟩ := ans_proc h hs hq
      by_cases h0 : (procV { s with q := q } f).1.1 = 0
      · rw [← hq, loop_cons hq ht h0]
        have hl : (procV { s with q := q } f).2.q.length = k := by rw [e]; exact hkq
        have hi : ((procV { s with q := q } f).2.st = 1 ∨ (procV { s with q := q } f).2.st = 3) ∧ Ans Q (procV { s with q := q } f).2 a b := by
          rcases hp with ⟨-, g⟩ | ⟨g, -⟩ | ⟨g, -⟩ | ⟨g, -⟩
          · exact g
          all_goals omega
        have := ih hl hi.2 hi.1
        rw [show (procV { s with q := q } f).2.q.length = q.length from by rw [e]] at this
        try rw [show (procV { s with q := q } f).2.q.length = q.length from by rw [e]]
        rcases this with g | ⟨g1, g2, g3, g4⟩ | ⟨g1, g2, g3, g4⟩ | ⟨g1, g2, g3, g4⟩
        · exact .inl g
        · exact .inr (.inl ⟨g1, g2, g3, Nat.le_succ_of_le g4⟩)
        · exact .inr (.inr (.inl ⟨g1, g2, g3, Nat.le_succ_of_le g4⟩))
        · exact .inr (.inr (.inr ⟨g1, g2, g3, Nat.le_succ_of_le g4⟩))
      · rw [← hq, loop_stop hq ht h0]
        have hl : (procV { s with q := q } f).2.q.length + 1 ≤ k + 1 := by rw [e, hkq]; exact Nat.le_refl _
        rcases hp with ⟨g, -⟩ | ⟨g1, g2, g3⟩ | ⟨g1, g2, g3⟩ | ⟨g1, g2, g3⟩
        · exact absurd g h0
        · exact .inr (.inl ⟨g1, g2, g3, hl⟩)
        · exact .inr (.inr (.inl ⟨g1, g2, g3, hl⟩))
        · exact .inr (.inr (.inr ⟨g1, g2, g3, hl⟩))
/-- what Next leads to at a round's head -/
def AnsQ (Q : List ByteArray) (a b : List ByteArray) (d : Nat) (r : (Int × ByteArray) × Ses) : Prop := (r.1.1 = 0 ∧ r.2.q = [] ∧ (r.2.st = 1 ∨ r.2.st = 3) ∧ Ans Q r.2 a b) ∨ (r.1.1 = 1 ∧ r.2.st = 2 ∧ Ans Q r.2 a b ∧ 3 * r.2.q.length + 3 ≤ d) ∨ (r.1.1 = 2 ∧ r.2.st = 5 ∧ Ans Q r.2 (a ++ [r.1.2]) b ∧ 3 * r.2.q.length + 2 ≤ d) ∨ (r.1.1 = 3 ∧ r.2.st = 1 ∧ Ans Q r.2 a b ∧ 3 * r.2.q.length + 1 ≤ d)
theorem ans_next (h : Ans Q s a b) (hs : headA s) : AnsQ Q a b (todo s) (nextV s) := by
  unfold nextV
  by_cases h4 : s.st = 4
  · rw [if_pos h4]
    refine .inr (.inr (.inl ⟨rfl, rfl, ⟨?_, h.r, h.e, h.k⟩, ?_⟩))
    · have := h.q
      rw [show pendT s = [s.tx] from if_pos (.inl h4)] at this
      show (a ++ [s.tx]) ++ [] ++ qsF s.q = Q
      rw [List.append_nil]
      exact this
    · unfold todo; rw [if_pos h4]; exact Nat.le_refl _
  · rw [if_neg h4]
    by_cases h6 : s.st = 6
    · rw [if_pos h6]
      refine .inr (.inr (.inr ⟨rfl, rfl, ⟨?_, h.r, h.e, h.k⟩, ?_⟩))
      · have := h.q
        rw [pend_none (by omega)] at this
        exact this
      · unfold todo; rw [if_neg h4, if_pos h6]; exact Nat.le_refl _
    · rw [if_neg h6]
      have hs' : s.st = 1 ∨ s.st = 3 := by unfold headA at hs; omega
      have hd : 3 * s.q.length ≤ todo s := Nat.le_add_right _ _
      rcases ans_loop _ rfl h hs' with g | ⟨g1, g2, g3, g4⟩ | ⟨g1, g2, g3, g4⟩ | ⟨g1, g2, g3, g4⟩
      · exact .inl g
      · exact .inr (.inl ⟨g1, g2, g3, by omega⟩)
      · exact .inr (.inr (.inl ⟨g1, g2, g3, by omega⟩))
      · exact .inr (.inr (.inr ⟨g1, g2, g3, by omega⟩))
theorem ans_got (h : Ans Q s a b) (h2 : s.st = 2) : Ans Q (gotS s) a b ∧ headA (gotS s) ∧ todo (gotS s) ≤ 3 * s.q.length + 2 := by
  unfold gotS
  rw [if_pos h2]
  by_cases hw : s.wi = true
  · rw [if_pos hw]
    have h1 := h.q
    rw [pend_none (by rw [hw]; simp; omega)] at h1
    refine ⟨⟨h1, ?_, ?_, h.k⟩, .inr (.inl rfl), Nat.le_add_right _ _⟩
    · show rsO (s.out ++ [rep 1]) = b
      rw [rs_snoc, if_neg (by decide), List.append_nil]; exact h.r
    · intro r hr hk
      rcases List.mem_append.1 (show r ∈ s.out ++ [rep 1] from hr) with g | g
      · exact h.e r g hk
      · simp only [List.mem_singleton] at g; subst g; rfl
  · rw [if_neg hw]
    have h1 := h.q
    rw [show pendT s = [s.tx] from if_pos (.inr ⟨h2, by simpa using hw⟩)] at h1
    exact ⟨⟨h1, h.r, h.e, h.k⟩, .inr (.inr (.inl rfl)), Nat.le_refl _⟩
theorem ans_ans (h : Ans Q s a b) (h5 : s.st = 5) (t : ByteArray) : Ans Q (ansS s t) a (b ++ [t]) ∧ headA (ansS s t) ∧ todo (ansS s t) ≤ 3 * s.q.length + 1 := by
  have h1 := h.q
  rw [pend_none (by omega)] at h1
  have h2 : rsO (s.out ++ [⟨2, 0, t⟩]) = b ++ [t] := by rw [rs_snoc, if_pos rfl, h.r]
  have h3 : ∀ r ∈ s.out ++ [(⟨2, 0, t⟩ : Rep)], r.kind ≠ 2 → r.text = emp := by
    intro r hr hk
    rcases List.mem_append.1 hr with g | g
    · exact h.e r g hk
    · simp only [List.mem_singleton] at g; subst g; exact absurd rfl hk
  unfold ansS
  rw [if_pos h5]
  by_cases hw : s.wi = true
  · rw [if_pos hw]
    exact ⟨⟨h1, h2, h3, h.k⟩, .inr (.inl rfl), Nat.le_add_right _ _⟩
  · rw [if_neg hw]
    exact ⟨⟨h1, h2, h3, h.k⟩, .inr (.inr (.inr rfl)), Nat.le_refl _⟩
/-- at the end nothing stands -/
theorem ans_end (h : Ans Q s a b) (hq : s.q = []) (hs : s.st = 1 ∨ s.st = 3) : a = Q := by
  have h1 := h.q
  rw [pend_none (by omega), hq] at h1
  simpa [qsF] using h1
end Mu
end Go.Proofs.Ytdakkjpejhlciaa
namespace Go.Proofs.Ytdakkjpejhlciaa
open Go.ChangeShapes Go.WideShapes Go.ChangeAt Go.RowKit Go.Deep
set_option linter.unusedVariables false
set_option maxRecDepth 100000
set_option linter.unusedSimpArgs false
namespace Mu
open St
abbrev TN : TypeId := 9
abbrev txC (x : ByteArray) : List Value := [.string x]
theorem txC_len (x : ByteArray) : (txC x).length = 1 := rfl
theorem txC_one (x : ByteArray) : ∀ u ∈ txC x, u.oneCell' = true := by intro u hu; simp at hu; subst hu; rfl
theorem info_tx : (Try.prog.info? TN).map (fun i => (i.zero, i.size, i.bytes)) = some (some (.string ⟨#[]⟩), 1, 16) := by kernel_rfl
abbrev OwnT (w : World) (B : Nat) (v : Value) (xs : List ByteArray) : Prop := OwnQ 1 txC TN w B v xs
/-- the session and the two lists -/
structure AskW (p : Nat) (s : Ses) (xs ys : List ByteArray) (vA vB : Value) (S : Nat → Prop) (B : Nat) (w0 w : World) : Prop where
  m : SesX p s w S
  lo : ∀ k, S k → B ≤ k
  x : OwnT w B vA xs
  y : OwnT w B vB ys
  xs : ∀ q, vA.ownBlock = some q → ¬ S q
  ys : ∀ q, vB.ownBlock = some q → ¬ S q
  xy : ∀ q, vA.ownBlock = some q → vB.ownBlock ≠ some q
  bel : Below B w0 w
  sz : B ≤ w.heap.size
variable {p B : Nat} {s s' : Ses} {xs ys zs : List ByteArray} {vA vB vC : Value} {S : Nat → Prop} {w0 w w1 w' : World}
theorem AskW.swap (h : AskW p s xs ys vA vB S B w0 w) : AskW p s ys xs vB vA S B w0 w := ⟨h.m, h.lo, h.y, h.x, h.ys, h.xs, fun q h1 h2 => h.xy q h2 h1, h.bel, h.sz⟩
theorem AskW.start (h : SesX p s w S) (hS : ∀ k, S k → B ≤ k) (hb : Below B w0 w) (hz : B ≤ w.heap.size) : AskW p s [] [] (.slice none 0 0) (.slice none 0 0) S B w0 w :=
  ⟨h, hS, OwnQ.nil _ _ _, OwnQ.nil _ _ _, (fun q e => by cases e), (fun q e => by cases e), (fun q e => by cases e), hb, hz⟩
/-- nothing but what is new -/
theorem AskW.below (h : AskW p s xs ys vA vB S B w0 w) (hb : Below w.heap.size w w') : AskW p s xs ys vA vB S B w0 w' :=
  ⟨(goodS p s).below h.m hb, h.lo, h.x.keep (fun q hq => hb.block q (h.x.lt q hq).2), h.y.keep (fun q hq => hb.block q (h.y.lt q hq).2), h.xs, h.ys, h.xy, h.bel.trans (hb.mono h.sz), Nat.le_trans h.sz hb.size⟩
/-- a text put at the end of the first list -/
theorem AskW.grow (h : AskW p s xs ys vA vB S B w0 w) (hx : OwnT w' B vC zs) (hg : w.grownBy w' vA.ownBlock) (hv : vC.ownBlock = vA.ownBlock ∨ ∀ q, vC.ownBlock = some q → w.heap.size ≤ q) : AskW p s zs ys vC vB S B w0 w' := by
  have ho : Only (fun k => vA.ownBlock = some k) w w' := Only.grown hg (fun q e => e)
  refine ⟨(goodS p s).only h.m ho (fun k hk e => h.xs k e hk), h.lo, hx, h.y.keep (fun q hq => hg.block q (h.y.lt q hq).2 (fun e => h.xy q e.symm hq)), fun q hq hs => ?_, h.ys, fun q hq hq2 => ?_, ho.below h.bel h.sz (fun k e => (h.x.lt k e).1), Nat.le_trans h.sz hg.size⟩
  · rcases hv with e | e
    · exact h.xs q (e ▸ hq) hs
    · have := e q hq
      have := (goodS p s).low h.m q hs
      omega
  · rcases hv with e | e
    · exact h.xy q (e ▸ hq) hq2
    · have := e q hq
      have := (h.y.lt q hq2).2
      omega
/-- a call on the session -/
theorem AskW.left (h : AskW p s xs ys vA vB S B w0 w) (hl : Mc.Left (SesX p s') S w w') : ∃ S', AskW p s' xs ys vA vB S' B w0 w' := by
  obtain ⟨⟨S', h1, h2⟩, ho⟩ := hl
  have hz := ho.2.2.2.1
  refine ⟨S', h1, fun k hk => ?_, h.x.keep (fun q hq => ho.2.2.2.2 q (h.x.lt q hq).2 (h.xs q hq)), h.y.keep (fun q hq => ho.2.2.2.2 q (h.y.lt q hq).2 (h.ys q hq)), fun q hq hs => ?_, fun q hq hs => ?_, h.xy, ho.below h.bel h.sz h.lo, Nat.le_trans h.sz hz⟩
  · rcases h2 k hk with c | c
    · exact h.lo k c
    · have := h.sz; omega
  · rcases h2 q hs with c | c
    · exact h.xs q hq c
    · have := (h.x.lt q hq).2; omega
  · rcases h2 q hs with c | c
    · exact h.ys q hq c
    · have := (h.y.lt q hq).2; omega
/-- the same, whatever the session's own blocks are -/
def AskX (p : Nat) (s : Ses) (xs ys : List ByteArray) (vA vB : Value) (B : Nat) (w0 w : World) : Prop := ∃ S, AskW p s xs ys vA vB S B w0 w
theorem AskX.swap (h : AskX p s xs ys vA vB B w0 w) : AskX p s ys xs vB vA B w0 w := by obtain ⟨S, h⟩ := h; exact ⟨S, h.swap⟩
theorem AskX.below (h : AskX p s xs ys vA vB B w0 w) (hb : Below w.heap.size w w') : AskX p s xs ys vA vB B w0 w' := by obtain ⟨S, h⟩ := h; exact ⟨S, h.below hb⟩
theorem AskX.bel (h : AskX p s xs ys vA vB B w0 w) : Below B w0 w ∧ B ≤ w.heap.size := by obtain ⟨S, h⟩ := h; exact ⟨h.bel, h.sz⟩
theorem AskX.own (h : AskX p s xs ys vA vB B w0 w) : OwnT w B vA xs ∧ OwnT w B vB ys := by obtain ⟨S, h⟩ := h; exact ⟨h.x, h.y⟩
theorem AskX.grow (h : AskX p s xs ys vA vB B w0 w) (hx : OwnT w' B vC zs) (hg : w.grownBy w' vA.ownBlock) (hv : vC.ownBlock = vA.ownBlock ∨ ∀ q, vC.ownBlock = some q → w.heap.size ≤ q) : AskX p s zs ys vC vB B w0 w' := by obtain ⟨S, h⟩ := h; exact ⟨S, h.grow hx hg hv⟩
theorem AskX.prog {f : Nat} {args : Array Value} {r : Value} (h : AskX p s xs ys vA vB B w0 w) (hc : ∀ S vr vq vo, SesV w S p vr vq vo s → Calls Try.prog f args w (MuR r p s' S w)) : Calls Try.prog f args w (fun e w' => e = .returned r ∧ AskX p s' xs ys vA vB B w0 w') := by
  obtain ⟨S, h⟩ := h
  obtain ⟨vr, vq, vo, hm⟩ := id h.m
  refine (hc S vr vq vo hm).mono ?_
  rintro e w' ⟨rfl, hl⟩
  exact ⟨rfl, h.left hl⟩
/-- what was told is handed over -/
theorem AskX.replies (h : AskX p s xs ys vA vB B w0 w) : Calls Try.prog 23 #[.pointer (some ⟨p, 0, none⟩)] w (fun e w' => ∃ v, e = .returned v ∧ SlR 3 repC w' v s.out ∧ OwnT w' B vA xs ∧ OwnT w' B vB ys ∧ Below B w0 w' ∧ B ≤ w'.heap.size) := by
  obtain ⟨S, h⟩ := h
  obtain ⟨vr, vq, vo, h1⟩ := id h.m
  refine (replies_any w h1).mono ?_
  rintro e w' ⟨rfl, rfl⟩
  obtain ⟨g1, g2⟩ := h1.given
  have ho := only_cell (w := w) h1.sp 5 (.slice none 0 0)
  exact ⟨vo, rfl, g2.sl repC_len, h.x.keep (fun q hq => ho.2.2.2.2 q (h.x.lt q hq).2 (h.xs q hq)), h.y.keep (fun q hq => ho.2.2.2.2 q (h.y.lt q hq).2 (h.ys q hq)), ho.below h.bel h.sz h.lo, by simpa using h.sz⟩
end Mu
end Go.Proofs.Ytdakkjpejhlciaa
