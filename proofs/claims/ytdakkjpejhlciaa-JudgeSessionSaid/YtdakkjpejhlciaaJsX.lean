/- What a session of fit frames is told fits what it was sent, whatever befalls it: lists alone. No condition. The document's session, what it told already and what was served, all apart in memory. No condition. -/
import Derived.Test.YtdakkjpejhlciaaMuM
import Derived.Test.YtdakkjpejhlciaaMuP
import Derived.Test.YtdakkjpejhlciaaJfX
import Derived.Test.YtdakkjpejhlciaaMuQR
import Derived.Test.YtdakkjpejhlciaaMuL
import Derived.Test.YtdakkjpejhlciaaMvE
namespace Go.Proofs.Ytdakkjpejhlciaa
open Go.ChangeShapes Go.WideShapes Go.ChangeAt Go.RowKit Go.Deep
set_option linter.unusedVariables false
set_option maxRecDepth 100000
set_option linter.unusedSimpArgs false
namespace Js
open St Mu
/-- replies D to the frames L fit, with what was served; R are the frames left -/
inductive Jud (L : List Frm) : List Rep → List ByteArray → Bool → List Frm → Prop
  | start : Jud L [] [] false L
  | tell {D : List Rep} {sv : List ByteArray} {wi : Bool} {f : Frm} {R : List Frm} (r : Rep) : Jud L D sv wi (f :: R) → Jf.frmOk f → Jf.okW wi f.kind r.kind → Jf.repFits r → Jud L (D ++ [r]) (sv ++ if r.kind = 2 then [r.text] else []) (Jf.nxW wi r.kind) R
theorem jud_fit {L : List Frm} {D : List Rep} {sv : List ByteArray} {wi : Bool} {R : List Frm} (h : Jud L D sv wi R) : ∀ (E : List Rep) (i : Int) (rest : List ByteArray), Jf.fitV L (D ++ E) i false (sv ++ rest) = Jf.fitV R E (i + D.length) wi rest := by
  induction h with
  | start => intro E i rest; simp
  | tell r h hf hk hr ih =>
    intro E i rest
    rename_i D sv wi f R
    rw [List.append_assoc, List.append_assoc, ih, List.singleton_append]
    by_cases h2 : r.kind = 2
    · rw [if_pos h2, List.singleton_append]
      have h0 : Jf.stepE wi f r (r.text :: rest) = 0 := Jf.stepE_ok hf ⟨hk, hr⟩ (by rintro ⟨-, q⟩; exact q rfl)
      rw [Jf.fit_go h0]
      have hs : Jf.stepR r (r.text :: rest) = rest := by unfold Jf.stepR; rw [if_pos h2]; rfl
      rw [hs]
      congr 1
      simp only [List.length_append, List.length_singleton]
      omega
    · rw [if_neg h2, List.nil_append]
      have h0 : Jf.stepE wi f r rest = 0 := Jf.stepE_ok hf ⟨hk, hr⟩ (by rintro ⟨q, -⟩; exact h2 q)
      rw [Jf.fit_go h0]
      have hs : Jf.stepR r rest = rest := by unfold Jf.stepR; rw [if_neg h2]
      rw [hs]
      congr 1
      simp only [List.length_append, List.length_singleton]
      omega
theorem jud_ok {L : List Frm} {D : List Rep} {sv : List ByteArray} {wi : Bool} {R : List Frm} (h : Jud L D sv wi R) : Jf.fitK L D 0 false sv = (-1, 0) := by
  have := jud_fit h [] 0 []
  rw [List.append_nil, List.append_nil] at this
  unfold Jf.fitK
  rw [List.drop_zero, List.drop_zero]
  rw [Jf.fit_end] at this
  exact this
theorem jud_len {L : List Frm} {D : List Rep} {sv : List ByteArray} {wi : Bool} {R : List Frm} (h : Jud L D sv wi R) : D.length + R.length = L.length ∧ sv.length ≤ D.length := by
  induction h with
  | start => exact ⟨by simp, Nat.le_refl _⟩
  | tell r h hf hk hr ih =>
    simp only [List.length_cons] at ih
    refine ⟨by simp only [List.length_append, List.length_singleton]; omega, ?_⟩
    rw [List.length_append, List.length_append]
    split <;> simp <;> omega
/-- which frames are left, and within what, in each state -/
def Sits (s : Ses) (wi : Bool) (R : List Frm) : Prop :=
  (s.st = 1 ∧ wi = false ∧ R = s.q) ∨
  (s.st = 2 ∧ wi = false ∧ ∃ f, R = f :: s.q ∧ ((s.wi = true ∧ f.kind = 66) ∨ (s.wi = false ∧ f.kind = 81))) ∨
  (s.st = 3 ∧ wi = true ∧ s.wi = true ∧ R = s.q) ∨
  (s.st = 4 ∧ wi = false ∧ s.wi = false ∧ ∃ f, R = f :: s.q ∧ f.kind = 81) ∨
  (s.st = 5 ∧ wi = s.wi ∧ ∃ f, R = f :: s.q ∧ f.kind = 81) ∨
  (s.st = 6 ∧ wi = false ∧ s.wi = false ∧ R = s.q) ∨
  (s.st = 7 ∧ wi = true ∧ R = s.q)
/-- T was told already, s.out is still to be -/
structure JI (L : List Frm) (T : List Rep) (sv : List ByteArray) (s : Ses) : Prop where
  ex : ∃ wi R, Jud L (T ++ s.out) sv wi R ∧ Sits s wi R
  fit : ∀ f ∈ L, fitF f
theorem jud_mem {L : List Frm} {D : List Rep} {sv : List ByteArray} {wi : Bool} {R : List Frm} (h : Jud L D sv wi R) : ∀ f ∈ R, f ∈ L := by
  induction h with
  | start => exact fun f hf => hf
  | tell r h hf hk hr ih => exact fun g hg => ih g (List.mem_cons_of_mem _ hg)
variable {L : List Frm} {T : List Rep} {sv : List ByteArray} {s s' : Ses}
theorem frm_ok {f : Frm} (h : fitF f) : Jf.frmOk f := h
theorem rep_fits (k : Int) (h5 : k ≠ 5) : Jf.repFits (rep k) := ⟨fun _ => rfl, .inr ⟨h5, rfl⟩⟩
/-- one more is told -/
theorem JI.tell {wi : Bool} {f : Frm} {R : List Frm} (h : JI L T sv s) (hj : Jud L (T ++ s.out) sv wi (f :: R)) (r : Rep) (hk : Jf.okW wi f.kind r.kind) (hr : Jf.repFits r) (h2 : r.kind ≠ 2) (ho : s'.out = s.out ++ [r]) (hs : Sits s' (Jf.nxW wi r.kind) R) : JI L T sv s' := by
  refine ⟨⟨_, R, ?_, hs⟩, h.fit⟩
  have := Jud.tell r hj (frm_ok (h.fit f (jud_mem hj f List.mem_cons_self))) hk hr
  rw [if_neg h2, List.append_nil, List.append_assoc] at this
  rw [ho]
  exact this
theorem JI.start (hf : ∀ f ∈ L, fitF f) (h1 : s.st = 1) (h2 : s.q = L) (h3 : s.out = []) : JI L [] [] s :=
  ⟨⟨false, L, by rw [h3]; exact .start, .inl ⟨h1, rfl, h2.symm⟩⟩, hf⟩
theorem JI.flush (h : JI L T sv s) : JI L (T ++ s.out) sv (repsS s) := by
  obtain ⟨⟨wi, R, h1, h2⟩, h3⟩ := h
  exact ⟨⟨wi, R, by show Jud L (T ++ s.out ++ []) sv wi R; rw [List.append_nil]; exact h1, h2⟩, h3⟩
theorem JI.fits (h : JI L T sv s) (h0 : s.out = []) : Jf.fitK L T 0 false sv = (-1, 0) := by
  obtain ⟨⟨wi, R, h1, h2⟩, h3⟩ := h
  rw [h0, List.append_nil] at h1
  exact jud_ok h1
theorem JI.len (h : JI L T sv s) : T.length + s.out.length ≤ L.length ∧ s.q.length ≤ L.length ∧ sv.length ≤ L.length := by
  obtain ⟨⟨wi, R, h1, h2⟩, h3⟩ := h
  have h4 := jud_len h1
  rw [List.length_append] at h4
  have hq : s.q.length ≤ R.length := by
    unfold Sits at h2
    rcases h2 with ⟨-, -, e⟩ | ⟨-, -, f, e, -⟩ | ⟨-, -, -, e⟩ | ⟨-, -, -, f, e, -⟩ | ⟨-, -, f, e, -⟩ | ⟨-, -, -, e⟩ | ⟨-, -, e⟩ <;> rw [e] <;> simp
  omega
theorem kind_fit {f : Frm} (h : fitF f) : f.kind = 66 ∨ f.kind = 69 ∨ f.kind = 81 := by
  unfold fitF at h
  omega
/-- a frame taken -/
theorem ji_proc {f : Frm} {q : List Frm} (h : JI L T sv s) (ht : takesS s) (hq : s.q = f :: q) : JI L T sv (procV { s with q := q } f).2 ∧ (procV { s with q := q } f).2.q = q := by
  obtain ⟨wi, R, h1, h2⟩ := h.ex
  have hR : R = f :: q ∧ ((s.st = 1 ∧ wi = false) ∨ (s.st = 3 ∧ wi = true ∧ s.wi = true) ∨ (s.st = 7 ∧ wi = true)) := by
    unfold takesS at ht
    unfold Sits at h2
    rw [hq] at h2
    rcases h2 with ⟨a, b, e⟩ | ⟨a, -⟩ | ⟨a, b, c, e⟩ | ⟨a, -⟩ | ⟨a, -⟩ | ⟨a, -⟩ | ⟨a, b, e⟩
    · exact ⟨e, .inl ⟨a, b⟩⟩
    · omega
    · exact ⟨e, .inr (.inl ⟨a, b, c⟩)⟩
    · omega
    · omega
    · omega
    · exact ⟨e, .inr (.inr ⟨a, b⟩)⟩
  obtain ⟨rfl, hst⟩ := hR
  have hk := kind_fit (h.fit f (jud_mem h1 f List.mem_cons_self))
  have hg : JI L T sv { s with q := q } → True := fun _ => trivial
  unfold procV
  rcases hst with ⟨hs, rfl⟩ | ⟨hs, rfl, hw⟩ | ⟨hs, rfl⟩
  · rw [if_pos (show ({ s with q := q } : Ses).st = 1 from hs)]
    rcases hk with c | c | c
    · rw [if_pos c]
      exact ⟨⟨⟨false, _, h1, .inr (.inl ⟨rfl, rfl, f, rfl, .inl ⟨rfl, c⟩⟩)⟩, h.fit⟩, rfl⟩
    · rw [if_neg (by omega), if_neg (by omega), if_pos c]
      refine ⟨h.tell h1 (rep 7) ?_ (rep_fits 7 (by decide)) (by decide) rfl (.inl ⟨hs, by decide, rfl⟩), rfl⟩
      exact .inr (.inr ⟨c, rfl⟩)
    · rw [if_neg (by omega), if_pos c]
      exact ⟨⟨⟨false, _, h1, .inr (.inl ⟨rfl, rfl, f, rfl, .inr ⟨rfl, c⟩⟩)⟩, h.fit⟩, rfl⟩
  · rw [if_neg (show ¬ ({ s with q := q } : Ses).st = 1 by show ¬ s.st = 1; omega), if_pos (show ({ s with q := q } : Ses).st = 3 from hs)]
    rcases hk with c | c | c
    · rw [if_pos c]
      refine ⟨h.tell h1 (rep 7) ?_ (rep_fits 7 (by decide)) (by decide) rfl (.inr (.inr (.inl ⟨hs, by decide, hw, rfl⟩))), rfl⟩
      exact .inl ⟨c, .inl rfl⟩
    · rw [if_neg (by omega), if_neg (by omega), if_pos c]
      refine ⟨h.tell h1 (rep 3) ?_ (rep_fits 3 (by decide)) (by decide) rfl (.inl ⟨rfl, by decide, rfl⟩), rfl⟩
      exact .inr (.inr ⟨c, .inl rfl⟩)
    · rw [if_neg (by omega), if_pos c]
      exact ⟨⟨⟨true, _, h1, .inr (.inr (.inr (.inr (.inl ⟨rfl, hw.symm, f, rfl, c⟩))))⟩, h.fit⟩, rfl⟩
  · rw [if_neg (show ¬ ({ s with q := q } : Ses).st = 1 by show ¬ s.st = 1; omega), if_neg (show ¬ ({ s with q := q } : Ses).st = 3 by show ¬ s.st = 3; omega), if_pos (by omega)]
    refine ⟨h.tell h1 (rep 6) ?_ (rep_fits 6 (by decide)) (by decide) rfl (.inl ⟨rfl, by decide, rfl⟩), rfl⟩
    rcases hk with c | c | c
    · exact .inl ⟨c, .inr rfl⟩
    · exact .inr (.inr ⟨c, .inr rfl⟩)
    · exact .inr (.inl ⟨c, .inr rfl⟩)
theorem ji_loop : ∀ (k : Nat) {s : Ses}, s.q.length = k → JI L T sv s → JI L T sv (loopV s.q.length s).2 := by
  intro k
  induction k with
  | zero =>
    intro s hk h
    rw [loop_end (.inl (List.eq_nil_of_length_eq_zero hk))]
    exact h
  | succ k ih =>
    intro s hk h
    cases hq : s.q with
    | nil => rw [hq] at hk; cases hk
    | cons f q =>
      have hkq : q.length = k := by rw [hq] at hk; exact Nat.succ.inj hk
      by_cases ht : takesS s
      · obtain ⟨hp, e⟩ := ji_proc h ht hq
        by_cases h0 : (procV { s with q := q } f).1.1 = 0
        · rw [← hq, loop_cons hq ht h0]
          have := ih (by rw [e]; exact hkq) hp
          rw [show (procV { s with q := q } f).2.q.length = q.length from by rw [e]] at this
          first | exact this | (rw [show (procV { s with q := q } f).2.q.length = q.length from by rw [e]]; exact this)
        · rw [← hq, loop_stop hq ht h0]
          exact hp
      · rw [← hq, loop_end (.inr ht)]
        exact h
theorem ji_next (h : JI L T sv s) : JI L T sv (nextV s).2 := by
  unfold nextV
  by_cases h4 : s.st = 4
  · rw [if_pos h4]
    obtain ⟨wi, R, h1, h2⟩ := h.ex
    refine ⟨⟨wi, R, h1, ?_⟩, h.fit⟩
    unfold Sits at h2
    rcases h2 with ⟨a, -⟩ | ⟨a, -⟩ | ⟨a, -⟩ | ⟨a, b, c, f, e, d⟩ | ⟨a, -⟩ | ⟨a, -⟩ | ⟨a, -⟩
    · omega
    · omega
    · omega
    · exact .inr (.inr (.inr (.inr (.inl ⟨rfl, b.trans c.symm, f, e, d⟩))))
    · omega
    · omega
    · omega
  · rw [if_neg h4]
    by_cases h6 : s.st = 6
    · rw [if_pos h6]
      obtain ⟨wi, R, h1, h2⟩ := h.ex
      refine ⟨⟨wi, R, h1, ?_⟩, h.fit⟩
      unfold Sits at h2
      rcases h2 with ⟨a, -⟩ | ⟨a, -⟩ | ⟨a, -⟩ | ⟨a, -⟩ | ⟨a, -⟩ | ⟨a, b, c, e⟩ | ⟨a, -⟩
      · omega
      · omega
      · omega
      · omega
      · omega
      · exact .inl ⟨rfl, b, e⟩
      · omega
    · rw [if_neg h6]
      exact ji_loop _ rfl h
theorem ji_got (h : JI L T sv s) : JI L T sv (gotS s) := by
  unfold gotS
  by_cases h2 : s.st = 2
  · rw [if_pos h2]
    obtain ⟨wi, R, h1, hs⟩ := h.ex
    unfold Sits at hs
    rcases hs with ⟨a, -⟩ | ⟨-, rfl, f, rfl, hf⟩ | ⟨a, -⟩ | ⟨a, -⟩ | ⟨a, -⟩ | ⟨a, -⟩ | ⟨a, -⟩
    · omega
    · rcases hf with ⟨hw, c⟩ | ⟨hw, c⟩
      · rw [if_pos hw]
        exact h.tell h1 (rep 1) (.inl ⟨c, .inl rfl⟩) (rep_fits 1 (by decide)) (by decide) rfl (.inr (.inr (.inl ⟨rfl, by decide, hw, rfl⟩)))
      · rw [if_neg (by rw [hw]; decide)]
        exact ⟨⟨false, _, h1, .inr (.inr (.inr (.inl ⟨rfl, rfl, hw, f, rfl, c⟩)))⟩, h.fit⟩
    all_goals omega
  · rw [if_neg h2]; exact h
theorem ji_turn (h : JI L T sv s) (h2 : s.st = 2) : JI L T sv (({ s with st := 1, tx := St.emp } : Ses).tell (rep 4)) := by
  obtain ⟨wi, R, h1, hs⟩ := h.ex
  unfold Sits at hs
  rcases hs with ⟨a, -⟩ | ⟨-, rfl, f, rfl, hf⟩ | ⟨a, -⟩ | ⟨a, -⟩ | ⟨a, -⟩ | ⟨a, -⟩ | ⟨a, -⟩
  · omega
  · refine h.tell h1 (rep 4) ?_ (rep_fits 4 (by decide)) (by decide) rfl (.inl ⟨rfl, by decide, rfl⟩)
    rcases hf with ⟨-, c⟩ | ⟨-, c⟩
    · exact .inl ⟨c, .inr (.inl rfl)⟩
    · exact .inr (.inl ⟨c, .inr (.inl rfl)⟩)
  all_goals omega
theorem ji_ans (h : JI L T sv s) (h5 : s.st = 5) (t : ByteArray) : JI L T (sv ++ [t]) (ansS s t) := by
  obtain ⟨wi, R, h1, hs⟩ := h.ex
  unfold ansS
  rw [if_pos h5]
  unfold Sits at hs
  rcases hs with ⟨a, -⟩ | ⟨a, -⟩ | ⟨a, -⟩ | ⟨a, -⟩ | ⟨-, rfl, f, rfl, c⟩ | ⟨a, -⟩ | ⟨a, -⟩
  · omega
  · omega
  · omega
  · omega
  · have hok : Jf.okW s.wi f.kind (⟨2, 0, t⟩ : Rep).kind := by
      unfold Jf.okW
      by_cases hw : s.wi = true
      · rw [if_pos hw]; exact .inr (.inl ⟨c, .inl rfl⟩)
      · rw [if_neg hw]; exact .inr (.inl ⟨c, .inl rfl⟩)
    have hj := Jud.tell ⟨2, 0, t⟩ h1 (frm_ok (h.fit f (jud_mem h1 f List.mem_cons_self))) hok ⟨fun q => absurd rfl q, .inr ⟨by show (2 : Int) ≠ 5; decide, rfl⟩⟩
    rw [if_pos rfl, List.append_assoc] at hj
    refine ⟨⟨_, _, hj, ?_⟩, h.fit⟩
    by_cases hw : s.wi = true
    · exact .inr (.inr (.inl ⟨if_pos hw, by rw [hw]; exact rfl, hw, rfl⟩))
    · have hw' : s.wi = false := by simpa using hw
      exact .inr (.inr (.inr (.inr (.inr (.inl ⟨if_neg hw, by rw [hw']; exact rfl, hw', rfl⟩)))))
  · omega
  · omega
theorem ji_lost (h : JI L T sv s) : JI L T sv (lostS s) := by
  obtain ⟨wi, R, h1, hs⟩ := id h.ex
  unfold lostS
  by_cases h3 : s.st = 3
  · rw [if_pos h3]
    unfold Sits at hs
    rcases hs with ⟨a, -⟩ | ⟨a, -⟩ | ⟨a, b, c, e⟩ | ⟨a, -⟩ | ⟨a, -⟩ | ⟨a, -⟩ | ⟨a, -⟩
    · omega
    · omega
    · exact ⟨⟨wi, R, h1, .inr (.inr (.inr (.inr (.inr (.inr ⟨rfl, b, e⟩)))))⟩, h.fit⟩
    all_goals omega
  · rw [if_neg h3]
    by_cases h45 : s.st = 4 ∨ s.st = 5
    · rw [if_pos h45]
      unfold Sits at hs
      rcases hs with ⟨a, -⟩ | ⟨a, -⟩ | ⟨a, -⟩ | ⟨a, rfl, -, f, rfl, c⟩ | ⟨a, rfl, f, rfl, c⟩ | ⟨a, -⟩ | ⟨a, -⟩
      · omega
      · omega
      · omega
      · exact h.tell h1 (rep 6) (.inr (.inl ⟨c, .inr (.inr (.inr rfl))⟩)) (rep_fits 6 (by decide)) (by decide) rfl (.inl ⟨rfl, by decide, rfl⟩)
      · refine h.tell h1 (rep 6) ?_ (rep_fits 6 (by decide)) (by decide) rfl (.inl ⟨rfl, ?_, rfl⟩)
        · unfold Jf.okW
          by_cases hw : s.wi = true
          · rw [if_pos hw]; exact .inr (.inl ⟨c, .inr rfl⟩)
          · rw [if_neg hw]; exact .inr (.inl ⟨c, .inr (.inr (.inr rfl))⟩)
        · unfold Jf.nxW
          by_cases hw : s.wi = true
          · rw [if_pos hw]; decide
          · rw [if_neg hw]; decide
      all_goals omega
    · rw [if_neg h45]
      by_cases h6 : s.st = 6
      · rw [if_pos h6]
        unfold Sits at hs
        rcases hs with ⟨a, -⟩ | ⟨a, -⟩ | ⟨a, -⟩ | ⟨a, -⟩ | ⟨a, -⟩ | ⟨a, b, c, e⟩ | ⟨a, -⟩
        · omega
        · omega
        · omega
        · omega
        · omega
        · exact ⟨⟨wi, R, h1, .inl ⟨rfl, b, e⟩⟩, h.fit⟩
        · omega
      · rw [if_neg h6]; exact h
/-- what may be told: small numbers, texts that may be -/
def repM (r : Rep) : Prop := 0 ≤ r.kind ∧ r.kind ≤ 8 ∧ r.node = 0 ∧ r.text.size ≤ maxLen
theorem repM_wf {r : Rep} (h : repM r) : r.wf := by
  obtain ⟨h1, h2, h3, h4⟩ := h
  have k : ∀ z : Int, 0 ≤ z → z ≤ 8 → (Lit.int .i64 z).wf = true := fun z a b => by
    have : z = 0 ∨ z = 1 ∨ z = 2 ∨ z = 3 ∨ z = 4 ∨ z = 5 ∨ z = 6 ∨ z = 7 ∨ z = 8 := by omega
    rcases this with rfl | rfl | rfl | rfl | rfl | rfl | rfl | rfl | rfl <;> rfl
  exact ⟨k _ h1 h2, by rw [h3]; rfl, h4⟩
theorem repM_rep (k : Int) (h0 : 0 ≤ k) (h8 : k ≤ 8) : repM (rep k) := ⟨h0, h8, rfl, Nat.zero_le _⟩
def outM (s : Ses) : Prop := ∀ r ∈ s.out, repM r
theorem outM.tell {r : Rep} (h : outM s) (hr : repM r) (ho : s'.out = s.out ++ [r]) : outM s' := by
  intro x hx
  rw [ho] at hx
  rcases List.mem_append.1 hx with g | g
  · exact h x g
  · simp only [List.mem_singleton] at g; subst g; exact hr
theorem outM.same (h : outM s) (ho : s'.out = s.out) : outM s' := fun x hx => h x (by rw [← ho]; exact hx)
theorem om_proc (h : outM s) (f : Frm) : outM (procV s f).2 := by
  unfold procV
  split
  · split
    · exact h
    · split
      · exact h
      · split
        · exact h.tell (repM_rep 7 (by decide) (by decide)) rfl
        · exact h.tell (repM_rep 8 (by decide) (by decide)) rfl
  · split
    · split
      · exact h.tell (repM_rep 7 (by decide) (by decide)) rfl
      · split
        · exact h
        · split
          · exact h.tell (repM_rep 3 (by decide) (by decide)) rfl
          · exact h.tell (repM_rep 8 (by decide) (by decide)) rfl
    · split
      · exact h.tell (repM_rep 6 (by decide) (by decide)) rfl
      · exact h.tell (repM_rep 8 (by decide) (by decide)) rfl
theorem om_loop : ∀ (k : Nat) {s : Ses}, outM s → outM (loopV k s).2 := by
  intro k
  induction k with
  | zero => intro s h; exact h
  | succ k ih =>
    intro s h
    unfold loopV
    split
    · exact h
    · rename_i f q hq
      have hp : outM (procV { s with q := q } f).2 := om_proc (s := { s with q := q }) h f
      split
      · split
        · exact ih hp
        · exact hp
      · exact h
theorem om_next (h : outM s) : outM (nextV s).2 := by
  unfold nextV
  split
  · exact h
  · split
    · exact h
    · exact om_loop _ h
theorem om_got (h : outM s) : outM (gotS s) := by
  unfold gotS
  split
  · split
    · exact h.tell (repM_rep 1 (by decide) (by decide)) rfl
    · exact h
  · exact h
theorem om_ans (h : outM s) {t : ByteArray} (ht : t.size ≤ maxLen) : outM (ansS s t) := by
  unfold ansS
  split
  · exact h.tell ⟨by show (0 : Int) ≤ 2; decide, by show (2 : Int) ≤ 8; decide, rfl, ht⟩ rfl
  · exact h
theorem om_lost (h : outM s) : outM (lostS s) := by
  unfold lostS
  split
  · exact h
  · split
    · exact h.tell (repM_rep 6 (by decide) (by decide)) rfl
    · split
      · exact h
      · exact h
end Js
end Go.Proofs.Ytdakkjpejhlciaa
namespace Go.Proofs.Ytdakkjpejhlciaa
open Go.ChangeShapes Go.WideShapes Go.ChangeAt Go.RowKit Go.Deep
set_option linter.unusedVariables false
set_option maxRecDepth 100000
set_option linter.unusedSimpArgs false
namespace Js
open St Mu Mc
structure JsW (p : Nat) (s : Ses) (ts : List Rep) (sv : List ByteArray) (vT vS : Value) (S : Nat → Prop) (B : Nat) (w0 w : World) : Prop where
  m : Mv.XSX p s w S
  lo : ∀ k, S k → B ≤ k
  x : OwnQ 3 repC TR w B vT ts
  y : OwnQ 1 txC TN w B vS sv
  xs : ∀ q, vT.ownBlock = some q → ¬ S q
  ys : ∀ q, vS.ownBlock = some q → ¬ S q
  xy : ∀ q, vT.ownBlock = some q → vS.ownBlock ≠ some q
  bel : Below B w0 w
  sz : B ≤ w.heap.size
variable {p B : Nat} {s s' : Ses} {ts zs : List Rep} {sv us : List ByteArray} {vT vS vC : Value} {S : Nat → Prop} {w0 w w1 w' : World}
theorem JsW.start (h : Mv.XSX p s w S) (hS : ∀ k, S k → B ≤ k) (hb : Below B w0 w) (hz : B ≤ w.heap.size) : JsW p s [] [] (.slice none 0 0) (.slice none 0 0) S B w0 w :=
  ⟨h, hS, OwnQ.nil _ _ _, OwnQ.nil _ _ _, (fun q e => by cases e), (fun q e => by cases e), (fun q e => by cases e), hb, hz⟩
theorem JsW.below (h : JsW p s ts sv vT vS S B w0 w) (hb : Below w.heap.size w w') : JsW p s ts sv vT vS S B w0 w' :=
  ⟨(Mv.goodX p s).below h.m hb, h.lo, h.x.keep (fun q hq => hb.block q (h.x.lt q hq).2), h.y.keep (fun q hq => hb.block q (h.y.lt q hq).2), h.xs, h.ys, h.xy, h.bel.trans (hb.mono h.sz), Nat.le_trans h.sz hb.size⟩
/-- replies put behind what was told -/
theorem JsW.growT (h : JsW p s ts sv vT vS S B w0 w) (hx : OwnQ 3 repC TR w' B vC zs) (hg : w.grownBy w' vT.ownBlock) (hv : vC.ownBlock = vT.ownBlock ∨ ∀ q, vC.ownBlock = some q → w.heap.size ≤ q) : JsW p s zs sv vC vS S B w0 w' := by
  have ho : Only (fun k => vT.ownBlock = some k) w w' := Only.grown hg (fun q e => e)
  refine ⟨(Mv.goodX p s).only h.m ho (fun k hk e => h.xs k e hk), h.lo, hx, h.y.keep (fun q hq => hg.block q (h.y.lt q hq).2 (fun e => h.xy q e.symm hq)), fun q hq hs => ?_, h.ys, fun q hq hq2 => ?_, ho.below h.bel h.sz (fun k e => (h.x.lt k e).1), Nat.le_trans h.sz hg.size⟩
  · rcases hv with e | e
    · exact h.xs q (e ▸ hq) hs
    · have := e q hq
      have := (Mv.goodX p s).low h.m q hs
      omega
  · rcases hv with e | e
    · exact h.xy q (e ▸ hq) hq2
    · have := e q hq
      have := (h.y.lt q hq2).2
      omega
/-- a text put behind what was served -/
theorem JsW.growS (h : JsW p s ts sv vT vS S B w0 w) (hx : OwnQ 1 txC TN w' B vC us) (hg : w.grownBy w' vS.ownBlock) (hv : vC.ownBlock = vS.ownBlock ∨ ∀ q, vC.ownBlock = some q → w.heap.size ≤ q) : JsW p s ts us vT vC S B w0 w' := by
  have ho : Only (fun k => vS.ownBlock = some k) w w' := Only.grown hg (fun q e => e)
  refine ⟨(Mv.goodX p s).only h.m ho (fun k hk e => h.ys k e hk), h.lo, h.x.keep (fun q hq => hg.block q (h.x.lt q hq).2 (fun e => h.xy q hq e.symm)), hx, h.xs, fun q hq hs => ?_, fun q hq2 hq => ?_, ho.below h.bel h.sz (fun k e => (h.y.lt k e).1), Nat.le_trans h.sz hg.size⟩
  · rcases hv with e | e
    · exact h.ys q (e ▸ hq) hs
    · have := e q hq
      have := (Mv.goodX p s).low h.m q hs
      omega
  · rcases hv with e | e
    · exact h.xy q hq2 (e ▸ hq)
    · have := e q hq
      have := (h.x.lt q hq2).2
      omega
/-- a call on the session -/
theorem JsW.left (h : JsW p s ts sv vT vS S B w0 w) (hl : Mc.Left (Mv.XSX p s') S w w') : ∃ S', JsW p s' ts sv vT vS S' B w0 w' := by
  obtain ⟨⟨S', h1, h2⟩, ho⟩ := hl
  have hz := ho.2.2.2.1
  refine ⟨S', h1, fun k hk => ?_, h.x.keep (fun q hq => ho.2.2.2.2 q (h.x.lt q hq).2 (h.xs q hq)), h.y.keep (fun q hq => ho.2.2.2.2 q (h.y.lt q hq).2 (h.ys q hq)), fun q hq hs => ?_, fun q hq hs => ?_, h.xy, ho.below h.bel h.sz h.lo, Nat.le_trans h.sz hz⟩
  · rcases h2 k hk with c | c
    · exact h.lo k c
    · have := h.sz; omega
  · rcases h2 q hs with c | c
    · exact h.xs q hq c
    · have := (h.x.lt q hq).2; omega
  · rcases h2 q hs with c | c
    · exact h.ys q hq c
    · have := (h.y.lt q hq).2; omega
/-- the same, whatever the session's own blocks are -/
def JsX (p : Nat) (s : Ses) (ts : List Rep) (sv : List ByteArray) (vT vS : Value) (B : Nat) (w0 w : World) : Prop := ∃ S, JsW p s ts sv vT vS S B w0 w
theorem JsX.below (h : JsX p s ts sv vT vS B w0 w) (hb : Below w.heap.size w w') : JsX p s ts sv vT vS B w0 w' := by obtain ⟨S, h⟩ := h; exact ⟨S, h.below hb⟩
theorem JsX.bel (h : JsX p s ts sv vT vS B w0 w) : Below B w0 w ∧ B ≤ w.heap.size := by obtain ⟨S, h⟩ := h; exact ⟨h.bel, h.sz⟩
theorem JsX.own (h : JsX p s ts sv vT vS B w0 w) : OwnQ 3 repC TR w B vT ts ∧ OwnQ 1 txC TN w B vS sv := by obtain ⟨S, h⟩ := h; exact ⟨h.x, h.y⟩
theorem JsX.growT (h : JsX p s ts sv vT vS B w0 w) (hx : OwnQ 3 repC TR w' B vC zs) (hg : w.grownBy w' vT.ownBlock) (hv : vC.ownBlock = vT.ownBlock ∨ ∀ q, vC.ownBlock = some q → w.heap.size ≤ q) : JsX p s zs sv vC vS B w0 w' := by obtain ⟨S, h⟩ := h; exact ⟨S, h.growT hx hg hv⟩
theorem JsX.growS (h : JsX p s ts sv vT vS B w0 w) (hx : OwnQ 1 txC TN w' B vC us) (hg : w.grownBy w' vS.ownBlock) (hv : vC.ownBlock = vS.ownBlock ∨ ∀ q, vC.ownBlock = some q → w.heap.size ≤ q) : JsX p s ts us vT vC B w0 w' := by obtain ⟨S, h⟩ := h; exact ⟨S, h.growS hx hg hv⟩
theorem JsX.doc {f : Nat} {args : Array Value} {r : Value} (h : JsX p s ts sv vT vS B w0 w) (hc : ∀ S vq vo b bd al tx, Mv.XSV w S p vq vo b bd al tx s → Calls Try.prog f args w (Mv.MvR r p s' S w)) : Calls Try.prog f args w (fun e w' => e = .returned r ∧ JsX p s' ts sv vT vS B w0 w') := by
  obtain ⟨S, h⟩ := h
  obtain ⟨vq, vo, b, bd, al, tx, hm⟩ := id h.m
  refine (hc S vq vo b bd al tx hm).mono ?_
  rintro e w' ⟨rfl, hl⟩
  exact ⟨rfl, h.left hl⟩
/-- the state as it stands in memory -/
theorem JsX.state (h : JsX p s ts sv vT vS B w0 w) : w.cell? ⟨p, 3, none⟩ = some (.int .i64 (Mv.stX s.st)) := by
  obtain ⟨S, h⟩ := h
  obtain ⟨vq, vo, b, bd, al, tx, hm⟩ := h.m
  exact (Mv.xcells hm.row).2.2.2.1
/-- what was told is handed over -/
theorem JsX.replies (h : JsX p s ts sv vT vS B w0 w) : Calls Try.prog 25 #[.pointer (some ⟨p, 0, none⟩)] w (fun e w' => ∃ v, e = .returned v ∧ SlR 3 repC w' v s.out ∧ JsX p (repsS s) ts sv vT vS B w0 w') := by
  obtain ⟨S, h⟩ := h
  obtain ⟨vq, vo, b, bd, al, tx, hm⟩ := id h.m
  refine (Mv.replies_any w hm).mono ?_
  rintro e w' ⟨v, rfl, h1, h2, h3, h4⟩
  exact ⟨v, rfl, h2.sl repC_len, h.left ⟨⟨S, h1, fun k hk => .inl hk⟩, h4⟩⟩
theorem xturn4 (w : World) (S : Nat → Prop) {vq vo : Value} {b tx : ByteArray} {bd al : Bool} (h : Mv.XSV w S p vq vo b bd al tx s) (h2 : s.st = 2) (hl : s.out.length ≤ 1000000) : Calls Try.prog 16 #[.pointer (some ⟨p, 0, none⟩), .agg #[.int .i64 4, .int .i64 0, .string ⟨#[]⟩]] w (Mv.MvR (.int .i64 0) p (({ s with st := 1, tx := St.emp } : Ses).tell (rep 4)) S w) := by
  have ht : turns (rep 4) := .inl ⟨rfl, rfl, rfl⟩
  have h := Mv.turn_0 w h hl
  rw [show (⟨4, 0, ⟨#[]⟩⟩ : Rep) = rep 4 from rfl] at h
  unfold turnE turnS at h
  rw [if_pos ht, if_pos ht, if_pos h2, if_pos h2] at h
  exact h
theorem xans5 (t : ByteArray) (w : World) (S : Nat → Prop) {vq vo : Value} {b tx : ByteArray} {bd al : Bool} (h : Mv.XSV w S p vq vo b bd al tx s) (h5 : s.st = 5) (hl : s.out.length ≤ 1000000) : Calls Try.prog 18 #[.pointer (some ⟨p, 0, none⟩), .string t] w (Mv.MvR (.int .i64 0) p (ansS s t) S w) := by
  have h := Mv.ans_any t w h hl
  unfold ansE at h
  rw [if_pos h5] at h
  exact h
/-- what was sent, all of it fit -/
theorem xfeed0 (t : ByteArray) (w : World) (S : Nat → Prop) {vq vo : Value} {b tx : ByteArray} {bd al : Bool} (h : Mv.XSV w S p vq vo b bd al tx fresh) (hl : t.size ≤ 1000000) : Calls Try.prog 10 #[.pointer (some ⟨p, 0, none⟩), .string t] w (Mv.MvR (.int .i64 0) p (feedS fresh (sb t)) S w) := Mv.feed_any t w h ok_fresh hl
theorem feed_ji {l : List Frm} (h : ∀ f ∈ l, fitF f) : JI l [] [] (feedS fresh (l.flatMap byteF)) ∧ outM (feedS fresh (l.flatMap byteF)) ∧ okS (l.length * 50 + 1) 0 (feedS fresh (l.flatMap byteF)) := by
  have hr := run_bytes l h
  have ha : allF (runV zero (l.flatMap byteF)) = l := by rw [hr]; exact List.append_nil l
  have e : feedS fresh (l.flatMap byteF) = { fresh with rd := (runV zero (l.flatMap byteF)).2, q := allF (runV zero (l.flatMap byteF)) } := rfl
  refine ⟨?_, ?_, ?_⟩
  · rw [e, ha]; exact JI.start h rfl rfl rfl
  · intro r hr; rw [e] at hr; cases hr
  · refine (ok_feed ok_fresh _ (St.bytes_wf l h)).mono ?_ (Nat.le_refl _)
    have hb := bytes_len l h
    omega
end Js
end Go.Proofs.Ytdakkjpejhlciaa
