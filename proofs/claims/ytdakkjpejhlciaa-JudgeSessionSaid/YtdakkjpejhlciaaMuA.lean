/- A client's session on lists: what each call does. No condition. -/
import Derived.Test.YtdakkjpejhlciaaStE
import Derived.Test.YtdakkjpejhlciaaStJ
import Derived.Test.YtdakkjpejhlciaaRep
namespace Go.Proofs.Ytdakkjpejhlciaa
open Go.ChangeShapes Go.WideShapes Go.ChangeAt Go.RowKit Go.Deep
set_option linter.unusedVariables false
set_option maxRecDepth 100000
set_option linter.unusedSimpArgs false
namespace Mu
open St
/-- the states: 0 closed, 1 free, 2 waiting, 3 bound, 4 passing, 5 sent, 6 giving, 7 dead -/
structure Ses where
  st : Int
  wi : Bool
  tx : ByteArray
  rd : Rst
  q : List Frm
  out : List Rep
def fresh : Ses := ⟨1, false, emp, zero, [], []⟩
def badF : Frm := ⟨0, emp⟩
def rep (k : Int) : Rep := ⟨k, 0, emp⟩
def Ses.tell (s : Ses) (r : Rep) : Ses := { s with out := s.out ++ [r] }
def hangS (s : Ses) : Ses := ⟨0, false, emp, zero, [], s.out⟩
def feedE (s : Ses) : Int := if s.st = 0 then 3 else if 4 ≤ s.q.length then 5 else 0
def badL (a b : Int) : List Frm := if b = 3 ∧ a ≠ 3 then [badF] else []
def feedS (s : Ses) (bs : List Int) : Ses := if s.st = 0 then s else if 4 ≤ s.q.length then s else { s with rd := (runV s.rd bs).2, q := s.q ++ (runV s.rd bs).1 ++ badL s.rd.st (runV s.rd bs).2.st }
/-- what the table says of a frame -/
def procV (s : Ses) (f : Frm) : (Int × ByteArray) × Ses :=
  if s.st = 1 then
    if f.kind = 66 then ((1, emp), { s with st := 2, wi := true })
    else if f.kind = 81 then ((1, emp), { s with st := 2, wi := false, tx := f.text })
    else if f.kind = 69 then ((0, emp), s.tell (rep 7))
    else ((0, emp), hangS (s.tell (rep 8)))
  else if s.st = 3 then
    if f.kind = 66 then ((0, emp), s.tell (rep 7))
    else if f.kind = 81 then ((2, f.text), { s with st := 5 })
    else if f.kind = 69 then ((3, emp), { s.tell (rep 3) with st := 1 })
    else ((3, emp), hangS (s.tell (rep 8)))
  else
    if f.kind = 66 ∨ f.kind = 81 ∨ f.kind = 69 then ((0, emp), { s.tell (rep 6) with st := 1 })
    else ((0, emp), hangS (s.tell (rep 8)))
def takesS (s : Ses) : Prop := s.st = 1 ∨ s.st = 3 ∨ s.st = 7
instance (s : Ses) : Decidable (takesS s) := by unfold takesS; infer_instance
/-- frames one by one, until something is to be done -/
def loopV : Nat → Ses → (Int × ByteArray) × Ses
  | 0, s => ((0, emp), s)
  | n + 1, s => match s.q with
    | [] => ((0, emp), s)
    | f :: q => if takesS s then (if (procV { s with q := q } f).1.1 = 0 then loopV n (procV { s with q := q } f).2 else procV { s with q := q } f) else ((0, emp), s)
def nextV (s : Ses) : (Int × ByteArray) × Ses :=
  if s.st = 4 then ((2, s.tx), { s with st := 5, tx := emp })
  else if s.st = 6 then ((3, emp), { s with st := 1 })
  else loopV s.q.length s
def gotE (s : Ses) : Int := if s.st = 2 then 0 else 3
def gotS (s : Ses) : Ses := if s.st = 2 then (if s.wi = true then { s with st := 3 }.tell (rep 1) else { s with st := 4 }) else s
def turns (r : Rep) : Prop := (r.kind = 4 ∧ r.node = 0 ∧ r.text = emp) ∨ (r.kind = 5 ∧ 1 ≤ r.node ∧ r.node ≤ 7 ∧ r.text = emp)
noncomputable instance (r : Rep) : Decidable (turns r) := Classical.propDecidable _
noncomputable def turnE (s : Ses) (r : Rep) : Int := if turns r then (if s.st = 2 then 0 else 3) else 1
noncomputable def turnS (s : Ses) (r : Rep) : Ses := if turns r then (if s.st = 2 then { s with st := 1, tx := emp }.tell r else s) else s
def ansE (s : Ses) : Int := if s.st = 5 then 0 else 3
def ansS (s : Ses) (t : ByteArray) : Ses := if s.st = 5 then { s with st := if s.wi = true then 3 else 6 }.tell ⟨2, 0, t⟩ else s
def lostE (s : Ses) : Int := if s.st = 3 ∨ s.st = 4 ∨ s.st = 5 ∨ s.st = 6 then 0 else 3
def lostS (s : Ses) : Ses := if s.st = 3 then { s with st := 7 } else if s.st = 4 ∨ s.st = 5 then { s with st := 1, tx := emp }.tell (rep 6) else if s.st = 6 then { s with st := 1 } else s
def repsS (s : Ses) : Ses := { s with out := [] }
/-! what always holds -/
def kindF (f : Frm) : Prop := (f.kind = 66 ∨ f.kind = 69 ∨ f.kind = 81 ∨ f.kind = 0) ∧ f.text.size ≤ 48
def okS (n m : Nat) (s : Ses) : Prop := 0 ≤ s.st ∧ s.st ≤ 7 ∧ okR s.rd ∧ (∀ f ∈ s.q, kindF f) ∧ s.q.length ≤ n ∧ s.out.length ≤ m ∧ s.tx.size ≤ 48 ∧ (s.st = 3 ∨ s.st = 7 → s.wi = true) ∧ (s.st = 4 ∨ s.st = 6 → s.wi = false)
theorem i07 : (0 : Int) ≤ 7 := by decide
theorem e48 : emp.size ≤ 48 := by decide
theorem ok_fresh : okS 0 0 fresh := ⟨by decide, by decide, ok_zero, by simp [fresh], Nat.le_refl _, Nat.le_refl _, by decide, by simp [fresh], by simp [fresh]⟩
theorem okS.mono {n m n' m' : Nat} {s : Ses} (h : okS n m s) (hn : n ≤ n') (hm : m ≤ m') : okS n' m' s := ⟨h.1, h.2.1, h.2.2.1, h.2.2.2.1, by have := h.2.2.2.2.1; omega, by have := h.2.2.2.2.2.1; omega, h.2.2.2.2.2.2⟩
theorem step_kind {s : Rst} (h : okR s) {x : Int} (hx : (Lit.int .u8 x).wf = true) {f : Frm} (hf : (stepV s x).1 = some f) : kindF f := by
  have hq : ∀ t : Rst, t.text.length ≤ 48 → (queryV t).1 = some f → kindF f := by
    intro t ht h
    unfold queryV at h
    split at h
    · cases h
    · simp only [Option.some.injEq] at h
      subst h
      refine ⟨by simp [mkQ], ?_⟩
      show (strOfNums t.text).size ≤ 48
      rw [strOfNums_size]; exact ht
  obtain ⟨h1, h2, h3, h4, h5, h6, h7⟩ := h
  unfold stepV at hf
  split at hf
  · split at hf
    · rename_i c
      simp only [Option.some.injEq] at hf
      subst hf
      exact ⟨by rcases c with c | c <;> simp [c], e48⟩
    · split at hf <;> cases hf
  · split at hf
    · split at hf
      · cases hf
      · exact hq ⟨2, x, s.text⟩ h4 hf
    · split at hf
      · rename_i c
        have := h7 c
        exact hq _ (by show (s.text ++ [x]).length ≤ 48; rw [List.length_append]; simp; omega) hf
      · cases hf
theorem run_kind {s : Rst} (h : okR s) : ∀ (xs : List Int), (∀ x ∈ xs, (Lit.int .u8 x).wf = true) → ∀ f ∈ (runV s xs).1, kindF f := by
  intro xs
  induction xs generalizing s with
  | nil => intro _ f hf; cases hf
  | cons x xs ih =>
    intro hx f hf
    rw [show x :: xs = [x] ++ xs from rfl, run_app] at hf
    have e2 : (runV s [x]).2 = (stepV s x).2 := rfl
    have e1 : (runV s [x]).1 = (stepV s x).1.toList := List.nil_append _
    rw [e2, e1] at hf
    rcases List.mem_append.1 hf with hf | hf
    · cases ho : (stepV s x).1 with
      | none => rw [ho] at hf; cases hf
      | some g =>
        rw [ho] at hf
        simp only [Option.toList_some, List.mem_singleton] at hf
        subst hf
        exact step_kind h (hx x (by simp)) ho
    · exact ih (ok_step h (hx x (by simp))) (fun y hy => hx y (by simp [hy])) f hf
theorem bad_len (a b : Int) : (badL a b).length ≤ 1 := by unfold badL; split <;> simp
theorem ok_feed {n m : Nat} {s : Ses} (h : okS n m s) (bs : List Int) (hb : ∀ x ∈ bs, (Lit.int .u8 x).wf = true) : okS (n + bs.length + 1) m (feedS s bs) := by
  unfold feedS
  split
  · exact h.mono (by omega) (Nat.le_refl _)
  · split
    · exact h.mono (by omega) (Nat.le_refl _)
    · obtain ⟨h1, h2, h3, h4, h5, h6, h7, h8, h9⟩ := h
      have hl := run_len (s := s.rd) bs
      have hbl := bad_len s.rd.st (runV s.rd bs).2.st
      refine ⟨h1, h2, ok_run h3 bs hb, fun f hf => ?_, by simp only [List.length_append]; omega, h6, h7, h8, h9⟩
      simp only [List.mem_append] at hf
      rcases hf with (hf | hf) | hf
      · exact h4 f hf
      · exact run_kind h3 bs hb f hf
      · unfold badL at hf
        split at hf
        · simp only [List.mem_singleton] at hf; subst hf; exact ⟨by simp [badF], e48⟩
        · cases hf
theorem ok_tell {n m : Nat} {s : Ses} (h : okS n m s) (r : Rep) : okS n (m + 1) (s.tell r) := ⟨h.1, h.2.1, h.2.2.1, h.2.2.2.1, h.2.2.2.2.1, by show (s.out ++ [r]).length ≤ m + 1; have := h.2.2.2.2.2.1; rw [List.length_append]; simp; omega, h.2.2.2.2.2.2⟩
theorem ok_hang {n m : Nat} {s : Ses} (h : okS n m s) : okS n m (hangS s) := ⟨Int.le_refl _, i07, ok_zero, (by intro f hf; cases hf), Nat.zero_le _, h.2.2.2.2.2.1, e48, (by rintro (h | h) <;> cases h), (by rintro (h | h) <;> cases h)⟩
theorem ok_st {n m : Nat} {s : Ses} (h : okS n m s) {k : Int} {wi : Bool} {tx : ByteArray} (h0 : 0 ≤ k) (h7 : k ≤ 7) (ht : tx.size ≤ 48) (h3 : k = 3 ∨ k = 7 → wi = true) (h4 : k = 4 ∨ k = 6 → wi = false) : okS n m { s with st := k, wi := wi, tx := tx } :=
  ⟨h0, h7, h.2.2.1, h.2.2.2.1, h.2.2.2.2.1, h.2.2.2.2.2.1, ht, h3, h4⟩
theorem ok_proc {n m : Nat} {s : Ses} (h : okS n m s) {f : Frm} (hf : kindF f) : okS n (m + 1) (procV s f).2 := by
  have ht := ok_tell h
  have hm := h.mono (Nat.le_refl n) (Nat.le_succ m)
  have htx := h.2.2.2.2.2.2.1
  unfold procV
  split
  · split
    · exact ok_st hm (by decide) (by decide) htx (by simp) (by simp)
    · split
      · exact ok_st hm (by decide) (by decide) hf.2 (by simp) (by simp)
      · split
        · exact ht _
        · exact ok_hang (ht _)
  · split
    · split
      · exact ht _
      · split
        · exact ok_st hm (wi := s.wi) (tx := s.tx) (by decide) (by decide) htx (by simp) (by simp)
        · split
          · exact ok_st (ht (rep 3)) (wi := s.wi) (tx := s.tx) (by decide) (by decide) htx (by simp) (by simp)
          · exact ok_hang (ht _)
    · split
      · exact ok_st (ht (rep 6)) (wi := s.wi) (tx := s.tx) (by decide) (by decide) htx (by simp) (by simp)
      · exact ok_hang (ht _)
theorem ok_pop {n m : Nat} {s : Ses} {f : Frm} {q : List Frm} (h : okS n m s) (hq : s.q = f :: q) : okS (n - 1) m { s with q := q } ∧ kindF f ∧ 1 ≤ n := by
  have h5 := h.2.2.2.2.1
  have h4 := h.2.2.2.1
  rw [hq] at h4 h5
  simp only [List.length_cons] at h5
  exact ⟨⟨h.1, h.2.1, h.2.2.1, fun x hx => h4 x (List.mem_cons_of_mem _ hx), by show q.length ≤ n - 1; omega, h.2.2.2.2.2⟩, h4 f List.mem_cons_self, by omega⟩
theorem proc_q (s : Ses) (f : Frm) : (procV s f).2.q = s.q ∨ (procV s f).2.q = [] := by
  unfold procV
  split
  · split
    · exact .inl rfl
    · split
      · exact .inl rfl
      · split
        · exact .inl rfl
        · exact .inr rfl
  · split
    · split
      · exact .inl rfl
      · split
        · exact .inl rfl
        · split
          · exact .inl rfl
          · exact .inr rfl
    · split
      · exact .inl rfl
      · exact .inr rfl
theorem proc_len (s : Ses) (f : Frm) : (procV s f).2.q.length ≤ s.q.length := by
  rcases proc_q s f with h | h <;> rw [h]
  · exact Nat.le_refl _
  · exact Nat.zero_le _
/-- enough rounds are enough -/
theorem loop_more : ∀ (n : Nat) (s : Ses), s.q.length ≤ n → loopV n s = loopV s.q.length s
  | 0, s, h => by rw [Nat.le_zero.1 h]
  | n + 1, s, h => by
    obtain ⟨st, wi, tx, rd, q, out⟩ := s
    match q, h with
    | [], _ => simp [loopV]
    | f :: q, h =>
      simp only [List.length_cons, Nat.add_le_add_iff_right] at h
      simp only [loopV, List.length_cons]
      have hp := proc_len ⟨st, wi, tx, rd, q, out⟩ f
      rw [loop_more n _ (Nat.le_trans hp h), loop_more q.length _ hp]
theorem loop_cons {s : Ses} {f : Frm} {q : List Frm} (hq : s.q = f :: q) (ht : takesS s) (h0 : (procV { s with q := q } f).1.1 = 0) : loopV s.q.length s = loopV (procV { s with q := q } f).2.q.length (procV { s with q := q } f).2 := by
  rw [hq]
  simp only [loopV, List.length_cons, hq]
  rw [if_pos ht, if_pos h0]
  exact loop_more _ _ (proc_len _ _)
theorem loop_stop {s : Ses} {f : Frm} {q : List Frm} (hq : s.q = f :: q) (ht : takesS s) (h0 : (procV { s with q := q } f).1.1 ≠ 0) : loopV s.q.length s = procV { s with q := q } f := by
  rw [hq]
  simp only [loopV, List.length_cons, hq]
  rw [if_pos ht, if_neg h0]
theorem loop_end {s : Ses} (h : s.q = [] ∨ ¬ takesS s) : loopV s.q.length s = ((0, emp), s) := by
  cases hq : s.q with
  | nil => rfl
  | cons f q =>
    simp only [loopV, List.length_cons, hq]
    rcases h with h | h
    · rw [hq] at h; cases h
    · rw [if_neg h]
theorem ok_loop : ∀ (k n m : Nat) {s : Ses}, s.q.length = k → okS n m s → okS n (m + k) (loopV s.q.length s).2 := by
  intro k
  induction k using Nat.strongRecOn with
  | ind k ih =>
    intro n m s hk h
    cases hq : s.q with
    | nil => rw [← hq, loop_end (.inl hq)]; exact h.mono (Nat.le_refl _) (by omega)
    | cons f q =>
      by_cases ht : takesS s
      · obtain ⟨h1, h2, h3⟩ := ok_pop h hq
        have hp := (ok_proc h1 h2).mono (Nat.sub_le n 1) (Nat.le_refl (m + 1))
        rw [hq, List.length_cons] at hk
        by_cases h0 : (procV { s with q := q } f).1.1 = 0
        · have hl := proc_len { s with q := q } f
          rw [← hq, loop_cons hq ht h0]
          exact (ih _ (by show _ < k; have : ({ s with q := q } : Ses).q.length = q.length := rfl; omega) n (m + 1) rfl hp).mono (Nat.le_refl _) (by have : ({ s with q := q } : Ses).q.length = q.length := rfl; omega)
        · rw [← hq, loop_stop hq ht h0]
          exact hp.mono (Nat.le_refl _) (by omega)
      · rw [← hq, loop_end (.inr ht)]
        exact h.mono (Nat.le_refl _) (by omega)
theorem ok_next {n m : Nat} {s : Ses} (h : okS n m s) : okS n (m + n) (nextV s).2 := by
  have hm := h.mono (Nat.le_refl n) (Nat.le_add_right m n)
  unfold nextV
  split
  · exact ok_st hm (wi := s.wi) (by decide) (by decide) e48 (by simp) (by simp)
  · split
    · exact ok_st hm (wi := s.wi) (tx := s.tx) (by decide) (by decide) h.2.2.2.2.2.2.1 (by simp) (by simp)
    · exact (ok_loop _ n m rfl h).mono (Nat.le_refl _) (by have := h.2.2.2.2.1; omega)
theorem ok_got {n m : Nat} {s : Ses} (h : okS n m s) : okS n (m + 1) (gotS s) := by
  have hm := h.mono (Nat.le_refl n) (Nat.le_succ m)
  have htx := h.2.2.2.2.2.2.1
  unfold gotS
  split
  · split
    · rename_i c
      exact ok_tell (ok_st h (wi := s.wi) (tx := s.tx) (by decide) (by decide) htx (fun _ => c) (by simp)) _
    · rename_i c
      exact ok_st hm (wi := s.wi) (tx := s.tx) (by decide) (by decide) htx (by simp) (fun _ => by simpa using c)
  · exact hm
theorem ok_turn {n m : Nat} {s : Ses} (h : okS n m s) (r : Rep) : okS n (m + 1) (turnS s r) := by
  have hm := h.mono (Nat.le_refl n) (Nat.le_succ m)
  unfold turnS
  split
  · split
    · exact ok_tell (ok_st h (wi := s.wi) (by decide) (by decide) e48 (by simp) (by simp)) _
    · exact hm
  · exact hm
theorem ok_ans {n m : Nat} {s : Ses} (h : okS n m s) (t : ByteArray) : okS n (m + 1) (ansS s t) := by
  have hm := h.mono (Nat.le_refl n) (Nat.le_succ m)
  have htx := h.2.2.2.2.2.2.1
  unfold ansS
  split
  · refine ok_tell ?_ _
    cases hw : s.wi
    · exact ok_st h (wi := false) (tx := s.tx) (by decide) (by decide) htx (by simp) (by simp)
    · exact ok_st h (wi := true) (tx := s.tx) (by decide) (by decide) htx (by simp) (by simp)
  · exact hm
theorem ok_lost {n m : Nat} {s : Ses} (h : okS n m s) : okS n (m + 1) (lostS s) := by
  have hm := h.mono (Nat.le_refl n) (Nat.le_succ m)
  have htx := h.2.2.2.2.2.2.1
  unfold lostS
  split
  · rename_i c
    have := h.2.2.2.2.2.2.2.1 (.inl c)
    exact ok_st hm (wi := s.wi) (tx := s.tx) (by decide) (by decide) htx (fun _ => this) (by simp)
  · split
    · exact ok_tell (ok_st h (wi := s.wi) (by decide) (by decide) e48 (by simp) (by simp)) _
    · split
      · exact ok_st hm (wi := s.wi) (tx := s.tx) (by decide) (by decide) htx (by simp) (by simp)
      · exact hm
theorem ok_reps {n m : Nat} {s : Ses} (h : okS n m s) : okS n 0 (repsS s) := ⟨h.1, h.2.1, h.2.2.1, h.2.2.2.1, h.2.2.2.2.1, Nat.zero_le _, h.2.2.2.2.2.2⟩
end Mu
end Go.Proofs.Ytdakkjpejhlciaa
