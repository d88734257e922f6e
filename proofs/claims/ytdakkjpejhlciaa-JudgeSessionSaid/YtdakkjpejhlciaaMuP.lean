/- What serving a session has told, held against the stream's frames: lists alone. No condition. -/
import Derived.Test.YtdakkjpejhlciaaMuN
import Derived.Test.YtdakkjpejhlciaaStQ
namespace Go.Proofs.Ytdakkjpejhlciaa
open Go.ChangeShapes Go.WideShapes Go.ChangeAt Go.RowKit Go.Deep
set_option linter.unusedVariables false
set_option maxRecDepth 100000
set_option linter.unusedSimpArgs false
namespace Mu
open St
def kind3 (f : Frm) : Prop := f.kind = 66 ∨ f.kind = 69 ∨ f.kind = 81
theorem step_kind3 {s : Rst} {x : Int} {f : Frm} (hf : (stepV s x).1 = some f) : kind3 f := by
  have hq : ∀ t : Rst, (queryV t).1 = some f → kind3 f := by
    intro t h
    unfold queryV at h
    split at h
    · cases h
    · simp only [Option.some.injEq] at h
      subst h
      exact .inr (.inr rfl)
  unfold stepV at hf
  split at hf
  · split at hf
    · rename_i c
      simp only [Option.some.injEq] at hf
      subst hf
      rcases c with c | c
      · exact .inl c
      · exact .inr (.inl c)
    · split at hf <;> cases hf
  · split at hf
    · split at hf
      · cases hf
      · exact hq _ hf
    · split at hf
      · exact hq _ hf
      · cases hf
theorem run_kind3 : ∀ (xs : List Int) (s : Rst), ∀ f ∈ (runV s xs).1, kind3 f := by
  intro xs
  induction xs with
  | nil => intro s f hf; cases hf
  | cons x xs ih =>
    intro s f hf
    rw [show x :: xs = [x] ++ xs from rfl, run_app] at hf
    have e1 : (runV s [x]).1 = (stepV s x).1.toList := List.nil_append _
    rw [e1] at hf
    rcases List.mem_append.1 hf with hf | hf
    · cases ho : (stepV s x).1 with
      | none => rw [ho] at hf; cases hf
      | some g =>
        rw [ho] at hf
        simp only [Option.toList_some, List.mem_singleton] at hf
        subst hf
        exact step_kind3 ho
    · exact ih _ f hf
/-- all that is to be answered -/
def allF (T : List Frm × Rst) : List Frm := T.1 ++ badL 0 T.2.st
theorem all_len (T : List Frm × Rst) : (allF T).length = T.1.length + (if T.2.st = 3 then 1 else 0) := by
  unfold allF badL
  rw [List.length_append]
  by_cases h : T.2.st = 3
  · rw [if_pos ⟨h, by decide⟩, if_pos h]; rfl
  · rw [if_neg (fun q => h q.1), if_neg h]; rfl
theorem okF_all {T : List Frm × Rst} (h : ∀ f ∈ T.1, kind3 f) : okF (allF T) := by
  intro j f hj
  unfold allF at hj
  rcases Nat.lt_or_ge j T.1.length with g | g
  · rw [List.getElem?_append_left g] at hj
    have := h f (List.mem_of_getElem? hj)
    unfold kind3 at this
    exact ⟨by omega, fun e => by omega⟩
  · rw [List.getElem?_append_right g] at hj
    unfold badL at hj
    split at hj
    · rename_i c
      have hl : j - T.1.length < 1 := (List.getElem?_eq_some_iff.1 hj).1
      have e : j - T.1.length = 0 := by omega
      rw [e] at hj
      simp only [List.getElem?_cons_zero, Option.some.injEq] at hj
      subst hj
      exact ⟨.inr (.inr (.inr rfl)), fun _ => by rw [all_len, if_pos c.1]; omega⟩
    · simp at hj
theorem inv_start (bs : List Int) : Inv (allF (runV zero bs)) (feedS fresh bs) ∧ headS (feedS fresh bs) ∧ todo (feedS fresh bs) = 3 * (allF (runV zero bs)).length := by
  have e : feedS fresh bs = { fresh with rd := (runV zero bs).2, q := allF (runV zero bs) } := rfl
  rw [e]
  exact ⟨⟨rfl, (fun i f r _ hr => by simp [fresh] at hr), Nat.zero_le _, (fun q => by cases q), (fun q => by cases q), fun _ i f hi _ => by cases hi⟩, .inr (.inl (.inl rfl)), rfl⟩
/-- how a frame is answered -/
def fit3 (k r : Int) : Prop := (k = 66 ∧ (r = 1 ∨ r = 4 ∨ r = 6 ∨ r = 7)) ∨ (k = 81 ∧ (r = 2 ∨ r = 4 ∨ r = 6)) ∨ (k = 69 ∧ (r = 3 ∨ r = 6 ∨ r = 7))
theorem served {T : List Frm × Rst} (hk : ∀ f ∈ T.1, kind3 f) {s : Ses} (h : Inv (allF T) s) (hq : s.q = []) (hs : s.st = 0 ∨ takesS s) :
    s.out.length = T.1.length + (if T.2.st = 3 then 1 else 0) ∧ (T.2.st = 3 → s.st = 0 ∧ ∃ r, s.out[T.1.length]? = some r ∧ r.kind = 8) ∧ ∀ (i : Nat) f r, T.1[i]? = some f → s.out[i]? = some r → fit3 f.kind r.kind := by
  have hp : pendN s = 0 := by unfold pendN; unfold takesS at hs; rw [if_neg (by omega)]
  have hl : s.out.length = (allF T).length := by
    have h1 := h.q
    rw [hq, hp, Nat.add_zero] at h1
    have h2 := congrArg List.length h1
    rw [List.length_drop] at h2
    have h3 := h.len
    rw [hp] at h3
    simp only [List.length_nil] at h2
    omega
  rw [all_len] at hl
  refine ⟨hl, fun h3 => ?_, fun i f r hf hr => ?_⟩
  · rw [if_pos h3] at hl
    have hb : (allF T)[T.1.length]? = some badF := by
      unfold allF badL
      rw [if_pos ⟨h3, by decide⟩, List.getElem?_append_right (Nat.le_refl _), Nat.sub_self]
      rfl
    have hlt : T.1.length < s.out.length := by omega
    refine ⟨?_, _, List.getElem?_eq_getElem hlt, (h.fit _ _ _ hb (List.getElem?_eq_getElem hlt)).2.2.2 rfl⟩
    apply Decidable.byContradiction
    intro h0
    exact h.clean h0 _ _ (by rw [hp]; omega) hb rfl
  · have hF : (allF T)[i]? = some f := by
      unfold allF
      rw [List.getElem?_append_left (List.getElem?_eq_some_iff.1 hf).1]
      exact hf
    obtain ⟨g1, g2, g3, -⟩ := h.fit i f r hF hr
    rcases hk f (List.mem_of_getElem? hf) with c | c | c
    · exact .inl ⟨c, g1 c⟩
    · exact .inr (.inr ⟨c, g3 c⟩)
    · exact .inr (.inl ⟨c, g2 c⟩)
theorem frames_few {l : List Frm} (hl : ∀ f ∈ l, fitF f) (t : ByteArray) : (allF (runV zero (l.flatMap byteF ++ sb t))).length ≤ l.length + t.size + 1 := by
  rw [all_len, run_app, run_bytes l hl]
  have := run_len (s := zero) (sb t)
  rw [sb_length] at this
  simp only [List.length_append]
  split <;> omega
theorem mu_start {B g : Nat} {a w : World} {S : Nat → Prop} {s : Ses} {p : Nat} (h : SesX p s w S) (hS : ∀ k, S k → B ≤ k) (hb : Below B a w) (hz : B ≤ w.heap.size) : MuO p s (fun _ => False) B a w := ⟨S, h, hS, fun k hk => hk.elim, hb, hz⟩
end Mu
end Go.Proofs.Ytdakkjpejhlciaa
