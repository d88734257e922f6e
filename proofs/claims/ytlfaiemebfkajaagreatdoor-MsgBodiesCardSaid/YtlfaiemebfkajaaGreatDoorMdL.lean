/- Reading a message's body, on lists. No condition. -/
import Derived.Test.YtlfaiemebfkajaaGreatDoorMxA
namespace Go.Proofs.YtlfaiemebfkajaaGreatDoor
open Go.ChangeShapes Go.WideShapes Go.ChangeAt Go.RowKit Go.Deep
set_option linter.unusedVariables false
set_option maxRecDepth 100000
namespace Ms
open Nv Cm Sc
abbrev nilM0 : Mes := ⟨0, 0, 0, 0, 0, 0, 0, false, [], ⟨0, 0, [], ⟨0, 0, [], []⟩⟩⟩
abbrev MSt := Mes × Pst
def kindP (s : MSt) : MSt := if s.2.2 = 0 then (match s.2.1 with
  | [] => (s.1, ([], 10))
  | x :: r => if 1 ≤ x ∧ x ≤ 6 then ({ s.1 with kind := x }, (r, 0)) else ({ s.1 with kind := x }, (x :: r, 11))) else s
def srcP (s : MSt) : MSt := if s.2.2 = 0 then (match s.2.1 with
  | [] => (s.1, ([], 10))
  | x :: r => ({ s.1 with src := x }, (r, 0))) else s
def dstP (s : MSt) : MSt := if s.2.2 = 0 then (match s.2.1 with
  | [] => (s.1, ([], 10))
  | x :: r => ({ s.1 with dst := x }, (r, 0))) else s
def setN (m : Mes) (f : Nat) (n : Int) : Mes := match f with
  | 0 => { m with term := n }
  | 1 => { m with index := n }
  | 2 => { m with lterm := n }
  | _ => { m with commit := n }
def numP (f : Nat) (s : MSt) : MSt := if s.2.2 = 0 then (setN s.1 f ((Oc.rdL s.2.1).1 : Nat), (s.2.1.drop (Oc.rdL s.2.1).2.1, (Oc.rdL s.2.1).2.2)) else s
def flagP (s : MSt) : MSt := if s.2.2 = 0 then (match s.2.1 with
  | [] => ({ s.1 with flag := false }, ([], 10))
  | x :: r => if 1 < x then (s.1, (x :: r, 11)) else ({ s.1 with flag := x == 1 }, (r, 0))) else s
def entP (s : MSt) : MSt := if s.2.2 = 0 then (if (Rk.entD s.2.1).2.2 = 0 then { s.1 with ents := s.1.ents ++ [(Rk.entD s.2.1).1] } else s.1, (s.2.1.drop (Rk.entD s.2.1).2.1, (Rk.entD s.2.1).2.2)) else s
def entsP : Nat → MSt → MSt
  | 0, s => s
  | n + 1, s => entP (entsP n s)
def manyP (st : Pst) : Nat × Pst := if st.2 = 0 then (if 4 < (Oc.rdL st.1).1 then (0, (st.1, 11)) else ((Oc.rdL st.1).1, (st.1.drop (Oc.rdL st.1).2.1, (Oc.rdL st.1).2.2))) else (0, st)
noncomputable def shotP (s : MSt) : MSt := if s.2.2 = 0 then (if (decV s.2.1).2 ≠ 0 ∧ (decV s.2.1).2 ≠ 60 then (s.1, (s.2.1, (decV s.2.1).2)) else ({ s.1 with shot := (decV s.2.1).1 }, ([], 0))) else s
def endP (s : MSt) : MSt := if s.2.2 = 0 then (s.1, (s.2.1, if s.2.1 = [] then 0 else 11)) else s
noncomputable def fldP (f : Nat) (s : MSt) : MSt := if f = 4 then flagP s else if f = 5 then entsP (manyP s.2).1 (s.1, (manyP s.2).2) else if f = 6 then shotP s else numP f s
noncomputable def fldsP : List Int → MSt → MSt
  | [], s => s
  | f :: l, s => fldsP l (fldP f.toNat s)
theorem fldsP_snoc (l : List Int) (f : Int) (s : MSt) : fldsP (l ++ [f]) s = fldP f.toNat (fldsP l s) := by
  induction l generalizing s with
  | nil => rfl
  | cons g l ih => exact ih _
def headP (zs : List Int) : MSt := dstP (srcP (kindP (nilM0, (zs, 0))))
noncomputable def readP (zs : List Int) : MSt := endP (fldsP (fieldsM (headP zs).1.kind) (headP zs))
theorem manyP_le (st : Pst) : (manyP st).1 ≤ 4 := by
  unfold manyP
  split
  · split
    · exact Nat.zero_le _
    · show (Oc.rdL st.1).1 ≤ 4; omega
  · exact Nat.zero_le _
theorem entP_len (s : MSt) : (entP s).1.ents.length ≤ s.1.ents.length + 1 := by
  unfold entP
  split
  · simp only []
    split
    · simp
    · omega
  · omega
theorem entsP_len (n : Nat) (s : MSt) : (entsP n s).1.ents.length ≤ s.1.ents.length + n := by
  induction n with
  | zero => exact Nat.le_refl _
  | succ n ih => have := entP_len (entsP n s); rw [entsP]; omega
theorem fldP_len (f : Nat) (s : MSt) : (fldP f s).1.ents.length ≤ s.1.ents.length + 4 := by
  unfold fldP
  split
  · unfold flagP
    split
    · split
      · exact Nat.le_add_right _ _
      · split <;> exact Nat.le_add_right _ _
    · exact Nat.le_add_right _ _
  · split
    · have := entsP_len (manyP s.2).1 (s.1, (manyP s.2).2)
      have := manyP_le s.2
      simp only [] at *
      omega
    · split
      · unfold shotP
        split
        · split <;> exact Nat.le_add_right _ _
        · exact Nat.le_add_right _ _
      · unfold numP
        split
        · unfold setN
          split <;> exact Nat.le_add_right _ _
        · exact Nat.le_add_right _ _
theorem fldsP_len (l : List Int) (s : MSt) : (fldsP l s).1.ents.length ≤ s.1.ents.length + 4 * l.length := by
  induction l generalizing s with
  | nil => exact Nat.le_refl _
  | cons g l ih => have h1 := ih (fldP g.toNat s); have h2 := fldP_len g.toNat s; rw [fldsP, List.length_cons]; omega
theorem headP_ents (zs : List Int) : (headP zs).1.ents = [] := by
  unfold headP dstP srcP kindP
  simp only [if_true]
  match zs with
  | [] => rfl
  | x :: r =>
    simp only []
    by_cases h : 1 ≤ x ∧ x ≤ 6
    · simp only [if_pos h]
      match r with
      | [] => rfl
      | y :: r2 => match r2 with
        | [] => rfl
        | z :: r3 => rfl
    · simp only [if_neg h]
      rfl
theorem headP_kind (zs : List Int) : (headP zs).2.2 = 0 → 1 ≤ (headP zs).1.kind ∧ (headP zs).1.kind ≤ 6 := by
  unfold headP dstP srcP kindP
  simp only [if_true]
  match zs with
  | [] => intro g; exact absurd (show (10 : Int) = 0 from g) (by decide)
  | x :: r =>
    simp only []
    by_cases h : 1 ≤ x ∧ x ≤ 6
    · simp only [if_pos h]
      match r with
      | [] => intro g; exact absurd (show (10 : Int) = 0 from g) (by decide)
      | y :: r2 => match r2 with
        | [] => intro g; exact absurd (show (10 : Int) = 0 from g) (by decide)
        | z :: r3 => intro _; exact h
    · simp only [if_neg h]
      intro g; exact absurd (show (11 : Int) = 0 from g) (by decide)
open Classical in
/-- what Decode makes of a body -/
noncomputable def decM (zs : List Int) : Mes × Int := if (readP zs).2.2 ≠ 0 then (nilM0, (readP zs).2.2) else if msgOk (readP zs).1 then ((readP zs).1, 0) else (nilM0, 80)
end Ms
end Go.Proofs.YtlfaiemebfkajaaGreatDoor
