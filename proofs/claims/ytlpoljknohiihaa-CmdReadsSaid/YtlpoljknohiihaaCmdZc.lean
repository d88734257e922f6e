/- The document's own reading of a command: what it comes to, on lists alone. No condition. -/
import Derived.Test.YtlpoljknohiihaaCmdZb
namespace Go.Proofs.Ytlpoljknohiihaa
open Go.ChangeShapes Go.WideShapes Go.ChangeAt Go.RowKit
set_option linter.unusedVariables false
namespace Cm

/-- two answers that are the same, but for how far was read where there is an error -/
def Agr {α : Type} (x y : α × Int × Nat) : Prop := x.2.1 = y.2.1 ∧ (x.2.1 = 0 → x = y)
theorem sm_nx {zs : List Int} (hw : ∀ n ∈ zs, (Lit.int .u8 n).wf = true) {u : Nat} {m : Int} (hm : m ≤ 18446744073709551615) : Agr (sm zs u 0 m) (nx zs u m) := by
  rcases hr : Oc.rdL (zs.drop u) with ⟨n, k, e⟩
  have hrn : rn zs u 0 = nx zs u 18446744073709551615 := rfl
  unfold sm
  rw [hrn]
  rcases Oc.rd_err hr with he | he
  · subst he
    have hn := (Oc.rd_back (fun x hx => hw x (List.mem_of_mem_drop hx)) hr).2.2.1
    rw [nx_ok (m := 18446744073709551615) hr (by omega)]
    simp only [beq_self_eq_true, if_true]
    by_cases hmn : m < (n : Int)
    · rw [if_pos hmn, nx_form hr hmn]
      exact ⟨rfl, fun h => by simp at h⟩
    · rw [if_neg hmn, nx_ok hr (by omega)]
      exact ⟨rfl, fun _ => rfl⟩
  · rw [nx_err (m := 18446744073709551615) hr he, nx_err (m := m) hr he]
    simp only [he, Bool.false_eq_true, if_false]
    exact ⟨rfl, fun _ => rfl⟩
theorem Agr.ok {α : Type} {x y : α × Int × Nat} (h : Agr x y) (he : (x.2.1 == 0) = true) : x = y := h.2 (by simpa using he)
theorem sm_fst {zs : List Int} {u : Nat} {m e : Int} (h : ((sm zs u e m).2.1 == 0) = false) : (sm zs u e m).1 = 0 := by
  unfold sm at *
  split
  · rename_i h1
    rw [if_pos h1] at h
    split
    · rfl
    · rename_i h2; rw [if_neg h2] at h; simp at h
  · rfl
theorem sn_st {zs : List Int} (hw : ∀ n ∈ zs, (Lit.int .u8 n).wf = true) (u : Nat) : ∀ k, Agr (sn zs u 0 k) (st zs u k)
  | 0 => ⟨rfl, fun _ => rfl⟩
  | k + 1 => by
    have ih := sn_st hw u k
    cases h : ((sn zs u 0 k).2.1 == 0) with
    | true =>
      have he := ih.ok h
      have hsm := sm_nx hw (u := (st zs u k).2.2) (m := 65535) (by omega)
      have h1 : sn zs u 0 (k + 1) = ((sn zs u 0 k).1 ++ [(sm zs (sn zs u 0 k).2.2 0 65535).1], (sm zs (sn zs u 0 k).2.2 0 65535).2.1, (sm zs (sn zs u 0 k).2.2 0 65535).2.2) := if_pos h
      have h2 : st zs u (k + 1) = ((st zs u k).1 ++ [(nx zs (st zs u k).2.2 65535).1], (nx zs (st zs u k).2.2 65535).2.1, (nx zs (st zs u k).2.2 65535).2.2) := if_pos (by rw [← he]; exact h)
      rw [h1, h2, he]
      refine ⟨hsm.1, fun h0 => ?_⟩
      rw [hsm.2 h0]
    | false =>
      have h1 := sn_stop h 1
      have h2 := st_stop (zs := zs) (u := u) (k := k) (by rw [← ih.1]; exact h) 1
      rw [h1, h2]
      exact ih
theorem ln_li {zs : List Int} (hw : ∀ n ∈ zs, (Lit.int .u8 n).wf = true) (u : Nat) : Agr (ln zs u 0) (li zs u) := by
  have h7 := sm_nx hw (u := u) (m := 7) (by omega)
  unfold ln li
  cases h : ((sm zs u 0 7).2.1 == 0) with
  | true =>
    have he := h7.ok h
    have h0 : (nx zs u 7).2.1 = 0 := by rw [← he]; simpa using h
    rw [he, if_pos (by rw [h0]; rfl), h0]
    exact sn_st hw _ _
  | false =>
    rw [if_neg (by rw [← h7.1, h]; decide), sm_fst h]
    exact ⟨h7.1, fun h0 => by rw [show (sm zs u 0 7).2.1 = 0 from h0] at h; cases h⟩
theorem ln_err {zs : List Int} {u : Nat} {e : Int} (h : (e == 0) = false) : ln zs u e = ([], e, u) := by
  have h1 : rn zs u e = (0, e, u) := by unfold rn; rw [h]; rfl
  have h2 : sm zs u e 7 = (0, e, u) := by unfold sm; rw [h1]; simp only [h, Bool.false_eq_true, if_false]
  unfold ln
  rw [h2]
  rfl
theorem sm_err {zs : List Int} {u : Nat} {e m : Int} (h : (e == 0) = false) : sm zs u e m = (0, e, u) := by
  have h1 : rn zs u e = (0, e, u) := by unfold rn; rw [h]; rfl
  unfold sm; rw [h1]; simp only [h, Bool.false_eq_true, if_false]
theorem rn_err {zs : List Int} {u : Nat} {e : Int} (h : (e == 0) = false) : rn zs u e = (0, e, u) := by unfold rn; rw [h]; rfl

/-- the field that a letter names -/
def letF (x : Int) : Int := if x = 110 then 0 else if x = 98 then 1 else if x = 113 then 2 else if x = 116 then 3 else if x = 115 then 4 else if x = 109 then 5 else 6
theorem letters (k : Int) (h : 1 ≤ k ∧ k ≤ 6) : fieldsL k = (sbs (fieldS k)).map letF := by
  rcases (show k = 1 ∨ k = 2 ∨ k = 3 ∨ k = 4 ∨ k = 5 ∨ k = 6 by omega) with rfl | rfl | rfl | rfl | rfl | rfl <;> decide
theorem letter_of (k : Int) (h : 1 ≤ k ∧ k ≤ 6) : ∀ x ∈ sbs (fieldS k), x = 108 ∨ x = 110 ∨ x = 116 ∨ x = 98 ∨ x = 113 ∨ x = 115 ∨ x = 109 := by
  rcases (show k = 1 ∨ k = 2 ∨ k = 3 ∨ k = 4 ∨ k = 5 ∨ k = 6 by omega) with rfl | rfl | rfl | rfl | rfl | rfl <;> decide
/-- one field read by the document's own reader -/
def r1 (zs : List Int) (f : Nat) (u : Nat) (e : Int) : Int × Int × Nat := if f = 0 ∨ f = 3 then sm zs u e 65535 else rn zs u e
theorem r1_nx {zs : List Int} (hw : ∀ n ∈ zs, (Lit.int .u8 n).wf = true) {f u : Nat} : Agr (r1 zs f u 0) (nx zs u (mostF f)) := by
  unfold r1 mostF
  split
  · exact sm_nx hw (by omega)
  · exact ⟨rfl, fun _ => rfl⟩
/-- what the document's reader comes to: the command, the error, how many bytes are read -/
def rdK (zs : List Int) : Cmd × Int × Nat :=
  if ((nx zs 0 18446744073709551615).2.1 == 0) = true then if kindB (nx zs 0 18446744073709551615).1 = true then rdC zs (nx zs 0 18446744073709551615).1 (nx zs 0 18446744073709551615).2.2 else (zeroC, 11, 0) else (zeroC, (nx zs 0 18446744073709551615).2.1, 0)
theorem decL_K {zs : List Int} : decL zs = if ((rdK zs).2.1 == 0) = true then if chkC (rdK zs).1 = true then ((rdK zs).1, (rdK zs).2.2, 0) else (zeroC, 0, 40) else (zeroC, 0, (rdK zs).2.1) := by
  unfold decL rdK
  cases h : ((nx zs 0 18446744073709551615).2.1 == 0) with
  | false => simp only [Bool.false_eq_true, if_false, h]
  | true =>
    simp only [if_true]
    cases hk : kindB (nx zs 0 18446744073709551615).1 with
    | false => simp only [Bool.false_eq_true, if_false]; rfl
    | true => simp only [if_true]
end Cm
end Go.Proofs.Ytlpoljknohiihaa
