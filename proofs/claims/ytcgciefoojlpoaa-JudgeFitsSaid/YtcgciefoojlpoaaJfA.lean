/- Which replies fit which frames: lists alone. No condition. -/
import Derived.Test.YtcgciefoojlpoaaRep
namespace Go.Proofs.Ytcgciefoojlpoaa
open Go.ChangeShapes Go.WideShapes Go.ChangeAt Go.RowKit
set_option linter.unusedVariables false
set_option maxRecDepth 100000
namespace Jf
def emp : ByteArray := ⟨#[]⟩
def frmOk (f : Frm) : Prop := ((f.kind = 66 ∨ f.kind = 69) ∧ f.text = emp) ∨ (f.kind = 81 ∧ f.text.size ≤ 48)
def repFits (r : Rep) : Prop := (r.kind ≠ 2 → r.text = emp) ∧ ((r.kind = 5 ∧ 1 ≤ r.node ∧ r.node ≤ 7) ∨ (r.kind ≠ 5 ∧ r.node = 0))
def okO (k r : Int) : Prop := (k = 66 ∧ (r = 1 ∨ r = 4 ∨ r = 5)) ∨ (k = 81 ∧ (r = 2 ∨ r = 4 ∨ r = 5 ∨ r = 6)) ∨ (k = 69 ∧ r = 7)
def okI (k r : Int) : Prop := (k = 66 ∧ (r = 7 ∨ r = 6)) ∨ (k = 81 ∧ (r = 2 ∨ r = 6)) ∨ (k = 69 ∧ (r = 3 ∨ r = 6))
def okW (wi : Bool) (k r : Int) : Prop := if wi = true then okI k r else okO k r
def nxW (wi : Bool) (r : Int) : Bool := if wi = true then decide (r ≠ 6 ∧ r ≠ 3) else decide (r = 1)
open Classical in
noncomputable def stepE (wi : Bool) (f : Frm) (r : Rep) (rest : List ByteArray) : Int :=
  if ¬ frmOk f then 90 else if ¬ (okW wi f.kind r.kind ∧ repFits r) then 1 else if r.kind = 2 ∧ rest.head? ≠ some r.text then 220 else 0
def stepR (r : Rep) (rest : List ByteArray) : List ByteArray := if r.kind = 2 then rest.tail else rest
theorem stepE_frm {wi : Bool} {f : Frm} {r : Rep} {rest : List ByteArray} (h : ¬ frmOk f) : stepE wi f r rest = 90 := by unfold stepE; rw [if_pos h]
theorem stepE_arg {wi : Bool} {f : Frm} {r : Rep} {rest : List ByteArray} (h : frmOk f) (h2 : ¬ (okW wi f.kind r.kind ∧ repFits r)) : stepE wi f r rest = 1 := by unfold stepE; rw [if_neg (fun q => q h), if_pos h2]
theorem stepE_trace {wi : Bool} {f : Frm} {r : Rep} {rest : List ByteArray} (h : frmOk f) (h2 : okW wi f.kind r.kind ∧ repFits r) (h3 : r.kind = 2 ∧ rest.head? ≠ some r.text) : stepE wi f r rest = 220 := by unfold stepE; rw [if_neg (fun q => q h), if_neg (fun q => q h2), if_pos h3]
theorem stepE_ok {wi : Bool} {f : Frm} {r : Rep} {rest : List ByteArray} (h : frmOk f) (h2 : okW wi f.kind r.kind ∧ repFits r) (h3 : ¬ (r.kind = 2 ∧ rest.head? ≠ some r.text)) : stepE wi f r rest = 0 := by unfold stepE; rw [if_neg (fun q => q h), if_neg (fun q => q h2), if_neg h3]
noncomputable def fitV : List Frm → List Rep → Int → Bool → List ByteArray → Int × Int
  | _, [], _, _, _ => (-1, 0)
  | [], _ :: _, i, _, _ => (i, 6)
  | f :: sent, r :: told, i, wi, rest => if stepE wi f r rest = 0 then fitV sent told (i + 1) (nxW wi r.kind) (stepR r rest) else (i, stepE wi f r rest)
theorem fit_end {sent : List Frm} {i : Int} {wi : Bool} {rest : List ByteArray} : fitV sent [] i wi rest = (-1, 0) := by cases sent <;> rfl
theorem fit_many {r : Rep} {told : List Rep} {i : Int} {wi : Bool} {rest : List ByteArray} : fitV [] (r :: told) i wi rest = (i, 6) := rfl
theorem fit_bad {f : Frm} {sent : List Frm} {r : Rep} {told : List Rep} {i : Int} {wi : Bool} {rest : List ByteArray} (h : stepE wi f r rest ≠ 0) : fitV (f :: sent) (r :: told) i wi rest = (i, stepE wi f r rest) := by rw [fitV, if_neg h]
theorem fit_go {f : Frm} {sent : List Frm} {r : Rep} {told : List Rep} {i : Int} {wi : Bool} {rest : List ByteArray} (h : stepE wi f r rest = 0) : fitV (f :: sent) (r :: told) i wi rest = fitV sent told (i + 1) (nxW wi r.kind) (stepR r rest) := by rw [fitV, if_pos h]
theorem drop_cons {α : Type} {l : List α} {k : Nat} (h : k < l.length) : l.drop k = l[k] :: l.drop (k + 1) := List.drop_eq_getElem_cons h
/-- the same by places -/
noncomputable abbrev fitK (sent : List Frm) (told : List Rep) (k : Nat) (wi : Bool) (rest : List ByteArray) : Int × Int := fitV (sent.drop k) (told.drop k) (k : Int) wi rest
theorem fitK_end {sent : List Frm} {told : List Rep} {wi : Bool} {rest : List ByteArray} : fitK sent told told.length wi rest = (-1, 0) := by unfold fitK; rw [List.drop_length]; exact fit_end
theorem fitK_many {sent : List Frm} {told : List Rep} {k : Nat} {wi : Bool} {rest : List ByteArray} (h : k < told.length) (h2 : sent.length ≤ k) : fitK sent told k wi rest = ((k : Int), 6) := by
  unfold fitK; rw [List.drop_eq_nil_of_le h2, drop_cons h]; rfl
theorem fitK_bad {sent : List Frm} {told : List Rep} {k : Nat} {wi : Bool} {rest : List ByteArray} (h : k < told.length) (h2 : k < sent.length) (h3 : stepE wi sent[k] told[k] rest ≠ 0) : fitK sent told k wi rest = ((k : Int), stepE wi sent[k] told[k] rest) := by
  unfold fitK; rw [drop_cons h, drop_cons h2]; exact fit_bad h3
theorem fitK_go {sent : List Frm} {told : List Rep} {k : Nat} {wi : Bool} {rest : List ByteArray} (h : k < told.length) (h2 : k < sent.length) (h3 : stepE wi sent[k] told[k] rest = 0) : fitK sent told k wi rest = fitK sent told (k + 1) (nxW wi told[k].kind) (stepR told[k] rest) := by
  unfold fitK; rw [drop_cons h, drop_cons h2]; exact fit_go h3
end Jf
end Go.Proofs.Ytcgciefoojlpoaa
