/- Reading a snapshot's bytes, on lists. No condition. -/
import Derived.Test.YtpdhndldfmhaeaaEcB
namespace Go.Proofs.Ytpdhndldfmhaeaa
open Go.ChangeShapes Go.WideShapes Go.ChangeAt Go.RowKit
set_option linter.unusedVariables false
set_option maxRecDepth 100000
namespace Sc
open Cm Nm Sh
/-- a reader: what is left, the first error -/
abbrev Pst := List Int × Int
def pnum (m : Int) (st : Pst) : Int × Pst :=
  if (st.2 == 0) = false then (0, st)
  else if ((Oc.rdL st.1).2.2 == 0) = false then (0, (st.1, (Oc.rdL st.1).2.2))
  else if m < ((Oc.rdL st.1).1 : Int) then (0, (st.1, 11))
  else ((Oc.rdL st.1).1, (st.1.drop (Oc.rdL st.1).2.1, 0))
theorem pnum_stuck {m : Int} {st : Pst} (h : (st.2 == 0) = false) : pnum m st = (0, st) := by unfold pnum; rw [if_pos h]
theorem pnum_err {m e : Int} {zs : List Int} {n k : Nat} (h : Oc.rdL zs = (n, k, e)) (he : (e == 0) = false) : pnum m (zs, 0) = (0, (zs, e)) := by
  unfold pnum; rw [if_neg (by simp)]; simp only [h]; rw [if_pos he]
theorem pnum_form {m : Int} {zs : List Int} {n k : Nat} (h : Oc.rdL zs = (n, k, 0)) (hm : m < (n : Int)) : pnum m (zs, 0) = (0, (zs, 11)) := by
  unfold pnum; rw [if_neg (by simp)]; simp only [h]; rw [if_neg (by simp), if_pos hm]
theorem pnum_ok {m : Int} {zs : List Int} {n k : Nat} (h : Oc.rdL zs = (n, k, 0)) (hm : (n : Int) ≤ m) : pnum m (zs, 0) = ((n : Int), (zs.drop k, 0)) := by
  unfold pnum; rw [if_neg (by simp)]; simp only [h]; rw [if_neg (by simp), if_neg (by omega)]
theorem pnum_bd (m : Int) (hm : 0 ≤ m) (st : Pst) : 0 ≤ (pnum m st).1 ∧ (pnum m st).1 ≤ m := by
  unfold pnum
  split
  · exact ⟨Int.le_refl _, hm⟩
  · split
    · exact ⟨Int.le_refl _, hm⟩
    · split
      · exact ⟨Int.le_refl _, hm⟩
      · rename_i h
        refine ⟨by simp, ?_⟩
        simp only []
        omega
theorem pnum_zero {m : Int} {st : Pst} (h : ((pnum m st).2.2 == 0) = false) : (pnum m st).1 = 0 := by
  unfold pnum at *
  split
  · rfl
  · split
    · rfl
    · split
      · rfl
      · rename_i h1 h2 h3
        rw [if_neg h1, if_neg h2, if_neg h3] at h
        simp at h
abbrev wideS := pnum 18446744073709551615
abbrev smallS := pnum 65535
abbrev manyS := pnum 64
def beginS (st : Pst) : Pst := match st.1 with
  | [] => (st.1, 10)
  | x :: rest => if x = 83 then (rest, st.2) else (st.1, 11)
def heldS (st : Pst) : Held × Pst :=
  (⟨(smallS st).1, (smallS (smallS st).2).1, (wideS (smallS (smallS st).2).2).1, (wideS (wideS (smallS (smallS st).2).2).2).1, (wideS (wideS (wideS (smallS (smallS st).2).2).2).2).1⟩, (wideS (wideS (wideS (smallS (smallS st).2).2).2).2).2)
def lastS (st : Pst) : LastR × Pst :=
  (⟨(smallS st).1, (wideS (smallS st).2).1, (wideS (wideS (smallS st).2).2).1, (smallS (wideS (wideS (smallS st).2).2).2).1, (smallS (smallS (wideS (wideS (smallS st).2).2).2).2).1, (wideS (smallS (smallS (wideS (wideS (smallS st).2).2).2).2).2).1⟩, (wideS (smallS (smallS (wideS (wideS (smallS st).2).2).2).2).2).2)
/-- so many, one behind the other -/
def listS {α : Type} (f : Pst → α × Pst) : Nat → Pst → List α × Pst
  | 0, st => ([], st)
  | k + 1, st => ((listS f k st).1 ++ [(f (listS f k st).2).1], (f (listS f k st).2).2)
/-- so many, or until the first error -/
def listR {α : Type} (f : Pst → α × Pst) : Nat → Pst → List α × Pst
  | 0, st => ([], st)
  | k + 1, st => if ((listR f k st).2.2 == 0) = true then ((listR f k st).1 ++ [(f (listR f k st).2).1], (f (listR f k st).2).2) else listR f k st
theorem listS_len {α : Type} (f : Pst → α × Pst) : ∀ (k : Nat) (st : Pst), (listS f k st).1.length = k
  | 0, _ => rfl
  | k + 1, st => by rw [listS]; simp [listS_len f k st]
theorem listR_len {α : Type} (f : Pst → α × Pst) : ∀ (k : Nat) (st : Pst), (listR f k st).1.length ≤ k
  | 0, _ => Nat.le_refl _
  | k + 1, st => by
    have := listR_len f k st
    rw [listR]
    split
    · simp; exact this
    · omega
/-- a part that reads nothing behind an error -/
def Stuck {α : Type} (f : Pst → α × Pst) : Prop := ∀ st : Pst, (st.2 == 0) = false → (f st).2 = st
theorem listS_stuck {α : Type} {f : Pst → α × Pst} (hf : Stuck f) : ∀ (k : Nat) (st : Pst), (st.2 == 0) = false → (listS f k st).2 = st
  | 0, _, _ => rfl
  | k + 1, st, h => by
    rw [listS]
    simp only []
    rw [listS_stuck hf k st h]
    exact hf st h
theorem listR_eq {α : Type} {f : Pst → α × Pst} (hf : Stuck f) : ∀ (k : Nat) (st : Pst), (listR f k st).2 = (listS f k st).2 ∧ (((listS f k st).2.2 == 0) = true → (listR f k st).1 = (listS f k st).1)
  | 0, _ => ⟨rfl, fun _ => rfl⟩
  | k + 1, st => by
    obtain ⟨h1, h2⟩ := listR_eq hf k st
    rw [listR, listS]
    simp only []
    by_cases he : ((listR f k st).2.2 == 0) = true
    · rw [if_pos he]
      rw [h1] at he ⊢
      exact ⟨rfl, fun _ => by simp only []; rw [h2 he]⟩
    · rw [if_neg he]
      have he2 : ((listS f k st).2.2 == 0) = false := by rw [← h1]; simpa using he
      have hs := hf _ he2
      refine ⟨by rw [h1, hs], fun q => ?_⟩
      rw [hs, he2] at q
      cases q
theorem pnum_st (m : Int) : Stuck (pnum m) := fun st h => by rw [pnum_stuck h]
theorem heldS_st : Stuck heldS := fun st h => by
  unfold heldS
  simp only [pnum_stuck h]
theorem lastS_st : Stuck lastS := fun st h => by
  unfold lastS
  simp only [pnum_stuck h]
def sh1 (st : Pst) : Int × Pst := wideS (beginS st)
def sh2 (st : Pst) : Int × Pst := wideS (sh1 st).2
def sh3 (st : Pst) : Int × Pst := manyS (sh2 st).2
def sh4 (st : Pst) : List Int × Pst := listS smallS (sh3 st).1.toNat (sh3 st).2
def sh5 (st : Pst) : Int × Pst := smallS (sh4 st).2
def sh6 (st : Pst) : Int × Pst := wideS (sh5 st).2
def sh7 (st : Pst) : Int × Pst := manyS (sh6 st).2
def sh8 (st : Pst) : List Held × Pst := listS heldS (sh7 st).1.toNat (sh7 st).2
def sh9 (st : Pst) : Int × Pst := manyS (sh8 st).2
def sh10 (st : Pst) : List LastR × Pst := listS lastS (sh9 st).1.toNat (sh9 st).2
/-- a snapshot read, that may not be one -/
def shotS (st : Pst) : Sho × Pst := (⟨(sh1 st).1, (sh2 st).1, (sh4 st).1, ⟨(sh5 st).1, (sh6 st).1, (sh8 st).1, (sh10 st).1⟩⟩, (sh10 st).2)
def rh4 (st : Pst) : List Int × Pst := listR smallS (sh3 st).1.toNat (sh3 st).2
def rh8 (st : Pst) : List Held × Pst := listR heldS (sh7 st).1.toNat (sh7 st).2
def rh10 (st : Pst) : List LastR × Pst := listR lastS (sh9 st).1.toNat (sh9 st).2
/-- the same as the document reads it -/
def shotR (st : Pst) : Sho × Pst := (⟨(sh1 st).1, (sh2 st).1, (rh4 st).1, ⟨(sh5 st).1, (sh6 st).1, (rh8 st).1, (rh10 st).1⟩⟩, (rh10 st).2)
theorem ok_back {α : Type} {f : Pst → α × Pst} (hf : Stuck f) {st : Pst} (h : ((f st).2.2 == 0) = true) : (st.2 == 0) = true := by
  cases he : (st.2 == 0)
  · rw [hf st he, he] at h; cases h
  · rfl
theorem list_back {α : Type} {f : Pst → α × Pst} (hf : Stuck f) {k : Nat} {st : Pst} (h : ((listS f k st).2.2 == 0) = true) : (st.2 == 0) = true := by
  cases he : (st.2 == 0)
  · rw [listS_stuck hf k st he, he] at h; cases h
  · rfl
theorem shotR_eq (st : Pst) : (shotR st).2 = (shotS st).2 ∧ (((shotS st).2.2 == 0) = true → (shotR st).1 = (shotS st).1) := by
  refine ⟨(listR_eq lastS_st _ _).1, fun h => ?_⟩
  have h10 : ((sh10 st).2.2 == 0) = true := h
  have h9 : ((sh9 st).2.2 == 0) = true := list_back lastS_st h10
  have h8 : ((sh8 st).2.2 == 0) = true := ok_back (pnum_st _) h9
  have h7 : ((sh7 st).2.2 == 0) = true := list_back heldS_st h8
  have h6 : ((sh6 st).2.2 == 0) = true := ok_back (pnum_st _) h7
  have h5 : ((sh5 st).2.2 == 0) = true := ok_back (pnum_st _) h6
  have h4 : ((sh4 st).2.2 == 0) = true := ok_back (pnum_st _) h5
  have e4 : (rh4 st).1 = (sh4 st).1 := (listR_eq (pnum_st _) _ _).2 h4
  have e8 : (rh8 st).1 = (sh8 st).1 := (listR_eq heldS_st _ _).2 h8
  have e10 : (rh10 st).1 = (sh10 st).1 := (listR_eq lastS_st _ _).2 h10
  unfold shotR shotS
  rw [e4, e8, e10]
/-- the error that Decode tells, before what was read is looked at -/
def errS (b : List Int) : Int := if ((shotS (b, 0)).2.2 == 0) = true ∧ 0 < (shotS (b, 0)).2.1.length then 11 else (shotS (b, 0)).2.2
open Classical in
/-- what Decode answers -/
noncomputable def decV (b : List Int) : Sho × Int :=
  if 8192 < b.length then (⟨0, 0, [], ⟨0, 0, [], []⟩⟩, 2)
  else if errS b ≠ 0 then (⟨0, 0, [], ⟨0, 0, [], []⟩⟩, errS b)
  else if shotOk (shotS (b, 0)).1 then ((shotS (b, 0)).1, 0) else (⟨0, 0, [], ⟨0, 0, [], []⟩⟩, 60)
def zS : Sho := ⟨0, 0, [], ⟨0, 0, [], []⟩⟩
theorem dec_long {b : List Int} (h : 8192 < b.length) : decV b = (zS, 2) := by unfold decV; rw [if_pos h]; rfl
theorem dec_err {b : List Int} (h : ¬ 8192 < b.length) (he : errS b ≠ 0) : decV b = (zS, errS b) := by unfold decV; rw [if_neg h, if_pos he]; rfl
theorem dec_ok {b : List Int} (h : ¬ 8192 < b.length) (he : errS b = 0) (ok : shotOk (shotS (b, 0)).1) : decV b = ((shotS (b, 0)).1, 0) := by unfold decV; rw [if_neg h, if_neg (by simpa using he), if_pos ok]
theorem dec_no {b : List Int} (h : ¬ 8192 < b.length) (he : errS b = 0) (ok : ¬ shotOk (shotS (b, 0)).1) : decV b = (zS, 60) := by unfold decV; rw [if_neg h, if_neg (by simpa using he), if_neg ok]; rfl
theorem err_zero {b : List Int} : errS b = 0 ↔ (shotS (b, 0)).2 = ([], 0) := by
  unfold errS
  constructor
  · intro h
    split at h
    · simp at h
    · rename_i hn
      have h1 : ((shotS (b, 0)).2.2 == 0) = true := by simpa using h
      have h2 : (shotS (b, 0)).2.1 = [] := by
        rcases Nat.eq_zero_or_pos (shotS (b, 0)).2.1.length with g | g
        · exact List.eq_nil_of_length_eq_zero g
        · exact absurd ⟨h1, g⟩ hn
      exact Prod.ext h2 h
  · intro h
    rw [h]
    rfl
end Sc
end Go.Proofs.Ytpdhndldfmhaeaa
