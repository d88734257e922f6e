/- Reading a snapshot's bytes, on lists. No condition. The reader of shot: number, wide, small, many, begin. No condition. The reader of shot: rows of Held and of Last. No condition. The reader of shot: a snapshot, that may not be one. No condition. shot.Decode. No condition. -/
import Derived.Test.YtlfaiemebfkajaaGreatDoorEcZ
import Derived.Test.YtlfaiemebfkajaaGreatDoorNum
import Derived.Deep.MidRow
import Derived.Deep.RegionHeldLaw
import Derived.Deep.AppendLies
import Derived.Deep.RegionHeld3
import Derived.Deep.CutRange
import Derived.Deep.CutBlock
import Derived.Deep.DeepCutAuto
namespace Go.Proofs.YtlfaiemebfkajaaGreatDoor
open Go.ChangeShapes Go.WideShapes Go.ChangeAt Go.RowKit
set_option linter.unusedVariables false
set_option maxRecDepth 100000
namespace Sc
open Cm Nm Sh
/-- a reader: what is left, the first error -/
abbrev Pst := List Int × Int
def pnum (m : Int) (st : Pst) : Int × Pst :=
  if (st.2 == 0) = false then (0, st)
  else if ((Oc.rdL st.1).2.2 == 0) = false then (0, (st.1, (Oc.rdL st.1).2.2))
  else if m < ((Oc.rdL st.1).1 : Int) then (0, (st.1, 11))
  else ((Oc.rdL st.1).1, (st.1.drop (Oc.rdL st.1).2.1, 0))
theorem pnum_stuck {m : Int} {st : Pst} (h : (st.2 == 0) = false) : pnum m st = (0, st) := by unfold pnum; rw [if_pos h]
theorem pnum_err {m e : Int} {zs : List Int} {n k : Nat} (h : Oc.rdL zs = (n, k, e)) (he : (e == 0) = false) : pnum m (zs, 0) = (0, (zs, e)) := by
  unfold pnum; rw [if_neg (by simp)]; simp only [h]; rw [if_pos he]
theorem pnum_form {m : Int} {zs : List Int} {n k : Nat} (h : Oc.rdL zs = (n, k, 0)) (hm : m < (n : Int)) : pnum m (zs, 0) = (0, (zs, 11)) := by
  unfold pnum; rw [if_neg (by simp)]; simp only [h]; rw [if_neg (by simp), if_pos hm]
theorem pnum_ok {m : Int} {zs : List Int} {n k : Nat} (h : Oc.rdL zs = (n, k, 0)) (hm : (n : Int) ≤ m) : pnum m (zs, 0) = ((n : Int), (zs.drop k, 0)) := by
  unfold pnum; rw [if_neg (by simp)]; simp only [h]; rw [if_neg (by simp), if_neg (by omega)]
theorem pnum_bd (m : Int) (hm : 0 ≤ m) (st : Pst) : 0 ≤ (pnum m st).1 ∧ (pnum m st).1 ≤ m := by
  unfold pnum
  split
  · exact ⟨Int.le_refl _, hm⟩
  · split
    · exact ⟨Int.le_refl _, hm⟩
    · split
      · exact ⟨Int.le_refl _, hm⟩
      · rename_i h
        refine ⟨by simp, ?_⟩
        simp only []
        omega
theorem pnum_zero {m : Int} {st : Pst} (h : ((pnum m st).2.2 == 0) = false) : (pnum m st).1 = 0 := by
  unfold pnum at *
  split
  · rfl
  · split
    · rfl
    · split
      · rfl
      · rename_i h1 h2 h3
        rw [if_neg h1, if_neg h2, if_neg h3] at h
        simp at h
abbrev wideS := pnum 18446744073709551615
abbrev smallS := pnum 65535
abbrev manyS := pnum 64
def beginS (st : Pst) : Pst := match st.1 with
  | [] => (st.1, 10)
  | x :: rest => if x = 83 then (rest, st.2) else (st.1, 11)
def heldS (st : Pst) : Held × Pst :=
  (⟨(smallS st).1, (smallS (smallS st).2).1, (wideS (smallS (smallS st).2).2).1, (wideS (wideS (smallS (smallS st).2).2).2).1, (wideS (wideS (wideS (smallS (smallS st).2).2).2).2).1⟩, (wideS (wideS (wideS (smallS (smallS st).2).2).2).2).2)
def lastS (st : Pst) : LastR × Pst :=
  (⟨(smallS st).1, (wideS (smallS st).2).1, (wideS (wideS (smallS st).2).2).1, (smallS (wideS (wideS (smallS st).2).2).2).1, (smallS (smallS (wideS (wideS (smallS st).2).2).2).2).1, (wideS (smallS (smallS (wideS (wideS (smallS st).2).2).2).2).2).1⟩, (wideS (smallS (smallS (wideS (wideS (smallS st).2).2).2).2).2).2)
/-- so many, one behind the other -/
def listS {α : Type} (f : Pst → α × Pst) : Nat → Pst → List α × Pst
  | 0, st => ([], st)
  | k + 1, st => ((listS f k st).1 ++ [(f (listS f k st).2).1], (f (listS f k st).2).2)
/-- so many, or until the first error -/
def listR {α : Type} (f : Pst → α × Pst) : Nat → Pst → List α × Pst
  | 0, st => ([], st)
  | k + 1, st => if ((listR f k st).2.2 == 0) = true then ((listR f k st).1 ++ [(f (listR f k st).2).1], (f (listR f k st).2).2) else listR f k st
theorem listS_len {α : Type} (f : Pst → α × Pst) : ∀ (k : Nat) (st : Pst), (listS f k st).1.length = k
  | 0, _ => rfl
  | k + 1, st => by rw [listS]; simp [listS_len f k st]
theorem listR_len {α : Type} (f : Pst → α × Pst) : ∀ (k : Nat) (st : Pst), (listR f k st).1.length ≤ k
  | 0, _ => Nat.le_refl _
  | k + 1, st => by
    have := listR_len f k st
    rw [listR]
    split
    · simp; exact this
    · omega
/-- a part that reads nothing behind an error -/
def Stuck {α : Type} (f : Pst → α × Pst) : Prop := ∀ st : Pst, (st.2 == 0) = false → (f st).2 = st
theorem listS_stuck {α : Type} {f : Pst → α × Pst} (hf : Stuck f) : ∀ (k : Nat) (st : Pst), (st.2 == 0) = false → (listS f k st).2 = st
  | 0, _, _ => rfl
  | k + 1, st, h => by
    rw [listS]
    simp only []
    rw [listS_stuck hf k st h]
    exact hf st h
theorem listR_eq {α : Type} {f : Pst → α × Pst} (hf : Stuck f) : ∀ (k : Nat) (st : Pst), (listR f k st).2 = (listS f k st).2 ∧ (((listS f k st).2.2 == 0) = true → (listR f k st).1 = (listS f k st).1)
  | 0, _ => ⟨rfl, fun _ => rfl⟩
  | k + 1, st => by
    obtain ⟨h1, h2⟩ := listR_eq hf k st
    rw [listR, listS]
    simp only []
    by_cases he : ((listR f k st).2.2 == 0) = true
    · rw [if_pos he]
      rw [h1] at he ⊢
      exact ⟨rfl, fun _ => by simp only []; rw [h2 he]⟩
    · rw [if_neg he]
      have he2 : ((listS f k st).2.2 == 0) = false := by rw [← h1]; simpa using he
      have hs := hf _ he2
      refine ⟨by rw [h1, hs], fun q => ?_⟩
      rw [hs, he2] at q
      cases q
theorem pnum_st (m : Int) : Stuck (pnum m) := fun st h => by rw [pnum_stuck h]
theorem heldS_st : Stuck heldS := fun st h => by
  unfold heldS
  simp only [pnum_stuck h]
theorem lastS_st : Stuck lastS := fun st h => by
  unfold lastS
  simp only [pnum_stuck h]
def sh1 (st : Pst) : Int × Pst := wideS (beginS st)
def sh2 (st : Pst) : Int × Pst := wideS (sh1 st).2
def sh3 (st : Pst) : Int × Pst := manyS (sh2 st).2
def sh4 (st : Pst) : List Int × Pst := listS smallS (sh3 st).1.toNat (sh3 st).2
def sh5 (st : Pst) : Int × Pst := smallS (sh4 st).2
def sh6 (st : Pst) : Int × Pst := wideS (sh5 st).2
def sh7 (st : Pst) : Int × Pst := manyS (sh6 st).2
def sh8 (st : Pst) : List Held × Pst := listS heldS (sh7 st).1.toNat (sh7 st).2
def sh9 (st : Pst) : Int × Pst := manyS (sh8 st).2
def sh10 (st : Pst) : List LastR × Pst := listS lastS (sh9 st).1.toNat (sh9 st).2
/-- a snapshot read, that may not be one -/
def shotS (st : Pst) : Sho × Pst := (⟨(sh1 st).1, (sh2 st).1, (sh4 st).1, ⟨(sh5 st).1, (sh6 st).1, (sh8 st).1, (sh10 st).1⟩⟩, (sh10 st).2)
def rh4 (st : Pst) : List Int × Pst := listR smallS (sh3 st).1.toNat (sh3 st).2
def rh8 (st : Pst) : List Held × Pst := listR heldS (sh7 st).1.toNat (sh7 st).2
def rh10 (st : Pst) : List LastR × Pst := listR lastS (sh9 st).1.toNat (sh9 st).2
/-- the same as the document reads it -/
def shotR (st : Pst) : Sho × Pst := (⟨(sh1 st).1, (sh2 st).1, (rh4 st).1, ⟨(sh5 st).1, (sh6 st).1, (rh8 st).1, (rh10 st).1⟩⟩, (rh10 st).2)
theorem ok_back {α : Type} {f : Pst → α × Pst} (hf : Stuck f) {st : Pst} (h : ((f st).2.2 == 0) = true) : (st.2 == 0) = true := by
  cases he : (st.2 == 0)
  · rw [hf st he, he] at h; cases h
  · rfl
theorem list_back {α : Type} {f : Pst → α × Pst} (hf : Stuck f) {k : Nat} {st : Pst} (h : ((listS f k st).2.2 == 0) = true) : (st.2 == 0) = true := by
  cases he : (st.2 == 0)
  · rw [listS_stuck hf k st he, he] at h; cases h
  · rfl
theorem shotR_eq (st : Pst) : (shotR st).2 = (shotS st).2 ∧ (((shotS st).2.2 == 0) = true → (shotR st).1 = (shotS st).1) := by
  refine ⟨(listR_eq lastS_st _ _).1, fun h => ?_⟩
  have h10 : ((sh10 st).2.2 == 0) = true := h
  have h9 : ((sh9 st).2.2 == 0) = true := list_back lastS_st h10
  have h8 : ((sh8 st).2.2 == 0) = true := ok_back (pnum_st _) h9
  have h7 : ((sh7 st).2.2 == 0) = true := list_back heldS_st h8
  have h6 : ((sh6 st).2.2 == 0) = true := ok_back (pnum_st _) h7
  have h5 : ((sh5 st).2.2 == 0) = true := ok_back (pnum_st _) h6
  have h4 : ((sh4 st).2.2 == 0) = true := ok_back (pnum_st _) h5
  have e4 : (rh4 st).1 = (sh4 st).1 := (listR_eq (pnum_st _) _ _).2 h4
  have e8 : (rh8 st).1 = (sh8 st).1 := (listR_eq heldS_st _ _).2 h8
  have e10 : (rh10 st).1 = (sh10 st).1 := (listR_eq lastS_st _ _).2 h10
  unfold shotR shotS
  rw [e4, e8, e10]
/-- the error that Decode tells, before what was read is looked at -/
def errS (b : List Int) : Int := if ((shotS (b, 0)).2.2 == 0) = true ∧ 0 < (shotS (b, 0)).2.1.length then 11 else (shotS (b, 0)).2.2
open Classical in
/-- what Decode answers -/
noncomputable def decV (b : List Int) : Sho × Int :=
  if 8192 < b.length then (⟨0, 0, [], ⟨0, 0, [], []⟩⟩, 2)
  else if errS b ≠ 0 then (⟨0, 0, [], ⟨0, 0, [], []⟩⟩, errS b)
  else if shotOk (shotS (b, 0)).1 then ((shotS (b, 0)).1, 0) else (⟨0, 0, [], ⟨0, 0, [], []⟩⟩, 60)
def zS : Sho := ⟨0, 0, [], ⟨0, 0, [], []⟩⟩
theorem dec_long {b : List Int} (h : 8192 < b.length) : decV b = (zS, 2) := by unfold decV; rw [if_pos h]; rfl
theorem dec_err {b : List Int} (h : ¬ 8192 < b.length) (he : errS b ≠ 0) : decV b = (zS, errS b) := by unfold decV; rw [if_neg h, if_pos he]; rfl
theorem dec_ok {b : List Int} (h : ¬ 8192 < b.length) (he : errS b = 0) (ok : shotOk (shotS (b, 0)).1) : decV b = ((shotS (b, 0)).1, 0) := by unfold decV; rw [if_neg h, if_neg (by simpa using he), if_pos ok]
theorem dec_no {b : List Int} (h : ¬ 8192 < b.length) (he : errS b = 0) (ok : ¬ shotOk (shotS (b, 0)).1) : decV b = (zS, 60) := by unfold decV; rw [if_neg h, if_neg (by simpa using he), if_neg ok]; rfl
theorem err_zero {b : List Int} : errS b = 0 ↔ (shotS (b, 0)).2 = ([], 0) := by
  unfold errS
  constructor
  · intro h
    split at h
    · simp at h
    · rename_i hn
      have h1 : ((shotS (b, 0)).2.2 == 0) = true := by simpa using h
      have h2 : (shotS (b, 0)).2.1 = [] := by
        rcases Nat.eq_zero_or_pos (shotS (b, 0)).2.1.length with g | g
        · exact List.eq_nil_of_length_eq_zero g
        · exact absurd ⟨h1, g⟩ hn
      exact Prod.ext h2 h
  · intro h
    rw [h]
    rfl
end Sc
end Go.Proofs.YtlfaiemebfkajaaGreatDoor
namespace Go.Proofs.YtlfaiemebfkajaaGreatDoor
open Go.ChangeShapes Go.WideShapes Go.ChangeAt Go.RowKit
set_option linter.unusedVariables false
set_option maxRecDepth 100000
namespace Sc
open Cm Nm Sh
/-- the reader at g: what is left lies in w0's memory -/
def RdS (w0 : World) (g : Nat) (st : Pst) (w : World) : Prop := ∃ a cap, w.heap[g]? = some (.cells #[.slice a st.1.length cap, .int .i64 st.2] 127 (0, 0)) ∧ Sl .u8 w0 (.slice a st.1.length cap) st.1
theorem RdS.only {w0 w w' : World} {g : Nat} {st : Pst} {S : Nat → Prop} (h : RdS w0 g st w) (ho : Only S w w') (hs : ¬ S g) : RdS w0 g st w' := by
  obtain ⟨a, cap, h1, h2⟩ := h
  exact ⟨a, cap, (ho.2.2.2.2 g (row_lt h1) hs).trans h1, h2⟩
theorem RdS.err {w0 w : World} {g : Nat} {st : Pst} (h : RdS w0 g st w) (x : Int) : RdS w0 g (st.1, x) (w.setCell ⟨g, 1, none⟩ (.int .i64 x)) := by
  obtain ⟨a, cap, h1, h2⟩ := h
  refine ⟨a, cap, ?_, h2⟩
  rw [heap_setCell_same w g 1 _ _ _ h1]; rfl
theorem RdS.rest {w0 w : World} {g c n : Nat} {st : Pst} {zs : List Int} {a : Option Addr} (h : RdS w0 g st w) (hs : Sl .u8 w0 (.slice a n c) zs) : RdS w0 g (zs, st.2) (w.setCell ⟨g, 0, none⟩ (.slice a n c)) := by
  obtain ⟨a0, cap, h1, h2⟩ := h
  obtain ⟨a', c', e, -⟩ := id hs
  simp only [Value.slice.injEq] at e
  obtain ⟨-, rfl, -⟩ := e
  refine ⟨a, c, ?_, hs⟩
  rw [heap_setCell_same w g 0 _ _ _ h1]; rfl
theorem rdL_len {zs : List Int} {n k : Nat} {e : Int} (h : Oc.rdL zs = (n, k, e)) : k ≤ zs.length := rd_len h
def NumE (w0 : World) (g : Nat) (r : Int × Pst) (v : Value) (w : World) (e : Ending) (w' : World) : Prop := e = .returned v ∧ RdS w0 g r.2 w' ∧ Only (· = g) w w' ∧ w'.heap.size = w.heap.size
set_option maxHeartbeats 2000000 in
theorem number_any (w0 : World) (g : Nat) (st : Pst) (m : Int) (w : World) (hr : RdS w0 g st w) (hb : Below w0.heap.size w0 w) :
    Calls Tryz.prog 117 #[.pointer (some ⟨g, 0, none⟩), .int .u64 m] w (NumE w0 g (pnum m st) (.int .u64 (pnum m st).1) w) := by
  obtain ⟨zs, e0⟩ := st
  obtain ⟨a, cap, h1, h2⟩ := id hr
  dsimp only at h1 h2
  have HR := Lib.hid hr
  have c0 : w.cell? ⟨g, 0, none⟩ = some (.slice a zs.length cap) := (cell_of_row w g 0 _ _ _ h1).trans rfl
  have c1 : w.cell? ⟨g, 1, none⟩ = some (.int .i64 e0) := (cell_of_row w g 1 _ _ _ h1).trans rfl
  have f0 : w.frozen? ⟨g, 0, none⟩ = false := frozen_of_row w g 0 _ _ h1
  have f1 : w.frozen? ⟨g, 1, none⟩ = false := frozen_of_row w g 1 _ _ h1
  have HS := Lib.hid h2
  have HSW := Lib.hid (h2.below hb (Nat.le_refl _))
  clear hr h1
  cases he : (e0 == 0) with
  | false =>
    have HE := Lib.hid (pnum_stuck (m := m) (st := (zs, e0)) he)
    have hne : (e0 != 0) = true := by rw [bne, he]; rfl
    clear he h2
    go_enter Tryz.func117, Tryz.ntmps117
    go_wp2
    go_ret
    rw [HE.out]
    exact ⟨rfl, HR.out, Only.refl _ _, rfl⟩
  | true =>
    have he0 : e0 = 0 := by simpa using he
    subst he0
    clear he
    rcases hrd : Oc.rdL zs with ⟨n, k, er⟩
    have HRD := Lib.hid hrd
    rcases Oc.rd_err hrd with hee | hee
    · subst hee
      have hk := rdL_len hrd
      by_cases hm : m < (n : Int)
      · have HE := Lib.hid (pnum_form hrd hm)
        have HX := Lib.hid (HR.out.err 11)
        clear hrd h2
        go_enter Tryz.func117, Tryz.ntmps117
        go_wp2_with fail
        refine (read_q HRD.out HSW.out).mono ?_
        rintro E w2 ⟨rfl, rfl⟩
        go_wp2
        go_ret
        rw [HE.out]
        exact ⟨rfl, HX.out, Only.setCell _ _ _ rfl, by simp⟩
      · have hle : (n : Int) ≤ m := by omega
        have HE := Lib.hid (pnum_ok hrd hle)
        have hfk := from_k h2 hk
        have f3 : (k : Int) ≤ (zs.length : Int) := by omega
        clear hrd h2 hm
        rcases hfk with ⟨rfl, rfl, rfl, rfl⟩ | ⟨b, off, sp, rfl, ⟨rfl, hzl, hsl⟩ | ⟨hcu, hsl⟩⟩
        · have HX := Lib.hid (HR.out.rest (zs := ([] : List Int).drop 0) (a := none) (n := 0) (c := 0) ⟨none, 0, rfl, Nat.le_refl _, Nat.zero_le _, by simp, .inl ⟨rfl, rfl, rfl⟩⟩)
          go_enter Tryz.func117, Tryz.ntmps117
          go_wp2_with fail
          refine (read_q HRD.out HSW.out).mono ?_
          rintro E w2 ⟨rfl, rfl⟩
          go_wp2
          go_ret
          rw [HE.out]
          exact ⟨rfl, HX.out, Only.setCell _ _ _ rfl, by simp⟩
        · have HX := Lib.hid (HR.out.rest hsl)
          have hzz : (cap : Int) ≤ (zs.length : Int) := by omega
          have HZ0 : Hid (zs.length - cap = 0) := Lib.hid (by omega)
          clear hsl hzl
          go_enter Tryz.func117, Tryz.ntmps117
          go_wp2_with fail
          refine (read_q HRD.out HSW.out).mono ?_
          rintro E w2 ⟨rfl, rfl⟩
          go_wp2
          go_ret
          rw [HE.out, HZ0.out]
          exact ⟨rfl, HX.out, Only.setCell _ _ _ rfl, by simp⟩
        · have HX := Lib.hid (HR.out.rest hsl)
          have f4 : (k : Int) < (cap : Int) := by
            obtain ⟨a', c', e', g1, -⟩ := id HS.out
            simp only [Value.slice.injEq] at e'
            obtain ⟨-, -, rfl⟩ := e'
            omega
          clear hsl
          go_enter Tryz.func117, Tryz.ntmps117
          go_wp2_with fail
          refine (read_q HRD.out HSW.out).mono ?_
          rintro E w2 ⟨rfl, rfl⟩
          go_wp2
          go_ret
          rw [HE.out]
          exact ⟨rfl, HX.out, Only.setCell _ _ _ rfl, by simp⟩
    · have HE := Lib.hid (pnum_err (m := m) hrd hee)
      have HX := Lib.hid (HR.out.err er)
      have hne : (er != 0) = true := by rw [bne, hee]; rfl
      clear hrd h2
      go_enter Tryz.func117, Tryz.ntmps117
      go_wp2_with fail
      refine (read_q HRD.out HSW.out).mono ?_
      rintro E w2 ⟨rfl, rfl⟩
      go_wp2
      go_ret
      rw [HE.out]
      exact ⟨rfl, HX.out, Only.setCell _ _ _ rfl, by simp⟩
set_option maxHeartbeats 400000 in
theorem wide_any (w0 : World) (g : Nat) (st : Pst) (w : World) (hr : RdS w0 g st w) (hb : Below w0.heap.size w0 w) :
    Calls Tryz.prog 104 #[.pointer (some ⟨g, 0, none⟩)] w (NumE w0 g (wideS st) (.int .u64 (wideS st).1) w) := by
  have HN := Lib.hid (number_any w0 g st 18446744073709551615 w hr hb)
  clear hr hb
  go_enter Tryz.func104, Tryz.ntmps104
  go_wp2_with fail
  refine HN.out.mono ?_
  rintro E w2 ⟨rfl, h1, h2, h3⟩
  go_wp2
  go_ret
  exact ⟨rfl, h1, h2, h3⟩
set_option maxHeartbeats 400000 in
theorem small_any' (w0 : World) (g : Nat) (st : Pst) (w : World) (hr : RdS w0 g st w) (hb : Below w0.heap.size w0 w) :
    Calls Tryz.prog 106 #[.pointer (some ⟨g, 0, none⟩)] w (NumE w0 g (smallS st) (.int .i64 (smallS st).1) w) := by
  have HN := Lib.hid (number_any w0 g st 65535 w hr hb)
  obtain ⟨b1, b2⟩ := pnum_bd 65535 (by decide) st
  clear hr hb
  generalize hx : pnum 65535 st = x at *
  go_enter Tryz.func106, Tryz.ntmps106
  go_wp2_with fail
  refine HN.out.mono ?_
  rintro E w2 ⟨rfl, h1, h2, h3⟩
  go_wp2
  go_ret
  rw [show smallS st = x from hx]
  exact ⟨rfl, h1, h2, h3⟩
set_option maxHeartbeats 400000 in
theorem many_any (w0 : World) (g : Nat) (st : Pst) (w : World) (hr : RdS w0 g st w) (hb : Below w0.heap.size w0 w) :
    Calls Tryz.prog 105 #[.pointer (some ⟨g, 0, none⟩)] w (NumE w0 g (manyS st) (.int .i64 (manyS st).1) w) := by
  have HN := Lib.hid (number_any w0 g st 64 w hr hb)
  obtain ⟨b1, b2⟩ := pnum_bd 64 (by decide) st
  clear hr hb
  generalize hx : pnum 64 st = x at *
  go_enter Tryz.func105, Tryz.ntmps105
  go_wp2_with fail
  refine HN.out.mono ?_
  rintro E w2 ⟨rfl, h1, h2, h3⟩
  go_wp2
  go_ret
  rw [show manyS st = x from hx]
  exact ⟨rfl, h1, h2, h3⟩
def BeginE (w0 : World) (g : Nat) (st : Pst) (w : World) (e : Ending) (w' : World) : Prop := e = .returned (.tuple #[]) ∧ RdS w0 g (beginS st) w' ∧ Only (· = g) w w' ∧ w'.heap.size = w.heap.size
set_option maxHeartbeats 2000000 in
theorem begin_any (w0 : World) (g : Nat) (st : Pst) (w : World) (hr : RdS w0 g st w) (hb : Below w0.heap.size w0 w) :
    Calls Tryz.prog 103 #[.pointer (some ⟨g, 0, none⟩)] w (BeginE w0 g st w) := by
  obtain ⟨zs, e0⟩ := st
  obtain ⟨a, cap, h1, h2⟩ := id hr
  dsimp only at h1 h2
  have HR := Lib.hid hr
  have c0 : w.cell? ⟨g, 0, none⟩ = some (.slice a zs.length cap) := (cell_of_row w g 0 _ _ _ h1).trans rfl
  have c1 : w.cell? ⟨g, 1, none⟩ = some (.int .i64 e0) := (cell_of_row w g 1 _ _ _ h1).trans rfl
  have f0 : w.frozen? ⟨g, 0, none⟩ = false := frozen_of_row w g 0 _ _ h1
  have f1 : w.frozen? ⟨g, 1, none⟩ = false := frozen_of_row w g 1 _ _ h1
  have hsw := h2.below hb (Nat.le_refl _)
  clear hr h1
  cases zs with
  | nil =>
    have HX := Lib.hid (HR.out.err 10)
    clear h2 hsw
    go_enter Tryz.func103, Tryz.ntmps103
    go_wp2
    refine bodyPost_end (results_none rfl _ _ _) rfl ?_
    exact ⟨rfl, HX.out, Only.setCell _ _ _ rfl, by simp⟩
  | cons x rest =>
    obtain ⟨b, off, rfl, -, hcx⟩ := Sl.at hsw (show 0 < (x :: rest).length by simp)
    have hc : w.cell? ⟨b, off, none⟩ = some (.int .u8 x) := by simpa using hcx
    have hz1 : (0 : Int) < ((x :: rest).length : Int) := by simp
    have hlc : (x :: rest).length ≤ cap := by
      obtain ⟨a', c', e', g1, -⟩ := id h2
      simp only [Value.slice.injEq] at e'
      obtain ⟨-, -, rfl⟩ := e'
      exact g1
    have hfk := from_k h2 (show 1 ≤ (x :: rest).length by simp)
    by_cases hx : x = 83
    · have HB : Hid (beginS (x :: rest, e0) = (rest, e0)) := Lib.hid (by unfold beginS; simp only []; rw [if_pos hx])
      subst hx
      clear hcx h2 hsw
      rcases hfk with ⟨hbad, -⟩ | ⟨b', off', sp, hab, ⟨hcap, hzl, hsl⟩ | ⟨hcu, hsl⟩⟩
      · cases hbad
      · simp only [Option.some.injEq, Addr.mk.injEq] at hab
        obtain ⟨rfl, rfl, rfl⟩ := hab
        subst hcap
        have HX := Lib.hid (HR.out.rest hsl)
        have hl1 : (1 : Int) ≤ (((83 : Int) :: rest).length : Int) := by omega
        have HZ0 : Hid (rest.length = 0) := Lib.hid (by simpa using hzl)
        clear hsl hzl
        go_enter Tryz.func103, Tryz.ntmps103
        go_wp2
        refine bodyPost_end (results_none rfl _ _ _) rfl ?_
        refine ⟨rfl, ?_, Only.setCell _ _ _ rfl, by simp⟩
        rw [HB.out, HZ0.out]
        exact HX.out
      · simp only [Option.some.injEq, Addr.mk.injEq] at hab
        obtain ⟨rfl, rfl, rfl⟩ := hab
        have HX := Lib.hid (HR.out.rest hsl)
        have f4 : (1 : Int) < (cap : Int) := by
          have : 1 ≤ cap := Nat.le_trans (by simp) hlc
          omega
        have f5 : (((83 : Int) :: rest).length : Int) ≤ (cap : Int) := by omega
        clear hsl
        go_enter Tryz.func103, Tryz.ntmps103
        go_wp2
        refine bodyPost_end (results_none rfl _ _ _) rfl ?_
        refine ⟨rfl, ?_, Only.setCell _ _ _ rfl, by simp⟩
        rw [HB.out]
        exact HX.out
    · have HB : Hid (beginS (x :: rest, e0) = (x :: rest, 11)) := Lib.hid (by unfold beginS; simp only []; rw [if_neg hx])
      have hne : (x != 83) = true := by rw [bne, beq_eq_false_iff_ne.2 hx]; rfl
      have HX := Lib.hid (HR.out.err 11)
      clear hcx h2 hsw hfk
      go_enter Tryz.func103, Tryz.ntmps103
      go_wp2
      refine bodyPost_end (results_none rfl _ _ _) rfl ?_
      refine ⟨rfl, ?_, Only.setCell _ _ _ rfl, by simp⟩
      rw [HB.out]
      exact HX.out
end Sc
end Go.Proofs.YtlfaiemebfkajaaGreatDoor
namespace Go.Proofs.YtlfaiemebfkajaaGreatDoor
open Go.ChangeShapes Go.WideShapes Go.ChangeAt Go.RowKit Go.Deep
set_option linter.unusedVariables false
set_option maxRecDepth 100000
namespace Sc
open Cm Nm Sh
theorem RdS.lt {w0 w : World} {g : Nat} {st : Pst} (h : RdS w0 g st w) : g < w.heap.size := by
  obtain ⟨a, cap, h1, -⟩ := h
  exact row_lt h1
theorem RdS.block {w0 w w' : World} {g : Nat} {st : Pst} (h : RdS w0 g st w) (hb : w'.heap[g]? = w.heap[g]?) : RdS w0 g st w' := by
  obtain ⟨a, cap, h1, h2⟩ := h
  exact ⟨a, cap, hb.trans h1, h2⟩
theorem only_row (w : World) (b : Nat) (cs : Array Value) : Only (· = b) w (w.setRow b cs) :=
  ⟨rfl, rfl, rfl, by simp [World.setRow], fun k hk hn => setRow_other w _ _ _ hn⟩
/-- what is stored into blocks that are new is not seen -/
theorem only_new {w a b c : World} {g q : Nat} (h1 : Only (· = g) w a) (h2 : Only (· = g) a b) (h3 : Only (· = q) b c) (hq : w.heap.size ≤ q) : Only (· = g) w c := by
  have h12 := h1.trans h2
  refine ⟨h3.1.trans h12.1, h3.2.1.trans h12.2.1, h3.2.2.1.trans h12.2.2.1, Nat.le_trans h12.2.2.2.1 h3.2.2.2.1, fun k hk hn => ?_⟩
  exact (h3.2.2.2.2 k (Nat.lt_of_lt_of_le hk h12.2.2.2.1) (by omega)).trans (h12.2.2.2.2 k hk hn)
def RowE (w0 : World) (g : Nat) (st : Pst) (v : Value) (w : World) (e : Ending) (w' : World) : Prop := e = .returned v ∧ RdS w0 g st w' ∧ Only (· = g) w w'
set_option maxHeartbeats 4000000 in
theorem held_any (w0 : World) (g : Nat) (st0 : Pst) (w : World) (hr : RdS w0 g st0 w) (hb : Below w0.heap.size w0 w) (hg : w0.heap.size ≤ g) :
    Calls Tryz.prog 107 #[.pointer (some ⟨g, 0, none⟩)] w (RowE w0 g (heldS st0).2 (.agg (heldC (heldS st0).1).toArray) w) := by
  have hgl : g < w.heap.size := hr.lt
  rcases hp0 : smallS st0 with ⟨n0, st1⟩
  rcases hp1 : smallS st1 with ⟨n1, st2⟩
  rcases hp2 : wideS st2 with ⟨n2, st3⟩
  rcases hp3 : wideS st3 with ⟨n3, st4⟩
  rcases hp4 : wideS st4 with ⟨n4, st5⟩
  have hsp : heldS st0 = (⟨n0, n1, n2, n3, n4⟩, st5) := by
    unfold heldS
    simp only [hp0, hp1, hp2, hp3, hp4]
  rw [hsp]
  have HP0 := Lib.hid hp0
  have HP1 := Lib.hid hp1
  have HP2 := Lib.hid hp2
  have HP3 := Lib.hid hp3
  have HP4 := Lib.hid hp4
  obtain ⟨W0, hW0⟩ : ∃ q, (w.alloc (.cells #[.int .i64 0, .int .i64 0, .int .u64 0, .int .u64 0, .int .u64 0] 110)).alloc (.cells #[.int .i64 0, .int .i64 0, .int .u64 0, .int .u64 0, .int .u64 0] 110) = q := ⟨_, rfl⟩
  have hbo : Below w.heap.size w W0 := by rw [← hW0]; exact ((Below.refl _ _).alloc (Nat.le_refl _) _).alloc (by simp) _
  have HQ0 : Hid (W0.heap[w.heap.size]? = some (.cells #[.int .i64 0, .int .i64 0, .int .u64 0, .int .u64 0, .int .u64 0] 110 (0, 0))) := Lib.hid (by rw [← hW0]; exact heap_alloc2_old _ _ _)
  have HX0 : Hid (W0.heap[w.heap.size + 1]? = some (.cells #[.int .i64 0, .int .i64 0, .int .u64 0, .int .u64 0, .int .u64 0] 110 (0, 0))) := Lib.hid (by rw [← hW0]; exact heap_alloc2_new _ _ _)
  have HO0 : Hid (Only (· = g) w W0) := Lib.hid (Below.only hbo _)
  have HR0 : Hid (RdS w0 g st0 W0) := Lib.hid (hr.block (hbo.block g hgl))
  have HBW := Lib.hid hb
  have HG := Lib.hid hg
  have hne : g ≠ w.heap.size := by omega
  have hne2 : g ≠ w.heap.size + 1 := by omega
  have HNE := Lib.hid hne
  have HNE2 := Lib.hid hne2
  clear hr hb hbo hsp hp0 hp1 hp2 hp3 hp4 hne hne2 hg
  go_enter Tryz.func107, Tryz.ntmps107
  have hn0 := small_any' w0 g st0 W0 HR0.out (HO0.out.below HBW.out HBW.out.size (fun q hq => hq ▸ HG.out))
  rw [HP0.out] at hn0
  have HN0 := Lib.hid hn0
  clear hn0
  go_wp2_with fail
  refine HN0.out.mono ?_
  rintro E u0 ⟨rfl, hr0, ho0, hs0⟩
  have hx0 := (ho0.2.2.2.2 _ (row_lt HX0.out) (fun e => HNE2.out e.symm)).trans HX0.out
  have HQu0 := Lib.hid ((ho0.2.2.2.2 _ (row_lt HQ0.out) (fun e => HNE.out e.symm)).trans HQ0.out)
  have c0 : u0.cell? ⟨w.heap.size + 1, 0, none⟩ = some (.int .i64 0) := (cell_of_row _ _ 0 _ _ _ hx0).trans rfl
  have f0 : u0.frozen? ⟨w.heap.size + 1, 0, none⟩ = false := frozen_of_row _ _ 0 _ _ hx0
  obtain ⟨W1, hW1⟩ : ∃ q, u0.setCell ⟨w.heap.size + 1, 0, none⟩ (.int .i64 n0) = q := ⟨_, rfl⟩
  have hoc0 : Only (· = w.heap.size + 1) u0 W1 := by rw [← hW1]; exact Only.setCell _ _ _ rfl
  have HX1 : Hid (W1.heap[w.heap.size + 1]? = some (.cells #[.int .i64 n0, .int .i64 0, .int .u64 0, .int .u64 0, .int .u64 0] 110 (0, 0))) := Lib.hid (by rw [← hW1, heap_setCell_same _ _ 0 _ _ _ hx0]; rfl)
  have HQ1 := Lib.hid ((hoc0.2.2.2.2 _ (row_lt HQu0.out) (by omega)).trans HQu0.out)
  have HR1 : Hid (RdS w0 g st1 W1) := Lib.hid (hr0.only hoc0 HNE2.out)
  have HO1 : Hid (Only (· = g) w W1) := Lib.hid (only_new HO0.out ho0 hoc0 (by omega))
  clear hr0 ho0 hs0 hx0 hoc0 HQu0 HN0 HR0 HX0 HQ0 HO0 hW0 HP0
  have hn1 := small_any' w0 g st1 W1 HR1.out (HO1.out.below HBW.out HBW.out.size (fun q hq => hq ▸ HG.out))
  rw [HP1.out] at hn1
  have HN1 := Lib.hid hn1
  clear hn1
  go_wp2_with fail
  refine HN1.out.mono ?_
  rintro E u1 ⟨rfl, hr1, ho1, hs1⟩
  have hx1 := (ho1.2.2.2.2 _ (row_lt HX1.out) (fun e => HNE2.out e.symm)).trans HX1.out
  have HQu1 := Lib.hid ((ho1.2.2.2.2 _ (row_lt HQ1.out) (fun e => HNE.out e.symm)).trans HQ1.out)
  have c1 : u1.cell? ⟨w.heap.size + 1, 1, none⟩ = some (.int .i64 0) := (cell_of_row _ _ 1 _ _ _ hx1).trans rfl
  have f1 : u1.frozen? ⟨w.heap.size + 1, 1, none⟩ = false := frozen_of_row _ _ 1 _ _ hx1
  obtain ⟨W2, hW2⟩ : ∃ q, u1.setCell ⟨w.heap.size + 1, 1, none⟩ (.int .i64 n1) = q := ⟨_, rfl⟩
  have hoc1 : Only (· = w.heap.size + 1) u1 W2 := by rw [← hW2]; exact Only.setCell _ _ _ rfl
  have HX2 : Hid (W2.heap[w.heap.size + 1]? = some (.cells #[.int .i64 n0, .int .i64 n1, .int .u64 0, .int .u64 0, .int .u64 0] 110 (0, 0))) := Lib.hid (by rw [← hW2, heap_setCell_same _ _ 1 _ _ _ hx1]; rfl)
  have HQ2 := Lib.hid ((hoc1.2.2.2.2 _ (row_lt HQu1.out) (by omega)).trans HQu1.out)
  have HR2 : Hid (RdS w0 g st2 W2) := Lib.hid (hr1.only hoc1 HNE2.out)
  have HO2 : Hid (Only (· = g) w W2) := Lib.hid (only_new HO1.out ho1 hoc1 (by omega))
  clear hr1 ho1 hs1 hx1 hoc1 HQu1 HN1 HR1 HX1 HQ1 HO1 hW1 HP1
  have hn2 := wide_any w0 g st2 W2 HR2.out (HO2.out.below HBW.out HBW.out.size (fun q hq => hq ▸ HG.out))
  rw [HP2.out] at hn2
  have HN2 := Lib.hid hn2
  clear hn2
  go_wp2_with fail
  refine HN2.out.mono ?_
  rintro E u2 ⟨rfl, hr2, ho2, hs2⟩
  have hx2 := (ho2.2.2.2.2 _ (row_lt HX2.out) (fun e => HNE2.out e.symm)).trans HX2.out
  have HQu2 := Lib.hid ((ho2.2.2.2.2 _ (row_lt HQ2.out) (fun e => HNE.out e.symm)).trans HQ2.out)
  have c2 : u2.cell? ⟨w.heap.size + 1, 2, none⟩ = some (.int .u64 0) := (cell_of_row _ _ 2 _ _ _ hx2).trans rfl
  have f2 : u2.frozen? ⟨w.heap.size + 1, 2, none⟩ = false := frozen_of_row _ _ 2 _ _ hx2
  obtain ⟨W3, hW3⟩ : ∃ q, u2.setCell ⟨w.heap.size + 1, 2, none⟩ (.int .u64 n2) = q := ⟨_, rfl⟩
  have hoc2 : Only (· = w.heap.size + 1) u2 W3 := by rw [← hW3]; exact Only.setCell _ _ _ rfl
  have HX3 : Hid (W3.heap[w.heap.size + 1]? = some (.cells #[.int .i64 n0, .int .i64 n1, .int .u64 n2, .int .u64 0, .int .u64 0] 110 (0, 0))) := Lib.hid (by rw [← hW3, heap_setCell_same _ _ 2 _ _ _ hx2]; rfl)
  have HQ3 := Lib.hid ((hoc2.2.2.2.2 _ (row_lt HQu2.out) (by omega)).trans HQu2.out)
  have HR3 : Hid (RdS w0 g st3 W3) := Lib.hid (hr2.only hoc2 HNE2.out)
  have HO3 : Hid (Only (· = g) w W3) := Lib.hid (only_new HO2.out ho2 hoc2 (by omega))
  clear hr2 ho2 hs2 hx2 hoc2 HQu2 HN2 HR2 HX2 HQ2 HO2 hW2 HP2
  have hn3 := wide_any w0 g st3 W3 HR3.out (HO3.out.below HBW.out HBW.out.size (fun q hq => hq ▸ HG.out))
  rw [HP3.out] at hn3
  have HN3 := Lib.hid hn3
  clear hn3
  go_wp2_with fail
  refine HN3.out.mono ?_
  rintro E u3 ⟨rfl, hr3, ho3, hs3⟩
  have hx3 := (ho3.2.2.2.2 _ (row_lt HX3.out) (fun e => HNE2.out e.symm)).trans HX3.out
  have HQu3 := Lib.hid ((ho3.2.2.2.2 _ (row_lt HQ3.out) (fun e => HNE.out e.symm)).trans HQ3.out)
  have c3 : u3.cell? ⟨w.heap.size + 1, 3, none⟩ = some (.int .u64 0) := (cell_of_row _ _ 3 _ _ _ hx3).trans rfl
  have f3 : u3.frozen? ⟨w.heap.size + 1, 3, none⟩ = false := frozen_of_row _ _ 3 _ _ hx3
  obtain ⟨W4, hW4⟩ : ∃ q, u3.setCell ⟨w.heap.size + 1, 3, none⟩ (.int .u64 n3) = q := ⟨_, rfl⟩
  have hoc3 : Only (· = w.heap.size + 1) u3 W4 := by rw [← hW4]; exact Only.setCell _ _ _ rfl
  have HX4 : Hid (W4.heap[w.heap.size + 1]? = some (.cells #[.int .i64 n0, .int .i64 n1, .int .u64 n2, .int .u64 n3, .int .u64 0] 110 (0, 0))) := Lib.hid (by rw [← hW4, heap_setCell_same _ _ 3 _ _ _ hx3]; rfl)
  have HQ4 := Lib.hid ((hoc3.2.2.2.2 _ (row_lt HQu3.out) (by omega)).trans HQu3.out)
  have HR4 : Hid (RdS w0 g st4 W4) := Lib.hid (hr3.only hoc3 HNE2.out)
  have HO4 : Hid (Only (· = g) w W4) := Lib.hid (only_new HO3.out ho3 hoc3 (by omega))
  clear hr3 ho3 hs3 hx3 hoc3 HQu3 HN3 HR3 HX3 HQ3 HO3 hW3 HP3
  have hn4 := wide_any w0 g st4 W4 HR4.out (HO4.out.below HBW.out HBW.out.size (fun q hq => hq ▸ HG.out))
  rw [HP4.out] at hn4
  have HN4 := Lib.hid hn4
  clear hn4
  go_wp2_with fail
  refine HN4.out.mono ?_
  rintro E u4 ⟨rfl, hr4, ho4, hs4⟩
  have hx4 := (ho4.2.2.2.2 _ (row_lt HX4.out) (fun e => HNE2.out e.symm)).trans HX4.out
  have HQu4 := Lib.hid ((ho4.2.2.2.2 _ (row_lt HQ4.out) (fun e => HNE.out e.symm)).trans HQ4.out)
  have c4 : u4.cell? ⟨w.heap.size + 1, 4, none⟩ = some (.int .u64 0) := (cell_of_row _ _ 4 _ _ _ hx4).trans rfl
  have f4 : u4.frozen? ⟨w.heap.size + 1, 4, none⟩ = false := frozen_of_row _ _ 4 _ _ hx4
  obtain ⟨W5, hW5⟩ : ∃ q, u4.setCell ⟨w.heap.size + 1, 4, none⟩ (.int .u64 n4) = q := ⟨_, rfl⟩
  have hoc4 : Only (· = w.heap.size + 1) u4 W5 := by rw [← hW5]; exact Only.setCell _ _ _ rfl
  have HX5 : Hid (W5.heap[w.heap.size + 1]? = some (.cells #[.int .i64 n0, .int .i64 n1, .int .u64 n2, .int .u64 n3, .int .u64 n4] 110 (0, 0))) := Lib.hid (by rw [← hW5, heap_setCell_same _ _ 4 _ _ _ hx4]; rfl)
  have HQ5 := Lib.hid ((hoc4.2.2.2.2 _ (row_lt HQu4.out) (by omega)).trans HQu4.out)
  have HR5 : Hid (RdS w0 g st5 W5) := Lib.hid (hr4.only hoc4 HNE2.out)
  have HO5 : Hid (Only (· = g) w W5) := Lib.hid (only_new HO4.out ho4 hoc4 (by omega))
  clear hr4 ho4 hs4 hx4 hoc4 HQu4 HN4 HR4 HX4 HQ4 HO4 hW4 HP4
  have hone : (#[.int .i64 n0, .int .i64 n1, .int .u64 n2, .int .u64 n3, .int .u64 n4] : Array Value).all (·.oneCell') = true := by simp [Value.oneCell']
  obtain ⟨WZ, hWZ⟩ : ∃ q, W5.setRow w.heap.size #[.int .i64 n0, .int .i64 n1, .int .u64 n2, .int .u64 n3, .int .u64 n4] = q := ⟨_, rfl⟩
  have HQZ : Hid (WZ.heap[w.heap.size]? = some (.cells #[.int .i64 n0, .int .i64 n1, .int .u64 n2, .int .u64 n3, .int .u64 n4] 110 (0, 0))) := Lib.hid (by rw [← hWZ]; exact setRow_heap _ _ _ _ _ _ HQ5.out)
  have hoz : Only (· = w.heap.size) W5 WZ := by rw [← hWZ]; exact only_row _ _ _
  have HRZ : Hid (RdS w0 g st5 WZ) := Lib.hid (HR5.out.only hoz HNE.out)
  have HOZ : Hid (Only (· = g) w WZ) := Lib.hid (only_new HO5.out (Only.refl _ _) hoz (by omega))
  clear hoz
  go_wp2_with (first
    | (with_reducible refine wpList_load_row rfl 110 (.tmp 3) rfl (w.heap.size + 1) rfl 110 #[.int .i64 n0, .int .i64 n1, .int .u64 n2, .int .u64 n3, .int .u64 n4] (0, 0) _ HX5.out Tryz.underlying110 rfl (by kernel_rfl) ?_)
    | (with_reducible refine wpList_store_row rfl 110 (.tmp 2) (.tmp 19) rfl w.heap.size #[.int .i64 n0, .int .i64 n1, .int .u64 n2, .int .u64 n3, .int .u64 n4] rfl rfl 110 _ HQ5.out (by kernel_rfl) rfl hone ?_; rw [hWZ]; clear hWZ))
  refine bodyPost_ret (v := .agg #[.int .i64 n0, .int .i64 n1, .int .u64 n2, .int .u64 n3, .int .u64 n4]) (results_cell_row rfl _ _ w.heap.size 110 _ (0, 0) _ rfl HQZ.out Tryz.underlying110 rfl (by kernel_rfl)) rfl ?_
  exact ⟨rfl, HRZ.out, HOZ.out⟩
set_option maxHeartbeats 4000000 in
theorem last_any (w0 : World) (g : Nat) (st0 : Pst) (w : World) (hr : RdS w0 g st0 w) (hb : Below w0.heap.size w0 w) (hg : w0.heap.size ≤ g) :
    Calls Tryz.prog 108 #[.pointer (some ⟨g, 0, none⟩)] w (RowE w0 g (lastS st0).2 (.agg (lastC (lastS st0).1).toArray) w) := by
  have hgl : g < w.heap.size := hr.lt
  rcases hp0 : smallS st0 with ⟨n0, st1⟩
  rcases hp1 : wideS st1 with ⟨n1, st2⟩
  rcases hp2 : wideS st2 with ⟨n2, st3⟩
  rcases hp3 : smallS st3 with ⟨n3, st4⟩
  rcases hp4 : smallS st4 with ⟨n4, st5⟩
  rcases hp5 : wideS st5 with ⟨n5, st6⟩
  have hsp : lastS st0 = (⟨n0, n1, n2, n3, n4, n5⟩, st6) := by
    unfold lastS
    simp only [hp0, hp1, hp2, hp3, hp4, hp5]
  rw [hsp]
  have HP0 := Lib.hid hp0
  have HP1 := Lib.hid hp1
  have HP2 := Lib.hid hp2
  have HP3 := Lib.hid hp3
  have HP4 := Lib.hid hp4
  have HP5 := Lib.hid hp5
  obtain ⟨W0, hW0⟩ : ∃ q, (w.alloc (.cells #[.int .i64 0, .int .u64 0, .int .u64 0, .int .i64 0, .int .i64 0, .int .u64 0] 114)).alloc (.cells #[.int .i64 0, .int .u64 0, .int .u64 0, .int .i64 0, .int .i64 0, .int .u64 0] 114) = q := ⟨_, rfl⟩
  have hbo : Below w.heap.size w W0 := by rw [← hW0]; exact ((Below.refl _ _).alloc (Nat.le_refl _) _).alloc (by simp) _
  have HQ0 : Hid (W0.heap[w.heap.size]? = some (.cells #[.int .i64 0, .int .u64 0, .int .u64 0, .int .i64 0, .int .i64 0, .int .u64 0] 114 (0, 0))) := Lib.hid (by rw [← hW0]; exact heap_alloc2_old _ _ _)
  have HX0 : Hid (W0.heap[w.heap.size + 1]? = some (.cells #[.int .i64 0, .int .u64 0, .int .u64 0, .int .i64 0, .int .i64 0, .int .u64 0] 114 (0, 0))) := Lib.hid (by rw [← hW0]; exact heap_alloc2_new _ _ _)
  have HO0 : Hid (Only (· = g) w W0) := Lib.hid (Below.only hbo _)
  have HR0 : Hid (RdS w0 g st0 W0) := Lib.hid (hr.block (hbo.block g hgl))
  have HBW := Lib.hid hb
  have HG := Lib.hid hg
  have hne : g ≠ w.heap.size := by omega
  have hne2 : g ≠ w.heap.size + 1 := by omega
  have HNE := Lib.hid hne
  have HNE2 := Lib.hid hne2
  clear hr hb hbo hsp hp0 hp1 hp2 hp3 hp4 hp5 hne hne2 hg
  go_enter Tryz.func108, Tryz.ntmps108
  have hn0 := small_any' w0 g st0 W0 HR0.out (HO0.out.below HBW.out HBW.out.size (fun q hq => hq ▸ HG.out))
  rw [HP0.out] at hn0
  have HN0 := Lib.hid hn0
  clear hn0
  go_wp2_with fail
  refine HN0.out.mono ?_
  rintro E u0 ⟨rfl, hr0, ho0, hs0⟩
  have hx0 := (ho0.2.2.2.2 _ (row_lt HX0.out) (fun e => HNE2.out e.symm)).trans HX0.out
  have HQu0 := Lib.hid ((ho0.2.2.2.2 _ (row_lt HQ0.out) (fun e => HNE.out e.symm)).trans HQ0.out)
  have c0 : u0.cell? ⟨w.heap.size + 1, 0, none⟩ = some (.int .i64 0) := (cell_of_row _ _ 0 _ _ _ hx0).trans rfl
  have f0 : u0.frozen? ⟨w.heap.size + 1, 0, none⟩ = false := frozen_of_row _ _ 0 _ _ hx0
  obtain ⟨W1, hW1⟩ : ∃ q, u0.setCell ⟨w.heap.size + 1, 0, none⟩ (.int .i64 n0) = q := ⟨_, rfl⟩
  have hoc0 : Only (· = w.heap.size + 1) u0 W1 := by rw [← hW1]; exact Only.setCell _ _ _ rfl
  have HX1 : Hid (W1.heap[w.heap.size + 1]? = some (.cells #[.int .i64 n0, .int .u64 0, .int .u64 0, .int .i64 0, .int .i64 0, .int .u64 0] 114 (0, 0))) := Lib.hid (by rw [← hW1, heap_setCell_same _ _ 0 _ _ _ hx0]; rfl)
  have HQ1 := Lib.hid ((hoc0.2.2.2.2 _ (row_lt HQu0.out) (by omega)).trans HQu0.out)
  have HR1 : Hid (RdS w0 g st1 W1) := Lib.hid (hr0.only hoc0 HNE2.out)
  have HO1 : Hid (Only (· = g) w W1) := Lib.hid (only_new HO0.out ho0 hoc0 (by omega))
  clear hr0 ho0 hs0 hx0 hoc0 HQu0 HN0 HR0 HX0 HQ0 HO0 hW0 HP0
  have hn1 := wide_any w0 g st1 W1 HR1.out (HO1.out.below HBW.out HBW.out.size (fun q hq => hq ▸ HG.out))
  rw [HP1.out] at hn1
  have HN1 := Lib.hid hn1
  clear hn1
  go_wp2_with fail
  refine HN1.out.mono ?_
  rintro E u1 ⟨rfl, hr1, ho1, hs1⟩
  have hx1 := (ho1.2.2.2.2 _ (row_lt HX1.out) (fun e => HNE2.out e.symm)).trans HX1.out
  have HQu1 := Lib.hid ((ho1.2.2.2.2 _ (row_lt HQ1.out) (fun e => HNE.out e.symm)).trans HQ1.out)
  have c1 : u1.cell? ⟨w.heap.size + 1, 1, none⟩ = some (.int .u64 0) := (cell_of_row _ _ 1 _ _ _ hx1).trans rfl
  have f1 : u1.frozen? ⟨w.heap.size + 1, 1, none⟩ = false := frozen_of_row _ _ 1 _ _ hx1
  obtain ⟨W2, hW2⟩ : ∃ q, u1.setCell ⟨w.heap.size + 1, 1, none⟩ (.int .u64 n1) = q := ⟨_, rfl⟩
  have hoc1 : Only (· = w.heap.size + 1) u1 W2 := by rw [← hW2]; exact Only.setCell _ _ _ rfl
  have HX2 : Hid (W2.heap[w.heap.size + 1]? = some (.cells #[.int .i64 n0, .int .u64 n1, .int .u64 0, .int .i64 0, .int .i64 0, .int .u64 0] 114 (0, 0))) := Lib.hid (by rw [← hW2, heap_setCell_same _ _ 1 _ _ _ hx1]; rfl)
  have HQ2 := Lib.hid ((hoc1.2.2.2.2 _ (row_lt HQu1.out) (by omega)).trans HQu1.out)
  have HR2 : Hid (RdS w0 g st2 W2) := Lib.hid (hr1.only hoc1 HNE2.out)
  have HO2 : Hid (Only (· = g) w W2) := Lib.hid (only_new HO1.out ho1 hoc1 (by omega))
  clear hr1 ho1 hs1 hx1 hoc1 HQu1 HN1 HR1 HX1 HQ1 HO1 hW1 HP1
  have hn2 := wide_any w0 g st2 W2 HR2.out (HO2.out.below HBW.out HBW.out.size (fun q hq => hq ▸ HG.out))
  rw [HP2.out] at hn2
  have HN2 := Lib.hid hn2
  clear hn2
  go_wp2_with fail
  refine HN2.out.mono ?_
  rintro E u2 ⟨rfl, hr2, ho2, hs2⟩
  have hx2 := (ho2.2.2.2.2 _ (row_lt HX2.out) (fun e => HNE2.out e.symm)).trans HX2.out
  have HQu2 := Lib.hid ((ho2.2.2.2.2 _ (row_lt HQ2.out) (fun e => HNE.out e.symm)).trans HQ2.out)
  have c2 : u2.cell? ⟨w.heap.size + 1, 2, none⟩ = some (.int .u64 0) := (cell_of_row _ _ 2 _ _ _ hx2).trans rfl
  have f2 : u2.frozen? ⟨w.heap.size + 1, 2, none⟩ = false := frozen_of_row _ _ 2 _ _ hx2
  obtain ⟨W3, hW3⟩ : ∃ q, u2.setCell ⟨w.heap.size + 1, 2, none⟩ (.int .u64 n2) = q := ⟨_, rfl⟩
  have hoc2 : Only (· = w.heap.size + 1) u2 W3 := by rw [← hW3]; exact Only.setCell _ _ _ rfl
  have HX3 : Hid (W3.heap[w.heap.size + 1]? = some (.cells #[.int .i64 n0, .int .u64 n1, .int .u64 n2, .int .i64 0, .int .i64 0, .int .u64 0] 114 (0, 0))) := Lib.hid (by rw [← hW3, heap_setCell_same _ _ 2 _ _ _ hx2]; rfl)
  have HQ3 := Lib.hid ((hoc2.2.2.2.2 _ (row_lt HQu2.out) (by omega)).trans HQu2.out)
  have HR3 : Hid (RdS w0 g st3 W3) := Lib.hid (hr2.only hoc2 HNE2.out)
  have HO3 : Hid (Only (· = g) w W3) := Lib.hid (only_new HO2.out ho2 hoc2 (by omega))
  clear hr2 ho2 hs2 hx2 hoc2 HQu2 HN2 HR2 HX2 HQ2 HO2 hW2 HP2
  have hn3 := small_any' w0 g st3 W3 HR3.out (HO3.out.below HBW.out HBW.out.size (fun q hq => hq ▸ HG.out))
  rw [HP3.out] at hn3
  have HN3 := Lib.hid hn3
  clear hn3
  go_wp2_with fail
  refine HN3.out.mono ?_
  rintro E u3 ⟨rfl, hr3, ho3, hs3⟩
  have hx3 := (ho3.2.2.2.2 _ (row_lt HX3.out) (fun e => HNE2.out e.symm)).trans HX3.out
  have HQu3 := Lib.hid ((ho3.2.2.2.2 _ (row_lt HQ3.out) (fun e => HNE.out e.symm)).trans HQ3.out)
  have c3 : u3.cell? ⟨w.heap.size + 1, 3, none⟩ = some (.int .i64 0) := (cell_of_row _ _ 3 _ _ _ hx3).trans rfl
  have f3 : u3.frozen? ⟨w.heap.size + 1, 3, none⟩ = false := frozen_of_row _ _ 3 _ _ hx3
  obtain ⟨W4, hW4⟩ : ∃ q, u3.setCell ⟨w.heap.size + 1, 3, none⟩ (.int .i64 n3) = q := ⟨_, rfl⟩
  have hoc3 : Only (· = w.heap.size + 1) u3 W4 := by rw [← hW4]; exact Only.setCell _ _ _ rfl
  have HX4 : Hid (W4.heap[w.heap.size + 1]? = some (.cells #[.int .i64 n0, .int .u64 n1, .int .u64 n2, .int .i64 n3, .int .i64 0, .int .u64 0] 114 (0, 0))) := Lib.hid (by rw [← hW4, heap_setCell_same _ _ 3 _ _ _ hx3]; rfl)
  have HQ4 := Lib.hid ((hoc3.2.2.2.2 _ (row_lt HQu3.out) (by omega)).trans HQu3.out)
  have HR4 : Hid (RdS w0 g st4 W4) := Lib.hid (hr3.only hoc3 HNE2.out)
  have HO4 : Hid (Only (· = g) w W4) := Lib.hid (only_new HO3.out ho3 hoc3 (by omega))
  clear hr3 ho3 hs3 hx3 hoc3 HQu3 HN3 HR3 HX3 HQ3 HO3 hW3 HP3
  have hn4 := small_any' w0 g st4 W4 HR4.out (HO4.out.below HBW.out HBW.out.size (fun q hq => hq ▸ HG.out))
  rw [HP4.out] at hn4
  have HN4 := Lib.hid hn4
  clear hn4
  go_wp2_with fail
  refine HN4.out.mono ?_
  rintro E u4 ⟨rfl, hr4, ho4, hs4⟩
  have hx4 := (ho4.2.2.2.2 _ (row_lt HX4.out) (fun e => HNE2.out e.symm)).trans HX4.out
  have HQu4 := Lib.hid ((ho4.2.2.2.2 _ (row_lt HQ4.out) (fun e => HNE.out e.symm)).trans HQ4.out)
  have c4 : u4.cell? ⟨w.heap.size + 1, 4, none⟩ = some (.int .i64 0) := (cell_of_row _ _ 4 _ _ _ hx4).trans rfl
  have f4 : u4.frozen? ⟨w.heap.size + 1, 4, none⟩ = false := frozen_of_row _ _ 4 _ _ hx4
  obtain ⟨W5, hW5⟩ : ∃ q, u4.setCell ⟨w.heap.size + 1, 4, none⟩ (.int .i64 n4) = q := ⟨_, rfl⟩
  have hoc4 : Only (· = w.heap.size + 1) u4 W5 := by rw [← hW5]; exact Only.setCell _ _ _ rfl
  have HX5 : Hid (W5.heap[w.heap.size + 1]? = some (.cells #[.int .i64 n0, .int .u64 n1, .int .u64 n2, .int .i64 n3, .int .i64 n4, .int .u64 0] 114 (0, 0))) := Lib.hid (by rw [← hW5, heap_setCell_same _ _ 4 _ _ _ hx4]; rfl)
  have HQ5 := Lib.hid ((hoc4.2.2.2.2 _ (row_lt HQu4.out) (by omega)).trans HQu4.out)
  have HR5 : Hid (RdS w0 g st5 W5) := Lib.hid (hr4.only hoc4 HNE2.out)
  have HO5 : Hid (Only (· = g) w W5) := Lib.hid (only_new HO4.out ho4 hoc4 (by omega))
  clear hr4 ho4 hs4 hx4 hoc4 HQu4 HN4 HR4 HX4 HQ4 HO4 hW4 HP4
  have hn5 := wide_any w0 g st5 W5 HR5.out (HO5.out.below HBW.out HBW.out.size (fun q hq => hq ▸ HG.out))
  rw [HP5.out] at hn5
  have HN5 := Lib.hid hn5
  clear hn5
  go_wp2_with fail
  refine HN5.out.mono ?_
  rintro E u5 ⟨rfl, hr5, ho5, hs5⟩
  have hx5 := (ho5.2.2.2.2 _ (row_lt HX5.out) (fun e => HNE2.out e.symm)).trans HX5.out
  have HQu5 := Lib.hid ((ho5.2.2.2.2 _ (row_lt HQ5.out) (fun e => HNE.out e.symm)).trans HQ5.out)
  have c5 : u5.cell? ⟨w.heap.size + 1, 5, none⟩ = some (.int .u64 0) := (cell_of_row _ _ 5 _ _ _ hx5).trans rfl
  have f5 : u5.frozen? ⟨w.heap.size + 1, 5, none⟩ = false := frozen_of_row _ _ 5 _ _ hx5
  obtain ⟨W6, hW6⟩ : ∃ q, u5.setCell ⟨w.heap.size + 1, 5, none⟩ (.int .u64 n5) = q := ⟨_, rfl⟩
  have hoc5 : Only (· = w.heap.size + 1) u5 W6 := by rw [← hW6]; exact Only.setCell _ _ _ rfl
  have HX6 : Hid (W6.heap[w.heap.size + 1]? = some (.cells #[.int .i64 n0, .int .u64 n1, .int .u64 n2, .int .i64 n3, .int .i64 n4, .int .u64 n5] 114 (0, 0))) := Lib.hid (by rw [← hW6, heap_setCell_same _ _ 5 _ _ _ hx5]; rfl)
  have HQ6 := Lib.hid ((hoc5.2.2.2.2 _ (row_lt HQu5.out) (by omega)).trans HQu5.out)
  have HR6 : Hid (RdS w0 g st6 W6) := Lib.hid (hr5.only hoc5 HNE2.out)
  have HO6 : Hid (Only (· = g) w W6) := Lib.hid (only_new HO5.out ho5 hoc5 (by omega))
  clear hr5 ho5 hs5 hx5 hoc5 HQu5 HN5 HR5 HX5 HQ5 HO5 hW5 HP5
  have hone : (#[.int .i64 n0, .int .u64 n1, .int .u64 n2, .int .i64 n3, .int .i64 n4, .int .u64 n5] : Array Value).all (·.oneCell') = true := by simp [Value.oneCell']
  obtain ⟨WZ, hWZ⟩ : ∃ q, W6.setRow w.heap.size #[.int .i64 n0, .int .u64 n1, .int .u64 n2, .int .i64 n3, .int .i64 n4, .int .u64 n5] = q := ⟨_, rfl⟩
  have HQZ : Hid (WZ.heap[w.heap.size]? = some (.cells #[.int .i64 n0, .int .u64 n1, .int .u64 n2, .int .i64 n3, .int .i64 n4, .int .u64 n5] 114 (0, 0))) := Lib.hid (by rw [← hWZ]; exact setRow_heap _ _ _ _ _ _ HQ6.out)
  have hoz : Only (· = w.heap.size) W6 WZ := by rw [← hWZ]; exact only_row _ _ _
  have HRZ : Hid (RdS w0 g st6 WZ) := Lib.hid (HR6.out.only hoz HNE.out)
  have HOZ : Hid (Only (· = g) w WZ) := Lib.hid (only_new HO6.out (Only.refl _ _) hoz (by omega))
  clear hoz
  go_wp2_with (first
    | (with_reducible refine wpList_load_row rfl 114 (.tmp 3) rfl (w.heap.size + 1) rfl 114 #[.int .i64 n0, .int .u64 n1, .int .u64 n2, .int .i64 n3, .int .i64 n4, .int .u64 n5] (0, 0) _ HX6.out Tryz.underlying114 rfl (by kernel_rfl) ?_)
    | (with_reducible refine wpList_store_row rfl 114 (.tmp 2) (.tmp 25) rfl w.heap.size #[.int .i64 n0, .int .u64 n1, .int .u64 n2, .int .i64 n3, .int .i64 n4, .int .u64 n5] rfl rfl 114 _ HQ6.out (by kernel_rfl) rfl hone ?_; rw [hWZ]; clear hWZ))
  refine bodyPost_ret (v := .agg #[.int .i64 n0, .int .u64 n1, .int .u64 n2, .int .i64 n3, .int .i64 n4, .int .u64 n5]) (results_cell_row rfl _ _ w.heap.size 114 _ (0, 0) _ rfl HQZ.out Tryz.underlying114 rfl (by kernel_rfl)) rfl ?_
  exact ⟨rfl, HRZ.out, HOZ.out⟩
end Sc
end Go.Proofs.YtlfaiemebfkajaaGreatDoor
namespace Go.Proofs.YtlfaiemebfkajaaGreatDoor
open Go.ChangeShapes Go.WideShapes Go.ChangeAt Go.RowKit Go.Deep
set_option linter.unusedVariables false
set_option maxRecDepth 100000
namespace Sc
open Cm Nm Sh
abbrev zSA : Array Value := #[.int .u64 0, .int .u64 0, .slice none 0 0, .int .i64 0, .int .u64 0, .slice none 0 0, .slice none 0 0]
theorem own_far {w w2 : World} {B sz n : Nat} {e : TypeId} {v : Value} {xs : List Value} {row : Option Nat} (h : w.ownsRow B e sz v n xs) (hg : w.grownBy w2 row) (hne : ∀ g, v.ownBlock = some g → some g ≠ row) : w2.ownsRow B e sz v n xs := by
  refine ⟨h.1, ?_⟩
  rcases h.2 with q | ⟨q, cap, cur, rfl, h3, h4, h5⟩
  · exact .inl q
  · exact .inr ⟨q, cap, cur, rfl, h3, by rw [hg.block q (row_lt h4) (hne q rfl)]; exact h4, h5⟩
theorem own_apart {w : World} {B B2 sz sz2 n n2 : Nat} {e e2 : TypeId} {v v2 : Value} {xs ys : List Value} (h : w.ownsRow B e sz v n xs) (h2 : w.ownsRow B2 e2 sz2 v2 n2 ys) (hne : e ≠ e2) : ∀ g, v.ownBlock = some g → some g ≠ v2.ownBlock := by
  intro g hg hq
  rcases h2.2 with ⟨rfl, -⟩ | ⟨q, cap, cur, rfl, -, hh, -⟩
  · cases hq
  · obtain rfl : g = q := by simpa [Value.ownBlock] using hq
    exact own_ty h hh hne g hg rfl
theorem own_blk {w w' : World} {B e sz n g : Nat} {v : Value} {xs : List Value} (h : w.ownsRow B e sz v n xs) (hne : ∀ q, v.ownBlock = some q → q ≠ g) (hb : ∀ q, q < w.heap.size → q ≠ g → w'.heap[q]? = w.heap[q]?) : w'.ownsRow B e sz v n xs := by
  refine ⟨h.1, ?_⟩
  rcases h.2 with h2 | ⟨q, cap, cur, rfl, h3, h4, h5⟩
  · exact .inl h2
  · exact .inr ⟨q, cap, cur, rfl, h3, (hb q (row_lt h4) (hne q rfl)).trans h4, h5⟩
theorem own_cellx {w : World} {B e sz n g j : Nat} {v u : Value} {xs : List Value} {cs : Array Value} {t : TypeId} {fr : Nat × Nat} (h : w.ownsRow B e sz v n xs) (hg : w.heap[g]? = some (.cells cs t fr)) (hne : e ≠ t) : (w.setCell ⟨g, j, none⟩ u).ownsRow B e sz v n xs :=
  own_blk (g := g) h (own_ty h hg hne) fun q _ hq => Below.heap_setCell w ⟨g, j, none⟩ u q (by simpa using hq)
/-- what is known while a snapshot is read -/
def Inv (w w0 : World) (g : Nat) (st : Pst) (s : Sho) (vn vh vl : Value) (wr : World) : Prop :=
  wr.heap[w.heap.size + 1]? = some (.cells (sArr s vn vh vl) 31 (0, 0)) ∧ wr.heap[w.heap.size]? = some (.cells zSA 31 (0, 0)) ∧ OwnI wr w.heap.size vn s.nodes ∧ OwnR 5 heldC 110 wr w.heap.size vh s.led.held ∧ OwnR 6 lastC 114 wr w.heap.size vl s.led.last ∧ RdS w0 g st wr ∧ Only (· = g) w wr
theorem own_ge {w : World} {B e sz n : Nat} {v : Value} {xs : List Value} (h : w.ownsRow B e sz v n xs) {g : Nat} (hg : g < B) : ∀ q, v.ownBlock = some q → q ≠ g := fun q hq hn => by
  have := (World.ownsRow.lt h q hq).1
  omega
theorem Inv.call {w w0 wr w' : World} {g : Nat} {st st' : Pst} {s : Sho} {vn vh vl : Value} (h : Inv w w0 g st s vn vh vl wr) (hg : g < w.heap.size) (hr : RdS w0 g st' w') (ho : Only (· = g) wr w') : Inv w w0 g st' s vn vh vl w' := by
  obtain ⟨h1, h2, h3, h4, h5, h6, h7⟩ := h
  have hb : ∀ q, q < wr.heap.size → q ≠ g → w'.heap[q]? = wr.heap[q]? := fun q hq hn => ho.2.2.2.2 q hq hn
  exact ⟨(hb _ (row_lt h1) (by omega)).trans h1, (hb _ (row_lt h2) (by omega)).trans h2, own_blk h3 (own_ge h3 hg) hb, own_blk h4 (own_ge h4 hg) hb, own_blk h5 (own_ge h5 hg) hb, hr, h7.trans ho⟩
theorem Inv.alloc {w w0 wr : World} {g : Nat} {st : Pst} {s : Sho} {vn vh vl : Value} (h : Inv w w0 g st s vn vh vl wr) (hg : g < w.heap.size) (o : Obj) : Inv w w0 g st s vn vh vl (wr.alloc o) :=
  h.call hg (h.2.2.2.2.2.1.block (((Below.refl wr.heap.size wr).alloc (Nat.le_refl _) o).block g h.2.2.2.2.2.1.lt)) (Only.alloc _ _ _)
theorem Inv.set {w w0 wr : World} {g j : Nat} {st : Pst} {s s' : Sho} {vn vh vl u : Value} (h : Inv w w0 g st s vn vh vl wr) (hg : g < w.heap.size) (hrow : (wr.setCell ⟨w.heap.size + 1, j, none⟩ u).heap[w.heap.size + 1]? = some (.cells (sArr s' vn vh vl) 31 (0, 0))) (hn : s'.nodes = s.nodes) (hh : s'.led.held = s.led.held) (hl : s'.led.last = s.led.last) : Inv w w0 g st s' vn vh vl (wr.setCell ⟨w.heap.size + 1, j, none⟩ u) := by
  obtain ⟨h1, h2, h3, h4, h5, h6, h7⟩ := h
  have hx : Only (· = w.heap.size + 1) wr (wr.setCell ⟨w.heap.size + 1, j, none⟩ u) := Only.setCell _ _ _ rfl
  refine ⟨hrow, (hx.2.2.2.2 _ (row_lt h2) (by omega)).trans h2, by rw [hn]; exact own_cellx h3 h1 (by decide), by rw [hh]; exact own_cellx h4 h1 (by decide), by rw [hl]; exact own_cellx h5 h1 (by decide), h6.only hx (by omega), only_new h7 (Only.refl _ _) hx (by omega)⟩
theorem Inv.index {w w0 wr : World} {g : Nat} {st : Pst} {s : Sho} {vn vh vl : Value} (h : Inv w w0 g st s vn vh vl wr) (hg : g < w.heap.size) (n : Int) : Inv w w0 g st { s with index := n } vn vh vl (wr.setCell ⟨w.heap.size + 1, 0, none⟩ (.int .u64 n)) :=
  h.set hg (by rw [heap_setCell_same _ _ 0 _ _ _ h.1]; rfl) rfl rfl rfl
theorem Inv.term {w w0 wr : World} {g : Nat} {st : Pst} {s : Sho} {vn vh vl : Value} (h : Inv w w0 g st s vn vh vl wr) (hg : g < w.heap.size) (n : Int) : Inv w w0 g st { s with term := n } vn vh vl (wr.setCell ⟨w.heap.size + 1, 1, none⟩ (.int .u64 n)) :=
  h.set hg (by rw [heap_setCell_same _ _ 1 _ _ _ h.1]; rfl) rfl rfl rfl
theorem Inv.limit {w w0 wr : World} {g : Nat} {st : Pst} {s : Sho} {vn vh vl : Value} (h : Inv w w0 g st s vn vh vl wr) (hg : g < w.heap.size) (n : Int) : Inv w w0 g st { s with led := { s.led with limit := n } } vn vh vl (wr.setCell ⟨w.heap.size + 1, 3, none⟩ (.int .i64 n)) :=
  h.set hg (by rw [heap_setCell_same _ _ 3 _ _ _ h.1]; rfl) rfl rfl rfl
theorem Inv.next {w w0 wr : World} {g : Nat} {st : Pst} {s : Sho} {vn vh vl : Value} (h : Inv w w0 g st s vn vh vl wr) (hg : g < w.heap.size) (n : Int) : Inv w w0 g st { s with led := { s.led with next := n } } vn vh vl (wr.setCell ⟨w.heap.size + 1, 4, none⟩ (.int .u64 n)) :=
  h.set hg (by rw [heap_setCell_same _ _ 4 _ _ _ h.1]; rfl) rfl rfl rfl
theorem own_up {w wr : World} {e sz n : Nat} {v : Value} {xs : List Value} (h : wr.ownsRow w.heap.size e sz v n xs) : ∀ q, v.ownBlock = some q → w.heap.size ≤ q := fun q hq => (World.ownsRow.lt h q hq).1
theorem only_grown {w wr w' : World} {g : Nat} {row : Option Nat} (h : Only (· = g) w wr) (hg : wr.grownBy w' row) (hr : ∀ q, row = some q → w.heap.size ≤ q) : Only (· = g) w w' := by
  refine ⟨hg.os.trans h.1, hg.tape.trans h.2.1, hg.output.trans h.2.2.1, Nat.le_trans h.2.2.2.1 hg.size, fun k hk hn => ?_⟩
  rw [hg.block k (Nat.lt_of_lt_of_le hk h.2.2.2.1) (fun e => by have := hr k e.symm; omega)]
  exact h.2.2.2.2 k hk hn
theorem RdS.grown {w0 wr w' : World} {g B : Nat} {st : Pst} {row : Option Nat} (h : RdS w0 g st wr) (hg : wr.grownBy w' row) (hB : g < B) (hr : ∀ q, row = some q → B ≤ q) : RdS w0 g st w' :=
  h.block (hg.block g h.lt (fun e => by have := hr g e.symm; omega))
theorem row_grown {wr w' : World} {B e sz n q : Nat} {v : Value} {xs : List Value} {cs : Array Value} {t : TypeId} {fr : Nat × Nat} (h : wr.heap[q]? = some (.cells cs t fr)) (own : wr.ownsRow B e sz v n xs) (hne : e ≠ t) (hg : wr.grownBy w' v.ownBlock) : w'.heap[q]? = some (.cells cs t fr) := by
  rw [hg.block q (row_lt h) (fun e1 => own_ty own h hne q e1.symm rfl)]
  exact h
/-- a number more -/
theorem Inv.appn {w w0 wr w' : World} {g : Nat} {st : Pst} {s : Sho} {vn vh vl v' : Value} {x : Int} (h : Inv w w0 g st s vn vh vl wr) (hg : g < w.heap.size) (own' : OwnI w' w.heap.size v' (s.nodes ++ [x])) (hgr : wr.grownBy w' vn.ownBlock) : Inv w w0 g st { s with nodes := s.nodes ++ [x] } v' vh vl (w'.setCell ⟨w.heap.size + 1, 2, none⟩ v') := by
  obtain ⟨h1, h2, h3, h4, h5, h6, h7⟩ := h
  have r1 := row_grown h1 h3 (by decide) hgr
  have r2 := row_grown h2 h3 (by decide) hgr
  have r4 := own_far h4 hgr (own_apart h4 h3 (by decide))
  have r5 := own_far h5 hgr (own_apart h5 h3 (by decide))
  have hx : Only (· = w.heap.size + 1) w' (w'.setCell ⟨w.heap.size + 1, 2, none⟩ v') := Only.setCell _ _ _ rfl
  refine ⟨by rw [heap_setCell_same _ _ 2 _ _ _ r1]; rfl, (hx.2.2.2.2 _ (row_lt r2) (by omega)).trans r2, own_cellx own' r1 (by decide), own_cellx r4 r1 (by decide), own_cellx r5 r1 (by decide), (h6.grown hgr hg (own_up h3)).only hx (by omega), only_new (only_grown h7 hgr (own_up h3)) (Only.refl _ _) hx (by omega)⟩
theorem Inv.apph {w w0 wr w' : World} {g : Nat} {st : Pst} {s : Sho} {vn vh vl v' : Value} {x : Held} (h : Inv w w0 g st s vn vh vl wr) (hg : g < w.heap.size) (own' : OwnR 5 heldC 110 w' w.heap.size v' (s.led.held ++ [x])) (hgr : wr.grownBy w' vh.ownBlock) : Inv w w0 g st { s with led := { s.led with held := s.led.held ++ [x] } } vn v' vl (w'.setCell ⟨w.heap.size + 1, 5, none⟩ v') := by
  obtain ⟨h1, h2, h3, h4, h5, h6, h7⟩ := h
  have r1 := row_grown h1 h4 (by decide) hgr
  have r2 := row_grown h2 h4 (by decide) hgr
  have r3 := own_far h3 hgr (own_apart h3 h4 (by decide))
  have r5 := own_far h5 hgr (own_apart h5 h4 (by decide))
  have hx : Only (· = w.heap.size + 1) w' (w'.setCell ⟨w.heap.size + 1, 5, none⟩ v') := Only.setCell _ _ _ rfl
  refine ⟨by rw [heap_setCell_same _ _ 5 _ _ _ r1]; rfl, (hx.2.2.2.2 _ (row_lt r2) (by omega)).trans r2, own_cellx r3 r1 (by decide), own_cellx own' r1 (by decide), own_cellx r5 r1 (by decide), (h6.grown hgr hg (own_up h4)).only hx (by omega), only_new (only_grown h7 hgr (own_up h4)) (Only.refl _ _) hx (by omega)⟩
theorem Inv.appl {w w0 wr w' : World} {g : Nat} {st : Pst} {s : Sho} {vn vh vl v' : Value} {x : LastR} (h : Inv w w0 g st s vn vh vl wr) (hg : g < w.heap.size) (own' : OwnR 6 lastC 114 w' w.heap.size v' (s.led.last ++ [x])) (hgr : wr.grownBy w' vl.ownBlock) : Inv w w0 g st { s with led := { s.led with last := s.led.last ++ [x] } } vn vh v' (w'.setCell ⟨w.heap.size + 1, 6, none⟩ v') := by
  obtain ⟨h1, h2, h3, h4, h5, h6, h7⟩ := h
  have r1 := row_grown h1 h5 (by decide) hgr
  have r2 := row_grown h2 h5 (by decide) hgr
  have r3 := own_far h3 hgr (own_apart h3 h5 (by decide))
  have r4 := own_far h4 hgr (own_apart h4 h5 (by decide))
  have hx : Only (· = w.heap.size + 1) w' (w'.setCell ⟨w.heap.size + 1, 6, none⟩ v') := Only.setCell _ _ _ rfl
  refine ⟨by rw [heap_setCell_same _ _ 6 _ _ _ r1]; rfl, (hx.2.2.2.2 _ (row_lt r2) (by omega)).trans r2, own_cellx r3 r1 (by decide), own_cellx r4 r1 (by decide), own_cellx own' r1 (by decide), (h6.grown hgr hg (own_up h5)).only hx (by omega), only_new (only_grown h7 hgr (own_up h5)) (Only.refl _ _) hx (by omega)⟩
theorem Inv.drew {w w0 wr : World} {g : Nat} {st : Pst} {s : Sho} {vn vh vl : Value} (h : Inv w w0 g st s vn vh vl wr) : Inv w w0 g st s vn vh vl wr.drew := by
  obtain ⟨h1, h2, h3, h4, h5, h6, h7⟩ := h
  exact ⟨h1, h2, h3, h4, h5, h6, h7.trans (Below.only ((Below.refl _ _).drew) _)⟩
/-- an append to what the call owns, at a step of a region that draws its order -/
theorem stepRx {α : Type} {sz : Nat} {C : α → List Value} {P : Program} (hC : ∀ x, (C x).length = sz) {t e : TypeId} (ht : P.underlying t = some (.slice e)) {z : Value} {bytes : Nat} (hzs : z.cells.size = sz) (hsz : 0 < sz) (hinfo : (P.info? e).map (fun i => (i.zero, i.size, i.bytes)) = some (some z, sz, bytes))
    {w : World} {ops : Array Oper} {o : Oper} {a : Act} {K : Act → World → Prop} {Q : Exit → Act → World → Prop} {E : Prop} (hgd : o.guard = none) (s x : Operand)
    (ho : o.op = .call { callee := .builtin .append, args := #[s, x], argTypes := #[t, t] }) (base : Nat)
    (v : Value) (xs : List α) (hs : a.eval s = v) (hown : OwnR sz C e w base v xs) (u : Value) (zs : List α) (hx : a.eval x = u) (hsl : SlR sz C w u zs) (hne : 0 < zs.length) (h1c : ∀ x ∈ zs, ∀ u ∈ C x, u.oneCell' = true)
    (h63 : xs.length + zs.length ≤ maxLen) (hb : (xs.length + zs.length) * bytes ≤ 140737488355328) (hbase : base ≤ w.heap.size)
    (H : Nat) (hH : w.heap.size = H)
    (h : ∀ g cap w', OwnR sz C e w' base (.slice (some ⟨g, 0, none⟩) (xs.length + zs.length) cap) (xs ++ zs) → w.grownBy w' v.ownBlock → (v.ownBlock = some g ∨ g = H) → K (a.put o.dst (.slice (some ⟨g, 0, none⟩) (xs.length + zs.length) cap)) w') :
    if Region.wanted o (yielded ops a.tmps) = true then Oper.wp P o a w K Q else E := by
  have hw : Region.wanted o (yielded ops a.tmps) = true := by simp [Region.wanted, hgd]
  rw [if_pos hw]
  obtain ⟨i0, hi, hz0, hz1, hz2⟩ := info_parts hinfo
  rcases hsl.src hC with ⟨_, h0, _⟩ | ⟨ad, c, rfl, hc⟩
  · omega
  · refine wp_append_lies w s x t ho base e i0 z sz bytes ht hi hz0 hz1 hz2 hzs hsz v xs.length _ hs hown ad zs.length c (zs.flatMap C) hx (flat_len hC zs) hc (fun u hu => ?_) hne h63 hb hbase H hH fun g cap w' h2 h3 h4 _ => h g cap w' ?_ h3 h4
    · obtain ⟨y, hy1, hy⟩ := List.mem_flatMap.1 hu
      exact h1c y hy1 u hy
    · unfold OwnR
      rw [List.flatMap_append, List.length_append]
      exact h2
/-- an append of numbers, at a step of a region that draws its order -/
theorem stepK {k : IntKind} {P : Program} {t e : TypeId} (ht : P.underlying t = some (.slice e)) {z : Value} {bytes : Nat} (hzs : z.cells.size = 1) (hinfo : (P.info? e).map (fun i => (i.zero, i.size, i.bytes)) = some (some z, 1, bytes))
    {w : World} {ops : Array Oper} {o : Oper} {a : Act} {K : Act → World → Prop} {Q : Exit → Act → World → Prop} {E : Prop} (hgd : o.guard = none) (s x : Operand)
    (ho : o.op = .call { callee := .builtin .append, args := #[s, x], argTypes := #[t, t] }) (base : Nat)
    (v : Value) (xs : List Int) (hs : a.eval s = v) (hown : OwnK k e w base v xs) (u : Value) (zs : List Int) (hx : a.eval x = u) (hsl : Sl k w u zs) (hne : 0 < zs.length)
    (h63 : xs.length + zs.length ≤ maxLen) (hb : (xs.length + zs.length) * bytes ≤ 140737488355328) (hbase : base ≤ w.heap.size)
    (h : ∀ v' w', OwnK k e w' base v' (xs ++ zs) → w.grownBy w' v.ownBlock → K (a.put o.dst v') w') :
    if Region.wanted o (yielded ops a.tmps) = true then Oper.wp P o a w K Q else E := by
  have hw : Region.wanted o (yielded ops a.tmps) = true := by simp [Region.wanted, hgd]
  rw [if_pos hw]
  obtain ⟨i0, hi, hz0, hz1, hz2⟩ := info_parts hinfo
  rcases hsl.src with ⟨_, h0, _⟩ | ⟨ad, c, rfl, hc⟩
  · omega
  · refine wp_append_lies w s x t ho base e i0 z 1 bytes ht hi hz0 hz1 hz2 hzs (by decide) v xs.length _ hs hown ad zs.length c (zs.map (Value.int k)) hx (by simp) hc (fun u hu => ?_) hne h63 hb hbase w.heap.size rfl fun g cap w' h2 h3 h4 _ => h _ w' ?_ h3
    · obtain ⟨n, -, rfl⟩ := List.mem_map.1 hu
      rfl
    · unfold OwnK
      rw [List.map_append, List.length_append]
      exact h2
theorem rowE_h {w0 w : World} {g : Nat} {st stn : Pst} {n0 n1 n2 n3 n4 : Int} {f : FuncId} {args : Array Value} (h : heldS st = (⟨n0, n1, n2, n3, n4⟩, stn)) (c : Calls Tryz.prog f args w (RowE w0 g (heldS st).2 (.agg (heldC (heldS st).1).toArray) w)) : Calls Tryz.prog f args w (RowE w0 g stn (.agg #[.int .i64 n0, .int .i64 n1, .int .u64 n2, .int .u64 n3, .int .u64 n4]) w) := by
  rw [h] at c
  exact c
theorem rowE_l {w0 w : World} {g : Nat} {st stn : Pst} {n0 n1 n2 n3 n4 n5 : Int} {f : FuncId} {args : Array Value} (h : lastS st = (⟨n0, n1, n2, n3, n4, n5⟩, stn)) (c : Calls Tryz.prog f args w (RowE w0 g (lastS st).2 (.agg (lastC (lastS st).1).toArray) w)) : Calls Tryz.prog f args w (RowE w0 g stn (.agg #[.int .i64 n0, .int .u64 n1, .int .u64 n2, .int .i64 n3, .int .i64 n4, .int .u64 n5]) w) := by
  rw [h] at c
  exact c
theorem Inv.sz {w w0 wr : World} {g : Nat} {st : Pst} {s : Sho} {vn vh vl : Value} (h : Inv w w0 g st s vn vh vl wr) : w.heap.size ≤ wr.heap.size := h.2.2.2.2.2.2.2.2.2.1
theorem own_formx {w : World} {B e sz n : Nat} {v : Value} {xs : List Value} (h : w.ownsRow B e sz v n xs) : ∃ a m q, v = .slice a m q := by
  rcases h.2 with ⟨h, _⟩ | ⟨k, cap, cur, e, _⟩
  · exact ⟨_, _, _, h⟩
  · exact ⟨_, _, _, e⟩
/-- what reader.shot tells -/
def ShotE (w0 : World) (g : Nat) (r : Sho × Pst) (w : World) (e : Ending) (w' : World) : Prop := ∃ vn vh vl, e = .returned (.agg (sArr r.1 vn vh vl)) ∧ OwnI w' w.heap.size vn r.1.nodes ∧ OwnR 5 heldC 110 w' w.heap.size vh r.1.led.held ∧ OwnR 6 lastC 114 w' w.heap.size vl r.1.led.last ∧ RdS w0 g r.2 w' ∧ Only (· = g) w w'
set_option maxHeartbeats 8000000 in
theorem shot_any (w0 : World) (g : Nat) (st : Pst) (w : World) (hr : RdS w0 g st w) (hb : Below w0.heap.size w0 w) (hg : w0.heap.size ≤ g) :
    Calls Tryz.prog 88 #[.pointer (some ⟨g, 0, none⟩)] w (ShotE w0 g (shotS st) w) := by
  have hgl : g < w.heap.size := hr.lt
  obtain ⟨W0, hW0⟩ : ∃ q, (w.alloc (.cells zSA 31)).alloc (.cells zSA 31) = q := ⟨_, rfl⟩
  have hbo : Below w.heap.size w W0 := by rw [← hW0]; exact ((Below.refl _ _).alloc (Nat.le_refl _) _).alloc (by simp) _
  have HI : Hid (Inv w w0 g st zS (.slice none 0 0) (.slice none 0 0) (.slice none 0 0) W0) := Lib.hid ⟨by rw [← hW0]; exact heap_alloc2_new _ _ _, by rw [← hW0]; exact heap_alloc2_old _ _ _, OwnK.nil _ _ _ _, OwnR.nil _ _ _, OwnR.nil _ _ _, hr.block (hbo.block g hgl), Below.only hbo _⟩
  have HBW := Lib.hid hb
  have HG := Lib.hid hg
  have HGL := Lib.hid hgl
  clear hr hb hbo hg hgl
  go_enter Tryz.func88, Tryz.ntmps88
  go_wp2_with fail
  refine (begin_any w0 g st _ HI.out.2.2.2.2.2.1 (HI.out.2.2.2.2.2.2.below HBW.out HBW.out.size (fun q hq => hq ▸ HG.out))).mono ?_
  rintro E u0 ⟨rfl, hrk, hok, -⟩
  have HIB := Lib.hid (HI.out.call HGL.out hrk hok)
  clear hrk hok HI hW0
  have HI := HIB
  clear HIB
  go_wp2_with fail
  have hcal : Calls Tryz.prog _ _ _ (NumE w0 g (sh1 st) (.int .u64 (sh1 st).1) _) := wide_any w0 g (beginS st) _ HI.out.2.2.2.2.2.1 (HI.out.2.2.2.2.2.2.below HBW.out HBW.out.size (fun q hq => hq ▸ HG.out))
  refine hcal.mono ?_
  clear hcal
  rintro E u1 ⟨rfl, hrk, hok, -⟩
  have HI1 := Lib.hid (HI.out.call HGL.out hrk hok)
  clear hrk hok HI
  have ck := (cell_of_row _ _ 0 _ _ _ HI1.out.1).trans rfl
  have fk : u1.frozen? ⟨w.heap.size + 1, 0, none⟩ = false := frozen_of_row _ _ 0 _ _ HI1.out.1
  obtain ⟨W1, hW1⟩ : ∃ q, u1.setCell ⟨w.heap.size + 1, 0, none⟩ (.int .u64 (sh1 st).1) = q := ⟨_, rfl⟩
  have HI : Hid (Inv w w0 g (sh1 st).2 ⟨(sh1 st).1, 0, [], ⟨0, 0, [], []⟩⟩ (.slice none 0 0) (.slice none 0 0) (.slice none 0 0) W1) := Lib.hid (by rw [← hW1]; exact HI1.out.index HGL.out _)
  go_wp2_with fail
  clear ck fk HI1 hW1
  have hcal : Calls Tryz.prog _ _ _ (NumE w0 g (sh2 st) (.int .u64 (sh2 st).1) _) := wide_any w0 g (sh1 st).2 _ HI.out.2.2.2.2.2.1 (HI.out.2.2.2.2.2.2.below HBW.out HBW.out.size (fun q hq => hq ▸ HG.out))
  refine hcal.mono ?_
  clear hcal
  rintro E u2 ⟨rfl, hrk, hok, -⟩
  have HI2 := Lib.hid (HI.out.call HGL.out hrk hok)
  clear hrk hok HI
  have ck := (cell_of_row _ _ 1 _ _ _ HI2.out.1).trans rfl
  have fk : u2.frozen? ⟨w.heap.size + 1, 1, none⟩ = false := frozen_of_row _ _ 1 _ _ HI2.out.1
  obtain ⟨W2, hW2⟩ : ∃ q, u2.setCell ⟨w.heap.size + 1, 1, none⟩ (.int .u64 (sh2 st).1) = q := ⟨_, rfl⟩
  have HI : Hid (Inv w w0 g (sh2 st).2 ⟨(sh1 st).1, (sh2 st).1, [], ⟨0, 0, [], []⟩⟩ (.slice none 0 0) (.slice none 0 0) (.slice none 0 0) W2) := Lib.hid (by rw [← hW2]; exact HI2.out.term HGL.out _)
  go_wp2_with fail
  clear ck fk HI2 hW2
  have hcal : Calls Tryz.prog _ _ _ (NumE w0 g (sh3 st) (.int .i64 (sh3 st).1) _) := many_any w0 g (sh2 st).2 _ HI.out.2.2.2.2.2.1 (HI.out.2.2.2.2.2.2.below HBW.out HBW.out.size (fun q hq => hq ▸ HG.out))
  refine hcal.mono ?_
  clear hcal
  rintro E u3 ⟨rfl, hrk, hok, -⟩
  have HI3 := Lib.hid (HI.out.call HGL.out hrk hok)
  clear hrk hok HI
  obtain ⟨K3, hK3⟩ : ∃ K : Nat, (sh3 st).1 = (K : Int) ∧ (sh3 st).1.toNat = K := ⟨(sh3 st).1.toNat, by have := (pnum_bd 64 (by decide) (sh2 st).2).1; have e : (sh3 st).1 = (pnum 64 (sh2 st).2).1 := rfl; omega, rfl⟩
  have hle3 : K3 ≤ 64 := by have := (pnum_bd 64 (by decide) (sh2 st).2).2; have e : (sh3 st).1 = (pnum 64 (sh2 st).2).1 := rfl; have := hK3.1; omega
  have HK3 := Lib.hid hK3.2
  rw [hK3.1]
  have HI := HI3
  clear hK3 HI3
  go_wp2_with fail
  have HIK := HI
  clear HI
  go_loopw [14] (fun i wr => ∃ (k : Nat) (vx : Value), k ≤ K3 ∧ i = .int .i64 k ∧ Hid (Inv w w0 g (listS smallS k (sh3 st).2).2 ⟨(sh1 st).1, (sh2 st).1, (listS smallS k (sh3 st).2).1, ⟨0, 0, [], []⟩⟩ vx (.slice none 0 0) (.slice none 0 0) wr)) (fun i _ => K3 - (intOf i).toNat)
  case atStart => exact ⟨0, (.slice none 0 0), Nat.zero_le _, rfl, HIK⟩
  case round =>
    clear HIK
    obtain ⟨k, vx, hk, rfl, HI⟩ := hrel
    by_cases hlt : k < K3
    · rcases hL : listS smallS k (sh3 st).2 with ⟨lk, stk⟩
      have HLK := Lib.hid hL
      have HLEN : Hid (lk.length ≤ 64) := Lib.hid (by have q := listS_len smallS k (sh3 st).2; rw [hL] at q; simp only [] at q; omega)
      rw [hL] at HI
      clear hL
      have WFX : Hid ((Lit.int .i64 (smallS stk).1).wf = true) := Lib.hid (by rw [show (smallS stk).1 = (pnum 65535 stk).1 from rfl]; obtain ⟨h1, h2⟩ := pnum_bd 65535 (by decide) stk; simp [Lit.wf, IntKind.min, IntKind.max, IntKind.signed, IntKind.bits]; omega)
      have HNX : Hid (listS smallS (k + 1) (sh3 st).2 = (lk ++ [(smallS stk).1], (smallS stk).2)) := Lib.hid (by rw [listS, HLK.out])
      have hkz : (k : Int) < (K3 : Int) := by omega
      go_upto_region 7 with (fail)
      have HI := Lib.hid (HI.out.drew)
      refine wp_region_held_drew (S := fun _ => True) (by kernel_rfl) trivial (fun hHeld => ?_)
      refine wpAnyH_take (i := 0) (v := .pointer (some ⟨(w.heap.size + 1), 2, none⟩)) rfl (by kernel_rfl) (by kernel_rfl) (by kernel_rfl) (fun _ _ _ h => h) (Or.inl ⟨by kernel_rfl, ?_⟩) (by assumption) ?_
      · intro wx hSw
        clear hSw hHeld
        go_simp
        try first | with_reducible rfl | kernel_rfl
      simp only [Act.put, List.getElem_toArray, List.getElem_cons_zero, List.setIfInBounds_toArray, List.set_cons_succ, List.set_cons_zero]
      refine wpAnyH_take (i := 2) (v := .pointer (some ⟨g, 0, none⟩)) rfl (by kernel_rfl) (by kernel_rfl) (by kernel_rfl) (fun _ _ _ h => h) (Or.inl ⟨by kernel_rfl, ?_⟩) (by assumption) ?_
      · intro wx hSw
        clear hSw hHeld
        go_simp
        try first | with_reducible rfl | kernel_rfl
      simp only [Act.put, List.getElem_toArray, List.getElem_cons_succ, List.getElem_cons_zero, List.setIfInBounds_toArray, List.set_cons_succ, List.set_cons_zero]
      refine wpAnyH_ready (rs := [1, 3]) (by kernel_rfl) (by simp) ?_
      refine (AllReadyH.cons rfl (fun K hK => ?_) (AllReadyH.cons rfl (fun K hK => ?_) AllReadyH.nil))
      · have hci := (cell_of_row _ _ 2 _ _ _ HI.out.1).trans rfl
        go_simp
        clear hci
        refine hK.out _ _ trivial (fun hHeld => ?_)
        clear hK K hHeld
        refine wpAnyH_ready (rs := [3]) (by kernel_rfl) (by simp) ?_
        refine (AllReadyH.cons rfl (fun K hK => ?_) AllReadyH.nil)
        go_simp
        refine ((small_any' w0 g stk _ HI.out.2.2.2.2.2.1 (HI.out.2.2.2.2.2.2.below HBW.out HBW.out.size (fun q hq => hq ▸ HG.out)))).mono ?_
        rintro E wk ⟨rfl, hrk, hok, -⟩
        have HI := Lib.hid (HI.out.call HGL.out hrk hok)
        clear hrk hok
        refine hK.out _ _ trivial (fun hHeld => ?_)
        clear hK K hHeld
        refine wpAnyH_ready (rs := [4]) (by kernel_rfl) (by simp) ?_
        refine (AllReadyH.cons rfl (fun K hK => ?_) AllReadyH.nil)
        go_simp
        have HI := Lib.hid (HI.out.alloc HGL.out (.cells #[.int .i64 (smallS stk).1] 3))
        refine hK.out _ _ trivial (fun hHeld => ?_)
        clear hK K hHeld
        refine wpAnyH_ready (rs := [5]) (by kernel_rfl) (by simp) ?_
        refine (AllReadyH.cons rfl (fun K hK => ?_) AllReadyH.nil)
        refine stepK (k := .i64) (e := 3) Tryz.underlying25 rfl info_int rfl _ _ rfl w.heap.size vx _ rfl HI.out.2.2.1 _ [(smallS stk).1] rfl (Sl.newAt _ _ rfl _ _ rfl rfl (Nat.le_refl _) (by decide) (fun n hn => by simp only [List.mem_cons, List.not_mem_nil, or_false] at hn; subst hn; exact WFX.out)) (by simp) (by have := HLEN.out; unfold maxLen; simp; omega) (by have := HLEN.out; simp; omega) HI.out.sz ?_
        intro v' w' own' hgr
        obtain ⟨ax, mx, qx, rfl⟩ := own_formx own'
        have HXR := Lib.hid (row_grown HI.out.1 HI.out.2.2.1 (by decide) hgr)
        have ck := (cell_of_row _ _ 2 _ _ _ HXR.out).trans rfl
        have fk : w'.frozen? ⟨w.heap.size + 1, 2, none⟩ = false := frozen_of_row _ _ 2 _ _ HXR.out
        obtain ⟨WS, hWS⟩ : ∃ q, w'.setCell ⟨w.heap.size + 1, 2, none⟩ (.slice ax mx qx) = q := ⟨_, rfl⟩
        have HI2 := Lib.hid (HI.out.appn HGL.out own' hgr)
        rw [hWS] at HI2
        clear own' hgr HXR
        refine hK.out _ _ trivial (fun hHeld => ?_)
        clear hK K
        refine wpAnyH_take (i := 6) (v := .pointer (some ⟨(w.heap.size + 1), 2, none⟩)) rfl (by kernel_rfl) (by kernel_rfl) (by kernel_rfl) (fun _ _ _ h => h) (Or.inl ⟨by kernel_rfl, ?_⟩) (by assumption) ?_
        · intro wx hSw
          clear hSw hHeld
          go_simp
          try first | with_reducible rfl | kernel_rfl
        simp only [Act.put, List.getElem_toArray, List.getElem_cons_succ, List.getElem_cons_zero, List.setIfInBounds_toArray, List.set_cons_succ, List.set_cons_zero]
        clear hHeld
        refine wpAnyH_ready (rs := [7]) (by kernel_rfl) (by simp) ?_
        refine (AllReadyH.cons rfl (fun K hK => ?_) AllReadyH.nil)
        go_simp
        refine hK.out _ _ trivial (fun hHeld => ?_)
        clear hK K hHeld
        refine wpAnyH_done (by kernel_rfl) ?_ _
        clear ck fk
        go_wp2_with fail
        go_roundw
        case rel => exact ⟨k + 1, _, by omega, by go_num, Lib.hid (by rw [HNX.out]; exact HI2.out)⟩
        case measure => simp [intOf]; omega
      · go_simp
        refine ((small_any' w0 g stk _ HI.out.2.2.2.2.2.1 (HI.out.2.2.2.2.2.2.below HBW.out HBW.out.size (fun q hq => hq ▸ HG.out)))).mono ?_
        rintro E wk ⟨rfl, hrk, hok, -⟩
        have HI := Lib.hid (HI.out.call HGL.out hrk hok)
        clear hrk hok
        refine hK.out _ _ trivial (fun hHeld => ?_)
        clear hK K hHeld
        refine wpAnyH_ready (rs := [1, 4]) (by kernel_rfl) (by simp) ?_
        refine (AllReadyH.cons rfl (fun K hK => ?_) (AllReadyH.cons rfl (fun K hK => ?_) AllReadyH.nil))
        · have hci := (cell_of_row _ _ 2 _ _ _ HI.out.1).trans rfl
          go_simp
          clear hci
          refine hK.out _ _ trivial (fun hHeld => ?_)
          clear hK K hHeld
          refine wpAnyH_ready (rs := [4]) (by kernel_rfl) (by simp) ?_
          refine (AllReadyH.cons rfl (fun K hK => ?_) AllReadyH.nil)
          go_simp
          have HI := Lib.hid (HI.out.alloc HGL.out (.cells #[.int .i64 (smallS stk).1] 3))
          refine hK.out _ _ trivial (fun hHeld => ?_)
          clear hK K hHeld
          refine wpAnyH_ready (rs := [5]) (by kernel_rfl) (by simp) ?_
          refine (AllReadyH.cons rfl (fun K hK => ?_) AllReadyH.nil)
          refine stepK (k := .i64) (e := 3) Tryz.underlying25 rfl info_int rfl _ _ rfl w.heap.size vx _ rfl HI.out.2.2.1 _ [(smallS stk).1] rfl (Sl.newAt _ _ rfl _ _ rfl rfl (Nat.le_refl _) (by decide) (fun n hn => by simp only [List.mem_cons, List.not_mem_nil, or_false] at hn; subst hn; exact WFX.out)) (by simp) (by have := HLEN.out; unfold maxLen; simp; omega) (by have := HLEN.out; simp; omega) HI.out.sz ?_
          intro v' w' own' hgr
          obtain ⟨ax, mx, qx, rfl⟩ := own_formx own'
          have HXR := Lib.hid (row_grown HI.out.1 HI.out.2.2.1 (by decide) hgr)
          have ck := (cell_of_row _ _ 2 _ _ _ HXR.out).trans rfl
          have fk : w'.frozen? ⟨w.heap.size + 1, 2, none⟩ = false := frozen_of_row _ _ 2 _ _ HXR.out
          obtain ⟨WS, hWS⟩ : ∃ q, w'.setCell ⟨w.heap.size + 1, 2, none⟩ (.slice ax mx qx) = q := ⟨_, rfl⟩
          have HI2 := Lib.hid (HI.out.appn HGL.out own' hgr)
          rw [hWS] at HI2
          clear own' hgr HXR
          refine hK.out _ _ trivial (fun hHeld => ?_)
          clear hK K
          refine wpAnyH_take (i := 6) (v := .pointer (some ⟨(w.heap.size + 1), 2, none⟩)) rfl (by kernel_rfl) (by kernel_rfl) (by kernel_rfl) (fun _ _ _ h => h) (Or.inl ⟨by kernel_rfl, ?_⟩) (by assumption) ?_
          · intro wx hSw
            clear hSw hHeld
            go_simp
            try first | with_reducible rfl | kernel_rfl
          simp only [Act.put, List.getElem_toArray, List.getElem_cons_succ, List.getElem_cons_zero, List.setIfInBounds_toArray, List.set_cons_succ, List.set_cons_zero]
          clear hHeld
          refine wpAnyH_ready (rs := [7]) (by kernel_rfl) (by simp) ?_
          refine (AllReadyH.cons rfl (fun K hK => ?_) AllReadyH.nil)
          go_simp
          refine hK.out _ _ trivial (fun hHeld => ?_)
          clear hK K hHeld
          refine wpAnyH_done (by kernel_rfl) ?_ _
          clear ck fk
          go_wp2_with fail
          go_roundw
          case rel => exact ⟨k + 1, _, by omega, by go_num, Lib.hid (by rw [HNX.out]; exact HI2.out)⟩
          case measure => simp [intOf]; omega
        · go_simp
          have HI := Lib.hid (HI.out.alloc HGL.out (.cells #[.int .i64 (smallS stk).1] 3))
          refine hK.out _ _ trivial (fun hHeld => ?_)
          clear hK K hHeld
          refine wpAnyH_ready (rs := [1]) (by kernel_rfl) (by simp) ?_
          refine (AllReadyH.cons rfl (fun K hK => ?_) AllReadyH.nil)
          have hci := (cell_of_row _ _ 2 _ _ _ HI.out.1).trans rfl
          go_simp
          clear hci
          refine hK.out _ _ trivial (fun hHeld => ?_)
          clear hK K hHeld
          refine wpAnyH_ready (rs := [5]) (by kernel_rfl) (by simp) ?_
          refine (AllReadyH.cons rfl (fun K hK => ?_) AllReadyH.nil)
          refine stepK (k := .i64) (e := 3) Tryz.underlying25 rfl info_int rfl _ _ rfl w.heap.size vx _ rfl HI.out.2.2.1 _ [(smallS stk).1] rfl (Sl.newAt _ _ rfl _ _ rfl rfl (Nat.le_refl _) (by decide) (fun n hn => by simp only [List.mem_cons, List.not_mem_nil, or_false] at hn; subst hn; exact WFX.out)) (by simp) (by have := HLEN.out; unfold maxLen; simp; omega) (by have := HLEN.out; simp; omega) HI.out.sz ?_
          intro v' w' own' hgr
          obtain ⟨ax, mx, qx, rfl⟩ := own_formx own'
          have HXR := Lib.hid (row_grown HI.out.1 HI.out.2.2.1 (by decide) hgr)
          have ck := (cell_of_row _ _ 2 _ _ _ HXR.out).trans rfl
          have fk : w'.frozen? ⟨w.heap.size + 1, 2, none⟩ = false := frozen_of_row _ _ 2 _ _ HXR.out
          obtain ⟨WS, hWS⟩ : ∃ q, w'.setCell ⟨w.heap.size + 1, 2, none⟩ (.slice ax mx qx) = q := ⟨_, rfl⟩
          have HI2 := Lib.hid (HI.out.appn HGL.out own' hgr)
          rw [hWS] at HI2
          clear own' hgr HXR
          refine hK.out _ _ trivial (fun hHeld => ?_)
          clear hK K
          refine wpAnyH_take (i := 6) (v := .pointer (some ⟨(w.heap.size + 1), 2, none⟩)) rfl (by kernel_rfl) (by kernel_rfl) (by kernel_rfl) (fun _ _ _ h => h) (Or.inl ⟨by kernel_rfl, ?_⟩) (by assumption) ?_
          · intro wx hSw
            clear hSw hHeld
            go_simp
            try first | with_reducible rfl | kernel_rfl
          simp only [Act.put, List.getElem_toArray, List.getElem_cons_succ, List.getElem_cons_zero, List.setIfInBounds_toArray, List.set_cons_succ, List.set_cons_zero]
          clear hHeld
          refine wpAnyH_ready (rs := [7]) (by kernel_rfl) (by simp) ?_
          refine (AllReadyH.cons rfl (fun K hK => ?_) AllReadyH.nil)
          go_simp
          refine hK.out _ _ trivial (fun hHeld => ?_)
          clear hK K hHeld
          refine wpAnyH_done (by kernel_rfl) ?_ _
          clear ck fk
          go_wp2_with fail
          go_roundw
          case rel => exact ⟨k + 1, _, by omega, by go_num, Lib.hid (by rw [HNX.out]; exact HI2.out)⟩
          case measure => simp [intOf]; omega
    · obtain rfl : K3 = k := by omega
      have hkz : ¬ ((K3 : Int) < (K3 : Int)) := by omega
      have HI4 : Hid (Inv w w0 g (sh4 st).2 ⟨(sh1 st).1, (sh2 st).1, (sh4 st).1, ⟨0, 0, [], []⟩⟩ vx (.slice none 0 0) (.slice none 0 0) wr) := Lib.hid (by have q := HI.out; rw [← HK3.out] at q; exact q)
      clear HI
      have HI := HI4
      clear HI4
      obtain ⟨v1, hv1⟩ : ∃ q, q = vx := ⟨_, rfl⟩
      rw [← hv1] at HI
      clear hv1 hlt
      go_wp2_with fail
      have hcal : Calls Tryz.prog _ _ _ (NumE w0 g (sh5 st) (.int .i64 (sh5 st).1) _) := small_any' w0 g (sh4 st).2 _ HI.out.2.2.2.2.2.1 (HI.out.2.2.2.2.2.2.below HBW.out HBW.out.size (fun q hq => hq ▸ HG.out))
      refine hcal.mono ?_
      clear hcal
      rintro E u5 ⟨rfl, hrk, hok, -⟩
      have HI5 := Lib.hid (HI.out.call HGL.out hrk hok)
      clear hrk hok HI
      have ck := (cell_of_row _ _ 3 _ _ _ HI5.out.1).trans rfl
      have fk : u5.frozen? ⟨w.heap.size + 1, 3, none⟩ = false := frozen_of_row _ _ 3 _ _ HI5.out.1
      obtain ⟨W5, hW5⟩ : ∃ q, u5.setCell ⟨w.heap.size + 1, 3, none⟩ (.int .i64 (sh5 st).1) = q := ⟨_, rfl⟩
      have HI : Hid (Inv w w0 g (sh5 st).2 ⟨(sh1 st).1, (sh2 st).1, (sh4 st).1, ⟨(sh5 st).1, 0, [], []⟩⟩ v1 (.slice none 0 0) (.slice none 0 0) W5) := Lib.hid (by rw [← hW5]; exact HI5.out.limit HGL.out _)
      go_wp2_with fail
      clear ck fk HI5 hW5
      have hcal : Calls Tryz.prog _ _ _ (NumE w0 g (sh6 st) (.int .u64 (sh6 st).1) _) := wide_any w0 g (sh5 st).2 _ HI.out.2.2.2.2.2.1 (HI.out.2.2.2.2.2.2.below HBW.out HBW.out.size (fun q hq => hq ▸ HG.out))
      refine hcal.mono ?_
      clear hcal
      rintro E u6 ⟨rfl, hrk, hok, -⟩
      have HI6 := Lib.hid (HI.out.call HGL.out hrk hok)
      clear hrk hok HI
      have ck := (cell_of_row _ _ 4 _ _ _ HI6.out.1).trans rfl
      have fk : u6.frozen? ⟨w.heap.size + 1, 4, none⟩ = false := frozen_of_row _ _ 4 _ _ HI6.out.1
      obtain ⟨W6, hW6⟩ : ∃ q, u6.setCell ⟨w.heap.size + 1, 4, none⟩ (.int .u64 (sh6 st).1) = q := ⟨_, rfl⟩
      have HI : Hid (Inv w w0 g (sh6 st).2 ⟨(sh1 st).1, (sh2 st).1, (sh4 st).1, ⟨(sh5 st).1, (sh6 st).1, [], []⟩⟩ v1 (.slice none 0 0) (.slice none 0 0) W6) := Lib.hid (by rw [← hW6]; exact HI6.out.next HGL.out _)
      go_wp2_with fail
      clear ck fk HI6 hW6
      have hcal : Calls Tryz.prog _ _ _ (NumE w0 g (sh7 st) (.int .i64 (sh7 st).1) _) := many_any w0 g (sh6 st).2 _ HI.out.2.2.2.2.2.1 (HI.out.2.2.2.2.2.2.below HBW.out HBW.out.size (fun q hq => hq ▸ HG.out))
      refine hcal.mono ?_
      clear hcal
      rintro E u7 ⟨rfl, hrk, hok, -⟩
      have HI7 := Lib.hid (HI.out.call HGL.out hrk hok)
      clear hrk hok HI
      obtain ⟨K7, hK7⟩ : ∃ K : Nat, (sh7 st).1 = (K : Int) ∧ (sh7 st).1.toNat = K := ⟨(sh7 st).1.toNat, by have := (pnum_bd 64 (by decide) (sh6 st).2).1; have e : (sh7 st).1 = (pnum 64 (sh6 st).2).1 := rfl; omega, rfl⟩
      have hle7 : K7 ≤ 64 := by have := (pnum_bd 64 (by decide) (sh6 st).2).2; have e : (sh7 st).1 = (pnum 64 (sh6 st).2).1 := rfl; have := hK7.1; omega
      have HK7 := Lib.hid hK7.2
      rw [hK7.1]
      have HI := HI7
      clear hK7 HI7
      go_wp2_with fail
      have HIK := HI
      clear HI
      go_loopw [34] (fun i wr => ∃ (k : Nat) (vx : Value), k ≤ K7 ∧ i = .int .i64 k ∧ Hid (Inv w w0 g (listS heldS k (sh7 st).2).2 ⟨(sh1 st).1, (sh2 st).1, (sh4 st).1, ⟨(sh5 st).1, (sh6 st).1, (listS heldS k (sh7 st).2).1, []⟩⟩ v1 vx (.slice none 0 0) wr)) (fun i _ => K7 - (intOf i).toNat)
      case atStart => exact ⟨0, (.slice none 0 0), Nat.zero_le _, rfl, HIK⟩
      case round =>
        clear HIK
        obtain ⟨k, vx, hk, rfl, HI⟩ := hrel
        by_cases hlt : k < K7
        · rcases hL : listS heldS k (sh7 st).2 with ⟨lk, stk⟩
          have HLK := Lib.hid hL
          have HLEN : Hid (lk.length ≤ 64) := Lib.hid (by have q := listS_len heldS k (sh7 st).2; rw [hL] at q; simp only [] at q; omega)
          rw [hL] at HI
          clear hL
          rcases hfx : heldS stk with ⟨⟨n0, n1, n2, n3, n4⟩, stn⟩
          have HFX := Lib.hid hfx
          clear hfx
          have HNX : Hid (listS heldS (k + 1) (sh7 st).2 = (lk ++ [(⟨n0, n1, n2, n3, n4⟩ : Held)], stn)) := Lib.hid (by rw [listS, HLK.out]; simp only [HFX.out])
          have hkz : (k : Int) < (K7 : Int) := by omega
          go_upto_region 13 with (fail)
          have HI := Lib.hid (HI.out.drew)
          refine wp_region_held_drew (S := fun _ => True) (by kernel_rfl) trivial (fun hHeld => ?_)
          refine wpAnyH_take (i := 0) (v := .pointer (some ⟨(w.heap.size + 1), 3, none⟩)) rfl (by kernel_rfl) (by kernel_rfl) (by kernel_rfl) (fun _ _ _ h => h) (Or.inl ⟨by kernel_rfl, ?_⟩) (by assumption) ?_
          · intro wx hSw
            clear hSw hHeld
            go_simp
            try first | with_reducible rfl | kernel_rfl
          simp only [Act.put, List.getElem_toArray, List.getElem_cons_zero, List.setIfInBounds_toArray, List.set_cons_succ, List.set_cons_zero]
          refine wpAnyH_take (i := 1) (v := .pointer (some ⟨(w.heap.size + 1), 5, none⟩)) rfl (by kernel_rfl) (by kernel_rfl) (by kernel_rfl) (fun _ _ _ h => h) (Or.inl ⟨by kernel_rfl, ?_⟩) (by assumption) ?_
          · intro wx hSw
            clear hSw hHeld
            go_simp
            try first | with_reducible rfl | kernel_rfl
          simp only [Act.put, List.getElem_toArray, List.getElem_cons_succ, List.getElem_cons_zero, List.setIfInBounds_toArray, List.set_cons_succ, List.set_cons_zero]
          refine wpAnyH_take (i := 3) (v := .pointer (some ⟨g, 0, none⟩)) rfl (by kernel_rfl) (by kernel_rfl) (by kernel_rfl) (fun _ _ _ h => h) (Or.inl ⟨by kernel_rfl, ?_⟩) (by assumption) ?_
          · intro wx hSw
            clear hSw hHeld
            go_simp
            try first | with_reducible rfl | kernel_rfl
          simp only [Act.put, List.getElem_toArray, List.getElem_cons_succ, List.getElem_cons_zero, List.setIfInBounds_toArray, List.set_cons_succ, List.set_cons_zero]
          refine wpAnyH_ready (rs := [2, 4]) (by kernel_rfl) (by simp) ?_
          refine (AllReadyH.cons rfl (fun K hK => ?_) (AllReadyH.cons rfl (fun K hK => ?_) AllReadyH.nil))
          · have hci := (cell_of_row _ _ 5 _ _ _ HI.out.1).trans rfl
            go_simp
            clear hci
            refine hK.out _ _ trivial (fun hHeld => ?_)
            clear hK K hHeld
            refine wpAnyH_ready (rs := [4]) (by kernel_rfl) (by simp) ?_
            refine (AllReadyH.cons rfl (fun K hK => ?_) AllReadyH.nil)
            go_simp
            refine (rowE_h HFX.out (held_any w0 g stk _ HI.out.2.2.2.2.2.1 (HI.out.2.2.2.2.2.2.below HBW.out HBW.out.size (fun q hq => hq ▸ HG.out)) HG.out)).mono ?_
            rintro E wk ⟨rfl, hrk, hok⟩
            have HI := Lib.hid (HI.out.call HGL.out hrk hok)
            clear hrk hok
            refine hK.out _ _ trivial (fun hHeld => ?_)
            clear hK K hHeld
            refine wpAnyH_ready (rs := [5]) (by kernel_rfl) (by simp) ?_
            refine (AllReadyH.cons rfl (fun K hK => ?_) AllReadyH.nil)
            go_simp
            have HI := Lib.hid (HI.out.alloc HGL.out (.cells #[.int .i64 n0, .int .i64 n1, .int .u64 n2, .int .u64 n3, .int .u64 n4] 110))
            refine hK.out _ _ trivial (fun hHeld => ?_)
            clear hK K hHeld
            refine wpAnyH_ready (rs := [6]) (by kernel_rfl) (by simp) ?_
            refine (AllReadyH.cons rfl (fun K hK => ?_) AllReadyH.nil)
            refine stepRx heldC_len Tryz.underlying26 rfl (by decide) info_held rfl _ _ rfl w.heap.size vx _ rfl HI.out.2.2.2.1 _ [(⟨n0, n1, n2, n3, n4⟩ : Held)] rfl (SlR.one heldC_len _ _ rfl _ _ rfl) (by simp) (fun y hy u hu => heldC_one y u hu) (by have := HLEN.out; unfold maxLen; simp; omega) (by have := HLEN.out; simp; omega) HI.out.sz _ rfl ?_
            intro gq cq w' own' hgr hxx
            clear hxx
            obtain ⟨v', hv'⟩ : ∃ q, Value.slice (some ⟨gq, 0, none⟩) (lk.length + [(⟨n0, n1, n2, n3, n4⟩ : Held)].length) cq = q := ⟨_, rfl⟩
            rw [hv'] at own' ⊢
            clear hv'
            obtain ⟨ax, mx, qx, rfl⟩ := own_formx own'
            have HXR := Lib.hid (row_grown HI.out.1 HI.out.2.2.2.1 (by decide) hgr)
            have ck := (cell_of_row _ _ 5 _ _ _ HXR.out).trans rfl
            have fk : w'.frozen? ⟨w.heap.size + 1, 5, none⟩ = false := frozen_of_row _ _ 5 _ _ HXR.out
            obtain ⟨WS, hWS⟩ : ∃ q, w'.setCell ⟨w.heap.size + 1, 5, none⟩ (.slice ax mx qx) = q := ⟨_, rfl⟩
            have HI2 := Lib.hid (HI.out.apph HGL.out own' hgr)
            rw [hWS] at HI2
            clear own' hgr HXR
            refine hK.out _ _ trivial (fun hHeld => ?_)
            clear hK K
            refine wpAnyH_take (i := 7) (v := .pointer (some ⟨(w.heap.size + 1), 3, none⟩)) rfl (by kernel_rfl) (by kernel_rfl) (by kernel_rfl) (fun _ _ _ h => h) (Or.inl ⟨by kernel_rfl, ?_⟩) (by assumption) ?_
            · intro wx hSw
              clear hSw hHeld
              go_simp
              try first | with_reducible rfl | kernel_rfl
            simp only [Act.put, List.getElem_toArray, List.getElem_cons_succ, List.getElem_cons_zero, List.setIfInBounds_toArray, List.set_cons_succ, List.set_cons_zero]
            refine wpAnyH_take (i := 8) (v := .pointer (some ⟨(w.heap.size + 1), 5, none⟩)) rfl (by kernel_rfl) (by kernel_rfl) (by kernel_rfl) (fun _ _ _ h => h) (Or.inl ⟨by kernel_rfl, ?_⟩) (by assumption) ?_
            · intro wx hSw
              clear hSw hHeld
              go_simp
              try first | with_reducible rfl | kernel_rfl
            simp only [Act.put, List.getElem_toArray, List.getElem_cons_succ, List.getElem_cons_zero, List.setIfInBounds_toArray, List.set_cons_succ, List.set_cons_zero]
            clear hHeld
            refine wpAnyH_ready (rs := [9]) (by kernel_rfl) (by simp) ?_
            refine (AllReadyH.cons rfl (fun K hK => ?_) AllReadyH.nil)
            go_simp
            refine hK.out _ _ trivial (fun hHeld => ?_)
            clear hK K hHeld
            refine wpAnyH_done (by kernel_rfl) ?_ _
            clear ck fk
            go_wp2_with fail
            go_roundw
            case rel => exact ⟨k + 1, _, by omega, by go_num, Lib.hid (by rw [HNX.out]; exact HI2.out)⟩
            case measure => simp [intOf]; omega
          · go_simp
            refine (rowE_h HFX.out (held_any w0 g stk _ HI.out.2.2.2.2.2.1 (HI.out.2.2.2.2.2.2.below HBW.out HBW.out.size (fun q hq => hq ▸ HG.out)) HG.out)).mono ?_
            rintro E wk ⟨rfl, hrk, hok⟩
            have HI := Lib.hid (HI.out.call HGL.out hrk hok)
            clear hrk hok
            refine hK.out _ _ trivial (fun hHeld => ?_)
            clear hK K hHeld
            refine wpAnyH_ready (rs := [2, 5]) (by kernel_rfl) (by simp) ?_
            refine (AllReadyH.cons rfl (fun K hK => ?_) (AllReadyH.cons rfl (fun K hK => ?_) AllReadyH.nil))
            · have hci := (cell_of_row _ _ 5 _ _ _ HI.out.1).trans rfl
              go_simp
              clear hci
              refine hK.out _ _ trivial (fun hHeld => ?_)
              clear hK K hHeld
              refine wpAnyH_ready (rs := [5]) (by kernel_rfl) (by simp) ?_
              refine (AllReadyH.cons rfl (fun K hK => ?_) AllReadyH.nil)
              go_simp
              have HI := Lib.hid (HI.out.alloc HGL.out (.cells #[.int .i64 n0, .int .i64 n1, .int .u64 n2, .int .u64 n3, .int .u64 n4] 110))
              refine hK.out _ _ trivial (fun hHeld => ?_)
              clear hK K hHeld
              refine wpAnyH_ready (rs := [6]) (by kernel_rfl) (by simp) ?_
              refine (AllReadyH.cons rfl (fun K hK => ?_) AllReadyH.nil)
              refine stepRx heldC_len Tryz.underlying26 rfl (by decide) info_held rfl _ _ rfl w.heap.size vx _ rfl HI.out.2.2.2.1 _ [(⟨n0, n1, n2, n3, n4⟩ : Held)] rfl (SlR.one heldC_len _ _ rfl _ _ rfl) (by simp) (fun y hy u hu => heldC_one y u hu) (by have := HLEN.out; unfold maxLen; simp; omega) (by have := HLEN.out; simp; omega) HI.out.sz _ rfl ?_
              intro gq cq w' own' hgr hxx
              clear hxx
              obtain ⟨v', hv'⟩ : ∃ q, Value.slice (some ⟨gq, 0, none⟩) (lk.length + [(⟨n0, n1, n2, n3, n4⟩ : Held)].length) cq = q := ⟨_, rfl⟩
              rw [hv'] at own' ⊢
              clear hv'
              obtain ⟨ax, mx, qx, rfl⟩ := own_formx own'
              have HXR := Lib.hid (row_grown HI.out.1 HI.out.2.2.2.1 (by decide) hgr)
              have ck := (cell_of_row _ _ 5 _ _ _ HXR.out).trans rfl
              have fk : w'.frozen? ⟨w.heap.size + 1, 5, none⟩ = false := frozen_of_row _ _ 5 _ _ HXR.out
              obtain ⟨WS, hWS⟩ : ∃ q, w'.setCell ⟨w.heap.size + 1, 5, none⟩ (.slice ax mx qx) = q := ⟨_, rfl⟩
              have HI2 := Lib.hid (HI.out.apph HGL.out own' hgr)
              rw [hWS] at HI2
              clear own' hgr HXR
              refine hK.out _ _ trivial (fun hHeld => ?_)
              clear hK K
              refine wpAnyH_take (i := 7) (v := .pointer (some ⟨(w.heap.size + 1), 3, none⟩)) rfl (by kernel_rfl) (by kernel_rfl) (by kernel_rfl) (fun _ _ _ h => h) (Or.inl ⟨by kernel_rfl, ?_⟩) (by assumption) ?_
              · intro wx hSw
                clear hSw hHeld
                go_simp
                try first | with_reducible rfl | kernel_rfl
              simp only [Act.put, List.getElem_toArray, List.getElem_cons_succ, List.getElem_cons_zero, List.setIfInBounds_toArray, List.set_cons_succ, List.set_cons_zero]
              refine wpAnyH_take (i := 8) (v := .pointer (some ⟨(w.heap.size + 1), 5, none⟩)) rfl (by kernel_rfl) (by kernel_rfl) (by kernel_rfl) (fun _ _ _ h => h) (Or.inl ⟨by kernel_rfl, ?_⟩) (by assumption) ?_
              · intro wx hSw
                clear hSw hHeld
                go_simp
                try first | with_reducible rfl | kernel_rfl
              simp only [Act.put, List.getElem_toArray, List.getElem_cons_succ, List.getElem_cons_zero, List.setIfInBounds_toArray, List.set_cons_succ, List.set_cons_zero]
              clear hHeld
              refine wpAnyH_ready (rs := [9]) (by kernel_rfl) (by simp) ?_
              refine (AllReadyH.cons rfl (fun K hK => ?_) AllReadyH.nil)
              go_simp
              refine hK.out _ _ trivial (fun hHeld => ?_)
              clear hK K hHeld
              refine wpAnyH_done (by kernel_rfl) ?_ _
              clear ck fk
              go_wp2_with fail
              go_roundw
              case rel => exact ⟨k + 1, _, by omega, by go_num, Lib.hid (by rw [HNX.out]; exact HI2.out)⟩
              case measure => simp [intOf]; omega
            · go_simp
              have HI := Lib.hid (HI.out.alloc HGL.out (.cells #[.int .i64 n0, .int .i64 n1, .int .u64 n2, .int .u64 n3, .int .u64 n4] 110))
              refine hK.out _ _ trivial (fun hHeld => ?_)
              clear hK K hHeld
              refine wpAnyH_ready (rs := [2]) (by kernel_rfl) (by simp) ?_
              refine (AllReadyH.cons rfl (fun K hK => ?_) AllReadyH.nil)
              have hci := (cell_of_row _ _ 5 _ _ _ HI.out.1).trans rfl
              go_simp
              clear hci
              refine hK.out _ _ trivial (fun hHeld => ?_)
              clear hK K hHeld
              refine wpAnyH_ready (rs := [6]) (by kernel_rfl) (by simp) ?_
              refine (AllReadyH.cons rfl (fun K hK => ?_) AllReadyH.nil)
              refine stepRx heldC_len Tryz.underlying26 rfl (by decide) info_held rfl _ _ rfl w.heap.size vx _ rfl HI.out.2.2.2.1 _ [(⟨n0, n1, n2, n3, n4⟩ : Held)] rfl (SlR.one heldC_len _ _ rfl _ _ rfl) (by simp) (fun y hy u hu => heldC_one y u hu) (by have := HLEN.out; unfold maxLen; simp; omega) (by have := HLEN.out; simp; omega) HI.out.sz _ rfl ?_
              intro gq cq w' own' hgr hxx
              clear hxx
              obtain ⟨v', hv'⟩ : ∃ q, Value.slice (some ⟨gq, 0, none⟩) (lk.length + [(⟨n0, n1, n2, n3, n4⟩ : Held)].length) cq = q := ⟨_, rfl⟩
              rw [hv'] at own' ⊢
              clear hv'
              obtain ⟨ax, mx, qx, rfl⟩ := own_formx own'
              have HXR := Lib.hid (row_grown HI.out.1 HI.out.2.2.2.1 (by decide) hgr)
              have ck := (cell_of_row _ _ 5 _ _ _ HXR.out).trans rfl
              have fk : w'.frozen? ⟨w.heap.size + 1, 5, none⟩ = false := frozen_of_row _ _ 5 _ _ HXR.out
              obtain ⟨WS, hWS⟩ : ∃ q, w'.setCell ⟨w.heap.size + 1, 5, none⟩ (.slice ax mx qx) = q := ⟨_, rfl⟩
              have HI2 := Lib.hid (HI.out.apph HGL.out own' hgr)
              rw [hWS] at HI2
              clear own' hgr HXR
              refine hK.out _ _ trivial (fun hHeld => ?_)
              clear hK K
              refine wpAnyH_take (i := 7) (v := .pointer (some ⟨(w.heap.size + 1), 3, none⟩)) rfl (by kernel_rfl) (by kernel_rfl) (by kernel_rfl) (fun _ _ _ h => h) (Or.inl ⟨by kernel_rfl, ?_⟩) (by assumption) ?_
              · intro wx hSw
                clear hSw hHeld
                go_simp
                try first | with_reducible rfl | kernel_rfl
              simp only [Act.put, List.getElem_toArray, List.getElem_cons_succ, List.getElem_cons_zero, List.setIfInBounds_toArray, List.set_cons_succ, List.set_cons_zero]
              refine wpAnyH_take (i := 8) (v := .pointer (some ⟨(w.heap.size + 1), 5, none⟩)) rfl (by kernel_rfl) (by kernel_rfl) (by kernel_rfl) (fun _ _ _ h => h) (Or.inl ⟨by kernel_rfl, ?_⟩) (by assumption) ?_
              · intro wx hSw
                clear hSw hHeld
                go_simp
                try first | with_reducible rfl | kernel_rfl
              simp only [Act.put, List.getElem_toArray, List.getElem_cons_succ, List.getElem_cons_zero, List.setIfInBounds_toArray, List.set_cons_succ, List.set_cons_zero]
              clear hHeld
              refine wpAnyH_ready (rs := [9]) (by kernel_rfl) (by simp) ?_
              refine (AllReadyH.cons rfl (fun K hK => ?_) AllReadyH.nil)
              go_simp
              refine hK.out _ _ trivial (fun hHeld => ?_)
              clear hK K hHeld
              refine wpAnyH_done (by kernel_rfl) ?_ _
              clear ck fk
              go_wp2_with fail
              go_roundw
              case rel => exact ⟨k + 1, _, by omega, by go_num, Lib.hid (by rw [HNX.out]; exact HI2.out)⟩
              case measure => simp [intOf]; omega
        · obtain rfl : K7 = k := by omega
          have hkz : ¬ ((K7 : Int) < (K7 : Int)) := by omega
          have HI8 : Hid (Inv w w0 g (sh8 st).2 ⟨(sh1 st).1, (sh2 st).1, (sh4 st).1, ⟨(sh5 st).1, (sh6 st).1, (sh8 st).1, []⟩⟩ v1 vx (.slice none 0 0) wr) := Lib.hid (by have q := HI.out; rw [← HK7.out] at q; exact q)
          clear HI
          have HI := HI8
          clear HI8
          obtain ⟨v2, hv2⟩ : ∃ q, q = vx := ⟨_, rfl⟩
          rw [← hv2] at HI
          clear hv2 hlt
          go_wp2_with fail
          have hcal : Calls Tryz.prog _ _ _ (NumE w0 g (sh9 st) (.int .i64 (sh9 st).1) _) := many_any w0 g (sh8 st).2 _ HI.out.2.2.2.2.2.1 (HI.out.2.2.2.2.2.2.below HBW.out HBW.out.size (fun q hq => hq ▸ HG.out))
          refine hcal.mono ?_
          clear hcal
          rintro E u9 ⟨rfl, hrk, hok, -⟩
          have HI9 := Lib.hid (HI.out.call HGL.out hrk hok)
          clear hrk hok HI
          obtain ⟨K9, hK9⟩ : ∃ K : Nat, (sh9 st).1 = (K : Int) ∧ (sh9 st).1.toNat = K := ⟨(sh9 st).1.toNat, by have := (pnum_bd 64 (by decide) (sh8 st).2).1; have e : (sh9 st).1 = (pnum 64 (sh8 st).2).1 := rfl; omega, rfl⟩
          have hle9 : K9 ≤ 64 := by have := (pnum_bd 64 (by decide) (sh8 st).2).2; have e : (sh9 st).1 = (pnum 64 (sh8 st).2).1 := rfl; have := hK9.1; omega
          have HK9 := Lib.hid hK9.2
          rw [hK9.1]
          have HI := HI9
          clear hK9 HI9
          go_wp2_with fail
          have HIK := HI
          clear HI
          go_loopw [48] (fun i wr => ∃ (k : Nat) (vx : Value), k ≤ K9 ∧ i = .int .i64 k ∧ Hid (Inv w w0 g (listS lastS k (sh9 st).2).2 ⟨(sh1 st).1, (sh2 st).1, (sh4 st).1, ⟨(sh5 st).1, (sh6 st).1, (sh8 st).1, (listS lastS k (sh9 st).2).1⟩⟩ v1 v2 vx wr)) (fun i _ => K9 - (intOf i).toNat)
          case atStart => exact ⟨0, (.slice none 0 0), Nat.zero_le _, rfl, HIK⟩
          case round =>
            clear HIK
            obtain ⟨k, vx, hk, rfl, HI⟩ := hrel
            by_cases hlt : k < K9
            · rcases hL : listS lastS k (sh9 st).2 with ⟨lk, stk⟩
              have HLK := Lib.hid hL
              have HLEN : Hid (lk.length ≤ 64) := Lib.hid (by have q := listS_len lastS k (sh9 st).2; rw [hL] at q; simp only [] at q; omega)
              rw [hL] at HI
              clear hL
              rcases hfx : lastS stk with ⟨⟨n0, n1, n2, n3, n4, n5⟩, stn⟩
              have HFX := Lib.hid hfx
              clear hfx
              have HNX : Hid (listS lastS (k + 1) (sh9 st).2 = (lk ++ [(⟨n0, n1, n2, n3, n4, n5⟩ : LastR)], stn)) := Lib.hid (by rw [listS, HLK.out]; simp only [HFX.out])
              have hkz : (k : Int) < (K9 : Int) := by omega
              go_upto_region 17 with (fail)
              have HI := Lib.hid (HI.out.drew)
              refine wp_region_held_drew (S := fun _ => True) (by kernel_rfl) trivial (fun hHeld => ?_)
              refine wpAnyH_take (i := 0) (v := .pointer (some ⟨(w.heap.size + 1), 3, none⟩)) rfl (by kernel_rfl) (by kernel_rfl) (by kernel_rfl) (fun _ _ _ h => h) (Or.inl ⟨by kernel_rfl, ?_⟩) (by assumption) ?_
              · intro wx hSw
                clear hSw hHeld
                go_simp
                try first | with_reducible rfl | kernel_rfl
              simp only [Act.put, List.getElem_toArray, List.getElem_cons_zero, List.setIfInBounds_toArray, List.set_cons_succ, List.set_cons_zero]
              refine wpAnyH_take (i := 1) (v := .pointer (some ⟨(w.heap.size + 1), 6, none⟩)) rfl (by kernel_rfl) (by kernel_rfl) (by kernel_rfl) (fun _ _ _ h => h) (Or.inl ⟨by kernel_rfl, ?_⟩) (by assumption) ?_
              · intro wx hSw
                clear hSw hHeld
                go_simp
                try first | with_reducible rfl | kernel_rfl
              simp only [Act.put, List.getElem_toArray, List.getElem_cons_succ, List.getElem_cons_zero, List.setIfInBounds_toArray, List.set_cons_succ, List.set_cons_zero]
              refine wpAnyH_take (i := 3) (v := .pointer (some ⟨g, 0, none⟩)) rfl (by kernel_rfl) (by kernel_rfl) (by kernel_rfl) (fun _ _ _ h => h) (Or.inl ⟨by kernel_rfl, ?_⟩) (by assumption) ?_
              · intro wx hSw
                clear hSw hHeld
                go_simp
                try first | with_reducible rfl | kernel_rfl
              simp only [Act.put, List.getElem_toArray, List.getElem_cons_succ, List.getElem_cons_zero, List.setIfInBounds_toArray, List.set_cons_succ, List.set_cons_zero]
              refine wpAnyH_ready (rs := [2, 4]) (by kernel_rfl) (by simp) ?_
              refine (AllReadyH.cons rfl (fun K hK => ?_) (AllReadyH.cons rfl (fun K hK => ?_) AllReadyH.nil))
              · have hci := (cell_of_row _ _ 6 _ _ _ HI.out.1).trans rfl
                go_simp
                clear hci
                refine hK.out _ _ trivial (fun hHeld => ?_)
                clear hK K hHeld
                refine wpAnyH_ready (rs := [4]) (by kernel_rfl) (by simp) ?_
                refine (AllReadyH.cons rfl (fun K hK => ?_) AllReadyH.nil)
                go_simp
                refine (rowE_l HFX.out (last_any w0 g stk _ HI.out.2.2.2.2.2.1 (HI.out.2.2.2.2.2.2.below HBW.out HBW.out.size (fun q hq => hq ▸ HG.out)) HG.out)).mono ?_
                rintro E wk ⟨rfl, hrk, hok⟩
                have HI := Lib.hid (HI.out.call HGL.out hrk hok)
                clear hrk hok
                refine hK.out _ _ trivial (fun hHeld => ?_)
                clear hK K hHeld
                refine wpAnyH_ready (rs := [5]) (by kernel_rfl) (by simp) ?_
                refine (AllReadyH.cons rfl (fun K hK => ?_) AllReadyH.nil)
                go_simp
                have HI := Lib.hid (HI.out.alloc HGL.out (.cells #[.int .i64 n0, .int .u64 n1, .int .u64 n2, .int .i64 n3, .int .i64 n4, .int .u64 n5] 114))
                refine hK.out _ _ trivial (fun hHeld => ?_)
                clear hK K hHeld
                refine wpAnyH_ready (rs := [6]) (by kernel_rfl) (by simp) ?_
                refine (AllReadyH.cons rfl (fun K hK => ?_) AllReadyH.nil)
                refine stepRx lastC_len Tryz.underlying27 rfl (by decide) info_last rfl _ _ rfl w.heap.size vx _ rfl HI.out.2.2.2.2.1 _ [(⟨n0, n1, n2, n3, n4, n5⟩ : LastR)] rfl (SlR.one lastC_len _ _ rfl _ _ rfl) (by simp) (fun y hy u hu => lastC_one y u hu) (by have := HLEN.out; unfold maxLen; simp; omega) (by have := HLEN.out; simp; omega) HI.out.sz _ rfl ?_
                intro gq cq w' own' hgr hxx
                clear hxx
                obtain ⟨v', hv'⟩ : ∃ q, Value.slice (some ⟨gq, 0, none⟩) (lk.length + [(⟨n0, n1, n2, n3, n4, n5⟩ : LastR)].length) cq = q := ⟨_, rfl⟩
                rw [hv'] at own' ⊢
                clear hv'
                obtain ⟨ax, mx, qx, rfl⟩ := own_formx own'
                have HXR := Lib.hid (row_grown HI.out.1 HI.out.2.2.2.2.1 (by decide) hgr)
                have ck := (cell_of_row _ _ 6 _ _ _ HXR.out).trans rfl
                have fk : w'.frozen? ⟨w.heap.size + 1, 6, none⟩ = false := frozen_of_row _ _ 6 _ _ HXR.out
                obtain ⟨WS, hWS⟩ : ∃ q, w'.setCell ⟨w.heap.size + 1, 6, none⟩ (.slice ax mx qx) = q := ⟨_, rfl⟩
                have HI2 := Lib.hid (HI.out.appl HGL.out own' hgr)
                rw [hWS] at HI2
                clear own' hgr HXR
                refine hK.out _ _ trivial (fun hHeld => ?_)
                clear hK K
                refine wpAnyH_take (i := 7) (v := .pointer (some ⟨(w.heap.size + 1), 3, none⟩)) rfl (by kernel_rfl) (by kernel_rfl) (by kernel_rfl) (fun _ _ _ h => h) (Or.inl ⟨by kernel_rfl, ?_⟩) (by assumption) ?_
                · intro wx hSw
                  clear hSw hHeld
                  go_simp
                  try first | with_reducible rfl | kernel_rfl
                simp only [Act.put, List.getElem_toArray, List.getElem_cons_succ, List.getElem_cons_zero, List.setIfInBounds_toArray, List.set_cons_succ, List.set_cons_zero]
                refine wpAnyH_take (i := 8) (v := .pointer (some ⟨(w.heap.size + 1), 6, none⟩)) rfl (by kernel_rfl) (by kernel_rfl) (by kernel_rfl) (fun _ _ _ h => h) (Or.inl ⟨by kernel_rfl, ?_⟩) (by assumption) ?_
                · intro wx hSw
                  clear hSw hHeld
                  go_simp
                  try first | with_reducible rfl | kernel_rfl
                simp only [Act.put, List.getElem_toArray, List.getElem_cons_succ, List.getElem_cons_zero, List.setIfInBounds_toArray, List.set_cons_succ, List.set_cons_zero]
                clear hHeld
                refine wpAnyH_ready (rs := [9]) (by kernel_rfl) (by simp) ?_
                refine (AllReadyH.cons rfl (fun K hK => ?_) AllReadyH.nil)
                go_simp
                refine hK.out _ _ trivial (fun hHeld => ?_)
                clear hK K hHeld
                refine wpAnyH_done (by kernel_rfl) ?_ _
                clear ck fk
                go_wp2_with fail
                go_roundw
                case rel => exact ⟨k + 1, _, by omega, by go_num, Lib.hid (by rw [HNX.out]; exact HI2.out)⟩
                case measure => simp [intOf]; omega
              · go_simp
                refine (rowE_l HFX.out (last_any w0 g stk _ HI.out.2.2.2.2.2.1 (HI.out.2.2.2.2.2.2.below HBW.out HBW.out.size (fun q hq => hq ▸ HG.out)) HG.out)).mono ?_
                rintro E wk ⟨rfl, hrk, hok⟩
                have HI := Lib.hid (HI.out.call HGL.out hrk hok)
                clear hrk hok
                refine hK.out _ _ trivial (fun hHeld => ?_)
                clear hK K hHeld
                refine wpAnyH_ready (rs := [2, 5]) (by kernel_rfl) (by simp) ?_
                refine (AllReadyH.cons rfl (fun K hK => ?_) (AllReadyH.cons rfl (fun K hK => ?_) AllReadyH.nil))
                · have hci := (cell_of_row _ _ 6 _ _ _ HI.out.1).trans rfl
                  go_simp
                  clear hci
                  refine hK.out _ _ trivial (fun hHeld => ?_)
                  clear hK K hHeld
                  refine wpAnyH_ready (rs := [5]) (by kernel_rfl) (by simp) ?_
                  refine (AllReadyH.cons rfl (fun K hK => ?_) AllReadyH.nil)
                  go_simp
                  have HI := Lib.hid (HI.out.alloc HGL.out (.cells #[.int .i64 n0, .int .u64 n1, .int .u64 n2, .int .i64 n3, .int .i64 n4, .int .u64 n5] 114))
                  refine hK.out _ _ trivial (fun hHeld => ?_)
                  clear hK K hHeld
                  refine wpAnyH_ready (rs := [6]) (by kernel_rfl) (by simp) ?_
                  refine (AllReadyH.cons rfl (fun K hK => ?_) AllReadyH.nil)
                  refine stepRx lastC_len Tryz.underlying27 rfl (by decide) info_last rfl _ _ rfl w.heap.size vx _ rfl HI.out.2.2.2.2.1 _ [(⟨n0, n1, n2, n3, n4, n5⟩ : LastR)] rfl (SlR.one lastC_len _ _ rfl _ _ rfl) (by simp) (fun y hy u hu => lastC_one y u hu) (by have := HLEN.out; unfold maxLen; simp; omega) (by have := HLEN.out; simp; omega) HI.out.sz _ rfl ?_
                  intro gq cq w' own' hgr hxx
                  clear hxx
                  obtain ⟨v', hv'⟩ : ∃ q, Value.slice (some ⟨gq, 0, none⟩) (lk.length + [(⟨n0, n1, n2, n3, n4, n5⟩ : LastR)].length) cq = q := ⟨_, rfl⟩
                  rw [hv'] at own' ⊢
                  clear hv'
                  obtain ⟨ax, mx, qx, rfl⟩ := own_formx own'
                  have HXR := Lib.hid (row_grown HI.out.1 HI.out.2.2.2.2.1 (by decide) hgr)
                  have ck := (cell_of_row _ _ 6 _ _ _ HXR.out).trans rfl
                  have fk : w'.frozen? ⟨w.heap.size + 1, 6, none⟩ = false := frozen_of_row _ _ 6 _ _ HXR.out
                  obtain ⟨WS, hWS⟩ : ∃ q, w'.setCell ⟨w.heap.size + 1, 6, none⟩ (.slice ax mx qx) = q := ⟨_, rfl⟩
                  have HI2 := Lib.hid (HI.out.appl HGL.out own' hgr)
                  rw [hWS] at HI2
                  clear own' hgr HXR
                  refine hK.out _ _ trivial (fun hHeld => ?_)
                  clear hK K
                  refine wpAnyH_take (i := 7) (v := .pointer (some ⟨(w.heap.size + 1), 3, none⟩)) rfl (by kernel_rfl) (by kernel_rfl) (by kernel_rfl) (fun _ _ _ h => h) (Or.inl ⟨by kernel_rfl, ?_⟩) (by assumption) ?_
                  · intro wx hSw
                    clear hSw hHeld
                    go_simp
                    try first | with_reducible rfl | kernel_rfl
                  simp only [Act.put, List.getElem_toArray, List.getElem_cons_succ, List.getElem_cons_zero, List.setIfInBounds_toArray, List.set_cons_succ, List.set_cons_zero]
                  refine wpAnyH_take (i := 8) (v := .pointer (some ⟨(w.heap.size + 1), 6, none⟩)) rfl (by kernel_rfl) (by kernel_rfl) (by kernel_rfl) (fun _ _ _ h => h) (Or.inl ⟨by kernel_rfl, ?_⟩) (by assumption) ?_
                  · intro wx hSw
                    clear hSw hHeld
                    go_simp
                    try first | with_reducible rfl | kernel_rfl
                  simp only [Act.put, List.getElem_toArray, List.getElem_cons_succ, List.getElem_cons_zero, List.setIfInBounds_toArray, List.set_cons_succ, List.set_cons_zero]
                  clear hHeld
                  refine wpAnyH_ready (rs := [9]) (by kernel_rfl) (by simp) ?_
                  refine (AllReadyH.cons rfl (fun K hK => ?_) AllReadyH.nil)
                  go_simp
                  refine hK.out _ _ trivial (fun hHeld => ?_)
                  clear hK K hHeld
                  refine wpAnyH_done (by kernel_rfl) ?_ _
                  clear ck fk
                  go_wp2_with fail
                  go_roundw
                  case rel => exact ⟨k + 1, _, by omega, by go_num, Lib.hid (by rw [HNX.out]; exact HI2.out)⟩
                  case measure => simp [intOf]; omega
                · go_simp
                  have HI := Lib.hid (HI.out.alloc HGL.out (.cells #[.int .i64 n0, .int .u64 n1, .int .u64 n2, .int .i64 n3, .int .i64 n4, .int .u64 n5] 114))
                  refine hK.out _ _ trivial (fun hHeld => ?_)
                  clear hK K hHeld
                  refine wpAnyH_ready (rs := [2]) (by kernel_rfl) (by simp) ?_
                  refine (AllReadyH.cons rfl (fun K hK => ?_) AllReadyH.nil)
                  have hci := (cell_of_row _ _ 6 _ _ _ HI.out.1).trans rfl
                  go_simp
                  clear hci
                  refine hK.out _ _ trivial (fun hHeld => ?_)
                  clear hK K hHeld
                  refine wpAnyH_ready (rs := [6]) (by kernel_rfl) (by simp) ?_
                  refine (AllReadyH.cons rfl (fun K hK => ?_) AllReadyH.nil)
                  refine stepRx lastC_len Tryz.underlying27 rfl (by decide) info_last rfl _ _ rfl w.heap.size vx _ rfl HI.out.2.2.2.2.1 _ [(⟨n0, n1, n2, n3, n4, n5⟩ : LastR)] rfl (SlR.one lastC_len _ _ rfl _ _ rfl) (by simp) (fun y hy u hu => lastC_one y u hu) (by have := HLEN.out; unfold maxLen; simp; omega) (by have := HLEN.out; simp; omega) HI.out.sz _ rfl ?_
                  intro gq cq w' own' hgr hxx
                  clear hxx
                  obtain ⟨v', hv'⟩ : ∃ q, Value.slice (some ⟨gq, 0, none⟩) (lk.length + [(⟨n0, n1, n2, n3, n4, n5⟩ : LastR)].length) cq = q := ⟨_, rfl⟩
                  rw [hv'] at own' ⊢
                  clear hv'
                  obtain ⟨ax, mx, qx, rfl⟩ := own_formx own'
                  have HXR := Lib.hid (row_grown HI.out.1 HI.out.2.2.2.2.1 (by decide) hgr)
                  have ck := (cell_of_row _ _ 6 _ _ _ HXR.out).trans rfl
                  have fk : w'.frozen? ⟨w.heap.size + 1, 6, none⟩ = false := frozen_of_row _ _ 6 _ _ HXR.out
                  obtain ⟨WS, hWS⟩ : ∃ q, w'.setCell ⟨w.heap.size + 1, 6, none⟩ (.slice ax mx qx) = q := ⟨_, rfl⟩
                  have HI2 := Lib.hid (HI.out.appl HGL.out own' hgr)
                  rw [hWS] at HI2
                  clear own' hgr HXR
                  refine hK.out _ _ trivial (fun hHeld => ?_)
                  clear hK K
                  refine wpAnyH_take (i := 7) (v := .pointer (some ⟨(w.heap.size + 1), 3, none⟩)) rfl (by kernel_rfl) (by kernel_rfl) (by kernel_rfl) (fun _ _ _ h => h) (Or.inl ⟨by kernel_rfl, ?_⟩) (by assumption) ?_
                  · intro wx hSw
                    clear hSw hHeld
                    go_simp
                    try first | with_reducible rfl | kernel_rfl
                  simp only [Act.put, List.getElem_toArray, List.getElem_cons_succ, List.getElem_cons_zero, List.setIfInBounds_toArray, List.set_cons_succ, List.set_cons_zero]
                  refine wpAnyH_take (i := 8) (v := .pointer (some ⟨(w.heap.size + 1), 6, none⟩)) rfl (by kernel_rfl) (by kernel_rfl) (by kernel_rfl) (fun _ _ _ h => h) (Or.inl ⟨by kernel_rfl, ?_⟩) (by assumption) ?_
                  · intro wx hSw
                    clear hSw hHeld
                    go_simp
                    try first | with_reducible rfl | kernel_rfl
                  simp only [Act.put, List.getElem_toArray, List.getElem_cons_succ, List.getElem_cons_zero, List.setIfInBounds_toArray, List.set_cons_succ, List.set_cons_zero]
                  clear hHeld
                  refine wpAnyH_ready (rs := [9]) (by kernel_rfl) (by simp) ?_
                  refine (AllReadyH.cons rfl (fun K hK => ?_) AllReadyH.nil)
                  go_simp
                  refine hK.out _ _ trivial (fun hHeld => ?_)
                  clear hK K hHeld
                  refine wpAnyH_done (by kernel_rfl) ?_ _
                  clear ck fk
                  go_wp2_with fail
                  go_roundw
                  case rel => exact ⟨k + 1, _, by omega, by go_num, Lib.hid (by rw [HNX.out]; exact HI2.out)⟩
                  case measure => simp [intOf]; omega
            · obtain rfl : K9 = k := by omega
              have hkz : ¬ ((K9 : Int) < (K9 : Int)) := by omega
              have HIE : Hid (Inv w w0 g (shotS st).2 (shotS st).1 v1 v2 vx wr) := Lib.hid (by have q := HI.out; rw [← HK9.out] at q; exact q)
              obtain ⟨a1, m1, q1, rfl⟩ := own_formx HIE.out.2.2.1
              obtain ⟨a2, m2, q2, rfl⟩ := own_formx HIE.out.2.2.2.1
              obtain ⟨a3, m3, q3, rfl⟩ := own_formx HIE.out.2.2.2.2.1
              clear HI
              obtain ⟨S, hS⟩ : ∃ q, (shotS st).1 = q := ⟨_, rfl⟩
              obtain ⟨stE, hstE⟩ : ∃ q, (shotS st).2 = q := ⟨_, rfl⟩
              rw [hS, hstE] at HIE
              have HSS := Lib.hid hS
              have HSE := Lib.hid hstE
              clear hS hstE
              have hone : (sArr S (.slice a1 m1 q1) (.slice a2 m2 q2) (.slice a3 m3 q3)).all (·.oneCell') = true := by simp [Value.oneCell']
              obtain ⟨WZ, hWZ⟩ : ∃ q, wr.setRow w.heap.size (sArr S (.slice a1 m1 q1) (.slice a2 m2 q2) (.slice a3 m3 q3)) = q := ⟨_, rfl⟩
              have HQZ : Hid (WZ.heap[w.heap.size]? = some (.cells (sArr S (.slice a1 m1 q1) (.slice a2 m2 q2) (.slice a3 m3 q3)) 31 (0, 0))) := Lib.hid (by rw [← hWZ]; exact setRow_heap _ _ _ _ _ _ HIE.out.2.1)
              have HZ : Hid (OwnI WZ w.heap.size (.slice a1 m1 q1) S.nodes ∧ OwnR 5 heldC 110 WZ w.heap.size (.slice a2 m2 q2) S.led.held ∧ OwnR 6 lastC 114 WZ w.heap.size (.slice a3 m3 q3) S.led.last ∧ RdS w0 g stE WZ ∧ Only (· = g) w WZ) := Lib.hid (by
                have hx : Only (· = w.heap.size) wr WZ := by rw [← hWZ]; exact only_row _ _ _
                have hb : ∀ q, q < wr.heap.size → q ≠ w.heap.size → WZ.heap[q]? = wr.heap[q]? := fun q hq hn => hx.2.2.2.2 q hq hn
                obtain ⟨h1, h2, h3, h4, h5, h6, h7⟩ := HIE.out
                exact ⟨own_blk h3 (own_ty h3 h2 (by decide)) hb, own_blk h4 (own_ty h4 h2 (by decide)) hb, own_blk h5 (own_ty h5 h2 (by decide)) hb, h6.only hx (by have := HGL.out; omega), only_new h7 (Only.refl _ _) hx (Nat.le_refl _)⟩)
              have HRG : Hid (wr.heap[w.heap.size + 1]? = some (.cells (sArr S (.slice a1 m1 q1) (.slice a2 m2 q2) (.slice a3 m3 q3)) 31 (0, 0))) := Lib.hid HIE.out.1
              have HRQ : Hid (wr.heap[w.heap.size]? = some (.cells zSA 31 (0, 0))) := Lib.hid HIE.out.2.1
              go_wp2_with (first
                | (with_reducible refine wpList_load_row rfl 31 (.tmp 3) rfl (w.heap.size + 1) rfl 31 (sArr S (.slice a1 m1 q1) (.slice a2 m2 q2) (.slice a3 m3 q3)) (0, 0) _ HRG.out Tryz.underlying31 rfl (by kernel_rfl) ?_)
                | (with_reducible refine wpList_store_row rfl 31 (.tmp 2) (.tmp 60) rfl w.heap.size (sArr S (.slice a1 m1 q1) (.slice a2 m2 q2) (.slice a3 m3 q3)) rfl rfl 31 _ HRQ.out (by kernel_rfl) rfl hone ?_; rw [hWZ]; clear hWZ))
              refine bodyPost_ret (v := .agg (sArr S (.slice a1 m1 q1) (.slice a2 m2 q2) (.slice a3 m3 q3))) (results_cell_row rfl _ _ w.heap.size 31 _ (0, 0) _ rfl HQZ.out Tryz.underlying31 rfl (by kernel_rfl)) rfl ?_
              obtain ⟨z1, z2, z3, z4, z5⟩ := HZ.out
              exact ⟨_, _, _, by rw [HSS.out], by rw [HSS.out]; exact z1, by rw [HSS.out]; exact z2, by rw [HSS.out]; exact z3, by rw [HSE.out]; exact z4, z5⟩
end Sc
end Go.Proofs.YtlfaiemebfkajaaGreatDoor
namespace Go.Proofs.YtlfaiemebfkajaaGreatDoor
open Go.ChangeShapes Go.WideShapes Go.ChangeAt Go.RowKit Go.Deep
set_option linter.unusedVariables false
set_option maxRecDepth 100000
namespace Sc
open Cm Nm Sh
abbrev zRD : Array Value := #[.slice none 0 0, .int .i64 0]
theorem results_c2 {P : Program} {fn : Func} {p a : Tmp} {ty : TypeId} (h : fn.results = #[.cell p ty, .tmp a]) (tmps : Array Value) (w : World) (g : Nat) (t : TypeId) (cs : Array Value) (fr : Nat × Nat) (d : TypeDesc)
    (hp : tmps.getD p undef = .pointer (some ⟨g, 0, none⟩)) (hg : w.heap[g]? = some (.cells cs t fr))
    (hu : P.underlying ty = some d) (hd : (match d with | .struct _ | .array _ _ => true | _ => false) = true) (hi : (P.info? ty).map (·.size) = some cs.size) {x : Value} (hx : tmps.getD a undef = x) :
    (results fn tmps).run P w = .ok (.tuple #[.agg cs, x]) w := by
  subst hx
  have hp' : tmps[p]?.getD undef = .pointer (some ⟨g, 0, none⟩) := by simpa using hp
  simp [results, h, hp', asAddr, run_loadVar_row w g t ty cs fr d hg hu hd hi]
theorem sArr_one (s : Sho) (a b c : Option Addr) (i j k m p q : Nat) : (sArr s (.slice a i j) (.slice b k m) (.slice c p q)).all (·.oneCell') = true := by simp [Value.oneCell']
theorem zSA_one : zSA.all (·.oneCell') = true := by simp [zSA, Value.oneCell']
theorem list_all {α : Type} {f : Pst → α × Pst} {P : α → Prop} (h : ∀ st, P (f st).1) : ∀ (k : Nat) (st : Pst), ∀ x ∈ (listS f k st).1, P x
  | 0, st, x, hx => by simp [listS] at hx
  | k + 1, st, x, hx => by
    rw [listS] at hx
    simp only [List.mem_append, List.mem_cons, List.not_mem_nil, or_false] at hx
    rcases hx with hx | rfl
    · exact list_all h k st x hx
    · exact h _
theorem i64_of {n : Int} (h : 0 ≤ n ∧ n ≤ 65535) : (Lit.int .i64 n).wf = true := by
  simp [Lit.wf, IntKind.min, IntKind.max, IntKind.signed, IntKind.bits]
  omega
theorem small_wf (st : Pst) : (Lit.int .i64 (smallS st).1).wf = true := i64_of (pnum_bd 65535 (by decide) st)
theorem wide_wf (st : Pst) : (Lit.int .u64 (wideS st).1).wf = true := u64_wf (pnum_bd 18446744073709551615 (by decide) st)
def ShoW (s : Sho) : Prop := s.wf ∧ ∀ n ∈ s.nodes, (Lit.int .i64 n).wf = true
theorem shotS_w (st : Pst) : ShoW (shotS st).1 := by
  refine ⟨⟨wide_wf _, wide_wf _, small_wf _, wide_wf _, ?_, ?_⟩, ?_⟩
  · exact list_all (f := heldS) (P := Held.wf) (fun st => ⟨small_wf _, small_wf _, wide_wf _, wide_wf _, wide_wf _⟩) _ _
  · exact list_all (f := lastS) (P := LastR.wf) (fun st => ⟨small_wf _, wide_wf _, wide_wf _, small_wf _, small_wf _, wide_wf _⟩) _ _
  · exact list_all (f := smallS) (P := fun n => (Lit.int .i64 n).wf = true) small_wf _ _
theorem zS_w : ShoW zS := ⟨⟨by decide, by decide, by decide, by decide, by simp [zS], by simp [zS]⟩, by simp [zS]⟩
/-- what Decode answers: a snapshot whose lists are the call's own, and an error -/
def DecE (zs : List Int) (w : World) (e : Ending) (w' : World) : Prop := ∃ s z vn vh vl, e = .returned (.tuple #[.agg (sArr s vn vh vl), .int .i64 z]) ∧ decV zs = (s, z) ∧ OwnI w' w.heap.size vn s.nodes ∧ OwnR 5 heldC 110 w' w.heap.size vh s.led.held ∧ OwnR 6 lastC 114 w' w.heap.size vl s.led.last ∧ ShoW s ∧ Below w.heap.size w w'
theorem dec_nil {zs : List Int} {z : Int} {w W : World} (he : decV zs = (zS, z)) (hb : Below w.heap.size w W) : DecE zs w (.returned (.tuple #[.agg zSA, .int .i64 z])) W := ⟨zS, z, _, _, _, rfl, he, OwnK.nil .i64 3 _ _, OwnR.nil _ _ _, OwnR.nil _ _ _, zS_w, hb⟩
theorem own_lowerx {w : World} {B D : Nat} (hD : D ≤ B) {e sz : _} {v : Value} {n : Nat} {xs : List Value} (h : w.ownsRow B e sz v n xs) : w.ownsRow D e sz v n xs := by
  refine ⟨h.1, ?_⟩
  rcases h.2 with h2 | ⟨q, cap, cur, h2, h3, h4⟩
  · exact .inl h2
  · exact .inr ⟨q, cap, cur, h2, Nat.le_trans hD h3, h4⟩
theorem own_belowx {w w' : World} {B : Nat} (hb : Below w.heap.size w w') {e sz : _} {v : Value} {n : Nat} {xs : List Value} (h : w.ownsRow B e sz v n xs) : w'.ownsRow B e sz v n xs := by
  refine ⟨h.1, ?_⟩
  rcases h.2 with h2 | ⟨q, cap, cur, h2, h3, h4, h5⟩
  · exact .inl h2
  · exact .inr ⟨q, cap, cur, h2, h3, (hb.block q (row_lt h4)).trans h4, h5⟩
theorem DecE.shot {zs : List Int} {w w' : World} {vn vh vl : Value} {s : Sho} (h1 : OwnI w' w.heap.size vn s.nodes) (h2 : OwnR 5 heldC 110 w' w.heap.size vh s.led.held) (h3 : OwnR 6 lastC 114 w' w.heap.size vl s.led.last) (hw : ShoW s) : IsShot w' (.agg (sArr s vn vh vl)) s := ⟨vn, vh, vl, rfl, h1.sl hw.2, h2.sl heldC_len, h3.sl lastC_len, hw.1⟩
set_option maxHeartbeats 8000000 in
theorem dec_any (zs : List Int) (v : Value) (w : World) (hs : Sl .u8 w v zs) : Calls Tryz.prog 67 #[v] w (DecE zs w) := by
  obtain ⟨av, cv, rfl, -⟩ := id hs
  obtain ⟨W0, hW0⟩ : ∃ q, w.alloc (.cells zSA 31) = q := ⟨_, rfl⟩
  have hb0 : Below w.heap.size w W0 := by rw [← hW0]; exact (Below.refl _ _).alloc (Nat.le_refl _) _
  have HQ0 : Hid (W0.heap[w.heap.size]? = some (.cells zSA 31 (0, 0))) := Lib.hid (by rw [← hW0]; exact heap_alloc_new _ _)
  have HZ0 : Hid (W0.heap.size = w.heap.size + 1) := Lib.hid (by rw [← hW0]; simp)
  have HB0 := Lib.hid hb0
  have HSL := Lib.hid hs
  clear hs hb0
  by_cases hl : 8192 < zs.length
  · have HDV := Lib.hid (dec_long hl)
    have hl2 : (8192 : Int) < (zs.length : Int) := by omega
    obtain ⟨WZ, hWZ⟩ : ∃ q, W0.setRow w.heap.size zSA = q := ⟨_, rfl⟩
    have HQZ : Hid (WZ.heap[w.heap.size]? = some (.cells zSA 31 (0, 0))) := Lib.hid (by rw [← hWZ]; exact setRow_heap _ _ _ _ _ _ HQ0.out)
    have HFIN := Lib.hid (dec_nil (w := w) (W := WZ) HDV.out (by rw [← hWZ]; exact Ld.below_row HB0.out (Nat.le_refl _) _))
    go_enter Tryz.func67, Tryz.ntmps67
    go_wp2_with (first | (with_reducible refine wpList_store_row rfl 31 (.tmp 2) (.tmp 10) rfl w.heap.size zSA rfl rfl 31 _ HQ0.out (by kernel_rfl) rfl zSA_one ?_; rw [hWZ]; clear hWZ) | fail)
    refine bodyPost_ret (v := .tuple #[.agg zSA, .int .i64 2]) (results_c2 rfl _ _ w.heap.size 31 _ (0, 0) _ rfl HQZ.out Tryz.underlying31 rfl (by kernel_rfl) rfl) rfl ?_
    exact HFIN.out
  have hl2 : ¬ (8192 : Int) < (zs.length : Int) := by omega
  have HNL := Lib.hid hl
  have hsR : (W0.alloc (.cells zRD 127)).heap[w.heap.size + 1]? = some (.cells zRD 127 (0, 0)) := by rw [← HZ0.out]; exact heap_alloc_new _ _
  obtain ⟨W1, hW1⟩ : ∃ q, (W0.alloc (.cells zRD 127)).setRow (w.heap.size + 1) #[.slice av zs.length cv, .int .i64 0] = q := ⟨_, rfl⟩
  have hbA : Below (w.heap.size + 1) W0 W1 := by rw [← hW1]; exact Ld.below_row ((Below.refl _ _).alloc (by have := HZ0.out; omega) _) (Nat.le_refl _) _
  have HR1 : Hid (RdS w (w.heap.size + 1) (zs, 0) W1) := Lib.hid ⟨av, cv, by rw [← hW1]; exact setRow_heap _ _ _ _ _ _ hsR, HSL.out⟩
  have HB1 := Lib.hid (HB0.out.trans (hbA.mono (by omega)))
  have HQ1 := Lib.hid ((hbA.block _ (by omega)).trans HQ0.out)
  have HZ1 : Hid (w.heap.size + 1 < W1.heap.size) := Lib.hid HR1.out.lt
  have hone1 : (#[.slice av zs.length cv, .int .i64 0] : Array Value).all (·.oneCell') = true := by simp [Value.oneCell']
  rcases hS : shotS (zs, 0) with ⟨S, rest, er⟩
  have HS := Lib.hid hS
  have HWS : Hid (ShoW S) := Lib.hid (by have q := shotS_w (zs, 0); rw [hS] at q; exact q)
  clear hS hbA hl
  have hz0 := HZ0.out
  go_enter Tryz.func67, Tryz.ntmps67
  go_wp2_with (first | (with_reducible refine wpList_store_row rfl 127 (.tmp 4) (.tmp 12) rfl (w.heap.size + 1) #[.slice av zs.length cv, .int .i64 0] rfl rfl 127 _ hsR (by kernel_rfl) rfl hone1 ?_; rw [hW1]; clear hW1 hsR) | fail)
  refine (shot_any w (w.heap.size + 1) (zs, 0) W1 HR1.out HB1.out (Nat.le_succ _)).mono ?_
  rintro E w2 ⟨vn, vh, vl, rfl, o1, o2, o3, hr2, ho2⟩
  rw [HS.out] at o1 o2 o3 hr2 ⊢
  obtain ⟨a1, m1, q1, rfl⟩ := own_formx o1
  obtain ⟨a2, m2, q2, rfl⟩ := own_formx o2
  obtain ⟨a3, m3, q3, rfl⟩ := own_formx o3
  have HO2 := Lib.hid (⟨o1, o2, o3⟩ : OwnI w2 W1.heap.size (.slice a1 m1 q1) S.nodes ∧ OwnR 5 heldC 110 w2 W1.heap.size (.slice a2 m2 q2) S.led.held ∧ OwnR 6 lastC 114 w2 W1.heap.size (.slice a3 m3 q3) S.led.last)
  have HB2 : Hid (Below w.heap.size w w2) := Lib.hid (ho2.below HB1.out HB1.out.size (fun q hq => by omega))
  have HQ2 := Lib.hid ((ho2.2.2.2.2 _ (row_lt HQ1.out) (by omega)).trans HQ1.out)
  have HSZ : Hid (W1.heap.size ≤ w2.heap.size) := Lib.hid ho2.2.2.2.1
  have hsS : (w2.alloc (.cells zSA 31)).heap[w2.heap.size]? = some (.cells zSA 31 (0, 0)) := heap_alloc_new _ _
  obtain ⟨W3, hW3⟩ : ∃ q, (w2.alloc (.cells zSA 31)).setRow w2.heap.size (sArr S (.slice a1 m1 q1) (.slice a2 m2 q2) (.slice a3 m3 q3)) = q := ⟨_, rfl⟩
  have hb3 : Below w2.heap.size w2 W3 := by rw [← hW3]; exact Ld.below_row ((Below.refl _ _).alloc (Nat.le_refl _) _) (Nat.le_refl _) _
  have HX3 : Hid (W3.heap[w2.heap.size]? = some (.cells (sArr S (.slice a1 m1 q1) (.slice a2 m2 q2) (.slice a3 m3 q3)) 31 (0, 0))) := Lib.hid (by rw [← hW3]; exact setRow_heap _ _ _ _ _ _ hsS)
  have HB3 := Lib.hid (HB2.out.trans (hb3.mono HB2.out.size))
  have HQ3 := Lib.hid ((hb3.block _ (row_lt HQ2.out)).trans HQ2.out)
  have HO3 : Hid (OwnI W3 W1.heap.size (.slice a1 m1 q1) S.nodes ∧ OwnR 5 heldC 110 W3 W1.heap.size (.slice a2 m2 q2) S.led.held ∧ OwnR 6 lastC 114 W3 W1.heap.size (.slice a3 m3 q3) S.led.last) := Lib.hid ⟨own_belowx hb3 HO2.out.1, own_belowx hb3 HO2.out.2.1, own_belowx hb3 HO2.out.2.2⟩
  obtain ⟨ar, cr, hrow, hsr⟩ := hr2.block (hb3.block _ hr2.lt)
  dsimp only at hrow hsr
  have HROW := Lib.hid hrow
  have e0 : W3.cell? ⟨w.heap.size + 1, 0, none⟩ = some (.slice ar rest.length cr) := (cell_of_row _ _ 0 _ _ _ hrow).trans rfl
  have e1 : W3.cell? ⟨w.heap.size + 1, 1, none⟩ = some (.int .i64 er) := (cell_of_row _ _ 1 _ _ _ hrow).trans rfl
  have ef1 : W3.frozen? ⟨w.heap.size + 1, 1, none⟩ = false := frozen_of_row _ _ 1 _ _ hrow
  have HERR : Hid (errS zs = if (er == 0) = true ∧ 0 < rest.length then 11 else er) := Lib.hid (by unfold errS; rw [HS.out])
  have HG2 : Hid (w.heap.size + 1 < w2.heap.size) := Lib.hid (by have := HZ1.out; have := HSZ.out; omega)
  clear o1 o2 o3 hr2 ho2 hb3 hrow hsr HO2
  cases her : (er == 0) with
  | false =>
    have hne : (er != 0) = true := by rw [bne, her]; rfl
    have HDV : Hid (decV zs = (zS, er)) := Lib.hid (by
      have q : errS zs = er := by rw [HERR.out, her]; simp
      rw [dec_err HNL.out (by rw [q]; simpa using her), q])
    go_upto_region 8 with (first | (with_reducible refine wpList_store_row rfl 31 (.tmp 5) (.tmp 13) rfl w2.heap.size (sArr S (.slice a1 m1 q1) (.slice a2 m2 q2) (.slice a3 m3 q3)) rfl rfl 31 _ hsS (by kernel_rfl) rfl (sArr_one _ _ _ _ _ _ _ _ _ _) ?_; rw [hW3]; clear hW3 hsS) | fail)
    obtain ⟨WZ, hWZ⟩ : ∃ q, W3.drew.setRow w.heap.size zSA = q := ⟨_, rfl⟩
    have HQD : Hid (W3.drew.heap[w.heap.size]? = some (.cells zSA 31 (0, 0))) := Lib.hid HQ3.out
    have HQZ : Hid (WZ.heap[w.heap.size]? = some (.cells zSA 31 (0, 0))) := Lib.hid (by rw [← hWZ]; exact setRow_heap _ _ _ _ _ _ HQD.out)
    have HRZ : Hid (WZ.heap[w.heap.size + 1]? = some (.cells #[.slice ar rest.length cr, .int .i64 er] 127 (0, 0))) := Lib.hid (by rw [← hWZ]; exact (setRow_other _ _ _ _ (by omega)).trans HROW.out)
    have HFIN := Lib.hid (dec_nil (w := w) (W := WZ) HDV.out (by rw [← hWZ]; exact Ld.below_row HB3.out.drew (Nat.le_refl _) _))
    refine wp_region_held_drew (S := fun w' => w'.heap[w.heap.size + 1]? = some (.cells #[.slice ar rest.length cr, .int .i64 er] 127 (0, 0))) (by kernel_rfl) HROW.out (fun hHeld => ?_)
    refine wpAnyH_take (i := 0) (v := (.agg zSA)) rfl (by kernel_rfl) (by kernel_rfl) (by kernel_rfl) (fun _ _ _ h => h) (Or.inl ⟨by kernel_rfl, ?_⟩) (by assumption) ?_
    · intro wx hSw
      clear hSw hHeld
      go_simp
      try first | with_reducible rfl | kernel_rfl
    simp only [Act.put, List.getElem_toArray, List.getElem_cons_zero, List.setIfInBounds_toArray, List.set_cons_succ, List.set_cons_zero]
    refine wpAnyH_take (i := 1) (v := .pointer (some ⟨(w.heap.size + 1), 1, none⟩)) rfl (by kernel_rfl) (by kernel_rfl) (by kernel_rfl) (fun _ _ _ h => h) (Or.inl ⟨by kernel_rfl, ?_⟩) (by assumption) ?_
    · intro wx hSw
      clear hSw hHeld
      go_simp
      try first | with_reducible rfl | kernel_rfl
    simp only [Act.put, List.getElem_toArray, List.getElem_cons_succ, List.getElem_cons_zero, List.setIfInBounds_toArray, List.set_cons_succ, List.set_cons_zero]
    refine wpAnyH_take (i := 2) (v := (.int .i64 er)) rfl (by kernel_rfl) (by kernel_rfl) (by kernel_rfl) (fun _ _ _ h => h) (Or.inl ⟨by kernel_rfl, ?_⟩) (by assumption) ?_
    · intro wx hSw
      have cc : wx.cell? ⟨w.heap.size + 1, 1, none⟩ = some (.int .i64 er) := (cell_of_row wx _ 1 _ _ _ hSw).trans rfl
      clear hSw hHeld
      go_simp
      try first | with_reducible rfl | kernel_rfl
    simp only [Act.put, List.getElem_toArray, List.getElem_cons_succ, List.getElem_cons_zero, List.setIfInBounds_toArray, List.set_cons_succ, List.set_cons_zero]
    refine wpAnyH_ready (rs := [3]) (by kernel_rfl) (by simp) ?_
    refine AllReadyH.cons rfl (fun K hK => ?_) AllReadyH.nil
    rw [if_pos (by kernel_rfl)]
    refine wp_store_row 31 (.tmp 2) (.tmp 27) (by kernel_rfl) w.heap.size zSA (by kernel_rfl) (by kernel_rfl) 31 zSA HQD.out (by kernel_rfl) (by kernel_rfl) zSA_one ?_
    rw [hWZ]
    clear hHeld
    refine hK.out _ _ HRZ.out (fun hHeld => ?_)
    clear hK K
    refine wpAnyH_take (i := 4) (v := (.int .i64 er)) rfl (by kernel_rfl) (by kernel_rfl) (by kernel_rfl) (fun _ _ _ h => h) (Or.inl ⟨by kernel_rfl, ?_⟩) (by assumption) ?_
    · intro wx hSw
      clear hSw hHeld
      go_simp
      try first | with_reducible rfl | kernel_rfl
    simp only [Act.put, List.getElem_toArray, List.getElem_cons_succ, List.getElem_cons_zero, List.setIfInBounds_toArray, List.set_cons_succ, List.set_cons_zero]
    refine wpAnyH_done (by kernel_rfl) ?_ _
    clear hHeld
    go_wp2_with fail
    refine bodyPost_ret (v := .tuple #[.agg zSA, .int .i64 er]) (results_c2 rfl _ _ w.heap.size 31 _ (0, 0) _ rfl HQZ.out Tryz.underlying31 rfl (by kernel_rfl) rfl) rfl ?_
    exact HFIN.out
  | true =>
    obtain rfl : er = 0 := by simpa using her
    clear her
    by_cases hrl : 0 < rest.length
    · have hrl2 : (0 : Int) < (rest.length : Int) := by omega
      have HDV : Hid (decV zs = (zS, 11)) := Lib.hid (by
        have q : errS zs = 11 := by rw [HERR.out, if_pos ⟨by simp, hrl⟩]
        rw [dec_err HNL.out (by rw [q]; decide), q])
      obtain ⟨W4, hW4⟩ : ∃ q, W3.setCell ⟨w.heap.size + 1, 1, none⟩ (.int .i64 11) = q := ⟨_, rfl⟩
      have HROW4 : Hid (W4.heap[w.heap.size + 1]? = some (.cells #[.slice ar rest.length cr, .int .i64 11] 127 (0, 0))) := Lib.hid (by rw [← hW4, heap_setCell_same _ _ 1 _ _ _ HROW.out]; rfl)
      have ho4 : Only (· = w.heap.size + 1) W3 W4 := by rw [← hW4]; exact Only.setCell _ _ _ rfl
      have HQ4 := Lib.hid ((ho4.2.2.2.2 _ (row_lt HQ3.out) (by omega)).trans HQ3.out)
      have HB4 : Hid (Below w.heap.size w W4) := Lib.hid (ho4.below HB3.out HB3.out.size (fun q hq => by omega))
      have g1 : W4.cell? ⟨w.heap.size + 1, 1, none⟩ = some (.int .i64 11) := (cell_of_row _ _ 1 _ _ _ HROW4.out).trans rfl
      clear ho4
      go_upto_region 8 with (first | (with_reducible refine wpList_store_row rfl 31 (.tmp 5) (.tmp 13) rfl w2.heap.size (sArr S (.slice a1 m1 q1) (.slice a2 m2 q2) (.slice a3 m3 q3)) rfl rfl 31 _ hsS (by kernel_rfl) rfl (sArr_one _ _ _ _ _ _ _ _ _ _) ?_; rw [hW3]; clear hW3 hsS) | fail)
      obtain ⟨WZ, hWZ⟩ : ∃ q, W4.drew.setRow w.heap.size zSA = q := ⟨_, rfl⟩
      have HQD : Hid (W4.drew.heap[w.heap.size]? = some (.cells zSA 31 (0, 0))) := Lib.hid HQ4.out
      have HQZ : Hid (WZ.heap[w.heap.size]? = some (.cells zSA 31 (0, 0))) := Lib.hid (by rw [← hWZ]; exact setRow_heap _ _ _ _ _ _ HQD.out)
      have HRZ : Hid (WZ.heap[w.heap.size + 1]? = some (.cells #[.slice ar rest.length cr, .int .i64 11] 127 (0, 0))) := Lib.hid (by rw [← hWZ]; exact (setRow_other _ _ _ _ (by omega)).trans HROW4.out)
      have HFIN := Lib.hid (dec_nil (w := w) (W := WZ) HDV.out (by rw [← hWZ]; exact Ld.below_row HB4.out.drew (Nat.le_refl _) _))
      refine wp_region_held_drew (S := fun w' => w'.heap[w.heap.size + 1]? = some (.cells #[.slice ar rest.length cr, .int .i64 11] 127 (0, 0))) (by kernel_rfl) HROW4.out (fun hHeld => ?_)
      refine wpAnyH_take (i := 0) (v := (.agg zSA)) rfl (by kernel_rfl) (by kernel_rfl) (by kernel_rfl) (fun _ _ _ h => h) (Or.inl ⟨by kernel_rfl, ?_⟩) (by assumption) ?_
      · intro wx hSw
        clear hSw hHeld
        go_simp
        try first | with_reducible rfl | kernel_rfl
      simp only [Act.put, List.getElem_toArray, List.getElem_cons_zero, List.setIfInBounds_toArray, List.set_cons_succ, List.set_cons_zero]
      refine wpAnyH_take (i := 1) (v := .pointer (some ⟨(w.heap.size + 1), 1, none⟩)) rfl (by kernel_rfl) (by kernel_rfl) (by kernel_rfl) (fun _ _ _ h => h) (Or.inl ⟨by kernel_rfl, ?_⟩) (by assumption) ?_
      · intro wx hSw
        clear hSw hHeld
        go_simp
        try first | with_reducible rfl | kernel_rfl
      simp only [Act.put, List.getElem_toArray, List.getElem_cons_succ, List.getElem_cons_zero, List.setIfInBounds_toArray, List.set_cons_succ, List.set_cons_zero]
      refine wpAnyH_take (i := 2) (v := (.int .i64 11)) rfl (by kernel_rfl) (by kernel_rfl) (by kernel_rfl) (fun _ _ _ h => h) (Or.inl ⟨by kernel_rfl, ?_⟩) (by assumption) ?_
      · intro wx hSw
        have cc : wx.cell? ⟨w.heap.size + 1, 1, none⟩ = some (.int .i64 11) := (cell_of_row wx _ 1 _ _ _ hSw).trans rfl
        clear hSw hHeld
        go_simp
        try first | with_reducible rfl | kernel_rfl
      simp only [Act.put, List.getElem_toArray, List.getElem_cons_succ, List.getElem_cons_zero, List.setIfInBounds_toArray, List.set_cons_succ, List.set_cons_zero]
      refine wpAnyH_ready (rs := [3]) (by kernel_rfl) (by simp) ?_
      refine AllReadyH.cons rfl (fun K hK => ?_) AllReadyH.nil
      rw [if_pos (by kernel_rfl)]
      refine wp_store_row 31 (.tmp 2) (.tmp 27) (by kernel_rfl) w.heap.size zSA (by kernel_rfl) (by kernel_rfl) 31 zSA HQD.out (by kernel_rfl) (by kernel_rfl) zSA_one ?_
      rw [hWZ]
      clear hHeld
      refine hK.out _ _ HRZ.out (fun hHeld => ?_)
      clear hK K
      refine wpAnyH_take (i := 4) (v := (.int .i64 11)) rfl (by kernel_rfl) (by kernel_rfl) (by kernel_rfl) (fun _ _ _ h => h) (Or.inl ⟨by kernel_rfl, ?_⟩) (by assumption) ?_
      · intro wx hSw
        clear hSw hHeld
        go_simp
        try first | with_reducible rfl | kernel_rfl
      simp only [Act.put, List.getElem_toArray, List.getElem_cons_succ, List.getElem_cons_zero, List.setIfInBounds_toArray, List.set_cons_succ, List.set_cons_zero]
      refine wpAnyH_done (by kernel_rfl) ?_ _
      clear hHeld
      go_wp2_with fail
      refine bodyPost_ret (v := .tuple #[.agg zSA, .int .i64 11]) (results_c2 rfl _ _ w.heap.size 31 _ (0, 0) _ rfl HQZ.out Tryz.underlying31 rfl (by kernel_rfl) rfl) rfl ?_
      exact HFIN.out
    · have hr0 : rest = [] := List.eq_nil_of_length_eq_zero (by omega)
      have hrl2 : ¬ (0 : Int) < (rest.length : Int) := by omega
      have HE0 : Hid (errS zs = 0) := Lib.hid (by rw [HERR.out, if_neg (fun q => hrl q.2)])
      have HIS : Hid (IsShot W3 (.agg (sArr S (.slice a1 m1 q1) (.slice a2 m2 q2) (.slice a3 m3 q3))) S) := Lib.hid ⟨_, _, _, rfl, HO3.out.1.sl HWS.out.2, HO3.out.2.1.sl heldC_len, HO3.out.2.2.sl lastC_len, HWS.out.1⟩
      clear hr0 hrl
      go_wp2_with (first
        | (with_reducible refine wpList_store_row rfl 31 (.tmp 5) (.tmp 13) rfl w2.heap.size (sArr S (.slice a1 m1 q1) (.slice a2 m2 q2) (.slice a3 m3 q3)) rfl rfl 31 _ hsS (by kernel_rfl) rfl (sArr_one _ _ _ _ _ _ _ _ _ _) ?_; rw [hW3]; clear hW3 hsS)
        | (with_reducible refine wpList_load_row rfl 31 (.tmp 5) rfl w2.heap.size rfl 31 (sArr S (.slice a1 m1 q1) (.slice a2 m2 q2) (.slice a3 m3 q3)) (0, 0) _ HX3.out Tryz.underlying31 rfl (by kernel_rfl) ?_))
      refine (Sh.check_any S _ _ HIS.out).mono ?_
      rintro e w5 ⟨z, rfl, hz, hb5⟩
      have HQ5 := Lib.hid ((hb5.block _ (row_lt HQ3.out)).trans HQ3.out)
      have HX5 := Lib.hid ((hb5.block _ (row_lt HX3.out)).trans HX3.out)
      have HB5 := Lib.hid (HB3.out.trans (hb5.mono HB3.out.size))
      have HO5 : Hid (OwnI w5 W1.heap.size (.slice a1 m1 q1) S.nodes ∧ OwnR 5 heldC 110 w5 W1.heap.size (.slice a2 m2 q2) S.led.held ∧ OwnR 6 lastC 114 w5 W1.heap.size (.slice a3 m3 q3) S.led.last) := Lib.hid ⟨own_belowx hb5 HO3.out.1, own_belowx hb5 HO3.out.2.1, own_belowx hb5 HO3.out.2.2⟩
      clear hb5 e0 e1 ef1
      rcases hz with ⟨rfl, ok⟩ | ⟨rfl, no⟩
      · have HDV : Hid (decV zs = (S, 0)) := Lib.hid (by rw [dec_ok HNL.out HE0.out (by rw [HS.out]; exact ok), HS.out])
        obtain ⟨WZ, hWZ⟩ : ∃ q, w5.setRow w.heap.size (sArr S (.slice a1 m1 q1) (.slice a2 m2 q2) (.slice a3 m3 q3)) = q := ⟨_, rfl⟩
        have HQZ : Hid (WZ.heap[w.heap.size]? = some (.cells (sArr S (.slice a1 m1 q1) (.slice a2 m2 q2) (.slice a3 m3 q3)) 31 (0, 0))) := Lib.hid (by rw [← hWZ]; exact setRow_heap _ _ _ _ _ _ HQ5.out)
        have HFIN : Hid (DecE zs w (.returned (.tuple #[.agg (sArr S (.slice a1 m1 q1) (.slice a2 m2 q2) (.slice a3 m3 q3)), .int .i64 0])) WZ) := Lib.hid (by
          have hx : Only (· = w.heap.size) w5 WZ := by rw [← hWZ]; exact only_row _ _ _
          have hb : ∀ q, q < w5.heap.size → q ≠ w.heap.size → WZ.heap[q]? = w5.heap[q]? := fun q hq hn => hx.2.2.2.2 q hq hn
          obtain ⟨h1, h2, h3⟩ := HO5.out
          have hle : w.heap.size ≤ W1.heap.size := HB1.out.size
          exact ⟨S, 0, _, _, _, rfl, HDV.out, own_lowerx hle (own_blk h1 (own_ty h1 HQ5.out (by decide)) hb), own_lowerx hle (own_blk h2 (own_ty h2 HQ5.out (by decide)) hb), own_lowerx hle (own_blk h3 (own_ty h3 HQ5.out (by decide)) hb), HWS.out, by rw [← hWZ]; exact Ld.below_row HB5.out (Nat.le_refl _) _⟩)
        clear ok
        go_wp2_with (first
          | (with_reducible refine wpList_load_row rfl 31 (.tmp 5) rfl w2.heap.size rfl 31 (sArr S (.slice a1 m1 q1) (.slice a2 m2 q2) (.slice a3 m3 q3)) (0, 0) _ HX5.out Tryz.underlying31 rfl (by kernel_rfl) ?_)
          | (with_reducible refine wpList_store_row rfl 31 (.tmp 2) (.tmp 36) rfl w.heap.size (sArr S (.slice a1 m1 q1) (.slice a2 m2 q2) (.slice a3 m3 q3)) rfl rfl 31 _ HQ5.out (by kernel_rfl) rfl (sArr_one _ _ _ _ _ _ _ _ _ _) ?_; rw [hWZ]; clear hWZ))
        refine bodyPost_ret (v := .tuple #[.agg (sArr S (.slice a1 m1 q1) (.slice a2 m2 q2) (.slice a3 m3 q3)), .int .i64 0]) (results_c2 rfl _ _ w.heap.size 31 _ (0, 0) _ rfl HQZ.out Tryz.underlying31 rfl (by kernel_rfl) rfl) rfl ?_
        exact HFIN.out
      · have HDV : Hid (decV zs = (zS, 60)) := Lib.hid (dec_no HNL.out HE0.out (by rw [HS.out]; exact no))
        obtain ⟨WZ, hWZ⟩ : ∃ q, w5.setRow w.heap.size zSA = q := ⟨_, rfl⟩
        have HQZ : Hid (WZ.heap[w.heap.size]? = some (.cells zSA 31 (0, 0))) := Lib.hid (by rw [← hWZ]; exact setRow_heap _ _ _ _ _ _ HQ5.out)
        have HFIN := Lib.hid (dec_nil (w := w) (W := WZ) HDV.out (by rw [← hWZ]; exact Ld.below_row HB5.out (Nat.le_refl _) _))
        clear no
        go_wp2_with (first | (with_reducible refine wpList_store_row rfl 31 (.tmp 2) (.tmp 34) rfl w.heap.size zSA rfl rfl 31 _ HQ5.out (by kernel_rfl) rfl zSA_one ?_; rw [hWZ]; clear hWZ) | fail)
        refine bodyPost_ret (v := .tuple #[.agg zSA, .int .i64 60]) (results_c2 rfl _ _ w.heap.size 31 _ (0, 0) _ rfl HQZ.out Tryz.underlying31 rfl (by kernel_rfl) rfl) rfl ?_
        exact HFIN.out
end Sc
end Go.Proofs.YtlfaiemebfkajaaGreatDoor
