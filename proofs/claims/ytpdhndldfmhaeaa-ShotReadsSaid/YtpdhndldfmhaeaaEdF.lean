/- The document's reader, told as the reader of shot is: Num, Small. No condition. -/
import Derived.Test.YtpdhndldfmhaeaaEdD
import Derived.Test.YtpdhndldfmhaeaaRdr
namespace Go.Proofs.Ytpdhndldfmhaeaa
open Go.ChangeShapes Go.WideShapes Go.ChangeAt Go.RowKit Go.Deep
set_option linter.unusedVariables false
set_option maxRecDepth 100000
namespace Sc
open Cm Nm Sh
/-- the document's reader at g: what it reads lies in w0's memory -/
def RdR (w0 : World) (g : Nat) (zs : List Int) (st : Pst) (w : World) : Prop := ∃ v u, RB g v u st.2 w ∧ Sl .u8 w0 v zs ∧ u ≤ zs.length + 1 ∧ ((st.2 == 0) = true → u ≤ zs.length ∧ st.1 = zs.drop u)
theorem RdR.only {w0 w w' : World} {g : Nat} {zs : List Int} {st : Pst} {S : Nat → Prop} (h : RdR w0 g zs st w) (ho : Only S w w') (hs : ¬ S g) : RdR w0 g zs st w' := by
  obtain ⟨v, u, h1, h2⟩ := h
  exact ⟨v, u, h1.only ho hs, h2⟩
theorem RdR.lt {w0 w : World} {g : Nat} {zs : List Int} {st : Pst} (h : RdR w0 g zs st w) : g < w.heap.size := by
  obtain ⟨v, u, h1, -⟩ := h
  exact row_lt h1
theorem RdR.block {w0 w w' : World} {g : Nat} {zs : List Int} {st : Pst} (h : RdR w0 g zs st w) (hb : w'.heap[g]? = w.heap[g]?) : RdR w0 g zs st w' := by
  obtain ⟨v, u, h1, h2⟩ := h
  exact ⟨v, u, hb.trans h1, h2⟩
theorem RdR.grown {w0 wr w' : World} {g B : Nat} {zs : List Int} {st : Pst} {row : Option Nat} (h : RdR w0 g zs st wr) (hg : wr.grownBy w' row) (hB : g < B) (hr : ∀ q, row = some q → B ≤ q) : RdR w0 g zs st w' :=
  h.block (hg.block g h.lt (fun e => by have := hr g e.symm; omega))
theorem nx_rel (zs : List Int) (u : Nat) (m : Int) : (nx zs u m).1 = (pnum m (zs.drop u, 0)).1 ∧ (nx zs u m).2.1 = (pnum m (zs.drop u, 0)).2.2 ∧ ((((pnum m (zs.drop u, 0)).2.2 == 0) = true) → (pnum m (zs.drop u, 0)).2.1 = zs.drop (nx zs u m).2.2) := by
  rcases hr : Oc.rdL (zs.drop u) with ⟨n, k, e⟩
  rcases Oc.rd_err hr with he | he
  · subst he
    by_cases hm : m < (n : Int)
    · rw [nx_form hr hm, pnum_form hr hm]
      exact ⟨rfl, rfl, fun h => by simp at h⟩
    · rw [nx_ok hr (by omega), pnum_ok hr (by omega)]
      exact ⟨rfl, rfl, fun _ => by simp [List.drop_drop]⟩
  · rw [nx_err hr he, pnum_err hr he]
    exact ⟨rfl, rfl, fun h => by simp only [he] at h; cases h⟩
theorem sm_rel (zs : List Int) (u : Nat) (m : Int) (hm0 : m ≤ 18446744073709551615) : (sm zs u 0 m).1 = (pnum m (zs.drop u, 0)).1 ∧ (sm zs u 0 m).2.1 = (pnum m (zs.drop u, 0)).2.2 ∧ ((((pnum m (zs.drop u, 0)).2.2 == 0) = true) → (pnum m (zs.drop u, 0)).2.1 = zs.drop (sm zs u 0 m).2.2) := by
  have hrn : rn zs u 0 = nx zs u 18446744073709551615 := rfl
  unfold sm
  rw [hrn]
  rcases hr : Oc.rdL (zs.drop u) with ⟨n, k, e⟩
  rcases Oc.rd_err hr with he | he
  · subst he
    by_cases hm : m < (n : Int)
    · rw [pnum_form hr hm]
      by_cases hM : (18446744073709551615 : Int) < (n : Int)
      · rw [nx_form hr hM]
        exact ⟨rfl, rfl, fun h => by simp at h⟩
      · rw [nx_ok hr (by omega)]
        simp only [beq_self_eq_true, if_true, if_pos hm]
        exact ⟨trivial, trivial, fun h => by simp at h⟩
    · rw [nx_ok hr (by omega), pnum_ok hr (by omega)]
      simp only [beq_self_eq_true, if_true, if_neg hm]
      exact ⟨trivial, trivial, fun _ => by simp [List.drop_drop]⟩
  · rw [nx_err hr he, pnum_err hr he]
    simp only [he, Bool.false_eq_true, if_false]
    exact ⟨trivial, trivial, fun h => by cases h⟩
set_option maxHeartbeats 400000 in
theorem rnum_stuck (g : Nat) (v : Value) (u : Nat) (e : Int) (w : World) (h : RB g v u e w) (he : (e == 0) = false) :
    Calls Try.prog 22 #[.pointer (some ⟨g, 0, none⟩)] w fun E w' => E = .returned (.int .u64 0) ∧ w' = w := by
  have c2 := h.c2
  have hne : (e != 0) = true := by rw [bne, he]; rfl
  clear h he
  go_enter Try.func22, Try.ntmps22
  go_wp2
  go_ret
  exact ⟨rfl, rfl⟩
set_option maxHeartbeats 400000 in
theorem rsmall_stuck (g : Nat) (v : Value) (u : Nat) (e m : Int) (w : World) (h : RB g v u e w) (he : (e == 0) = false) (m0 : 0 ≤ m) (m1 : m ≤ 65535) :
    Calls Try.prog 23 #[.pointer (some ⟨g, 0, none⟩), .int .i64 m] w fun E w' => E = .returned (.int .i64 0) ∧ w' = w := by
  have HN := Lib.hid (rnum_stuck g v u e w h he)
  clear h he
  go_enter Try.func23, Try.ntmps23
  go_wp2_with fail
  refine HN.out.mono ?_
  rintro E w2 ⟨rfl, rfl⟩
  go_wp2
  go_ret
  exact ⟨rfl, rfl⟩
def NumR (w0 : World) (g : Nat) (zs : List Int) (r : Int × Pst) (v : Value) (w : World) (e : Ending) (w' : World) : Prop := e = .returned v ∧ RdR w0 g zs r.2 w' ∧ Only (· = g) w w' ∧ w'.heap.size = w.heap.size
theorem rw_any (w0 : World) (g : Nat) (zs : List Int) (st : Pst) (w : World) (hr : RdR w0 g zs st w) (hb : Below w0.heap.size w0 w) :
    Calls Try.prog 22 #[.pointer (some ⟨g, 0, none⟩)] w (NumR w0 g zs (wideS st) (.int .u64 (wideS st).1) w) := by
  obtain ⟨s1, e⟩ := st
  obtain ⟨v, u, h1, h2, h3, h4⟩ := hr
  cases he : (e == 0) with
  | false =>
    refine (rnum_stuck g v u e w h1 he).mono ?_
    rintro E w' ⟨rfl, rfl⟩
    rw [show wideS (s1, e) = (0, (s1, e)) from pnum_stuck he]
    exact ⟨rfl, ⟨v, u, h1, h2, h3, h4⟩, Only.refl _ _, rfl⟩
  | true =>
    obtain rfl : e = 0 := by simpa using he
    obtain ⟨hu, rfl⟩ := h4 rfl
    refine (rnum_any' g v zs u 0 w h1 (h2.below hb (Nat.le_refl _)) hu).mono ?_
    rintro E w' ⟨rfl, q2, q3, q4⟩
    obtain ⟨r1, r2, r3⟩ := nx_rel zs u 18446744073709551615
    have hbd := rn_bd hu 0
    rw [show rn zs u 0 = nx zs u 18446744073709551615 from rfl] at q2 hbd ⊢
    rw [r1]
    refine ⟨rfl, ⟨v, _, by rw [r2] at q2; exact q2, h2, by omega, fun h => ⟨hbd.1, r3 h⟩⟩, q3, q4⟩
theorem rs_any (w0 : World) (g : Nat) (zs : List Int) (m : Int) (st : Pst) (w : World) (hr : RdR w0 g zs st w) (hb : Below w0.heap.size w0 w) (m0 : 0 ≤ m) (m1 : m ≤ 65535) :
    Calls Try.prog 23 #[.pointer (some ⟨g, 0, none⟩), .int .i64 m] w (NumR w0 g zs (pnum m st) (.int .i64 (pnum m st).1) w) := by
  obtain ⟨s1, e⟩ := st
  obtain ⟨v, u, h1, h2, h3, h4⟩ := hr
  cases he : (e == 0) with
  | false =>
    refine (rsmall_stuck g v u e m w h1 he m0 m1).mono ?_
    rintro E w' ⟨rfl, rfl⟩
    rw [show pnum m (s1, e) = (0, (s1, e)) from pnum_stuck he]
    exact ⟨rfl, ⟨v, u, h1, h2, h3, h4⟩, Only.refl _ _, rfl⟩
  | true =>
    obtain rfl : e = 0 := by simpa using he
    obtain ⟨hu, rfl⟩ := h4 rfl
    refine (small_any g v zs u 0 m w h1 (h2.below hb (Nat.le_refl _)) hu m0 m1).mono ?_
    rintro E w' ⟨rfl, q2, q3, q4⟩
    obtain ⟨r1, r2, r3⟩ := sm_rel zs u m (by omega)
    have hbd := sm_bd hu 0 m0
    rw [r1]
    refine ⟨rfl, ⟨v, _, by rw [r2] at q2; exact q2, h2, by omega, fun h => ⟨hbd.1, r3 h⟩⟩, q3, q4⟩
end Sc
end Go.Proofs.Ytpdhndldfmhaeaa
