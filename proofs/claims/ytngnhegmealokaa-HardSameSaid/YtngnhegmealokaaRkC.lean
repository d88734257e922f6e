/- The reader of hard: take, number, wide, kind. No condition. -/
import Derived.Test.YtngnhegmealokaaRkA
namespace Go.Proofs.Ytngnhegmealokaa
open Go.ChangeShapes Go.WideShapes Go.ChangeAt Go.RowKit
set_option linter.unusedVariables false
set_option maxRecDepth 100000
namespace Rk
open Cm Sc Nm Rc Hd Nv Sh
/-- the reader at g: what is left lies in w0's memory -/
def RdH (w0 : World) (g : Nat) (st : Pst) (w : World) : Prop := ∃ a cap, w.heap[g]? = some (.cells #[.slice a st.1.length cap, .int .i64 st.2] 53 (0, 0)) ∧ Sl .u8 w0 (.slice a st.1.length cap) st.1
theorem RdH.only {w0 w w' : World} {g : Nat} {st : Pst} {S : Nat → Prop} (h : RdH w0 g st w) (ho : Only S w w') (hs : ¬ S g) : RdH w0 g st w' := by
  obtain ⟨a, cap, h1, h2⟩ := h
  exact ⟨a, cap, (ho.2.2.2.2 g (row_lt h1) hs).trans h1, h2⟩
theorem RdH.lt {w0 w : World} {g : Nat} {st : Pst} (h : RdH w0 g st w) : g < w.heap.size := by
  obtain ⟨a, cap, h1, h2⟩ := h
  exact row_lt h1
theorem RdH.block {w0 w w' : World} {g : Nat} {st : Pst} (h : RdH w0 g st w) (hb : w'.heap[g]? = w.heap[g]?) : RdH w0 g st w' := by
  obtain ⟨a, cap, h1, h2⟩ := h
  exact ⟨a, cap, hb.trans h1, h2⟩
theorem RdH.err {w0 w : World} {g : Nat} {st : Pst} (h : RdH w0 g st w) (x : Int) : RdH w0 g (st.1, x) (w.setCell ⟨g, 1, none⟩ (.int .i64 x)) := by
  obtain ⟨a, cap, h1, h2⟩ := h
  refine ⟨a, cap, ?_, h2⟩
  rw [heap_setCell_same w g 1 _ _ _ h1]; rfl
theorem RdH.rest {w0 w : World} {g c n : Nat} {st : Pst} {zs : List Int} {a : Option Addr} (h : RdH w0 g st w) (hs : Sl .u8 w0 (.slice a n c) zs) : RdH w0 g (zs, st.2) (w.setCell ⟨g, 0, none⟩ (.slice a n c)) := by
  obtain ⟨a0, cap, h1, h2⟩ := h
  obtain ⟨a', c', e, -⟩ := id hs
  simp only [Value.slice.injEq] at e
  obtain ⟨-, rfl, -⟩ := e
  refine ⟨a, c, ?_, hs⟩
  rw [heap_setCell_same w g 0 _ _ _ h1]; rfl
theorem Only.set2 {g : Nat} (w : World) (a b : Value) : Only (· = g) w ((w.setCell ⟨g, 0, none⟩ a).setCell ⟨g, 1, none⟩ b) := (Only.setCell (S := (· = g)) w ⟨g, 0, none⟩ a rfl).trans (Only.setCell _ ⟨g, 1, none⟩ b rfl)
def TakeE (w0 : World) (g : Nat) (st : Pst) (w : World) (e : Ending) (w' : World) : Prop := e = .returned (.tuple #[]) ∧ RdH w0 g st w' ∧ Only (· = g) w w' ∧ w'.heap.size = w.heap.size
set_option maxHeartbeats 2000000 in
theorem take_any (w0 : World) (g : Nat) (zs : List Int) (e0 e : Int) (k : Nat) (w : World) (hr : RdH w0 g (zs, e0) w) (hk : k ≤ zs.length) :
    Calls Try.prog 65 #[.pointer (some ⟨g, 0, none⟩), .int .i64 k, .int .i64 e] w (TakeE w0 g (zs.drop k, e) w) := by
  obtain ⟨a, cap, h1, h2⟩ := id hr
  dsimp only at h1 h2
  have HR := Lib.hid hr
  have c0 : w.cell? ⟨g, 0, none⟩ = some (.slice a zs.length cap) := (cell_of_row w g 0 _ _ _ h1).trans rfl
  have c1 : w.cell? ⟨g, 1, none⟩ = some (.int .i64 e0) := (cell_of_row w g 1 _ _ _ h1).trans rfl
  have f0 : w.frozen? ⟨g, 0, none⟩ = false := frozen_of_row w g 0 _ _ h1
  have f1 : w.frozen? ⟨g, 1, none⟩ = false := frozen_of_row w g 1 _ _ h1
  have HS := Lib.hid h2
  clear hr h1
  have hfk := from_k h2 hk
  have f3 : (k : Int) ≤ (zs.length : Int) := by omega
  clear h2
  rcases hfk with ⟨rfl, rfl, rfl, rfl⟩ | ⟨b, off, sp, rfl, ⟨rfl, hzl, hsl⟩ | ⟨hcu, hsl⟩⟩
  · have HX := Lib.hid ((HR.out.rest (zs := ([] : List Int).drop 0) (a := none) (n := 0) (c := 0) ⟨none, 0, rfl, Nat.le_refl _, Nat.zero_le _, by simp, .inl ⟨rfl, rfl, rfl⟩⟩).err e)
    go_enter Try.func65, Try.ntmps65
    go_wp2
    refine bodyPost_end (results_none rfl _ _ _) rfl ?_
    exact ⟨rfl, HX.out, Only.set2 _ _ _, by simp⟩
  · have HX := Lib.hid ((HR.out.rest hsl).err e)
    have hzz : (cap : Int) ≤ (zs.length : Int) := by omega
    have HZ0 : Hid (zs.length - cap = 0) := Lib.hid (by omega)
    clear hsl hzl
    go_enter Try.func65, Try.ntmps65
    go_wp2
    refine bodyPost_end (results_none rfl _ _ _) rfl ?_
    rw [HZ0.out]
    exact ⟨rfl, HX.out, Only.set2 _ _ _, by simp⟩
  · have HX := Lib.hid ((HR.out.rest hsl).err e)
    have f4 : (k : Int) < (cap : Int) := by
      obtain ⟨a', c', e', g1, -⟩ := id HS.out
      simp only [Value.slice.injEq] at e'
      obtain ⟨-, -, rfl⟩ := e'
      omega
    clear hsl
    go_enter Try.func65, Try.ntmps65
    go_wp2
    refine bodyPost_end (results_none rfl _ _ _) rfl ?_
    exact ⟨rfl, HX.out, Only.set2 _ _ _, by simp⟩
def NumH (w0 : World) (g : Nat) (r : Int × Pst) (v : Value) (w : World) (e : Ending) (w' : World) : Prop := e = .returned v ∧ RdH w0 g r.2 w' ∧ Only (· = g) w w' ∧ w'.heap.size = w.heap.size
set_option maxHeartbeats 2000000 in
theorem number_any (w0 : World) (g : Nat) (st : Pst) (m : Int) (w : World) (hr : RdH w0 g st w) (hb : Below w0.heap.size w0 w) (hm0 : 0 ≤ m) :
    Calls Try.prog 45 #[.pointer (some ⟨g, 0, none⟩), .int .u64 m] w (NumH w0 g (pnum m st) (.int .u64 (pnum m st).1) w) := by
  obtain ⟨zs, e0⟩ := st
  obtain ⟨a, cap, h1, h2⟩ := id hr
  dsimp only at h1 h2
  have HR := Lib.hid hr
  have c0 : w.cell? ⟨g, 0, none⟩ = some (.slice a zs.length cap) := (cell_of_row w g 0 _ _ _ h1).trans rfl
  have c1 : w.cell? ⟨g, 1, none⟩ = some (.int .i64 e0) := (cell_of_row w g 1 _ _ _ h1).trans rfl
  have HSW := Lib.hid (h2.below hb (Nat.le_refl _))
  clear hr h1 h2
  cases he : (e0 == 0) with
  | false =>
    have HE := Lib.hid (pnum_stuck (m := m) (st := (zs, e0)) he)
    have hne : (e0 != 0) = true := by rw [bne, he]; rfl
    clear he
    go_enter Try.func45, Try.ntmps45
    go_wp2
    go_ret
    rw [HE.out]
    exact ⟨rfl, HR.out, Only.refl _ _, rfl⟩
  | true =>
    obtain rfl : e0 = 0 := by simpa using he
    clear he
    rcases hrd : Oc.rdL zs with ⟨n, k, er⟩
    have HRD := Lib.hid hrd
    rcases Oc.rd_err hrd with hee | hee
    · subst hee
      have hk := rd_len hrd
      by_cases hm : m < (n : Int)
      · have HE := Lib.hid (pnum_form hrd hm)
        have HT := Lib.hid (take_any w0 g zs 0 11 0 w HR.out (Nat.zero_le _))
        clear hrd
        go_enter Try.func45, Try.ntmps45
        go_wp2_with fail
        refine (read_q HRD.out HSW.out).mono ?_
        rintro E w2 ⟨rfl, rfl⟩
        go_wp2_with fail
        refine HT.out.mono ?_
        rintro E w3 ⟨rfl, h1, h2, h3⟩
        go_wp2
        go_ret
        rw [HE.out]
        exact ⟨rfl, h1, h2, h3⟩
      · have hle : (n : Int) ≤ m := by omega
        have HE := Lib.hid (pnum_ok hrd hle)
        have HT := Lib.hid (take_any w0 g zs 0 0 k w HR.out hk)
        clear hrd
        go_enter Try.func45, Try.ntmps45
        go_wp2_with fail
        refine (read_q HRD.out HSW.out).mono ?_
        rintro E w2 ⟨rfl, rfl⟩
        go_wp2_with fail
        refine HT.out.mono ?_
        rintro E w3 ⟨rfl, h1, h2, h3⟩
        go_wp2
        go_ret
        rw [HE.out]
        exact ⟨rfl, h1, h2, h3⟩
    · have HE := Lib.hid (pnum_err (m := m) hrd hee)
      have hz : n = 0 ∧ k = 0 := rd_bad hrd hee
      obtain ⟨rfl, rfl⟩ := hz
      have HT := Lib.hid (take_any w0 g zs 0 er 0 w HR.out (Nat.zero_le _))
      have hm : ¬ m < ((0 : Nat) : Int) := by omega
      clear hrd
      go_enter Try.func45, Try.ntmps45
      go_wp2_with fail
      refine (read_q HRD.out HSW.out).mono ?_
      rintro E w2 ⟨rfl, rfl⟩
      go_wp2_with fail
      refine HT.out.mono ?_
      rintro E w3 ⟨rfl, h1, h2, h3⟩
      go_wp2
      go_ret
      rw [HE.out]
      exact ⟨rfl, h1, h2, h3⟩
set_option maxHeartbeats 400000 in
theorem wide_any (w0 : World) (g : Nat) (st : Pst) (w : World) (hr : RdH w0 g st w) (hb : Below w0.heap.size w0 w) :
    Calls Try.prog 44 #[.pointer (some ⟨g, 0, none⟩)] w (NumH w0 g (wideS st) (.int .u64 (wideS st).1) w) := by
  have HN := Lib.hid (number_any w0 g st 18446744073709551615 w hr hb (by decide))
  clear hr hb
  go_enter Try.func44, Try.ntmps44
  go_wp2_with fail
  refine HN.out.mono ?_
  rintro E w2 ⟨rfl, h1, h2, h3⟩
  go_wp2
  go_ret
  exact ⟨rfl, h1, h2, h3⟩
set_option maxHeartbeats 2000000 in
theorem kind_any (w0 : World) (g : Nat) (zs : List Int) (w : World) (hr : RdH w0 g (zs, 0) w) (hb : Below w0.heap.size w0 w) :
    Calls Try.prog 43 #[.pointer (some ⟨g, 0, none⟩)] w (NumH w0 g (kindS (zs, 0)) (.int .i64 (kindS (zs, 0)).1) w) := by
  obtain ⟨a, cap, h1, h2⟩ := id hr
  dsimp only at h1 h2
  have HR := Lib.hid hr
  have c0 : w.cell? ⟨g, 0, none⟩ = some (.slice a zs.length cap) := (cell_of_row w g 0 _ _ _ h1).trans rfl
  have c1 : w.cell? ⟨g, 1, none⟩ = some (.int .i64 0) := (cell_of_row w g 1 _ _ _ h1).trans rfl
  have f1 : w.frozen? ⟨g, 1, none⟩ = false := frozen_of_row w g 1 _ _ h1
  have hsw := h2.below hb (Nat.le_refl _)
  clear hr h1
  cases zs with
  | nil =>
    have HX := Lib.hid (HR.out.err 10)
    clear h2 hsw
    go_enter Try.func43, Try.ntmps43
    go_wp2
    go_ret
    exact ⟨rfl, HX.out, Only.setCell _ _ _ rfl, by simp⟩
  | cons x rest =>
    obtain ⟨b, off, rfl, -, hcx⟩ := Sl.at hsw (show 0 < (x :: rest).length by simp)
    have hc : w.cell? ⟨b, off, none⟩ = some (.int .u8 x) := by simpa using hcx
    have hz1 : ((((x :: rest).length : Nat) : Int) == 0) = false := beq_eq_false_iff_ne.2 (by simp; omega)
    have hz2 : (0 : Int) < ((x :: rest).length : Int) := by simp
    have hxw : (Lit.int .u8 x).wf = true := h2.wf x (List.mem_cons_self)
    have hxb : 0 ≤ x ∧ x ≤ 255 := by
      simp [Lit.wf, IntKind.min, IntKind.max, IntKind.signed, IntKind.bits] at hxw
      omega
    have p0 : IntKind.i64.wrap x = x := by (unfold IntKind.wrap; simp [IntKind.signed, IntKind.bits]; omega)
    have HT := Lib.hid (take_any w0 g (x :: rest) 0 0 1 w HR.out (by simp))
    clear h2 hsw hcx hxw hxb
    go_enter Try.func43, Try.ntmps43
    go_wp2_with fail
    refine HT.out.mono ?_
    rintro E w3 ⟨rfl, h1, h2, h3⟩
    go_wp2
    go_ret
    exact ⟨rfl, h1, h2, h3⟩
end Rk
end Go.Proofs.Ytngnhegmealokaa
