/- The reader of shot: number, wide, small, many, begin. No condition. -/
import Derived.Test.YtpdhndldfmhaeaaEdA
import Derived.Test.YtpdhndldfmhaeaaNum
namespace Go.Proofs.Ytpdhndldfmhaeaa
open Go.ChangeShapes Go.WideShapes Go.ChangeAt Go.RowKit
set_option linter.unusedVariables false
set_option maxRecDepth 100000
namespace Sc
open Cm Nm Sh
/-- the reader at g: what is left lies in w0's memory -/
def RdS (w0 : World) (g : Nat) (st : Pst) (w : World) : Prop := ∃ a cap, w.heap[g]? = some (.cells #[.slice a st.1.length cap, .int .i64 st.2] 37 (0, 0)) ∧ Sl .u8 w0 (.slice a st.1.length cap) st.1
theorem RdS.only {w0 w w' : World} {g : Nat} {st : Pst} {S : Nat → Prop} (h : RdS w0 g st w) (ho : Only S w w') (hs : ¬ S g) : RdS w0 g st w' := by
  obtain ⟨a, cap, h1, h2⟩ := h
  exact ⟨a, cap, (ho.2.2.2.2 g (row_lt h1) hs).trans h1, h2⟩
theorem RdS.err {w0 w : World} {g : Nat} {st : Pst} (h : RdS w0 g st w) (x : Int) : RdS w0 g (st.1, x) (w.setCell ⟨g, 1, none⟩ (.int .i64 x)) := by
  obtain ⟨a, cap, h1, h2⟩ := h
  refine ⟨a, cap, ?_, h2⟩
  rw [heap_setCell_same w g 1 _ _ _ h1]; rfl
theorem RdS.rest {w0 w : World} {g c n : Nat} {st : Pst} {zs : List Int} {a : Option Addr} (h : RdS w0 g st w) (hs : Sl .u8 w0 (.slice a n c) zs) : RdS w0 g (zs, st.2) (w.setCell ⟨g, 0, none⟩ (.slice a n c)) := by
  obtain ⟨a0, cap, h1, h2⟩ := h
  obtain ⟨a', c', e, -⟩ := id hs
  simp only [Value.slice.injEq] at e
  obtain ⟨-, rfl, -⟩ := e
  refine ⟨a, c, ?_, hs⟩
  rw [heap_setCell_same w g 0 _ _ _ h1]; rfl
theorem rdL_len {zs : List Int} {n k : Nat} {e : Int} (h : Oc.rdL zs = (n, k, e)) : k ≤ zs.length := rd_len h
def NumE (w0 : World) (g : Nat) (r : Int × Pst) (v : Value) (w : World) (e : Ending) (w' : World) : Prop := e = .returned v ∧ RdS w0 g r.2 w' ∧ Only (· = g) w w' ∧ w'.heap.size = w.heap.size
set_option maxHeartbeats 2000000 in
theorem number_any (w0 : World) (g : Nat) (st : Pst) (m : Int) (w : World) (hr : RdS w0 g st w) (hb : Below w0.heap.size w0 w) :
    Calls Try.prog 26 #[.pointer (some ⟨g, 0, none⟩), .int .u64 m] w (NumE w0 g (pnum m st) (.int .u64 (pnum m st).1) w) := by
  obtain ⟨zs, e0⟩ := st
  obtain ⟨a, cap, h1, h2⟩ := id hr
  dsimp only at h1 h2
  have HR := Lib.hid hr
  have c0 : w.cell? ⟨g, 0, none⟩ = some (.slice a zs.length cap) := (cell_of_row w g 0 _ _ _ h1).trans rfl
  have c1 : w.cell? ⟨g, 1, none⟩ = some (.int .i64 e0) := (cell_of_row w g 1 _ _ _ h1).trans rfl
  have f0 : w.frozen? ⟨g, 0, none⟩ = false := frozen_of_row w g 0 _ _ h1
  have f1 : w.frozen? ⟨g, 1, none⟩ = false := frozen_of_row w g 1 _ _ h1
  have HS := Lib.hid h2
  have HSW := Lib.hid (h2.below hb (Nat.le_refl _))
  clear hr h1
  cases he : (e0 == 0) with
  | false =>
    have HE := Lib.hid (pnum_stuck (m := m) (st := (zs, e0)) he)
    have hne : (e0 != 0) = true := by rw [bne, he]; rfl
    clear he h2
    go_enter Try.func26, Try.ntmps26
    go_wp2
    go_ret
    rw [HE.out]
    exact ⟨rfl, HR.out, Only.refl _ _, rfl⟩
  | true =>
    have he0 : e0 = 0 := by simpa using he
    subst he0
    clear he
    rcases hrd : Oc.rdL zs with ⟨n, k, er⟩
    have HRD := Lib.hid hrd
    rcases Oc.rd_err hrd with hee | hee
    · subst hee
      have hk := rdL_len hrd
      by_cases hm : m < (n : Int)
      · have HE := Lib.hid (pnum_form hrd hm)
        have HX := Lib.hid (HR.out.err 11)
        clear hrd h2
        go_enter Try.func26, Try.ntmps26
        go_wp2_with fail
        refine (read_q HRD.out HSW.out).mono ?_
        rintro E w2 ⟨rfl, rfl⟩
        go_wp2
        go_ret
        rw [HE.out]
        exact ⟨rfl, HX.out, Only.setCell _ _ _ rfl, by simp⟩
      · have hle : (n : Int) ≤ m := by omega
        have HE := Lib.hid (pnum_ok hrd hle)
        have hfk := from_k h2 hk
        have f3 : (k : Int) ≤ (zs.length : Int) := by omega
        clear hrd h2 hm
        rcases hfk with ⟨rfl, rfl, rfl, rfl⟩ | ⟨b, off, sp, rfl, ⟨rfl, hzl, hsl⟩ | ⟨hcu, hsl⟩⟩
        · have HX := Lib.hid (HR.out.rest (zs := ([] : List Int).drop 0) (a := none) (n := 0) (c := 0) ⟨none, 0, rfl, Nat.le_refl _, Nat.zero_le _, by simp, .inl ⟨rfl, rfl, rfl⟩⟩)
          go_enter Try.func26, Try.ntmps26
          go_wp2_with fail
          refine (read_q HRD.out HSW.out).mono ?_
          rintro E w2 ⟨rfl, rfl⟩
          go_wp2
          go_ret
          rw [HE.out]
          exact ⟨rfl, HX.out, Only.setCell _ _ _ rfl, by simp⟩
        · have HX := Lib.hid (HR.out.rest hsl)
          have hzz : (cap : Int) ≤ (zs.length : Int) := by omega
          have HZ0 : Hid (zs.length - cap = 0) := Lib.hid (by omega)
          clear hsl hzl
          go_enter Try.func26, Try.ntmps26
          go_wp2_with fail
          refine (read_q HRD.out HSW.out).mono ?_
          rintro E w2 ⟨rfl, rfl⟩
          go_wp2
          go_ret
          rw [HE.out, HZ0.out]
          exact ⟨rfl, HX.out, Only.setCell _ _ _ rfl, by simp⟩
        · have HX := Lib.hid (HR.out.rest hsl)
          have f4 : (k : Int) < (cap : Int) := by
            obtain ⟨a', c', e', g1, -⟩ := id HS.out
            simp only [Value.slice.injEq] at e'
            obtain ⟨-, -, rfl⟩ := e'
            omega
          clear hsl
          go_enter Try.func26, Try.ntmps26
          go_wp2_with fail
          refine (read_q HRD.out HSW.out).mono ?_
          rintro E w2 ⟨rfl, rfl⟩
          go_wp2
          go_ret
          rw [HE.out]
          exact ⟨rfl, HX.out, Only.setCell _ _ _ rfl, by simp⟩
    · have HE := Lib.hid (pnum_err (m := m) hrd hee)
      have HX := Lib.hid (HR.out.err er)
      have hne : (er != 0) = true := by rw [bne, hee]; rfl
      clear hrd h2
      go_enter Try.func26, Try.ntmps26
      go_wp2_with fail
      refine (read_q HRD.out HSW.out).mono ?_
      rintro E w2 ⟨rfl, rfl⟩
      go_wp2
      go_ret
      rw [HE.out]
      exact ⟨rfl, HX.out, Only.setCell _ _ _ rfl, by simp⟩
set_option maxHeartbeats 400000 in
theorem wide_any (w0 : World) (g : Nat) (st : Pst) (w : World) (hr : RdS w0 g st w) (hb : Below w0.heap.size w0 w) :
    Calls Try.prog 15 #[.pointer (some ⟨g, 0, none⟩)] w (NumE w0 g (wideS st) (.int .u64 (wideS st).1) w) := by
  have HN := Lib.hid (number_any w0 g st 18446744073709551615 w hr hb)
  clear hr hb
  go_enter Try.func15, Try.ntmps15
  go_wp2_with fail
  refine HN.out.mono ?_
  rintro E w2 ⟨rfl, h1, h2, h3⟩
  go_wp2
  go_ret
  exact ⟨rfl, h1, h2, h3⟩
set_option maxHeartbeats 400000 in
theorem small_any' (w0 : World) (g : Nat) (st : Pst) (w : World) (hr : RdS w0 g st w) (hb : Below w0.heap.size w0 w) :
    Calls Try.prog 17 #[.pointer (some ⟨g, 0, none⟩)] w (NumE w0 g (smallS st) (.int .i64 (smallS st).1) w) := by
  have HN := Lib.hid (number_any w0 g st 65535 w hr hb)
  obtain ⟨b1, b2⟩ := pnum_bd 65535 (by decide) st
  clear hr hb
  generalize hx : pnum 65535 st = x at *
  go_enter Try.func17, Try.ntmps17
  go_wp2_with fail
  refine HN.out.mono ?_
  rintro E w2 ⟨rfl, h1, h2, h3⟩
  go_wp2
  go_ret
  rw [show smallS st = x from hx]
  exact ⟨rfl, h1, h2, h3⟩
set_option maxHeartbeats 400000 in
theorem many_any (w0 : World) (g : Nat) (st : Pst) (w : World) (hr : RdS w0 g st w) (hb : Below w0.heap.size w0 w) :
    Calls Try.prog 16 #[.pointer (some ⟨g, 0, none⟩)] w (NumE w0 g (manyS st) (.int .i64 (manyS st).1) w) := by
  have HN := Lib.hid (number_any w0 g st 64 w hr hb)
  obtain ⟨b1, b2⟩ := pnum_bd 64 (by decide) st
  clear hr hb
  generalize hx : pnum 64 st = x at *
  go_enter Try.func16, Try.ntmps16
  go_wp2_with fail
  refine HN.out.mono ?_
  rintro E w2 ⟨rfl, h1, h2, h3⟩
  go_wp2
  go_ret
  rw [show manyS st = x from hx]
  exact ⟨rfl, h1, h2, h3⟩
def BeginE (w0 : World) (g : Nat) (st : Pst) (w : World) (e : Ending) (w' : World) : Prop := e = .returned (.tuple #[]) ∧ RdS w0 g (beginS st) w' ∧ Only (· = g) w w' ∧ w'.heap.size = w.heap.size
set_option maxHeartbeats 2000000 in
theorem begin_any (w0 : World) (g : Nat) (st : Pst) (w : World) (hr : RdS w0 g st w) (hb : Below w0.heap.size w0 w) :
    Calls Try.prog 14 #[.pointer (some ⟨g, 0, none⟩)] w (BeginE w0 g st w) := by
  obtain ⟨zs, e0⟩ := st
  obtain ⟨a, cap, h1, h2⟩ := id hr
  dsimp only at h1 h2
  have HR := Lib.hid hr
  have c0 : w.cell? ⟨g, 0, none⟩ = some (.slice a zs.length cap) := (cell_of_row w g 0 _ _ _ h1).trans rfl
  have c1 : w.cell? ⟨g, 1, none⟩ = some (.int .i64 e0) := (cell_of_row w g 1 _ _ _ h1).trans rfl
  have f0 : w.frozen? ⟨g, 0, none⟩ = false := frozen_of_row w g 0 _ _ h1
  have f1 : w.frozen? ⟨g, 1, none⟩ = false := frozen_of_row w g 1 _ _ h1
  have hsw := h2.below hb (Nat.le_refl _)
  clear hr h1
  cases zs with
  | nil =>
    have HX := Lib.hid (HR.out.err 10)
    clear h2 hsw
    go_enter Try.func14, Try.ntmps14
    go_wp2
    refine bodyPost_end (results_none rfl _ _ _) rfl ?_
    exact ⟨rfl, HX.out, Only.setCell _ _ _ rfl, by simp⟩
  | cons x rest =>
    obtain ⟨b, off, rfl, -, hcx⟩ := Sl.at hsw (show 0 < (x :: rest).length by simp)
    have hc : w.cell? ⟨b, off, none⟩ = some (.int .u8 x) := by simpa using hcx
    have hz1 : (0 : Int) < ((x :: rest).length : Int) := by simp
    have hlc : (x :: rest).length ≤ cap := by
      obtain ⟨a', c', e', g1, -⟩ := id h2
      simp only [Value.slice.injEq] at e'
      obtain ⟨-, -, rfl⟩ := e'
      exact g1
    have hfk := from_k h2 (show 1 ≤ (x :: rest).length by simp)
    by_cases hx : x = 83
    · have HB : Hid (beginS (x :: rest, e0) = (rest, e0)) := Lib.hid (by unfold beginS; simp only []; rw [if_pos hx])
      subst hx
      clear hcx h2 hsw
      rcases hfk with ⟨hbad, -⟩ | ⟨b', off', sp, hab, ⟨hcap, hzl, hsl⟩ | ⟨hcu, hsl⟩⟩
      · cases hbad
      · simp only [Option.some.injEq, Addr.mk.injEq] at hab
        obtain ⟨rfl, rfl, rfl⟩ := hab
        subst hcap
        have HX := Lib.hid (HR.out.rest hsl)
        have hl1 : (1 : Int) ≤ (((83 : Int) :: rest).length : Int) := by omega
        have HZ0 : Hid (rest.length = 0) := Lib.hid (by simpa using hzl)
        clear hsl hzl
        go_enter Try.func14, Try.ntmps14
        go_wp2
        refine bodyPost_end (results_none rfl _ _ _) rfl ?_
        refine ⟨rfl, ?_, Only.setCell _ _ _ rfl, by simp⟩
        rw [HB.out, HZ0.out]
        exact HX.out
      · simp only [Option.some.injEq, Addr.mk.injEq] at hab
        obtain ⟨rfl, rfl, rfl⟩ := hab
        have HX := Lib.hid (HR.out.rest hsl)
        have f4 : (1 : Int) < (cap : Int) := by
          have : 1 ≤ cap := Nat.le_trans (by simp) hlc
          omega
        have f5 : (((83 : Int) :: rest).length : Int) ≤ (cap : Int) := by omega
        clear hsl
        go_enter Try.func14, Try.ntmps14
        go_wp2
        refine bodyPost_end (results_none rfl _ _ _) rfl ?_
        refine ⟨rfl, ?_, Only.setCell _ _ _ rfl, by simp⟩
        rw [HB.out]
        exact HX.out
    · have HB : Hid (beginS (x :: rest, e0) = (x :: rest, 11)) := Lib.hid (by unfold beginS; simp only []; rw [if_neg hx])
      have hne : (x != 83) = true := by rw [bne, beq_eq_false_iff_ne.2 hx]; rfl
      have HX := Lib.hid (HR.out.err 11)
      clear hcx h2 hsw hfk
      go_enter Try.func14, Try.ntmps14
      go_wp2
      refine bodyPost_end (results_none rfl _ _ _) rfl ?_
      refine ⟨rfl, ?_, Only.setCell _ _ _ rfl, by simp⟩
      rw [HB.out]
      exact HX.out
end Sc
end Go.Proofs.Ytpdhndldfmhaeaa
