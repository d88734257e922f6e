/- rlog.Last, Term, Newer and the document's own, and the chapter's example. No condition. -/
import Derived.Test.YtlkgmjhejocobaaRlA
namespace Go.Proofs.Ytlkgmjhejocobaa
open Go.ChangeShapes Go.WideShapes Go.ChangeAt Go.RowKit
set_option linter.unusedVariables false
set_option maxRecDepth 100000
namespace Rl
open Hd
open Classical in
noncomputable def lastV (h : Har) : Int × Int := if hardOk h then (lastI h, (termP h (lastI h)).1) else (0, 0)
open Classical in
noncomputable def termV (h : Har) (i : Int) : Int × Bool := if hardOk h then termP h i else (0, false)
open Classical in
noncomputable def newerV (h : Har) (i t : Int) : Bool := if hardOk h then decide ((lastV h).2 < t ∨ (t = (lastV h).2 ∧ (lastV h).1 ≤ i)) else false
theorem lastV_yes {h : Har} (ok : hardOk h) : lastV h = (lastI h, (termP h (lastI h)).1) := by unfold lastV; rw [if_pos ok]
theorem lastV_no {h : Har} (ok : ¬ hardOk h) : lastV h = (0, 0) := by unfold lastV; rw [if_neg ok]
theorem termV_yes {h : Har} (ok : hardOk h) (i : Int) : termV h i = termP h i := by unfold termV; rw [if_pos ok]
theorem termV_no {h : Har} (ok : ¬ hardOk h) (i : Int) : termV h i = (0, false) := by unfold termV; rw [if_neg ok]
theorem newerV_yes {h : Har} (ok : hardOk h) (i t : Int) : newerV h i t = decide ((lastV h).2 < t ∨ (t = (lastV h).2 ∧ (lastV h).1 ≤ i)) := by unfold newerV; rw [if_pos ok]
theorem newerV_no {h : Har} (ok : ¬ hardOk h) (i t : Int) : newerV h i t = false := by unfold newerV; rw [if_neg ok]
def LastE (h : Har) (w : World) (e : Ending) (w' : World) : Prop := e = .returned (.tuple #[.int .u64 (lastV h).1, .int .u64 (lastV h).2]) ∧ Below w.heap.size w w'
def TermVE (h : Har) (i : Int) (w : World) (e : Ending) (w' : World) : Prop := e = .returned (.tuple #[.int .u64 (termV h i).1, .bool (termV h i).2]) ∧ Below w.heap.size w w'
def NewE (h : Har) (i t : Int) (w : World) (e : Ending) (w' : World) : Prop := e = .returned (.bool (newerV h i t)) ∧ Below w.heap.size w w'
theorem lastI_bd {h : Har} (hw : h.wf) (ok : hardOk h) : 0 ≤ lastI h ∧ lastI h ≤ 18446744073709551615 := by
  obtain ⟨h1, h2⟩ := fit_of hw ok
  unfold lastI
  omega
set_option maxHeartbeats 2000000 in
theorem last_any2 (h : Har) (v : Value) (w : World) (hh : IsHard w v h) : Calls Try.prog 43 #[v] w (LastE h w) := by
  obtain ⟨vn, vh, vl, vg, rfl, -, -, -, hg, -⟩ := id hh
  obtain ⟨a, cap, rfl, hlc, hcm⟩ := IsLog.len hg
  have hb0 : Below w.heap.size w (w.alloc (.cells (hArr h vn vh vl (.slice a h.log.length cap)) 43)) := (Below.refl _ _).alloc (Nat.le_refl _) _
  have HB := Lib.hid hb0
  have HH := Lib.hid (hh.below hb0 (Nat.le_refl _))
  have HWF := Lib.hid (IsHard.wf hh)
  have hr : Below (w.heap.size + 1) (w.alloc (.cells (hArr h vn vh vl (.slice a h.log.length cap)) 43)) (w.alloc (.cells (hArr h vn vh vl (.slice a h.log.length cap)) 43)) := Below.refl _ _
  have HR := Lib.hid hr
  obtain ⟨b0, b1, b2, b3, b4, b5, b6, b7, b8, b9, b10⟩ := cells11 (box_cells hr)
  clear hh hg hb0 hr
  go_enter Try.func43, Try.ntmps43
  go_wp2_with fail
  refine (valid_any h _ _ HH.out).mono ?_
  rintro e w1 ⟨t1, rfl, ht1, hb1⟩
  have hx : Below (w.heap.size + 1) (w.alloc (.cells (hArr h vn vh vl (.slice a h.log.length cap)) 43)) w1 := HR.out.trans (hb1.mono (by simp))
  have HX1 := Lib.hid hx
  have HB1 := Lib.hid (box_below hx)
  have HH1 := Lib.hid (HH.out.below hb1 (Nat.le_refl _))
  clear b0 b1 b2 b3 b4 b5 b6 b7 b8 b9 b10
  obtain ⟨b0, b1, b2, b3, b4, b5, b6, b7, b8, b9, b10⟩ := cells11 (box_cells hx)
  clear hb1 hx
  cases t1 with
  | false =>
    have HE : Hid (lastV h = (0, 0)) := Lib.hid (lastV_no fun q => by cases ht1.2 q)
    clear ht1
    go_wp2
    go_ret2
    exact ⟨by rw [HE.out]; rfl, HB1.out⟩
  | true =>
    have hok := ht1.1 rfl
    have HE := Lib.hid (lastV_yes hok)
    have HF := Lib.hid (fit_of HWF.out hok)
    have HF2 : Hid (h.shot.index ≤ 4611686018427387904) := Lib.hid (by have := HF.out.2; omega)
    have HLB := Lib.hid (lastI_bd HWF.out hok)
    clear ht1 hok
    go_wp2_with fail
    refine (end_any h _ _ HH1.out HF.out).mono ?_
    rintro e w2 ⟨rfl, hb2⟩
    have hx : Below (w.heap.size + 1) (w.alloc (.cells (hArr h vn vh vl (.slice a h.log.length cap)) 43)) w2 := HX1.out.trans (hb2.mono (by have := HX1.out.size; simpa using this))
    have HX2 := Lib.hid hx
    have HB2 := Lib.hid (box_below hx)
    have HH2 := Lib.hid (HH1.out.below hb2 (Nat.le_refl _))
    clear b0 b1 b2 b3 b4 b5 b6 b7 b8 b9 b10
    obtain ⟨b0, b1, b2, b3, b4, b5, b6, b7, b8, b9, b10⟩ := cells11 (box_cells hx)
    clear hb2 hx
    go_wp2_with fail
    refine (termAt_any h _ _ _ HH2.out HF.out HLB.out.1 HLB.out.2).mono ?_
    rintro e w3 ⟨rfl, hb3⟩
    have HB3 := Lib.hid (HB2.out.trans (hb3.mono HB2.out.size))
    clear hb3
    go_wp2
    go_ret2
    exact ⟨by rw [HE.out]; rfl, HB3.out⟩
set_option maxHeartbeats 2000000 in
theorem term_any (h : Har) (v : Value) (i : Int) (w : World) (hh : IsHard w v h) (hi0 : 0 ≤ i) (hi1 : i ≤ 18446744073709551615) : Calls Try.prog 42 #[v, .int .u64 i] w (TermVE h i w) := by
  obtain ⟨vn, vh, vl, vg, rfl, -, -, -, hg, -⟩ := id hh
  obtain ⟨a, cap, rfl, hlc, hcm⟩ := IsLog.len hg
  have hb0 : Below w.heap.size w (w.alloc (.cells (hArr h vn vh vl (.slice a h.log.length cap)) 43)) := (Below.refl _ _).alloc (Nat.le_refl _) _
  have HB := Lib.hid hb0
  have HH := Lib.hid (hh.below hb0 (Nat.le_refl _))
  have HWF := Lib.hid (IsHard.wf hh)
  have hr : Below (w.heap.size + 1) (w.alloc (.cells (hArr h vn vh vl (.slice a h.log.length cap)) 43)) (w.alloc (.cells (hArr h vn vh vl (.slice a h.log.length cap)) 43)) := Below.refl _ _
  have HR := Lib.hid hr
  obtain ⟨b0, b1, b2, b3, b4, b5, b6, b7, b8, b9, b10⟩ := cells11 (box_cells hr)
  clear hh hg hb0 hr
  go_enter Try.func42, Try.ntmps42
  go_wp2_with fail
  refine (valid_any h _ _ HH.out).mono ?_
  rintro e w1 ⟨t1, rfl, ht1, hb1⟩
  have hx : Below (w.heap.size + 1) (w.alloc (.cells (hArr h vn vh vl (.slice a h.log.length cap)) 43)) w1 := HR.out.trans (hb1.mono (by simp))
  have HX1 := Lib.hid hx
  have HB1 := Lib.hid (box_below hx)
  have HH1 := Lib.hid (HH.out.below hb1 (Nat.le_refl _))
  clear b0 b1 b2 b3 b4 b5 b6 b7 b8 b9 b10
  obtain ⟨b0, b1, b2, b3, b4, b5, b6, b7, b8, b9, b10⟩ := cells11 (box_cells hx)
  clear hb1 hx
  cases t1 with
  | false =>
    have HE : Hid (termV h i = (0, false)) := Lib.hid (termV_no (fun q => by cases ht1.2 q) i)
    clear ht1
    go_wp2
    go_ret2
    exact ⟨by rw [HE.out]; rfl, HB1.out⟩
  | true =>
    have hok := ht1.1 rfl
    have HE := Lib.hid (termV_yes hok i)
    have HF := Lib.hid (fit_of HWF.out hok)
    clear ht1 hok
    go_wp2_with fail
    refine (termAt_any h _ _ _ HH1.out HF.out hi0 hi1).mono ?_
    rintro e w3 ⟨rfl, hb3⟩
    have HB3 := Lib.hid (HB1.out.trans (hb3.mono HB1.out.size))
    clear hb3
    go_wp2
    go_ret2
    exact ⟨by rw [HE.out]; rfl, HB3.out⟩
theorem lastV_bd {h : Har} (hw : h.wf) (ok : hardOk h) : 0 ≤ (lastV h).1 := by
  rw [lastV_yes ok]
  exact (lastI_bd hw ok).1
end Rl
end Go.Proofs.Ytlkgmjhejocobaa
