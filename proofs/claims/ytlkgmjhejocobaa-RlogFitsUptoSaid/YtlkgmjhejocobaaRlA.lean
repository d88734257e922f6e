/- rlog's valid, end, has, at, termAt and the document's TermAt. No condition but the bounds of what may last. -/
import Derived.Test.YtlkgmjhejocobaaHdR
namespace Go.Proofs.Ytlkgmjhejocobaa
open Go.ChangeShapes Go.WideShapes Go.ChangeAt Go.RowKit
set_option linter.unusedVariables false
set_option maxRecDepth 100000
namespace Rl
open Hd
/-- a bool that tells whether P -/
def SaysB (P : Prop) (w : World) (e : Ending) (w' : World) : Prop := ∃ b : Bool, e = .returned (.bool b) ∧ (b = true ↔ P) ∧ Below w.heap.size w w'
def lastI (h : Har) : Int := h.shot.index + h.log.length
/-- the bounds of what may last -/
def Fit (h : Har) : Prop := 0 ≤ h.shot.index ∧ h.shot.index + h.log.length ≤ 4611686018427387904
theorem fit_of {h : Har} (hw : h.wf) (ok : hardOk h) : Fit h := ⟨Ld.u64_nonneg hw.2.2.2.1, by have := ok.2.2.2.1; unfold top62 at this; exact this⟩
theorem IsHard.wf {w : World} {v : Value} {h : Har} (hh : IsHard w v h) : h.wf := by
  obtain ⟨_, _, _, _, _, _, _, _, _, hw⟩ := hh
  exact hw
def termP (h : Har) (i : Int) : Int × Bool :=
  if i = h.shot.index then (h.shot.term, true) else if h.shot.index < i ∧ i ≤ lastI h then (((h.log[((i - h.shot.index).toNat - 1)]?).map Ent.term).getD 0, true) else (0, false)
theorem termP_shot {h : Har} {i : Int} (e : i = h.shot.index) : termP h i = (h.shot.term, true) := by unfold termP; rw [if_pos e]
theorem termP_log {h : Har} {i : Int} (h1 : h.shot.index < i) (h2 : i ≤ lastI h) {x : Ent} (hx : h.log[((i - h.shot.index).toNat - 1)]? = some x) : termP h i = (x.term, true) := by
  unfold termP; rw [if_neg (by omega), if_pos ⟨h1, h2⟩, hx]; rfl
theorem termP_none {h : Har} {i : Int} (h0 : i ≠ h.shot.index) (h1 : ¬ (h.shot.index < i ∧ i ≤ lastI h)) : termP h i = (0, false) := by
  unfold termP; rw [if_neg h0, if_neg h1]
set_option maxHeartbeats 1000000 in
theorem valid_any (h : Har) (v : Value) (w : World) (hh : IsHard w v h) : Calls Try.prog 69 #[v] w (SaysB (hardOk h) w) := by
  obtain ⟨vn, vh, vl, vg, rfl, -, -, -, hg, -⟩ := id hh
  obtain ⟨a, cap, rfl, hlc, hcm⟩ := IsLog.len hg
  have hb0 : Below w.heap.size w (w.alloc (.cells (hArr h vn vh vl (.slice a h.log.length cap)) 43)) := (Below.refl _ _).alloc (Nat.le_refl _) _
  have HB := Lib.hid hb0
  have HH := Lib.hid (hh.below hb0 (Nat.le_refl _))
  obtain ⟨b0, b1, b2, b3, b4, b5, b6, b7, b8, b9, b10⟩ := cells11 (heap_alloc_new w (.cells (hArr h vn vh vl (.slice a h.log.length cap)) 43 (0, 0)))
  clear hh hg hb0
  go_enter Try.func69, Try.ntmps69
  go_wp2_with fail
  refine (check_any h _ _ HH.out).mono ?_
  rintro e w1 ⟨z, rfl, hz, hb1⟩
  have HB1 := Lib.hid (HB.out.trans (hb1.mono HB.out.size))
  clear hb1
  rcases hz with ⟨rfl, hok⟩ | ⟨rfl, hno⟩
  · have HE : Hid (hardOk h) := Lib.hid hok
    clear hok
    go_wp2
    go_ret
    exact ⟨true, rfl, ⟨fun _ => HE.out, fun _ => rfl⟩, HB1.out⟩
  · have HE : Hid (¬ hardOk h) := Lib.hid hno
    clear hno
    go_wp2
    go_ret
    exact ⟨false, rfl, ⟨fun q => (by cases q), fun q => absurd q HE.out⟩, HB1.out⟩
set_option maxHeartbeats 1000000 in
theorem good_any (h : Har) (v : Value) (w : World) (hh : IsHard w v h) : Calls Try.prog 73 #[v] w (SaysB (hardOk h) w) := by
  obtain ⟨vn, vh, vl, vg, rfl, -, -, -, hg, -⟩ := id hh
  obtain ⟨a, cap, rfl, hlc, hcm⟩ := IsLog.len hg
  have hb0 : Below w.heap.size w (w.alloc (.cells (hArr h vn vh vl (.slice a h.log.length cap)) 43)) := (Below.refl _ _).alloc (Nat.le_refl _) _
  have HB := Lib.hid hb0
  have HH := Lib.hid (hh.below hb0 (Nat.le_refl _))
  obtain ⟨b0, b1, b2, b3, b4, b5, b6, b7, b8, b9, b10⟩ := cells11 (heap_alloc_new w (.cells (hArr h vn vh vl (.slice a h.log.length cap)) 43 (0, 0)))
  clear hh hg hb0
  go_enter Try.func73, Try.ntmps73
  go_wp2_with fail
  refine (rcheck_any h _ _ HH.out).mono ?_
  rintro e w1 ⟨z, rfl, hz, hb1⟩
  have HB1 := Lib.hid (HB.out.trans (hb1.mono HB.out.size))
  clear hb1
  rcases hz with ⟨rfl, hok⟩ | ⟨rfl, hno⟩
  · have HE : Hid (hardOk h) := Lib.hid hok
    clear hok
    go_wp2
    go_ret
    exact ⟨true, rfl, ⟨fun _ => HE.out, fun _ => rfl⟩, HB1.out⟩
  · have HE : Hid (¬ hardOk h) := Lib.hid hno
    clear hno
    go_wp2
    go_ret
    exact ⟨false, rfl, ⟨fun q => (by cases q), fun q => absurd q HE.out⟩, HB1.out⟩
set_option maxHeartbeats 1000000 in
theorem end_any (h : Har) (v : Value) (w : World) (hh : IsHard w v h) (hf : Fit h) :
    Calls Try.prog 83 #[v] w fun e w' => e = .returned (.int .u64 (lastI h)) ∧ Below w.heap.size w w' := by
  obtain ⟨vn, vh, vl, vg, rfl, -, -, -, hg, hwf⟩ := hh
  obtain ⟨a, cap, rfl, h1, h2⟩ := IsLog.len hg
  obtain ⟨h0, h3⟩ := hf
  obtain ⟨b0, b1, b2, b3, b4, b5, b6, b7, b8, b9, b10⟩ := cells11 (heap_alloc_new w (.cells (hArr h vn vh vl (.slice a h.log.length cap)) 43 (0, 0)))
  have HB : Hid (Below w.heap.size w (w.alloc (.cells (hArr h vn vh vl (.slice a h.log.length cap)) 43))) := Lib.hid ((Below.refl _ _).alloc (Nat.le_refl _) _)
  clear hg hwf
  go_enter Try.func83, Try.ntmps83
  go_wp2
  go_ret
  exact ⟨rfl, HB.out⟩
def hasB (h : Har) (i : Int) : Bool := decide (h.shot.index < i ∧ i ≤ lastI h)
set_option maxHeartbeats 1000000 in
theorem has_any (h : Har) (v : Value) (i : Int) (w : World) (hh : IsHard w v h) (hf : Fit h) (hi0 : 0 ≤ i) (hi1 : i ≤ 18446744073709551615) :
    Calls Try.prog 110 #[v, .int .u64 i] w fun e w' => e = .returned (.bool (hasB h i)) ∧ Below w.heap.size w w' := by
  obtain ⟨vn, vh, vl, vg, rfl, -, -, -, hg, hwf⟩ := id hh
  obtain ⟨a, cap, rfl, h1, h2⟩ := IsLog.len hg
  have hb0 : Below w.heap.size w (w.alloc (.cells (hArr h vn vh vl (.slice a h.log.length cap)) 43)) := (Below.refl _ _).alloc (Nat.le_refl _) _
  have HB := Lib.hid hb0
  have HH := Lib.hid (hh.below hb0 (Nat.le_refl _))
  have HF := Lib.hid hf
  obtain ⟨b0, b1, b2, b3, b4, b5, b6, b7, b8, b9, b10⟩ := cells11 (heap_alloc_new w (.cells (hArr h vn vh vl (.slice a h.log.length cap)) 43 (0, 0)))
  clear hg hwf hh hb0
  by_cases c1 : h.shot.index < i
  · have HE : Hid (hasB h i = decide (i ≤ lastI h)) := Lib.hid (decide_eq_decide.2 ⟨fun q => q.2, fun q => ⟨c1, q⟩⟩)
    obtain ⟨h0, h3⟩ := hf
    have hL0 : 0 ≤ lastI h := by unfold lastI; omega
    have hL1 : lastI h ≤ 4611686018427387904 := h3
    go_enter Try.func110, Try.ntmps110
    go_wp2_with fail
    refine (end_any h _ _ HH.out HF.out).mono ?_
    rintro e w1 ⟨rfl, hb1⟩
    have HB1 := Lib.hid (HB.out.trans (hb1.mono HB.out.size))
    clear hb1
    go_wp2
    go_ret
    exact ⟨ret_bool HE.out.symm, HB1.out⟩
  · have HE : Hid (hasB h i = false) := Lib.hid (decide_eq_false (fun q => c1 q.1))
    have c2 : i ≤ h.shot.index := by omega
    obtain ⟨h0, h3⟩ := hf
    have hd : decide (h.shot.index < i) = false := decide_eq_false c1
    clear c1
    go_enter Try.func110, Try.ntmps110
    go_wp2
    go_ret
    exact ⟨by rw [HE.out]; rfl, HB.out⟩
abbrev eArr (x : Ent) (vn : Value) : Array Value := #[.int .u64 x.term, .int .i64 x.cmd.kind, .int .i64 x.cmd.node, .int .i64 x.cmd.token, vn, .int .u64 x.cmd.boot, .int .u64 x.cmd.seq, .int .u64 x.cmd.serial, .int .u64 x.cmd.stamp]
/-- an entry handed back -/
def GivesEnt (h : Har) (i : Int) (w : World) (e : Ending) (w' : World) : Prop := ∃ r : ERow, e = .returned (.agg (eArr r.1 r.2)) ∧ h.log[((i - h.shot.index).toNat - 1)]? = some r.1 ∧ Sl .i64 w' r.2 r.1.cmd.nodes ∧ r.1.wf ∧ Below w.heap.size w w'
set_option maxHeartbeats 1000000 in
theorem at_any (h : Har) (v : Value) (i : Int) (w : World) (hh : IsHard w v h) (hf : Fit h) (c1 : h.shot.index < i) (c2 : i ≤ lastI h) :
    Calls Try.prog 79 #[v, .int .u64 i] w (GivesEnt h i w) := by
  obtain ⟨vn, vh, vl, vg, rfl, -, -, -, hg, hwf⟩ := id hh
  obtain ⟨a, cap, rfl, h1, h2⟩ := IsLog.len hg
  have hb0 : ∀ A, Below w.heap.size w ((w.alloc (.cells (hArr h vn vh vl (.slice a h.log.length cap)) 43)).alloc (.cells A 47)) := fun A => ((Below.refl _ _).alloc (Nat.le_refl _) _).alloc (by simp) _
  have HB := Lib.hid hb0
  obtain ⟨rows, hrows, hents, hmap⟩ := hg
  have hrl : rows.length = h.log.length := by rw [← hmap, List.length_map]
  obtain ⟨h0, h3⟩ := hf
  unfold lastI at c2
  have hk : ((i - h.shot.index).toNat - 1) < rows.length := by omega
  have HGET : Hid (h.log[((i - h.shot.index).toNat - 1)]? = some rows[((i - h.shot.index).toNat - 1)].1) := Lib.hid (by rw [← hmap, List.getElem?_map, List.getElem?_eq_getElem hk]; rfl)
  have hes := hents _ (List.getElem_mem hk)
  obtain ⟨a', cap', hv, hl1, hl2, hrc⟩ := hrows
  simp only [Value.slice.injEq] at hv
  obtain ⟨rfl, -, rfl⟩ := hv
  obtain ⟨b, off, rfl, hlt, hc⟩ := Ld.rows_open hk hrc
  have hce := fun A j u hu => ((hb0 A).cell (p := ⟨b, off + (((i - h.shot.index).toNat - 1) * 9 + j), none⟩) hlt).trans (hc _ _ (Ld.rgetD hk) j u hu)
  have HSL := Lib.hid hes.1
  have HWF := Lib.hid hes.2
  have hik : 0 ≤ i - h.shot.index - 1 := by omega
  have hik2 : i - h.shot.index - 1 < h.log.length := by omega
  have hi1 : i ≤ 4611686018427387904 := by omega
  have hz := Lib.hid hce
  obtain ⟨b0, b1, b2, b3, b4, b5, b6, b7, b8, b9, b10⟩ := cells11 (heap_alloc2_old w (.cells (hArr h vn vh vl (.slice (some ⟨b, off, none⟩) h.log.length cap)) 43 (0, 0)) (.cells #[.int .u64 0, .int .i64 0, .int .i64 0, .int .i64 0, .slice none 0 0, .int .u64 0, .int .u64 0, .int .u64 0, .int .u64 0] 47 (0, 0)))
  have hce0 := hz.out #[.int .u64 0, .int .i64 0, .int .i64 0, .int .i64 0, .slice none 0 0, .int .u64 0, .int .u64 0, .int .u64 0, .int .u64 0]
  have hsl := hes.1
  clear hrc hmap hents hh hwf hc hce hes hb0
  generalize rows[((i - h.shot.index).toNat - 1)] = r at *
  obtain ⟨x, vr⟩ := r
  obtain ⟨ar, cr, hvr, -⟩ := id hsl
  simp only [] at hvr
  subst hvr
  obtain ⟨e0, e1, e2, e3, e4, e5, e6, e7, e8⟩ := ent_cells hce0
  clear hce0 hsl
  go_enter Try.func79, Try.ntmps79
  go_wp2_with fail
  refine bodyPost_ret (v := .agg (eArr x (.slice ar x.cmd.nodes.length cr))) (results_cell_row rfl _ _ (w.heap.size + 1) 47 _ (0, 0) _ rfl (heap_alloc2_new _ _ _) Try.underlying47 rfl (by kernel_rfl)) rfl ?_
  exact ⟨(x, _), rfl, HGET.out, HSL.out.below (HB.out _) (Nat.le_refl _), HWF.out, HB.out _⟩
def TermE (h : Har) (i : Int) (w : World) (e : Ending) (w' : World) : Prop := e = .returned (.tuple #[.int .u64 (termP h i).1, .bool (termP h i).2]) ∧ Below w.heap.size w w'
set_option maxHeartbeats 2000000 in
theorem termAt_any (h : Har) (v : Value) (i : Int) (w : World) (hh : IsHard w v h) (hf : Fit h) (hi0 : 0 ≤ i) (hi1 : i ≤ 18446744073709551615) :
    Calls Try.prog 70 #[v, .int .u64 i] w (TermE h i w) := by
  obtain ⟨vn, vh, vl, vg, rfl, -, -, -, hg, hwf⟩ := id hh
  obtain ⟨a, cap, rfl, h1, h2⟩ := IsLog.len hg
  have hb0 : Below w.heap.size w (w.alloc (.cells (hArr h vn vh vl (.slice a h.log.length cap)) 43)) := (Below.refl _ _).alloc (Nat.le_refl _) _
  have HB := Lib.hid hb0
  have HH := Lib.hid (hh.below hb0 (Nat.le_refl _))
  have HF := Lib.hid hf
  have hr : Below (w.heap.size + 1) (w.alloc (.cells (hArr h vn vh vl (.slice a h.log.length cap)) 43)) (w.alloc (.cells (hArr h vn vh vl (.slice a h.log.length cap)) 43)) := Below.refl _ _
  obtain ⟨b0, b1, b2, b3, b4, b5, b6, b7, b8, b9, b10⟩ := cells11 (box_cells hr)
  clear hg hwf hh hb0
  by_cases c0 : i = h.shot.index
  · have HE := Lib.hid (termP_shot c0)
    have e0 : (i == h.shot.index) = true := beq_iff_eq.2 c0
    clear c0
    go_enter Try.func70, Try.ntmps70
    go_wp2
    go_ret2
    exact ⟨by rw [HE.out]; rfl, HB.out⟩
  have e0 : (i == h.shot.index) = false := beq_eq_false_iff_ne.2 c0
  cases c1 : hasB h i with
  | false =>
    have HE := Lib.hid (termP_none c0 (of_decide_eq_false c1))
    have C1 := Lib.hid c1
    clear c0 c1
    go_enter Try.func70, Try.ntmps70
    go_wp2_with fail
    refine (has_any h _ i _ HH.out HF.out hi0 hi1).mono ?_
    rintro e w1 ⟨rfl, hb1⟩
    rw [C1.out]
    have HB1 := Lib.hid (HB.out.trans (hb1.mono HB.out.size))
    clear hb1
    go_wp2
    go_ret2
    exact ⟨by rw [HE.out]; rfl, HB1.out⟩
  | true =>
    have HL := Lib.hid (of_decide_eq_true c1)
    have C1 := Lib.hid c1
    clear c0 c1
    go_enter Try.func70, Try.ntmps70
    go_wp2_with fail
    refine (has_any h _ i _ HH.out HF.out hi0 hi1).mono ?_
    rintro e w1 ⟨rfl, hb1⟩
    rw [C1.out]
    have hb1' : Below (w.heap.size + 1) (w.alloc (.cells (hArr h vn vh vl (.slice a h.log.length cap)) 43)) w1 := hb1.mono (by simp)
    have HB1 := Lib.hid (box_below hb1')
    have HH1 := Lib.hid (HH.out.below hb1 (Nat.le_refl _))
    clear b0 b1 b2 b3 b4 b5 b6 b7 b8 b9 b10
    obtain ⟨b0, b1, b2, b3, b4, b5, b6, b7, b8, b9, b10⟩ := cells11 (box_cells hb1')
    clear hb1 hb1'
    go_wp2_with fail
    refine (at_any h _ i _ HH1.out HF.out HL.out.1 HL.out.2).mono ?_
    rintro e w2 ⟨⟨x, vr⟩, rfl, hx, -, -, hb2⟩
    have HE := Lib.hid (termP_log HL.out.1 HL.out.2 hx)
    have HB2 := Lib.hid (HB1.out.trans (hb2.mono HB1.out.size))
    clear hb2 hx
    have hfld : ∀ w' : World, (Instr.field 47 (.agg (eArr x vr)) 0).run Try.prog w' = .ok (.int .u64 x.term) w' := fun _ => by first | rfl | kernel_rfl
    go_wp2
    go_ret2
    exact ⟨by rw [HE.out]; rfl, HB2.out⟩
set_option maxHeartbeats 2000000 in
theorem rtermAt_any (h : Har) (v : Value) (i : Int) (w : World) (hh : IsHard w v h) (hf : Fit h) (hi0 : 0 ≤ i) (hi1 : i ≤ 18446744073709551615) :
    Calls Try.prog 74 #[v, .int .u64 i] w (TermE h i w) := by
  obtain ⟨vn, vh, vl, vg, rfl, -, -, -, hg, hwf⟩ := id hh
  obtain ⟨a, cap, rfl, h1, h2⟩ := IsLog.len hg
  have hb0 : Below w.heap.size w (w.alloc (.cells (hArr h vn vh vl (.slice a h.log.length cap)) 43)) := (Below.refl _ _).alloc (Nat.le_refl _) _
  have HB := Lib.hid hb0
  have HH := Lib.hid (hh.below hb0 (Nat.le_refl _))
  have HF := Lib.hid hf
  have HG := Lib.hid (hg.below hb0 (Nat.le_refl _))
  have hr : Below (w.heap.size + 1) (w.alloc (.cells (hArr h vn vh vl (.slice a h.log.length cap)) 43)) (w.alloc (.cells (hArr h vn vh vl (.slice a h.log.length cap)) 43)) := Below.refl _ _
  obtain ⟨b0, b1, b2, b3, b4, b5, b6, b7, b8, b9, b10⟩ := cells11 (box_cells hr)
  obtain ⟨f0, f1⟩ := hf
  have hL0 : 0 ≤ lastI h := by unfold lastI; omega
  have hL1 : lastI h ≤ 4611686018427387904 := f1
  clear hg hwf hh hb0
  by_cases c0 : i = h.shot.index
  · have HE := Lib.hid (termP_shot c0)
    have e0 : (i == h.shot.index) = true := beq_iff_eq.2 c0
    clear c0
    go_enter Try.func74, Try.ntmps74
    go_wp2
    go_ret2
    exact ⟨by rw [HE.out]; rfl, HB.out⟩
  have e0 : (i == h.shot.index) = false := beq_eq_false_iff_ne.2 c0
  by_cases c1 : i < h.shot.index
  · have HE := Lib.hid (termP_none c0 (fun q => by omega))
    clear c0
    go_enter Try.func74, Try.ntmps74
    go_wp2
    go_ret2
    exact ⟨by rw [HE.out]; rfl, HB.out⟩
  have c1' : h.shot.index < i := by omega
  have C0 := Lib.hid c0
  have d1 : decide (i < h.shot.index) = false := decide_eq_false c1
  clear c0 c1
  go_enter Try.func74, Try.ntmps74
  go_wp2_with fail
  refine (rlast_any h _ _ HH.out (by omega)).mono ?_
  rintro e w1 ⟨rfl, hb1⟩
  have hb1' : Below (w.heap.size + 1) (w.alloc (.cells (hArr h vn vh vl (.slice a h.log.length cap)) 43)) w1 := hb1.mono (by simp)
  have HB1 := Lib.hid (box_below hb1')
  have HG1 := Lib.hid (HG.out.below hb1 (Nat.le_refl _))
  clear b0 b1 b2 b3 b4 b5 b6 b7 b8 b9 b10
  obtain ⟨b0, b1, b2, b3, b4, b5, b6, b7, b8, b9, b10⟩ := cells11 (box_cells hb1')
  clear hb1 hb1'
  by_cases c2 : h.shot.index + h.log.length < i
  · have HE := Lib.hid (termP_none C0.out (fun q => by have := q.2; unfold lastI at this; omega))
    go_wp2
    go_ret2
    exact ⟨by rw [HE.out]; rfl, HB1.out⟩
  · have c2' : i ≤ h.shot.index + h.log.length := by omega
    clear c2
    obtain ⟨rows, hrows, hents, hmap⟩ := HG1.out
    have hrl : rows.length = h.log.length := by rw [← hmap, List.length_map]
    have hk : (i - h.shot.index).toNat - 1 < rows.length := by omega
    have hget : h.log[(i - h.shot.index).toNat - 1]? = some rows[(i - h.shot.index).toNat - 1].1 := by rw [← hmap, List.getElem?_map, List.getElem?_eq_getElem hk]; rfl
    have HE := Lib.hid (termP_log c1' (show i ≤ lastI h from c2') hget)
    obtain ⟨a', cap', hv, hl1, hl2, hrc⟩ := hrows
    simp only [Value.slice.injEq] at hv
    obtain ⟨rfl, -, rfl⟩ := hv
    obtain ⟨b, off, rfl, hlt, hc⟩ := Ld.rows_open hk hrc
    have hce := hc _ _ (Ld.rgetD hk) 0 _ rfl
    rw [Nat.add_zero] at hce
    have hik : 0 ≤ i - h.shot.index - 1 := by omega
    have hik2 : i - h.shot.index - 1 < h.log.length := by omega
    generalize rows[(i - h.shot.index).toNat - 1] = r at *
    clear hrc hmap hents hc hget
    go_wp2
    go_ret2
    exact ⟨by rw [HE.out]; rfl, HB1.out⟩
end Rl
end Go.Proofs.Ytlkgmjhejocobaa
