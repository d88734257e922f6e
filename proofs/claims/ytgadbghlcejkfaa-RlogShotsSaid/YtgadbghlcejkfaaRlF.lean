/- rlog's Conf and the document's: the last Conf up to an index. No condition but the bounds of what may last. -/
import Derived.Test.YtgadbghlcejkfaaRlA
import Derived.Test.YtgadbghlcejkfaaIns
import Derived.Test.YtgadbghlcejkfaaEnM
import Derived.Deep.RegionHeld
namespace Go.Proofs.Ytgadbghlcejkfaa
open Go.ChangeShapes Go.WideShapes Go.ChangeAt Go.RowKit
set_option linter.unusedVariables false
set_option maxRecDepth 100000
namespace Rl
open Hd
def cfP (h : Har) (u : Int) : Nat → Int × List Int
  | 0 => (h.shot.index, h.shot.nodes)
  | k + 1 => match h.log[k]? with
    | some x => if h.shot.index + k + 1 ≤ u ∧ x.cmd.kind = 2 then (h.shot.index + k + 1, x.cmd.nodes) else cfP h u k
    | none => cfP h u k
open Classical in
noncomputable def confV (h : Har) (u : Int) : Int × List Int := if hardOk h then cfP h u h.log.length else (0, [])
theorem confV_yes {h : Har} {u : Int} (ok : hardOk h) : confV h u = cfP h u h.log.length := by unfold confV; rw [if_pos ok]
theorem confV_no {h : Har} {u : Int} (ok : ¬ hardOk h) : confV h u = (0, []) := by unfold confV; rw [if_neg ok]
theorem cf_yes {h : Har} {u : Int} {k : Nat} {x : Ent} (hx : h.log[k]? = some x) (h1 : h.shot.index + k + 1 ≤ u) (h2 : x.cmd.kind = 2) : cfP h u (k + 1) = (h.shot.index + k + 1, x.cmd.nodes) := by
  rw [cfP, hx]; exact if_pos ⟨h1, h2⟩
theorem cf_no {h : Har} {u : Int} {k : Nat} {x : Ent} (hx : h.log[k]? = some x) (h1 : ¬ (h.shot.index + k + 1 ≤ u ∧ x.cmd.kind = 2)) : cfP h u (k + 1) = cfP h u k := by
  rw [cfP, hx]; exact if_neg h1
theorem cf_past {h : Har} {u : Int} {k : Nat} (h1 : ¬ h.shot.index + k + 1 ≤ u) : cfP h u (k + 1) = cfP h u k := by
  rw [cfP]
  cases hx : h.log[k]? with
  | none => rfl
  | some x => exact if_neg fun q => h1 q.1
theorem cf_beyond {h : Har} {u : Int} {j : Nat} (hj : u ≤ h.shot.index + j) : ∀ d, cfP h u (j + d) = cfP h u j
  | 0 => rfl
  | d + 1 => (cf_past (k := j + d) (by omega)).trans (cf_beyond hj d)
abbrev kOf (h : Har) (i : Int) : Nat := (i - h.shot.index).toNat
theorem cf_start {h : Har} {u i : Int} (hi : (i = u ∧ u ≤ lastI h) ∨ (i = lastI h ∧ lastI h ≤ u)) : cfP h u h.log.length = cfP h u (kOf h i) := by
  unfold lastI at hi
  rcases hi with ⟨rfl, h2⟩ | ⟨rfl, h2⟩
  · have := cf_beyond (h := h) (u := i) (j := kOf h i) (by unfold kOf; omega) (h.log.length - kOf h i)
    rw [← this]; congr 1; unfold kOf; omega
  · congr 1; unfold kOf; omega
theorem cf_hit {h : Har} {u i : Int} {x : Ent} (h1 : h.shot.index < i) (h2 : i ≤ u) (hx : h.log[(i - h.shot.index).toNat - 1]? = some x) (hk : x.cmd.kind = 2) : cfP h u (kOf h i) = (i, x.cmd.nodes) := by
  have e : kOf h i = ((i - h.shot.index).toNat - 1) + 1 := by unfold kOf; omega
  rw [e, cf_yes hx (by omega) hk]; congr 1; omega
theorem cf_miss {h : Har} {u i : Int} {x : Ent} (h1 : h.shot.index < i) (hx : h.log[(i - h.shot.index).toNat - 1]? = some x) (hk : ¬ x.cmd.kind = 2) : cfP h u (kOf h i) = cfP h u (kOf h (i - 1)) := by
  have e : kOf h i = ((i - h.shot.index).toNat - 1) + 1 := by unfold kOf; omega
  have e2 : kOf h (i - 1) = (i - h.shot.index).toNat - 1 := by unfold kOf; omega
  rw [e, e2, cf_no hx fun q => hk q.2]
theorem cf_low {h : Har} {u i : Int} (h1 : ¬ h.shot.index < i) : cfP h u (kOf h i) = (h.shot.index, h.shot.nodes) := by
  have e : kOf h i = 0 := by unfold kOf; omega
  rw [e]; rfl
theorem cf_fits {h : Har} {u : Int} (hf : IsHard.fits h) : ∀ k, (cfP h u k).2.length * 8 ≤ 140737488351232
  | 0 => hf.1.1
  | k + 1 => by
    cases hx : h.log[k]? with
    | none => rw [cfP, hx]; exact cf_fits hf k
    | some x =>
      by_cases c : h.shot.index + k + 1 ≤ u ∧ x.cmd.kind = 2
      · rw [cf_yes hx c.1 c.2]; exact hf.2.2 x (List.mem_of_getElem? hx)
      · rw [cf_no hx c]; exact cf_fits hf k
def ConfE (h : Har) (u : Int) (w : World) (e : Ending) (w' : World) : Prop := ∃ v, e = .returned (.tuple #[.int .u64 (confV h u).1, v]) ∧ OwnK .i64 3 w' w.heap.size v (confV h u).2 ∧ Below w.heap.size w w'
set_option maxHeartbeats 4000000 in
theorem conf_any (h : Har) (v : Value) (u : Int) (w : World) (hh : IsHard w v h) (hft : IsHard.fits h) (hu0 : 0 ≤ u) (hu1 : u ≤ 18446744073709551615) : Calls Try.prog 66 #[v, .int .u64 u] w (ConfE h u w) := by
  obtain ⟨vn, vh, vl, vg, rfl, hn, -, -, hg, -⟩ := id hh
  obtain ⟨a, cap, rfl, hlc, hcm⟩ := IsLog.len hg
  have hb0 : Below w.heap.size w (w.alloc (.cells (hArr h vn vh vl (.slice a h.log.length cap)) 32)) := (Below.refl _ _).alloc (Nat.le_refl _) _
  have HH := Lib.hid (hh.below hb0 (Nat.le_refl _))
  have HN := Lib.hid (hn.below hb0 (Nat.le_refl _))
  have HWF := Lib.hid (IsHard.wf hh)
  have HFT := Lib.hid hft
  have hr : Below (w.heap.size + 1) (w.alloc (.cells (hArr h vn vh vl (.slice a h.log.length cap)) 32)) (w.alloc (.cells (hArr h vn vh vl (.slice a h.log.length cap)) 32)) := Below.refl _ _
  have HR := Lib.hid hr
  obtain ⟨b0, b1, b2, b3, b4, b5, b6, b7, b8, b9, b10⟩ := cells11 (box_cells hr)
  clear hh hn hg hb0 hr hft
  go_enter Try.func66, Try.ntmps66
  go_wp2_with fail
  refine (valid_any h _ _ HH.out).mono ?_
  rintro e w1 ⟨t1, rfl, ht1, hb1⟩
  have hx : Below (w.heap.size + 1) (w.alloc (.cells (hArr h vn vh vl (.slice a h.log.length cap)) 32)) w1 := HR.out.trans (hb1.mono (by simp))
  have HX1 := Lib.hid hx
  have HB1 := Lib.hid (box_below hx)
  have HH1 := Lib.hid (HH.out.below hb1 (Nat.le_refl _))
  have HN1 := Lib.hid (HN.out.below hb1 (Nat.le_refl _))
  clear b0 b1 b2 b3 b4 b5 b6 b7 b8 b9 b10
  obtain ⟨b0, b1, b2, b3, b4, b5, b6, b7, b8, b9, b10⟩ := cells11 (box_cells hx)
  clear hb1 hx
  cases t1 with
  | false =>
    have HE : Hid (confV h u = (0, [])) := Lib.hid (confV_no fun q => by cases ht1.2 q)
    clear ht1
    go_wp2
    go_ret2
    exact ⟨_, by rw [HE.out]; rfl, by rw [HE.out]; exact OwnK.nil _ _ _ _, HB1.out⟩
  | true =>
    have hok := ht1.1 rfl
    have HE : Hid (confV h u = cfP h u h.log.length) := Lib.hid (confV_yes hok)
    have HF := Lib.hid (fit_of HWF.out hok)
    clear ht1 hok
    have HL : Hid (0 ≤ lastI h ∧ lastI h ≤ 4611686018427387904) := Lib.hid ⟨by have := HF.out.1; unfold lastI; omega, HF.out.2⟩
    go_wp2_with fail
    refine (end_any h _ _ HH1.out HF.out).mono ?_
    rintro e w2 ⟨rfl, hb2⟩
    have hx : Below (w.heap.size + 1) (w.alloc (.cells (hArr h vn vh vl (.slice a h.log.length cap)) 32)) w2 := HX1.out.trans (hb2.mono (by have := HX1.out.size; simpa using this))
    have HX2 := Lib.hid hx
    have HH2 := Lib.hid (HH1.out.below hb2 (Nat.le_refl _))
    have HN2 := Lib.hid (HN1.out.below hb2 (Nat.le_refl _))
    clear b0 b1 b2 b3 b4 b5 b6 b7 b8 b9 b10
    obtain ⟨b0, b1, b2, b3, b4, b5, b6, b7, b8, b9, b10⟩ := cells11 (box_cells hx)
    have HU := Lib.hid hu0
    clear hx hb2
    by_cases c : lastI h < u
    all_goals
      have hL := HL.out
      go_wp2
      go_loopw [6] (fun ix wr => ∃ i : Int, ix = .int .u64 i ∧ 0 ≤ i ∧ i ≤ 4611686018427387904 ∧ i ≤ lastI h ∧ i ≤ u ∧ Hid (cfP h u h.log.length = cfP h u (kOf h i)) ∧ Below (w.heap.size + 1) (w.alloc (.cells (hArr h vn vh vl (.slice a h.log.length cap)) 32)) wr ∧ Below w2.heap.size w2 wr) (fun ix _ => kOf h (intOf ix))
      case atStart => exact ⟨_, rfl, by omega, by omega, by omega, by omega, Lib.hid (cf_start (by omega)), HX2.out, Below.refl _ _⟩
      case round =>
        clear b0 b1 b2 b3 b4 b5 b6 b7 b8 b9 b10
        obtain ⟨i, rfl, hi0, hi3, hi1, hi2, HC, hb, hb2⟩ := hrel
        obtain ⟨b0, b1, b2, b3, b4, b5, b6, b7, b8, b9, b10⟩ := cells11 (box_cells hb)
        have HBX := Lib.hid hb
        have HB2 := Lib.hid hb2
        have hz : w.heap.size < wr.heap.size := by have := hb.size; simp at this; omega
        clear hb hb2
        by_cases c2 : h.shot.index < i
        · go_wp2_with fail
          refine (at_any h _ i _ (HH2.out.below HB2.out (Nat.le_refl _)) HF.out c2 hi1).mono ?_
          rintro e w3 ⟨⟨x, vx⟩, rfl, hx, hsl, hwf, hb3⟩
          simp only [] at hx hsl hwf
          obtain ⟨ax, cx, rfl, -⟩ := id hsl
          have HX3 := Lib.hid (HBX.out.trans (hb3.mono (by have := HBX.out.size; simpa using this)))
          have HY3 := Lib.hid (HB2.out.trans (hb3.mono HB2.out.size))
          have HSL := Lib.hid hsl
          have hfx := HFT.out.2.2 x (List.mem_of_getElem? hx)
          have HXX := Lib.hid hx
          clear b0 b1 b2 b3 b4 b5 b6 b7 b8 b9 b10 hb3 hsl hwf hx
          have hfld : ∀ w' : World, (Instr.field 36 (.agg (eArr x (.slice ax x.cmd.nodes.length cx))) 1).run Try.prog w' = .ok (.agg (Cm.cArr x.cmd (.slice ax x.cmd.nodes.length cx))) w' := fun _ => by first | rfl | kernel_rfl
          by_cases c3 : x.cmd.kind = 2
          · have e3 : (x.cmd.kind == 2) = true := beq_iff_eq.2 c3
            have HRES : Hid (cfP h u h.log.length = (i, x.cmd.nodes)) := Lib.hid (HC.out.trans (cf_hit c2 hi2 HXX.out c3))
            have hb4 : Below w3.heap.size w3 (w3.alloc (.cells (Cm.cArr x.cmd (.slice ax x.cmd.nodes.length cx)) 34)) := (Below.refl _ _).alloc (Nat.le_refl _) _
            have HB4 := Lib.hid hb4
            clear c3 hb4
            go_wp2_with fail
            refine (Cl.clone_any x.cmd.nodes _ _ (HSL.out.below HB4.out (Nat.le_refl _)) hfx).mono ?_
            rintro e w4 ⟨v4, rfl, own4, -, hb4⟩
            have HOW := Lib.hid own4
            have HB5 := Lib.hid ((box_below HX3.out).trans ((HB4.out.trans (hb4.mono HB4.out.size)).mono (box_below HX3.out).size))
            have hzz := Lib.hid (Nat.le_trans (box_below HX3.out).size HB4.out.size)
            clear own4 hb4
            go_wp2
            go_ret2
            exact ⟨_, by rw [HE.out, HRES.out]; rfl, by rw [HE.out, HRES.out]; exact HOW.out.lower hzz.out, HB5.out⟩
          · have e3 : (x.cmd.kind == 2) = false := beq_eq_false_iff_ne.2 c3
            have HC2 : Hid (cfP h u h.log.length = cfP h u (kOf h (i - 1))) := Lib.hid (HC.out.trans (cf_miss c2 HXX.out c3))
            have HX5 := Lib.hid (HX3.out.alloc (by have := HX3.out.size; simpa using this) (.cells (Cm.cArr x.cmd (.slice ax x.cmd.nodes.length cx)) 34))
            have HY5 := Lib.hid (HY3.out.alloc HY3.out.size (.cells (Cm.cArr x.cmd (.slice ax x.cmd.nodes.length cx)) 34))
            have hs0 := HF.out.1
            clear c3
            go_wp2
            go_roundw
            case rel => exact ⟨i - 1, by go_num, by omega, by omega, by omega, by omega, HC2.out |> Lib.hid, HX5.out, HY5.out⟩
            case measure => simp [intOf]; omega
        · have HRES : Hid (cfP h u h.log.length = (h.shot.index, h.shot.nodes)) := Lib.hid (HC.out.trans (cf_low c2))
          have HNR := Lib.hid (HN2.out.below HB2.out (Nat.le_refl _))
          have hdr : Below wr.heap.size wr wr.drew := (Below.refl _ _).drew
          have HDR := Lib.hid hdr
          clear hdr
          go_wp2_with fail
          go_region_held (fun w' => w'.cell? ⟨w.heap.size, 3, none⟩ = some (.int .u64 h.shot.index) ∧ w'.cell? ⟨w.heap.size, 5, none⟩ = some vn)
            (first | go_keep | exact ⟨(hb4.cell (p := ⟨w.heap.size, 3, none⟩) hz).trans b3, (hb4.cell (p := ⟨w.heap.size, 5, none⟩) hz).trans b5⟩)
            (first
              | (go_at_call 90; refine (Cl.clone_any h.shot.nodes _ _ (HNR.out.below HDR.out (Nat.le_refl _)) HFT.out.1.1).mono ?_; rintro e w4 ⟨v4, rfl, own4, -, hb4⟩))
          have HOW := Lib.hid own4
          have HB5 := Lib.hid ((box_below HBX.out).trans ((HDR.out.trans (hb4.mono HDR.out.size)).mono (box_below HBX.out).size))
          have hzz := Lib.hid (Nat.le_trans (box_below HBX.out).size HDR.out.size)
          clear own4 hb4
          go_wp2
          go_ret2
          exact ⟨_, by rw [HE.out, HRES.out]; rfl, by rw [HE.out, HRES.out]; exact HOW.out.lower hzz.out, HB5.out⟩
end Rl
end Go.Proofs.Ytgadbghlcejkfaa
