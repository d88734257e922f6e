/- Package values: CopyLedger. No condition. Package values: CopyShot. No condition. Package values: CopyHard. No condition. -/
import Derived.Test.YtlkgmjhejocobaaLcM
import Derived.Test.YtlkgmjhejocobaaIns
import Derived.Test.YtlkgmjhejocobaaShS
import Derived.Deep.MidRow
import Derived.Test.YtlkgmjhejocobaaHdS
import Derived.Test.YtlkgmjhejocobaaVcM
namespace Go.Proofs.Ytlkgmjhejocobaa
open Go.ChangeShapes Go.WideShapes Go.ChangeAt Go.RowKit
set_option linter.unusedVariables false
set_option maxRecDepth 100000
namespace Vc
open Ld
set_option maxHeartbeats 1000000 in
theorem led_own (l : Led) (v : Value) (w : World) (h : IsLed w v l) (hf : IsLed.fits l) :
    Calls Try.prog 77 #[v] w (GivesOwn l w) := by
  obtain ⟨vh, vl, rfl, hh, hl, hwf⟩ := h
  have HW := Lib.hid hwf
  have hb0 : ∀ A B, Below w.heap.size w ((w.alloc (.cells A 27)).alloc (.cells B 27)) := fun A B => ((Below.refl _ _).alloc (Nat.le_refl _) _).alloc (by simp) _
  have H0 := Lib.hid hb0
  have HS := Lib.hid (fun A B => hh.below (hb0 A B) (Nat.le_refl _))
  have hml := hh.len
  have hmm := hl.len
  obtain ⟨hf1, hf2⟩ := hf
  have HN := Lib.hid hf1
  have HN2 := Lib.hid hf2
  have HLw := Lib.hid hl
  have HM := Lib.hid hml
  have HM2 := Lib.hid hmm
  clear hb0 hh hl hwf hml hmm hf1 hf2
  go_enter Try.func77, Try.ntmps77
  go_wp2_with fail
  refine (Ih.clone_any l.held _ _ (HS.out _ _) (by have := HN.out; omega)).mono ?_
  rintro e w1 ⟨v1, rfl, hownq, hbq⟩
  have hb1 : Below (w.heap.size + 2) _ w1 := hbq.mono (by simp)
  have hown1 := OwnR.lower (D := w.heap.size + 2) hownq (by simp)
  clear hownq hbq
  have hs1 := hown1.sl heldC_len
  obtain ⟨a1, cap1, hv1, -⟩ := id hs1
  subst hv1
  have hA := (hb1.block w.heap.size (by omega)).trans (heap_alloc2_old w _ _)
  have hB := (hb1.block (w.heap.size + 1) (by omega)).trans (heap_alloc2_new w _ _)
  have hz1 : w.heap.size + 2 ≤ w1.heap.size := (by have := hb1.size; simpa using this)
  have hcell := row2 hA
  have hfz := frozen_of_row w1 w.heap.size 2 _ _ hA
  have hA1 := store2 hA (.slice a1 l.held.length cap1)
  have hc3 := row3 hA1
  have hB1 := (heap_setCell_other w1 ⟨w.heap.size, 2, none⟩ (w.heap.size + 1) (.slice a1 l.held.length cap1) (by simp)).trans hB
  have HBx := Lib.hid (((H0.out _ _).trans (hb1.mono (by omega))).setCell (p := ⟨w.heap.size, 2, none⟩) (Nat.le_refl _) (.slice a1 l.held.length cap1))
  have HL1 := Lib.hid (HLw.out.below HBx.out (Nat.le_refl _))
  have HOW := Lib.hid hown1
  have HZ := Lib.hid hz1
  clear hb1 hown1 hs1
  go_wp2_with fail
  refine (Il.clone_any l.last _ _ HL1.out (by have := HN2.out; omega)).mono ?_
  rintro e w2 ⟨v2, rfl, hownq2, hbq2⟩
  have hb2 : Below w1.heap.size _ w2 := hbq2.mono (by simp)
  have hown2 := OwnR.lower (D := w1.heap.size) hownq2 (by simp)
  clear hownq2 hbq2
  have hs2 := hown2.sl lastC_len
  obtain ⟨a2, cap2, hv2, -⟩ := id hs2
  subst hv2
  have hA2 := (hb2.block w.heap.size (by have := HZ.out; omega)).trans hA1
  have hB2 := (hb2.block (w.heap.size + 1) (by have := HZ.out; omega)).trans hB1
  have hcell2 := row3 hA2
  have hfz2 := frozen_of_row w2 w.heap.size 3 _ _ hA2
  have hA3 := store3 hA2 (.slice a2 l.last.length cap2)
  have hB3 := (heap_setCell_other w2 ⟨w.heap.size, 3, none⟩ (w.heap.size + 1) (.slice a2 l.last.length cap2) (by simp)).trans hB2
  clear hA hB hcell hfz hA1 hc3 hB1
  go_wp2_with (first
    | (refine wpList_load_row rfl 27 (.tmp 1) rfl w.heap.size rfl 27 (lArr l (.slice a1 l.held.length cap1) (.slice a2 l.last.length cap2)) (0, 0) _ hA3 Try.underlying27 rfl (by kernel_rfl) ?_)
    | (refine wpList_store_row rfl 27 (.tmp 2) (.tmp 11) rfl (w.heap.size + 1) (lArr l (.slice a1 l.held.length cap1) (.slice a2 l.last.length cap2)) rfl rfl 27 _ hB3 (by kernel_rfl) rfl (lArr_one _ _ _ _ _ _ _) ?_))
  refine bodyPost_ret (v := .agg (lArr l (.slice a1 l.held.length cap1) (.slice a2 l.last.length cap2))) (results_cell_row rfl _ _ (w.heap.size + 1) 27 _ (0, 0) _ rfl (setRow_heap _ _ _ _ _ _ hB3) Try.underlying27 rfl (by kernel_rfl)) rfl ?_
  have hz1 := HZ.out
  have hsz : (w1.setCell ⟨w.heap.size, 2, none⟩ (.slice a1 l.held.length cap1)).heap.size = w1.heap.size := by simp
  have hq1 : OwnR 5 heldC 74 w2 (w.heap.size + 2) (.slice a1 l.held.length cap1) l.held := (HOW.out.cell (g := w.heap.size) (by omega)).below hb2 (Nat.le_of_eq hsz)
  refine ⟨_, _, rfl, ((hq1.cell (by omega)).row (by omega)).lower (by omega), ((hown2.cell (by omega)).row (by omega)).lower (by omega), HW.out, ?_⟩
  exact below_row (((HBx.out).trans (hb2.mono (by omega))).setCell (Nat.le_refl _) _) (by omega) _
end Vc
end Go.Proofs.Ytlkgmjhejocobaa
namespace Go.Proofs.Ytlkgmjhejocobaa
open Go.ChangeShapes Go.WideShapes Go.ChangeAt Go.RowKit
set_option linter.unusedVariables false
set_option maxRecDepth 100000
namespace Vc
open Sh
set_option maxHeartbeats 2000000 in
theorem shot_own (s : Sho) (v : Value) (w : World) (h : IsShot w v s) (hf : IsShot.fits s) :
    Calls Try.prog 61 #[v] w (GivesShotO s w) := by
  obtain ⟨vn, vh, vl, rfl, hn, hh, hl, hwf⟩ := h
  have HW := Lib.hid hwf
  have hb0 : ∀ A B, Below w.heap.size w ((w.alloc (.cells A 29)).alloc (.cells B 29)) := fun A B => ((Below.refl _ _).alloc (Nat.le_refl _) _).alloc (by simp) _
  have H0 := Lib.hid hb0
  have HS := Lib.hid (fun A B => hn.below (hb0 A B) (Nat.le_refl _))
  have HNW := Lib.hid hn.wf
  have HHw := Lib.hid hh
  have HLw := Lib.hid hl
  obtain ⟨hf1, hf2⟩ := hf
  have HF := Lib.hid hf2
  clear hb0 hn hh hl hwf hf2
  go_enter Try.func61, Try.ntmps61
  go_wp2_with fail
  refine (Cl.clone_any s.nodes _ _ (HS.out _ _) hf1).mono ?_
  rintro e w1 ⟨v1, rfl, hownq, hs1, hbq⟩
  have hb1 : Below (w.heap.size + 2) _ w1 := hbq.mono (by simp)
  have hown1 : OwnI w1 (w.heap.size + 2) v1 s.nodes := ownK_lower hownq (by simp)
  clear hownq hbq
  obtain ⟨a1, cap1, hv1, -⟩ := id hs1
  subst hv1
  have hA := (hb1.block w.heap.size (by omega)).trans (heap_alloc2_old w _ _)
  have hB := (hb1.block (w.heap.size + 1) (by omega)).trans (heap_alloc2_new w _ _)
  have hz1 : w.heap.size + 2 ≤ w1.heap.size := (by have := hb1.size; simpa using this)
  have hcell := (cells7 hA).2.2.1
  have hfz := frozen_of_row w1 w.heap.size 2 _ _ hA
  have hA1 := store2 hA (.slice a1 s.nodes.length cap1)
  have hB1 := (heap_setCell_other w1 ⟨w.heap.size, 2, none⟩ (w.heap.size + 1) (.slice a1 s.nodes.length cap1) (by simp)).trans hB
  have HBx := Lib.hid (((H0.out _ _).trans (hb1.mono (by omega))).setCell (p := ⟨w.heap.size, 2, none⟩) (Nat.le_refl _) (.slice a1 s.nodes.length cap1))
  obtain ⟨q0, q1, q2, q3, q4, q5, q6⟩ := cells7 hA1
  have HOW := Lib.hid hown1
  have HZ := Lib.hid hz1
  have HA1 := Lib.hid hA1
  have HB1 := Lib.hid hB1
  clear hb1 hown1 hs1 hA hB hA1 hB1 hz1
  go_wp2_with fail
  refine (Vc.led_own s.led _ _ ⟨vh, vl, rfl, HHw.out.below HBx.out (Nat.le_refl _), HLw.out.below HBx.out (Nat.le_refl _), HW.out.2.2⟩ HF.out).mono ?_
  rintro e w2 ⟨ch, cl, rfl, hoh, hol, -, hb2⟩
  obtain ⟨a2, cap2, rfl, -⟩ := hoh.sl heldC_len
  obtain ⟨a3, cap3, rfl, -⟩ := hol.sl lastC_len
  have hA2 := (hb2.block w.heap.size ((Array.getElem?_eq_some_iff.1 HA1.out).1)).trans HA1.out
  have hB2 := (hb2.block (w.heap.size + 1) ((Array.getElem?_eq_some_iff.1 HB1.out).1)).trans HB1.out
  have hth := there4 hA2
  have hA3 := mid4 hA2 (.slice a2 s.led.held.length cap2) (.slice a3 s.led.last.length cap3)
  have hB3 := (cells_other (g := w.heap.size) (k := w.heap.size + 1) (by omega) (lArr s.led (.slice a2 s.led.held.length cap2) (.slice a3 s.led.last.length cap3)).toList 3 w2).trans hB2
  have HB2 := Lib.hid hb2
  have HOH := Lib.hid hoh
  have HOL := Lib.hid hol
  clear hcell hfz q0 q1 q2 q3 q4 q5 q6 hoh hol hb2
  go_wp2_with (first
    | (refine wpList_store_mid rfl 27 (.tmp 10) (.tmp 9) rfl w.heap.size 3 (lArr s.led (.slice a2 s.led.held.length cap2) (.slice a3 s.led.last.length cap3)) rfl rfl hth (by kernel_rfl) (Ld.lArr_one _ _ _ _ _ _ _) ?_)
    | (refine wpList_load_row rfl 29 (.tmp 1) rfl w.heap.size rfl 29 (sArr s (.slice a1 s.nodes.length cap1) (.slice a2 s.led.held.length cap2) (.slice a3 s.led.last.length cap3)) (0, 0) _ hA3 Try.underlying29 rfl (by kernel_rfl) ?_)
    | (refine wpList_store_row rfl 29 (.tmp 2) (.tmp 11) rfl (w.heap.size + 1) (sArr s (.slice a1 s.nodes.length cap1) (.slice a2 s.led.held.length cap2) (.slice a3 s.led.last.length cap3)) rfl rfl 29 _ hB3 (by kernel_rfl) rfl (sArr_one _ _ _ _ _ _ _ _ _ _) ?_))
  refine bodyPost_ret (v := .agg (sArr s (.slice a1 s.nodes.length cap1) (.slice a2 s.led.held.length cap2) (.slice a3 s.led.last.length cap3))) (results_cell_row rfl _ _ (w.heap.size + 1) 29 _ (0, 0) _ rfl (setRow_heap _ _ _ _ _ _ hB3) Try.underlying29 rfl (by kernel_rfl)) rfl ?_
  have hz1 := HZ.out
  have hsz : (w1.setCell ⟨w.heap.size, 2, none⟩ (.slice a1 s.nodes.length cap1)).heap.size = w1.heap.size := by simp
  have hb2 := HB2.out
  have hq1 : OwnI w2 (w.heap.size + 2) (.slice a1 s.nodes.length cap1) s.nodes := OwnK.below (owns_cell (g := w.heap.size) HOW.out (by omega) : OwnI _ _ _ _) hb2 (Nat.le_refl _)
  have hn1 : OwnI _ (w.heap.size + 2) (.slice a1 s.nodes.length cap1) s.nodes := owns_row (g := w.heap.size + 1) (cs := sArr s (.slice a1 s.nodes.length cap1) (.slice a2 s.led.held.length cap2) (.slice a3 s.led.last.length cap3)) (owns_cells (g := w.heap.size) (by omega) (lArr s.led (.slice a2 s.led.held.length cap2) (.slice a3 s.led.last.length cap3)).toList 3 _ hq1) (by omega)
  have hh1 : OwnR 5 heldC 74 _ _ _ s.led.held := owns_row (g := w.heap.size + 1) (cs := sArr s (.slice a1 s.nodes.length cap1) (.slice a2 s.led.held.length cap2) (.slice a3 s.led.last.length cap3)) (owns_cells (g := w.heap.size) (by omega) (lArr s.led (.slice a2 s.led.held.length cap2) (.slice a3 s.led.last.length cap3)).toList 3 _ HOH.out) (by omega)
  have hl1 : OwnR 6 lastC 78 _ _ _ s.led.last := owns_row (g := w.heap.size + 1) (cs := sArr s (.slice a1 s.nodes.length cap1) (.slice a2 s.led.held.length cap2) (.slice a3 s.led.last.length cap3)) (owns_cells (g := w.heap.size) (by omega) (lArr s.led (.slice a2 s.led.held.length cap2) (.slice a3 s.led.last.length cap3)).toList 3 _ HOL.out) (by omega)
  exact ⟨_, _, _, rfl, ownK_lower hn1 (by omega), hh1.lower (by omega), hl1.lower (by omega), Ld.below_row (below_cells (Nat.le_refl _) _ _ _ (HBx.out.trans (hb2.mono (by omega)))) (by omega) _⟩
end Vc
end Go.Proofs.Ytlkgmjhejocobaa
namespace Go.Proofs.Ytlkgmjhejocobaa
open Go.ChangeShapes Go.WideShapes Go.ChangeAt Go.RowKit
set_option linter.unusedVariables false
set_option maxRecDepth 100000
namespace Vc
open Hd Cm
/-- what lasts, whose lists are all the call's own -/
def GivesHardO (h : Har) (w : World) (e : Ending) (w' : World) : Prop := ∃ vn vh vl vg rows, e = .returned (.agg (hArr h vn vh vl vg)) ∧ OwnI w' w.heap.size vn h.shot.nodes ∧ OwnR 5 heldC 74 w' w.heap.size vh h.shot.led.held ∧ OwnR 6 lastC 78 w' w.heap.size vl h.shot.led.last ∧ OwnR 9 entC 47 w' w.heap.size vg rows ∧ EntsO w' w.heap.size vg.ownBlock rows ∧ rows.map Prod.fst = h.log ∧ Below w.heap.size w w'
set_option maxHeartbeats 4000000 in
theorem hard_own (h : Har) (v : Value) (w : World) (hh : IsHard w v h) (hf : IsHard.fits h) :
    Calls Try.prog 58 #[v] w (GivesHardO h w) := by
  obtain ⟨vn, vh, vl, vg, rfl, hn, hhe, hl, hg, hwf⟩ := id hh
  have hb0 : ∀ A B, Below w.heap.size w ((w.alloc (.cells A 43)).alloc (.cells B 43)) := fun A B => ((Below.refl _ _).alloc (Nat.le_refl _) _).alloc (by simp) _
  have H0 := Lib.hid hb0
  have HSH := Lib.hid (fun A B => (⟨vn, vh, vl, rfl, hn.below (hb0 A B) (Nat.le_refl _), hhe.below (hb0 A B) (Nat.le_refl _), hl.below (hb0 A B) (Nat.le_refl _), hwf.2.2.2⟩ : IsShot _ (.agg (sArr h.shot vn vh vl)) h.shot))
  have HLG := Lib.hid hg
  have HNW := Lib.hid hn.wf
  have HW := Lib.hid hwf
  have HF := Lib.hid hf
  clear hh hn hhe hl hg hwf hf hb0
  go_enter Try.func58, Try.ntmps58
  go_wp2_with fail
  refine (Vc.shot_own h.shot _ _ (HSH.out _ _) HF.out.1).mono ?_
  rintro e w1 ⟨un, uh, ul, rfl, o1, o2, o3, hb1⟩
  obtain ⟨a1, k1, rfl, -⟩ := o1.sl HNW.out
  obtain ⟨a2, k2, rfl, -⟩ := o2.sl heldC_len
  obtain ⟨a3, k3, rfl, -⟩ := o3.sl lastC_len
  have hA1 := (hb1.block w.heap.size (by simp; omega)).trans (heap_alloc2_old w _ _)
  have hB1 := (hb1.block (w.heap.size + 1) (by simp)).trans (heap_alloc2_new w _ _)
  have hth := there7 hA1
  have hA2 := mid7 hA1 (.slice a1 h.shot.nodes.length k1) (.slice a2 h.shot.led.held.length k2) (.slice a3 h.shot.led.last.length k3)
  have hB2 := (cells_other (g := w.heap.size) (k := w.heap.size + 1) (by omega) (sArr h.shot (.slice a1 h.shot.nodes.length k1) (.slice a2 h.shot.led.held.length k2) (.slice a3 h.shot.led.last.length k3)).toList 3 w1).trans hB1
  have hbW : Below w.heap.size w (w1.setCells w.heap.size 3 (sArr h.shot (.slice a1 h.shot.nodes.length k1) (.slice a2 h.shot.led.held.length k2) (.slice a3 h.shot.led.last.length k3)).toList) := below_cells (Nat.le_refl _) _ _ _ ((H0.out _ _).trans (hb1.mono (by simp; omega)))
  have HLG2 := Lib.hid (HLG.out.below hbW (Nat.le_refl _))
  have HBW := Lib.hid hbW
  have O1 : Hid (OwnI _ (w.heap.size + 2) _ h.shot.nodes) := Lib.hid (owns_cells (g := w.heap.size) (by omega) (sArr h.shot (.slice a1 h.shot.nodes.length k1) (.slice a2 h.shot.led.held.length k2) (.slice a3 h.shot.led.last.length k3)).toList 3 _ (OwnK.lower o1 (by simp)))
  have O2 : Hid (OwnR 5 heldC 74 _ (w.heap.size + 2) _ h.shot.led.held) := Lib.hid (owns_cells (g := w.heap.size) (by omega) (sArr h.shot (.slice a1 h.shot.nodes.length k1) (.slice a2 h.shot.led.held.length k2) (.slice a3 h.shot.led.last.length k3)).toList 3 _ (o2.lower (by simp)))
  have O3 : Hid (OwnR 6 lastC 78 _ (w.heap.size + 2) _ h.shot.led.last) := Lib.hid (owns_cells (g := w.heap.size) (by omega) (sArr h.shot (.slice a1 h.shot.nodes.length k1) (.slice a2 h.shot.led.held.length k2) (.slice a3 h.shot.led.last.length k3)).toList 3 _ (o3.lower (by simp)))
  have HA2 := Lib.hid hA2
  have HB2 := Lib.hid hB2
  have hb10 := (cells11 hA2).2.2.2.2.2.2.2.2.2.2
  clear hb1 hA1 hB1 o1 o2 o3 hbW hA2 hB2
  generalize hW2 : w1.setCells w.heap.size 3 (sArr h.shot (.slice a1 h.shot.nodes.length k1) (.slice a2 h.shot.led.held.length k2) (.slice a3 h.shot.led.last.length k3)).toList = W2 at HLG2 HBW O1 O2 O3 HA2 HB2 hb10
  go_wp2_with (first
    | (refine wpList_store_mid rfl 29 (.tmp 6) (.tmp 5) rfl w.heap.size 3 (sArr h.shot (.slice a1 h.shot.nodes.length k1) (.slice a2 h.shot.led.held.length k2) (.slice a3 h.shot.led.last.length k3)) rfl rfl hth (by kernel_rfl) (Sh.sArr_one _ _ _ _ _ _ _ _ _ _) ?_; rw [hW2]; clear hW2 hth)
    | fail)
  refine (Vc.entries_own h.log _ _ HLG2.out HF.out.2.1 HF.out.2.2).mono ?_
  rintro e w3 ⟨ug, rows, rfl, o4, o5, hmap, hb3⟩
  obtain ⟨a4, k4, rfl, -⟩ := o4.sl entC_len
  have hrl : rows.length = h.log.length := by rw [← hmap, List.length_map]
  rw [hrl] at o4 o5
  rw [hrl]
  have HO5 := Lib.hid o5
  have HO4 := Lib.hid o4
  have HMAP := Lib.hid hmap
  have hA3 := (hb3.block w.heap.size (lt_of_row HA2.out)).trans HA2.out
  have hB3 := (hb3.block (w.heap.size + 1) (lt_of_row HB2.out)).trans HB2.out
  have hcell := (cells11 hA3).2.2.2.2.2.2.2.2.2.2
  have hfz := frozen_of_row w3 w.heap.size 10 _ _ hA3
  have hA4 := store10 hA3 (.slice a4 h.log.length k4)
  have hB4 := (heap_setCell_other w3 ⟨w.heap.size, 10, none⟩ (w.heap.size + 1) (.slice a4 h.log.length k4) (by simp)).trans hB3
  have HB3 := Lib.hid hb3
  clear hb10 hA3 hB3 o4 o5 hmap hb3
  go_wp2_with (first
    | (refine wpList_load_row rfl 43 (.tmp 1) rfl w.heap.size rfl 43 (hArr h (.slice a1 h.shot.nodes.length k1) (.slice a2 h.shot.led.held.length k2) (.slice a3 h.shot.led.last.length k3) (.slice a4 h.log.length k4)) (0, 0) _ hA4 Try.underlying43 rfl (by kernel_rfl) ?_)
    | (refine wpList_store_row rfl 43 (.tmp 2) (.tmp 11) rfl (w.heap.size + 1) (hArr h (.slice a1 h.shot.nodes.length k1) (.slice a2 h.shot.led.held.length k2) (.slice a3 h.shot.led.last.length k3) (.slice a4 h.log.length k4)) rfl rfl 43 _ hB4 (by kernel_rfl) rfl (hArr_one _ _ _ _ _ _ _ _ _ _ _ _ _) ?_))
  refine bodyPost_ret (v := .agg (hArr h (.slice a1 h.shot.nodes.length k1) (.slice a2 h.shot.led.held.length k2) (.slice a3 h.shot.led.last.length k3) (.slice a4 h.log.length k4))) (results_cell_row rfl _ _ (w.heap.size + 1) 43 _ (0, 0) _ rfl (setRow_heap _ _ _ _ _ _ hB4) Try.underlying43 rfl (by kernel_rfl)) rfl ?_
  have hz2 := lt_of_row HB2.out
  have hf : ∀ v zs, OwnK .i64 3 w3 W2.heap.size v zs → OwnK .i64 3 _ W2.heap.size v zs := fun v zs q =>
    owns_row (g := w.heap.size + 1) (cs := hArr h (.slice a1 h.shot.nodes.length k1) (.slice a2 h.shot.led.held.length k2) (.slice a3 h.shot.led.last.length k3) (.slice a4 h.log.length k4)) (owns_cell (g := w.heap.size) (j := 10) (u := .slice a4 h.log.length k4) q (by omega)) (by omega)
  have q1 : OwnI _ (w.heap.size + 2) _ h.shot.nodes := owns_row (g := w.heap.size + 1) (cs := hArr h (.slice a1 h.shot.nodes.length k1) (.slice a2 h.shot.led.held.length k2) (.slice a3 h.shot.led.last.length k3) (.slice a4 h.log.length k4)) (owns_cell (g := w.heap.size) (j := 10) (u := .slice a4 h.log.length k4) (O1.out.below HB3.out (Nat.le_refl _)) (by omega)) (by omega)
  have q2 : OwnR 5 heldC 74 _ (w.heap.size + 2) _ h.shot.led.held := owns_row (g := w.heap.size + 1) (cs := hArr h (.slice a1 h.shot.nodes.length k1) (.slice a2 h.shot.led.held.length k2) (.slice a3 h.shot.led.last.length k3) (.slice a4 h.log.length k4)) (owns_cell (g := w.heap.size) (j := 10) (u := .slice a4 h.log.length k4) (O2.out.below HB3.out (Nat.le_refl _)) (by omega)) (by omega)
  have q3 : OwnR 6 lastC 78 _ (w.heap.size + 2) _ h.shot.led.last := owns_row (g := w.heap.size + 1) (cs := hArr h (.slice a1 h.shot.nodes.length k1) (.slice a2 h.shot.led.held.length k2) (.slice a3 h.shot.led.last.length k3) (.slice a4 h.log.length k4)) (owns_cell (g := w.heap.size) (j := 10) (u := .slice a4 h.log.length k4) (O3.out.below HB3.out (Nat.le_refl _)) (by omega)) (by omega)
  have q4 : OwnR 9 entC 47 _ _ (.slice a4 h.log.length k4) rows := owns_row (g := w.heap.size + 1) (cs := hArr h (.slice a1 h.shot.nodes.length k1) (.slice a2 h.shot.led.held.length k2) (.slice a3 h.shot.led.last.length k3) (.slice a4 h.log.length k4)) (owns_cell (g := w.heap.size) (j := 10) (u := .slice a4 h.log.length k4) HO4.out (by omega)) (by omega)
  have hz3 : w.heap.size ≤ W2.heap.size := by omega
  exact ⟨_, _, _, _, rows, rfl, OwnK.lower q1 (by omega), q2.lower (by omega), q3.lower (by omega), q4.lower (by omega), fun r hr => ⟨OwnK.lower (hf _ _ (HO5.out r hr).1) hz3, (HO5.out r hr).2⟩, HMAP.out, Ld.below_row ((HBW.out.trans (HB3.out.mono (by have := HBW.out.size; omega))).setCell (Nat.le_refl _) _) (by omega) _⟩
end Vc
end Go.Proofs.Ytlkgmjhejocobaa
