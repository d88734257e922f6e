/- Package values: CopyShot. No condition. -/
import Derived.Test.YtgadbghlcejkfaaShS
import Derived.Test.YtgadbghlcejkfaaVcD
import Derived.Test.YtgadbghlcejkfaaIns
import Derived.Deep.MidRow
namespace Go.Proofs.Ytgadbghlcejkfaa
open Go.ChangeShapes Go.WideShapes Go.ChangeAt Go.RowKit
set_option linter.unusedVariables false
set_option maxRecDepth 100000
namespace Vc
open Sh
set_option maxHeartbeats 2000000 in
theorem shot_own (s : Sho) (v : Value) (w : World) (h : IsShot w v s) (hf : IsShot.fits s) :
    Calls Try.prog 51 #[v] w (GivesShotO s w) := by
  obtain ⟨vn, vh, vl, rfl, hn, hh, hl, hwf⟩ := h
  have HW := Lib.hid hwf
  have hb0 : ∀ A B, Below w.heap.size w ((w.alloc (.cells A 29)).alloc (.cells B 29)) := fun A B => ((Below.refl _ _).alloc (Nat.le_refl _) _).alloc (by simp) _
  have H0 := Lib.hid hb0
  have HS := Lib.hid (fun A B => hn.below (hb0 A B) (Nat.le_refl _))
  have HNW := Lib.hid hn.wf
  have HHw := Lib.hid hh
  have HLw := Lib.hid hl
  obtain ⟨hf1, hf2⟩ := hf
  have HF := Lib.hid hf2
  clear hb0 hn hh hl hwf hf2
  go_enter Try.func51, Try.ntmps51
  go_wp2_with fail
  refine (Cl.clone_any s.nodes _ _ (HS.out _ _) hf1).mono ?_
  rintro e w1 ⟨v1, rfl, hownq, hs1, hbq⟩
  have hb1 : Below (w.heap.size + 2) _ w1 := hbq.mono (by simp)
  have hown1 : OwnI w1 (w.heap.size + 2) v1 s.nodes := ownK_lower hownq (by simp)
  clear hownq hbq
  obtain ⟨a1, cap1, hv1, -⟩ := id hs1
  subst hv1
  have hA := (hb1.block w.heap.size (by omega)).trans (heap_alloc2_old w _ _)
  have hB := (hb1.block (w.heap.size + 1) (by omega)).trans (heap_alloc2_new w _ _)
  have hz1 : w.heap.size + 2 ≤ w1.heap.size := (by have := hb1.size; simpa using this)
  have hcell := (cells7 hA).2.2.1
  have hfz := frozen_of_row w1 w.heap.size 2 _ _ hA
  have hA1 := store2 hA (.slice a1 s.nodes.length cap1)
  have hB1 := (heap_setCell_other w1 ⟨w.heap.size, 2, none⟩ (w.heap.size + 1) (.slice a1 s.nodes.length cap1) (by simp)).trans hB
  have HBx := Lib.hid (((H0.out _ _).trans (hb1.mono (by omega))).setCell (p := ⟨w.heap.size, 2, none⟩) (Nat.le_refl _) (.slice a1 s.nodes.length cap1))
  obtain ⟨q0, q1, q2, q3, q4, q5, q6⟩ := cells7 hA1
  have HOW := Lib.hid hown1
  have HZ := Lib.hid hz1
  have HA1 := Lib.hid hA1
  have HB1 := Lib.hid hB1
  clear hb1 hown1 hs1 hA hB hA1 hB1 hz1
  go_wp2_with fail
  refine (Vc.led_own s.led _ _ ⟨vh, vl, rfl, HHw.out.below HBx.out (Nat.le_refl _), HLw.out.below HBx.out (Nat.le_refl _), HW.out.2.2⟩ HF.out).mono ?_
  rintro e w2 ⟨ch, cl, rfl, hoh, hol, -, hb2⟩
  obtain ⟨a2, cap2, rfl, -⟩ := hoh.sl heldC_len
  obtain ⟨a3, cap3, rfl, -⟩ := hol.sl lastC_len
  have hA2 := (hb2.block w.heap.size ((Array.getElem?_eq_some_iff.1 HA1.out).1)).trans HA1.out
  have hB2 := (hb2.block (w.heap.size + 1) ((Array.getElem?_eq_some_iff.1 HB1.out).1)).trans HB1.out
  have hth := there4 hA2
  have hA3 := mid4 hA2 (.slice a2 s.led.held.length cap2) (.slice a3 s.led.last.length cap3)
  have hB3 := (cells_other (g := w.heap.size) (k := w.heap.size + 1) (by omega) (lArr s.led (.slice a2 s.led.held.length cap2) (.slice a3 s.led.last.length cap3)).toList 3 w2).trans hB2
  have HB2 := Lib.hid hb2
  have HOH := Lib.hid hoh
  have HOL := Lib.hid hol
  clear hcell hfz q0 q1 q2 q3 q4 q5 q6 hoh hol hb2
  go_wp2_with (first
    | (refine wpList_store_mid rfl 27 (.tmp 10) (.tmp 9) rfl w.heap.size 3 (lArr s.led (.slice a2 s.led.held.length cap2) (.slice a3 s.led.last.length cap3)) rfl rfl hth (by kernel_rfl) (Ld.lArr_one _ _ _ _ _ _ _) ?_)
    | (refine wpList_load_row rfl 29 (.tmp 1) rfl w.heap.size rfl 29 (sArr s (.slice a1 s.nodes.length cap1) (.slice a2 s.led.held.length cap2) (.slice a3 s.led.last.length cap3)) (0, 0) _ hA3 Try.underlying29 rfl (by kernel_rfl) ?_)
    | (refine wpList_store_row rfl 29 (.tmp 2) (.tmp 11) rfl (w.heap.size + 1) (sArr s (.slice a1 s.nodes.length cap1) (.slice a2 s.led.held.length cap2) (.slice a3 s.led.last.length cap3)) rfl rfl 29 _ hB3 (by kernel_rfl) rfl (sArr_one _ _ _ _ _ _ _ _ _ _) ?_))
  refine bodyPost_ret (v := .agg (sArr s (.slice a1 s.nodes.length cap1) (.slice a2 s.led.held.length cap2) (.slice a3 s.led.last.length cap3))) (results_cell_row rfl _ _ (w.heap.size + 1) 29 _ (0, 0) _ rfl (setRow_heap _ _ _ _ _ _ hB3) Try.underlying29 rfl (by kernel_rfl)) rfl ?_
  have hz1 := HZ.out
  have hsz : (w1.setCell ⟨w.heap.size, 2, none⟩ (.slice a1 s.nodes.length cap1)).heap.size = w1.heap.size := by simp
  have hb2 := HB2.out
  have hq1 : OwnI w2 (w.heap.size + 2) (.slice a1 s.nodes.length cap1) s.nodes := OwnK.below (owns_cell (g := w.heap.size) HOW.out (by omega) : OwnI _ _ _ _) hb2 (Nat.le_refl _)
  have hn1 : OwnI _ (w.heap.size + 2) (.slice a1 s.nodes.length cap1) s.nodes := owns_row (g := w.heap.size + 1) (cs := sArr s (.slice a1 s.nodes.length cap1) (.slice a2 s.led.held.length cap2) (.slice a3 s.led.last.length cap3)) (owns_cells (g := w.heap.size) (by omega) (lArr s.led (.slice a2 s.led.held.length cap2) (.slice a3 s.led.last.length cap3)).toList 3 _ hq1) (by omega)
  have hh1 : OwnR 5 heldC 67 _ _ _ s.led.held := owns_row (g := w.heap.size + 1) (cs := sArr s (.slice a1 s.nodes.length cap1) (.slice a2 s.led.held.length cap2) (.slice a3 s.led.last.length cap3)) (owns_cells (g := w.heap.size) (by omega) (lArr s.led (.slice a2 s.led.held.length cap2) (.slice a3 s.led.last.length cap3)).toList 3 _ HOH.out) (by omega)
  have hl1 : OwnR 6 lastC 71 _ _ _ s.led.last := owns_row (g := w.heap.size + 1) (cs := sArr s (.slice a1 s.nodes.length cap1) (.slice a2 s.led.held.length cap2) (.slice a3 s.led.last.length cap3)) (owns_cells (g := w.heap.size) (by omega) (lArr s.led (.slice a2 s.led.held.length cap2) (.slice a3 s.led.last.length cap3)).toList 3 _ HOL.out) (by omega)
  exact ⟨_, _, _, rfl, ownK_lower hn1 (by omega), hh1.lower (by omega), hl1.lower (by omega), Ld.below_row (below_cells (Nat.le_refl _) _ _ _ (HBx.out.trans (hb2.mono (by omega)))) (by omega) _⟩
end Vc
end Go.Proofs.Ytgadbghlcejkfaa
