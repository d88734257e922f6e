/- Package values: CopyLedger. No condition. -/
import Derived.Test.YtgadbghlcejkfaaLcM
import Derived.Test.YtgadbghlcejkfaaIns
namespace Go.Proofs.Ytgadbghlcejkfaa
open Go.ChangeShapes Go.WideShapes Go.ChangeAt Go.RowKit
set_option linter.unusedVariables false
set_option maxRecDepth 100000
namespace Vc
open Ld
set_option maxHeartbeats 1000000 in
theorem led_own (l : Led) (v : Value) (w : World) (h : IsLed w v l) (hf : IsLed.fits l) :
    Calls Try.prog 67 #[v] w (GivesOwn l w) := by
  obtain ⟨vh, vl, rfl, hh, hl, hwf⟩ := h
  have HW := Lib.hid hwf
  have hb0 : ∀ A B, Below w.heap.size w ((w.alloc (.cells A 27)).alloc (.cells B 27)) := fun A B => ((Below.refl _ _).alloc (Nat.le_refl _) _).alloc (by simp) _
  have H0 := Lib.hid hb0
  have HS := Lib.hid (fun A B => hh.below (hb0 A B) (Nat.le_refl _))
  have hml := hh.len
  have hmm := hl.len
  obtain ⟨hf1, hf2⟩ := hf
  have HN := Lib.hid hf1
  have HN2 := Lib.hid hf2
  have HLw := Lib.hid hl
  have HM := Lib.hid hml
  have HM2 := Lib.hid hmm
  clear hb0 hh hl hwf hml hmm hf1 hf2
  go_enter Try.func67, Try.ntmps67
  go_wp2_with fail
  refine (Ih.clone_any l.held _ _ (HS.out _ _) (by have := HN.out; omega)).mono ?_
  rintro e w1 ⟨v1, rfl, hownq, hbq⟩
  have hb1 : Below (w.heap.size + 2) _ w1 := hbq.mono (by simp)
  have hown1 := OwnR.lower (D := w.heap.size + 2) hownq (by simp)
  clear hownq hbq
  have hs1 := hown1.sl heldC_len
  obtain ⟨a1, cap1, hv1, -⟩ := id hs1
  subst hv1
  have hA := (hb1.block w.heap.size (by omega)).trans (heap_alloc2_old w _ _)
  have hB := (hb1.block (w.heap.size + 1) (by omega)).trans (heap_alloc2_new w _ _)
  have hz1 : w.heap.size + 2 ≤ w1.heap.size := (by have := hb1.size; simpa using this)
  have hcell := row2 hA
  have hfz := frozen_of_row w1 w.heap.size 2 _ _ hA
  have hA1 := store2 hA (.slice a1 l.held.length cap1)
  have hc3 := row3 hA1
  have hB1 := (heap_setCell_other w1 ⟨w.heap.size, 2, none⟩ (w.heap.size + 1) (.slice a1 l.held.length cap1) (by simp)).trans hB
  have HBx := Lib.hid (((H0.out _ _).trans (hb1.mono (by omega))).setCell (p := ⟨w.heap.size, 2, none⟩) (Nat.le_refl _) (.slice a1 l.held.length cap1))
  have HL1 := Lib.hid (HLw.out.below HBx.out (Nat.le_refl _))
  have HOW := Lib.hid hown1
  have HZ := Lib.hid hz1
  clear hb1 hown1 hs1
  go_wp2_with fail
  refine (Il.clone_any l.last _ _ HL1.out (by have := HN2.out; omega)).mono ?_
  rintro e w2 ⟨v2, rfl, hownq2, hbq2⟩
  have hb2 : Below w1.heap.size _ w2 := hbq2.mono (by simp)
  have hown2 := OwnR.lower (D := w1.heap.size) hownq2 (by simp)
  clear hownq2 hbq2
  have hs2 := hown2.sl lastC_len
  obtain ⟨a2, cap2, hv2, -⟩ := id hs2
  subst hv2
  have hA2 := (hb2.block w.heap.size (by have := HZ.out; omega)).trans hA1
  have hB2 := (hb2.block (w.heap.size + 1) (by have := HZ.out; omega)).trans hB1
  have hcell2 := row3 hA2
  have hfz2 := frozen_of_row w2 w.heap.size 3 _ _ hA2
  have hA3 := store3 hA2 (.slice a2 l.last.length cap2)
  have hB3 := (heap_setCell_other w2 ⟨w.heap.size, 3, none⟩ (w.heap.size + 1) (.slice a2 l.last.length cap2) (by simp)).trans hB2
  clear hA hB hcell hfz hA1 hc3 hB1
  go_wp2_with (first
    | (refine wpList_load_row rfl 27 (.tmp 1) rfl w.heap.size rfl 27 (lArr l (.slice a1 l.held.length cap1) (.slice a2 l.last.length cap2)) (0, 0) _ hA3 Try.underlying27 rfl (by kernel_rfl) ?_)
    | (refine wpList_store_row rfl 27 (.tmp 2) (.tmp 11) rfl (w.heap.size + 1) (lArr l (.slice a1 l.held.length cap1) (.slice a2 l.last.length cap2)) rfl rfl 27 _ hB3 (by kernel_rfl) rfl (lArr_one _ _ _ _ _ _ _) ?_))
  refine bodyPost_ret (v := .agg (lArr l (.slice a1 l.held.length cap1) (.slice a2 l.last.length cap2))) (results_cell_row rfl _ _ (w.heap.size + 1) 27 _ (0, 0) _ rfl (setRow_heap _ _ _ _ _ _ hB3) Try.underlying27 rfl (by kernel_rfl)) rfl ?_
  have hz1 := HZ.out
  have hsz : (w1.setCell ⟨w.heap.size, 2, none⟩ (.slice a1 l.held.length cap1)).heap.size = w1.heap.size := by simp
  have hq1 : OwnR 5 heldC 67 w2 (w.heap.size + 2) (.slice a1 l.held.length cap1) l.held := (HOW.out.cell (g := w.heap.size) (by omega)).below hb2 (Nat.le_of_eq hsz)
  refine ⟨_, _, rfl, ((hq1.cell (by omega)).row (by omega)).lower (by omega), ((hown2.cell (by omega)).row (by omega)).lower (by omega), HW.out, ?_⟩
  exact below_row (((HBx.out).trans (hb2.mono (by omega))).setCell (Nat.le_refl _) _) (by omega) _
end Vc
end Go.Proofs.Ytgadbghlcejkfaa
