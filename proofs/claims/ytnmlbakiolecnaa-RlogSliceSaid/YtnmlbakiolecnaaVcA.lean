/- Package values: CopyCmd, CopyEntry. No condition. -/
import Derived.Test.YtnmlbakiolecnaaHdC
import Derived.Test.YtnmlbakiolecnaaHdS
import Derived.Test.YtnmlbakiolecnaaClo
namespace Go.Proofs.Ytnmlbakiolecnaa
open Go.ChangeShapes Go.WideShapes Go.ChangeAt Go.RowKit
set_option linter.unusedVariables false
set_option maxRecDepth 100000
namespace Vc
open Cm
set_option maxHeartbeats 1000000 in
theorem cmd_own (c : Cmd) (v : Value) (w : World) (h : IsCmd w v c) (hb8 : c.nodes.length * 8 ≤ 140737488351232) :
    Calls Try.prog 83 #[v] w (GivesCmdO c w) := by
  obtain ⟨vn, rfl, hsl, hwf⟩ := h
  have hb0 : ∀ A B, Below w.heap.size w ((w.alloc (.cells A 39)).alloc (.cells B 39)) := fun A B => ((Below.refl _ _).alloc (Nat.le_refl _) _).alloc (by simp) _
  have H0 := Lib.hid hb0
  have HS := Lib.hid (fun A B => hsl.below (hb0 A B) (Nat.le_refl _))
  clear hb0 hsl hwf
  go_enter Try.func83, Try.ntmps83
  go_wp2_with fail
  refine (Cl.clone_any c.nodes _ _ (HS.out _ _) hb8).mono ?_
  rintro e w1 ⟨v1, rfl, own1, hs1, hbq⟩
  obtain ⟨a1, cap1, rfl, -⟩ := id hs1
  have hb1 : Below (w.heap.size + 2) _ w1 := hbq.mono (by simp)
  obtain ⟨hh, hh2⟩ := copy_blocks hb1
  have hcell := copy_cell hh
  have hfz := frozen_of_row w1 w.heap.size 3 _ _ hh
  have hst := copy_store hh (.slice a1 c.nodes.length cap1)
  have hst2 := (heap_setCell_other w1 ⟨w.heap.size, 3, none⟩ (w.heap.size + 1) (.slice a1 c.nodes.length cap1) (by simp)).trans hh2
  have HB1 := Lib.hid hb1
  have HOW : Hid (OwnI w1 (w.heap.size + 2) (.slice a1 c.nodes.length cap1) c.nodes) := Lib.hid (OwnK.lower own1 (by simp))
  clear own1 hs1 hbq hb1 hh hh2
  go_wp2_with (first
    | (refine wpList_load_row rfl 39 (.tmp 1) rfl w.heap.size rfl 39 (cArr c (.slice a1 c.nodes.length cap1)) (0, 0) _ hst Try.underlying39 rfl (by kernel_rfl) ?_)
    | (refine wpList_store_row rfl 39 (.tmp 2) (.tmp 7) rfl (w.heap.size + 1) (cArr c (.slice a1 c.nodes.length cap1)) rfl rfl 39 _ hst2 (by kernel_rfl) rfl (cArr_one _ _ _ _) ?_))
  refine bodyPost_ret (v := .agg (cArr c (.slice a1 c.nodes.length cap1))) (results_cell_row rfl _ _ (w.heap.size + 1) 39 _ (0, 0) _ rfl (setRow_heap _ _ _ _ _ _ hst2) Try.underlying39 rfl (by kernel_rfl)) rfl ?_
  have hBx : Below w.heap.size w w1 := (H0.out _ _).trans (HB1.out.mono (by omega))
  have hB2 : Below w.heap.size w ((w1.setCell ⟨w.heap.size, 3, none⟩ (.slice a1 c.nodes.length cap1)).setRow (w.heap.size + 1) (cArr c (.slice a1 c.nodes.length cap1))) := below_setRow (hBx.setCell (Nat.le_refl _) _) (by omega) _
  exact ⟨_, rfl, OwnK.lower (own_past HOW.out (by omega) (by omega)) (by omega), hB2⟩
theorem mid8 {w2 : World} {g : Nat} {x : Ent} {vn : Value} (h : w2.heap[g]? = some (.cells (entC (x, vn)).toArray 41 (0, 0))) (un : Value) : (w2.setCells g 1 (cArr x.cmd un).toList).heap[g]? = some (.cells (entC (x, un)).toArray 41 (0, 0)) := by
  show ((((((((w2.setCell ⟨g, 1, none⟩ (.int .i64 x.cmd.kind)).setCell ⟨g, 2, none⟩ (.int .i64 x.cmd.node)).setCell ⟨g, 3, none⟩ (.int .i64 x.cmd.token)).setCell ⟨g, 4, none⟩ un).setCell ⟨g, 5, none⟩ (.int .u64 x.cmd.boot)).setCell ⟨g, 6, none⟩ (.int .u64 x.cmd.seq)).setCell ⟨g, 7, none⟩ (.int .u64 x.cmd.serial)).setCell ⟨g, 8, none⟩ (.int .u64 x.cmd.stamp)).heap[g]? = _
  rw [heap_setCell_same _ g 8 _ _ (.int .u64 x.cmd.stamp) (heap_setCell_same _ g 7 _ _ (.int .u64 x.cmd.serial) (heap_setCell_same _ g 6 _ _ (.int .u64 x.cmd.seq) (heap_setCell_same _ g 5 _ _ (.int .u64 x.cmd.boot) (heap_setCell_same _ g 4 _ _ un (heap_setCell_same _ g 3 _ _ (.int .i64 x.cmd.token) (heap_setCell_same _ g 2 _ _ (.int .i64 x.cmd.node) (heap_setCell_same w2 g 1 _ _ (.int .i64 x.cmd.kind) h)))))))]
  simp only [List.setIfInBounds_toArray, List.set_cons_zero, List.set_cons_succ]
theorem there8 {w2 : World} {g : Nat} {x : Ent} {vn : Value} (h : w2.heap[g]? = some (.cells (entC (x, vn)).toArray 41 (0, 0))) : w2.there g 1 8 := by
  intro j hj
  refine ⟨?_, frozen_of_row w2 g (1 + j) _ _ h⟩
  rw [cell_of_row w2 g (1 + j) _ _ _ h, Array.getElem?_eq_getElem (by simp; omega)]
  rfl
theorem ent_all (x : Ent) (a : Option Addr) (i j : Nat) : ((entC (x, .slice a i j)).toArray).all (·.oneCell') = true := by simp [Value.oneCell']
/-- an entry whose list is the call's own -/
def GivesEntO (x : Ent) (w : World) (e : Ending) (w' : World) : Prop := ∃ vn, e = .returned (.agg (entC (x, vn)).toArray) ∧ OwnK .i64 3 w' w.heap.size vn x.cmd.nodes ∧ Below w.heap.size w w'
set_option maxHeartbeats 2000000 in
theorem ent_own (x : Ent) (v : Value) (w : World) (h : Hd.IsEnt w v x) (hb8 : IsCmd.fits x.cmd) :
    Calls Try.prog 54 #[v] w (GivesEntO x w) := by
  obtain ⟨vn, rfl, hsl, hwf⟩ := h
  obtain ⟨a0, c0, rfl, -⟩ := id hsl
  have hb0 : ∀ A B, Below w.heap.size w ((w.alloc (.cells A 41)).alloc (.cells B 41)) := fun A B => ((Below.refl _ _).alloc (Nat.le_refl _) _).alloc (by simp) _
  have H0 := Lib.hid hb0
  have HS := Lib.hid (fun A B => (⟨_, rfl, hsl.below (hb0 A B) (Nat.le_refl _), hwf.2⟩ : IsCmd _ (.agg (cArr x.cmd (.slice a0 x.cmd.nodes.length c0))) x.cmd))
  have HNW := Lib.hid hsl.wf
  clear hb0 hsl hwf
  go_enter Try.func54, Try.ntmps54
  go_wp2_with fail
  refine (cmd_own x.cmd _ _ (HS.out _ _) hb8).mono ?_
  rintro e w1 ⟨un, rfl, own1, hbq⟩
  obtain ⟨a1, k1, rfl, -⟩ := own1.sl HNW.out
  have hA1 := (hbq.block w.heap.size (by simp; omega)).trans (heap_alloc2_old w _ _)
  have hB1 := (hbq.block (w.heap.size + 1) (by simp)).trans (heap_alloc2_new w _ _)
  have hth := there8 hA1
  have HA2 := Lib.hid (mid8 hA1 (.slice a1 x.cmd.nodes.length k1))
  have HB2 := Lib.hid ((cells_other (g := w.heap.size) (k := w.heap.size + 1) (by omega) (cArr x.cmd (.slice a1 x.cmd.nodes.length k1)).toList 1 w1).trans hB1)
  have HBW : Hid (Below w.heap.size w _) := Lib.hid (below_cells (g := w.heap.size) (Nat.le_refl _) (cArr x.cmd (.slice a1 x.cmd.nodes.length k1)).toList 1 _ ((H0.out _ _).trans (hbq.mono (by simp; omega))))
  have O1 : Hid (OwnI _ (w.heap.size + 2) _ x.cmd.nodes) := Lib.hid (owns_cells (g := w.heap.size) (by omega) (cArr x.cmd (.slice a1 x.cmd.nodes.length k1)).toList 1 _ (OwnK.lower own1 (by simp)))
  clear hbq hA1 hB1 own1
  generalize hW2 : w1.setCells w.heap.size 1 (cArr x.cmd (.slice a1 x.cmd.nodes.length k1)).toList = W2 at HA2 HB2 HBW O1
  have hA2 := HA2.out
  have hB2 := HB2.out
  go_wp2_with (first
    | (refine wpList_store_mid rfl 39 (.tmp 6) (.tmp 5) rfl w.heap.size 1 (cArr x.cmd (.slice a1 x.cmd.nodes.length k1)) rfl rfl hth (by kernel_rfl) (cArr_one _ _ _ _) ?_; rw [hW2]; clear hW2 hth)
    | (refine wpList_load_row rfl 41 (.tmp 1) rfl w.heap.size rfl 41 (entC (x, .slice a1 x.cmd.nodes.length k1)).toArray (0, 0) _ hA2 Try.underlying41 rfl (by kernel_rfl) ?_)
    | (refine wpList_store_row rfl 41 (.tmp 2) (.tmp 7) rfl (w.heap.size + 1) (entC (x, .slice a1 x.cmd.nodes.length k1)).toArray rfl rfl 41 _ hB2 (by kernel_rfl) rfl (ent_all _ _ _ _) ?_))
  refine bodyPost_ret (v := .agg (entC (x, .slice a1 x.cmd.nodes.length k1)).toArray) (results_cell_row rfl _ _ (w.heap.size + 1) 41 _ (0, 0) _ rfl (setRow_heap _ _ _ _ _ _ HB2.out) Try.underlying41 rfl (by kernel_rfl)) rfl ?_
  have q1 : OwnI _ (w.heap.size + 2) _ x.cmd.nodes := owns_row (g := w.heap.size + 1) (cs := (entC (x, .slice a1 x.cmd.nodes.length k1)).toArray) O1.out (by omega)
  exact ⟨_, rfl, OwnK.lower q1 (by omega), Ld.below_row HBW.out (by omega) _⟩
end Vc
end Go.Proofs.Ytnmlbakiolecnaa
