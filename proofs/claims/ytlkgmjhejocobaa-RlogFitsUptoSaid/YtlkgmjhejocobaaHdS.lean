/- A copy of what lasts. No condition. -/
import Derived.Test.YtlkgmjhejocobaaEnM
import Derived.Test.YtlkgmjhejocobaaShS
namespace Go.Proofs.Ytlkgmjhejocobaa
open Go.ChangeShapes Go.WideShapes Go.ChangeAt Go.RowKit
set_option linter.unusedVariables false
set_option maxRecDepth 100000
theorem EntsO.map {w w' : World} {B D : Nat} {ob : Option Nat} {rows : List ERow} (h : EntsO w B ob rows) (f : ∀ v zs, OwnK .i64 3 w B v zs → OwnK .i64 3 w' D v zs) : Ents w' rows :=
  fun r hr => ⟨(f _ _ (h r hr).1).sl (h r hr).2.2.1, (h r hr).2.1⟩
namespace Hd
set_option maxHeartbeats 2000000 in
theorem mid7 {w2 : World} {g : Nat} {h : Har} {vn vh vl vg : Value} (hh : w2.heap[g]? = some (.cells (hArr h vn vh vl vg) 43 (0, 0))) (un uh ul : Value) : (w2.setCells g 3 (sArr h.shot un uh ul).toList).heap[g]? = some (.cells (hArr h un uh ul vg) 43 (0, 0)) := by
  show (((((((w2.setCell ⟨g, 3, none⟩ (.int .u64 h.shot.index)).setCell ⟨g, 4, none⟩ (.int .u64 h.shot.term)).setCell ⟨g, 5, none⟩ un).setCell ⟨g, 6, none⟩ (.int .i64 h.shot.led.limit)).setCell ⟨g, 7, none⟩ (.int .u64 h.shot.led.next)).setCell ⟨g, 8, none⟩ uh).setCell ⟨g, 9, none⟩ ul).heap[g]? = _
  rw [heap_setCell_same _ g 9 _ _ ul (heap_setCell_same _ g 8 _ _ uh (heap_setCell_same _ g 7 _ _ (.int .u64 h.shot.led.next) (heap_setCell_same _ g 6 _ _ (.int .i64 h.shot.led.limit) (heap_setCell_same _ g 5 _ _ un (heap_setCell_same _ g 4 _ _ (.int .u64 h.shot.term) (heap_setCell_same w2 g 3 _ _ (.int .u64 h.shot.index) hh))))))]
  simp only [List.setIfInBounds_toArray, List.set_cons_zero, List.set_cons_succ]
theorem there7 {w2 : World} {g : Nat} {h : Har} {vn vh vl vg : Value} (hh : w2.heap[g]? = some (.cells (hArr h vn vh vl vg) 43 (0, 0))) : w2.there g 3 7 := by
  intro j hj
  refine ⟨?_, frozen_of_row w2 g (3 + j) _ _ hh⟩
  rw [cell_of_row w2 g (3 + j) _ _ _ hh, Array.getElem?_eq_getElem (by simp; omega)]
  rfl
theorem store10 {w1 : World} {g : Nat} {h : Har} {vn vh vl vg : Value} (hh : w1.heap[g]? = some (.cells (hArr h vn vh vl vg) 43 (0, 0))) (u : Value) : (w1.setCell ⟨g, 10, none⟩ u).heap[g]? = some (.cells (hArr h vn vh vl u) 43 (0, 0)) := by
  rw [heap_setCell_same w1 g 10 _ _ u hh]; rfl
theorem hArr_one (h : Har) (a b c d : Option Addr) (i j k m p q r s : Nat) : (hArr h (.slice a i j) (.slice b k m) (.slice c p q) (.slice d r s)).all (·.oneCell') = true := by simp [Value.oneCell']
theorem lt_of_row {w : World} {g : Nat} {o : Obj} (h : w.heap[g]? = some o) : g < w.heap.size := (Array.getElem?_eq_some_iff.1 h).1
def GivesHard (h : Har) (w : World) (e : Ending) (w' : World) : Prop := ∃ v, e = .returned v ∧ IsHard w' v h ∧ Below w.heap.size w w'
set_option maxHeartbeats 4000000 in
theorem copy_any (h : Har) (v : Value) (w : World) (hh : IsHard w v h) (hf : IsHard.fits h) :
    Calls Try.prog 22 #[v] w (GivesHard h w) := by
  obtain ⟨vn, vh, vl, vg, rfl, hn, hhe, hl, hg, hwf⟩ := id hh
  have hb0 : ∀ A B, Below w.heap.size w ((w.alloc (.cells A 43)).alloc (.cells B 43)) := fun A B => ((Below.refl _ _).alloc (Nat.le_refl _) _).alloc (by simp) _
  have H0 := Lib.hid hb0
  have HSH := Lib.hid (fun A B => (⟨vn, vh, vl, rfl, hn.below (hb0 A B) (Nat.le_refl _), hhe.below (hb0 A B) (Nat.le_refl _), hl.below (hb0 A B) (Nat.le_refl _), hwf.2.2.2⟩ : IsShot _ (.agg (sArr h.shot vn vh vl)) h.shot))
  have HLG := Lib.hid hg
  have HNW := Lib.hid hn.wf
  have HW := Lib.hid hwf
  have HF := Lib.hid hf
  clear hh hn hhe hl hg hwf hf hb0
  go_enter Try.func22, Try.ntmps22
  go_wp2_with fail
  refine (Sh.copy_own h.shot _ _ (HSH.out _ _) HF.out.1).mono ?_
  rintro e w1 ⟨un, uh, ul, rfl, o1, o2, o3, hb1⟩
  obtain ⟨a1, k1, rfl, -⟩ := o1.sl HNW.out
  obtain ⟨a2, k2, rfl, -⟩ := o2.sl heldC_len
  obtain ⟨a3, k3, rfl, -⟩ := o3.sl lastC_len
  have hA1 := (hb1.block w.heap.size (by simp; omega)).trans (heap_alloc2_old w _ _)
  have hB1 := (hb1.block (w.heap.size + 1) (by simp)).trans (heap_alloc2_new w _ _)
  have hth := there7 hA1
  have hA2 := mid7 hA1 (.slice a1 h.shot.nodes.length k1) (.slice a2 h.shot.led.held.length k2) (.slice a3 h.shot.led.last.length k3)
  have hB2 := (cells_other (g := w.heap.size) (k := w.heap.size + 1) (by omega) (sArr h.shot (.slice a1 h.shot.nodes.length k1) (.slice a2 h.shot.led.held.length k2) (.slice a3 h.shot.led.last.length k3)).toList 3 w1).trans hB1
  have hbW : Below w.heap.size w (w1.setCells w.heap.size 3 (sArr h.shot (.slice a1 h.shot.nodes.length k1) (.slice a2 h.shot.led.held.length k2) (.slice a3 h.shot.led.last.length k3)).toList) := below_cells (Nat.le_refl _) _ _ _ ((H0.out _ _).trans (hb1.mono (by simp; omega)))
  have HLG2 := Lib.hid (HLG.out.below hbW (Nat.le_refl _))
  have HBW := Lib.hid hbW
  have O1 : Hid (OwnI _ (w.heap.size + 2) _ h.shot.nodes) := Lib.hid (owns_cells (g := w.heap.size) (by omega) (sArr h.shot (.slice a1 h.shot.nodes.length k1) (.slice a2 h.shot.led.held.length k2) (.slice a3 h.shot.led.last.length k3)).toList 3 _ (OwnK.lower o1 (by simp)))
  have O2 : Hid (OwnR 5 heldC 74 _ (w.heap.size + 2) _ h.shot.led.held) := Lib.hid (owns_cells (g := w.heap.size) (by omega) (sArr h.shot (.slice a1 h.shot.nodes.length k1) (.slice a2 h.shot.led.held.length k2) (.slice a3 h.shot.led.last.length k3)).toList 3 _ (o2.lower (by simp)))
  have O3 : Hid (OwnR 6 lastC 78 _ (w.heap.size + 2) _ h.shot.led.last) := Lib.hid (owns_cells (g := w.heap.size) (by omega) (sArr h.shot (.slice a1 h.shot.nodes.length k1) (.slice a2 h.shot.led.held.length k2) (.slice a3 h.shot.led.last.length k3)).toList 3 _ (o3.lower (by simp)))
  have HA2 := Lib.hid hA2
  have HB2 := Lib.hid hB2
  have hb10 := (cells11 hA2).2.2.2.2.2.2.2.2.2.2
  clear hb1 hA1 hB1 o1 o2 o3 hbW hA2 hB2
  generalize hW2 : w1.setCells w.heap.size 3 (sArr h.shot (.slice a1 h.shot.nodes.length k1) (.slice a2 h.shot.led.held.length k2) (.slice a3 h.shot.led.last.length k3)).toList = W2 at HLG2 HBW O1 O2 O3 HA2 HB2 hb10
  go_wp2_with (first
    | (refine wpList_store_mid rfl 29 (.tmp 6) (.tmp 5) rfl w.heap.size 3 (sArr h.shot (.slice a1 h.shot.nodes.length k1) (.slice a2 h.shot.led.held.length k2) (.slice a3 h.shot.led.last.length k3)) rfl rfl hth (by kernel_rfl) (Sh.sArr_one _ _ _ _ _ _ _ _ _ _) ?_; rw [hW2]; clear hW2 hth)
    | fail)
  refine (ents_own h.log _ _ HLG2.out HF.out.2.1 HF.out.2.2).mono ?_
  rintro e w3 ⟨ug, rows, rfl, o4, o5, hmap, hb3⟩
  obtain ⟨a4, k4, rfl, -⟩ := o4.sl entC_len
  have hrl : rows.length = h.log.length := by rw [← hmap, List.length_map]
  rw [hrl] at o4
  rw [hrl]
  have HO5 := Lib.hid o5
  have HO4 := Lib.hid o4
  have HMAP := Lib.hid hmap
  have hA3 := (hb3.block w.heap.size (lt_of_row HA2.out)).trans HA2.out
  have hB3 := (hb3.block (w.heap.size + 1) (lt_of_row HB2.out)).trans HB2.out
  have hcell := (cells11 hA3).2.2.2.2.2.2.2.2.2.2
  have hfz := frozen_of_row w3 w.heap.size 10 _ _ hA3
  have hA4 := store10 hA3 (.slice a4 h.log.length k4)
  have hB4 := (heap_setCell_other w3 ⟨w.heap.size, 10, none⟩ (w.heap.size + 1) (.slice a4 h.log.length k4) (by simp)).trans hB3
  have HB3 := Lib.hid hb3
  clear hb10 hA3 hB3 o4 o5 hmap hb3
  go_wp2_with (first
    | (refine wpList_load_row rfl 43 (.tmp 1) rfl w.heap.size rfl 43 (hArr h (.slice a1 h.shot.nodes.length k1) (.slice a2 h.shot.led.held.length k2) (.slice a3 h.shot.led.last.length k3) (.slice a4 h.log.length k4)) (0, 0) _ hA4 Try.underlying43 rfl (by kernel_rfl) ?_)
    | (refine wpList_store_row rfl 43 (.tmp 2) (.tmp 11) rfl (w.heap.size + 1) (hArr h (.slice a1 h.shot.nodes.length k1) (.slice a2 h.shot.led.held.length k2) (.slice a3 h.shot.led.last.length k3) (.slice a4 h.log.length k4)) rfl rfl 43 _ hB4 (by kernel_rfl) rfl (hArr_one _ _ _ _ _ _ _ _ _ _ _ _ _) ?_))
  refine bodyPost_ret (v := .agg (hArr h (.slice a1 h.shot.nodes.length k1) (.slice a2 h.shot.led.held.length k2) (.slice a3 h.shot.led.last.length k3) (.slice a4 h.log.length k4))) (results_cell_row rfl _ _ (w.heap.size + 1) 43 _ (0, 0) _ rfl (setRow_heap _ _ _ _ _ _ hB4) Try.underlying43 rfl (by kernel_rfl)) rfl ?_
  have hz2 := lt_of_row HB2.out
  have hf : ∀ v zs, OwnK .i64 3 w3 W2.heap.size v zs → OwnK .i64 3 _ W2.heap.size v zs := fun v zs q =>
    owns_row (g := w.heap.size + 1) (cs := hArr h (.slice a1 h.shot.nodes.length k1) (.slice a2 h.shot.led.held.length k2) (.slice a3 h.shot.led.last.length k3) (.slice a4 h.log.length k4)) (owns_cell (g := w.heap.size) (j := 10) (u := .slice a4 h.log.length k4) q (by omega)) (by omega)
  have q1 : OwnI _ (w.heap.size + 2) _ h.shot.nodes := owns_row (g := w.heap.size + 1) (cs := hArr h (.slice a1 h.shot.nodes.length k1) (.slice a2 h.shot.led.held.length k2) (.slice a3 h.shot.led.last.length k3) (.slice a4 h.log.length k4)) (owns_cell (g := w.heap.size) (j := 10) (u := .slice a4 h.log.length k4) (O1.out.below HB3.out (Nat.le_refl _)) (by omega)) (by omega)
  have q2 : OwnR 5 heldC 74 _ (w.heap.size + 2) _ h.shot.led.held := owns_row (g := w.heap.size + 1) (cs := hArr h (.slice a1 h.shot.nodes.length k1) (.slice a2 h.shot.led.held.length k2) (.slice a3 h.shot.led.last.length k3) (.slice a4 h.log.length k4)) (owns_cell (g := w.heap.size) (j := 10) (u := .slice a4 h.log.length k4) (O2.out.below HB3.out (Nat.le_refl _)) (by omega)) (by omega)
  have q3 : OwnR 6 lastC 78 _ (w.heap.size + 2) _ h.shot.led.last := owns_row (g := w.heap.size + 1) (cs := hArr h (.slice a1 h.shot.nodes.length k1) (.slice a2 h.shot.led.held.length k2) (.slice a3 h.shot.led.last.length k3) (.slice a4 h.log.length k4)) (owns_cell (g := w.heap.size) (j := 10) (u := .slice a4 h.log.length k4) (O3.out.below HB3.out (Nat.le_refl _)) (by omega)) (by omega)
  have q4 : OwnR 9 entC 47 _ _ (.slice a4 h.log.length k4) rows := owns_row (g := w.heap.size + 1) (cs := hArr h (.slice a1 h.shot.nodes.length k1) (.slice a2 h.shot.led.held.length k2) (.slice a3 h.shot.led.last.length k3) (.slice a4 h.log.length k4)) (owns_cell (g := w.heap.size) (j := 10) (u := .slice a4 h.log.length k4) HO4.out (by omega)) (by omega)
  exact ⟨_, rfl, ⟨_, _, _, _, rfl, q1.sl HNW.out, q2.sl heldC_len, q3.sl lastC_len, ⟨rows, q4.sl entC_len, HO5.out.map hf, HMAP.out⟩, HW.out⟩, Ld.below_row ((HBW.out.trans (HB3.out.mono (by have := HBW.out.size; omega))).setCell (Nat.le_refl _) _) (by omega) _⟩
end Hd
end Go.Proofs.Ytlkgmjhejocobaa
