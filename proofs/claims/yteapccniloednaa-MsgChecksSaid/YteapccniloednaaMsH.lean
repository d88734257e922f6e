/- A copy of a message; the document's Same of a message and itself. No condition. -/
import Derived.Test.YteapccniloednaaMsD
import Derived.Test.YteapccniloednaaEnM
import Derived.Test.YteapccniloednaaShS
import Derived.Test.YteapccniloednaaSmE
import Derived.WalkSpells
import Derived.OwnWalk
namespace Go.Proofs.Yteapccniloednaa
open Go.ChangeShapes Go.WideShapes Go.ChangeAt Go.RowKit Go.Deep
set_option linter.unusedVariables false
set_option maxRecDepth 100000
namespace Ms
open Nv
theorem entsO_map {w w' : World} {B D : Nat} {ob : Option Nat} {rows : List ERow} (h : EntsO w B ob rows) (f : ∀ v zs, OwnK .i64 3 w B v zs → OwnK .i64 3 w' D v zs) : Ents w' rows :=
  fun r hr => ⟨(f _ _ (h r hr).1).sl (h r hr).2.2.1, (h r hr).2.1⟩
theorem mid16 {w2 : World} {g : Nat} {m : Mes} {ve vn vh vl : Value} (hh : w2.heap[g]? = some (.cells (mArr m ve vn vh vl) 32 (0, 0))) (un uh ul : Value) : (w2.setCells g 9 (sArr m.shot un uh ul).toList).heap[g]? = some (.cells (mArr m ve un uh ul) 32 (0, 0)) := by
  show (((((((w2.setCell ⟨g, 9, none⟩ (.int .u64 m.shot.index)).setCell ⟨g, 10, none⟩ (.int .u64 m.shot.term)).setCell ⟨g, 11, none⟩ un).setCell ⟨g, 12, none⟩ (.int .i64 m.shot.led.limit)).setCell ⟨g, 13, none⟩ (.int .u64 m.shot.led.next)).setCell ⟨g, 14, none⟩ uh).setCell ⟨g, 15, none⟩ ul).heap[g]? = _
  rw [heap_setCell_same _ g 15 _ _ ul (heap_setCell_same _ g 14 _ _ uh (heap_setCell_same _ g 13 _ _ (.int .u64 m.shot.led.next) (heap_setCell_same _ g 12 _ _ (.int .i64 m.shot.led.limit) (heap_setCell_same _ g 11 _ _ un (heap_setCell_same _ g 10 _ _ (.int .u64 m.shot.term) (heap_setCell_same w2 g 9 _ _ (.int .u64 m.shot.index) hh))))))]
  simp only [List.setIfInBounds_toArray, List.set_cons_zero, List.set_cons_succ]
theorem there16 {w2 : World} {g : Nat} {m : Mes} {ve vn vh vl : Value} (hh : w2.heap[g]? = some (.cells (mArr m ve vn vh vl) 32 (0, 0))) : w2.there g 9 7 := by
  intro j hj
  refine ⟨?_, frozen_of_row w2 g (9 + j) _ _ hh⟩
  rw [cell_of_row w2 g (9 + j) _ _ _ hh, Array.getElem?_eq_getElem (by simp; omega)]
  rfl
theorem store8 {w1 : World} {g : Nat} {m : Mes} {ve vn vh vl : Value} (hh : w1.heap[g]? = some (.cells (mArr m ve vn vh vl) 32 (0, 0))) (u : Value) : (w1.setCell ⟨g, 8, none⟩ u).heap[g]? = some (.cells (mArr m u vn vh vl) 32 (0, 0)) := by
  rw [heap_setCell_same w1 g 8 _ _ u hh]; rfl
theorem mArr_one (m : Mes) (a b c d : Option Addr) (i j k n p q r s : Nat) : (mArr m (.slice a i j) (.slice b k n) (.slice c p q) (.slice d r s)).all (·.oneCell') = true := by simp [Value.oneCell']
def GivesMsg (m : Mes) (w : World) (e : Ending) (w' : World) : Prop := ∃ v, e = .returned v ∧ IsMsg w' v m ∧ Below w.heap.size w w'
set_option maxHeartbeats 8000000 in
theorem copy_any (m : Mes) (v : Value) (w : World) (h : IsMsg w v m) (hf : IsMsg.fits m) : Calls Try.prog 4 #[v] w (GivesMsg m w) := by
  obtain ⟨ve, vn, vh, vl, rfl, hg, hn, hhe, hl, hwf⟩ := id h
  have hb0 : ∀ A B, Below w.heap.size w ((w.alloc (.cells A 32)).alloc (.cells B 32)) := fun A B => ((Below.refl _ _).alloc (Nat.le_refl _) _).alloc (by simp) _
  have H0 := Lib.hid hb0
  have HLG := Lib.hid (fun A B => hg.below (hb0 A B) (Nat.le_refl _))
  have HSH : Hid (IsShot w (.agg (sArr m.shot vn vh vl)) m.shot) := Lib.hid (IsMsg_shot h)
  have HNW := Lib.hid hn.wf
  have HW := Lib.hid hwf
  have HF := Lib.hid hf
  clear h hg hn hhe hl hwf hf hb0
  go_enter Try.func4, Try.ntmps4
  go_wp2_with fail
  refine (Hd.ents_own m.ents _ _ (HLG.out _ _) HF.out.2.1 HF.out.2.2).mono ?_
  rintro e w1 ⟨ug, rows, rfl, o4, o5, hmap, hb1⟩
  obtain ⟨a4, k4, rfl, -⟩ := o4.sl entC_len
  have hrl : rows.length = m.ents.length := by rw [← hmap, List.length_map]
  rw [hrl] at o4
  rw [hrl]
  have hA1 := (hb1.block w.heap.size (by simp; omega)).trans (heap_alloc2_old w _ _)
  have hB1 := (hb1.block (w.heap.size + 1) (by simp)).trans (heap_alloc2_new w _ _)
  have hcell := (cells16 hA1).2.2.2.2.2.2.2.2.1
  have hfz := frozen_of_row w1 w.heap.size 8 _ _ hA1
  have hA2 := store8 hA1 (.slice a4 m.ents.length k4)
  have hB2 := (heap_setCell_other w1 ⟨w.heap.size, 8, none⟩ (w.heap.size + 1) (.slice a4 m.ents.length k4) (by simp)).trans hB1
  have hbW : Below w.heap.size w (w1.setCell ⟨w.heap.size, 8, none⟩ (.slice a4 m.ents.length k4)) := ((H0.out _ _).trans (hb1.mono (by simp; omega))).setCell (Nat.le_refl _) _
  have HSH2 := Lib.hid (HSH.out.below hbW (Nat.le_refl _))
  have HBW := Lib.hid hbW
  have O4 : Hid (OwnR 9 entC 54 (w1.setCell ⟨w.heap.size, 8, none⟩ (.slice a4 m.ents.length k4)) (w.heap.size + 2) (.slice a4 m.ents.length k4) rows) := Lib.hid (owns_cell (g := w.heap.size) (j := 8) (u := .slice a4 m.ents.length k4) (o4.lower (by simp)) (by omega))
  have HEM : Hid (∀ v zs, OwnK .i64 3 w1 ((w.alloc (.cells (mArr m ve vn vh vl) 32)).alloc (.cells #[.int .i64 0, .int .i64 0, .int .i64 0, .int .u64 0, .int .u64 0, .int .u64 0, .int .u64 0, .bool false, .slice none 0 0, .int .u64 0, .int .u64 0, .slice none 0 0, .int .i64 0, .int .u64 0, .slice none 0 0, .slice none 0 0] 32)).heap.size v zs → OwnK .i64 3 (w1.setCell ⟨w.heap.size, 8, none⟩ (.slice a4 m.ents.length k4)) (w.heap.size + 2) v zs) := Lib.hid (fun v zs q => owns_cell (g := w.heap.size) (j := 8) (u := .slice a4 m.ents.length k4) (OwnK.lower q (by simp)) (by omega))
  have HO5 := Lib.hid o5
  have HMAP := Lib.hid hmap
  have ra := shot_range hA2
  have HA2 := Lib.hid hA2
  have HB2 := Lib.hid hB2
  clear hb1 hA1 hB1 o4 o5 hmap hbW hA2 hB2
  generalize hW2 : w1.setCell ⟨w.heap.size, 8, none⟩ (.slice a4 m.ents.length k4) = W2 at HSH2 HBW O4 HEM ra HA2 HB2
  go_wp2_with (first
    | (rw [hW2]; clear hW2; refine wpList_load_mid rfl 30 (.tmp 7) rfl w.heap.size 9 rfl (sArr m.shot vn vh vl).toList _ ra Try.underlying30 rfl (by kernel_rfl) ?_)
    | (clear hW2; refine wpList_load_mid rfl 30 (.tmp 7) rfl w.heap.size 9 rfl (sArr m.shot vn vh vl).toList _ ra Try.underlying30 rfl (by kernel_rfl) ?_))
  refine (Sh.copy_own m.shot _ _ HSH2.out HF.out.1).mono ?_
  rintro e w3 ⟨un, uh, ul, rfl, o1, o2, o3, hb3⟩
  obtain ⟨a1, k1, rfl, -⟩ := o1.sl HNW.out
  obtain ⟨a2, k2, rfl, -⟩ := o2.sl heldC_len
  obtain ⟨a3, k3, rfl, -⟩ := o3.sl lastC_len
  have hz2 := Rc.lt_of_row8 HB2.out
  have hA3 := (hb3.block w.heap.size (Rc.lt_of_row8 HA2.out)).trans HA2.out
  have hB3 := (hb3.block (w.heap.size + 1) hz2).trans HB2.out
  have hth := there16 hA3
  have hA4 := mid16 hA3 (.slice a1 m.shot.nodes.length k1) (.slice a2 m.shot.led.held.length k2) (.slice a3 m.shot.led.last.length k3)
  have hB4 := (cells_other (g := w.heap.size) (k := w.heap.size + 1) (by omega) (sArr m.shot (.slice a1 m.shot.nodes.length k1) (.slice a2 m.shot.led.held.length k2) (.slice a3 m.shot.led.last.length k3)).toList 9 w3).trans hB3
  have O1 : Hid (OwnI (w3.setCells w.heap.size 9 (sArr m.shot (.slice a1 m.shot.nodes.length k1) (.slice a2 m.shot.led.held.length k2) (.slice a3 m.shot.led.last.length k3)).toList) (w.heap.size + 2) (.slice a1 m.shot.nodes.length k1) m.shot.nodes) := Lib.hid (owns_cells (g := w.heap.size) (by omega) (sArr m.shot (.slice a1 m.shot.nodes.length k1) (.slice a2 m.shot.led.held.length k2) (.slice a3 m.shot.led.last.length k3)).toList 9 _ (OwnK.lower o1 (by omega)))
  have O2 : Hid (OwnR 5 heldC 64 (w3.setCells w.heap.size 9 (sArr m.shot (.slice a1 m.shot.nodes.length k1) (.slice a2 m.shot.led.held.length k2) (.slice a3 m.shot.led.last.length k3)).toList) (w.heap.size + 2) (.slice a2 m.shot.led.held.length k2) m.shot.led.held) := Lib.hid (owns_cells (g := w.heap.size) (by omega) (sArr m.shot (.slice a1 m.shot.nodes.length k1) (.slice a2 m.shot.led.held.length k2) (.slice a3 m.shot.led.last.length k3)).toList 9 _ (o2.lower (by omega)))
  have O3 : Hid (OwnR 6 lastC 76 (w3.setCells w.heap.size 9 (sArr m.shot (.slice a1 m.shot.nodes.length k1) (.slice a2 m.shot.led.held.length k2) (.slice a3 m.shot.led.last.length k3)).toList) (w.heap.size + 2) (.slice a3 m.shot.led.last.length k3) m.shot.led.last) := Lib.hid (owns_cells (g := w.heap.size) (by omega) (sArr m.shot (.slice a1 m.shot.nodes.length k1) (.slice a2 m.shot.led.held.length k2) (.slice a3 m.shot.led.last.length k3)).toList 9 _ (o3.lower (by omega)))
  have O5 : Hid (OwnR 9 entC 54 (w3.setCells w.heap.size 9 (sArr m.shot (.slice a1 m.shot.nodes.length k1) (.slice a2 m.shot.led.held.length k2) (.slice a3 m.shot.led.last.length k3)).toList) (w.heap.size + 2) (.slice a4 m.ents.length k4) rows) := Lib.hid (owns_cells (g := w.heap.size) (by omega) (sArr m.shot (.slice a1 m.shot.nodes.length k1) (.slice a2 m.shot.led.held.length k2) (.slice a3 m.shot.led.last.length k3)).toList 9 _ (O4.out.below hb3 (Nat.le_refl _)))
  have HE2 : Hid (∀ v zs, OwnK .i64 3 w1 ((w.alloc (.cells (mArr m ve vn vh vl) 32)).alloc (.cells #[.int .i64 0, .int .i64 0, .int .i64 0, .int .u64 0, .int .u64 0, .int .u64 0, .int .u64 0, .bool false, .slice none 0 0, .int .u64 0, .int .u64 0, .slice none 0 0, .int .i64 0, .int .u64 0, .slice none 0 0, .slice none 0 0] 32)).heap.size v zs → OwnK .i64 3 (w3.setCells w.heap.size 9 (sArr m.shot (.slice a1 m.shot.nodes.length k1) (.slice a2 m.shot.led.held.length k2) (.slice a3 m.shot.led.last.length k3)).toList) (w.heap.size + 2) v zs) := Lib.hid (fun v zs q => owns_cells (g := w.heap.size) (by omega) (sArr m.shot (.slice a1 m.shot.nodes.length k1) (.slice a2 m.shot.led.held.length k2) (.slice a3 m.shot.led.last.length k3)).toList 9 _ ((HEM.out v zs q).below hb3 (Nat.le_refl _)))
  have HB5 := Lib.hid (below_cells (Nat.le_refl w.heap.size) (sArr m.shot (.slice a1 m.shot.nodes.length k1) (.slice a2 m.shot.led.held.length k2) (.slice a3 m.shot.led.last.length k3)).toList 9 w3 (HBW.out.trans (hb3.mono HBW.out.size)))
  clear hb3 hA3 hB3 o1 o2 o3 ra
  generalize hW5 : w3.setCells w.heap.size 9 (sArr m.shot (.slice a1 m.shot.nodes.length k1) (.slice a2 m.shot.led.held.length k2) (.slice a3 m.shot.led.last.length k3)).toList = W5 at O1 O2 O3 O5 HE2 HB5 hA4 hB4
  go_wp2_with (first
    | (refine wpList_store_mid rfl 30 (.tmp 10) (.tmp 9) rfl w.heap.size 9 (sArr m.shot (.slice a1 m.shot.nodes.length k1) (.slice a2 m.shot.led.held.length k2) (.slice a3 m.shot.led.last.length k3)) rfl rfl hth (by kernel_rfl) (Sh.sArr_one _ _ _ _ _ _ _ _ _ _) ?_; rw [hW5]; clear hW5 hth)
    | (refine wpList_load_row rfl 32 (.tmp 1) rfl w.heap.size rfl 32 (mArr m (.slice a4 m.ents.length k4) (.slice a1 m.shot.nodes.length k1) (.slice a2 m.shot.led.held.length k2) (.slice a3 m.shot.led.last.length k3)) (0, 0) _ hA4 Try.underlying32 rfl (by kernel_rfl) ?_)
    | (refine wpList_store_row rfl 32 (.tmp 2) (.tmp 11) rfl (w.heap.size + 1) (mArr m (.slice a4 m.ents.length k4) (.slice a1 m.shot.nodes.length k1) (.slice a2 m.shot.led.held.length k2) (.slice a3 m.shot.led.last.length k3)) rfl rfl 32 _ hB4 (by kernel_rfl) rfl (mArr_one _ _ _ _ _ _ _ _ _ _ _ _ _) ?_))
  refine bodyPost_ret (v := .agg (mArr m (.slice a4 m.ents.length k4) (.slice a1 m.shot.nodes.length k1) (.slice a2 m.shot.led.held.length k2) (.slice a3 m.shot.led.last.length k3))) (results_cell_row rfl _ _ (w.heap.size + 1) 32 _ (0, 0) _ rfl (setRow_heap _ _ _ _ _ _ hB4) Try.underlying32 rfl (by kernel_rfl)) rfl ?_
  have hf : ∀ v zs, OwnK .i64 3 w1 ((w.alloc (.cells (mArr m ve vn vh vl) 32)).alloc (.cells #[.int .i64 0, .int .i64 0, .int .i64 0, .int .u64 0, .int .u64 0, .int .u64 0, .int .u64 0, .bool false, .slice none 0 0, .int .u64 0, .int .u64 0, .slice none 0 0, .int .i64 0, .int .u64 0, .slice none 0 0, .slice none 0 0] 32)).heap.size v zs → OwnK .i64 3 _ (w.heap.size + 2) v zs := fun v zs q =>
    owns_row (g := w.heap.size + 1) (cs := (mArr m (.slice a4 m.ents.length k4) (.slice a1 m.shot.nodes.length k1) (.slice a2 m.shot.led.held.length k2) (.slice a3 m.shot.led.last.length k3))) (HE2.out v zs q) (by omega)
  have q1 : OwnI _ (w.heap.size + 2) _ m.shot.nodes := owns_row (g := w.heap.size + 1) (cs := (mArr m (.slice a4 m.ents.length k4) (.slice a1 m.shot.nodes.length k1) (.slice a2 m.shot.led.held.length k2) (.slice a3 m.shot.led.last.length k3))) O1.out (by omega)
  have q2 : OwnR 5 heldC 64 _ (w.heap.size + 2) _ m.shot.led.held := owns_row (g := w.heap.size + 1) (cs := (mArr m (.slice a4 m.ents.length k4) (.slice a1 m.shot.nodes.length k1) (.slice a2 m.shot.led.held.length k2) (.slice a3 m.shot.led.last.length k3))) O2.out (by omega)
  have q3 : OwnR 6 lastC 76 _ (w.heap.size + 2) _ m.shot.led.last := owns_row (g := w.heap.size + 1) (cs := (mArr m (.slice a4 m.ents.length k4) (.slice a1 m.shot.nodes.length k1) (.slice a2 m.shot.led.held.length k2) (.slice a3 m.shot.led.last.length k3))) O3.out (by omega)
  have q4 : OwnR 9 entC 54 _ _ (.slice a4 m.ents.length k4) rows := owns_row (g := w.heap.size + 1) (cs := (mArr m (.slice a4 m.ents.length k4) (.slice a1 m.shot.nodes.length k1) (.slice a2 m.shot.led.held.length k2) (.slice a3 m.shot.led.last.length k3))) O5.out (by omega)
  exact ⟨_, rfl, ⟨_, _, _, _, rfl, ⟨rows, by have q := q4.sl entC_len; exact q, entsO_map HO5.out hf, HMAP.out⟩, q1.sl HNW.out, q2.sl heldC_len, q3.sl lastC_len, HW.out⟩, Ld.below_row HB5.out (by omega) _⟩
set_option maxHeartbeats 8000000 in
theorem same_any (m : Mes) (v u : Value) (w : World) (h : IsMsg w v m) (g : IsMsg w u m) : Calls Try.prog 7 #[v, u] w fun e w' => e = .returned (.bool true) ∧ Below w.heap.size w w' := by
  obtain ⟨ve, vn, vh, vl, rfl, -⟩ := id h
  obtain ⟨ue, un, uh, ul, rfl, -⟩ := id g
  obtain ⟨W, hW⟩ : ∃ q, (w.alloc (.cells (mArr m ve vn vh vl) 32)).alloc (.cells (mArr m ue un uh ul) 32) = q := ⟨_, rfl⟩
  have hb0 : Below w.heap.size w W := by rw [← hW]; exact ((Below.refl _ _).alloc (Nat.le_refl _) _).alloc (by simp) _
  have hA : W.heap[w.heap.size]? = some (.cells (mArr m ve vn vh vl) 32 (0, 0)) := by rw [← hW]; exact heap_alloc2_old _ _ _
  have hC : W.heap[w.heap.size + 1]? = some (.cells (mArr m ue un uh ul) 32 (0, 0)) := by rw [← hW]; exact heap_alloc2_new _ _ _
  have HL := Lib.hid ((IsMsg_log h).below hb0 (Nat.le_refl _))
  have GL := Lib.hid ((IsMsg_log g).below hb0 (Nat.le_refl _))
  have HI := Lib.hid ((IsMsg_shot h).below hb0 (Nat.le_refl _))
  have GI := Lib.hid ((IsMsg_shot g).below hb0 (Nat.le_refl _))
  obtain ⟨p0, p1, p2, p3, p4, p5, p6, p7, p8, -⟩ := cells16 hA
  obtain ⟨q0, q1, q2, q3, q4, q5, q6, q7, q8, -⟩ := cells16 hC
  have HB := Lib.hid hb0
  have HA := Lib.hid hA
  have HC := Lib.hid hC
  clear h g hb0 hA hC
  go_enter Try.func7, Try.ntmps7
  go_wp2_with fail
  refine (Hd.ents_same m.ents _ _ _ HL.out GL.out).mono ?_
  rintro e w1 ⟨rfl, hb1⟩
  have ra := shot_range ((hb1.block _ (Rc.lt_of_row8 HA.out)).trans HA.out)
  have rb := shot_range ((hb1.block _ (Rc.lt_of_row8 HC.out)).trans HC.out)
  have HB1 := Lib.hid (HB.out.trans (hb1.mono HB.out.size))
  have HI1 := Lib.hid (HI.out.below hb1 (Nat.le_refl _))
  have GI1 := Lib.hid (GI.out.below hb1 (Nat.le_refl _))
  clear hb1 p0 p1 p2 p3 p4 p5 p6 p7 p8 q0 q1 q2 q3 q4 q5 q6 q7 q8 hW
  go_wp2_with (first
    | (refine wpList_load_midG (by kernel_rfl) 30 (.tmp 67) rfl w.heap.size 9 rfl (sArr m.shot vn vh vl).toList _ ra Try.underlying30 rfl (by kernel_rfl) ?_)
    | (refine wpList_load_midG (by kernel_rfl) 30 (.tmp 69) rfl (w.heap.size + 1) 9 rfl (sArr m.shot un uh ul).toList _ rb Try.underlying30 rfl (by kernel_rfl) ?_))
  refine (Sh.same_any m.shot _ _ _ HI1.out GI1.out).mono ?_
  rintro e w2 ⟨rfl, hb2⟩
  go_wp2
  go_ret
  exact ⟨rfl, HB1.out.trans (hb2.mono HB1.out.size)⟩
end Ms
end Go.Proofs.Yteapccniloednaa
