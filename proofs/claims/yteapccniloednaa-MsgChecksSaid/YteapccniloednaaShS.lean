/- A copy of a snapshot. No condition. -/
import Derived.Test.YteapccniloednaaShT
import Derived.Test.YteapccniloednaaLcM
import Derived.Deep.MidRow
namespace Go.Proofs.Yteapccniloednaa
open Go.ChangeShapes Go.WideShapes Go.ChangeAt Go.RowKit
set_option linter.unusedVariables false
set_option maxRecDepth 100000
theorem owns_cell {sz : Nat} {e : TypeId} {w : World} {B g j n : Nat} {v u : Value} {zs : List Value} (hown : w.ownsRow B e sz v n zs) (hg : g < B) : (w.setCell ⟨g, j, none⟩ u).ownsRow B e sz v n zs := by
  refine ⟨hown.1, ?_⟩
  rcases hown.2 with h2 | ⟨q, cap, cur, h2, h3, h4, h5⟩
  · exact .inl h2
  · refine .inr ⟨q, cap, cur, h2, h3, ?_, h5⟩
    rw [heap_setCell_other _ _ _ _ (by simp; omega)]
    exact h4
theorem owns_row {sz : Nat} {e : TypeId} {w : World} {B g n : Nat} {v : Value} {cs : Array Value} {zs : List Value} (hown : w.ownsRow B e sz v n zs) (hg : g < B) : (w.setRow g cs).ownsRow B e sz v n zs := by
  refine ⟨hown.1, ?_⟩
  rcases hown.2 with h2 | ⟨q, cap, cur, h2, h3, h4, h5⟩
  · exact .inl h2
  · refine .inr ⟨q, cap, cur, h2, h3, ?_, h5⟩
    rw [setRow_other _ _ _ _ (by omega)]
    exact h4
theorem owns_cells {sz : Nat} {e : TypeId} {B g n : Nat} {v : Value} {zs : List Value} (hg : g < B) : ∀ (L : List Value) (o : Nat) (w : World), w.ownsRow B e sz v n zs → (w.setCells g o L).ownsRow B e sz v n zs
  | [], _, _, h => h
  | _ :: L, o, w, h => owns_cells hg L (o + 1) _ (owns_cell h hg)
theorem cells_other {g k : Nat} (hk : k ≠ g) : ∀ (L : List Value) (o : Nat) (w : World), (w.setCells g o L).heap[k]? = w.heap[k]?
  | [], _, _ => rfl
  | u :: L, o, w => (cells_other hk L (o + 1) _).trans (heap_setCell_other w ⟨g, o, none⟩ k u (by simpa using hk))
theorem below_cells {B g : Nat} {a : World} (hg : B ≤ g) : ∀ (L : List Value) (o : Nat) (w : World), Below B a w → Below B a (w.setCells g o L)
  | [], _, _, h => h
  | u :: L, o, w, h => below_cells hg L (o + 1) _ (h.setCell (p := ⟨g, o, none⟩) hg u)
namespace Sh
theorem store2 {w1 : World} {g : Nat} {s : Sho} {vn vh vl : Value} (h : w1.heap[g]? = some (.cells (sArr s vn vh vl) 30 (0, 0))) (u : Value) : (w1.setCell ⟨g, 2, none⟩ u).heap[g]? = some (.cells (sArr s u vh vl) 30 (0, 0)) := by
  rw [heap_setCell_same w1 g 2 _ _ u h]; rfl
theorem mid4 {w2 : World} {g : Nat} {s : Sho} {vn vh vl : Value} (h : w2.heap[g]? = some (.cells (sArr s vn vh vl) 30 (0, 0))) (uh ul : Value) : (w2.setCells g 3 (lArr s.led uh ul).toList).heap[g]? = some (.cells (sArr s vn uh ul) 30 (0, 0)) := by
  show ((((w2.setCell ⟨g, 3, none⟩ (.int .i64 s.led.limit)).setCell ⟨g, 4, none⟩ (.int .u64 s.led.next)).setCell ⟨g, 5, none⟩ uh).setCell ⟨g, 6, none⟩ ul).heap[g]? = _
  rw [heap_setCell_same _ g 6 _ _ ul (heap_setCell_same _ g 5 _ _ uh (heap_setCell_same _ g 4 _ _ (.int .u64 s.led.next) (heap_setCell_same w2 g 3 _ _ (.int .i64 s.led.limit) h)))]
  rfl
theorem there4 {w2 : World} {g : Nat} {s : Sho} {vn vh vl : Value} (h : w2.heap[g]? = some (.cells (sArr s vn vh vl) 30 (0, 0))) : w2.there g 3 4 := by
  intro j hj
  refine ⟨?_, frozen_of_row w2 g (3 + j) _ _ h⟩
  rw [cell_of_row w2 g (3 + j) _ _ _ h, Array.getElem?_eq_getElem (by simp; omega)]
  rfl
theorem sArr_one (s : Sho) (a b c : Option Addr) (i j k m p q : Nat) : (sArr s (.slice a i j) (.slice b k m) (.slice c p q)).all (·.oneCell') = true := by simp [Value.oneCell']
def GivesShot (s : Sho) (w : World) (e : Ending) (w' : World) : Prop := ∃ v, e = .returned v ∧ IsShot w' v s ∧ Below w.heap.size w w'

theorem ownK_lower {k : IntKind} {e : TypeId} {w : World} {B D : Nat} {v : Value} {zs : List Int} (h : OwnK k e w B v zs) (hD : D ≤ B) : OwnK k e w D v zs := by
  refine ⟨h.1, ?_⟩
  rcases h.2 with h2 | ⟨q, cap, cur, h2, h3, h4⟩
  · exact .inl h2
  · exact .inr ⟨q, cap, cur, h2, Nat.le_trans hD h3, h4⟩
/-- a snapshot whose lists are the call's own -/
def GivesShotO (s : Sho) (w : World) (e : Ending) (w' : World) : Prop := ∃ vn vh vl, e = .returned (.agg (sArr s vn vh vl)) ∧ OwnI w' w.heap.size vn s.nodes ∧ OwnR 5 heldC 64 w' w.heap.size vh s.led.held ∧ OwnR 6 lastC 76 w' w.heap.size vl s.led.last ∧ Below w.heap.size w w'

set_option maxHeartbeats 2000000 in
theorem copy_own (s : Sho) (v : Value) (w : World) (h : IsShot w v s) (hf : IsShot.fits s) :
    Calls Try.prog 9 #[v] w (GivesShotO s w) := by
  obtain ⟨vn, vh, vl, rfl, hn, hh, hl, hwf⟩ := h
  have HW := Lib.hid hwf
  have hb0 : ∀ A B, Below w.heap.size w ((w.alloc (.cells A 30)).alloc (.cells B 30)) := fun A B => ((Below.refl _ _).alloc (Nat.le_refl _) _).alloc (by simp) _
  have H0 := Lib.hid hb0
  have HS := Lib.hid (fun A B => hn.below (hb0 A B) (Nat.le_refl _))
  have HNW := Lib.hid hn.wf
  have HHw := Lib.hid hh
  have HLw := Lib.hid hl
  obtain ⟨hf1, hf2⟩ := hf
  have HF := Lib.hid hf2
  clear hb0 hn hh hl hwf hf2
  go_enter Try.func9, Try.ntmps9
  go_wp2_with (first
    | (at_builtin; refine copyI rfl _ rfl (w.heap.size + 2) _ _ rfl (HS.out _ _) hf1 (by simp) ?_; intro v1 w1 hown1 hs1 hb1; obtain ⟨a1, cap1, hv1, -⟩ := id hs1; subst hv1; have hA := (hb1.block w.heap.size (by omega)).trans (heap_alloc2_old w _ _); have hB := (hb1.block (w.heap.size + 1) (by omega)).trans (heap_alloc2_new w _ _); have hz1 : w.heap.size + 2 ≤ w1.heap.size := (by have := hb1.size; simpa using this); have hcell := (cells7 hA).2.2.1; have hfz := frozen_of_row w1 w.heap.size 2 _ _ hA; have hA1 := store2 hA (.slice a1 s.nodes.length cap1); have hB1 := (heap_setCell_other w1 ⟨w.heap.size, 2, none⟩ (w.heap.size + 1) (.slice a1 s.nodes.length cap1) (by simp)).trans hB; have HBx := Lib.hid (((H0.out _ _).trans (hb1.mono (by omega))).setCell (p := ⟨w.heap.size, 2, none⟩) (Nat.le_refl _) (.slice a1 s.nodes.length cap1)); obtain ⟨q0, q1, q2, q3, q4, q5, q6⟩ := cells7 hA1; have HOW := Lib.hid hown1; have HZ := Lib.hid hz1; have HA1 := Lib.hid hA1; have HB1 := Lib.hid hB1; clear hb1 hown1 hs1 hA hB hA1 hB1 hz1)
    | fail)
  refine (Ld.copy_own s.led _ _ ⟨vh, vl, rfl, HHw.out.below HBx.out (Nat.le_refl _), HLw.out.below HBx.out (Nat.le_refl _), HW.out.2.2⟩ HF.out).mono ?_
  rintro e w2 ⟨ch, cl, rfl, hoh, hol, -, hb2⟩
  obtain ⟨a2, cap2, rfl, -⟩ := hoh.sl heldC_len
  obtain ⟨a3, cap3, rfl, -⟩ := hol.sl lastC_len
  have hA2 := (hb2.block w.heap.size ((Array.getElem?_eq_some_iff.1 HA1.out).1)).trans HA1.out
  have hB2 := (hb2.block (w.heap.size + 1) ((Array.getElem?_eq_some_iff.1 HB1.out).1)).trans HB1.out
  have hth := there4 hA2
  have hA3 := mid4 hA2 (.slice a2 s.led.held.length cap2) (.slice a3 s.led.last.length cap3)
  have hB3 := (cells_other (g := w.heap.size) (k := w.heap.size + 1) (by omega) (lArr s.led (.slice a2 s.led.held.length cap2) (.slice a3 s.led.last.length cap3)).toList 3 w2).trans hB2
  have HB2 := Lib.hid hb2
  have HOH := Lib.hid hoh
  have HOL := Lib.hid hol
  clear hcell hfz q0 q1 q2 q3 q4 q5 q6 hoh hol hb2
  go_wp2_with (first
    | (refine wpList_store_mid rfl 28 (.tmp 10) (.tmp 9) rfl w.heap.size 3 (lArr s.led (.slice a2 s.led.held.length cap2) (.slice a3 s.led.last.length cap3)) rfl rfl hth (by kernel_rfl) (Ld.lArr_one _ _ _ _ _ _ _) ?_)
    | (refine wpList_load_row rfl 30 (.tmp 1) rfl w.heap.size rfl 30 (sArr s (.slice a1 s.nodes.length cap1) (.slice a2 s.led.held.length cap2) (.slice a3 s.led.last.length cap3)) (0, 0) _ hA3 Try.underlying30 rfl (by kernel_rfl) ?_)
    | (refine wpList_store_row rfl 30 (.tmp 2) (.tmp 11) rfl (w.heap.size + 1) (sArr s (.slice a1 s.nodes.length cap1) (.slice a2 s.led.held.length cap2) (.slice a3 s.led.last.length cap3)) rfl rfl 30 _ hB3 (by kernel_rfl) rfl (sArr_one _ _ _ _ _ _ _ _ _ _) ?_))
  refine bodyPost_ret (v := .agg (sArr s (.slice a1 s.nodes.length cap1) (.slice a2 s.led.held.length cap2) (.slice a3 s.led.last.length cap3))) (results_cell_row rfl _ _ (w.heap.size + 1) 30 _ (0, 0) _ rfl (setRow_heap _ _ _ _ _ _ hB3) Try.underlying30 rfl (by kernel_rfl)) rfl ?_
  have hz1 := HZ.out
  have hsz : (w1.setCell ⟨w.heap.size, 2, none⟩ (.slice a1 s.nodes.length cap1)).heap.size = w1.heap.size := by simp
  have hb2 := HB2.out
  have hq1 : OwnI w2 (w.heap.size + 2) (.slice a1 s.nodes.length cap1) s.nodes := OwnK.below (owns_cell (g := w.heap.size) HOW.out (by omega) : OwnI _ _ _ _) hb2 (Nat.le_refl _)
  have hn1 : OwnI _ (w.heap.size + 2) (.slice a1 s.nodes.length cap1) s.nodes := owns_row (g := w.heap.size + 1) (cs := sArr s (.slice a1 s.nodes.length cap1) (.slice a2 s.led.held.length cap2) (.slice a3 s.led.last.length cap3)) (owns_cells (g := w.heap.size) (by omega) (lArr s.led (.slice a2 s.led.held.length cap2) (.slice a3 s.led.last.length cap3)).toList 3 _ hq1) (by omega)
  have hh1 : OwnR 5 heldC 64 _ _ _ s.led.held := owns_row (g := w.heap.size + 1) (cs := sArr s (.slice a1 s.nodes.length cap1) (.slice a2 s.led.held.length cap2) (.slice a3 s.led.last.length cap3)) (owns_cells (g := w.heap.size) (by omega) (lArr s.led (.slice a2 s.led.held.length cap2) (.slice a3 s.led.last.length cap3)).toList 3 _ HOH.out) (by omega)
  have hl1 : OwnR 6 lastC 76 _ _ _ s.led.last := owns_row (g := w.heap.size + 1) (cs := sArr s (.slice a1 s.nodes.length cap1) (.slice a2 s.led.held.length cap2) (.slice a3 s.led.last.length cap3)) (owns_cells (g := w.heap.size) (by omega) (lArr s.led (.slice a2 s.led.held.length cap2) (.slice a3 s.led.last.length cap3)).toList 3 _ HOL.out) (by omega)
  exact ⟨_, _, _, rfl, ownK_lower hn1 (by omega), hh1.lower (by omega), hl1.lower (by omega), Ld.below_row (below_cells (Nat.le_refl _) _ _ _ (HBx.out.trans (hb2.mono (by omega)))) (by omega) _⟩
theorem copy_any (s : Sho) (v : Value) (w : World) (h : IsShot w v s) (hf : IsShot.fits s) :
    Calls Try.prog 9 #[v] w (GivesShot s w) := by
  obtain ⟨vn, vh, vl, rfl, hn, hh, hl, hwf⟩ := id h
  have hnw := hn.wf
  exact (copy_own s _ w h hf).mono fun e w' ⟨un, uh, ul, he, h1, h2, h3, h4⟩ => ⟨_, he, ⟨_, _, _, rfl, h1.sl hnw, h2.sl heldC_len, h3.sl lastC_len, hwf⟩, h4⟩
end Sh
end Go.Proofs.Yteapccniloednaa
