/- Copies of a ledger, and whether two are the same where both are. No condition. -/
import Derived.Test.YtlkmdoddgfmnbaaLcA
namespace Go.Proofs.Ytlkmdoddgfmnbaa
open Go.ChangeShapes Go.WideShapes Go.ChangeAt Go.RowKit
set_option linter.unusedVariables false
set_option maxRecDepth 100000
theorem OwnR.cell {α : Type} {sz : Nat} {C : α → List Value} {e : TypeId} {w : World} {B g j : Nat} {v u : Value} {zs : List α} (hown : OwnR sz C e w B v zs) (hg : g < B) : OwnR sz C e (w.setCell ⟨g, j, none⟩ u) B v zs := by
  refine ⟨hown.1, ?_⟩
  rcases hown.2 with h2 | ⟨q, cap, cur, h2, h3, h4, h5⟩
  · exact .inl h2
  · refine .inr ⟨q, cap, cur, h2, h3, ?_, h5⟩
    rw [heap_setCell_other _ _ _ _ (by simp; omega)]
    exact h4
theorem OwnR.row {α : Type} {sz : Nat} {C : α → List Value} {e : TypeId} {w : World} {B g : Nat} {v : Value} {cs : Array Value} {zs : List α} (hown : OwnR sz C e w B v zs) (hg : g < B) : OwnR sz C e (w.setRow g cs) B v zs := by
  refine ⟨hown.1, ?_⟩
  rcases hown.2 with h2 | ⟨q, cap, cur, h2, h3, h4, h5⟩
  · exact .inl h2
  · refine .inr ⟨q, cap, cur, h2, h3, ?_, h5⟩
    rw [setRow_other _ _ _ _ (by omega)]
    exact h4
theorem OwnR.lower {α : Type} {sz : Nat} {C : α → List Value} {e : TypeId} {w : World} {B D : Nat} {v : Value} {zs : List α} (hown : OwnR sz C e w B v zs) (hD : D ≤ B) : OwnR sz C e w D v zs := by
  refine ⟨hown.1, ?_⟩
  rcases hown.2 with h2 | ⟨q, cap, cur, h2, h3, h4⟩
  · exact .inl h2
  · exact .inr ⟨q, cap, cur, h2, Nat.le_trans hD h3, h4⟩
namespace Ld
theorem below_row {B : Nat} {a w : World} (h : Below B a w) {g : Nat} (hg : B ≤ g) (cs : Array Value) : Below B a (w.setRow g cs) :=
  h.trans ⟨rfl, rfl, rfl, by simp, fun k hk => setRow_other w g k cs (by omega)⟩
def GivesLed (l : Led) (w : World) (e : Ending) (w' : World) : Prop := ∃ v, e = .returned v ∧ IsLed w' v l ∧ Below w.heap.size w w'
theorem lArr_one (l : Led) (a c : Option Addr) (i j k m : Nat) : (lArr l (.slice a i j) (.slice c k m)).all (·.oneCell') = true := by simp [Value.oneCell']
abbrev zArr : Array Value := #[.int .i64 0, .int .u64 0, .slice none 0 0, .slice none 0 0]

theorem store2 {w1 : World} {g : Nat} {l : Led} {vh vl : Value} (h : w1.heap[g]? = some (.cells (lArr l vh vl) 26 (0, 0))) (u : Value) : (w1.setCell ⟨g, 2, none⟩ u).heap[g]? = some (.cells (lArr l u vl) 26 (0, 0)) := by
  rw [heap_setCell_same w1 g 2 _ _ u h]; rfl
theorem store3 {w1 : World} {g : Nat} {l : Led} {vh vl : Value} (h : w1.heap[g]? = some (.cells (lArr l vh vl) 26 (0, 0))) (u : Value) : (w1.setCell ⟨g, 3, none⟩ u).heap[g]? = some (.cells (lArr l vh u) 26 (0, 0)) := by
  rw [heap_setCell_same w1 g 3 _ _ u h]; rfl
theorem row2 {w1 : World} {g : Nat} {l : Led} {vh vl : Value} (h : w1.heap[g]? = some (.cells (lArr l vh vl) 26 (0, 0))) : w1.cell? ⟨g, 2, none⟩ = some vh := by
  rw [cell_of_row w1 g 2 _ _ _ h]; rfl
theorem row3 {w1 : World} {g : Nat} {l : Led} {vh vl : Value} (h : w1.heap[g]? = some (.cells (lArr l vh vl) 26 (0, 0))) : w1.cell? ⟨g, 3, none⟩ = some vl := by
  rw [cell_of_row w1 g 3 _ _ _ h]; rfl

/-- a ledger whose lists are the call's own -/
def GivesOwn (l : Led) (w : World) (e : Ending) (w' : World) : Prop := ∃ vh vl, e = .returned (.agg (lArr l vh vl)) ∧ OwnR 5 heldC 39 w' w.heap.size vh l.held ∧ OwnR 6 lastC 41 w' w.heap.size vl l.last ∧ l.wf ∧ Below w.heap.size w w'

set_option maxHeartbeats 1000000 in
theorem copy_own (l : Led) (v : Value) (w : World) (h : IsLed w v l) (hf : IsLed.fits l) :
    Calls Try.prog 16 #[v] w (GivesOwn l w) := by
  obtain ⟨vh, vl, rfl, hh, hl, hwf⟩ := h
  have HW := Lib.hid hwf
  have hb0 : ∀ A B, Below w.heap.size w ((w.alloc (.cells A 26)).alloc (.cells B 26)) := fun A B => ((Below.refl _ _).alloc (Nat.le_refl _) _).alloc (by simp) _
  have H0 := Lib.hid hb0
  have HS := Lib.hid (fun A B => hh.below (hb0 A B) (Nat.le_refl _))
  have hml := hh.len
  have hmm := hl.len
  obtain ⟨hf1, hf2⟩ := hf
  have HN := Lib.hid hf1
  have HN2 := Lib.hid hf2
  have HLw := Lib.hid hl
  have HM := Lib.hid hml
  have HM2 := Lib.hid hmm
  clear hb0 hh hl hwf hml hmm hf1 hf2
  go_enter Try.func16, Try.ntmps16
  go_wp2_with (first
    | (at_builtin; refine appR heldC_len heldC_one Try.underlying23 rfl (by decide) info_held rfl _ _ rfl (w.heap.size + 2) _ [] rfl (OwnR.nil _ _ _) _ l.held rfl (HS.out _ _) (by simpa using HM.out) (by have := HN.out; simp; omega) (by simp) ?_; intro v1 w1 hown1 hb1; have hs1 := hown1.sl heldC_len; simp only [List.nil_append] at hown1 hs1; obtain ⟨a1, cap1, hv1, -⟩ := id hs1; subst hv1; have hA := (hb1.block w.heap.size (by omega)).trans (heap_alloc2_old w _ _); have hB := (hb1.block (w.heap.size + 1) (by omega)).trans (heap_alloc2_new w _ _); have hz1 : w.heap.size + 2 ≤ w1.heap.size := (by have := hb1.size; simpa using this); have hcell := row2 hA; have hfz := frozen_of_row w1 w.heap.size 2 _ _ hA; have hA1 := store2 hA (.slice a1 l.held.length cap1); have hc3 := row3 hA1; have hB1 := (heap_setCell_other w1 ⟨w.heap.size, 2, none⟩ (w.heap.size + 1) (.slice a1 l.held.length cap1) (by simp)).trans hB; have HBx := Lib.hid (((H0.out _ _).trans (hb1.mono (by omega))).setCell (p := ⟨w.heap.size, 2, none⟩) (Nat.le_refl _) (.slice a1 l.held.length cap1)); have HL1 := Lib.hid (HLw.out.below HBx.out (Nat.le_refl _)); have HOW := Lib.hid hown1; have HZ := Lib.hid hz1; clear hb1 hown1 hs1)
    | (at_builtin; refine appR lastC_len lastC_one Try.underlying24 rfl (by decide) info_last rfl _ _ rfl w1.heap.size _ [] rfl (OwnR.nil _ _ _) _ l.last rfl HL1.out (by simpa using HM2.out) (by have := HN2.out; simp; omega) (by simp) ?_; intro v2 w2 hown2 hb2; have hs2 := hown2.sl lastC_len; simp only [List.nil_append] at hown2 hs2; obtain ⟨a2, cap2, hv2, -⟩ := id hs2; subst hv2; have hA2 := (hb2.block w.heap.size (by have := HZ.out; omega)).trans hA1; have hB2 := (hb2.block (w.heap.size + 1) (by have := HZ.out; omega)).trans hB1; have hcell2 := row3 hA2; have hfz2 := frozen_of_row w2 w.heap.size 3 _ _ hA2; have hA3 := store3 hA2 (.slice a2 l.last.length cap2); have hB3 := (heap_setCell_other w2 ⟨w.heap.size, 3, none⟩ (w.heap.size + 1) (.slice a2 l.last.length cap2) (by simp)).trans hB2; clear hA hB hcell hfz hA1 hc3 hB1)
    | (refine wpList_load_row rfl 26 (.tmp 1) rfl w.heap.size rfl 26 (lArr l (.slice a1 l.held.length cap1) (.slice a2 l.last.length cap2)) (0, 0) _ hA3 Try.underlying26 rfl (by kernel_rfl) ?_)
    | (refine wpList_store_row rfl 26 (.tmp 2) (.tmp 11) rfl (w.heap.size + 1) (lArr l (.slice a1 l.held.length cap1) (.slice a2 l.last.length cap2)) rfl rfl 26 _ hB3 (by kernel_rfl) rfl (lArr_one _ _ _ _ _ _ _) ?_))
  refine bodyPost_ret (v := .agg (lArr l (.slice a1 l.held.length cap1) (.slice a2 l.last.length cap2))) (results_cell_row rfl _ _ (w.heap.size + 1) 26 _ (0, 0) _ rfl (setRow_heap _ _ _ _ _ _ hB3) Try.underlying26 rfl (by kernel_rfl)) rfl ?_
  have hz1 := HZ.out
  have hsz : (w1.setCell ⟨w.heap.size, 2, none⟩ (.slice a1 l.held.length cap1)).heap.size = w1.heap.size := by simp
  have hq1 : OwnR 5 heldC 39 w2 (w.heap.size + 2) (.slice a1 l.held.length cap1) l.held := (HOW.out.cell (g := w.heap.size) (by omega)).below hb2 (Nat.le_of_eq hsz)
  refine ⟨_, _, rfl, ((hq1.cell (by omega)).row (by omega)).lower (by omega), ((hown2.cell (by omega)).row (by omega)).lower (by omega), HW.out, ?_⟩
  exact below_row (((HBx.out).trans (hb2.mono (by omega))).setCell (Nat.le_refl _) _) (by omega) _
theorem copy_any (l : Led) (v : Value) (w : World) (h : IsLed w v l) (hf : IsLed.fits l) :
    Calls Try.prog 16 #[v] w (GivesLed l w) :=
  (copy_own l v w h hf).mono fun e w' ⟨vh, vl, he, h1, h2, h3, h4⟩ => ⟨_, he, ⟨_, _, rfl, h1.sl heldC_len, h2.sl lastC_len, h3⟩, h4⟩
end Ld
end Go.Proofs.Ytlkmdoddgfmnbaa
