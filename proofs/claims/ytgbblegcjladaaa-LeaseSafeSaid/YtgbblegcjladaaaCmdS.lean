/- Commands copied and compared: the document's own Copy and Same. No condition. -/
import Derived.Test.YtgbblegcjladaaaCmB
namespace Go.Proofs.Ytgbblegcjladaaa
open Go.ChangeShapes Go.WideShapes Go.ChangeAt Go.RowKit
set_option linter.unusedVariables false
set_option maxRecDepth 100000
namespace Cm

/-- a command's cells -/
abbrev cArr (c : Cmd) (vn : Value) : Array Value := #[.int .i64 c.kind, .int .i64 c.node, .int .i64 c.token, vn, .int .u64 c.boot, .int .u64 c.seq, .int .u64 c.serial, .int .u64 c.stamp]

set_option maxHeartbeats 1000000 in
theorem same_true (c : Cmd) (v u : Value) (w : World) (h : IsCmd w v c) (g : IsCmd w u c) :
    Calls Try.prog 43 #[v, u] w fun e w' => e = .returned (.bool true) ∧ Below w.heap.size w w' := by
  obtain ⟨vn, rfl, hsl, -⟩ := h
  obtain ⟨un, rfl, gsl, -⟩ := g
  have hb0 : ∀ A B, Below w.heap.size w ((w.alloc (.cells A 58)).alloc (.cells B 58)) := fun A B => ((Below.refl _ _).alloc (Nat.le_refl _) _).alloc (by simp) _
  have hb1 := hb0 (cArr c vn) (cArr c un)
  have h1 := Lib.hid (hsl.below hb1 (Nat.le_refl _))
  have g1 := Lib.hid (gsl.below hb1 (Nat.le_refl _))
  have ht : decide (c.nodes = c.nodes) = true := decide_eq_true rfl
  go_enter Try.func43, Try.ntmps43
  go_wp2_with (go_at_call 63; refine (Nd.same_any _ _ _ _ _ h1.out g1.out).mono ?_; rintro e w1 ⟨rfl, hb2⟩; rw [ht])
  go_ret
  exact ⟨rfl, hb1.trans (hb2.mono hb1.size)⟩

theorem cArr_one (c : Cmd) (a : Option Addr) (l k : Nat) : (cArr c (.slice a l k)).all (·.oneCell') = true := by simp [Value.oneCell']
theorem copy_blocks {w w1 : World} {A B : Array Value} (hb : Below (w.heap.size + 2) ((w.alloc (.cells A 58)).alloc (.cells B 58)) w1) :
    w1.heap[w.heap.size]? = some (.cells A 58 (0, 0)) ∧ w1.heap[w.heap.size + 1]? = some (.cells B 58 (0, 0)) :=
  ⟨(hb.block _ (by omega)).trans (heap_alloc2_old _ _ _), (hb.block _ (by omega)).trans (heap_alloc2_new _ _ _)⟩
theorem copy_cell {w1 : World} {g : Nat} {c : Cmd} {vn : Value} (h : w1.heap[g]? = some (.cells (cArr c vn) 58 (0, 0))) : w1.cell? ⟨g, 3, none⟩ = some vn := by
  rw [cell_of_row w1 g 3 _ _ _ h]; rfl
theorem copy_store {w1 : World} {g : Nat} {c : Cmd} {vn : Value} (h : w1.heap[g]? = some (.cells (cArr c vn) 58 (0, 0))) (u : Value) : (w1.setCell ⟨g, 3, none⟩ u).heap[g]? = some (.cells (cArr c u) 58 (0, 0)) := by
  rw [heap_setCell_same w1 g 3 _ _ u h]; rfl

theorem below_setRow {B : Nat} {a w : World} (h : Below B a w) {g : Nat} (hg : B ≤ g) (cs : Array Value) : Below B a (w.setRow g cs) :=
  h.trans ⟨rfl, rfl, rfl, by simp, fun k hk => setRow_other w g k cs (by omega)⟩
/-- what the call owns further on stays, where blocks below are written -/
theorem own_past {w : World} {B g h : Nat} {v u : Value} {cs : Array Value} {zs : List Int} (hown : OwnI w B v zs) (hg : g < B) (hh : h < B) : OwnI ((w.setCell ⟨g, 3, none⟩ u).setRow h cs) B v zs := by
  refine ⟨hown.1, ?_⟩
  rcases hown.2 with h2 | ⟨q, cap, cur, h2, h3, h4, h5⟩
  · exact .inl h2
  · refine .inr ⟨q, cap, cur, h2, h3, ?_, h5⟩
    rw [setRow_other _ _ _ _ (by omega), heap_setCell_other _ _ _ _ (by simp; omega)]
    exact h4

def GivesCmd (c : Cmd) (w : World) (e : Ending) (w' : World) : Prop := ∃ v, e = .returned v ∧ IsCmd w' v c ∧ Below w.heap.size w w'

set_option maxHeartbeats 1000000 in
theorem copy_any (c : Cmd) (v : Value) (w : World) (h : IsCmd w v c) (hb8 : c.nodes.length * 8 ≤ 140737488351232) :
    Calls Try.prog 52 #[v] w (GivesCmd c w) := by
  obtain ⟨vn, rfl, hsl, hwf⟩ := h
  have HW := Lib.hid hwf
  have hb0 : ∀ A B, Below w.heap.size w ((w.alloc (.cells A 58)).alloc (.cells B 58)) := fun A B => ((Below.refl _ _).alloc (Nat.le_refl _) _).alloc (by simp) _
  have hsz : ∀ A B, ((w.alloc (.cells A 58)).alloc (.cells B 58)).heap.size = w.heap.size + 2 := fun A B => by simp
  have H0 := Lib.hid hb0
  have HZ := Lib.hid hsz
  have HS := Lib.hid (fun A B => hsl.below (hb0 A B) (Nat.le_refl _))
  clear hb0 hsl hwf hsz
  go_enter Try.func52, Try.ntmps52
  go_wp2_with (first
    | (at_builtin; refine copyI rfl _ rfl (w.heap.size + 2) _ _ rfl (HS.out _ _) hb8 (by simp) ?_; intro v1 w1 hown1 hs1 hb1; obtain ⟨a1, cap1, hv1, -⟩ := id hs1; subst hv1; obtain ⟨hh, hh2⟩ := copy_blocks hb1; have hcell := copy_cell hh; have hfz := frozen_of_row w1 w.heap.size 3 _ _ hh; have hst := copy_store hh (.slice a1 c.nodes.length cap1); have hst2 := (heap_setCell_other w1 ⟨w.heap.size, 3, none⟩ (w.heap.size + 1) (.slice a1 c.nodes.length cap1) (by simp)).trans hh2)
    | (refine wpList_load_row rfl 58 (.tmp 1) rfl w.heap.size rfl 58 (cArr c (.slice a1 c.nodes.length cap1)) (0, 0) _ hst Try.underlying58 rfl (by kernel_rfl) ?_)
    | (refine wpList_store_row rfl 58 (.tmp 2) (.tmp 7) rfl (w.heap.size + 1) (cArr c (.slice a1 c.nodes.length cap1)) rfl rfl 58 _ hst2 (by kernel_rfl) rfl (cArr_one _ _ _ _) ?_))
  refine bodyPost_ret (v := .agg (cArr c (.slice a1 c.nodes.length cap1))) (results_cell_row rfl _ _ (w.heap.size + 1) 58 _ (0, 0) _ rfl (setRow_heap _ _ _ _ _ _ hst2) Try.underlying58 rfl (by kernel_rfl)) rfl ?_
  have hB1 : Below w.heap.size w w1 := (H0.out _ _).trans (hb1.mono (by omega))
  have hB2 : Below w.heap.size w ((w1.setCell ⟨w.heap.size, 3, none⟩ (.slice a1 c.nodes.length cap1)).setRow (w.heap.size + 1) (cArr c (.slice a1 c.nodes.length cap1))) := below_setRow (hB1.setCell (Nat.le_refl _) _) (by omega) _
  refine ⟨_, rfl, ⟨_, rfl, ?_, HW.out⟩, hB2⟩
  have hown2 : OwnI w1 (w.heap.size + 2) (.slice a1 c.nodes.length cap1) c.nodes := hown1
  exact (own_past hown2 (by omega) (by omega)).sl hs1.wf
end Cm
end Go.Proofs.Ytgbblegcjladaaa
