/- A record with its kind's fields alone: the document's only; SameRec of it and the record. No condition. -/
import Derived.Test.YtlkgmjhejocobaaMyA
namespace Go.Proofs.Ytlkgmjhejocobaa
open Go.ChangeShapes Go.WideShapes Go.ChangeAt Go.RowKit Go.Deep
set_option linter.unusedVariables false
set_option maxRecDepth 100000
namespace Rc
open Hd Nv
abbrev kR (k : Int) : Array Value := #[.int .i64 k, .int .i64 0, .int .u64 0, .int .u64 0, .int .u64 0, .int .u64 0, .int .i64 0, .int .i64 0, .int .i64 0, .slice none 0 0, .int .u64 0, .int .u64 0, .int .u64 0, .int .u64 0, .int .u64 0, .int .u64 0, .slice none 0 0, .int .i64 0, .int .u64 0, .slice none 0 0, .slice none 0 0]
def zRec (k : Int) : RecR := ⟨k, 0, 0, 0, 0, zEntV, zShoV⟩
def onlyR (r : RecR) : RecR :=
  if r.kind = 1 then { zRec r.kind with boot := r.boot } else if r.kind = 2 then { zRec r.kind with term := r.term, vote := r.vote } else if r.kind = 3 then { zRec r.kind with index := r.index, ent := r.ent } else if r.kind = 4 then { zRec r.kind with index := r.index } else if r.kind = 5 then { zRec r.kind with shot := r.shot } else zRec r.kind
theorem ent_range {w : World} {g : Nat} {r : RecR} {vc vn vh vl : Value} (h : w.heap[g]? = some (.cells (rArr r vc vn vh vl) 49 (0, 0))) : w.rangeAt g 5 (entC (r.ent, vc)) := fun j v hv => by
  have hj : j < 9 := by have := (List.getElem?_eq_some_iff.1 hv).1; simpa using this
  rw [cell_of_row w g (5 + j) _ _ _ h, ← hv]
  match j, hj with
  | 0, _ => rfl
  | 1, _ => rfl
  | 2, _ => rfl
  | 3, _ => rfl
  | 4, _ => rfl
  | 5, _ => rfl
  | 6, _ => rfl
  | 7, _ => rfl
  | 8, _ => rfl
theorem ent_putV {w : World} {g : Nat} {r : RecR} {vc vn vh vl : Value} (h : w.heap[g]? = some (.cells (rArr r vc vn vh vl) 49 (0, 0))) (x : Ent) (u : Value) : (w.setCells g 5 (entC (x, u)).toArray.toList).heap[g]? = some (.cells (rArr { r with ent := x } u vn vh vl) 49 (0, 0)) := by
  rw [heap_setCells g _ _ h]
  simp [setsA]
theorem sho_putV {w : World} {g : Nat} {r : RecR} {vc vn vh vl : Value} (h : w.heap[g]? = some (.cells (rArr r vc vn vh vl) 49 (0, 0))) (s : Sho) (un uh ul : Value) : (w.setCells g 14 (sArr s un uh ul).toList).heap[g]? = some (.cells (rArr { r with shot := s } vc un uh ul) 49 (0, 0)) := by
  rw [heap_setCells g _ _ h]
  simp [setsA]
theorem kR_one (k : Int) : (kR k).all (·.oneCell') = true := by simp [Value.oneCell']
theorem entA_one (x : Ent) (a : Option Addr) (i j : Nat) : (entC (x, .slice a i j)).toArray.all (·.oneCell') = true := by simp [Value.oneCell']
set_option maxHeartbeats 4000000 in
theorem only_any (r : RecR) (v : Value) (w : World) (h : IsRec w v r) : Calls Try.prog 108 #[v] w (GivesRec (onlyR r) w) := by
  obtain ⟨vc, vn, vh, vl, rfl, ⟨hc, hn, hh, hl⟩, hwf⟩ := id h
  obtain ⟨a1, b1, rfl, -⟩ := id hc
  obtain ⟨a2, b2, rfl, -⟩ := id hn
  obtain ⟨a3, b3, rfl, -⟩ := id hh
  obtain ⟨a4, b4, rfl, -⟩ := id hl
  obtain ⟨W1, hW1, hb1, hz1, hA1, hB1⟩ := boxR w (rArr r (.slice a1 r.ent.cmd.nodes.length b1) (.slice a2 r.shot.nodes.length b2) (.slice a3 r.shot.led.held.length b3) (.slice a4 r.shot.led.last.length b4))
  have hs2 : (W1.alloc (.cells zR 49)).heap[W1.heap.size]? = some (.cells zR 49 (0, 0)) := heap_alloc_new _ _
  obtain ⟨W2, hW2⟩ : ∃ q, (W1.alloc (.cells zR 49)).setRow W1.heap.size (kR r.kind) = q := ⟨_, rfl⟩
  have hX2 : W2.heap[W1.heap.size]? = some (.cells (rArr (zRec r.kind) (.slice none 0 0) (.slice none 0 0) (.slice none 0 0) (.slice none 0 0)) 49 (0, 0)) := by rw [← hW2]; exact setRow_heap _ _ _ _ _ _ hs2
  have hq2 : Below W1.heap.size W1 W2 := by rw [← hW2]; exact Ld.below_row ((Below.refl _ _).alloc (Nat.le_refl _) _) (Nat.le_refl _) _
  have hA2 : W2.heap[w.heap.size]? = some (.cells (rArr r (.slice a1 r.ent.cmd.nodes.length b1) (.slice a2 r.shot.nodes.length b2) (.slice a3 r.shot.led.held.length b3) (.slice a4 r.shot.led.last.length b4)) 49 (0, 0)) := (hq2.block _ (by omega)).trans hA1
  have hB2 : W2.heap[w.heap.size + 1]? = some (.cells zR 49 (0, 0)) := (hq2.block _ (by omega)).trans hB1
  have hb2 : Below w.heap.size w W2 := hb1.trans (hq2.mono hb1.size)
  have HL := Lib.hid (⟨hc, hn, hh, hl⟩ : RecL w r (.slice a1 r.ent.cmd.nodes.length b1) (.slice a2 r.shot.nodes.length b2) (.slice a3 r.shot.led.held.length b3) (.slice a4 r.shot.led.last.length b4))
  have HWF := Lib.hid hwf
  have HA2 := Lib.hid hA2
  have HB2 := Lib.hid hB2
  have HX2 := Lib.hid hX2
  have HBW2 := Lib.hid hb2
  have HS2 := Lib.hid hs2
  have HZ := Lib.hid hz1
  have q0 := (cells21 hA1).1
  have q2 := (cells21 hA2).1
  clear h hc hn hh hl hwf hb1 hz1 hA1 hB1 hs2 hX2 hq2 hA2 hB2 hb2
  by_cases hk1 : r.kind = 1
  · have HK := Lib.hid hk1
    have n1 : (r.kind == 1) = true := beq_iff_eq.2 hk1
    clear hk1
    have d3 := (cell_of_row W2 _ 2 _ _ _ HA2.out).trans rfl
    have x3 := (cell_of_row W2 _ 2 _ _ _ HX2.out).trans rfl
    have f3 := La.frozen_of (o := 2) HX2.out
    obtain ⟨W3, hW3⟩ : ∃ q, W2.setCell ⟨W1.heap.size, 2, none⟩ (.int .u64 r.boot) = q := ⟨_, rfl⟩
    have HX3 : Hid (W3.heap[W1.heap.size]? = some (.cells (rArr { zRec r.kind with boot := r.boot } (.slice none 0 0) (.slice none 0 0) (.slice none 0 0) (.slice none 0 0)) 49 (0, 0))) := Lib.hid (by rw [← hW3, heap_setCell_same W2 W1.heap.size 2 _ _ _ HX2.out]; rfl)
    have HA3 : Hid (W3.heap[w.heap.size]? = some (.cells (rArr r (.slice a1 r.ent.cmd.nodes.length b1) (.slice a2 r.shot.nodes.length b2) (.slice a3 r.shot.led.held.length b3) (.slice a4 r.shot.led.last.length b4)) 49 (0, 0))) := Lib.hid (by rw [← hW3]; exact (heap_setCell_other _ _ _ _ (by show w.heap.size ≠ W1.heap.size; have := HZ.out; omega)).trans HA2.out)
    have HB3 : Hid (W3.heap[w.heap.size + 1]? = some (.cells zR 49 (0, 0))) := Lib.hid (by rw [← hW3]; exact (heap_setCell_other _ _ _ _ (by show w.heap.size + 1 ≠ W1.heap.size; have := HZ.out; omega)).trans HB2.out)
    have HBW3 : Hid (Below w.heap.size w W3) := Lib.hid (by rw [← hW3]; exact HBW2.out.setCell (by show w.heap.size ≤ W1.heap.size; have := HZ.out; omega) _)
    have HFIN : Hid (GivesRec (onlyR r) w (.returned (.agg (rArr { zRec r.kind with boot := r.boot } (.slice none 0 0) (.slice none 0 0) (.slice none 0 0) (.slice none 0 0)))) (W3.setRow (w.heap.size + 1) (rArr { zRec r.kind with boot := r.boot } (.slice none 0 0) (.slice none 0 0) (.slice none 0 0) (.slice none 0 0)))) := Lib.hid (by
      have hb3 := Ld.below_row HBW3.out (show w.heap.size ≤ w.heap.size + 1 by omega) (rArr { zRec r.kind with boot := r.boot } (.slice none 0 0) (.slice none 0 0) (.slice none 0 0) (.slice none 0 0))
      have he : onlyR r = { zRec r.kind with boot := r.boot } := by unfold onlyR; rw [if_pos HK.out]
      rw [he]
      exact ⟨_, rfl, ⟨_, _, _, _, rfl, ⟨Cm.sl_nil _ _, Cm.sl_nil _ _, SlR.nil _, SlR.nil _⟩, ⟨HWF.out.1, (show (Lit.int .i64 0).wf = true by decide), HWF.out.2.2.1, (show (Lit.int .u64 0).wf = true by decide), (show (Lit.int .u64 0).wf = true by decide), zEnt_wf, zSho_wf⟩⟩, hb3⟩)
    go_enter Try.func108, Try.ntmps108
    go_wp2_with (first
      | (with_reducible refine wpList_store_row rfl 49 (.tmp 3) (.tmp 6) rfl W1.heap.size (kR r.kind) rfl rfl 49 _ HS2.out (by kernel_rfl) rfl (kR_one _) ?_; rw [hW2])
      | (with_reducible refine wpList_load_row rfl 49 (.tmp 3) rfl W1.heap.size rfl 49 (rArr { zRec r.kind with boot := r.boot } (.slice none 0 0) (.slice none 0 0) (.slice none 0 0) (.slice none 0 0)) (0, 0) _ HX3.out Try.underlying49 rfl (by kernel_rfl) ?_)
      | (with_reducible refine wpList_store_row rfl 49 (.tmp 2) (.tmp 40) rfl (w.heap.size + 1) (rArr { zRec r.kind with boot := r.boot } (.slice none 0 0) (.slice none 0 0) (.slice none 0 0) (.slice none 0 0)) rfl rfl 49 _ HB3.out (by kernel_rfl) rfl (rArr_one _ _ _ _ _ _ _ _ _ _ _ _ _) ?_))
    exact bodyPost_ret (v := .agg (rArr { zRec r.kind with boot := r.boot } (.slice none 0 0) (.slice none 0 0) (.slice none 0 0) (.slice none 0 0))) (results_cell_row rfl _ _ (w.heap.size + 1) 49 _ (0, 0) _ rfl (setRow_heap _ _ _ _ _ _ HB3.out) Try.underlying49 rfl (by kernel_rfl)) rfl HFIN.out
  by_cases hk2 : r.kind = 2
  · have HK := Lib.hid hk2
    have n1 : (r.kind == 1) = false := beq_eq_false_iff_ne.2 (by omega)
    have n2 : (r.kind == 2) = true := beq_iff_eq.2 hk2
    have HN1 := Lib.hid hk1
    clear hk1 hk2
    have d3 := (cell_of_row W2 _ 3 _ _ _ HA2.out).trans rfl
    have x3 := (cell_of_row W2 _ 3 _ _ _ HX2.out).trans rfl
    have f3 := La.frozen_of (o := 3) HX2.out
    obtain ⟨W3, hW3⟩ : ∃ q, W2.setCell ⟨W1.heap.size, 3, none⟩ (.int .u64 r.term) = q := ⟨_, rfl⟩
    have HX3 : Hid (W3.heap[W1.heap.size]? = some (.cells (rArr { zRec r.kind with term := r.term } (.slice none 0 0) (.slice none 0 0) (.slice none 0 0) (.slice none 0 0)) 49 (0, 0))) := Lib.hid (by rw [← hW3, heap_setCell_same W2 W1.heap.size 3 _ _ _ HX2.out]; rfl)
    have HA3 : Hid (W3.heap[w.heap.size]? = some (.cells (rArr r (.slice a1 r.ent.cmd.nodes.length b1) (.slice a2 r.shot.nodes.length b2) (.slice a3 r.shot.led.held.length b3) (.slice a4 r.shot.led.last.length b4)) 49 (0, 0))) := Lib.hid (by rw [← hW3]; exact (heap_setCell_other _ _ _ _ (by show w.heap.size ≠ W1.heap.size; have := HZ.out; omega)).trans HA2.out)
    have HB3 : Hid (W3.heap[w.heap.size + 1]? = some (.cells zR 49 (0, 0))) := Lib.hid (by rw [← hW3]; exact (heap_setCell_other _ _ _ _ (by show w.heap.size + 1 ≠ W1.heap.size; have := HZ.out; omega)).trans HB2.out)
    have HBW3 : Hid (Below w.heap.size w W3) := Lib.hid (by rw [← hW3]; exact HBW2.out.setCell (by show w.heap.size ≤ W1.heap.size; have := HZ.out; omega) _)
    have d4 := (cell_of_row W3 _ 1 _ _ _ HA3.out).trans rfl
    have x4 := (cell_of_row W3 _ 1 _ _ _ HX3.out).trans rfl
    have f4 := La.frozen_of (o := 1) HX3.out
    obtain ⟨W4, hW4⟩ : ∃ q, W3.setCell ⟨W1.heap.size, 1, none⟩ (.int .i64 r.vote) = q := ⟨_, rfl⟩
    have HX4 : Hid (W4.heap[W1.heap.size]? = some (.cells (rArr { zRec r.kind with term := r.term, vote := r.vote } (.slice none 0 0) (.slice none 0 0) (.slice none 0 0) (.slice none 0 0)) 49 (0, 0))) := Lib.hid (by rw [← hW4, heap_setCell_same W3 W1.heap.size 1 _ _ _ HX3.out]; rfl)
    have HA4 : Hid (W4.heap[w.heap.size]? = some (.cells (rArr r (.slice a1 r.ent.cmd.nodes.length b1) (.slice a2 r.shot.nodes.length b2) (.slice a3 r.shot.led.held.length b3) (.slice a4 r.shot.led.last.length b4)) 49 (0, 0))) := Lib.hid (by rw [← hW4]; exact (heap_setCell_other _ _ _ _ (by show w.heap.size ≠ W1.heap.size; have := HZ.out; omega)).trans HA3.out)
    have HB4 : Hid (W4.heap[w.heap.size + 1]? = some (.cells zR 49 (0, 0))) := Lib.hid (by rw [← hW4]; exact (heap_setCell_other _ _ _ _ (by show w.heap.size + 1 ≠ W1.heap.size; have := HZ.out; omega)).trans HB3.out)
    have HBW4 : Hid (Below w.heap.size w W4) := Lib.hid (by rw [← hW4]; exact HBW3.out.setCell (by show w.heap.size ≤ W1.heap.size; have := HZ.out; omega) _)
    have HFIN : Hid (GivesRec (onlyR r) w (.returned (.agg (rArr { zRec r.kind with term := r.term, vote := r.vote } (.slice none 0 0) (.slice none 0 0) (.slice none 0 0) (.slice none 0 0)))) (W4.setRow (w.heap.size + 1) (rArr { zRec r.kind with term := r.term, vote := r.vote } (.slice none 0 0) (.slice none 0 0) (.slice none 0 0) (.slice none 0 0)))) := Lib.hid (by
      have hb3 := Ld.below_row HBW4.out (show w.heap.size ≤ w.heap.size + 1 by omega) (rArr { zRec r.kind with term := r.term, vote := r.vote } (.slice none 0 0) (.slice none 0 0) (.slice none 0 0) (.slice none 0 0))
      have he : onlyR r = { zRec r.kind with term := r.term, vote := r.vote } := by unfold onlyR; rw [if_neg HN1.out]; rw [if_pos HK.out]
      rw [he]
      exact ⟨_, rfl, ⟨_, _, _, _, rfl, ⟨Cm.sl_nil _ _, Cm.sl_nil _ _, SlR.nil _, SlR.nil _⟩, ⟨HWF.out.1, HWF.out.2.1, (show (Lit.int .u64 0).wf = true by decide), HWF.out.2.2.2.1, (show (Lit.int .u64 0).wf = true by decide), zEnt_wf, zSho_wf⟩⟩, hb3⟩)
    go_enter Try.func108, Try.ntmps108
    go_wp2_with (first
      | (with_reducible refine wpList_store_row rfl 49 (.tmp 3) (.tmp 6) rfl W1.heap.size (kR r.kind) rfl rfl 49 _ HS2.out (by kernel_rfl) rfl (kR_one _) ?_; rw [hW2])
      | (with_reducible refine wpList_load_row rfl 49 (.tmp 3) rfl W1.heap.size rfl 49 (rArr { zRec r.kind with term := r.term, vote := r.vote } (.slice none 0 0) (.slice none 0 0) (.slice none 0 0) (.slice none 0 0)) (0, 0) _ HX4.out Try.underlying49 rfl (by kernel_rfl) ?_)
      | (with_reducible refine wpList_store_row rfl 49 (.tmp 2) (.tmp 40) rfl (w.heap.size + 1) (rArr { zRec r.kind with term := r.term, vote := r.vote } (.slice none 0 0) (.slice none 0 0) (.slice none 0 0) (.slice none 0 0)) rfl rfl 49 _ HB4.out (by kernel_rfl) rfl (rArr_one _ _ _ _ _ _ _ _ _ _ _ _ _) ?_))
    exact bodyPost_ret (v := .agg (rArr { zRec r.kind with term := r.term, vote := r.vote } (.slice none 0 0) (.slice none 0 0) (.slice none 0 0) (.slice none 0 0))) (results_cell_row rfl _ _ (w.heap.size + 1) 49 _ (0, 0) _ rfl (setRow_heap _ _ _ _ _ _ HB4.out) Try.underlying49 rfl (by kernel_rfl)) rfl HFIN.out
  by_cases hk3 : r.kind = 3
  · have HK := Lib.hid hk3
    have n1 : (r.kind == 1) = false := beq_eq_false_iff_ne.2 (by omega)
    have n2 : (r.kind == 2) = false := beq_eq_false_iff_ne.2 (by omega)
    have n3 : (r.kind == 3) = true := beq_iff_eq.2 hk3
    have HN1 := Lib.hid hk1
    have HN2 := Lib.hid hk2
    clear hk1 hk2 hk3
    have d3 := (cell_of_row W2 _ 4 _ _ _ HA2.out).trans rfl
    have x3 := (cell_of_row W2 _ 4 _ _ _ HX2.out).trans rfl
    have f3 := La.frozen_of (o := 4) HX2.out
    obtain ⟨W3, hW3⟩ : ∃ q, W2.setCell ⟨W1.heap.size, 4, none⟩ (.int .u64 r.index) = q := ⟨_, rfl⟩
    have HX3 : Hid (W3.heap[W1.heap.size]? = some (.cells (rArr { zRec r.kind with index := r.index } (.slice none 0 0) (.slice none 0 0) (.slice none 0 0) (.slice none 0 0)) 49 (0, 0))) := Lib.hid (by rw [← hW3, heap_setCell_same W2 W1.heap.size 4 _ _ _ HX2.out]; rfl)
    have HA3 : Hid (W3.heap[w.heap.size]? = some (.cells (rArr r (.slice a1 r.ent.cmd.nodes.length b1) (.slice a2 r.shot.nodes.length b2) (.slice a3 r.shot.led.held.length b3) (.slice a4 r.shot.led.last.length b4)) 49 (0, 0))) := Lib.hid (by rw [← hW3]; exact (heap_setCell_other _ _ _ _ (by show w.heap.size ≠ W1.heap.size; have := HZ.out; omega)).trans HA2.out)
    have HB3 : Hid (W3.heap[w.heap.size + 1]? = some (.cells zR 49 (0, 0))) := Lib.hid (by rw [← hW3]; exact (heap_setCell_other _ _ _ _ (by show w.heap.size + 1 ≠ W1.heap.size; have := HZ.out; omega)).trans HB2.out)
    have HBW3 : Hid (Below w.heap.size w W3) := Lib.hid (by rw [← hW3]; exact HBW2.out.setCell (by show w.heap.size ≤ W1.heap.size; have := HZ.out; omega) _)
    have hrg4 := ent_range HA3.out
    have hth4 := there_row HX3.out 5 9 (by simp)
    obtain ⟨W4, hW4⟩ : ∃ q, W3.setCells W1.heap.size 5 (entC (r.ent, .slice a1 r.ent.cmd.nodes.length b1)).toArray.toList = q := ⟨_, rfl⟩
    have HX4 : Hid (W4.heap[W1.heap.size]? = some (.cells (rArr { zRec r.kind with index := r.index, ent := r.ent } (.slice a1 r.ent.cmd.nodes.length b1) (.slice none 0 0) (.slice none 0 0) (.slice none 0 0)) 49 (0, 0))) := Lib.hid (by rw [← hW4]; exact ent_putV HX3.out _ _)
    have HA4 : Hid (W4.heap[w.heap.size]? = some (.cells (rArr r (.slice a1 r.ent.cmd.nodes.length b1) (.slice a2 r.shot.nodes.length b2) (.slice a3 r.shot.led.held.length b3) (.slice a4 r.shot.led.last.length b4)) 49 (0, 0))) := Lib.hid (by rw [← hW4]; exact (setCells_other _ _ _ _ (by have := HZ.out; omega)).trans HA3.out)
    have HB4 : Hid (W4.heap[w.heap.size + 1]? = some (.cells zR 49 (0, 0))) := Lib.hid (by rw [← hW4]; exact (setCells_other _ _ _ _ (by have := HZ.out; omega)).trans HB3.out)
    have HBW4 : Hid (Below w.heap.size w W4) := Lib.hid (by rw [← hW4]; exact HBW3.out.trans (setCells_below _ (by have := HZ.out; omega) _ _ _))
    have HFIN : Hid (GivesRec (onlyR r) w (.returned (.agg (rArr { zRec r.kind with index := r.index, ent := r.ent } (.slice a1 r.ent.cmd.nodes.length b1) (.slice none 0 0) (.slice none 0 0) (.slice none 0 0)))) (W4.setRow (w.heap.size + 1) (rArr { zRec r.kind with index := r.index, ent := r.ent } (.slice a1 r.ent.cmd.nodes.length b1) (.slice none 0 0) (.slice none 0 0) (.slice none 0 0)))) := Lib.hid (by
      have hb3 := Ld.below_row HBW4.out (show w.heap.size ≤ w.heap.size + 1 by omega) (rArr { zRec r.kind with index := r.index, ent := r.ent } (.slice a1 r.ent.cmd.nodes.length b1) (.slice none 0 0) (.slice none 0 0) (.slice none 0 0))
      have he : onlyR r = { zRec r.kind with index := r.index, ent := r.ent } := by unfold onlyR; rw [if_neg HN1.out]; rw [if_neg HN2.out]; rw [if_pos HK.out]
      rw [he]
      exact ⟨_, rfl, ⟨_, _, _, _, rfl, ⟨HL.out.1.below hb3 (Nat.le_refl _), Cm.sl_nil _ _, SlR.nil _, SlR.nil _⟩, ⟨HWF.out.1, (show (Lit.int .i64 0).wf = true by decide), (show (Lit.int .u64 0).wf = true by decide), (show (Lit.int .u64 0).wf = true by decide), HWF.out.2.2.2.2.1, HWF.out.2.2.2.2.2.1, zSho_wf⟩⟩, hb3⟩)
    go_enter Try.func108, Try.ntmps108
    go_wp2_with (first
      | (with_reducible refine wpList_store_row rfl 49 (.tmp 3) (.tmp 6) rfl W1.heap.size (kR r.kind) rfl rfl 49 _ HS2.out (by kernel_rfl) rfl (kR_one _) ?_; rw [hW2])
      | (refine wpList_load_mid rfl 47 (.tmp 27) rfl w.heap.size 5 rfl (entC (r.ent, .slice a1 r.ent.cmd.nodes.length b1)) _ hrg4 Try.underlying47 rfl (by kernel_rfl) ?_)
      | (refine wpList_store_mid rfl 47 (.tmp 29) (.tmp 28) rfl W1.heap.size 5 (entC (r.ent, .slice a1 r.ent.cmd.nodes.length b1)).toArray rfl rfl hth4 (by kernel_rfl) (entA_one _ _ _ _) ?_; rw [hW4]; clear hW4 hth4 hrg4)
      | (with_reducible refine wpList_load_row rfl 49 (.tmp 3) rfl W1.heap.size rfl 49 (rArr { zRec r.kind with index := r.index, ent := r.ent } (.slice a1 r.ent.cmd.nodes.length b1) (.slice none 0 0) (.slice none 0 0) (.slice none 0 0)) (0, 0) _ HX4.out Try.underlying49 rfl (by kernel_rfl) ?_)
      | (with_reducible refine wpList_store_row rfl 49 (.tmp 2) (.tmp 40) rfl (w.heap.size + 1) (rArr { zRec r.kind with index := r.index, ent := r.ent } (.slice a1 r.ent.cmd.nodes.length b1) (.slice none 0 0) (.slice none 0 0) (.slice none 0 0)) rfl rfl 49 _ HB4.out (by kernel_rfl) rfl (rArr_one _ _ _ _ _ _ _ _ _ _ _ _ _) ?_))
    exact bodyPost_ret (v := .agg (rArr { zRec r.kind with index := r.index, ent := r.ent } (.slice a1 r.ent.cmd.nodes.length b1) (.slice none 0 0) (.slice none 0 0) (.slice none 0 0))) (results_cell_row rfl _ _ (w.heap.size + 1) 49 _ (0, 0) _ rfl (setRow_heap _ _ _ _ _ _ HB4.out) Try.underlying49 rfl (by kernel_rfl)) rfl HFIN.out
  by_cases hk4 : r.kind = 4
  · have HK := Lib.hid hk4
    have n1 : (r.kind == 1) = false := beq_eq_false_iff_ne.2 (by omega)
    have n2 : (r.kind == 2) = false := beq_eq_false_iff_ne.2 (by omega)
    have n3 : (r.kind == 3) = false := beq_eq_false_iff_ne.2 (by omega)
    have n4 : (r.kind == 4) = true := beq_iff_eq.2 hk4
    have HN1 := Lib.hid hk1
    have HN2 := Lib.hid hk2
    have HN3 := Lib.hid hk3
    clear hk1 hk2 hk3 hk4
    have d3 := (cell_of_row W2 _ 4 _ _ _ HA2.out).trans rfl
    have x3 := (cell_of_row W2 _ 4 _ _ _ HX2.out).trans rfl
    have f3 := La.frozen_of (o := 4) HX2.out
    obtain ⟨W3, hW3⟩ : ∃ q, W2.setCell ⟨W1.heap.size, 4, none⟩ (.int .u64 r.index) = q := ⟨_, rfl⟩
    have HX3 : Hid (W3.heap[W1.heap.size]? = some (.cells (rArr { zRec r.kind with index := r.index } (.slice none 0 0) (.slice none 0 0) (.slice none 0 0) (.slice none 0 0)) 49 (0, 0))) := Lib.hid (by rw [← hW3, heap_setCell_same W2 W1.heap.size 4 _ _ _ HX2.out]; rfl)
    have HA3 : Hid (W3.heap[w.heap.size]? = some (.cells (rArr r (.slice a1 r.ent.cmd.nodes.length b1) (.slice a2 r.shot.nodes.length b2) (.slice a3 r.shot.led.held.length b3) (.slice a4 r.shot.led.last.length b4)) 49 (0, 0))) := Lib.hid (by rw [← hW3]; exact (heap_setCell_other _ _ _ _ (by show w.heap.size ≠ W1.heap.size; have := HZ.out; omega)).trans HA2.out)
    have HB3 : Hid (W3.heap[w.heap.size + 1]? = some (.cells zR 49 (0, 0))) := Lib.hid (by rw [← hW3]; exact (heap_setCell_other _ _ _ _ (by show w.heap.size + 1 ≠ W1.heap.size; have := HZ.out; omega)).trans HB2.out)
    have HBW3 : Hid (Below w.heap.size w W3) := Lib.hid (by rw [← hW3]; exact HBW2.out.setCell (by show w.heap.size ≤ W1.heap.size; have := HZ.out; omega) _)
    have HFIN : Hid (GivesRec (onlyR r) w (.returned (.agg (rArr { zRec r.kind with index := r.index } (.slice none 0 0) (.slice none 0 0) (.slice none 0 0) (.slice none 0 0)))) (W3.setRow (w.heap.size + 1) (rArr { zRec r.kind with index := r.index } (.slice none 0 0) (.slice none 0 0) (.slice none 0 0) (.slice none 0 0)))) := Lib.hid (by
      have hb3 := Ld.below_row HBW3.out (show w.heap.size ≤ w.heap.size + 1 by omega) (rArr { zRec r.kind with index := r.index } (.slice none 0 0) (.slice none 0 0) (.slice none 0 0) (.slice none 0 0))
      have he : onlyR r = { zRec r.kind with index := r.index } := by unfold onlyR; rw [if_neg HN1.out]; rw [if_neg HN2.out]; rw [if_neg HN3.out]; rw [if_pos HK.out]
      rw [he]
      exact ⟨_, rfl, ⟨_, _, _, _, rfl, ⟨Cm.sl_nil _ _, Cm.sl_nil _ _, SlR.nil _, SlR.nil _⟩, ⟨HWF.out.1, (show (Lit.int .i64 0).wf = true by decide), (show (Lit.int .u64 0).wf = true by decide), (show (Lit.int .u64 0).wf = true by decide), HWF.out.2.2.2.2.1, zEnt_wf, zSho_wf⟩⟩, hb3⟩)
    go_enter Try.func108, Try.ntmps108
    go_wp2_with (first
      | (with_reducible refine wpList_store_row rfl 49 (.tmp 3) (.tmp 6) rfl W1.heap.size (kR r.kind) rfl rfl 49 _ HS2.out (by kernel_rfl) rfl (kR_one _) ?_; rw [hW2])
      | (with_reducible refine wpList_load_row rfl 49 (.tmp 3) rfl W1.heap.size rfl 49 (rArr { zRec r.kind with index := r.index } (.slice none 0 0) (.slice none 0 0) (.slice none 0 0) (.slice none 0 0)) (0, 0) _ HX3.out Try.underlying49 rfl (by kernel_rfl) ?_)
      | (with_reducible refine wpList_store_row rfl 49 (.tmp 2) (.tmp 40) rfl (w.heap.size + 1) (rArr { zRec r.kind with index := r.index } (.slice none 0 0) (.slice none 0 0) (.slice none 0 0) (.slice none 0 0)) rfl rfl 49 _ HB3.out (by kernel_rfl) rfl (rArr_one _ _ _ _ _ _ _ _ _ _ _ _ _) ?_))
    exact bodyPost_ret (v := .agg (rArr { zRec r.kind with index := r.index } (.slice none 0 0) (.slice none 0 0) (.slice none 0 0) (.slice none 0 0))) (results_cell_row rfl _ _ (w.heap.size + 1) 49 _ (0, 0) _ rfl (setRow_heap _ _ _ _ _ _ HB3.out) Try.underlying49 rfl (by kernel_rfl)) rfl HFIN.out
  by_cases hk5 : r.kind = 5
  · have HK := Lib.hid hk5
    have n1 : (r.kind == 1) = false := beq_eq_false_iff_ne.2 (by omega)
    have n2 : (r.kind == 2) = false := beq_eq_false_iff_ne.2 (by omega)
    have n3 : (r.kind == 3) = false := beq_eq_false_iff_ne.2 (by omega)
    have n4 : (r.kind == 4) = false := beq_eq_false_iff_ne.2 (by omega)
    have n5 : (r.kind == 5) = true := beq_iff_eq.2 hk5
    have HN1 := Lib.hid hk1
    have HN2 := Lib.hid hk2
    have HN3 := Lib.hid hk3
    have HN4 := Lib.hid hk4
    clear hk1 hk2 hk3 hk4 hk5
    have hrg3 := sho_range HA2.out
    have hth3 := there_row HX2.out 14 7 (by simp)
    obtain ⟨W3, hW3⟩ : ∃ q, W2.setCells W1.heap.size 14 (sArr r.shot (.slice a2 r.shot.nodes.length b2) (.slice a3 r.shot.led.held.length b3) (.slice a4 r.shot.led.last.length b4)).toList = q := ⟨_, rfl⟩
    have HX3 : Hid (W3.heap[W1.heap.size]? = some (.cells (rArr { zRec r.kind with shot := r.shot } (.slice none 0 0) (.slice a2 r.shot.nodes.length b2) (.slice a3 r.shot.led.held.length b3) (.slice a4 r.shot.led.last.length b4)) 49 (0, 0))) := Lib.hid (by rw [← hW3]; exact sho_putV HX2.out _ _ _ _)
    have HA3 : Hid (W3.heap[w.heap.size]? = some (.cells (rArr r (.slice a1 r.ent.cmd.nodes.length b1) (.slice a2 r.shot.nodes.length b2) (.slice a3 r.shot.led.held.length b3) (.slice a4 r.shot.led.last.length b4)) 49 (0, 0))) := Lib.hid (by rw [← hW3]; exact (setCells_other _ _ _ _ (by have := HZ.out; omega)).trans HA2.out)
    have HB3 : Hid (W3.heap[w.heap.size + 1]? = some (.cells zR 49 (0, 0))) := Lib.hid (by rw [← hW3]; exact (setCells_other _ _ _ _ (by have := HZ.out; omega)).trans HB2.out)
    have HBW3 : Hid (Below w.heap.size w W3) := Lib.hid (by rw [← hW3]; exact HBW2.out.trans (setCells_below _ (by have := HZ.out; omega) _ _ _))
    have HFIN : Hid (GivesRec (onlyR r) w (.returned (.agg (rArr { zRec r.kind with shot := r.shot } (.slice none 0 0) (.slice a2 r.shot.nodes.length b2) (.slice a3 r.shot.led.held.length b3) (.slice a4 r.shot.led.last.length b4)))) (W3.setRow (w.heap.size + 1) (rArr { zRec r.kind with shot := r.shot } (.slice none 0 0) (.slice a2 r.shot.nodes.length b2) (.slice a3 r.shot.led.held.length b3) (.slice a4 r.shot.led.last.length b4)))) := Lib.hid (by
      have hb3 := Ld.below_row HBW3.out (show w.heap.size ≤ w.heap.size + 1 by omega) (rArr { zRec r.kind with shot := r.shot } (.slice none 0 0) (.slice a2 r.shot.nodes.length b2) (.slice a3 r.shot.led.held.length b3) (.slice a4 r.shot.led.last.length b4))
      have he : onlyR r = { zRec r.kind with shot := r.shot } := by unfold onlyR; rw [if_neg HN1.out]; rw [if_neg HN2.out]; rw [if_neg HN3.out]; rw [if_neg HN4.out]; rw [if_pos HK.out]
      rw [he]
      exact ⟨_, rfl, ⟨_, _, _, _, rfl, ⟨Cm.sl_nil _ _, HL.out.2.1.below hb3 (Nat.le_refl _), HL.out.2.2.1.below hb3 (Nat.le_refl _), HL.out.2.2.2.below hb3 (Nat.le_refl _)⟩, ⟨HWF.out.1, (show (Lit.int .i64 0).wf = true by decide), (show (Lit.int .u64 0).wf = true by decide), (show (Lit.int .u64 0).wf = true by decide), (show (Lit.int .u64 0).wf = true by decide), zEnt_wf, HWF.out.2.2.2.2.2.2⟩⟩, hb3⟩)
    go_enter Try.func108, Try.ntmps108
    go_wp2_with (first
      | (with_reducible refine wpList_store_row rfl 49 (.tmp 3) (.tmp 6) rfl W1.heap.size (kR r.kind) rfl rfl 49 _ HS2.out (by kernel_rfl) rfl (kR_one _) ?_; rw [hW2])
      | (refine wpList_load_mid rfl 29 (.tmp 37) rfl w.heap.size 14 rfl (sArr r.shot (.slice a2 r.shot.nodes.length b2) (.slice a3 r.shot.led.held.length b3) (.slice a4 r.shot.led.last.length b4)).toList _ hrg3 Try.underlying29 rfl (by kernel_rfl) ?_)
      | (refine wpList_store_mid rfl 29 (.tmp 39) (.tmp 38) rfl W1.heap.size 14 (sArr r.shot (.slice a2 r.shot.nodes.length b2) (.slice a3 r.shot.led.held.length b3) (.slice a4 r.shot.led.last.length b4)) rfl rfl hth3 (by kernel_rfl) (Sh.sArr_one _ _ _ _ _ _ _ _ _ _) ?_; rw [hW3]; clear hW3 hth3 hrg3)
      | (with_reducible refine wpList_load_row rfl 49 (.tmp 3) rfl W1.heap.size rfl 49 (rArr { zRec r.kind with shot := r.shot } (.slice none 0 0) (.slice a2 r.shot.nodes.length b2) (.slice a3 r.shot.led.held.length b3) (.slice a4 r.shot.led.last.length b4)) (0, 0) _ HX3.out Try.underlying49 rfl (by kernel_rfl) ?_)
      | (with_reducible refine wpList_store_row rfl 49 (.tmp 2) (.tmp 40) rfl (w.heap.size + 1) (rArr { zRec r.kind with shot := r.shot } (.slice none 0 0) (.slice a2 r.shot.nodes.length b2) (.slice a3 r.shot.led.held.length b3) (.slice a4 r.shot.led.last.length b4)) rfl rfl 49 _ HB3.out (by kernel_rfl) rfl (rArr_one _ _ _ _ _ _ _ _ _ _ _ _ _) ?_))
    exact bodyPost_ret (v := .agg (rArr { zRec r.kind with shot := r.shot } (.slice none 0 0) (.slice a2 r.shot.nodes.length b2) (.slice a3 r.shot.led.held.length b3) (.slice a4 r.shot.led.last.length b4))) (results_cell_row rfl _ _ (w.heap.size + 1) 49 _ (0, 0) _ rfl (setRow_heap _ _ _ _ _ _ HB3.out) Try.underlying49 rfl (by kernel_rfl)) rfl HFIN.out
  · have n1 : (r.kind == 1) = false := beq_eq_false_iff_ne.2 (by omega)
    have n2 : (r.kind == 2) = false := beq_eq_false_iff_ne.2 (by omega)
    have n3 : (r.kind == 3) = false := beq_eq_false_iff_ne.2 (by omega)
    have n4 : (r.kind == 4) = false := beq_eq_false_iff_ne.2 (by omega)
    have n5 : (r.kind == 5) = false := beq_eq_false_iff_ne.2 (by omega)
    have HN1 := Lib.hid hk1
    have HN2 := Lib.hid hk2
    have HN3 := Lib.hid hk3
    have HN4 := Lib.hid hk4
    have HN5 := Lib.hid hk5
    clear hk1 hk2 hk3 hk4 hk5
    have HFIN : Hid (GivesRec (onlyR r) w (.returned (.agg (rArr (zRec r.kind) (.slice none 0 0) (.slice none 0 0) (.slice none 0 0) (.slice none 0 0)))) (W2.setRow (w.heap.size + 1) (rArr (zRec r.kind) (.slice none 0 0) (.slice none 0 0) (.slice none 0 0) (.slice none 0 0)))) := Lib.hid (by
      have hb3 := Ld.below_row HBW2.out (show w.heap.size ≤ w.heap.size + 1 by omega) (rArr (zRec r.kind) (.slice none 0 0) (.slice none 0 0) (.slice none 0 0) (.slice none 0 0))
      have he : onlyR r = (zRec r.kind) := by unfold onlyR; rw [if_neg HN1.out]; rw [if_neg HN2.out]; rw [if_neg HN3.out]; rw [if_neg HN4.out]; rw [if_neg HN5.out]
      rw [he]
      exact ⟨_, rfl, ⟨_, _, _, _, rfl, ⟨Cm.sl_nil _ _, Cm.sl_nil _ _, SlR.nil _, SlR.nil _⟩, ⟨HWF.out.1, (show (Lit.int .i64 0).wf = true by decide), (show (Lit.int .u64 0).wf = true by decide), (show (Lit.int .u64 0).wf = true by decide), (show (Lit.int .u64 0).wf = true by decide), zEnt_wf, zSho_wf⟩⟩, hb3⟩)
    go_enter Try.func108, Try.ntmps108
    go_wp2_with (first
      | (with_reducible refine wpList_store_row rfl 49 (.tmp 3) (.tmp 6) rfl W1.heap.size (kR r.kind) rfl rfl 49 _ HS2.out (by kernel_rfl) rfl (kR_one _) ?_; rw [hW2])
      | (with_reducible refine wpList_load_row rfl 49 (.tmp 3) rfl W1.heap.size rfl 49 (rArr (zRec r.kind) (.slice none 0 0) (.slice none 0 0) (.slice none 0 0) (.slice none 0 0)) (0, 0) _ HX2.out Try.underlying49 rfl (by kernel_rfl) ?_)
      | (with_reducible refine wpList_store_row rfl 49 (.tmp 2) (.tmp 40) rfl (w.heap.size + 1) (rArr (zRec r.kind) (.slice none 0 0) (.slice none 0 0) (.slice none 0 0) (.slice none 0 0)) rfl rfl 49 _ HB2.out (by kernel_rfl) rfl (rArr_one _ _ _ _ _ _ _ _ _ _ _ _ _) ?_))
    exact bodyPost_ret (v := .agg (rArr (zRec r.kind) (.slice none 0 0) (.slice none 0 0) (.slice none 0 0) (.slice none 0 0))) (results_cell_row rfl _ _ (w.heap.size + 1) 49 _ (0, 0) _ rfl (setRow_heap _ _ _ _ _ _ HB2.out) Try.underlying49 rfl (by kernel_rfl)) rfl HFIN.out
end Rc
end Go.Proofs.Ytlkgmjhejocobaa
