/- A field that was read, put into the command. No condition. -/
import Derived.Test.YtlpoljknohiihaaCmdD
namespace Go.Proofs.Ytlpoljknohiihaa
open Go.ChangeShapes Go.WideShapes Go.ChangeAt Go.RowKit
set_option linter.unusedVariables false
namespace Cm
def putC (c : Cmd) (f : Nat) (n : Int) : Cmd :=
  match f with
  | 0 => { c with node := n }
  | 1 => { c with boot := n }
  | 2 => { c with seq := n }
  | 3 => { c with token := n }
  | 4 => { c with serial := n }
  | 5 => { c with stamp := n }
  | _ => { c with nodes := c.nodes ++ [n] }
def Put (h : Nat) (c : Cmd) (vn : Value) (f : Nat) (n : Int) (w : World) (e : Ending) (w' : World) : Prop :=
  e = .returned (.tuple #[]) ∧ w'.heap[h]? = some (.cells (cArr (putC c f n) vn) 25 (0, 0)) ∧ Only (· = h) w w' ∧ w'.heap.size = w.heap.size

set_option maxHeartbeats 1000000 in
theorem put_any (h : Nat) (c : Cmd) (vn : Value) (f : Nat) (hf : f ≤ 5) (n : Int) (w : World) (hh : w.heap[h]? = some (.cells (cArr c vn) 25 (0, 0))) (h0 : 0 ≤ n) (h1 : n ≤ 18446744073709551615) (h2 : f = 0 ∨ f = 3 → n ≤ 65535) :
    Calls Try.prog 39 #[.pointer (some ⟨h, 0, none⟩), .int .i64 f, .int .u64 n] w (Put h c vn f n w) := by
  rcases (show f = 0 ∨ f = 1 ∨ f = 2 ∨ f = 3 ∨ f = 4 ∨ f = 5 by omega) with rfl | rfl | rfl | rfl | rfl | rfl
  · obtain ⟨c1, c2, c3, c4, c5, c6, c7⟩ := fld_cells hh
    have hfr := frozen_of_row w h 1 _ _ hh
    have hst : (w.setCell ⟨h, 1, none⟩ (.int .i64 n)).heap[h]? = some (.cells (cArr (putC c 0 n) vn) 25 (0, 0)) := by rw [heap_setCell_same w h 1 _ _ _ hh]; rfl
    have HST := Lib.hid hst
    clear hst hh
    go_enter Try.func39, Try.ntmps39
    go_wp2
    refine bodyPost_end (results_none rfl _ _ _) rfl ?_
    exact ⟨rfl, HST.out, Only.setCell _ _ _ rfl, by simp⟩
  · obtain ⟨c1, c2, c3, c4, c5, c6, c7⟩ := fld_cells hh
    have hfr := frozen_of_row w h 4 _ _ hh
    have hst : (w.setCell ⟨h, 4, none⟩ (.int .u64 n)).heap[h]? = some (.cells (cArr (putC c 1 n) vn) 25 (0, 0)) := by rw [heap_setCell_same w h 4 _ _ _ hh]; rfl
    have HST := Lib.hid hst
    clear hst hh
    go_enter Try.func39, Try.ntmps39
    go_wp2
    refine bodyPost_end (results_none rfl _ _ _) rfl ?_
    exact ⟨rfl, HST.out, Only.setCell _ _ _ rfl, by simp⟩
  · obtain ⟨c1, c2, c3, c4, c5, c6, c7⟩ := fld_cells hh
    have hfr := frozen_of_row w h 5 _ _ hh
    have hst : (w.setCell ⟨h, 5, none⟩ (.int .u64 n)).heap[h]? = some (.cells (cArr (putC c 2 n) vn) 25 (0, 0)) := by rw [heap_setCell_same w h 5 _ _ _ hh]; rfl
    have HST := Lib.hid hst
    clear hst hh
    go_enter Try.func39, Try.ntmps39
    go_wp2
    refine bodyPost_end (results_none rfl _ _ _) rfl ?_
    exact ⟨rfl, HST.out, Only.setCell _ _ _ rfl, by simp⟩
  · obtain ⟨c1, c2, c3, c4, c5, c6, c7⟩ := fld_cells hh
    have hfr := frozen_of_row w h 2 _ _ hh
    have hst : (w.setCell ⟨h, 2, none⟩ (.int .i64 n)).heap[h]? = some (.cells (cArr (putC c 3 n) vn) 25 (0, 0)) := by rw [heap_setCell_same w h 2 _ _ _ hh]; rfl
    have HST := Lib.hid hst
    clear hst hh
    go_enter Try.func39, Try.ntmps39
    go_wp2
    refine bodyPost_end (results_none rfl _ _ _) rfl ?_
    exact ⟨rfl, HST.out, Only.setCell _ _ _ rfl, by simp⟩
  · obtain ⟨c1, c2, c3, c4, c5, c6, c7⟩ := fld_cells hh
    have hfr := frozen_of_row w h 6 _ _ hh
    have hst : (w.setCell ⟨h, 6, none⟩ (.int .u64 n)).heap[h]? = some (.cells (cArr (putC c 4 n) vn) 25 (0, 0)) := by rw [heap_setCell_same w h 6 _ _ _ hh]; rfl
    have HST := Lib.hid hst
    clear hst hh
    go_enter Try.func39, Try.ntmps39
    go_wp2
    refine bodyPost_end (results_none rfl _ _ _) rfl ?_
    exact ⟨rfl, HST.out, Only.setCell _ _ _ rfl, by simp⟩
  · obtain ⟨c1, c2, c3, c4, c5, c6, c7⟩ := fld_cells hh
    have hfr := frozen_of_row w h 7 _ _ hh
    have hst : (w.setCell ⟨h, 7, none⟩ (.int .u64 n)).heap[h]? = some (.cells (cArr (putC c 5 n) vn) 25 (0, 0)) := by rw [heap_setCell_same w h 7 _ _ _ hh]; rfl
    have HST := Lib.hid hst
    clear hst hh
    go_enter Try.func39, Try.ntmps39
    go_wp2
    refine bodyPost_end (results_none rfl _ _ _) rfl ?_
    exact ⟨rfl, HST.out, Only.setCell _ _ _ rfl, by simp⟩
end Cm
end Go.Proofs.Ytlpoljknohiihaa
