/- Whether two snapshots are the same, where both are one. No condition. -/
import Derived.Test.YtgadbghlcejkfaaShC
import Derived.Test.YtgadbghlcejkfaaLcE
namespace Go.Proofs.Ytgadbghlcejkfaa
open Go.ChangeShapes Go.WideShapes Go.ChangeAt Go.RowKit
set_option linter.unusedVariables false
set_option maxRecDepth 100000
namespace Sh
theorem nodes_same (v u : Value) (xs : List Int) (w : World) (hx : Sl .i64 w v xs) (hz : Sl .i64 w u xs) :
    Calls Try.prog 73 #[v, u] w fun e w' => e = .returned (.bool true) ∧ Below w.heap.size w w' :=
  (Nd.same_any v u xs xs w hx hz).mono fun e w' ⟨he, hb⟩ => ⟨he.trans (ret_bool (decide_eq_true rfl)), hb⟩
set_option maxHeartbeats 2000000 in
theorem same_any (s : Sho) (v u : Value) (w : World) (h : IsShot w v s) (g : IsShot w u s) :
    Calls Try.prog 34 #[v, u] w fun e w' => e = .returned (.bool true) ∧ Below w.heap.size w w' := by
  obtain ⟨vn, vh, vl, rfl, hn, hh, hl, hwf⟩ := h
  obtain ⟨un, uh, ul, rfl, gn, gh, gl, -⟩ := g
  have hb0 : Below w.heap.size w ((w.alloc (.cells (sArr s vn vh vl) 29)).alloc (.cells (sArr s un uh ul) 29)) := ((Below.refl _ _).alloc (Nat.le_refl _) _).alloc (by simp) _
  have HB := Lib.hid hb0
  have HN := Lib.hid (hn.below hb0 (Nat.le_refl _))
  have GN := Lib.hid (gn.below hb0 (Nat.le_refl _))
  have HI : Hid (IsLed _ (.agg (lArr s.led vh vl)) s.led) := Lib.hid ⟨vh, vl, rfl, hh.below hb0 (Nat.le_refl _), hl.below hb0 (Nat.le_refl _), hwf.2.2⟩
  have GI : Hid (IsLed _ (.agg (lArr s.led uh ul)) s.led) := Lib.hid ⟨uh, ul, rfl, gh.below hb0 (Nat.le_refl _), gl.below hb0 (Nat.le_refl _), hwf.2.2⟩
  have hA : ((w.alloc (.cells (sArr s vn vh vl) 29)).alloc (.cells (sArr s un uh ul) 29)).heap[w.heap.size]? = some (.cells (sArr s vn vh vl) 29 (0, 0)) := heap_alloc2_old _ _ _
  have hC : ((w.alloc (.cells (sArr s vn vh vl) 29)).alloc (.cells (sArr s un uh ul) 29)).heap[w.heap.size + 1]? = some (.cells (sArr s un uh ul) 29 (0, 0)) := heap_alloc2_new _ _ _
  have HA := Lib.hid hA
  have HC := Lib.hid hC
  clear hn hh hl hwf gn gh gl hb0 hA hC
  go_enter Try.func34, Try.ntmps34
  go_wp2_with fail
  refine (nodes_same _ _ _ _ HN.out GN.out).mono ?_
  rintro e w1 ⟨rfl, hb1⟩
  have hA1 := (hb1.block w.heap.size ((Array.getElem?_eq_some_iff.1 HA.out).1)).trans HA.out
  have hC1 := (hb1.block (w.heap.size + 1) ((Array.getElem?_eq_some_iff.1 HC.out).1)).trans HC.out
  have HB1 := Lib.hid (HB.out.trans (hb1.mono HB.out.size))
  have HI1 := Lib.hid (HI.out.below hb1 (Nat.le_refl _))
  have GI1 := Lib.hid (GI.out.below hb1 (Nat.le_refl _))
  obtain ⟨p0, p1, p2, p3, p4, p5, p6⟩ := cells7 hA1
  obtain ⟨q0, q1, q2, q3, q4, q5, q6⟩ := cells7 hC1
  clear hb1 hA1 hC1
  go_wp2_with fail
  refine (Ld.same_any s.led _ _ _ HI1.out GI1.out).mono ?_
  rintro e w2 ⟨rfl, hb2⟩
  go_wp2
  go_ret
  exact ⟨rfl, HB1.out.trans (hb2.mono HB1.out.size)⟩
end Sh
end Go.Proofs.Ytgadbghlcejkfaa
