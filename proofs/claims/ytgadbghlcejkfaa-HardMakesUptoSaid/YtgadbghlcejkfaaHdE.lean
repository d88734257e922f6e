/- Whether two that last are the same, where both are one. No condition. -/
import Derived.Test.YtgadbghlcejkfaaHdT
import Derived.Test.YtgadbghlcejkfaaEnE
import Derived.Test.YtgadbghlcejkfaaShE
namespace Go.Proofs.Ytgadbghlcejkfaa
open Go.ChangeShapes Go.WideShapes Go.ChangeAt Go.RowKit
set_option linter.unusedVariables false
set_option maxRecDepth 100000
namespace Hd
set_option maxHeartbeats 4000000 in
theorem same_any (h : Har) (v u : Value) (w : World) (hh : IsHard w v h) (gg : IsHard w u h) :
    Calls Try.prog 19 #[v, u] w fun e w' => e = .returned (.bool true) ∧ Below w.heap.size w w' := by
  obtain ⟨vn, vh, vl, vg, rfl, hn, hhe, hl, hg, hwf⟩ := hh
  obtain ⟨un, uh, ul, ug, rfl, gn, ghe, gl, gg, -⟩ := gg
  have hb0 : Below w.heap.size w ((w.alloc (.cells (hArr h vn vh vl vg) 32)).alloc (.cells (hArr h un uh ul ug) 32)) := ((Below.refl _ _).alloc (Nat.le_refl _) _).alloc (by simp) _
  have HB := Lib.hid hb0
  have HI : Hid (IsShot _ (.agg (sArr h.shot vn vh vl)) h.shot) := Lib.hid ⟨vn, vh, vl, rfl, hn.below hb0 (Nat.le_refl _), hhe.below hb0 (Nat.le_refl _), hl.below hb0 (Nat.le_refl _), hwf.2.2.2⟩
  have GI : Hid (IsShot _ (.agg (sArr h.shot un uh ul)) h.shot) := Lib.hid ⟨un, uh, ul, rfl, gn.below hb0 (Nat.le_refl _), ghe.below hb0 (Nat.le_refl _), gl.below hb0 (Nat.le_refl _), hwf.2.2.2⟩
  have HL := Lib.hid (hg.below hb0 (Nat.le_refl _))
  have GL := Lib.hid (gg.below hb0 (Nat.le_refl _))
  have hA : ((w.alloc (.cells (hArr h vn vh vl vg) 32)).alloc (.cells (hArr h un uh ul ug) 32)).heap[w.heap.size]? = some (.cells (hArr h vn vh vl vg) 32 (0, 0)) := heap_alloc2_old _ _ _
  have hC : ((w.alloc (.cells (hArr h vn vh vl vg) 32)).alloc (.cells (hArr h un uh ul ug) 32)).heap[w.heap.size + 1]? = some (.cells (hArr h un uh ul ug) 32 (0, 0)) := heap_alloc2_new _ _ _
  have HA := Lib.hid hA
  have HC := Lib.hid hC
  clear hn hhe hl hg hwf gn ghe gl gg hb0 hA hC
  go_enter Try.func19, Try.ntmps19
  go_wp2_with fail
  refine (Sh.same_any h.shot _ _ _ HI.out GI.out).mono ?_
  rintro e w1 ⟨rfl, hb1⟩
  have hA1 := (hb1.block w.heap.size ((Array.getElem?_eq_some_iff.1 HA.out).1)).trans HA.out
  have hC1 := (hb1.block (w.heap.size + 1) ((Array.getElem?_eq_some_iff.1 HC.out).1)).trans HC.out
  have HB1 := Lib.hid (HB.out.trans (hb1.mono HB.out.size))
  have HL1 := Lib.hid (HL.out.below hb1 (Nat.le_refl _))
  have GL1 := Lib.hid (GL.out.below hb1 (Nat.le_refl _))
  have p10 := (cells11 hA1).2.2.2.2.2.2.2.2.2.2
  have q10 := (cells11 hC1).2.2.2.2.2.2.2.2.2.2
  clear hb1 hA1 hC1
  go_wp2_with fail
  refine (ents_same h.log _ _ _ HL1.out GL1.out).mono ?_
  rintro e w2 ⟨rfl, hb2⟩
  go_wp2
  go_ret
  exact ⟨rfl, HB1.out.trans (hb2.mono HB1.out.size)⟩
end Hd
end Go.Proofs.Ytgadbghlcejkfaa
