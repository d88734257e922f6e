/- Which records may follow: hard.follows, arm by arm. No condition. -/
import Derived.Test.YtgadbghlcejkfaaRcG
import Derived.Deep.QuietTactic
import Derived.BigQuiet
namespace Go.Proofs.Ytgadbghlcejkfaa
open Go.ChangeShapes Go.WideShapes Go.ChangeAt Go.RowKit Go.Deep
set_option linter.unusedVariables false
set_option maxRecDepth 100000
namespace Rc
open Nv
def followsP (h : Har) (r : RecR) : Prop :=
  if r.kind = 1 then h.boot < r.boot
  else if r.kind = 2 then h.term < r.term ∨ (r.term = h.term ∧ (h.vote = 0 ∨ h.vote = r.vote))
  else if r.kind = 3 then r.index = h.shot.index + h.log.length + 1
  else if r.kind = 4 then h.shot.index < r.index ∧ r.index ≤ h.shot.index + h.log.length + 1
  else h.shot.index ≤ r.shot.index
set_option maxHeartbeats 4000000 in
theorem fo_1 (h : Har) (vv : Value) (r : RecR) (v : Value) (w : World) (hh : IsHard w vv h) (hr : IsRec w v r) (hlast : h.shot.index + h.log.length ≤ 4611686018427387904) (hk : r.kind = 1) : Calls Try.prog 47 #[vv, v] w (Tells (followsP h r) w) := by
  have HIH := Lib.hid hh
  obtain ⟨vn, vh, vl, vg, rfl, hn, hhe, hl, hg, hhw⟩ := id hh
  obtain ⟨g1, q1, rfl, -⟩ := id hn
  obtain ⟨g2, q2, rfl, -⟩ := id hhe
  obtain ⟨g3, q3, rfl, -⟩ := id hl
  obtain ⟨g4, q4, rfl, -⟩ := Hd.IsLog.len hg
  obtain ⟨vc, vn, vh, vl, rfl, ⟨hc, hn2, hh2, hl2⟩, hwf⟩ := id hr
  obtain ⟨a1, b1, rfl, -⟩ := id hc
  obtain ⟨a2, b2, rfl, -⟩ := id hn2
  obtain ⟨a3, b3, rfl, -⟩ := id hh2
  obtain ⟨a4, b4, rfl, -⟩ := id hl2
  have hb0 : Below w.heap.size w ((w.alloc (.cells (hArr h (.slice g1 h.shot.nodes.length q1) (.slice g2 h.shot.led.held.length q2) (.slice g3 h.shot.led.last.length q3) (.slice g4 h.log.length q4)) 32)).alloc (.cells (rArr r (.slice a1 r.ent.cmd.nodes.length b1) (.slice a2 r.shot.nodes.length b2) (.slice a3 r.shot.led.held.length b3) (.slice a4 r.shot.led.last.length b4)) 38)) := ((Below.refl _ _).alloc (Nat.le_refl _) _).alloc (by simp) _
  have hA0 := heap_alloc2_old w (.cells (hArr h (.slice g1 h.shot.nodes.length q1) (.slice g2 h.shot.led.held.length q2) (.slice g3 h.shot.led.last.length q3) (.slice g4 h.log.length q4)) 32 (0, 0)) (.cells (rArr r (.slice a1 r.ent.cmd.nodes.length b1) (.slice a2 r.shot.nodes.length b2) (.slice a3 r.shot.led.held.length b3) (.slice a4 r.shot.led.last.length b4)) 38 (0, 0))
  have hB0 := heap_alloc2_new w (.cells (hArr h (.slice g1 h.shot.nodes.length q1) (.slice g2 h.shot.led.held.length q2) (.slice g3 h.shot.led.last.length q3) (.slice g4 h.log.length q4)) 32 (0, 0)) (.cells (rArr r (.slice a1 r.ent.cmd.nodes.length b1) (.slice a2 r.shot.nodes.length b2) (.slice a3 r.shot.led.held.length b3) (.slice a4 r.shot.led.last.length b4)) 38 (0, 0))
  have HB := Lib.hid hb0
  have HLA := Lib.hid hlast
  have HA0 := Lib.hid hA0
  have HB0 := Lib.hid hB0
  have hw1 := bounds_u64 hwf.2.2.1
  have hw2 := bounds_u64 hwf.2.2.2.1
  have hw3 := bounds_u64 hwf.2.2.2.2.1
  have hx0 := Ld.u64_nonneg hhw.2.2.2.1
  obtain ⟨d0, d1, d2, d3, d4, d5, d6, d7, d8, d9, d10⟩ := Hd.cells11 hA0
  obtain ⟨c0, c1, c2, c3, c4, c5, c6, c7, c8, c9, c10, c11, c12, c13, c14, c15, c16, c17, c18, c19, c20⟩ := cells21 hB0
  clear hh hr hn hhe hl hg hhw hc hn2 hh2 hl2 hwf hb0 hA0 hB0 hlast
  have n1 : (r.kind == 1) = true := beq_iff_eq.2 hk
  have HK := Lib.hid hk
  by_cases hx : h.boot < r.boot
  · have HX : Hid (followsP h r) := Lib.hid (by unfold followsP; rw [if_pos HK.out]; exact hx)
    clear hk
    go_enter Try.func47, Try.ntmps47
    go_wp2
    go_ret
    exact tells_yes HX.out HB.out
  · have HX : Hid (¬ followsP h r) := Lib.hid (by unfold followsP; rw [if_pos HK.out]; exact hx)
    have hx1 : r.boot ≤ h.boot := by omega
    clear hk
    go_enter Try.func47, Try.ntmps47
    go_wp2
    go_ret
    exact tells_no HX.out HB.out
set_option maxHeartbeats 4000000 in
theorem fo_5 (h : Har) (vv : Value) (r : RecR) (v : Value) (w : World) (hh : IsHard w vv h) (hr : IsRec w v r) (hlast : h.shot.index + h.log.length ≤ 4611686018427387904) (hk1 : r.kind ≠ 1) (hk2 : r.kind ≠ 2) (hk3 : r.kind ≠ 3) (hk4 : r.kind ≠ 4) : Calls Try.prog 47 #[vv, v] w (Tells (followsP h r) w) := by
  have HIH := Lib.hid hh
  obtain ⟨vn, vh, vl, vg, rfl, hn, hhe, hl, hg, hhw⟩ := id hh
  obtain ⟨g1, q1, rfl, -⟩ := id hn
  obtain ⟨g2, q2, rfl, -⟩ := id hhe
  obtain ⟨g3, q3, rfl, -⟩ := id hl
  obtain ⟨g4, q4, rfl, -⟩ := Hd.IsLog.len hg
  obtain ⟨vc, vn, vh, vl, rfl, ⟨hc, hn2, hh2, hl2⟩, hwf⟩ := id hr
  obtain ⟨a1, b1, rfl, -⟩ := id hc
  obtain ⟨a2, b2, rfl, -⟩ := id hn2
  obtain ⟨a3, b3, rfl, -⟩ := id hh2
  obtain ⟨a4, b4, rfl, -⟩ := id hl2
  have hb0 : Below w.heap.size w ((w.alloc (.cells (hArr h (.slice g1 h.shot.nodes.length q1) (.slice g2 h.shot.led.held.length q2) (.slice g3 h.shot.led.last.length q3) (.slice g4 h.log.length q4)) 32)).alloc (.cells (rArr r (.slice a1 r.ent.cmd.nodes.length b1) (.slice a2 r.shot.nodes.length b2) (.slice a3 r.shot.led.held.length b3) (.slice a4 r.shot.led.last.length b4)) 38)) := ((Below.refl _ _).alloc (Nat.le_refl _) _).alloc (by simp) _
  have hA0 := heap_alloc2_old w (.cells (hArr h (.slice g1 h.shot.nodes.length q1) (.slice g2 h.shot.led.held.length q2) (.slice g3 h.shot.led.last.length q3) (.slice g4 h.log.length q4)) 32 (0, 0)) (.cells (rArr r (.slice a1 r.ent.cmd.nodes.length b1) (.slice a2 r.shot.nodes.length b2) (.slice a3 r.shot.led.held.length b3) (.slice a4 r.shot.led.last.length b4)) 38 (0, 0))
  have hB0 := heap_alloc2_new w (.cells (hArr h (.slice g1 h.shot.nodes.length q1) (.slice g2 h.shot.led.held.length q2) (.slice g3 h.shot.led.last.length q3) (.slice g4 h.log.length q4)) 32 (0, 0)) (.cells (rArr r (.slice a1 r.ent.cmd.nodes.length b1) (.slice a2 r.shot.nodes.length b2) (.slice a3 r.shot.led.held.length b3) (.slice a4 r.shot.led.last.length b4)) 38 (0, 0))
  have HB := Lib.hid hb0
  have HLA := Lib.hid hlast
  have HA0 := Lib.hid hA0
  have HB0 := Lib.hid hB0
  have hw1 := bounds_u64 hwf.2.2.1
  have hw2 := bounds_u64 hwf.2.2.2.1
  have hw3 := bounds_u64 hwf.2.2.2.2.1
  have hx0 := Ld.u64_nonneg hhw.2.2.2.1
  obtain ⟨d0, d1, d2, d3, d4, d5, d6, d7, d8, d9, d10⟩ := Hd.cells11 hA0
  obtain ⟨c0, c1, c2, c3, c4, c5, c6, c7, c8, c9, c10, c11, c12, c13, c14, c15, c16, c17, c18, c19, c20⟩ := cells21 hB0
  clear hh hr hn hhe hl hg hhw hc hn2 hh2 hl2 hwf hb0 hA0 hB0 hlast
  have n1 : (r.kind == 1) = false := beq_eq_false_iff_ne.2 hk1
  have n2 : (r.kind == 2) = false := beq_eq_false_iff_ne.2 hk2
  have n3 : (r.kind == 3) = false := beq_eq_false_iff_ne.2 hk3
  have n4 : (r.kind == 4) = false := beq_eq_false_iff_ne.2 hk4
  have HU : Hid (followsP h r ↔ h.shot.index ≤ r.shot.index) := Lib.hid (by unfold followsP; rw [if_neg hk1, if_neg hk2, if_neg hk3, if_neg hk4])
  clear hk1 hk2 hk3 hk4
  by_cases hx : h.shot.index ≤ r.shot.index
  · have HX : Hid (followsP h r) := Lib.hid (HU.out.2 hx)
    go_enter Try.func47, Try.ntmps47
    go_wp2
    go_ret
    exact tells_yes HX.out HB.out
  · have HX : Hid (¬ followsP h r) := Lib.hid (fun g => hx (HU.out.1 g))
    have hx1 : r.shot.index < h.shot.index := by omega
    go_enter Try.func47, Try.ntmps47
    go_wp2
    go_ret
    exact tells_no HX.out HB.out
end Rc
end Go.Proofs.Ytgadbghlcejkfaa
