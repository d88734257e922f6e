/- Which records may follow: hard.follows, arm by arm. No condition. Which records may follow: hard.follows, the arms that call last. No condition. Which records may follow: hard.follows, terms and votes. No condition. Which records may follow: hard.follows, cuts; and all arms. No condition. -/
import Derived.Test.YtlkgmjhejocobaaRcM
import Derived.Deep.QuietTactic
import Derived.BigQuiet
import Derived.Test.YtlkgmjhejocobaaVcN
namespace Go.Proofs.Ytlkgmjhejocobaa
open Go.ChangeShapes Go.WideShapes Go.ChangeAt Go.RowKit Go.Deep
set_option linter.unusedVariables false
set_option maxRecDepth 100000
namespace Rc
open Nv
def followsP (h : Har) (r : RecR) : Prop :=
  if r.kind = 1 then h.boot < r.boot
  else if r.kind = 2 then h.term < r.term ∨ (r.term = h.term ∧ (h.vote = 0 ∨ h.vote = r.vote))
  else if r.kind = 3 then r.index = h.shot.index + h.log.length + 1
  else if r.kind = 4 then h.shot.index < r.index ∧ r.index ≤ h.shot.index + h.log.length + 1
  else h.shot.index ≤ r.shot.index
set_option maxHeartbeats 4000000 in
theorem fo_1 (h : Har) (vv : Value) (r : RecR) (v : Value) (w : World) (hh : IsHard w vv h) (hr : IsRec w v r) (hlast : h.shot.index + h.log.length ≤ 4611686018427387904) (hk : r.kind = 1) : Calls Try.prog 57 #[vv, v] w (Tells (followsP h r) w) := by
  have HIH := Lib.hid hh
  obtain ⟨vn, vh, vl, vg, rfl, hn, hhe, hl, hg, hhw⟩ := id hh
  obtain ⟨g1, q1, rfl, -⟩ := id hn
  obtain ⟨g2, q2, rfl, -⟩ := id hhe
  obtain ⟨g3, q3, rfl, -⟩ := id hl
  obtain ⟨g4, q4, rfl, -⟩ := Hd.IsLog.len hg
  obtain ⟨vc, vn, vh, vl, rfl, ⟨hc, hn2, hh2, hl2⟩, hwf⟩ := id hr
  obtain ⟨a1, b1, rfl, -⟩ := id hc
  obtain ⟨a2, b2, rfl, -⟩ := id hn2
  obtain ⟨a3, b3, rfl, -⟩ := id hh2
  obtain ⟨a4, b4, rfl, -⟩ := id hl2
  have hb0 : Below w.heap.size w ((w.alloc (.cells (hArr h (.slice g1 h.shot.nodes.length q1) (.slice g2 h.shot.led.held.length q2) (.slice g3 h.shot.led.last.length q3) (.slice g4 h.log.length q4)) 43)).alloc (.cells (rArr r (.slice a1 r.ent.cmd.nodes.length b1) (.slice a2 r.shot.nodes.length b2) (.slice a3 r.shot.led.held.length b3) (.slice a4 r.shot.led.last.length b4)) 49)) := ((Below.refl _ _).alloc (Nat.le_refl _) _).alloc (by simp) _
  have hA0 := heap_alloc2_old w (.cells (hArr h (.slice g1 h.shot.nodes.length q1) (.slice g2 h.shot.led.held.length q2) (.slice g3 h.shot.led.last.length q3) (.slice g4 h.log.length q4)) 43 (0, 0)) (.cells (rArr r (.slice a1 r.ent.cmd.nodes.length b1) (.slice a2 r.shot.nodes.length b2) (.slice a3 r.shot.led.held.length b3) (.slice a4 r.shot.led.last.length b4)) 49 (0, 0))
  have hB0 := heap_alloc2_new w (.cells (hArr h (.slice g1 h.shot.nodes.length q1) (.slice g2 h.shot.led.held.length q2) (.slice g3 h.shot.led.last.length q3) (.slice g4 h.log.length q4)) 43 (0, 0)) (.cells (rArr r (.slice a1 r.ent.cmd.nodes.length b1) (.slice a2 r.shot.nodes.length b2) (.slice a3 r.shot.led.held.length b3) (.slice a4 r.shot.led.last.length b4)) 49 (0, 0))
  have HB := Lib.hid hb0
  have HLA := Lib.hid hlast
  have HA0 := Lib.hid hA0
  have HB0 := Lib.hid hB0
  have hw1 := bounds_u64 hwf.2.2.1
  have hw2 := bounds_u64 hwf.2.2.2.1
  have hw3 := bounds_u64 hwf.2.2.2.2.1
  have hx0 := Ld.u64_nonneg hhw.2.2.2.1
  obtain ⟨d0, d1, d2, d3, d4, d5, d6, d7, d8, d9, d10⟩ := Hd.cells11 hA0
  obtain ⟨c0, c1, c2, c3, c4, c5, c6, c7, c8, c9, c10, c11, c12, c13, c14, c15, c16, c17, c18, c19, c20⟩ := cells21 hB0
  clear hh hr hn hhe hl hg hhw hc hn2 hh2 hl2 hwf hb0 hA0 hB0 hlast
  have n1 : (r.kind == 1) = true := beq_iff_eq.2 hk
  have HK := Lib.hid hk
  by_cases hx : h.boot < r.boot
  · have HX : Hid (followsP h r) := Lib.hid (by unfold followsP; rw [if_pos HK.out]; exact hx)
    clear hk
    go_enter Try.func57, Try.ntmps57
    go_wp2
    go_ret
    exact tells_yes HX.out HB.out
  · have HX : Hid (¬ followsP h r) := Lib.hid (by unfold followsP; rw [if_pos HK.out]; exact hx)
    have hx1 : r.boot ≤ h.boot := by omega
    clear hk
    go_enter Try.func57, Try.ntmps57
    go_wp2
    go_ret
    exact tells_no HX.out HB.out
set_option maxHeartbeats 4000000 in
theorem fo_5 (h : Har) (vv : Value) (r : RecR) (v : Value) (w : World) (hh : IsHard w vv h) (hr : IsRec w v r) (hlast : h.shot.index + h.log.length ≤ 4611686018427387904) (hk1 : r.kind ≠ 1) (hk2 : r.kind ≠ 2) (hk3 : r.kind ≠ 3) (hk4 : r.kind ≠ 4) : Calls Try.prog 57 #[vv, v] w (Tells (followsP h r) w) := by
  have HIH := Lib.hid hh
  obtain ⟨vn, vh, vl, vg, rfl, hn, hhe, hl, hg, hhw⟩ := id hh
  obtain ⟨g1, q1, rfl, -⟩ := id hn
  obtain ⟨g2, q2, rfl, -⟩ := id hhe
  obtain ⟨g3, q3, rfl, -⟩ := id hl
  obtain ⟨g4, q4, rfl, -⟩ := Hd.IsLog.len hg
  obtain ⟨vc, vn, vh, vl, rfl, ⟨hc, hn2, hh2, hl2⟩, hwf⟩ := id hr
  obtain ⟨a1, b1, rfl, -⟩ := id hc
  obtain ⟨a2, b2, rfl, -⟩ := id hn2
  obtain ⟨a3, b3, rfl, -⟩ := id hh2
  obtain ⟨a4, b4, rfl, -⟩ := id hl2
  have hb0 : Below w.heap.size w ((w.alloc (.cells (hArr h (.slice g1 h.shot.nodes.length q1) (.slice g2 h.shot.led.held.length q2) (.slice g3 h.shot.led.last.length q3) (.slice g4 h.log.length q4)) 43)).alloc (.cells (rArr r (.slice a1 r.ent.cmd.nodes.length b1) (.slice a2 r.shot.nodes.length b2) (.slice a3 r.shot.led.held.length b3) (.slice a4 r.shot.led.last.length b4)) 49)) := ((Below.refl _ _).alloc (Nat.le_refl _) _).alloc (by simp) _
  have hA0 := heap_alloc2_old w (.cells (hArr h (.slice g1 h.shot.nodes.length q1) (.slice g2 h.shot.led.held.length q2) (.slice g3 h.shot.led.last.length q3) (.slice g4 h.log.length q4)) 43 (0, 0)) (.cells (rArr r (.slice a1 r.ent.cmd.nodes.length b1) (.slice a2 r.shot.nodes.length b2) (.slice a3 r.shot.led.held.length b3) (.slice a4 r.shot.led.last.length b4)) 49 (0, 0))
  have hB0 := heap_alloc2_new w (.cells (hArr h (.slice g1 h.shot.nodes.length q1) (.slice g2 h.shot.led.held.length q2) (.slice g3 h.shot.led.last.length q3) (.slice g4 h.log.length q4)) 43 (0, 0)) (.cells (rArr r (.slice a1 r.ent.cmd.nodes.length b1) (.slice a2 r.shot.nodes.length b2) (.slice a3 r.shot.led.held.length b3) (.slice a4 r.shot.led.last.length b4)) 49 (0, 0))
  have HB := Lib.hid hb0
  have HLA := Lib.hid hlast
  have HA0 := Lib.hid hA0
  have HB0 := Lib.hid hB0
  have hw1 := bounds_u64 hwf.2.2.1
  have hw2 := bounds_u64 hwf.2.2.2.1
  have hw3 := bounds_u64 hwf.2.2.2.2.1
  have hx0 := Ld.u64_nonneg hhw.2.2.2.1
  obtain ⟨d0, d1, d2, d3, d4, d5, d6, d7, d8, d9, d10⟩ := Hd.cells11 hA0
  obtain ⟨c0, c1, c2, c3, c4, c5, c6, c7, c8, c9, c10, c11, c12, c13, c14, c15, c16, c17, c18, c19, c20⟩ := cells21 hB0
  clear hh hr hn hhe hl hg hhw hc hn2 hh2 hl2 hwf hb0 hA0 hB0 hlast
  have n1 : (r.kind == 1) = false := beq_eq_false_iff_ne.2 hk1
  have n2 : (r.kind == 2) = false := beq_eq_false_iff_ne.2 hk2
  have n3 : (r.kind == 3) = false := beq_eq_false_iff_ne.2 hk3
  have n4 : (r.kind == 4) = false := beq_eq_false_iff_ne.2 hk4
  have HU : Hid (followsP h r ↔ h.shot.index ≤ r.shot.index) := Lib.hid (by unfold followsP; rw [if_neg hk1, if_neg hk2, if_neg hk3, if_neg hk4])
  clear hk1 hk2 hk3 hk4
  by_cases hx : h.shot.index ≤ r.shot.index
  · have HX : Hid (followsP h r) := Lib.hid (HU.out.2 hx)
    go_enter Try.func57, Try.ntmps57
    go_wp2
    go_ret
    exact tells_yes HX.out HB.out
  · have HX : Hid (¬ followsP h r) := Lib.hid (fun g => hx (HU.out.1 g))
    have hx1 : r.shot.index < h.shot.index := by omega
    go_enter Try.func57, Try.ntmps57
    go_wp2
    go_ret
    exact tells_no HX.out HB.out
end Rc
end Go.Proofs.Ytlkgmjhejocobaa
namespace Go.Proofs.Ytlkgmjhejocobaa
open Go.ChangeShapes Go.WideShapes Go.ChangeAt Go.RowKit Go.Deep
set_option linter.unusedVariables false
set_option maxRecDepth 100000
namespace Rc
open Nv
set_option maxHeartbeats 4000000 in
theorem fo_3 (h : Har) (vv : Value) (r : RecR) (v : Value) (w : World) (hh : IsHard w vv h) (hr : IsRec w v r) (hlast : h.shot.index + h.log.length ≤ 4611686018427387904) (hk : r.kind = 3) : Calls Try.prog 57 #[vv, v] w (Tells (followsP h r) w) := by
  have HIH := Lib.hid hh
  obtain ⟨vn, vh, vl, vg, rfl, hn, hhe, hl, hg, hhw⟩ := id hh
  obtain ⟨g1, q1, rfl, -⟩ := id hn
  obtain ⟨g2, q2, rfl, -⟩ := id hhe
  obtain ⟨g3, q3, rfl, -⟩ := id hl
  obtain ⟨g4, q4, rfl, -⟩ := Hd.IsLog.len hg
  obtain ⟨vc, vn, vh, vl, rfl, ⟨hc, hn2, hh2, hl2⟩, hwf⟩ := id hr
  obtain ⟨a1, b1, rfl, -⟩ := id hc
  obtain ⟨a2, b2, rfl, -⟩ := id hn2
  obtain ⟨a3, b3, rfl, -⟩ := id hh2
  obtain ⟨a4, b4, rfl, -⟩ := id hl2
  have hb0 : Below w.heap.size w ((w.alloc (.cells (hArr h (.slice g1 h.shot.nodes.length q1) (.slice g2 h.shot.led.held.length q2) (.slice g3 h.shot.led.last.length q3) (.slice g4 h.log.length q4)) 43)).alloc (.cells (rArr r (.slice a1 r.ent.cmd.nodes.length b1) (.slice a2 r.shot.nodes.length b2) (.slice a3 r.shot.led.held.length b3) (.slice a4 r.shot.led.last.length b4)) 49)) := ((Below.refl _ _).alloc (Nat.le_refl _) _).alloc (by simp) _
  have hA0 := heap_alloc2_old w (.cells (hArr h (.slice g1 h.shot.nodes.length q1) (.slice g2 h.shot.led.held.length q2) (.slice g3 h.shot.led.last.length q3) (.slice g4 h.log.length q4)) 43 (0, 0)) (.cells (rArr r (.slice a1 r.ent.cmd.nodes.length b1) (.slice a2 r.shot.nodes.length b2) (.slice a3 r.shot.led.held.length b3) (.slice a4 r.shot.led.last.length b4)) 49 (0, 0))
  have hB0 := heap_alloc2_new w (.cells (hArr h (.slice g1 h.shot.nodes.length q1) (.slice g2 h.shot.led.held.length q2) (.slice g3 h.shot.led.last.length q3) (.slice g4 h.log.length q4)) 43 (0, 0)) (.cells (rArr r (.slice a1 r.ent.cmd.nodes.length b1) (.slice a2 r.shot.nodes.length b2) (.slice a3 r.shot.led.held.length b3) (.slice a4 r.shot.led.last.length b4)) 49 (0, 0))
  have HB := Lib.hid hb0
  have HLA := Lib.hid hlast
  have HA0 := Lib.hid hA0
  have HB0 := Lib.hid hB0
  have hw1 := bounds_u64 hwf.2.2.1
  have hw2 := bounds_u64 hwf.2.2.2.1
  have hw3 := bounds_u64 hwf.2.2.2.2.1
  have hx0 := Ld.u64_nonneg hhw.2.2.2.1
  obtain ⟨d0, d1, d2, d3, d4, d5, d6, d7, d8, d9, d10⟩ := Hd.cells11 hA0
  obtain ⟨c0, c1, c2, c3, c4, c5, c6, c7, c8, c9, c10, c11, c12, c13, c14, c15, c16, c17, c18, c19, c20⟩ := cells21 hB0
  clear hh hr hn hhe hl hg hhw hc hn2 hh2 hl2 hwf hb0 hA0 hB0 hlast
  have n1 : (r.kind == 1) = false := beq_eq_false_iff_ne.2 (by omega)
  have n2 : (r.kind == 2) = false := beq_eq_false_iff_ne.2 (by omega)
  have n3 : (r.kind == 3) = true := beq_iff_eq.2 hk
  have HU : Hid (followsP h r ↔ r.index = h.shot.index + h.log.length + 1) := Lib.hid (by unfold followsP; rw [if_neg (by omega), if_neg (by omega), if_pos hk])
  have HIX : Hid (h.shot.index ≤ 4611686018427387904) := Lib.hid (by have := HLA.out; omega)
  have HIW := Lib.hid (HIH.out.below HB.out.drew (Nat.le_refl _))
  clear hk d0 d1 d2 d3 d4 d5 d6 d7 d8 d9 d10
  have hwr : IntKind.u64.wrap (h.shot.index + h.log.length + 1) = h.shot.index + h.log.length + 1 := by
    have := HLA.out
    have := hx0
    unfold IntKind.wrap
    simp [IntKind.signed, IntKind.bits]
    omega
  have HW : Hid ((r.index == IntKind.u64.wrap (h.shot.index + h.log.length + 1)) = true ↔ followsP h r) := Lib.hid (by rw [hwr, HU.out]; exact beq_iff_eq)
  clear hwr
  go_enter Try.func57, Try.ntmps57
  go_wp2_with fail
  go_region_with (first
    | (go_at_call 66; refine (Hd.last_any h _ _ HIW.out HIX.out).mono ?_; rintro e w1 ⟨rfl, hb1⟩; have hr1 := (hb1.block (w.heap.size + 1) (Hd.lt_of_row HB0.out)).trans HB0.out; have qc4 := (cell_of_row w1 _ 4 _ _ _ hr1).trans rfl; have HB2 := Lib.hid (HB.out.drew.trans (hb1.mono HB.out.drew.size)); clear hb1 hr1)
    | (with_reducible refine wpList_load_rowG rfl 43 (.tmp 2) rfl w.heap.size rfl 43 (hArr h (.slice g1 h.shot.nodes.length q1) (.slice g2 h.shot.led.held.length q2) (.slice g3 h.shot.led.last.length q3) (.slice g4 h.log.length q4)) (0, 0) _ HA0.out Try.underlying43 rfl (by kernel_rfl) ?_))
  all_goals go_wp2
  all_goals go_ret
  all_goals exact ⟨r.index == IntKind.u64.wrap (h.shot.index + h.log.length + 1), rfl, HW.out, HB2.out⟩
end Rc
end Go.Proofs.Ytlkgmjhejocobaa
namespace Go.Proofs.Ytlkgmjhejocobaa
open Go.ChangeShapes Go.WideShapes Go.ChangeAt Go.RowKit Go.Deep
set_option linter.unusedVariables false
set_option maxRecDepth 100000
namespace Rc
open Nv
set_option maxHeartbeats 4000000 in
theorem fo_2 (h : Har) (vv : Value) (r : RecR) (v : Value) (w : World) (hh : IsHard w vv h) (hr : IsRec w v r) (hlast : h.shot.index + h.log.length ≤ 4611686018427387904) (hk : r.kind = 2) : Calls Try.prog 57 #[vv, v] w (Tells (followsP h r) w) := by
  have HIH := Lib.hid hh
  obtain ⟨vn, vh, vl, vg, rfl, hn, hhe, hl, hg, hhw⟩ := id hh
  obtain ⟨g1, q1, rfl, -⟩ := id hn
  obtain ⟨g2, q2, rfl, -⟩ := id hhe
  obtain ⟨g3, q3, rfl, -⟩ := id hl
  obtain ⟨g4, q4, rfl, -⟩ := Hd.IsLog.len hg
  obtain ⟨vc, vn, vh, vl, rfl, ⟨hc, hn2, hh2, hl2⟩, hwf⟩ := id hr
  obtain ⟨a1, b1, rfl, -⟩ := id hc
  obtain ⟨a2, b2, rfl, -⟩ := id hn2
  obtain ⟨a3, b3, rfl, -⟩ := id hh2
  obtain ⟨a4, b4, rfl, -⟩ := id hl2
  have hb0 : Below w.heap.size w ((w.alloc (.cells (hArr h (.slice g1 h.shot.nodes.length q1) (.slice g2 h.shot.led.held.length q2) (.slice g3 h.shot.led.last.length q3) (.slice g4 h.log.length q4)) 43)).alloc (.cells (rArr r (.slice a1 r.ent.cmd.nodes.length b1) (.slice a2 r.shot.nodes.length b2) (.slice a3 r.shot.led.held.length b3) (.slice a4 r.shot.led.last.length b4)) 49)) := ((Below.refl _ _).alloc (Nat.le_refl _) _).alloc (by simp) _
  have hA0 := heap_alloc2_old w (.cells (hArr h (.slice g1 h.shot.nodes.length q1) (.slice g2 h.shot.led.held.length q2) (.slice g3 h.shot.led.last.length q3) (.slice g4 h.log.length q4)) 43 (0, 0)) (.cells (rArr r (.slice a1 r.ent.cmd.nodes.length b1) (.slice a2 r.shot.nodes.length b2) (.slice a3 r.shot.led.held.length b3) (.slice a4 r.shot.led.last.length b4)) 49 (0, 0))
  have hB0 := heap_alloc2_new w (.cells (hArr h (.slice g1 h.shot.nodes.length q1) (.slice g2 h.shot.led.held.length q2) (.slice g3 h.shot.led.last.length q3) (.slice g4 h.log.length q4)) 43 (0, 0)) (.cells (rArr r (.slice a1 r.ent.cmd.nodes.length b1) (.slice a2 r.shot.nodes.length b2) (.slice a3 r.shot.led.held.length b3) (.slice a4 r.shot.led.last.length b4)) 49 (0, 0))
  have HB := Lib.hid hb0
  have HLA := Lib.hid hlast
  have HA0 := Lib.hid hA0
  have HB0 := Lib.hid hB0
  have hw1 := bounds_u64 hwf.2.2.1
  have hw2 := bounds_u64 hwf.2.2.2.1
  have hw3 := bounds_u64 hwf.2.2.2.2.1
  have hx0 := Ld.u64_nonneg hhw.2.2.2.1
  obtain ⟨d0, d1, d2, d3, d4, d5, d6, d7, d8, d9, d10⟩ := Hd.cells11 hA0
  obtain ⟨c0, c1, c2, c3, c4, c5, c6, c7, c8, c9, c10, c11, c12, c13, c14, c15, c16, c17, c18, c19, c20⟩ := cells21 hB0
  clear hh hr hn hhe hl hg hhw hc hn2 hh2 hl2 hwf hb0 hA0 hB0 hlast
  have n1 : (r.kind == 1) = false := beq_eq_false_iff_ne.2 (by omega)
  have n2 : (r.kind == 2) = true := beq_iff_eq.2 hk
  have HU : Hid (followsP h r ↔ (h.term < r.term ∨ (r.term = h.term ∧ (h.vote = 0 ∨ h.vote = r.vote)))) := Lib.hid (by unfold followsP; rw [if_neg (by omega), if_pos hk])
  clear hk
  by_cases h1 : h.term < r.term
  · have HX : Hid (followsP h r) := Lib.hid (HU.out.2 (.inl h1))
    go_enter Try.func57, Try.ntmps57
    go_wp2
    go_ret
    exact tells_yes HX.out HB.out
  · by_cases h2 : r.term = h.term
    · have m2 : (r.term == h.term) = true := beq_iff_eq.2 h2
      have HT2 := Lib.hid h2
      by_cases h3 : h.vote = 0
      · have m3 : (h.vote == 0) = true := beq_iff_eq.2 h3
        have HX : Hid (followsP h r) := Lib.hid (HU.out.2 (.inr ⟨h2, .inl h3⟩))
        clear h2 h3
        go_enter Try.func57, Try.ntmps57
        go_wp2
        go_ret
        exact tells_yes HX.out HB.out
      · have m3 : (h.vote == 0) = false := beq_eq_false_iff_ne.2 h3
        by_cases h4 : h.vote = r.vote
        · have m4 : (h.vote == r.vote) = true := beq_iff_eq.2 h4
          have HX : Hid (followsP h r) := Lib.hid (HU.out.2 (.inr ⟨h2, .inr h4⟩))
          clear h2 h3 h4
          go_enter Try.func57, Try.ntmps57
          go_wp2
          go_ret
          exact tells_yes HX.out HB.out
        · have m4 : (h.vote == r.vote) = false := beq_eq_false_iff_ne.2 h4
          have HX : Hid (¬ followsP h r) := Lib.hid (fun g => by
            rcases HU.out.1 g with g | ⟨-, g | g⟩
            · exact h1 g
            · exact h3 g
            · exact h4 g)
          clear h2 h3 h4
          go_enter Try.func57, Try.ntmps57
          go_wp2
          go_ret
          exact tells_no HX.out HB.out
    · have m2 : (r.term == h.term) = false := beq_eq_false_iff_ne.2 h2
      have HX : Hid (¬ followsP h r) := Lib.hid (fun g => by
        rcases HU.out.1 g with g | ⟨g, -⟩
        · exact h1 g
        · exact h2 g)
      clear h2
      go_enter Try.func57, Try.ntmps57
      go_wp2
      go_ret
      exact tells_no HX.out HB.out
end Rc
end Go.Proofs.Ytlkgmjhejocobaa
namespace Go.Proofs.Ytlkgmjhejocobaa
open Go.ChangeShapes Go.WideShapes Go.ChangeAt Go.RowKit Go.Deep
set_option linter.unusedVariables false
set_option maxRecDepth 100000
namespace Rc
open Nv
theorem tells_noN {p : Prop} (h : ¬ p) {w W : World} (hb : Below w.heap.size w W) (n : Nat) : Tells p w (.returned (.bool false)) (W.drewN n) := tells_no h (hb.trans ⟨rfl, rfl, rfl, Nat.le_refl _, fun _ _ => rfl⟩)
set_option maxHeartbeats 4000000 in
theorem fo_4 (h : Har) (vv : Value) (r : RecR) (v : Value) (w : World) (hh : IsHard w vv h) (hr : IsRec w v r) (hlast : h.shot.index + h.log.length ≤ 4611686018427387904) (hk : r.kind = 4) : Calls Try.prog 57 #[vv, v] w (Tells (followsP h r) w) := by
  have HIH := Lib.hid hh
  obtain ⟨vn, vh, vl, vg, rfl, hn, hhe, hl, hg, hhw⟩ := id hh
  obtain ⟨g1, q1, rfl, -⟩ := id hn
  obtain ⟨g2, q2, rfl, -⟩ := id hhe
  obtain ⟨g3, q3, rfl, -⟩ := id hl
  obtain ⟨g4, q4, rfl, -⟩ := Hd.IsLog.len hg
  obtain ⟨vc, vn, vh, vl, rfl, ⟨hc, hn2, hh2, hl2⟩, hwf⟩ := id hr
  obtain ⟨a1, b1, rfl, -⟩ := id hc
  obtain ⟨a2, b2, rfl, -⟩ := id hn2
  obtain ⟨a3, b3, rfl, -⟩ := id hh2
  obtain ⟨a4, b4, rfl, -⟩ := id hl2
  have hb0 : Below w.heap.size w ((w.alloc (.cells (hArr h (.slice g1 h.shot.nodes.length q1) (.slice g2 h.shot.led.held.length q2) (.slice g3 h.shot.led.last.length q3) (.slice g4 h.log.length q4)) 43)).alloc (.cells (rArr r (.slice a1 r.ent.cmd.nodes.length b1) (.slice a2 r.shot.nodes.length b2) (.slice a3 r.shot.led.held.length b3) (.slice a4 r.shot.led.last.length b4)) 49)) := ((Below.refl _ _).alloc (Nat.le_refl _) _).alloc (by simp) _
  have hA0 := heap_alloc2_old w (.cells (hArr h (.slice g1 h.shot.nodes.length q1) (.slice g2 h.shot.led.held.length q2) (.slice g3 h.shot.led.last.length q3) (.slice g4 h.log.length q4)) 43 (0, 0)) (.cells (rArr r (.slice a1 r.ent.cmd.nodes.length b1) (.slice a2 r.shot.nodes.length b2) (.slice a3 r.shot.led.held.length b3) (.slice a4 r.shot.led.last.length b4)) 49 (0, 0))
  have hB0 := heap_alloc2_new w (.cells (hArr h (.slice g1 h.shot.nodes.length q1) (.slice g2 h.shot.led.held.length q2) (.slice g3 h.shot.led.last.length q3) (.slice g4 h.log.length q4)) 43 (0, 0)) (.cells (rArr r (.slice a1 r.ent.cmd.nodes.length b1) (.slice a2 r.shot.nodes.length b2) (.slice a3 r.shot.led.held.length b3) (.slice a4 r.shot.led.last.length b4)) 49 (0, 0))
  have HB := Lib.hid hb0
  have HLA := Lib.hid hlast
  have HA0 := Lib.hid hA0
  have HB0 := Lib.hid hB0
  have hw1 := bounds_u64 hwf.2.2.1
  have hw2 := bounds_u64 hwf.2.2.2.1
  have hw3 := bounds_u64 hwf.2.2.2.2.1
  have hx0 := Ld.u64_nonneg hhw.2.2.2.1
  obtain ⟨d0, d1, d2, d3, d4, d5, d6, d7, d8, d9, d10⟩ := Hd.cells11 hA0
  obtain ⟨c0, c1, c2, c3, c4, c5, c6, c7, c8, c9, c10, c11, c12, c13, c14, c15, c16, c17, c18, c19, c20⟩ := cells21 hB0
  clear hh hr hn hhe hl hg hhw hc hn2 hh2 hl2 hwf hb0 hA0 hB0 hlast
  have n1 : (r.kind == 1) = false := beq_eq_false_iff_ne.2 (by omega)
  have n2 : (r.kind == 2) = false := beq_eq_false_iff_ne.2 (by omega)
  have n3 : (r.kind == 3) = false := beq_eq_false_iff_ne.2 (by omega)
  have n4 : (r.kind == 4) = true := beq_iff_eq.2 hk
  have HU : Hid (followsP h r ↔ (h.shot.index < r.index ∧ r.index ≤ h.shot.index + h.log.length + 1)) := Lib.hid (by unfold followsP; rw [if_neg (by omega), if_neg (by omega), if_neg (by omega), if_pos hk])
  have HIX : Hid (h.shot.index ≤ 4611686018427387904) := Lib.hid (by have := HLA.out; omega)
  have HIW := Lib.hid (HIH.out.below HB.out.drew (Nat.le_refl _))
  have hwr : IntKind.u64.wrap (h.shot.index + h.log.length + 1) = h.shot.index + h.log.length + 1 := by
    have := HLA.out
    have := hx0
    unfold IntKind.wrap
    simp [IntKind.signed, IntKind.bits]
    omega
  by_cases hx : h.shot.index < r.index
  · have HW : Hid (decide (r.index ≤ IntKind.u64.wrap (h.shot.index + h.log.length + 1)) = true ↔ followsP h r) := Lib.hid (by rw [hwr, HU.out, decide_eq_true_iff]; exact ⟨fun g => ⟨hx, g⟩, fun g => g.2⟩)
    clear hwr hk d0 d1 d2 d4 d5 d6 d7 d8 d9 d10
    go_enter Try.func57, Try.ntmps57
    go_wp2_with fail
    go_region_with (first
      | (go_at_call 66; refine (Hd.last_any h _ _ HIW.out HIX.out).mono ?_; rintro e w1 ⟨rfl, hb1⟩; have hr1 := (hb1.block (w.heap.size + 1) (Hd.lt_of_row HB0.out)).trans HB0.out; have qc4 := (cell_of_row w1 _ 4 _ _ _ hr1).trans rfl; have HB2 := Lib.hid (HB.out.drew.trans (hb1.mono HB.out.drew.size)); clear hb1 hr1)
      | (with_reducible refine wpList_load_rowG rfl 43 (.tmp 2) rfl w.heap.size rfl 43 (hArr h (.slice g1 h.shot.nodes.length q1) (.slice g2 h.shot.led.held.length q2) (.slice g3 h.shot.led.last.length q3) (.slice g4 h.log.length q4)) (0, 0) _ HA0.out Try.underlying43 rfl (by kernel_rfl) ?_))
    all_goals go_wp2
    all_goals go_ret
    all_goals exact ⟨decide (r.index ≤ IntKind.u64.wrap (h.shot.index + h.log.length + 1)), rfl, HW.out, HB2.out⟩
  · have HX : Hid (¬ followsP h r) := Lib.hid (fun g => hx (HU.out.1 g).1)
    have hx1 : decide (h.shot.index < r.index) = false := decide_eq_false hx
    clear hwr hk
    go_enter Try.func57, Try.ntmps57
    go_wp2_with fail
    go_quiet (fail)
    all_goals go_wp2
    all_goals go_ret
    all_goals exact tells_noN HX.out HB.out _
theorem follows_any (h : Har) (vv : Value) (r : RecR) (v : Value) (w : World) (hh : IsHard w vv h) (hr : IsRec w v r) (hlast : h.shot.index + h.log.length ≤ 4611686018427387904) : Calls Try.prog 57 #[vv, v] w (Tells (followsP h r) w) := by
  by_cases h1 : r.kind = 1
  · exact fo_1 h vv r v w hh hr hlast h1
  · by_cases h2 : r.kind = 2
    · exact fo_2 h vv r v w hh hr hlast h2
    · by_cases h3 : r.kind = 3
      · exact fo_3 h vv r v w hh hr hlast h3
      · by_cases h4 : r.kind = 4
        · exact fo_4 h vv r v w hh hr hlast h4
        · exact fo_5 h vv r v w hh hr hlast h1 h2 h3 h4
end Rc
end Go.Proofs.Ytlkgmjhejocobaa
