/- Which records fit: hard.fits, arm by arm. No condition. Which records fit: hard.fits, the last arm. No condition. -/
import Derived.Test.YtlkgmjhejocobaaRcU
import Derived.Deep.QuietTactic
import Derived.BigQuiet
namespace Go.Proofs.Ytlkgmjhejocobaa
open Go.ChangeShapes Go.WideShapes Go.ChangeAt Go.RowKit Go.Deep
set_option linter.unusedVariables false
set_option maxRecDepth 100000
namespace Rc
open Nv
def fitsP (r : RecR) : Prop := (unusedR r).vote = 0 ∧ (unusedR r).boot = 0 ∧ (unusedR r).term = 0 ∧ (unusedR r).index = 0 ∧ zEnt (unusedR r).ent ∧ zSho (unusedR r).shot ∧ usedP r
set_option maxHeartbeats 8000000 in
theorem fits_0 (r : RecR) (v : Value) (w : World) (h : IsRec w v r)  (h0 : ¬ (unusedR r).vote = 0) : Calls Try.prog 56 #[v] w (Tells (fitsP r) w) := by
  obtain ⟨vc, vn, vh, vl, rfl, ⟨hc, hn, hh, hl⟩, hwf⟩ := id h
  obtain ⟨a1, b1, rfl, -⟩ := id hc
  obtain ⟨a2, b2, rfl, -⟩ := id hn
  obtain ⟨a3, b3, rfl, -⟩ := id hh
  obtain ⟨a4, b4, rfl, -⟩ := id hl
  have hb0 : Below w.heap.size w (w.alloc (.cells (rArr r (.slice a1 r.ent.cmd.nodes.length b1) (.slice a2 r.shot.nodes.length b2) (.slice a3 r.shot.led.held.length b3) (.slice a4 r.shot.led.last.length b4)) 49)) := (Below.refl _ _).alloc (Nat.le_refl _) _
  have HT0 : Hid ((w.alloc (.cells (rArr r (.slice a1 r.ent.cmd.nodes.length b1) (.slice a2 r.shot.nodes.length b2) (.slice a3 r.shot.led.held.length b3) (.slice a4 r.shot.led.last.length b4)) 49)).heap[w.heap.size]? = some (.cells (rArr r (.slice a1 r.ent.cmd.nodes.length b1) (.slice a2 r.shot.nodes.length b2) (.slice a3 r.shot.led.held.length b3) (.slice a4 r.shot.led.last.length b4)) 49 (0, 0))) := Lib.hid (heap_alloc_new _ _)
  have HB := Lib.hid hb0
  have HRC := Lib.hid h
  clear h hc hn hh hl hwf hb0
  go_enter Try.func56, Try.ntmps56
  go_wp2_with ((with_reducible refine wpList_load_row rfl 49 (.tmp 1) rfl w.heap.size rfl 49 (rArr r (.slice a1 r.ent.cmd.nodes.length b1) (.slice a2 r.shot.nodes.length b2) (.slice a3 r.shot.led.held.length b3) (.slice a4 r.shot.led.last.length b4)) (0, 0) _ HT0.out Try.underlying49 rfl (by kernel_rfl) ?_))
  refine (unused_any r _ _ (HRC.out.below HB.out (Nat.le_refl _))).mono ?_
  rintro e w1 ⟨uv, rfl, hu1, hb1⟩
  obtain ⟨u, hu⟩ : ∃ u, u = unusedR r := ⟨_, rfl⟩
  rw [← hu] at hu1
  rw [← hu] at h0
  obtain ⟨vc, vn, vh, vl, rfl, ⟨hc, hn, hh, hl⟩, hwf⟩ := id hu1
  obtain ⟨d1, p1, rfl, -⟩ := id hc
  obtain ⟨d2, p2, rfl, -⟩ := id hn
  obtain ⟨d3, p3, rfl, -⟩ := id hh
  obtain ⟨d4, p4, rfl, -⟩ := id hl
  have hs2 : (w1.alloc (.cells zR 49)).heap[w1.heap.size]? = some (.cells zR 49 (0, 0)) := heap_alloc_new _ _
  have hb2 : Below w1.heap.size w1 ((w1.alloc (.cells zR 49)).setRow w1.heap.size (rArr u (.slice d1 u.ent.cmd.nodes.length p1) (.slice d2 u.shot.nodes.length p2) (.slice d3 u.shot.led.held.length p3) (.slice d4 u.shot.led.last.length p4))) := Ld.below_row ((Below.refl _ _).alloc (Nat.le_refl _) _) (Nat.le_refl _) _
  have hr2 := setRow_heap _ _ _ (rArr u (.slice d1 u.ent.cmd.nodes.length p1) (.slice d2 u.shot.nodes.length p2) (.slice d3 u.shot.led.held.length p3) (.slice d4 u.shot.led.last.length p4)) _ _ hs2
  obtain ⟨W2, hW2⟩ : ∃ q, (w1.alloc (.cells zR 49)).setRow w1.heap.size (rArr u (.slice d1 u.ent.cmd.nodes.length p1) (.slice d2 u.shot.nodes.length p2) (.slice d3 u.shot.led.held.length p3) (.slice d4 u.shot.led.last.length p4)) = q := ⟨_, rfl⟩
  rw [hW2] at hb2 hr2
  obtain ⟨hue, hus⟩ := ent_led (w := w1) (w1 := W2) ⟨hc, hn, hh, hl⟩ hwf hb2
  have HUE := Lib.hid hue
  have HUS := Lib.hid hus
  have HU := Lib.hid hu
  have HS2 := Lib.hid hs2
  have HR2 := Lib.hid hr2
  have HT2 := Lib.hid ((hb2.block _ (Nat.lt_of_lt_of_le ((Array.getElem?_eq_some_iff.1 HT0.out).1) hb1.size)).trans ((hb1.block _ ((Array.getElem?_eq_some_iff.1 HT0.out).1)).trans HT0.out))
  have HB2 := Lib.hid (HB.out.trans ((hb1.mono HB.out.size).trans (hb2.mono (Nat.le_trans HB.out.size hb1.size))))
  obtain ⟨c0, c1, c2, c3, c4, c5, c6, c7, c8, c9, c10, c11, c12, c13, c14, c15, c16, c17, c18, c19, c20⟩ := cells21 hr2
  clear hu1 hc hn hh hl hwf hb1 hs2 hb2 hr2 hue hus hu
  have e0 : (u.vote != 0) = true := by rw [bne, beq_eq_false_iff_ne.2 h0]; rfl
  have HN : Hid (¬ fitsP r) := Lib.hid (fun g => h0 (by rw [HU.out]; exact g.1))
  clear h0
  go_wp2_with ((with_reducible refine wpList_store_row rfl 49 (.tmp 3) (.tmp 5) rfl w1.heap.size (rArr u (.slice d1 u.ent.cmd.nodes.length p1) (.slice d2 u.shot.nodes.length p2) (.slice d3 u.shot.led.held.length p3) (.slice d4 u.shot.led.last.length p4)) rfl rfl 49 _ HS2.out (by kernel_rfl) rfl (rArr_one _ _ _ _ _ _ _ _ _ _ _ _ _) ?_))
  go_ret
  exact tells_no HN.out HB2.out
set_option maxHeartbeats 8000000 in
theorem fits_1 (r : RecR) (v : Value) (w : World) (h : IsRec w v r) (h0 : (unusedR r).vote = 0) (h1 : ¬ (unusedR r).boot = 0) : Calls Try.prog 56 #[v] w (Tells (fitsP r) w) := by
  obtain ⟨vc, vn, vh, vl, rfl, ⟨hc, hn, hh, hl⟩, hwf⟩ := id h
  obtain ⟨a1, b1, rfl, -⟩ := id hc
  obtain ⟨a2, b2, rfl, -⟩ := id hn
  obtain ⟨a3, b3, rfl, -⟩ := id hh
  obtain ⟨a4, b4, rfl, -⟩ := id hl
  have hb0 : Below w.heap.size w (w.alloc (.cells (rArr r (.slice a1 r.ent.cmd.nodes.length b1) (.slice a2 r.shot.nodes.length b2) (.slice a3 r.shot.led.held.length b3) (.slice a4 r.shot.led.last.length b4)) 49)) := (Below.refl _ _).alloc (Nat.le_refl _) _
  have HT0 : Hid ((w.alloc (.cells (rArr r (.slice a1 r.ent.cmd.nodes.length b1) (.slice a2 r.shot.nodes.length b2) (.slice a3 r.shot.led.held.length b3) (.slice a4 r.shot.led.last.length b4)) 49)).heap[w.heap.size]? = some (.cells (rArr r (.slice a1 r.ent.cmd.nodes.length b1) (.slice a2 r.shot.nodes.length b2) (.slice a3 r.shot.led.held.length b3) (.slice a4 r.shot.led.last.length b4)) 49 (0, 0))) := Lib.hid (heap_alloc_new _ _)
  have HB := Lib.hid hb0
  have HRC := Lib.hid h
  clear h hc hn hh hl hwf hb0
  go_enter Try.func56, Try.ntmps56
  go_wp2_with ((with_reducible refine wpList_load_row rfl 49 (.tmp 1) rfl w.heap.size rfl 49 (rArr r (.slice a1 r.ent.cmd.nodes.length b1) (.slice a2 r.shot.nodes.length b2) (.slice a3 r.shot.led.held.length b3) (.slice a4 r.shot.led.last.length b4)) (0, 0) _ HT0.out Try.underlying49 rfl (by kernel_rfl) ?_))
  refine (unused_any r _ _ (HRC.out.below HB.out (Nat.le_refl _))).mono ?_
  rintro e w1 ⟨uv, rfl, hu1, hb1⟩
  obtain ⟨u, hu⟩ : ∃ u, u = unusedR r := ⟨_, rfl⟩
  rw [← hu] at hu1
  rw [← hu] at h0 h1
  obtain ⟨vc, vn, vh, vl, rfl, ⟨hc, hn, hh, hl⟩, hwf⟩ := id hu1
  obtain ⟨d1, p1, rfl, -⟩ := id hc
  obtain ⟨d2, p2, rfl, -⟩ := id hn
  obtain ⟨d3, p3, rfl, -⟩ := id hh
  obtain ⟨d4, p4, rfl, -⟩ := id hl
  have hs2 : (w1.alloc (.cells zR 49)).heap[w1.heap.size]? = some (.cells zR 49 (0, 0)) := heap_alloc_new _ _
  have hb2 : Below w1.heap.size w1 ((w1.alloc (.cells zR 49)).setRow w1.heap.size (rArr u (.slice d1 u.ent.cmd.nodes.length p1) (.slice d2 u.shot.nodes.length p2) (.slice d3 u.shot.led.held.length p3) (.slice d4 u.shot.led.last.length p4))) := Ld.below_row ((Below.refl _ _).alloc (Nat.le_refl _) _) (Nat.le_refl _) _
  have hr2 := setRow_heap _ _ _ (rArr u (.slice d1 u.ent.cmd.nodes.length p1) (.slice d2 u.shot.nodes.length p2) (.slice d3 u.shot.led.held.length p3) (.slice d4 u.shot.led.last.length p4)) _ _ hs2
  obtain ⟨W2, hW2⟩ : ∃ q, (w1.alloc (.cells zR 49)).setRow w1.heap.size (rArr u (.slice d1 u.ent.cmd.nodes.length p1) (.slice d2 u.shot.nodes.length p2) (.slice d3 u.shot.led.held.length p3) (.slice d4 u.shot.led.last.length p4)) = q := ⟨_, rfl⟩
  rw [hW2] at hb2 hr2
  obtain ⟨hue, hus⟩ := ent_led (w := w1) (w1 := W2) ⟨hc, hn, hh, hl⟩ hwf hb2
  have HUE := Lib.hid hue
  have HUS := Lib.hid hus
  have HU := Lib.hid hu
  have HS2 := Lib.hid hs2
  have HR2 := Lib.hid hr2
  have HT2 := Lib.hid ((hb2.block _ (Nat.lt_of_lt_of_le ((Array.getElem?_eq_some_iff.1 HT0.out).1) hb1.size)).trans ((hb1.block _ ((Array.getElem?_eq_some_iff.1 HT0.out).1)).trans HT0.out))
  have HB2 := Lib.hid (HB.out.trans ((hb1.mono HB.out.size).trans (hb2.mono (Nat.le_trans HB.out.size hb1.size))))
  obtain ⟨c0, c1, c2, c3, c4, c5, c6, c7, c8, c9, c10, c11, c12, c13, c14, c15, c16, c17, c18, c19, c20⟩ := cells21 hr2
  clear hu1 hc hn hh hl hwf hb1 hs2 hb2 hr2 hue hus hu
  have e0 : (u.vote != 0) = false := by rw [bne, beq_iff_eq.2 h0]; rfl
  have H0 := Lib.hid h0
  clear h0
  have e1 : (u.boot != 0) = true := by rw [bne, beq_eq_false_iff_ne.2 h1]; rfl
  have HN : Hid (¬ fitsP r) := Lib.hid (fun g => h1 (by rw [HU.out]; exact g.2.1))
  clear h1
  go_wp2_with ((with_reducible refine wpList_store_row rfl 49 (.tmp 3) (.tmp 5) rfl w1.heap.size (rArr u (.slice d1 u.ent.cmd.nodes.length p1) (.slice d2 u.shot.nodes.length p2) (.slice d3 u.shot.led.held.length p3) (.slice d4 u.shot.led.last.length p4)) rfl rfl 49 _ HS2.out (by kernel_rfl) rfl (rArr_one _ _ _ _ _ _ _ _ _ _ _ _ _) ?_))
  go_ret
  exact tells_no HN.out HB2.out
set_option maxHeartbeats 8000000 in
theorem fits_2 (r : RecR) (v : Value) (w : World) (h : IsRec w v r) (h0 : (unusedR r).vote = 0) (h1 : (unusedR r).boot = 0) (h2 : ¬ (unusedR r).term = 0) : Calls Try.prog 56 #[v] w (Tells (fitsP r) w) := by
  obtain ⟨vc, vn, vh, vl, rfl, ⟨hc, hn, hh, hl⟩, hwf⟩ := id h
  obtain ⟨a1, b1, rfl, -⟩ := id hc
  obtain ⟨a2, b2, rfl, -⟩ := id hn
  obtain ⟨a3, b3, rfl, -⟩ := id hh
  obtain ⟨a4, b4, rfl, -⟩ := id hl
  have hb0 : Below w.heap.size w (w.alloc (.cells (rArr r (.slice a1 r.ent.cmd.nodes.length b1) (.slice a2 r.shot.nodes.length b2) (.slice a3 r.shot.led.held.length b3) (.slice a4 r.shot.led.last.length b4)) 49)) := (Below.refl _ _).alloc (Nat.le_refl _) _
  have HT0 : Hid ((w.alloc (.cells (rArr r (.slice a1 r.ent.cmd.nodes.length b1) (.slice a2 r.shot.nodes.length b2) (.slice a3 r.shot.led.held.length b3) (.slice a4 r.shot.led.last.length b4)) 49)).heap[w.heap.size]? = some (.cells (rArr r (.slice a1 r.ent.cmd.nodes.length b1) (.slice a2 r.shot.nodes.length b2) (.slice a3 r.shot.led.held.length b3) (.slice a4 r.shot.led.last.length b4)) 49 (0, 0))) := Lib.hid (heap_alloc_new _ _)
  have HB := Lib.hid hb0
  have HRC := Lib.hid h
  clear h hc hn hh hl hwf hb0
  go_enter Try.func56, Try.ntmps56
  go_wp2_with ((with_reducible refine wpList_load_row rfl 49 (.tmp 1) rfl w.heap.size rfl 49 (rArr r (.slice a1 r.ent.cmd.nodes.length b1) (.slice a2 r.shot.nodes.length b2) (.slice a3 r.shot.led.held.length b3) (.slice a4 r.shot.led.last.length b4)) (0, 0) _ HT0.out Try.underlying49 rfl (by kernel_rfl) ?_))
  refine (unused_any r _ _ (HRC.out.below HB.out (Nat.le_refl _))).mono ?_
  rintro e w1 ⟨uv, rfl, hu1, hb1⟩
  obtain ⟨u, hu⟩ : ∃ u, u = unusedR r := ⟨_, rfl⟩
  rw [← hu] at hu1
  rw [← hu] at h0 h1 h2
  obtain ⟨vc, vn, vh, vl, rfl, ⟨hc, hn, hh, hl⟩, hwf⟩ := id hu1
  obtain ⟨d1, p1, rfl, -⟩ := id hc
  obtain ⟨d2, p2, rfl, -⟩ := id hn
  obtain ⟨d3, p3, rfl, -⟩ := id hh
  obtain ⟨d4, p4, rfl, -⟩ := id hl
  have hs2 : (w1.alloc (.cells zR 49)).heap[w1.heap.size]? = some (.cells zR 49 (0, 0)) := heap_alloc_new _ _
  have hb2 : Below w1.heap.size w1 ((w1.alloc (.cells zR 49)).setRow w1.heap.size (rArr u (.slice d1 u.ent.cmd.nodes.length p1) (.slice d2 u.shot.nodes.length p2) (.slice d3 u.shot.led.held.length p3) (.slice d4 u.shot.led.last.length p4))) := Ld.below_row ((Below.refl _ _).alloc (Nat.le_refl _) _) (Nat.le_refl _) _
  have hr2 := setRow_heap _ _ _ (rArr u (.slice d1 u.ent.cmd.nodes.length p1) (.slice d2 u.shot.nodes.length p2) (.slice d3 u.shot.led.held.length p3) (.slice d4 u.shot.led.last.length p4)) _ _ hs2
  obtain ⟨W2, hW2⟩ : ∃ q, (w1.alloc (.cells zR 49)).setRow w1.heap.size (rArr u (.slice d1 u.ent.cmd.nodes.length p1) (.slice d2 u.shot.nodes.length p2) (.slice d3 u.shot.led.held.length p3) (.slice d4 u.shot.led.last.length p4)) = q := ⟨_, rfl⟩
  rw [hW2] at hb2 hr2
  obtain ⟨hue, hus⟩ := ent_led (w := w1) (w1 := W2) ⟨hc, hn, hh, hl⟩ hwf hb2
  have HUE := Lib.hid hue
  have HUS := Lib.hid hus
  have HU := Lib.hid hu
  have HS2 := Lib.hid hs2
  have HR2 := Lib.hid hr2
  have HT2 := Lib.hid ((hb2.block _ (Nat.lt_of_lt_of_le ((Array.getElem?_eq_some_iff.1 HT0.out).1) hb1.size)).trans ((hb1.block _ ((Array.getElem?_eq_some_iff.1 HT0.out).1)).trans HT0.out))
  have HB2 := Lib.hid (HB.out.trans ((hb1.mono HB.out.size).trans (hb2.mono (Nat.le_trans HB.out.size hb1.size))))
  obtain ⟨c0, c1, c2, c3, c4, c5, c6, c7, c8, c9, c10, c11, c12, c13, c14, c15, c16, c17, c18, c19, c20⟩ := cells21 hr2
  clear hu1 hc hn hh hl hwf hb1 hs2 hb2 hr2 hue hus hu
  have e0 : (u.vote != 0) = false := by rw [bne, beq_iff_eq.2 h0]; rfl
  have H0 := Lib.hid h0
  clear h0
  have e1 : (u.boot != 0) = false := by rw [bne, beq_iff_eq.2 h1]; rfl
  have H1 := Lib.hid h1
  clear h1
  have e2 : (u.term != 0) = true := by rw [bne, beq_eq_false_iff_ne.2 h2]; rfl
  have HN : Hid (¬ fitsP r) := Lib.hid (fun g => h2 (by rw [HU.out]; exact g.2.2.1))
  clear h2
  go_wp2_with ((with_reducible refine wpList_store_row rfl 49 (.tmp 3) (.tmp 5) rfl w1.heap.size (rArr u (.slice d1 u.ent.cmd.nodes.length p1) (.slice d2 u.shot.nodes.length p2) (.slice d3 u.shot.led.held.length p3) (.slice d4 u.shot.led.last.length p4)) rfl rfl 49 _ HS2.out (by kernel_rfl) rfl (rArr_one _ _ _ _ _ _ _ _ _ _ _ _ _) ?_))
  go_ret
  exact tells_no HN.out HB2.out
set_option maxHeartbeats 8000000 in
theorem fits_3 (r : RecR) (v : Value) (w : World) (h : IsRec w v r) (h0 : (unusedR r).vote = 0) (h1 : (unusedR r).boot = 0) (h2 : (unusedR r).term = 0) (h3 : ¬ (unusedR r).index = 0) : Calls Try.prog 56 #[v] w (Tells (fitsP r) w) := by
  obtain ⟨vc, vn, vh, vl, rfl, ⟨hc, hn, hh, hl⟩, hwf⟩ := id h
  obtain ⟨a1, b1, rfl, -⟩ := id hc
  obtain ⟨a2, b2, rfl, -⟩ := id hn
  obtain ⟨a3, b3, rfl, -⟩ := id hh
  obtain ⟨a4, b4, rfl, -⟩ := id hl
  have hb0 : Below w.heap.size w (w.alloc (.cells (rArr r (.slice a1 r.ent.cmd.nodes.length b1) (.slice a2 r.shot.nodes.length b2) (.slice a3 r.shot.led.held.length b3) (.slice a4 r.shot.led.last.length b4)) 49)) := (Below.refl _ _).alloc (Nat.le_refl _) _
  have HT0 : Hid ((w.alloc (.cells (rArr r (.slice a1 r.ent.cmd.nodes.length b1) (.slice a2 r.shot.nodes.length b2) (.slice a3 r.shot.led.held.length b3) (.slice a4 r.shot.led.last.length b4)) 49)).heap[w.heap.size]? = some (.cells (rArr r (.slice a1 r.ent.cmd.nodes.length b1) (.slice a2 r.shot.nodes.length b2) (.slice a3 r.shot.led.held.length b3) (.slice a4 r.shot.led.last.length b4)) 49 (0, 0))) := Lib.hid (heap_alloc_new _ _)
  have HB := Lib.hid hb0
  have HRC := Lib.hid h
  clear h hc hn hh hl hwf hb0
  go_enter Try.func56, Try.ntmps56
  go_wp2_with ((with_reducible refine wpList_load_row rfl 49 (.tmp 1) rfl w.heap.size rfl 49 (rArr r (.slice a1 r.ent.cmd.nodes.length b1) (.slice a2 r.shot.nodes.length b2) (.slice a3 r.shot.led.held.length b3) (.slice a4 r.shot.led.last.length b4)) (0, 0) _ HT0.out Try.underlying49 rfl (by kernel_rfl) ?_))
  refine (unused_any r _ _ (HRC.out.below HB.out (Nat.le_refl _))).mono ?_
  rintro e w1 ⟨uv, rfl, hu1, hb1⟩
  obtain ⟨u, hu⟩ : ∃ u, u = unusedR r := ⟨_, rfl⟩
  rw [← hu] at hu1
  rw [← hu] at h0 h1 h2 h3
  obtain ⟨vc, vn, vh, vl, rfl, ⟨hc, hn, hh, hl⟩, hwf⟩ := id hu1
  obtain ⟨d1, p1, rfl, -⟩ := id hc
  obtain ⟨d2, p2, rfl, -⟩ := id hn
  obtain ⟨d3, p3, rfl, -⟩ := id hh
  obtain ⟨d4, p4, rfl, -⟩ := id hl
  have hs2 : (w1.alloc (.cells zR 49)).heap[w1.heap.size]? = some (.cells zR 49 (0, 0)) := heap_alloc_new _ _
  have hb2 : Below w1.heap.size w1 ((w1.alloc (.cells zR 49)).setRow w1.heap.size (rArr u (.slice d1 u.ent.cmd.nodes.length p1) (.slice d2 u.shot.nodes.length p2) (.slice d3 u.shot.led.held.length p3) (.slice d4 u.shot.led.last.length p4))) := Ld.below_row ((Below.refl _ _).alloc (Nat.le_refl _) _) (Nat.le_refl _) _
  have hr2 := setRow_heap _ _ _ (rArr u (.slice d1 u.ent.cmd.nodes.length p1) (.slice d2 u.shot.nodes.length p2) (.slice d3 u.shot.led.held.length p3) (.slice d4 u.shot.led.last.length p4)) _ _ hs2
  obtain ⟨W2, hW2⟩ : ∃ q, (w1.alloc (.cells zR 49)).setRow w1.heap.size (rArr u (.slice d1 u.ent.cmd.nodes.length p1) (.slice d2 u.shot.nodes.length p2) (.slice d3 u.shot.led.held.length p3) (.slice d4 u.shot.led.last.length p4)) = q := ⟨_, rfl⟩
  rw [hW2] at hb2 hr2
  obtain ⟨hue, hus⟩ := ent_led (w := w1) (w1 := W2) ⟨hc, hn, hh, hl⟩ hwf hb2
  have HUE := Lib.hid hue
  have HUS := Lib.hid hus
  have HU := Lib.hid hu
  have HS2 := Lib.hid hs2
  have HR2 := Lib.hid hr2
  have HT2 := Lib.hid ((hb2.block _ (Nat.lt_of_lt_of_le ((Array.getElem?_eq_some_iff.1 HT0.out).1) hb1.size)).trans ((hb1.block _ ((Array.getElem?_eq_some_iff.1 HT0.out).1)).trans HT0.out))
  have HB2 := Lib.hid (HB.out.trans ((hb1.mono HB.out.size).trans (hb2.mono (Nat.le_trans HB.out.size hb1.size))))
  obtain ⟨c0, c1, c2, c3, c4, c5, c6, c7, c8, c9, c10, c11, c12, c13, c14, c15, c16, c17, c18, c19, c20⟩ := cells21 hr2
  clear hu1 hc hn hh hl hwf hb1 hs2 hb2 hr2 hue hus hu
  have e0 : (u.vote != 0) = false := by rw [bne, beq_iff_eq.2 h0]; rfl
  have H0 := Lib.hid h0
  clear h0
  have e1 : (u.boot != 0) = false := by rw [bne, beq_iff_eq.2 h1]; rfl
  have H1 := Lib.hid h1
  clear h1
  have e2 : (u.term != 0) = false := by rw [bne, beq_iff_eq.2 h2]; rfl
  have H2 := Lib.hid h2
  clear h2
  have e3 : (u.index != 0) = true := by rw [bne, beq_eq_false_iff_ne.2 h3]; rfl
  have HN : Hid (¬ fitsP r) := Lib.hid (fun g => h3 (by rw [HU.out]; exact g.2.2.2.1))
  clear h3
  go_wp2_with ((with_reducible refine wpList_store_row rfl 49 (.tmp 3) (.tmp 5) rfl w1.heap.size (rArr u (.slice d1 u.ent.cmd.nodes.length p1) (.slice d2 u.shot.nodes.length p2) (.slice d3 u.shot.led.held.length p3) (.slice d4 u.shot.led.last.length p4)) rfl rfl 49 _ HS2.out (by kernel_rfl) rfl (rArr_one _ _ _ _ _ _ _ _ _ _ _ _ _) ?_))
  go_ret
  exact tells_no HN.out HB2.out
end Rc
end Go.Proofs.Ytlkgmjhejocobaa
namespace Go.Proofs.Ytlkgmjhejocobaa
open Go.ChangeShapes Go.WideShapes Go.ChangeAt Go.RowKit Go.Deep
set_option linter.unusedVariables false
set_option maxRecDepth 100000
namespace Rc
open Nv
set_option maxHeartbeats 8000000 in
theorem fits_4 (r : RecR) (v : Value) (w : World) (h : IsRec w v r) (h0 : (unusedR r).vote = 0) (h1 : (unusedR r).boot = 0) (h2 : (unusedR r).term = 0) (h3 : (unusedR r).index = 0) : Calls Try.prog 56 #[v] w (Tells (fitsP r) w) := by
  obtain ⟨vc, vn, vh, vl, rfl, ⟨hc, hn, hh, hl⟩, hwf⟩ := id h
  obtain ⟨a1, b1, rfl, -⟩ := id hc
  obtain ⟨a2, b2, rfl, -⟩ := id hn
  obtain ⟨a3, b3, rfl, -⟩ := id hh
  obtain ⟨a4, b4, rfl, -⟩ := id hl
  have hb0 : Below w.heap.size w (w.alloc (.cells (rArr r (.slice a1 r.ent.cmd.nodes.length b1) (.slice a2 r.shot.nodes.length b2) (.slice a3 r.shot.led.held.length b3) (.slice a4 r.shot.led.last.length b4)) 49)) := (Below.refl _ _).alloc (Nat.le_refl _) _
  have HT0 : Hid ((w.alloc (.cells (rArr r (.slice a1 r.ent.cmd.nodes.length b1) (.slice a2 r.shot.nodes.length b2) (.slice a3 r.shot.led.held.length b3) (.slice a4 r.shot.led.last.length b4)) 49)).heap[w.heap.size]? = some (.cells (rArr r (.slice a1 r.ent.cmd.nodes.length b1) (.slice a2 r.shot.nodes.length b2) (.slice a3 r.shot.led.held.length b3) (.slice a4 r.shot.led.last.length b4)) 49 (0, 0))) := Lib.hid (heap_alloc_new _ _)
  have HB := Lib.hid hb0
  have HRC := Lib.hid h
  clear h hc hn hh hl hwf hb0
  go_enter Try.func56, Try.ntmps56
  go_wp2_with ((with_reducible refine wpList_load_row rfl 49 (.tmp 1) rfl w.heap.size rfl 49 (rArr r (.slice a1 r.ent.cmd.nodes.length b1) (.slice a2 r.shot.nodes.length b2) (.slice a3 r.shot.led.held.length b3) (.slice a4 r.shot.led.last.length b4)) (0, 0) _ HT0.out Try.underlying49 rfl (by kernel_rfl) ?_))
  refine (unused_any r _ _ (HRC.out.below HB.out (Nat.le_refl _))).mono ?_
  rintro e w1 ⟨uv, rfl, hu1, hb1⟩
  obtain ⟨u, hu⟩ : ∃ u, u = unusedR r := ⟨_, rfl⟩
  rw [← hu] at hu1
  rw [← hu] at h0 h1 h2 h3
  obtain ⟨vc, vn, vh, vl, rfl, ⟨hc, hn, hh, hl⟩, hwf⟩ := id hu1
  obtain ⟨d1, p1, rfl, -⟩ := id hc
  obtain ⟨d2, p2, rfl, -⟩ := id hn
  obtain ⟨d3, p3, rfl, -⟩ := id hh
  obtain ⟨d4, p4, rfl, -⟩ := id hl
  have hs2 : (w1.alloc (.cells zR 49)).heap[w1.heap.size]? = some (.cells zR 49 (0, 0)) := heap_alloc_new _ _
  have hb2 : Below w1.heap.size w1 ((w1.alloc (.cells zR 49)).setRow w1.heap.size (rArr u (.slice d1 u.ent.cmd.nodes.length p1) (.slice d2 u.shot.nodes.length p2) (.slice d3 u.shot.led.held.length p3) (.slice d4 u.shot.led.last.length p4))) := Ld.below_row ((Below.refl _ _).alloc (Nat.le_refl _) _) (Nat.le_refl _) _
  have hr2 := setRow_heap _ _ _ (rArr u (.slice d1 u.ent.cmd.nodes.length p1) (.slice d2 u.shot.nodes.length p2) (.slice d3 u.shot.led.held.length p3) (.slice d4 u.shot.led.last.length p4)) _ _ hs2
  obtain ⟨W2, hW2⟩ : ∃ q, (w1.alloc (.cells zR 49)).setRow w1.heap.size (rArr u (.slice d1 u.ent.cmd.nodes.length p1) (.slice d2 u.shot.nodes.length p2) (.slice d3 u.shot.led.held.length p3) (.slice d4 u.shot.led.last.length p4)) = q := ⟨_, rfl⟩
  rw [hW2] at hb2 hr2
  obtain ⟨hue, hus⟩ := ent_led (w := w1) (w1 := W2) ⟨hc, hn, hh, hl⟩ hwf hb2
  have HUE := Lib.hid hue
  have HUS := Lib.hid hus
  have HU := Lib.hid hu
  have HS2 := Lib.hid hs2
  have HR2 := Lib.hid hr2
  have HT2 := Lib.hid ((hb2.block _ (Nat.lt_of_lt_of_le ((Array.getElem?_eq_some_iff.1 HT0.out).1) hb1.size)).trans ((hb1.block _ ((Array.getElem?_eq_some_iff.1 HT0.out).1)).trans HT0.out))
  have HB2 := Lib.hid (HB.out.trans ((hb1.mono HB.out.size).trans (hb2.mono (Nat.le_trans HB.out.size hb1.size))))
  obtain ⟨c0, c1, c2, c3, c4, c5, c6, c7, c8, c9, c10, c11, c12, c13, c14, c15, c16, c17, c18, c19, c20⟩ := cells21 hr2
  clear hu1 hc hn hh hl hwf hb1 hs2 hb2 hr2 hue hus hu
  have e0 : (u.vote != 0) = false := by rw [bne, beq_iff_eq.2 h0]; rfl
  have H0 := Lib.hid h0
  clear h0
  have e1 : (u.boot != 0) = false := by rw [bne, beq_iff_eq.2 h1]; rfl
  have H1 := Lib.hid h1
  clear h1
  have e2 : (u.term != 0) = false := by rw [bne, beq_iff_eq.2 h2]; rfl
  have H2 := Lib.hid h2
  clear h2
  have e3 : (u.index != 0) = false := by rw [bne, beq_iff_eq.2 h3]; rfl
  have H3 := Lib.hid h3
  clear h3
  go_wp2_with ((with_reducible refine wpList_store_row rfl 49 (.tmp 3) (.tmp 5) rfl w1.heap.size (rArr u (.slice d1 u.ent.cmd.nodes.length p1) (.slice d2 u.shot.nodes.length p2) (.slice d3 u.shot.led.held.length p3) (.slice d4 u.shot.led.last.length p4)) rfl rfl 49 _ HS2.out (by kernel_rfl) rfl (rArr_one _ _ _ _ _ _ _ _ _ _ _ _ _) ?_))
  refine (noEntry_any u.ent _ _ HUE.out).mono ?_
  rintro e w3 ⟨q1, rfl, hq1, hb3⟩
  have hr3 := (hb3.block _ ((Array.getElem?_eq_some_iff.1 HR2.out).1)).trans HR2.out
  have ht3 := (hb3.block _ ((Array.getElem?_eq_some_iff.1 HT2.out).1)).trans HT2.out
  have HB3 := Lib.hid (HB2.out.trans (hb3.mono HB2.out.size))
  have HUS3 := Lib.hid (HUS.out.below hb3 (Nat.le_refl _))
  have HQ1 := Lib.hid hq1
  have HR3 := Lib.hid hr3
  have HT3 := Lib.hid ht3
  clear c0 c1 c2 c3 c4 c5 c6 c7 c8 c9 c10 c11 c12 c13 c14 c15 c16 c17 c18 c19 c20
  obtain ⟨c0, c1, c2, c3, c4, c5, c6, c7, c8, c9, c10, c11, c12, c13, c14, c15, c16, c17, c18, c19, c20⟩ := cells21 hr3
  clear hq1 hb3 hr3 ht3
  cases q1
  · have HN : Hid (¬ fitsP r) := Lib.hid (fun g => by have := HQ1.out.2 (by rw [HU.out]; exact g.2.2.2.2.1); cases this)
    go_wp2
    go_ret
    exact tells_no HN.out HB3.out
  · have HZ1 := Lib.hid (HQ1.out.1 rfl)
    clear HQ1
    go_wp2_with fail
    refine (noShot_any u.shot _ _ HUS3.out).mono ?_
    rintro e w4 ⟨q2, rfl, hq2, hb4⟩
    have ht4 := (hb4.block _ ((Array.getElem?_eq_some_iff.1 HT3.out).1)).trans HT3.out
    have HB4 := Lib.hid (HB3.out.trans (hb4.mono HB3.out.size))
    have HRC4 := Lib.hid (HRC.out.below HB4.out (Nat.le_refl _))
    have HQ2 := Lib.hid hq2
    have HT4 := Lib.hid ht4
    clear c0 c1 c2 c3 c4 c5 c6 c7 c8 c9 c10 c11 c12 c13 c14 c15 c16 c17 c18 c19 c20
    clear hq2 hb4 ht4
    cases q2
    · have HN : Hid (¬ fitsP r) := Lib.hid (fun g => by have := HQ2.out.2 (by rw [HU.out]; exact g.2.2.2.2.2.1); cases this)
      go_wp2
      go_ret
      exact tells_no HN.out HB4.out
    · have HZ2 := Lib.hid (HQ2.out.1 rfl)
      clear HQ2
      go_wp2_with ((with_reducible refine wpList_load_rowG rfl 49 (.tmp 1) rfl w.heap.size rfl 49 (rArr r (.slice a1 r.ent.cmd.nodes.length b1) (.slice a2 r.shot.nodes.length b2) (.slice a3 r.shot.led.held.length b3) (.slice a4 r.shot.led.last.length b4)) (0, 0) _ HT4.out Try.underlying49 rfl (by kernel_rfl) ?_))
      refine (used_any r _ _ HRC4.out).mono ?_
      rintro e w5 ⟨q3, rfl, hq3, hb5⟩
      have HB5 := Lib.hid (HB4.out.trans (hb5.mono HB4.out.size))
      have HX : Hid (q3 = true ↔ fitsP r) := Lib.hid ⟨fun g => by
        unfold fitsP
        rw [← HU.out]
        exact ⟨H0.out, H1.out, H2.out, H3.out, HZ1.out, HZ2.out, hq3.1 g⟩, fun g => hq3.2 g.2.2.2.2.2.2⟩
      clear hq3 hb5
      go_wp2
      go_ret
      exact ⟨_, rfl, HX.out, HB5.out⟩
theorem fits_any (r : RecR) (v : Value) (w : World) (h : IsRec w v r) : Calls Try.prog 56 #[v] w (Tells (fitsP r) w) := by
  by_cases h0 : (unusedR r).vote = 0
  · by_cases h1 : (unusedR r).boot = 0
    · by_cases h2 : (unusedR r).term = 0
      · by_cases h3 : (unusedR r).index = 0
        · exact fits_4 r v w h h0 h1 h2 h3
        · exact fits_3 r v w h h0 h1 h2 h3
      · exact fits_2 r v w h h0 h1 h2
    · exact fits_1 r v w h h0 h1
  · exact fits_0 r v w h h0
end Rc
end Go.Proofs.Ytlkgmjhejocobaa
