/- What a record does to what lasts, by the document: Do answers what package hard's Do answers. No condition but the bounds of what may last. -/
import Derived.Test.YtlkgmjhejocobaaMyI
import Derived.Test.YtlkgmjhejocobaaMyE
import Derived.Deep.QuietTactic
import Derived.BigQuiet
import Derived.Deep.MidRow
import Derived.Deep.AppendLies
import Derived.Deep.RegionHeld3
namespace Go.Proofs.Ytlkgmjhejocobaa
open Go.ChangeShapes Go.WideShapes Go.ChangeAt Go.RowKit Go.Deep
set_option linter.unusedVariables false
set_option maxRecDepth 100000
namespace Rc
open Hd Nv
theorem done_any (B : Nat) (h : Har) (vn vh vl vg : Value) (rows : List ERow) (r : RecR) (vc rn rh rl : Value) (w : World) (hB : B ≤ w.heap.size) (o1 : OwnI w B vn h.shot.nodes) (o2 : OwnR 5 heldC 74 w B vh h.shot.led.held) (o3 : OwnR 6 lastC 78 w B vl h.shot.led.last) (o4 : OwnR 9 entC 47 w B vg rows) (o5 : EntsO w B vg.ownBlock rows) (hm : rows.map Prod.fst = h.log) (hw : HarW h) (hr : RecO w B (r, vc, rn, rh, rl)) (hla : h.shot.index + h.log.length ≤ 4611686018427387904) (hfl : h.log.length * 88 ≤ 140737488351232) (fr : fitsP r) : Calls Try.prog 64 #[.agg (hArr h vn vh vl vg), .agg (rArr r vc rn rh rl)] w (Dunn B h r w) := by
  rcases fr.2.2.2.2.2.2 with k | k | k | k | k
  · exact dn_1 B h vn vh vl vg rows r vc rn rh rl w hB o1 o2 o3 o4 o5 hm hw hr hla hfl k.1
  · exact dn_2 B h vn vh vl vg rows r vc rn rh rl w hB o1 o2 o3 o4 o5 hm hw hr hla hfl k.1
  · exact dn_3 B h vn vh vl vg rows r vc rn rh rl w hB o1 o2 o3 o4 o5 hm hw hr hla hfl k.1
  · exact dn_4 B h vn vh vl vg rows r vc rn rh rl w hB o1 o2 o3 o4 o5 hm hw hr hla hfl k.1
  · exact dn_5 B h vn vh vl vg rows r vc rn rh rl w hB o1 o2 o3 o4 o5 hm hw hr hla hfl k.1
set_option maxHeartbeats 2000000 in
theorem rdo_no1 (h : Har) (vv : Value) (r : RecR) (v : Value) (w : World) (hh : IsHard w vv h)  (hr : IsRec w v r) (no : ¬ hardOk h) : Calls Try.prog 25 #[vv, v] w (Did h r w) := by
  obtain ⟨vn, vh, vl, vg, rfl, hn, hhe, hl, hg, hhw⟩ := id hh
  obtain ⟨g1, q1, rfl, -⟩ := id hn
  obtain ⟨g2, q2, rfl, -⟩ := id hhe
  obtain ⟨g3, q3, rfl, -⟩ := id hl
  obtain ⟨g4, q4, rfl, -⟩ := IsLog.len hg
  obtain ⟨vc, vn, vh, vl, rfl, ⟨hc, hn2, hh2, hl2⟩, hwf⟩ := id hr
  obtain ⟨a1, b1, rfl, -⟩ := id hc
  obtain ⟨a2, b2, rfl, -⟩ := id hn2
  obtain ⟨a3, b3, rfl, -⟩ := id hh2
  obtain ⟨a4, b4, rfl, -⟩ := id hl2
  obtain ⟨W0, hW0, hb0, hz0, hA0, hB0, hC0⟩ := box3 w (hArr h (.slice g1 h.shot.nodes.length q1) (.slice g2 h.shot.led.held.length q2) (.slice g3 h.shot.led.last.length q3) (.slice g4 h.log.length q4)) (rArr r (.slice a1 r.ent.cmd.nodes.length b1) (.slice a2 r.shot.nodes.length b2) (.slice a3 r.shot.led.held.length b3) (.slice a4 r.shot.led.last.length b4)) zH
  have HIH0 := Lib.hid (hh.below hb0 (Nat.le_refl _))
  have HIR0 := Lib.hid (hr.below hb0 (Nat.le_refl _))
  have HWH := Lib.hid (IsHard.harW hh)
  have HRW := Lib.hid hwf
  have HA0 := Lib.hid hA0
  have HB0 := Lib.hid hB0
  have HC0 := Lib.hid hC0
  have HS0 : Hid (w.heap.size + 3 ≤ W0.heap.size) := Lib.hid (by omega)
  have HBW0 := Lib.hid hb0
  clear hh hr hn hhe hl hg hhw hc hn2 hh2 hl2 hwf hb0 hA0 hB0 hC0 hz0
  have NO := Lib.hid no
  clear no
  go_enter Try.func25, Try.ntmps25
  go_wp2_with (first | (with_reducible refine wpList_load_row rfl 43 (.tmp 2) rfl w.heap.size rfl 43 (hArr h (.slice g1 h.shot.nodes.length q1) (.slice g2 h.shot.led.held.length q2) (.slice g3 h.shot.led.last.length q3) (.slice g4 h.log.length q4)) (0, 0) _ HA0.out Try.underlying43 rfl (by kernel_rfl) ?_) | fail)
  refine (Hd.rcheck_any h _ _ HIH0.out).mono ?_
  rintro e w1 ⟨z1, rfl, hz1, hb1⟩
  obtain rfl : z1 = 130 := by
    rcases hz1 with g | g
    · exact absurd g.2 NO.out
    · exact g.1
  clear hz1
  have HA1 := Lib.hid ((hb1.block _ (lt_of_row HA0.out)).trans HA0.out)
  have HB1 := Lib.hid ((hb1.block _ (lt_of_row HB0.out)).trans HB0.out)
  have HC1 := Lib.hid ((hb1.block _ (lt_of_row HC0.out)).trans HC0.out)
  have HBW1 := Lib.hid (HBW0.out.trans (hb1.mono HBW0.out.size))
  have HS1 := Lib.hid (Nat.le_trans HS0.out hb1.size)
  have HIH1 := Lib.hid (HIH0.out.below hb1 (Nat.le_refl _))
  have HIR1 := Lib.hid (HIR0.out.below hb1 (Nat.le_refl _))
  clear hb1
  have FIN := Lib.hid (did_no (h := h) (r := r) (fun g => NO.out g.1) HBW1.out)
  go_wp2_with (first | (with_reducible refine wpList_store_row rfl 43 (.tmp 4) (.tmp 16) rfl (w.heap.size + 2) zH rfl rfl 43 _ HC1.out (by kernel_rfl) rfl zH_one ?_) | fail)
  exact bodyPost_ret (v := .tuple #[.agg zH, .int .i64 130]) (results_ct rfl _ _ (w.heap.size + 2) 43 _ (0, 0) _ rfl (setRow_heap _ _ _ _ _ _ HC1.out) Try.underlying43 rfl (by kernel_rfl) rfl) rfl FIN.out
set_option maxHeartbeats 2000000 in
theorem rdo_no2 (h : Har) (vv : Value) (r : RecR) (v : Value) (w : World) (hh : IsHard w vv h)  (hr : IsRec w v r) (ok : hardOk h) (no : ¬ fitsP r) : Calls Try.prog 25 #[vv, v] w (Did h r w) := by
  obtain ⟨vn, vh, vl, vg, rfl, hn, hhe, hl, hg, hhw⟩ := id hh
  obtain ⟨g1, q1, rfl, -⟩ := id hn
  obtain ⟨g2, q2, rfl, -⟩ := id hhe
  obtain ⟨g3, q3, rfl, -⟩ := id hl
  obtain ⟨g4, q4, rfl, -⟩ := IsLog.len hg
  obtain ⟨vc, vn, vh, vl, rfl, ⟨hc, hn2, hh2, hl2⟩, hwf⟩ := id hr
  obtain ⟨a1, b1, rfl, -⟩ := id hc
  obtain ⟨a2, b2, rfl, -⟩ := id hn2
  obtain ⟨a3, b3, rfl, -⟩ := id hh2
  obtain ⟨a4, b4, rfl, -⟩ := id hl2
  obtain ⟨W0, hW0, hb0, hz0, hA0, hB0, hC0⟩ := box3 w (hArr h (.slice g1 h.shot.nodes.length q1) (.slice g2 h.shot.led.held.length q2) (.slice g3 h.shot.led.last.length q3) (.slice g4 h.log.length q4)) (rArr r (.slice a1 r.ent.cmd.nodes.length b1) (.slice a2 r.shot.nodes.length b2) (.slice a3 r.shot.led.held.length b3) (.slice a4 r.shot.led.last.length b4)) zH
  have HIH0 := Lib.hid (hh.below hb0 (Nat.le_refl _))
  have HIR0 := Lib.hid (hr.below hb0 (Nat.le_refl _))
  have HWH := Lib.hid (IsHard.harW hh)
  have HRW := Lib.hid hwf
  have HA0 := Lib.hid hA0
  have HB0 := Lib.hid hB0
  have HC0 := Lib.hid hC0
  have HS0 : Hid (w.heap.size + 3 ≤ W0.heap.size) := Lib.hid (by omega)
  have HBW0 := Lib.hid hb0
  clear hh hr hn hhe hl hg hhw hc hn2 hh2 hl2 hwf hb0 hA0 hB0 hC0 hz0
  have OK := Lib.hid ok
  have NO := Lib.hid no
  clear ok no
  go_enter Try.func25, Try.ntmps25
  go_wp2_with (first | (with_reducible refine wpList_load_row rfl 43 (.tmp 2) rfl w.heap.size rfl 43 (hArr h (.slice g1 h.shot.nodes.length q1) (.slice g2 h.shot.led.held.length q2) (.slice g3 h.shot.led.last.length q3) (.slice g4 h.log.length q4)) (0, 0) _ HA0.out Try.underlying43 rfl (by kernel_rfl) ?_) | fail)
  refine (Hd.rcheck_any h _ _ HIH0.out).mono ?_
  rintro e w1 ⟨z1, rfl, hz1, hb1⟩
  obtain rfl : z1 = 0 := by
    rcases hz1 with g | g
    · exact g.1
    · exact absurd OK.out g.2
  clear hz1
  have HA1 := Lib.hid ((hb1.block _ (lt_of_row HA0.out)).trans HA0.out)
  have HB1 := Lib.hid ((hb1.block _ (lt_of_row HB0.out)).trans HB0.out)
  have HC1 := Lib.hid ((hb1.block _ (lt_of_row HC0.out)).trans HC0.out)
  have HBW1 := Lib.hid (HBW0.out.trans (hb1.mono HBW0.out.size))
  have HS1 := Lib.hid (Nat.le_trans HS0.out hb1.size)
  have HIH1 := Lib.hid (HIH0.out.below hb1 (Nat.le_refl _))
  have HIR1 := Lib.hid (HIR0.out.below hb1 (Nat.le_refl _))
  clear hb1
  go_wp2_with (first | (with_reducible refine wpList_load_rowG rfl 49 (.tmp 3) rfl (w.heap.size + 1) rfl 49 (rArr r (.slice a1 r.ent.cmd.nodes.length b1) (.slice a2 r.shot.nodes.length b2) (.slice a3 r.shot.led.held.length b3) (.slice a4 r.shot.led.last.length b4)) (0, 0) _ HB1.out Try.underlying49 rfl (by kernel_rfl) ?_) | fail)
  refine (may_any r _ _ HIR1.out).mono ?_
  rintro e w2 ⟨t2, rfl, ht2, hb2⟩
  obtain rfl : t2 = false := by
    cases t2
    · rfl
    · exact absurd (ht2.1 rfl) NO.out
  clear ht2
  have HA2 := Lib.hid ((hb2.block _ (lt_of_row HA1.out)).trans HA1.out)
  have HB2 := Lib.hid ((hb2.block _ (lt_of_row HB1.out)).trans HB1.out)
  have HC2 := Lib.hid ((hb2.block _ (lt_of_row HC1.out)).trans HC1.out)
  have HBW2 := Lib.hid (HBW1.out.trans (hb2.mono HBW1.out.size))
  have HS2 := Lib.hid (Nat.le_trans HS1.out hb2.size)
  have HIH2 := Lib.hid (HIH1.out.below hb2 (Nat.le_refl _))
  have HIR2 := Lib.hid (HIR1.out.below hb2 (Nat.le_refl _))
  clear hb2
  have FIN := Lib.hid (did_no (h := h) (r := r) (fun g => NO.out g.2.1) HBW2.out)
  go_wp2_with (first | (with_reducible refine wpList_store_row rfl 43 (.tmp 4) (.tmp 16) rfl (w.heap.size + 2) zH rfl rfl 43 _ HC2.out (by kernel_rfl) rfl zH_one ?_) | fail)
  exact bodyPost_ret (v := .tuple #[.agg zH, .int .i64 130]) (results_ct rfl _ _ (w.heap.size + 2) 43 _ (0, 0) _ rfl (setRow_heap _ _ _ _ _ _ HC2.out) Try.underlying43 rfl (by kernel_rfl) rfl) rfl FIN.out
set_option maxHeartbeats 2000000 in
theorem rdo_yes (h : Har) (vv : Value) (r : RecR) (v : Value) (w : World) (hh : IsHard w vv h) (hf : IsHard.fits h) (hr : IsRec w v r) (hrf : IsRec.fits r) (ok : hardOk h) (fr : fitsP r) : Calls Try.prog 25 #[vv, v] w (Did h r w) := by
  obtain ⟨vn, vh, vl, vg, rfl, hn, hhe, hl, hg, hhw⟩ := id hh
  obtain ⟨g1, q1, rfl, -⟩ := id hn
  obtain ⟨g2, q2, rfl, -⟩ := id hhe
  obtain ⟨g3, q3, rfl, -⟩ := id hl
  obtain ⟨g4, q4, rfl, -⟩ := IsLog.len hg
  obtain ⟨vc, vn, vh, vl, rfl, ⟨hc, hn2, hh2, hl2⟩, hwf⟩ := id hr
  obtain ⟨a1, b1, rfl, -⟩ := id hc
  obtain ⟨a2, b2, rfl, -⟩ := id hn2
  obtain ⟨a3, b3, rfl, -⟩ := id hh2
  obtain ⟨a4, b4, rfl, -⟩ := id hl2
  obtain ⟨W0, hW0, hb0, hz0, hA0, hB0, hC0⟩ := box3 w (hArr h (.slice g1 h.shot.nodes.length q1) (.slice g2 h.shot.led.held.length q2) (.slice g3 h.shot.led.last.length q3) (.slice g4 h.log.length q4)) (rArr r (.slice a1 r.ent.cmd.nodes.length b1) (.slice a2 r.shot.nodes.length b2) (.slice a3 r.shot.led.held.length b3) (.slice a4 r.shot.led.last.length b4)) zH
  have HIHW := Lib.hid hh
  have HIRW := Lib.hid hr
  have HIH0 := Lib.hid (hh.below hb0 (Nat.le_refl _))
  have HIR0 := Lib.hid (hr.below hb0 (Nat.le_refl _))
  have HWH := Lib.hid (IsHard.harW hh)
  have HRW := Lib.hid hwf
  have HA0 := Lib.hid hA0
  have HB0 := Lib.hid hB0
  have HC0 := Lib.hid hC0
  have HS0 : Hid (w.heap.size + 3 ≤ W0.heap.size) := Lib.hid (by omega)
  have HBW0 := Lib.hid hb0
  clear hh hr hn hhe hl hg hhw hc hn2 hh2 hl2 hwf hb0 hA0 hB0 hC0 hz0
  have HLA : Hid (h.shot.index + h.log.length ≤ 4611686018427387904) := Lib.hid ok.2.2.2.1
  have HF := Lib.hid hf
  have HRF := Lib.hid hrf
  have OK := Lib.hid ok
  have FR := Lib.hid fr
  clear hf hrf ok fr
  go_enter Try.func25, Try.ntmps25
  go_wp2_with (first | (with_reducible refine wpList_load_row rfl 43 (.tmp 2) rfl w.heap.size rfl 43 (hArr h (.slice g1 h.shot.nodes.length q1) (.slice g2 h.shot.led.held.length q2) (.slice g3 h.shot.led.last.length q3) (.slice g4 h.log.length q4)) (0, 0) _ HA0.out Try.underlying43 rfl (by kernel_rfl) ?_) | fail)
  refine (Hd.rcheck_any h _ _ HIH0.out).mono ?_
  rintro e w1 ⟨z1, rfl, hz1, hb1⟩
  obtain rfl : z1 = 0 := by
    rcases hz1 with g | g
    · exact g.1
    · exact absurd OK.out g.2
  clear hz1
  have HA1 := Lib.hid ((hb1.block _ (lt_of_row HA0.out)).trans HA0.out)
  have HB1 := Lib.hid ((hb1.block _ (lt_of_row HB0.out)).trans HB0.out)
  have HC1 := Lib.hid ((hb1.block _ (lt_of_row HC0.out)).trans HC0.out)
  have HBW1 := Lib.hid (HBW0.out.trans (hb1.mono HBW0.out.size))
  have HS1 := Lib.hid (Nat.le_trans HS0.out hb1.size)
  have HIH1 := Lib.hid (HIH0.out.below hb1 (Nat.le_refl _))
  have HIR1 := Lib.hid (HIR0.out.below hb1 (Nat.le_refl _))
  clear hb1
  go_wp2_with (first | (with_reducible refine wpList_load_rowG rfl 49 (.tmp 3) rfl (w.heap.size + 1) rfl 49 (rArr r (.slice a1 r.ent.cmd.nodes.length b1) (.slice a2 r.shot.nodes.length b2) (.slice a3 r.shot.led.held.length b3) (.slice a4 r.shot.led.last.length b4)) (0, 0) _ HB1.out Try.underlying49 rfl (by kernel_rfl) ?_) | fail)
  refine (may_any r _ _ HIR1.out).mono ?_
  rintro e w2 ⟨t2, rfl, ht2, hb2⟩
  obtain rfl : t2 = true := ht2.2 FR.out
  clear ht2
  have HA2 := Lib.hid ((hb2.block _ (lt_of_row HA1.out)).trans HA1.out)
  have HB2 := Lib.hid ((hb2.block _ (lt_of_row HB1.out)).trans HB1.out)
  have HC2 := Lib.hid ((hb2.block _ (lt_of_row HC1.out)).trans HC1.out)
  have HBW2 := Lib.hid (HBW1.out.trans (hb2.mono HBW1.out.size))
  have HS2 := Lib.hid (Nat.le_trans HS1.out hb2.size)
  have HIH2 := Lib.hid (HIH1.out.below hb2 (Nat.le_refl _))
  have HIR2 := Lib.hid (HIR1.out.below hb2 (Nat.le_refl _))
  clear hb2
  clear hW0 HA1 HB1 HC1 HBW1 HS1 HIH1 HIR1 HA0 HB0 HC0 HS0 HBW0 HIH0 HIR0 HIH2 HIR2
  go_wp2_with fail
  have HA3 : Hid (w2.drew.heap[w.heap.size]? = some (.cells (hArr h (.slice g1 h.shot.nodes.length q1) (.slice g2 h.shot.led.held.length q2) (.slice g3 h.shot.led.last.length q3) (.slice g4 h.log.length q4)) 43 (0, 0))) := Lib.hid HA2.out
  have HB3 : Hid (w2.drew.heap[w.heap.size + 1]? = some (.cells (rArr r (.slice a1 r.ent.cmd.nodes.length b1) (.slice a2 r.shot.nodes.length b2) (.slice a3 r.shot.led.held.length b3) (.slice a4 r.shot.led.last.length b4)) 49 (0, 0))) := Lib.hid HB2.out
  have HC3 : Hid (w2.drew.heap[w.heap.size + 2]? = some (.cells zH 43 (0, 0))) := Lib.hid HC2.out
  have HBW3 : Hid (Below w.heap.size w w2.drew) := Lib.hid HBW2.out.drew
  have HS3 : Hid (w.heap.size + 3 ≤ w2.drew.heap.size) := Lib.hid HS2.out
  clear HA2 HB2 HC2 HBW2 HS2
  refine wp_region_held_drew (S := fun w' => w'.rangeAt w.heap.size 0 (hArr h (.slice g1 h.shot.nodes.length q1) (.slice g2 h.shot.led.held.length q2) (.slice g3 h.shot.led.last.length q3) (.slice g4 h.log.length q4)).toList ∧ w'.rangeAt (w.heap.size + 1) 0 (rArr r (.slice a1 r.ent.cmd.nodes.length b1) (.slice a2 r.shot.nodes.length b2) (.slice a3 r.shot.led.held.length b3) (.slice a4 r.shot.led.last.length b4)).toList) (by kernel_rfl) ⟨row_range HA3.out, row_range HB3.out⟩ (fun hHeld => ?_)
  generalize w2.drew = w3 at *
  refine wpAnyH_take (i := 0) (v := .agg (hArr h (.slice g1 h.shot.nodes.length q1) (.slice g2 h.shot.led.held.length q2) (.slice g3 h.shot.led.last.length q3) (.slice g4 h.log.length q4))) rfl (by kernel_rfl) (by kernel_rfl) (by kernel_rfl) (fun _ _ _ h => h) (yieldsIf_load_mid (by kernel_rfl) _ _ rfl w.heap.size 0 (by kernel_rfl) (hArr h (.slice g1 h.shot.nodes.length q1) (.slice g2 h.shot.led.held.length q2) (.slice g3 h.shot.led.last.length q3) (.slice g4 h.log.length q4)).toList _ (fun w h => h.1) Try.underlying43 rfl (by kernel_rfl)) (by assumption) ?_
  simp only [Act.put]
  refine wpAnyH_take (i := 2) (v := .agg (rArr r (.slice a1 r.ent.cmd.nodes.length b1) (.slice a2 r.shot.nodes.length b2) (.slice a3 r.shot.led.held.length b3) (.slice a4 r.shot.led.last.length b4))) rfl (by kernel_rfl) (by kernel_rfl) (by kernel_rfl) (fun _ _ _ h => h) (yieldsIf_load_mid (by kernel_rfl) _ _ rfl (w.heap.size + 1) 0 (by kernel_rfl) (rArr r (.slice a1 r.ent.cmd.nodes.length b1) (.slice a2 r.shot.nodes.length b2) (.slice a3 r.shot.led.held.length b3) (.slice a4 r.shot.led.last.length b4)).toList _ (fun w h => h.2) Try.underlying49 rfl (by kernel_rfl)) (by assumption) ?_
  simp only [Act.put]
  refine wpAnyH_ready (rs := [1, 8]) (by kernel_rfl) (by simp) ?_
  refine AllReadyH.cons rfl (fun K hK => ?_) (AllReadyH.cons rfl (fun K hK => ?_) AllReadyH.nil)
  · go_simp
    refine (hcopy_own h _ _ (HIHW.out.below HBW3.out (Nat.le_refl _)) HF.out).mono ?_
    rintro e w4 ⟨un, uh, ul, ug, rows, rfl, o1, o2, o3, o4, o5, hmap, hb⟩
    have HA4 := Lib.hid ((hb.block _ (lt_of_row HA3.out)).trans HA3.out)
    have HB4 := Lib.hid ((hb.block _ (lt_of_row HB3.out)).trans HB3.out)
    have HC4 := Lib.hid ((hb.block _ (lt_of_row HC3.out)).trans HC3.out)
    have HBW4 := Lib.hid (HBW3.out.trans (hb.mono HBW3.out.size))
    have HS4 := Lib.hid (Nat.le_trans HS3.out hb.size)
    obtain ⟨k1, m1, rfl, -⟩ := o1.sl HWH.out.2
    obtain ⟨k2, m2, rfl, -⟩ := o2.sl heldC_len
    obtain ⟨k3, m3, rfl, -⟩ := o3.sl lastC_len
    have HOG : Hid (OwnR 9 entC 47 w4 (w.heap.size + 3) ug rows ∧ EntsO w4 (w.heap.size + 3) ug.ownBlock rows) := Lib.hid ⟨o4.lower HS3.out, fun r hr => ⟨OwnK.lower (o5 r hr).1 HS3.out, (o5 r hr).2⟩⟩
    obtain ⟨k4, m4, hug, -⟩ := HOG.out.1.sl entC_len
    have hrl : rows.length = h.log.length := by rw [← hmap, List.length_map]
    rw [hrl] at hug
    subst hug
    have HMAP := Lib.hid hmap
    have OC4 : Hid ((OwnI w4 (w.heap.size + 3) (.slice k1 h.shot.nodes.length m1) h.shot.nodes ∧ OwnR 5 heldC 74 w4 (w.heap.size + 3) (.slice k2 h.shot.led.held.length m2) h.shot.led.held ∧ OwnR 6 lastC 78 w4 (w.heap.size + 3) (.slice k3 h.shot.led.last.length m3) h.shot.led.last) ∧ OwnR 9 entC 47 w4 (w.heap.size + 3) (.slice k4 h.log.length m4) rows ∧ EntsO w4 (w.heap.size + 3) (Value.slice k4 h.log.length m4).ownBlock rows) := Lib.hid ⟨⟨OwnK.lower o1 HS3.out, o2.lower HS3.out, o3.lower HS3.out⟩, HOG.out⟩
    clear o1 o2 o3 o4 o5 hmap hb hrl HOG
    refine hK.out _ _ ⟨row_range HA4.out, row_range HB4.out⟩ (fun hHeld => ?_)
    clear hK K
    refine wpAnyH_ready (rs := [3, 8]) (by kernel_rfl) (by simp) ?_
    refine AllReadyH.cons rfl (fun K hK => ?_) (AllReadyH.cons rfl (fun K hK => ?_) AllReadyH.nil)
    · go_simp
      refine (copyrec_any r _ _ (HIRW.out.below HBW4.out (Nat.le_refl _)) HRF.out).mono ?_
      rintro e w5 ⟨u1, x1, u2, x2, u3, x3, u4, x4, rfl, ro, hb⟩
      have HA5 := Lib.hid ((hb.block _ (lt_of_row HA4.out)).trans HA4.out)
      have HB5 := Lib.hid ((hb.block _ (lt_of_row HB4.out)).trans HB4.out)
      have HC5 := Lib.hid ((hb.block _ (lt_of_row HC4.out)).trans HC4.out)
      have HBW5 := Lib.hid (HBW4.out.trans (hb.mono HBW4.out.size))
      have HS5 := Lib.hid (Nat.le_trans HS4.out hb.size)
      have OC5 : Hid ((OwnI w5 (w.heap.size + 3) (.slice k1 h.shot.nodes.length m1) h.shot.nodes ∧ OwnR 5 heldC 74 w5 (w.heap.size + 3) (.slice k2 h.shot.led.held.length m2) h.shot.led.held ∧ OwnR 6 lastC 78 w5 (w.heap.size + 3) (.slice k3 h.shot.led.last.length m3) h.shot.led.last) ∧ OwnR 9 entC 47 w5 (w.heap.size + 3) (.slice k4 h.log.length m4) rows ∧ EntsO w5 (w.heap.size + 3) (Value.slice k4 h.log.length m4).ownBlock rows) := Lib.hid (⟨⟨owns_below hb OC4.out.1.1, owns_below hb OC4.out.1.2.1, owns_below hb OC4.out.1.2.2⟩, owns_below hb OC4.out.2.1, fun r hr => ⟨owns_below hb (OC4.out.2.2 r hr).1, (OC4.out.2.2 r hr).2⟩⟩)
      have OR5 : Hid (RecO w5 (w.heap.size + 3) (r, .slice u1 r.ent.cmd.nodes.length x1, .slice u2 r.shot.nodes.length x2, .slice u3 r.shot.led.held.length x3, .slice u4 r.shot.led.last.length x4)) := Lib.hid (ro.map fun e sz v n xs _ q => owns_lower HS4.out q)
      clear ro hb
      refine hK.out _ _ ⟨row_range HA5.out, row_range HB5.out⟩ (fun hHeld => ?_)
      clear hK K
      refine wpAnyH_ready (rs := [4, 8]) (by kernel_rfl) (by simp) ?_
      refine AllReadyH.cons rfl (fun K hK => ?_) (AllReadyH.cons rfl (fun K hK => ?_) AllReadyH.nil)
      · go_simp
        refine (done_any (w.heap.size + 3) h _ _ _ _ rows r _ _ _ _ _ HS5.out OC5.out.1.1 OC5.out.1.2.1 OC5.out.1.2.2 OC5.out.2.1 OC5.out.2.2 HMAP.out HWH.out OR5.out HLA.out HF.out.2.1 FR.out).mono ?_
        rintro e w6 ⟨bb, h', vn', vh', vl', vg', rfl, hq, he, own, hw, hb, hfar⟩
        obtain ⟨p1, n1, rfl, -⟩ := own.1.sl hw.2
        obtain ⟨p2, n2, rfl, -⟩ := own.2.1.sl heldC_len
        obtain ⟨p3, n3, rfl, -⟩ := own.2.2.1.sl lastC_len
        obtain ⟨p4, n4, rfl, -⟩ := IsLog.len own.2.2.2.log
        have HQ := Lib.hid hq
        have HE := Lib.hid he
        have OD6 := Lib.hid own
        have HWX := Lib.hid hw
        have HA6 := Lib.hid ((hb.block w.heap.size (by omega)).trans HA5.out)
        have HB6 := Lib.hid ((hb.block (w.heap.size + 1) (by omega)).trans HB5.out)
        have HC6 := Lib.hid ((hb.block (w.heap.size + 2) (by omega)).trans HC5.out)
        have HBW6 := Lib.hid (HBW5.out.trans (hb.mono (by omega)))
        have HS6 := Lib.hid (Nat.le_trans HS5.out hb.size)
        clear hq he own hw hb hfar
        refine hK.out _ _ ⟨row_range HA6.out, row_range HB6.out⟩ (fun hHeld => ?_)
        clear hK K
        refine wpAnyH_take (i := 5) (v := .tuple #[.agg (hArr h' (.slice p1 h'.shot.nodes.length n1) (.slice p2 h'.shot.led.held.length n2) (.slice p3 h'.shot.led.last.length n3) (.slice p4 h'.log.length n4)), .bool bb]) rfl (by kernel_rfl) (by kernel_rfl) (by kernel_rfl) (fun _ _ _ h => h) (Or.inl ⟨by kernel_rfl, ?_⟩) (by assumption) ?_
        · intro w hSw
          clear hSw hHeld
          go_simp
          try with_reducible rfl
        simp only [Act.put]
        refine wpAnyH_take (i := 6) (v := .agg (hArr h' (.slice p1 h'.shot.nodes.length n1) (.slice p2 h'.shot.led.held.length n2) (.slice p3 h'.shot.led.last.length n3) (.slice p4 h'.log.length n4))) rfl (by kernel_rfl) (by kernel_rfl) (by kernel_rfl) (fun _ _ _ h => h) (Or.inl ⟨by kernel_rfl, ?_⟩) (by assumption) ?_
        · intro w hSw
          clear hSw hHeld
          go_simp
          try with_reducible rfl
        simp only [Act.put]
        refine wpAnyH_take (i := 7) (v := .bool bb) rfl (by kernel_rfl) (by kernel_rfl) (by kernel_rfl) (fun _ _ _ h => h) (Or.inl ⟨by kernel_rfl, ?_⟩) (by assumption) ?_
        · intro w hSw
          clear hSw hHeld
          go_simp
          try with_reducible rfl
        simp only [Act.put]
        refine wpAnyH_ready (rs := [8]) (by kernel_rfl) (by simp) ?_
        refine AllReadyH.cons rfl (fun K hK => ?_) AllReadyH.nil
        go_simp
        obtain ⟨w7, hWA⟩ : ∃ q, w6.alloc (.cells zH 43) = q := ⟨_, rfl⟩
        rw [hWA]
        have hb : Below w6.heap.size w6 w7 := by rw [← hWA]; exact (Below.refl _ _).alloc (Nat.le_refl _) _
        have HA7 := Lib.hid ((hb.block _ (lt_of_row HA6.out)).trans HA6.out)
        have HB7 := Lib.hid ((hb.block _ (lt_of_row HB6.out)).trans HB6.out)
        have HC7 := Lib.hid ((hb.block _ (lt_of_row HC6.out)).trans HC6.out)
        have HBW7 := Lib.hid (HBW6.out.trans (hb.mono HBW6.out.size))
        have HS7 := Lib.hid (Nat.le_trans HS6.out hb.size)
        have OD7 := Lib.hid (OwnH.map OD6.out fun e sz v n xs q => owns_below hb q)
        have HX7 : Hid (w7.heap[w6.heap.size]? = some (.cells zH 43 (0, 0))) := Lib.hid (by rw [← hWA]; exact heap_alloc_new _ _)
        obtain ⟨g6, hg6⟩ : ∃ q, q = w6.heap.size := ⟨_, rfl⟩
        have HG6 : Hid (w.heap.size + 3 ≤ g6) := Lib.hid (by rw [hg6]; exact HS6.out)
        rw [← hg6] at HX7
        rw [← hg6]
        clear hb hWA hg6
        refine hK.out _ _ ⟨row_range HA7.out, row_range HB7.out⟩ (fun hHeld => ?_)
        clear hK K
        refine wpAnyH_ready (rs := [9]) (by kernel_rfl) (by simp) ?_
        refine AllReadyH.cons rfl (fun K hK => ?_) AllReadyH.nil
        rw [if_pos (by kernel_rfl)]
        refine wp_store_row 43 (.tmp 6) (.tmp 23) rfl g6 (hArr h' (.slice p1 h'.shot.nodes.length n1) (.slice p2 h'.shot.led.held.length n2) (.slice p3 h'.shot.led.last.length n3) (.slice p4 h'.log.length n4)) (by kernel_rfl) (by kernel_rfl) 43 _ HX7.out (by kernel_rfl) rfl (hArr_one _ _ _ _ _ _ _ _ _ _ _ _ _) ?_
        obtain ⟨w8, hWS⟩ : ∃ q, w7.setRow g6 (hArr h' (.slice p1 h'.shot.nodes.length n1) (.slice p2 h'.shot.led.held.length n2) (.slice p3 h'.shot.led.last.length n3) (.slice p4 h'.log.length n4)) = q := ⟨_, rfl⟩
        rw [hWS]
        have HA8 : Hid (w8.heap[w.heap.size]? = some (.cells (hArr h (.slice g1 h.shot.nodes.length q1) (.slice g2 h.shot.led.held.length q2) (.slice g3 h.shot.led.last.length q3) (.slice g4 h.log.length q4)) 43 (0, 0))) := Lib.hid (by rw [← hWS]; exact (setRow_other _ _ _ _ (by have := HG6.out; omega)).trans HA7.out)
        have HB8 : Hid (w8.heap[w.heap.size + 1]? = some (.cells (rArr r (.slice a1 r.ent.cmd.nodes.length b1) (.slice a2 r.shot.nodes.length b2) (.slice a3 r.shot.led.held.length b3) (.slice a4 r.shot.led.last.length b4)) 49 (0, 0))) := Lib.hid (by rw [← hWS]; exact (setRow_other _ _ _ _ (by have := HG6.out; omega)).trans HB7.out)
        have HC8 : Hid (w8.heap[w.heap.size + 2]? = some (.cells zH 43 (0, 0))) := Lib.hid (by rw [← hWS]; exact (setRow_other _ _ _ _ (by have := HG6.out; omega)).trans HC7.out)
        have HBW8 : Hid (Below w.heap.size w w8) := Lib.hid (by rw [← hWS]; exact Ld.below_row HBW7.out (by have := HG6.out; omega) _)
        have HS8 : Hid (w.heap.size + 3 ≤ w8.heap.size) := Lib.hid (by rw [← hWS]; simpa using HS7.out)
        have HX8 : Hid (w8.heap[g6]? = some (.cells (hArr h' (.slice p1 h'.shot.nodes.length n1) (.slice p2 h'.shot.led.held.length n2) (.slice p3 h'.shot.led.last.length n3) (.slice p4 h'.log.length n4)) 43 (0, 0))) := Lib.hid (by rw [← hWS]; exact setRow_heap _ _ _ _ _ _ HX7.out)
        have OD8 : Hid (OwnH w8 (w.heap.size + 3) (.slice p1 h'.shot.nodes.length n1) (.slice p2 h'.shot.led.held.length n2) (.slice p3 h'.shot.led.last.length n3) (.slice p4 h'.log.length n4) h') := Lib.hid (by rw [← hWS]; exact OwnH.mapT OD7.out fun e sz v n xs hne q => own_rowT q HX7.out hne)
        clear hWS
        refine hK.out _ _ ⟨row_range HA8.out, row_range HB8.out⟩ (fun hHeld => ?_)
        clear hK K
        refine wpAnyH_take (i := 10) (v := .bool bb) rfl (by kernel_rfl) (by kernel_rfl) (by kernel_rfl) (fun _ _ _ h => h) (Or.inl ⟨by kernel_rfl, ?_⟩) (by assumption) ?_
        · intro w hSw
          clear hSw hHeld
          go_simp
          try with_reducible rfl
        simp only [Act.put]
        refine wpAnyH_done (by kernel_rfl) ?_ _
        clear hHeld
        cases bb
        · have FIN := Lib.hid (did_no (h := h) (r := r) (fun g => by have := HQ.out.2 g.2.2.1; cases this) HBW8.out)
          go_wp2_with (first | (with_reducible refine wpList_store_row rfl 43 (.tmp 4) (.tmp 32) rfl (w.heap.size + 2) zH rfl rfl 43 _ HC8.out (by kernel_rfl) rfl zH_one ?_) | fail)
          exact bodyPost_ret (v := .tuple #[.agg zH, .int .i64 130]) (results_ct rfl _ _ (w.heap.size + 2) 43 _ (0, 0) _ rfl (setRow_heap _ _ _ _ _ _ HC8.out) Try.underlying43 rfl (by kernel_rfl) rfl) rfl FIN.out
        · have HFO := Lib.hid (HQ.out.1 rfl)
          have HEQ := Lib.hid (HE.out rfl)
          go_wp2_with (first | (with_reducible refine wpList_load_rowG rfl 43 (.tmp 6) rfl g6 rfl 43 (hArr h' (.slice p1 h'.shot.nodes.length n1) (.slice p2 h'.shot.led.held.length n2) (.slice p3 h'.shot.led.last.length n3) (.slice p4 h'.log.length n4)) (0, 0) _ HX8.out Try.underlying43 rfl (by kernel_rfl) ?_) | fail)
          refine (Hd.rcheck_any h' _ _ (OD8.out.hard HWX.out)).mono ?_
          rintro e w9 ⟨z7, rfl, hz7, hb7⟩
          have HX9 := Lib.hid ((hb7.block _ (lt_of_row HX8.out)).trans HX8.out)
          have HC9 := Lib.hid ((hb7.block _ (lt_of_row HC8.out)).trans HC8.out)
          have HBW9 := Lib.hid (HBW8.out.trans (hb7.mono HBW8.out.size))
          have OD9 := Lib.hid (OwnH.map OD8.out fun e sz v n xs q => owns_below hb7 q)
          clear hb7
          rcases hz7 with ⟨rfl, hok⟩ | ⟨rfl, hno⟩
          · have FIN := Lib.hid (did_yes HEQ.out.symm OK.out FR.out HFO.out hok OD9.out HWX.out HBW9.out)
            clear hok
            go_wp2_with (first | (with_reducible refine wpList_load_row rfl 43 (.tmp 6) rfl g6 rfl 43 (hArr h' (.slice p1 h'.shot.nodes.length n1) (.slice p2 h'.shot.led.held.length n2) (.slice p3 h'.shot.led.last.length n3) (.slice p4 h'.log.length n4)) (0, 0) _ HX9.out Try.underlying43 rfl (by kernel_rfl) ?_) | (with_reducible refine wpList_store_row rfl 43 (.tmp 4) (.tmp 33) rfl (w.heap.size + 2) (hArr h' (.slice p1 h'.shot.nodes.length n1) (.slice p2 h'.shot.led.held.length n2) (.slice p3 h'.shot.led.last.length n3) (.slice p4 h'.log.length n4)) rfl rfl 43 _ HC9.out (by kernel_rfl) rfl (hArr_one _ _ _ _ _ _ _ _ _ _ _ _ _) ?_))
            exact bodyPost_ret (v := .tuple #[.agg (hArr h' (.slice p1 h'.shot.nodes.length n1) (.slice p2 h'.shot.led.held.length n2) (.slice p3 h'.shot.led.last.length n3) (.slice p4 h'.log.length n4)), .int .i64 0]) (results_ct rfl _ _ (w.heap.size + 2) 43 _ (0, 0) _ rfl (setRow_heap _ _ _ _ _ _ HC9.out) Try.underlying43 rfl (by kernel_rfl) rfl) rfl FIN.out
          · have FIN := Lib.hid (did_no (h := h) (r := r) (fun g => hno (by have q := g.2.2.2; rw [← HEQ.out] at q; exact q)) HBW9.out)
            clear hno
            go_wp2_with (first | (with_reducible refine wpList_store_row rfl 43 (.tmp 4) (.tmp 32) rfl (w.heap.size + 2) zH rfl rfl 43 _ HC9.out (by kernel_rfl) rfl zH_one ?_) | fail)
            exact bodyPost_ret (v := .tuple #[.agg zH, .int .i64 130]) (results_ct rfl _ _ (w.heap.size + 2) 43 _ (0, 0) _ rfl (setRow_heap _ _ _ _ _ _ HC9.out) Try.underlying43 rfl (by kernel_rfl) rfl) rfl FIN.out
      · go_simp
        obtain ⟨w6, hWA⟩ : ∃ q, w5.alloc (.cells zH 43) = q := ⟨_, rfl⟩
        rw [hWA]
        have hb : Below w5.heap.size w5 w6 := by rw [← hWA]; exact (Below.refl _ _).alloc (Nat.le_refl _) _
        have HA6 := Lib.hid ((hb.block _ (lt_of_row HA5.out)).trans HA5.out)
        have HB6 := Lib.hid ((hb.block _ (lt_of_row HB5.out)).trans HB5.out)
        have HC6 := Lib.hid ((hb.block _ (lt_of_row HC5.out)).trans HC5.out)
        have HBW6 := Lib.hid (HBW5.out.trans (hb.mono HBW5.out.size))
        have HS6 := Lib.hid (Nat.le_trans HS5.out hb.size)
        have OC6 : Hid ((OwnI w6 (w.heap.size + 3) (.slice k1 h.shot.nodes.length m1) h.shot.nodes ∧ OwnR 5 heldC 74 w6 (w.heap.size + 3) (.slice k2 h.shot.led.held.length m2) h.shot.led.held ∧ OwnR 6 lastC 78 w6 (w.heap.size + 3) (.slice k3 h.shot.led.last.length m3) h.shot.led.last) ∧ OwnR 9 entC 47 w6 (w.heap.size + 3) (.slice k4 h.log.length m4) rows ∧ EntsO w6 (w.heap.size + 3) (Value.slice k4 h.log.length m4).ownBlock rows) := Lib.hid (⟨⟨owns_below hb OC5.out.1.1, owns_below hb OC5.out.1.2.1, owns_below hb OC5.out.1.2.2⟩, owns_below hb OC5.out.2.1, fun r hr => ⟨owns_below hb (OC5.out.2.2 r hr).1, (OC5.out.2.2 r hr).2⟩⟩)
        have OR6 := Lib.hid (OR5.out.map fun e sz v n xs _ q => owns_below hb q)
        have HX6 : Hid (w6.heap[w5.heap.size]? = some (.cells zH 43 (0, 0))) := Lib.hid (by rw [← hWA]; exact heap_alloc_new _ _)
        obtain ⟨g6, hg6⟩ : ∃ q, q = w5.heap.size := ⟨_, rfl⟩
        have HG6 : Hid (w.heap.size + 3 ≤ g6) := Lib.hid (by rw [hg6]; exact HS5.out)
        rw [← hg6] at HX6
        rw [← hg6]
        clear hb hWA hg6
        refine hK.out _ _ ⟨row_range HA6.out, row_range HB6.out⟩ (fun hHeld => ?_)
        clear hK K
        refine wpAnyH_ready (rs := [4]) (by kernel_rfl) (by simp) ?_
        refine AllReadyH.cons rfl (fun K hK => ?_) AllReadyH.nil
        go_simp
        refine (done_any (w.heap.size + 3) h _ _ _ _ rows r _ _ _ _ _ HS6.out OC6.out.1.1 OC6.out.1.2.1 OC6.out.1.2.2 OC6.out.2.1 OC6.out.2.2 HMAP.out HWH.out OR6.out HLA.out HF.out.2.1 FR.out).mono ?_
        rintro e w7 ⟨bb, h', vn', vh', vl', vg', rfl, hq, he, own, hw, hb, hfar⟩
        obtain ⟨p1, n1, rfl, -⟩ := own.1.sl hw.2
        obtain ⟨p2, n2, rfl, -⟩ := own.2.1.sl heldC_len
        obtain ⟨p3, n3, rfl, -⟩ := own.2.2.1.sl lastC_len
        obtain ⟨p4, n4, rfl, -⟩ := IsLog.len own.2.2.2.log
        have HQ := Lib.hid hq
        have HE := Lib.hid he
        have OD7 := Lib.hid own
        have HWX := Lib.hid hw
        have HA7 := Lib.hid ((hb.block w.heap.size (by omega)).trans HA6.out)
        have HB7 := Lib.hid ((hb.block (w.heap.size + 1) (by omega)).trans HB6.out)
        have HC7 := Lib.hid ((hb.block (w.heap.size + 2) (by omega)).trans HC6.out)
        have HBW7 := Lib.hid (HBW6.out.trans (hb.mono (by omega)))
        have HS7 := Lib.hid (Nat.le_trans HS6.out hb.size)
        have HX7 := Lib.hid (hfar _ _ _ _ HX6.out (by decide))
        clear hq he own hw hb hfar
        refine hK.out _ _ ⟨row_range HA7.out, row_range HB7.out⟩ (fun hHeld => ?_)
        clear hK K
        refine wpAnyH_take (i := 5) (v := .tuple #[.agg (hArr h' (.slice p1 h'.shot.nodes.length n1) (.slice p2 h'.shot.led.held.length n2) (.slice p3 h'.shot.led.last.length n3) (.slice p4 h'.log.length n4)), .bool bb]) rfl (by kernel_rfl) (by kernel_rfl) (by kernel_rfl) (fun _ _ _ h => h) (Or.inl ⟨by kernel_rfl, ?_⟩) (by assumption) ?_
        · intro w hSw
          clear hSw hHeld
          go_simp
          try with_reducible rfl
        simp only [Act.put]
        refine wpAnyH_take (i := 6) (v := .agg (hArr h' (.slice p1 h'.shot.nodes.length n1) (.slice p2 h'.shot.led.held.length n2) (.slice p3 h'.shot.led.last.length n3) (.slice p4 h'.log.length n4))) rfl (by kernel_rfl) (by kernel_rfl) (by kernel_rfl) (fun _ _ _ h => h) (Or.inl ⟨by kernel_rfl, ?_⟩) (by assumption) ?_
        · intro w hSw
          clear hSw hHeld
          go_simp
          try with_reducible rfl
        simp only [Act.put]
        refine wpAnyH_take (i := 7) (v := .bool bb) rfl (by kernel_rfl) (by kernel_rfl) (by kernel_rfl) (fun _ _ _ h => h) (Or.inl ⟨by kernel_rfl, ?_⟩) (by assumption) ?_
        · intro w hSw
          clear hSw hHeld
          go_simp
          try with_reducible rfl
        simp only [Act.put]
        refine wpAnyH_ready (rs := [9]) (by kernel_rfl) (by simp) ?_
        refine AllReadyH.cons rfl (fun K hK => ?_) AllReadyH.nil
        rw [if_pos (by kernel_rfl)]
        refine wp_store_row 43 (.tmp 6) (.tmp 23) rfl g6 (hArr h' (.slice p1 h'.shot.nodes.length n1) (.slice p2 h'.shot.led.held.length n2) (.slice p3 h'.shot.led.last.length n3) (.slice p4 h'.log.length n4)) (by kernel_rfl) (by kernel_rfl) 43 _ HX7.out (by kernel_rfl) rfl (hArr_one _ _ _ _ _ _ _ _ _ _ _ _ _) ?_
        obtain ⟨w8, hWS⟩ : ∃ q, w7.setRow g6 (hArr h' (.slice p1 h'.shot.nodes.length n1) (.slice p2 h'.shot.led.held.length n2) (.slice p3 h'.shot.led.last.length n3) (.slice p4 h'.log.length n4)) = q := ⟨_, rfl⟩
        rw [hWS]
        have HA8 : Hid (w8.heap[w.heap.size]? = some (.cells (hArr h (.slice g1 h.shot.nodes.length q1) (.slice g2 h.shot.led.held.length q2) (.slice g3 h.shot.led.last.length q3) (.slice g4 h.log.length q4)) 43 (0, 0))) := Lib.hid (by rw [← hWS]; exact (setRow_other _ _ _ _ (by have := HG6.out; omega)).trans HA7.out)
        have HB8 : Hid (w8.heap[w.heap.size + 1]? = some (.cells (rArr r (.slice a1 r.ent.cmd.nodes.length b1) (.slice a2 r.shot.nodes.length b2) (.slice a3 r.shot.led.held.length b3) (.slice a4 r.shot.led.last.length b4)) 49 (0, 0))) := Lib.hid (by rw [← hWS]; exact (setRow_other _ _ _ _ (by have := HG6.out; omega)).trans HB7.out)
        have HC8 : Hid (w8.heap[w.heap.size + 2]? = some (.cells zH 43 (0, 0))) := Lib.hid (by rw [← hWS]; exact (setRow_other _ _ _ _ (by have := HG6.out; omega)).trans HC7.out)
        have HBW8 : Hid (Below w.heap.size w w8) := Lib.hid (by rw [← hWS]; exact Ld.below_row HBW7.out (by have := HG6.out; omega) _)
        have HS8 : Hid (w.heap.size + 3 ≤ w8.heap.size) := Lib.hid (by rw [← hWS]; simpa using HS7.out)
        have HX8 : Hid (w8.heap[g6]? = some (.cells (hArr h' (.slice p1 h'.shot.nodes.length n1) (.slice p2 h'.shot.led.held.length n2) (.slice p3 h'.shot.led.last.length n3) (.slice p4 h'.log.length n4)) 43 (0, 0))) := Lib.hid (by rw [← hWS]; exact setRow_heap _ _ _ _ _ _ HX7.out)
        have OD8 : Hid (OwnH w8 (w.heap.size + 3) (.slice p1 h'.shot.nodes.length n1) (.slice p2 h'.shot.led.held.length n2) (.slice p3 h'.shot.led.last.length n3) (.slice p4 h'.log.length n4) h') := Lib.hid (by rw [← hWS]; exact OwnH.mapT OD7.out fun e sz v n xs hne q => own_rowT q HX7.out hne)
        clear hWS
        refine hK.out _ _ ⟨row_range HA8.out, row_range HB8.out⟩ (fun hHeld => ?_)
        clear hK K
        refine wpAnyH_take (i := 10) (v := .bool bb) rfl (by kernel_rfl) (by kernel_rfl) (by kernel_rfl) (fun _ _ _ h => h) (Or.inl ⟨by kernel_rfl, ?_⟩) (by assumption) ?_
        · intro w hSw
          clear hSw hHeld
          go_simp
          try with_reducible rfl
        simp only [Act.put]
        refine wpAnyH_done (by kernel_rfl) ?_ _
        clear hHeld
        cases bb
        · have FIN := Lib.hid (did_no (h := h) (r := r) (fun g => by have := HQ.out.2 g.2.2.1; cases this) HBW8.out)
          go_wp2_with (first | (with_reducible refine wpList_store_row rfl 43 (.tmp 4) (.tmp 32) rfl (w.heap.size + 2) zH rfl rfl 43 _ HC8.out (by kernel_rfl) rfl zH_one ?_) | fail)
          exact bodyPost_ret (v := .tuple #[.agg zH, .int .i64 130]) (results_ct rfl _ _ (w.heap.size + 2) 43 _ (0, 0) _ rfl (setRow_heap _ _ _ _ _ _ HC8.out) Try.underlying43 rfl (by kernel_rfl) rfl) rfl FIN.out
        · have HFO := Lib.hid (HQ.out.1 rfl)
          have HEQ := Lib.hid (HE.out rfl)
          go_wp2_with (first | (with_reducible refine wpList_load_rowG rfl 43 (.tmp 6) rfl g6 rfl 43 (hArr h' (.slice p1 h'.shot.nodes.length n1) (.slice p2 h'.shot.led.held.length n2) (.slice p3 h'.shot.led.last.length n3) (.slice p4 h'.log.length n4)) (0, 0) _ HX8.out Try.underlying43 rfl (by kernel_rfl) ?_) | fail)
          refine (Hd.rcheck_any h' _ _ (OD8.out.hard HWX.out)).mono ?_
          rintro e w9 ⟨z7, rfl, hz7, hb7⟩
          have HX9 := Lib.hid ((hb7.block _ (lt_of_row HX8.out)).trans HX8.out)
          have HC9 := Lib.hid ((hb7.block _ (lt_of_row HC8.out)).trans HC8.out)
          have HBW9 := Lib.hid (HBW8.out.trans (hb7.mono HBW8.out.size))
          have OD9 := Lib.hid (OwnH.map OD8.out fun e sz v n xs q => owns_below hb7 q)
          clear hb7
          rcases hz7 with ⟨rfl, hok⟩ | ⟨rfl, hno⟩
          · have FIN := Lib.hid (did_yes HEQ.out.symm OK.out FR.out HFO.out hok OD9.out HWX.out HBW9.out)
            clear hok
            go_wp2_with (first | (with_reducible refine wpList_load_row rfl 43 (.tmp 6) rfl g6 rfl 43 (hArr h' (.slice p1 h'.shot.nodes.length n1) (.slice p2 h'.shot.led.held.length n2) (.slice p3 h'.shot.led.last.length n3) (.slice p4 h'.log.length n4)) (0, 0) _ HX9.out Try.underlying43 rfl (by kernel_rfl) ?_) | (with_reducible refine wpList_store_row rfl 43 (.tmp 4) (.tmp 33) rfl (w.heap.size + 2) (hArr h' (.slice p1 h'.shot.nodes.length n1) (.slice p2 h'.shot.led.held.length n2) (.slice p3 h'.shot.led.last.length n3) (.slice p4 h'.log.length n4)) rfl rfl 43 _ HC9.out (by kernel_rfl) rfl (hArr_one _ _ _ _ _ _ _ _ _ _ _ _ _) ?_))
            exact bodyPost_ret (v := .tuple #[.agg (hArr h' (.slice p1 h'.shot.nodes.length n1) (.slice p2 h'.shot.led.held.length n2) (.slice p3 h'.shot.led.last.length n3) (.slice p4 h'.log.length n4)), .int .i64 0]) (results_ct rfl _ _ (w.heap.size + 2) 43 _ (0, 0) _ rfl (setRow_heap _ _ _ _ _ _ HC9.out) Try.underlying43 rfl (by kernel_rfl) rfl) rfl FIN.out
          · have FIN := Lib.hid (did_no (h := h) (r := r) (fun g => hno (by have q := g.2.2.2; rw [← HEQ.out] at q; exact q)) HBW9.out)
            clear hno
            go_wp2_with (first | (with_reducible refine wpList_store_row rfl 43 (.tmp 4) (.tmp 32) rfl (w.heap.size + 2) zH rfl rfl 43 _ HC9.out (by kernel_rfl) rfl zH_one ?_) | fail)
            exact bodyPost_ret (v := .tuple #[.agg zH, .int .i64 130]) (results_ct rfl _ _ (w.heap.size + 2) 43 _ (0, 0) _ rfl (setRow_heap _ _ _ _ _ _ HC9.out) Try.underlying43 rfl (by kernel_rfl) rfl) rfl FIN.out
    · go_simp
      obtain ⟨w5, hWA⟩ : ∃ q, w4.alloc (.cells zH 43) = q := ⟨_, rfl⟩
      rw [hWA]
      have hb : Below w4.heap.size w4 w5 := by rw [← hWA]; exact (Below.refl _ _).alloc (Nat.le_refl _) _
      have HA5 := Lib.hid ((hb.block _ (lt_of_row HA4.out)).trans HA4.out)
      have HB5 := Lib.hid ((hb.block _ (lt_of_row HB4.out)).trans HB4.out)
      have HC5 := Lib.hid ((hb.block _ (lt_of_row HC4.out)).trans HC4.out)
      have HBW5 := Lib.hid (HBW4.out.trans (hb.mono HBW4.out.size))
      have HS5 := Lib.hid (Nat.le_trans HS4.out hb.size)
      have OC5 : Hid ((OwnI w5 (w.heap.size + 3) (.slice k1 h.shot.nodes.length m1) h.shot.nodes ∧ OwnR 5 heldC 74 w5 (w.heap.size + 3) (.slice k2 h.shot.led.held.length m2) h.shot.led.held ∧ OwnR 6 lastC 78 w5 (w.heap.size + 3) (.slice k3 h.shot.led.last.length m3) h.shot.led.last) ∧ OwnR 9 entC 47 w5 (w.heap.size + 3) (.slice k4 h.log.length m4) rows ∧ EntsO w5 (w.heap.size + 3) (Value.slice k4 h.log.length m4).ownBlock rows) := Lib.hid (⟨⟨owns_below hb OC4.out.1.1, owns_below hb OC4.out.1.2.1, owns_below hb OC4.out.1.2.2⟩, owns_below hb OC4.out.2.1, fun r hr => ⟨owns_below hb (OC4.out.2.2 r hr).1, (OC4.out.2.2 r hr).2⟩⟩)
      have HX5 : Hid (w5.heap[w4.heap.size]? = some (.cells zH 43 (0, 0))) := Lib.hid (by rw [← hWA]; exact heap_alloc_new _ _)
      obtain ⟨g6, hg6⟩ : ∃ q, q = w4.heap.size := ⟨_, rfl⟩
      have HG6 : Hid (w.heap.size + 3 ≤ g6) := Lib.hid (by rw [hg6]; exact HS4.out)
      rw [← hg6] at HX5
      rw [← hg6]
      clear hb hWA hg6
      refine hK.out _ _ ⟨row_range HA5.out, row_range HB5.out⟩ (fun hHeld => ?_)
      clear hK K
      refine wpAnyH_ready (rs := [3]) (by kernel_rfl) (by simp) ?_
      refine AllReadyH.cons rfl (fun K hK => ?_) AllReadyH.nil
      go_simp
      refine (copyrec_any r _ _ (HIRW.out.below HBW5.out (Nat.le_refl _)) HRF.out).mono ?_
      rintro e w6 ⟨u1, x1, u2, x2, u3, x3, u4, x4, rfl, ro, hb⟩
      have HA6 := Lib.hid ((hb.block _ (lt_of_row HA5.out)).trans HA5.out)
      have HB6 := Lib.hid ((hb.block _ (lt_of_row HB5.out)).trans HB5.out)
      have HC6 := Lib.hid ((hb.block _ (lt_of_row HC5.out)).trans HC5.out)
      have HBW6 := Lib.hid (HBW5.out.trans (hb.mono HBW5.out.size))
      have HS6 := Lib.hid (Nat.le_trans HS5.out hb.size)
      have OC6 : Hid ((OwnI w6 (w.heap.size + 3) (.slice k1 h.shot.nodes.length m1) h.shot.nodes ∧ OwnR 5 heldC 74 w6 (w.heap.size + 3) (.slice k2 h.shot.led.held.length m2) h.shot.led.held ∧ OwnR 6 lastC 78 w6 (w.heap.size + 3) (.slice k3 h.shot.led.last.length m3) h.shot.led.last) ∧ OwnR 9 entC 47 w6 (w.heap.size + 3) (.slice k4 h.log.length m4) rows ∧ EntsO w6 (w.heap.size + 3) (Value.slice k4 h.log.length m4).ownBlock rows) := Lib.hid (⟨⟨owns_below hb OC5.out.1.1, owns_below hb OC5.out.1.2.1, owns_below hb OC5.out.1.2.2⟩, owns_below hb OC5.out.2.1, fun r hr => ⟨owns_below hb (OC5.out.2.2 r hr).1, (OC5.out.2.2 r hr).2⟩⟩)
      have HX6 := Lib.hid ((hb.block _ (lt_of_row HX5.out)).trans HX5.out)
      have OR6 : Hid (RecO w6 (w.heap.size + 3) (r, .slice u1 r.ent.cmd.nodes.length x1, .slice u2 r.shot.nodes.length x2, .slice u3 r.shot.led.held.length x3, .slice u4 r.shot.led.last.length x4)) := Lib.hid (ro.map fun e sz v n xs _ q => owns_lower HS5.out q)
      clear ro hb
      refine hK.out _ _ ⟨row_range HA6.out, row_range HB6.out⟩ (fun hHeld => ?_)
      clear hK K
      refine wpAnyH_ready (rs := [4]) (by kernel_rfl) (by simp) ?_
      refine AllReadyH.cons rfl (fun K hK => ?_) AllReadyH.nil
      go_simp
      refine (done_any (w.heap.size + 3) h _ _ _ _ rows r _ _ _ _ _ HS6.out OC6.out.1.1 OC6.out.1.2.1 OC6.out.1.2.2 OC6.out.2.1 OC6.out.2.2 HMAP.out HWH.out OR6.out HLA.out HF.out.2.1 FR.out).mono ?_
      rintro e w7 ⟨bb, h', vn', vh', vl', vg', rfl, hq, he, own, hw, hb, hfar⟩
      obtain ⟨p1, n1, rfl, -⟩ := own.1.sl hw.2
      obtain ⟨p2, n2, rfl, -⟩ := own.2.1.sl heldC_len
      obtain ⟨p3, n3, rfl, -⟩ := own.2.2.1.sl lastC_len
      obtain ⟨p4, n4, rfl, -⟩ := IsLog.len own.2.2.2.log
      have HQ := Lib.hid hq
      have HE := Lib.hid he
      have OD7 := Lib.hid own
      have HWX := Lib.hid hw
      have HA7 := Lib.hid ((hb.block w.heap.size (by omega)).trans HA6.out)
      have HB7 := Lib.hid ((hb.block (w.heap.size + 1) (by omega)).trans HB6.out)
      have HC7 := Lib.hid ((hb.block (w.heap.size + 2) (by omega)).trans HC6.out)
      have HBW7 := Lib.hid (HBW6.out.trans (hb.mono (by omega)))
      have HS7 := Lib.hid (Nat.le_trans HS6.out hb.size)
      have HX7 := Lib.hid (hfar _ _ _ _ HX6.out (by decide))
      clear hq he own hw hb hfar
      refine hK.out _ _ ⟨row_range HA7.out, row_range HB7.out⟩ (fun hHeld => ?_)
      clear hK K
      refine wpAnyH_take (i := 5) (v := .tuple #[.agg (hArr h' (.slice p1 h'.shot.nodes.length n1) (.slice p2 h'.shot.led.held.length n2) (.slice p3 h'.shot.led.last.length n3) (.slice p4 h'.log.length n4)), .bool bb]) rfl (by kernel_rfl) (by kernel_rfl) (by kernel_rfl) (fun _ _ _ h => h) (Or.inl ⟨by kernel_rfl, ?_⟩) (by assumption) ?_
      · intro w hSw
        clear hSw hHeld
        go_simp
        try with_reducible rfl
      simp only [Act.put]
      refine wpAnyH_take (i := 6) (v := .agg (hArr h' (.slice p1 h'.shot.nodes.length n1) (.slice p2 h'.shot.led.held.length n2) (.slice p3 h'.shot.led.last.length n3) (.slice p4 h'.log.length n4))) rfl (by kernel_rfl) (by kernel_rfl) (by kernel_rfl) (fun _ _ _ h => h) (Or.inl ⟨by kernel_rfl, ?_⟩) (by assumption) ?_
      · intro w hSw
        clear hSw hHeld
        go_simp
        try with_reducible rfl
      simp only [Act.put]
      refine wpAnyH_take (i := 7) (v := .bool bb) rfl (by kernel_rfl) (by kernel_rfl) (by kernel_rfl) (fun _ _ _ h => h) (Or.inl ⟨by kernel_rfl, ?_⟩) (by assumption) ?_
      · intro w hSw
        clear hSw hHeld
        go_simp
        try with_reducible rfl
      simp only [Act.put]
      refine wpAnyH_ready (rs := [9]) (by kernel_rfl) (by simp) ?_
      refine AllReadyH.cons rfl (fun K hK => ?_) AllReadyH.nil
      rw [if_pos (by kernel_rfl)]
      refine wp_store_row 43 (.tmp 6) (.tmp 23) rfl g6 (hArr h' (.slice p1 h'.shot.nodes.length n1) (.slice p2 h'.shot.led.held.length n2) (.slice p3 h'.shot.led.last.length n3) (.slice p4 h'.log.length n4)) (by kernel_rfl) (by kernel_rfl) 43 _ HX7.out (by kernel_rfl) rfl (hArr_one _ _ _ _ _ _ _ _ _ _ _ _ _) ?_
      obtain ⟨w8, hWS⟩ : ∃ q, w7.setRow g6 (hArr h' (.slice p1 h'.shot.nodes.length n1) (.slice p2 h'.shot.led.held.length n2) (.slice p3 h'.shot.led.last.length n3) (.slice p4 h'.log.length n4)) = q := ⟨_, rfl⟩
      rw [hWS]
      have HA8 : Hid (w8.heap[w.heap.size]? = some (.cells (hArr h (.slice g1 h.shot.nodes.length q1) (.slice g2 h.shot.led.held.length q2) (.slice g3 h.shot.led.last.length q3) (.slice g4 h.log.length q4)) 43 (0, 0))) := Lib.hid (by rw [← hWS]; exact (setRow_other _ _ _ _ (by have := HG6.out; omega)).trans HA7.out)
      have HB8 : Hid (w8.heap[w.heap.size + 1]? = some (.cells (rArr r (.slice a1 r.ent.cmd.nodes.length b1) (.slice a2 r.shot.nodes.length b2) (.slice a3 r.shot.led.held.length b3) (.slice a4 r.shot.led.last.length b4)) 49 (0, 0))) := Lib.hid (by rw [← hWS]; exact (setRow_other _ _ _ _ (by have := HG6.out; omega)).trans HB7.out)
      have HC8 : Hid (w8.heap[w.heap.size + 2]? = some (.cells zH 43 (0, 0))) := Lib.hid (by rw [← hWS]; exact (setRow_other _ _ _ _ (by have := HG6.out; omega)).trans HC7.out)
      have HBW8 : Hid (Below w.heap.size w w8) := Lib.hid (by rw [← hWS]; exact Ld.below_row HBW7.out (by have := HG6.out; omega) _)
      have HS8 : Hid (w.heap.size + 3 ≤ w8.heap.size) := Lib.hid (by rw [← hWS]; simpa using HS7.out)
      have HX8 : Hid (w8.heap[g6]? = some (.cells (hArr h' (.slice p1 h'.shot.nodes.length n1) (.slice p2 h'.shot.led.held.length n2) (.slice p3 h'.shot.led.last.length n3) (.slice p4 h'.log.length n4)) 43 (0, 0))) := Lib.hid (by rw [← hWS]; exact setRow_heap _ _ _ _ _ _ HX7.out)
      have OD8 : Hid (OwnH w8 (w.heap.size + 3) (.slice p1 h'.shot.nodes.length n1) (.slice p2 h'.shot.led.held.length n2) (.slice p3 h'.shot.led.last.length n3) (.slice p4 h'.log.length n4) h') := Lib.hid (by rw [← hWS]; exact OwnH.mapT OD7.out fun e sz v n xs hne q => own_rowT q HX7.out hne)
      clear hWS
      refine hK.out _ _ ⟨row_range HA8.out, row_range HB8.out⟩ (fun hHeld => ?_)
      clear hK K
      refine wpAnyH_take (i := 10) (v := .bool bb) rfl (by kernel_rfl) (by kernel_rfl) (by kernel_rfl) (fun _ _ _ h => h) (Or.inl ⟨by kernel_rfl, ?_⟩) (by assumption) ?_
      · intro w hSw
        clear hSw hHeld
        go_simp
        try with_reducible rfl
      simp only [Act.put]
      refine wpAnyH_done (by kernel_rfl) ?_ _
      clear hHeld
      cases bb
      · have FIN := Lib.hid (did_no (h := h) (r := r) (fun g => by have := HQ.out.2 g.2.2.1; cases this) HBW8.out)
        go_wp2_with (first | (with_reducible refine wpList_store_row rfl 43 (.tmp 4) (.tmp 32) rfl (w.heap.size + 2) zH rfl rfl 43 _ HC8.out (by kernel_rfl) rfl zH_one ?_) | fail)
        exact bodyPost_ret (v := .tuple #[.agg zH, .int .i64 130]) (results_ct rfl _ _ (w.heap.size + 2) 43 _ (0, 0) _ rfl (setRow_heap _ _ _ _ _ _ HC8.out) Try.underlying43 rfl (by kernel_rfl) rfl) rfl FIN.out
      · have HFO := Lib.hid (HQ.out.1 rfl)
        have HEQ := Lib.hid (HE.out rfl)
        go_wp2_with (first | (with_reducible refine wpList_load_rowG rfl 43 (.tmp 6) rfl g6 rfl 43 (hArr h' (.slice p1 h'.shot.nodes.length n1) (.slice p2 h'.shot.led.held.length n2) (.slice p3 h'.shot.led.last.length n3) (.slice p4 h'.log.length n4)) (0, 0) _ HX8.out Try.underlying43 rfl (by kernel_rfl) ?_) | fail)
        refine (Hd.rcheck_any h' _ _ (OD8.out.hard HWX.out)).mono ?_
        rintro e w9 ⟨z7, rfl, hz7, hb7⟩
        have HX9 := Lib.hid ((hb7.block _ (lt_of_row HX8.out)).trans HX8.out)
        have HC9 := Lib.hid ((hb7.block _ (lt_of_row HC8.out)).trans HC8.out)
        have HBW9 := Lib.hid (HBW8.out.trans (hb7.mono HBW8.out.size))
        have OD9 := Lib.hid (OwnH.map OD8.out fun e sz v n xs q => owns_below hb7 q)
        clear hb7
        rcases hz7 with ⟨rfl, hok⟩ | ⟨rfl, hno⟩
        · have FIN := Lib.hid (did_yes HEQ.out.symm OK.out FR.out HFO.out hok OD9.out HWX.out HBW9.out)
          clear hok
          go_wp2_with (first | (with_reducible refine wpList_load_row rfl 43 (.tmp 6) rfl g6 rfl 43 (hArr h' (.slice p1 h'.shot.nodes.length n1) (.slice p2 h'.shot.led.held.length n2) (.slice p3 h'.shot.led.last.length n3) (.slice p4 h'.log.length n4)) (0, 0) _ HX9.out Try.underlying43 rfl (by kernel_rfl) ?_) | (with_reducible refine wpList_store_row rfl 43 (.tmp 4) (.tmp 33) rfl (w.heap.size + 2) (hArr h' (.slice p1 h'.shot.nodes.length n1) (.slice p2 h'.shot.led.held.length n2) (.slice p3 h'.shot.led.last.length n3) (.slice p4 h'.log.length n4)) rfl rfl 43 _ HC9.out (by kernel_rfl) rfl (hArr_one _ _ _ _ _ _ _ _ _ _ _ _ _) ?_))
          exact bodyPost_ret (v := .tuple #[.agg (hArr h' (.slice p1 h'.shot.nodes.length n1) (.slice p2 h'.shot.led.held.length n2) (.slice p3 h'.shot.led.last.length n3) (.slice p4 h'.log.length n4)), .int .i64 0]) (results_ct rfl _ _ (w.heap.size + 2) 43 _ (0, 0) _ rfl (setRow_heap _ _ _ _ _ _ HC9.out) Try.underlying43 rfl (by kernel_rfl) rfl) rfl FIN.out
        · have FIN := Lib.hid (did_no (h := h) (r := r) (fun g => hno (by have q := g.2.2.2; rw [← HEQ.out] at q; exact q)) HBW9.out)
          clear hno
          go_wp2_with (first | (with_reducible refine wpList_store_row rfl 43 (.tmp 4) (.tmp 32) rfl (w.heap.size + 2) zH rfl rfl 43 _ HC9.out (by kernel_rfl) rfl zH_one ?_) | fail)
          exact bodyPost_ret (v := .tuple #[.agg zH, .int .i64 130]) (results_ct rfl _ _ (w.heap.size + 2) 43 _ (0, 0) _ rfl (setRow_heap _ _ _ _ _ _ HC9.out) Try.underlying43 rfl (by kernel_rfl) rfl) rfl FIN.out
  · go_simp
    obtain ⟨w4, hWA⟩ : ∃ q, w3.alloc (.cells zH 43) = q := ⟨_, rfl⟩
    rw [hWA]
    have hb : Below w3.heap.size w3 w4 := by rw [← hWA]; exact (Below.refl _ _).alloc (Nat.le_refl _) _
    have HA4 := Lib.hid ((hb.block _ (lt_of_row HA3.out)).trans HA3.out)
    have HB4 := Lib.hid ((hb.block _ (lt_of_row HB3.out)).trans HB3.out)
    have HC4 := Lib.hid ((hb.block _ (lt_of_row HC3.out)).trans HC3.out)
    have HBW4 := Lib.hid (HBW3.out.trans (hb.mono HBW3.out.size))
    have HS4 := Lib.hid (Nat.le_trans HS3.out hb.size)
    have HX4 : Hid (w4.heap[w3.heap.size]? = some (.cells zH 43 (0, 0))) := Lib.hid (by rw [← hWA]; exact heap_alloc_new _ _)
    obtain ⟨g6, hg6⟩ : ∃ q, q = w3.heap.size := ⟨_, rfl⟩
    have HG6 : Hid (w.heap.size + 3 ≤ g6) := Lib.hid (by rw [hg6]; exact HS3.out)
    rw [← hg6] at HX4
    rw [← hg6]
    clear hb hWA hg6
    refine hK.out _ _ ⟨row_range HA4.out, row_range HB4.out⟩ (fun hHeld => ?_)
    clear hK K
    refine wpAnyH_ready (rs := [1]) (by kernel_rfl) (by simp) ?_
    refine AllReadyH.cons rfl (fun K hK => ?_) AllReadyH.nil
    go_simp
    refine (hcopy_own h _ _ (HIHW.out.below HBW4.out (Nat.le_refl _)) HF.out).mono ?_
    rintro e w5 ⟨un, uh, ul, ug, rows, rfl, o1, o2, o3, o4, o5, hmap, hb⟩
    have HA5 := Lib.hid ((hb.block _ (lt_of_row HA4.out)).trans HA4.out)
    have HB5 := Lib.hid ((hb.block _ (lt_of_row HB4.out)).trans HB4.out)
    have HC5 := Lib.hid ((hb.block _ (lt_of_row HC4.out)).trans HC4.out)
    have HBW5 := Lib.hid (HBW4.out.trans (hb.mono HBW4.out.size))
    have HS5 := Lib.hid (Nat.le_trans HS4.out hb.size)
    have HX5 := Lib.hid ((hb.block _ (lt_of_row HX4.out)).trans HX4.out)
    obtain ⟨k1, m1, rfl, -⟩ := o1.sl HWH.out.2
    obtain ⟨k2, m2, rfl, -⟩ := o2.sl heldC_len
    obtain ⟨k3, m3, rfl, -⟩ := o3.sl lastC_len
    have HOG : Hid (OwnR 9 entC 47 w5 (w.heap.size + 3) ug rows ∧ EntsO w5 (w.heap.size + 3) ug.ownBlock rows) := Lib.hid ⟨o4.lower HS4.out, fun r hr => ⟨OwnK.lower (o5 r hr).1 HS4.out, (o5 r hr).2⟩⟩
    obtain ⟨k4, m4, hug, -⟩ := HOG.out.1.sl entC_len
    have hrl : rows.length = h.log.length := by rw [← hmap, List.length_map]
    rw [hrl] at hug
    subst hug
    have HMAP := Lib.hid hmap
    have OC5 : Hid ((OwnI w5 (w.heap.size + 3) (.slice k1 h.shot.nodes.length m1) h.shot.nodes ∧ OwnR 5 heldC 74 w5 (w.heap.size + 3) (.slice k2 h.shot.led.held.length m2) h.shot.led.held ∧ OwnR 6 lastC 78 w5 (w.heap.size + 3) (.slice k3 h.shot.led.last.length m3) h.shot.led.last) ∧ OwnR 9 entC 47 w5 (w.heap.size + 3) (.slice k4 h.log.length m4) rows ∧ EntsO w5 (w.heap.size + 3) (Value.slice k4 h.log.length m4).ownBlock rows) := Lib.hid ⟨⟨OwnK.lower o1 HS4.out, o2.lower HS4.out, o3.lower HS4.out⟩, HOG.out⟩
    clear o1 o2 o3 o4 o5 hmap hb hrl HOG
    refine hK.out _ _ ⟨row_range HA5.out, row_range HB5.out⟩ (fun hHeld => ?_)
    clear hK K
    refine wpAnyH_ready (rs := [3]) (by kernel_rfl) (by simp) ?_
    refine AllReadyH.cons rfl (fun K hK => ?_) AllReadyH.nil
    go_simp
    refine (copyrec_any r _ _ (HIRW.out.below HBW5.out (Nat.le_refl _)) HRF.out).mono ?_
    rintro e w6 ⟨u1, x1, u2, x2, u3, x3, u4, x4, rfl, ro, hb⟩
    have HA6 := Lib.hid ((hb.block _ (lt_of_row HA5.out)).trans HA5.out)
    have HB6 := Lib.hid ((hb.block _ (lt_of_row HB5.out)).trans HB5.out)
    have HC6 := Lib.hid ((hb.block _ (lt_of_row HC5.out)).trans HC5.out)
    have HBW6 := Lib.hid (HBW5.out.trans (hb.mono HBW5.out.size))
    have HS6 := Lib.hid (Nat.le_trans HS5.out hb.size)
    have OC6 : Hid ((OwnI w6 (w.heap.size + 3) (.slice k1 h.shot.nodes.length m1) h.shot.nodes ∧ OwnR 5 heldC 74 w6 (w.heap.size + 3) (.slice k2 h.shot.led.held.length m2) h.shot.led.held ∧ OwnR 6 lastC 78 w6 (w.heap.size + 3) (.slice k3 h.shot.led.last.length m3) h.shot.led.last) ∧ OwnR 9 entC 47 w6 (w.heap.size + 3) (.slice k4 h.log.length m4) rows ∧ EntsO w6 (w.heap.size + 3) (Value.slice k4 h.log.length m4).ownBlock rows) := Lib.hid (⟨⟨owns_below hb OC5.out.1.1, owns_below hb OC5.out.1.2.1, owns_below hb OC5.out.1.2.2⟩, owns_below hb OC5.out.2.1, fun r hr => ⟨owns_below hb (OC5.out.2.2 r hr).1, (OC5.out.2.2 r hr).2⟩⟩)
    have HX6 := Lib.hid ((hb.block _ (lt_of_row HX5.out)).trans HX5.out)
    have OR6 : Hid (RecO w6 (w.heap.size + 3) (r, .slice u1 r.ent.cmd.nodes.length x1, .slice u2 r.shot.nodes.length x2, .slice u3 r.shot.led.held.length x3, .slice u4 r.shot.led.last.length x4)) := Lib.hid (ro.map fun e sz v n xs _ q => owns_lower HS5.out q)
    clear ro hb
    refine hK.out _ _ ⟨row_range HA6.out, row_range HB6.out⟩ (fun hHeld => ?_)
    clear hK K
    refine wpAnyH_ready (rs := [4]) (by kernel_rfl) (by simp) ?_
    refine AllReadyH.cons rfl (fun K hK => ?_) AllReadyH.nil
    go_simp
    refine (done_any (w.heap.size + 3) h _ _ _ _ rows r _ _ _ _ _ HS6.out OC6.out.1.1 OC6.out.1.2.1 OC6.out.1.2.2 OC6.out.2.1 OC6.out.2.2 HMAP.out HWH.out OR6.out HLA.out HF.out.2.1 FR.out).mono ?_
    rintro e w7 ⟨bb, h', vn', vh', vl', vg', rfl, hq, he, own, hw, hb, hfar⟩
    obtain ⟨p1, n1, rfl, -⟩ := own.1.sl hw.2
    obtain ⟨p2, n2, rfl, -⟩ := own.2.1.sl heldC_len
    obtain ⟨p3, n3, rfl, -⟩ := own.2.2.1.sl lastC_len
    obtain ⟨p4, n4, rfl, -⟩ := IsLog.len own.2.2.2.log
    have HQ := Lib.hid hq
    have HE := Lib.hid he
    have OD7 := Lib.hid own
    have HWX := Lib.hid hw
    have HA7 := Lib.hid ((hb.block w.heap.size (by omega)).trans HA6.out)
    have HB7 := Lib.hid ((hb.block (w.heap.size + 1) (by omega)).trans HB6.out)
    have HC7 := Lib.hid ((hb.block (w.heap.size + 2) (by omega)).trans HC6.out)
    have HBW7 := Lib.hid (HBW6.out.trans (hb.mono (by omega)))
    have HS7 := Lib.hid (Nat.le_trans HS6.out hb.size)
    have HX7 := Lib.hid (hfar _ _ _ _ HX6.out (by decide))
    clear hq he own hw hb hfar
    refine hK.out _ _ ⟨row_range HA7.out, row_range HB7.out⟩ (fun hHeld => ?_)
    clear hK K
    refine wpAnyH_take (i := 5) (v := .tuple #[.agg (hArr h' (.slice p1 h'.shot.nodes.length n1) (.slice p2 h'.shot.led.held.length n2) (.slice p3 h'.shot.led.last.length n3) (.slice p4 h'.log.length n4)), .bool bb]) rfl (by kernel_rfl) (by kernel_rfl) (by kernel_rfl) (fun _ _ _ h => h) (Or.inl ⟨by kernel_rfl, ?_⟩) (by assumption) ?_
    · intro w hSw
      clear hSw hHeld
      go_simp
      try with_reducible rfl
    simp only [Act.put]
    refine wpAnyH_take (i := 6) (v := .agg (hArr h' (.slice p1 h'.shot.nodes.length n1) (.slice p2 h'.shot.led.held.length n2) (.slice p3 h'.shot.led.last.length n3) (.slice p4 h'.log.length n4))) rfl (by kernel_rfl) (by kernel_rfl) (by kernel_rfl) (fun _ _ _ h => h) (Or.inl ⟨by kernel_rfl, ?_⟩) (by assumption) ?_
    · intro w hSw
      clear hSw hHeld
      go_simp
      try with_reducible rfl
    simp only [Act.put]
    refine wpAnyH_take (i := 7) (v := .bool bb) rfl (by kernel_rfl) (by kernel_rfl) (by kernel_rfl) (fun _ _ _ h => h) (Or.inl ⟨by kernel_rfl, ?_⟩) (by assumption) ?_
    · intro w hSw
      clear hSw hHeld
      go_simp
      try with_reducible rfl
    simp only [Act.put]
    refine wpAnyH_ready (rs := [9]) (by kernel_rfl) (by simp) ?_
    refine AllReadyH.cons rfl (fun K hK => ?_) AllReadyH.nil
    rw [if_pos (by kernel_rfl)]
    refine wp_store_row 43 (.tmp 6) (.tmp 23) rfl g6 (hArr h' (.slice p1 h'.shot.nodes.length n1) (.slice p2 h'.shot.led.held.length n2) (.slice p3 h'.shot.led.last.length n3) (.slice p4 h'.log.length n4)) (by kernel_rfl) (by kernel_rfl) 43 _ HX7.out (by kernel_rfl) rfl (hArr_one _ _ _ _ _ _ _ _ _ _ _ _ _) ?_
    obtain ⟨w8, hWS⟩ : ∃ q, w7.setRow g6 (hArr h' (.slice p1 h'.shot.nodes.length n1) (.slice p2 h'.shot.led.held.length n2) (.slice p3 h'.shot.led.last.length n3) (.slice p4 h'.log.length n4)) = q := ⟨_, rfl⟩
    rw [hWS]
    have HA8 : Hid (w8.heap[w.heap.size]? = some (.cells (hArr h (.slice g1 h.shot.nodes.length q1) (.slice g2 h.shot.led.held.length q2) (.slice g3 h.shot.led.last.length q3) (.slice g4 h.log.length q4)) 43 (0, 0))) := Lib.hid (by rw [← hWS]; exact (setRow_other _ _ _ _ (by have := HG6.out; omega)).trans HA7.out)
    have HB8 : Hid (w8.heap[w.heap.size + 1]? = some (.cells (rArr r (.slice a1 r.ent.cmd.nodes.length b1) (.slice a2 r.shot.nodes.length b2) (.slice a3 r.shot.led.held.length b3) (.slice a4 r.shot.led.last.length b4)) 49 (0, 0))) := Lib.hid (by rw [← hWS]; exact (setRow_other _ _ _ _ (by have := HG6.out; omega)).trans HB7.out)
    have HC8 : Hid (w8.heap[w.heap.size + 2]? = some (.cells zH 43 (0, 0))) := Lib.hid (by rw [← hWS]; exact (setRow_other _ _ _ _ (by have := HG6.out; omega)).trans HC7.out)
    have HBW8 : Hid (Below w.heap.size w w8) := Lib.hid (by rw [← hWS]; exact Ld.below_row HBW7.out (by have := HG6.out; omega) _)
    have HS8 : Hid (w.heap.size + 3 ≤ w8.heap.size) := Lib.hid (by rw [← hWS]; simpa using HS7.out)
    have HX8 : Hid (w8.heap[g6]? = some (.cells (hArr h' (.slice p1 h'.shot.nodes.length n1) (.slice p2 h'.shot.led.held.length n2) (.slice p3 h'.shot.led.last.length n3) (.slice p4 h'.log.length n4)) 43 (0, 0))) := Lib.hid (by rw [← hWS]; exact setRow_heap _ _ _ _ _ _ HX7.out)
    have OD8 : Hid (OwnH w8 (w.heap.size + 3) (.slice p1 h'.shot.nodes.length n1) (.slice p2 h'.shot.led.held.length n2) (.slice p3 h'.shot.led.last.length n3) (.slice p4 h'.log.length n4) h') := Lib.hid (by rw [← hWS]; exact OwnH.mapT OD7.out fun e sz v n xs hne q => own_rowT q HX7.out hne)
    clear hWS
    refine hK.out _ _ ⟨row_range HA8.out, row_range HB8.out⟩ (fun hHeld => ?_)
    clear hK K
    refine wpAnyH_take (i := 10) (v := .bool bb) rfl (by kernel_rfl) (by kernel_rfl) (by kernel_rfl) (fun _ _ _ h => h) (Or.inl ⟨by kernel_rfl, ?_⟩) (by assumption) ?_
    · intro w hSw
      clear hSw hHeld
      go_simp
      try with_reducible rfl
    simp only [Act.put]
    refine wpAnyH_done (by kernel_rfl) ?_ _
    clear hHeld
    cases bb
    · have FIN := Lib.hid (did_no (h := h) (r := r) (fun g => by have := HQ.out.2 g.2.2.1; cases this) HBW8.out)
      go_wp2_with (first | (with_reducible refine wpList_store_row rfl 43 (.tmp 4) (.tmp 32) rfl (w.heap.size + 2) zH rfl rfl 43 _ HC8.out (by kernel_rfl) rfl zH_one ?_) | fail)
      exact bodyPost_ret (v := .tuple #[.agg zH, .int .i64 130]) (results_ct rfl _ _ (w.heap.size + 2) 43 _ (0, 0) _ rfl (setRow_heap _ _ _ _ _ _ HC8.out) Try.underlying43 rfl (by kernel_rfl) rfl) rfl FIN.out
    · have HFO := Lib.hid (HQ.out.1 rfl)
      have HEQ := Lib.hid (HE.out rfl)
      go_wp2_with (first | (with_reducible refine wpList_load_rowG rfl 43 (.tmp 6) rfl g6 rfl 43 (hArr h' (.slice p1 h'.shot.nodes.length n1) (.slice p2 h'.shot.led.held.length n2) (.slice p3 h'.shot.led.last.length n3) (.slice p4 h'.log.length n4)) (0, 0) _ HX8.out Try.underlying43 rfl (by kernel_rfl) ?_) | fail)
      refine (Hd.rcheck_any h' _ _ (OD8.out.hard HWX.out)).mono ?_
      rintro e w9 ⟨z7, rfl, hz7, hb7⟩
      have HX9 := Lib.hid ((hb7.block _ (lt_of_row HX8.out)).trans HX8.out)
      have HC9 := Lib.hid ((hb7.block _ (lt_of_row HC8.out)).trans HC8.out)
      have HBW9 := Lib.hid (HBW8.out.trans (hb7.mono HBW8.out.size))
      have OD9 := Lib.hid (OwnH.map OD8.out fun e sz v n xs q => owns_below hb7 q)
      clear hb7
      rcases hz7 with ⟨rfl, hok⟩ | ⟨rfl, hno⟩
      · have FIN := Lib.hid (did_yes HEQ.out.symm OK.out FR.out HFO.out hok OD9.out HWX.out HBW9.out)
        clear hok
        go_wp2_with (first | (with_reducible refine wpList_load_row rfl 43 (.tmp 6) rfl g6 rfl 43 (hArr h' (.slice p1 h'.shot.nodes.length n1) (.slice p2 h'.shot.led.held.length n2) (.slice p3 h'.shot.led.last.length n3) (.slice p4 h'.log.length n4)) (0, 0) _ HX9.out Try.underlying43 rfl (by kernel_rfl) ?_) | (with_reducible refine wpList_store_row rfl 43 (.tmp 4) (.tmp 33) rfl (w.heap.size + 2) (hArr h' (.slice p1 h'.shot.nodes.length n1) (.slice p2 h'.shot.led.held.length n2) (.slice p3 h'.shot.led.last.length n3) (.slice p4 h'.log.length n4)) rfl rfl 43 _ HC9.out (by kernel_rfl) rfl (hArr_one _ _ _ _ _ _ _ _ _ _ _ _ _) ?_))
        exact bodyPost_ret (v := .tuple #[.agg (hArr h' (.slice p1 h'.shot.nodes.length n1) (.slice p2 h'.shot.led.held.length n2) (.slice p3 h'.shot.led.last.length n3) (.slice p4 h'.log.length n4)), .int .i64 0]) (results_ct rfl _ _ (w.heap.size + 2) 43 _ (0, 0) _ rfl (setRow_heap _ _ _ _ _ _ HC9.out) Try.underlying43 rfl (by kernel_rfl) rfl) rfl FIN.out
      · have FIN := Lib.hid (did_no (h := h) (r := r) (fun g => hno (by have q := g.2.2.2; rw [← HEQ.out] at q; exact q)) HBW9.out)
        clear hno
        go_wp2_with (first | (with_reducible refine wpList_store_row rfl 43 (.tmp 4) (.tmp 32) rfl (w.heap.size + 2) zH rfl rfl 43 _ HC9.out (by kernel_rfl) rfl zH_one ?_) | fail)
        exact bodyPost_ret (v := .tuple #[.agg zH, .int .i64 130]) (results_ct rfl _ _ (w.heap.size + 2) 43 _ (0, 0) _ rfl (setRow_heap _ _ _ _ _ _ HC9.out) Try.underlying43 rfl (by kernel_rfl) rfl) rfl FIN.out
theorem rdo_any (h : Har) (vv : Value) (r : RecR) (v : Value) (w : World) (hh : IsHard w vv h) (hf : IsHard.fits h) (hr : IsRec w v r) (hrf : IsRec.fits r) : Calls Try.prog 25 #[vv, v] w (Did h r w) := by
  by_cases ok : hardOk h
  · by_cases fr : fitsP r
    · exact rdo_yes h vv r v w hh hf hr hrf ok fr
    · exact rdo_no2 h vv r v w hh hr ok fr
  · exact rdo_no1 h vv r v w hh hr ok
end Rc
end Go.Proofs.Ytlkgmjhejocobaa
