/- What a record does to what lasts: on lists, the frame of hard.Do, and what it refuses. No condition but the bounds of what may last. What hard.Do does with records of kinds 1 and 2. No condition but the bounds of what may last. What hard.Do does with records of kind 4. No condition but the bounds of what may last. What hard.Do does with records of kind 3. No condition but the bounds of what may last. What hard.Do does with records of kind 5. No condition but the bounds of what may last. What hard.Do does with any record. No condition but the bounds of what may last. -/
import Derived.Test.YtlkgmjhejocobaaHdV
import Derived.Test.YtlkgmjhejocobaaRcN
import Derived.Deep.QuietTactic
import Derived.BigQuiet
import Derived.Deep.MidRow
import Derived.Test.YtlkgmjhejocobaaEnM
import Derived.Deep.RegionLaw
namespace Go.Proofs.Ytlkgmjhejocobaa
open Go.ChangeShapes Go.WideShapes Go.ChangeAt Go.RowKit Go.Deep
set_option linter.unusedVariables false
set_option maxRecDepth 100000
abbrev Rc.zH : Array Value := #[.int .u64 0, .int .u64 0, .int .i64 0, .int .u64 0, .int .u64 0, .slice none 0 0, .int .i64 0, .int .u64 0, .slice none 0 0, .slice none 0 0, .slice none 0 0]
theorem results_ct {P : Program} {fn : Func} {p a : Tmp} {ty : TypeId} (h : fn.results = #[.cell p ty, .tmp a]) (tmps : Array Value) (w : World) (g : Nat) (t : TypeId) (cs : Array Value) (fr : Nat × Nat) (d : TypeDesc)
    (hp : tmps.getD p undef = .pointer (some ⟨g, 0, none⟩)) (hg : w.heap[g]? = some (.cells cs t fr))
    (hu : P.underlying ty = some d) (hd : (match d with | .struct _ | .array _ _ => true | _ => false) = true) (hi : (P.info? ty).map (·.size) = some cs.size) {x : Value} (hx : tmps.getD a undef = x) :
    (results fn tmps).run P w = .ok (.tuple #[.agg cs, x]) w := by
  subst hx
  have hp' : tmps[p]?.getD undef = .pointer (some ⟨g, 0, none⟩) := by simpa using hp
  simp [results, h, hp', asAddr, run_loadVar_row w g t ty cs fr d hg hu hd hi]
namespace Rc
open Hd Nv
def doH (h : Har) (r : RecR) : Har := if r.kind = 1 then { h with boot := r.boot } else if r.kind = 2 then { h with term := r.term, vote := r.vote } else if r.kind = 3 then { h with log := h.log ++ [r.ent] } else if r.kind = 4 then { h with log := h.log.take (r.index - h.shot.index - 1).toNat } else { h with shot := r.shot, log := behindL h r.shot }
def can (h : Har) (r : RecR) : Prop := hardOk h ∧ fitsP r ∧ followsP h r ∧ hardOk (doH h r)
def nilH : Har := ⟨0, 0, 0, ⟨0, 0, [], ⟨0, 0, [], []⟩⟩, []⟩
theorem nilH_w : HarW nilH := ⟨⟨by decide, by decide, by decide, by decide, by decide, by decide, by decide, by simp [nilH], by simp [nilH]⟩, by simp [nilH]⟩
theorem nilH_own (w : World) (B : Nat) : OwnH w B (.slice none 0 0) (.slice none 0 0) (.slice none 0 0) (.slice none 0 0) nilH := ⟨OwnK.nil .i64 3 w B, OwnR.nil _ _ _, OwnR.nil _ _ _, LogP.nil _ _⟩
/-- what hard.Do answers: what lasts, its lists the call's own, and an error -/
def Did (h : Har) (r : RecR) (w : World) (e : Ending) (w' : World) : Prop := ∃ z h' vn vh vl vg, e = .returned (.tuple #[.agg (hArr h' vn vh vl vg), .int .i64 z]) ∧ ((z = 0 ∧ can h r ∧ h' = doH h r) ∨ (z = 130 ∧ ¬ can h r ∧ h' = nilH)) ∧ OwnH w' w.heap.size vn vh vl vg h' ∧ HarW h' ∧ Below w.heap.size w w'
theorem did_yes {h h' : Har} {r : RecR} {w w7 : World} {vn vh vl vg : Value} (he : doH h r = h') (ok : hardOk h) (fr : fitsP r) (fo : followsP h r) (hok : hardOk h') (own : OwnH w7 (w.heap.size + 3) vn vh vl vg h') (hw : HarW h') (hb : Below w.heap.size w w7) :
    Did h r w (.returned (.tuple #[.agg (hArr h' vn vh vl vg), .int .i64 0])) (w7.setRow (w.heap.size + 2) (hArr h' vn vh vl vg)) :=
  ⟨0, h', vn, vh, vl, vg, rfl, .inl ⟨rfl, ⟨ok, fr, fo, by rw [he]; exact hok⟩, he.symm⟩, own.map fun e sz v n xs q => owns_lower (by omega) (owns_row (g := w.heap.size + 2) q (by omega)), hw, Ld.below_row hb (by omega) _⟩
theorem did_no {h : Har} {r : RecR} {w w7 : World} (hno : ¬ can h r) (hb : Below w.heap.size w w7) :
    Did h r w (.returned (.tuple #[.agg zH, .int .i64 130])) (w7.setRow (w.heap.size + 2) zH) :=
  ⟨130, nilH, _, _, _, _, rfl, .inr ⟨rfl, hno, rfl⟩, nilH_own _ _, nilH_w, Ld.below_row hb (by omega) _⟩
theorem zH_one : zH.all (·.oneCell') = true := by simp [zH, Value.oneCell']
theorem box3 (w : World) (A B C : Array Value) : ∃ W, ((w.alloc (.cells A 43)).alloc (.cells B 49)).alloc (.cells C 43) = W ∧ Below w.heap.size w W ∧ W.heap.size = w.heap.size + 3 ∧ W.heap[w.heap.size]? = some (.cells A 43 (0, 0)) ∧ W.heap[w.heap.size + 1]? = some (.cells B 49 (0, 0)) ∧ W.heap[w.heap.size + 2]? = some (.cells C 43 (0, 0)) :=
  ⟨_, rfl, (((Below.refl _ _).alloc (Nat.le_refl _) _).alloc (by simp) _).alloc (by simp; omega) _, by simp, (heap_alloc_old _ _ (by simp; omega)).trans ((heap_alloc_old _ _ (by simp)).trans (heap_alloc_new _ _)), (heap_alloc_old _ _ (by simp)).trans (La.new2 _ _ _), by have := heap_alloc_new ((w.alloc (.cells A 43)).alloc (.cells B 49)) (.cells C 43); simpa using this⟩
set_option maxHeartbeats 8000000 in
theorem do_no1 (h : Har) (vv : Value) (r : RecR) (v : Value) (w : World) (hh : IsHard w vv h)  (hr : IsRec w v r) (no : ¬ hardOk h) : Calls Try.prog 24 #[vv, v] w (Did h r w) := by
  obtain ⟨vn, vh, vl, vg, rfl, hn, hhe, hl, hg, hhw⟩ := id hh
  obtain ⟨g1, q1, rfl, -⟩ := id hn
  obtain ⟨g2, q2, rfl, -⟩ := id hhe
  obtain ⟨g3, q3, rfl, -⟩ := id hl
  obtain ⟨g4, q4, rfl, -⟩ := IsLog.len hg
  obtain ⟨vc, vn, vh, vl, rfl, ⟨hc, hn2, hh2, hl2⟩, hwf⟩ := id hr
  obtain ⟨a1, b1, rfl, -⟩ := id hc
  obtain ⟨a2, b2, rfl, -⟩ := id hn2
  obtain ⟨a3, b3, rfl, -⟩ := id hh2
  obtain ⟨a4, b4, rfl, -⟩ := id hl2
  obtain ⟨W0, hW0, hb0, hz0, hA0, hB0, hC0⟩ := box3 w (hArr h (.slice g1 h.shot.nodes.length q1) (.slice g2 h.shot.led.held.length q2) (.slice g3 h.shot.led.last.length q3) (.slice g4 h.log.length q4)) (rArr r (.slice a1 r.ent.cmd.nodes.length b1) (.slice a2 r.shot.nodes.length b2) (.slice a3 r.shot.led.held.length b3) (.slice a4 r.shot.led.last.length b4)) zH
  have HIH0 := Lib.hid (hh.below hb0 (Nat.le_refl _))
  have HIR0 := Lib.hid (hr.below hb0 (Nat.le_refl _))
  have HWH := Lib.hid (IsHard.harW hh)
  have HRW := Lib.hid hwf
  have HA0 := Lib.hid hA0
  have HB0 := Lib.hid hB0
  have HC0 := Lib.hid hC0
  have HS0 : Hid (w.heap.size + 3 ≤ W0.heap.size) := Lib.hid (by omega)
  have HBW0 := Lib.hid hb0
  clear hh hr hn hhe hl hg hhw hc hn2 hh2 hl2 hwf hb0 hA0 hB0 hC0 hz0
  have NO := Lib.hid no
  clear no
  go_enter Try.func24, Try.ntmps24
  go_wp2_with ((with_reducible refine wpList_load_row rfl 43 (.tmp 2) rfl w.heap.size rfl 43 (hArr h (.slice g1 h.shot.nodes.length q1) (.slice g2 h.shot.led.held.length q2) (.slice g3 h.shot.led.last.length q3) (.slice g4 h.log.length q4)) (0, 0) _ HA0.out Try.underlying43 rfl (by kernel_rfl) ?_))
  refine (check_any h _ _ HIH0.out).mono ?_
  rintro e w1 ⟨z1, rfl, hz1, hb1⟩
  obtain rfl : z1 = 130 := by
    rcases hz1 with g | g
    · exact absurd g.2 NO.out
    · exact g.1
  clear hz1
  have HA1 := Lib.hid ((hb1.block _ (lt_of_row HA0.out)).trans HA0.out)
  have HB1 := Lib.hid ((hb1.block _ (lt_of_row HB0.out)).trans HB0.out)
  have HC1 := Lib.hid ((hb1.block _ (lt_of_row HC0.out)).trans HC0.out)
  have HBW1 := Lib.hid (HBW0.out.trans (hb1.mono HBW0.out.size))
  have HS1 := Lib.hid (Nat.le_trans HS0.out hb1.size)
  have HIH1 := Lib.hid (HIH0.out.below hb1 (Nat.le_refl _))
  have HIR1 := Lib.hid (HIR0.out.below hb1 (Nat.le_refl _))
  clear hb1
  have FIN := Lib.hid (did_no (h := h) (r := r) (fun g => NO.out g.1) HBW1.out)
  go_wp2_with ((with_reducible refine wpList_store_row rfl 43 (.tmp 4) (.tmp 20) rfl (w.heap.size + 2) zH rfl rfl 43 _ HC1.out (by kernel_rfl) rfl zH_one ?_))
  exact bodyPost_ret (v := .tuple #[.agg zH, .int .i64 130]) (results_ct rfl _ _ (w.heap.size + 2) 43 _ (0, 0) _ rfl (setRow_heap _ _ _ _ _ _ HC1.out) Try.underlying43 rfl (by kernel_rfl) rfl) rfl FIN.out
set_option maxHeartbeats 8000000 in
theorem do_no2 (h : Har) (vv : Value) (r : RecR) (v : Value) (w : World) (hh : IsHard w vv h)  (hr : IsRec w v r) (ok : hardOk h) (no : ¬ fitsP r) : Calls Try.prog 24 #[vv, v] w (Did h r w) := by
  obtain ⟨vn, vh, vl, vg, rfl, hn, hhe, hl, hg, hhw⟩ := id hh
  obtain ⟨g1, q1, rfl, -⟩ := id hn
  obtain ⟨g2, q2, rfl, -⟩ := id hhe
  obtain ⟨g3, q3, rfl, -⟩ := id hl
  obtain ⟨g4, q4, rfl, -⟩ := IsLog.len hg
  obtain ⟨vc, vn, vh, vl, rfl, ⟨hc, hn2, hh2, hl2⟩, hwf⟩ := id hr
  obtain ⟨a1, b1, rfl, -⟩ := id hc
  obtain ⟨a2, b2, rfl, -⟩ := id hn2
  obtain ⟨a3, b3, rfl, -⟩ := id hh2
  obtain ⟨a4, b4, rfl, -⟩ := id hl2
  obtain ⟨W0, hW0, hb0, hz0, hA0, hB0, hC0⟩ := box3 w (hArr h (.slice g1 h.shot.nodes.length q1) (.slice g2 h.shot.led.held.length q2) (.slice g3 h.shot.led.last.length q3) (.slice g4 h.log.length q4)) (rArr r (.slice a1 r.ent.cmd.nodes.length b1) (.slice a2 r.shot.nodes.length b2) (.slice a3 r.shot.led.held.length b3) (.slice a4 r.shot.led.last.length b4)) zH
  have HIH0 := Lib.hid (hh.below hb0 (Nat.le_refl _))
  have HIR0 := Lib.hid (hr.below hb0 (Nat.le_refl _))
  have HWH := Lib.hid (IsHard.harW hh)
  have HRW := Lib.hid hwf
  have HA0 := Lib.hid hA0
  have HB0 := Lib.hid hB0
  have HC0 := Lib.hid hC0
  have HS0 : Hid (w.heap.size + 3 ≤ W0.heap.size) := Lib.hid (by omega)
  have HBW0 := Lib.hid hb0
  clear hh hr hn hhe hl hg hhw hc hn2 hh2 hl2 hwf hb0 hA0 hB0 hC0 hz0
  have OK := Lib.hid ok
  have NO := Lib.hid no
  clear ok no
  go_enter Try.func24, Try.ntmps24
  go_wp2_with ((with_reducible refine wpList_load_row rfl 43 (.tmp 2) rfl w.heap.size rfl 43 (hArr h (.slice g1 h.shot.nodes.length q1) (.slice g2 h.shot.led.held.length q2) (.slice g3 h.shot.led.last.length q3) (.slice g4 h.log.length q4)) (0, 0) _ HA0.out Try.underlying43 rfl (by kernel_rfl) ?_))
  refine (check_any h _ _ HIH0.out).mono ?_
  rintro e w1 ⟨z1, rfl, hz1, hb1⟩
  obtain rfl : z1 = 0 := by
    rcases hz1 with g | g
    · exact g.1
    · exact absurd OK.out g.2
  clear hz1
  have HA1 := Lib.hid ((hb1.block _ (lt_of_row HA0.out)).trans HA0.out)
  have HB1 := Lib.hid ((hb1.block _ (lt_of_row HB0.out)).trans HB0.out)
  have HC1 := Lib.hid ((hb1.block _ (lt_of_row HC0.out)).trans HC0.out)
  have HBW1 := Lib.hid (HBW0.out.trans (hb1.mono HBW0.out.size))
  have HS1 := Lib.hid (Nat.le_trans HS0.out hb1.size)
  have HIH1 := Lib.hid (HIH0.out.below hb1 (Nat.le_refl _))
  have HIR1 := Lib.hid (HIR0.out.below hb1 (Nat.le_refl _))
  clear hb1
  go_wp2_with ((with_reducible refine wpList_load_rowG rfl 49 (.tmp 3) rfl (w.heap.size + 1) rfl 49 (rArr r (.slice a1 r.ent.cmd.nodes.length b1) (.slice a2 r.shot.nodes.length b2) (.slice a3 r.shot.led.held.length b3) (.slice a4 r.shot.led.last.length b4)) (0, 0) _ HB1.out Try.underlying49 rfl (by kernel_rfl) ?_))
  refine (fits_any r _ _ HIR1.out).mono ?_
  rintro e w2 ⟨t2, rfl, ht2, hb2⟩
  obtain rfl : t2 = false := by
    cases t2
    · rfl
    · exact absurd (ht2.1 rfl) NO.out
  clear ht2
  have HA2 := Lib.hid ((hb2.block _ (lt_of_row HA1.out)).trans HA1.out)
  have HB2 := Lib.hid ((hb2.block _ (lt_of_row HB1.out)).trans HB1.out)
  have HC2 := Lib.hid ((hb2.block _ (lt_of_row HC1.out)).trans HC1.out)
  have HBW2 := Lib.hid (HBW1.out.trans (hb2.mono HBW1.out.size))
  have HS2 := Lib.hid (Nat.le_trans HS1.out hb2.size)
  have HIH2 := Lib.hid (HIH1.out.below hb2 (Nat.le_refl _))
  have HIR2 := Lib.hid (HIR1.out.below hb2 (Nat.le_refl _))
  clear hb2
  have FIN := Lib.hid (did_no (h := h) (r := r) (fun g => NO.out g.2.1) HBW2.out)
  go_wp2_with ((with_reducible refine wpList_store_row rfl 43 (.tmp 4) (.tmp 20) rfl (w.heap.size + 2) zH rfl rfl 43 _ HC2.out (by kernel_rfl) rfl zH_one ?_))
  exact bodyPost_ret (v := .tuple #[.agg zH, .int .i64 130]) (results_ct rfl _ _ (w.heap.size + 2) 43 _ (0, 0) _ rfl (setRow_heap _ _ _ _ _ _ HC2.out) Try.underlying43 rfl (by kernel_rfl) rfl) rfl FIN.out
set_option maxHeartbeats 8000000 in
theorem do_no3 (h : Har) (vv : Value) (r : RecR) (v : Value) (w : World) (hh : IsHard w vv h)  (hr : IsRec w v r) (ok : hardOk h) (fr : fitsP r) (no : ¬ followsP h r) : Calls Try.prog 24 #[vv, v] w (Did h r w) := by
  obtain ⟨vn, vh, vl, vg, rfl, hn, hhe, hl, hg, hhw⟩ := id hh
  obtain ⟨g1, q1, rfl, -⟩ := id hn
  obtain ⟨g2, q2, rfl, -⟩ := id hhe
  obtain ⟨g3, q3, rfl, -⟩ := id hl
  obtain ⟨g4, q4, rfl, -⟩ := IsLog.len hg
  obtain ⟨vc, vn, vh, vl, rfl, ⟨hc, hn2, hh2, hl2⟩, hwf⟩ := id hr
  obtain ⟨a1, b1, rfl, -⟩ := id hc
  obtain ⟨a2, b2, rfl, -⟩ := id hn2
  obtain ⟨a3, b3, rfl, -⟩ := id hh2
  obtain ⟨a4, b4, rfl, -⟩ := id hl2
  obtain ⟨W0, hW0, hb0, hz0, hA0, hB0, hC0⟩ := box3 w (hArr h (.slice g1 h.shot.nodes.length q1) (.slice g2 h.shot.led.held.length q2) (.slice g3 h.shot.led.last.length q3) (.slice g4 h.log.length q4)) (rArr r (.slice a1 r.ent.cmd.nodes.length b1) (.slice a2 r.shot.nodes.length b2) (.slice a3 r.shot.led.held.length b3) (.slice a4 r.shot.led.last.length b4)) zH
  have HIH0 := Lib.hid (hh.below hb0 (Nat.le_refl _))
  have HIR0 := Lib.hid (hr.below hb0 (Nat.le_refl _))
  have HWH := Lib.hid (IsHard.harW hh)
  have HRW := Lib.hid hwf
  have HA0 := Lib.hid hA0
  have HB0 := Lib.hid hB0
  have HC0 := Lib.hid hC0
  have HS0 : Hid (w.heap.size + 3 ≤ W0.heap.size) := Lib.hid (by omega)
  have HBW0 := Lib.hid hb0
  clear hh hr hn hhe hl hg hhw hc hn2 hh2 hl2 hwf hb0 hA0 hB0 hC0 hz0
  have HLA : Hid (h.shot.index + h.log.length ≤ 4611686018427387904) := Lib.hid ok.2.2.2.1
  have OK := Lib.hid ok
  have FR := Lib.hid fr
  have NO := Lib.hid no
  clear ok fr no
  go_enter Try.func24, Try.ntmps24
  go_wp2_with ((with_reducible refine wpList_load_row rfl 43 (.tmp 2) rfl w.heap.size rfl 43 (hArr h (.slice g1 h.shot.nodes.length q1) (.slice g2 h.shot.led.held.length q2) (.slice g3 h.shot.led.last.length q3) (.slice g4 h.log.length q4)) (0, 0) _ HA0.out Try.underlying43 rfl (by kernel_rfl) ?_))
  refine (check_any h _ _ HIH0.out).mono ?_
  rintro e w1 ⟨z1, rfl, hz1, hb1⟩
  obtain rfl : z1 = 0 := by
    rcases hz1 with g | g
    · exact g.1
    · exact absurd OK.out g.2
  clear hz1
  have HA1 := Lib.hid ((hb1.block _ (lt_of_row HA0.out)).trans HA0.out)
  have HB1 := Lib.hid ((hb1.block _ (lt_of_row HB0.out)).trans HB0.out)
  have HC1 := Lib.hid ((hb1.block _ (lt_of_row HC0.out)).trans HC0.out)
  have HBW1 := Lib.hid (HBW0.out.trans (hb1.mono HBW0.out.size))
  have HS1 := Lib.hid (Nat.le_trans HS0.out hb1.size)
  have HIH1 := Lib.hid (HIH0.out.below hb1 (Nat.le_refl _))
  have HIR1 := Lib.hid (HIR0.out.below hb1 (Nat.le_refl _))
  clear hb1
  go_wp2_with ((with_reducible refine wpList_load_rowG rfl 49 (.tmp 3) rfl (w.heap.size + 1) rfl 49 (rArr r (.slice a1 r.ent.cmd.nodes.length b1) (.slice a2 r.shot.nodes.length b2) (.slice a3 r.shot.led.held.length b3) (.slice a4 r.shot.led.last.length b4)) (0, 0) _ HB1.out Try.underlying49 rfl (by kernel_rfl) ?_))
  refine (fits_any r _ _ HIR1.out).mono ?_
  rintro e w2 ⟨t2, rfl, ht2, hb2⟩
  obtain rfl : t2 = true := ht2.2 FR.out
  clear ht2
  have HA2 := Lib.hid ((hb2.block _ (lt_of_row HA1.out)).trans HA1.out)
  have HB2 := Lib.hid ((hb2.block _ (lt_of_row HB1.out)).trans HB1.out)
  have HC2 := Lib.hid ((hb2.block _ (lt_of_row HC1.out)).trans HC1.out)
  have HBW2 := Lib.hid (HBW1.out.trans (hb2.mono HBW1.out.size))
  have HS2 := Lib.hid (Nat.le_trans HS1.out hb2.size)
  have HIH2 := Lib.hid (HIH1.out.below hb2 (Nat.le_refl _))
  have HIR2 := Lib.hid (HIR1.out.below hb2 (Nat.le_refl _))
  clear hb2
  go_wp2_with (first | (with_reducible refine wpList_load_rowG rfl 43 (.tmp 2) rfl w.heap.size rfl 43 (hArr h (.slice g1 h.shot.nodes.length q1) (.slice g2 h.shot.led.held.length q2) (.slice g3 h.shot.led.last.length q3) (.slice g4 h.log.length q4)) (0, 0) _ HA2.out Try.underlying43 rfl (by kernel_rfl) ?_) | (with_reducible refine wpList_load_rowG rfl 49 (.tmp 3) rfl (w.heap.size + 1) rfl 49 (rArr r (.slice a1 r.ent.cmd.nodes.length b1) (.slice a2 r.shot.nodes.length b2) (.slice a3 r.shot.led.held.length b3) (.slice a4 r.shot.led.last.length b4)) (0, 0) _ HB2.out Try.underlying49 rfl (by kernel_rfl) ?_))
  refine (follows_any h _ r _ _ HIH2.out HIR2.out HLA.out).mono ?_
  rintro e w3 ⟨t3, rfl, ht3, hb3⟩
  obtain rfl : t3 = false := by
    cases t3
    · rfl
    · exact absurd (ht3.1 rfl) NO.out
  clear ht3
  have HA3 := Lib.hid ((hb3.block _ (lt_of_row HA2.out)).trans HA2.out)
  have HB3 := Lib.hid ((hb3.block _ (lt_of_row HB2.out)).trans HB2.out)
  have HC3 := Lib.hid ((hb3.block _ (lt_of_row HC2.out)).trans HC2.out)
  have HBW3 := Lib.hid (HBW2.out.trans (hb3.mono HBW2.out.size))
  have HS3 := Lib.hid (Nat.le_trans HS2.out hb3.size)
  have HIH3 := Lib.hid (HIH2.out.below hb3 (Nat.le_refl _))
  have HIR3 := Lib.hid (HIR2.out.below hb3 (Nat.le_refl _))
  clear hb3
  have FIN := Lib.hid (did_no (h := h) (r := r) (fun g => NO.out g.2.2.1) HBW3.out)
  go_wp2_with ((with_reducible refine wpList_store_row rfl 43 (.tmp 4) (.tmp 20) rfl (w.heap.size + 2) zH rfl rfl 43 _ HC3.out (by kernel_rfl) rfl zH_one ?_))
  exact bodyPost_ret (v := .tuple #[.agg zH, .int .i64 130]) (results_ct rfl _ _ (w.heap.size + 2) 43 _ (0, 0) _ rfl (setRow_heap _ _ _ _ _ _ HC3.out) Try.underlying43 rfl (by kernel_rfl) rfl) rfl FIN.out
end Rc
end Go.Proofs.Ytlkgmjhejocobaa
namespace Go.Proofs.Ytlkgmjhejocobaa
open Go.ChangeShapes Go.WideShapes Go.ChangeAt Go.RowKit Go.Deep
set_option linter.unusedVariables false
set_option maxRecDepth 100000
namespace Rc
open Hd Nv
set_option maxHeartbeats 8000000 in
theorem do_1 (h : Har) (vv : Value) (r : RecR) (v : Value) (w : World) (hh : IsHard w vv h) (hf : IsHard.fits h)  (hr : IsRec w v r) (hrf : IsRec.fits r) (ok : hardOk h) (fr : fitsP r) (fo : followsP h r) (hk : r.kind = 1) : Calls Try.prog 24 #[vv, v] w (Did h r w) := by
  obtain ⟨vn, vh, vl, vg, rfl, hn, hhe, hl, hg, hhw⟩ := id hh
  obtain ⟨g1, q1, rfl, -⟩ := id hn
  obtain ⟨g2, q2, rfl, -⟩ := id hhe
  obtain ⟨g3, q3, rfl, -⟩ := id hl
  obtain ⟨g4, q4, rfl, -⟩ := IsLog.len hg
  obtain ⟨vc, vn, vh, vl, rfl, ⟨hc, hn2, hh2, hl2⟩, hwf⟩ := id hr
  obtain ⟨a1, b1, rfl, -⟩ := id hc
  obtain ⟨a2, b2, rfl, -⟩ := id hn2
  obtain ⟨a3, b3, rfl, -⟩ := id hh2
  obtain ⟨a4, b4, rfl, -⟩ := id hl2
  obtain ⟨W0, hW0, hb0, hz0, hA0, hB0, hC0⟩ := box3 w (hArr h (.slice g1 h.shot.nodes.length q1) (.slice g2 h.shot.led.held.length q2) (.slice g3 h.shot.led.last.length q3) (.slice g4 h.log.length q4)) (rArr r (.slice a1 r.ent.cmd.nodes.length b1) (.slice a2 r.shot.nodes.length b2) (.slice a3 r.shot.led.held.length b3) (.slice a4 r.shot.led.last.length b4)) zH
  have HIRW := Lib.hid hr
  have HIH0 := Lib.hid (hh.below hb0 (Nat.le_refl _))
  have HIR0 := Lib.hid (hr.below hb0 (Nat.le_refl _))
  have HWH := Lib.hid (IsHard.harW hh)
  have HRW := Lib.hid hwf
  have HA0 := Lib.hid hA0
  have HB0 := Lib.hid hB0
  have HC0 := Lib.hid hC0
  have HS0 : Hid (w.heap.size + 3 ≤ W0.heap.size) := Lib.hid (by omega)
  have HBW0 := Lib.hid hb0
  clear hh hr hn hhe hl hg hhw hc hn2 hh2 hl2 hwf hb0 hA0 hB0 hC0 hz0
  have HLA : Hid (h.shot.index + h.log.length ≤ 4611686018427387904) := Lib.hid ok.2.2.2.1
  have HF := Lib.hid hf
  have HRF := Lib.hid hrf
  have OK := Lib.hid ok
  have FR := Lib.hid fr
  have FO := Lib.hid fo
  clear hf hrf ok fr fo
  have HE : Hid (doH h r = { h with boot := r.boot }) := Lib.hid (by unfold doH; rw [if_pos hk])
  have n1 : (r.kind == 1) = true := beq_iff_eq.2 hk
  clear hk
  go_enter Try.func24, Try.ntmps24
  go_wp2_with ((with_reducible refine wpList_load_row rfl 43 (.tmp 2) rfl w.heap.size rfl 43 (hArr h (.slice g1 h.shot.nodes.length q1) (.slice g2 h.shot.led.held.length q2) (.slice g3 h.shot.led.last.length q3) (.slice g4 h.log.length q4)) (0, 0) _ HA0.out Try.underlying43 rfl (by kernel_rfl) ?_))
  refine (check_any h _ _ HIH0.out).mono ?_
  rintro e w1 ⟨z1, rfl, hz1, hb1⟩
  obtain rfl : z1 = 0 := by
    rcases hz1 with g | g
    · exact g.1
    · exact absurd OK.out g.2
  clear hz1
  have HA1 := Lib.hid ((hb1.block _ (lt_of_row HA0.out)).trans HA0.out)
  have HB1 := Lib.hid ((hb1.block _ (lt_of_row HB0.out)).trans HB0.out)
  have HC1 := Lib.hid ((hb1.block _ (lt_of_row HC0.out)).trans HC0.out)
  have HBW1 := Lib.hid (HBW0.out.trans (hb1.mono HBW0.out.size))
  have HS1 := Lib.hid (Nat.le_trans HS0.out hb1.size)
  have HIH1 := Lib.hid (HIH0.out.below hb1 (Nat.le_refl _))
  have HIR1 := Lib.hid (HIR0.out.below hb1 (Nat.le_refl _))
  clear hb1
  go_wp2_with ((with_reducible refine wpList_load_rowG rfl 49 (.tmp 3) rfl (w.heap.size + 1) rfl 49 (rArr r (.slice a1 r.ent.cmd.nodes.length b1) (.slice a2 r.shot.nodes.length b2) (.slice a3 r.shot.led.held.length b3) (.slice a4 r.shot.led.last.length b4)) (0, 0) _ HB1.out Try.underlying49 rfl (by kernel_rfl) ?_))
  refine (fits_any r _ _ HIR1.out).mono ?_
  rintro e w2 ⟨t2, rfl, ht2, hb2⟩
  obtain rfl : t2 = true := ht2.2 FR.out
  clear ht2
  have HA2 := Lib.hid ((hb2.block _ (lt_of_row HA1.out)).trans HA1.out)
  have HB2 := Lib.hid ((hb2.block _ (lt_of_row HB1.out)).trans HB1.out)
  have HC2 := Lib.hid ((hb2.block _ (lt_of_row HC1.out)).trans HC1.out)
  have HBW2 := Lib.hid (HBW1.out.trans (hb2.mono HBW1.out.size))
  have HS2 := Lib.hid (Nat.le_trans HS1.out hb2.size)
  have HIH2 := Lib.hid (HIH1.out.below hb2 (Nat.le_refl _))
  have HIR2 := Lib.hid (HIR1.out.below hb2 (Nat.le_refl _))
  clear hb2
  go_wp2_with (first | (with_reducible refine wpList_load_rowG rfl 43 (.tmp 2) rfl w.heap.size rfl 43 (hArr h (.slice g1 h.shot.nodes.length q1) (.slice g2 h.shot.led.held.length q2) (.slice g3 h.shot.led.last.length q3) (.slice g4 h.log.length q4)) (0, 0) _ HA2.out Try.underlying43 rfl (by kernel_rfl) ?_) | (with_reducible refine wpList_load_rowG rfl 49 (.tmp 3) rfl (w.heap.size + 1) rfl 49 (rArr r (.slice a1 r.ent.cmd.nodes.length b1) (.slice a2 r.shot.nodes.length b2) (.slice a3 r.shot.led.held.length b3) (.slice a4 r.shot.led.last.length b4)) (0, 0) _ HB2.out Try.underlying49 rfl (by kernel_rfl) ?_))
  refine (follows_any h _ r _ _ HIH2.out HIR2.out HLA.out).mono ?_
  rintro e w3 ⟨t3, rfl, ht3, hb3⟩
  obtain rfl : t3 = true := ht3.2 FO.out
  clear ht3
  have HA3 := Lib.hid ((hb3.block _ (lt_of_row HA2.out)).trans HA2.out)
  have HB3 := Lib.hid ((hb3.block _ (lt_of_row HB2.out)).trans HB2.out)
  have HC3 := Lib.hid ((hb3.block _ (lt_of_row HC2.out)).trans HC2.out)
  have HBW3 := Lib.hid (HBW2.out.trans (hb3.mono HBW2.out.size))
  have HS3 := Lib.hid (Nat.le_trans HS2.out hb3.size)
  have HIH3 := Lib.hid (HIH2.out.below hb3 (Nat.le_refl _))
  have HIR3 := Lib.hid (HIR2.out.below hb3 (Nat.le_refl _))
  clear hb3
  go_wp2_with ((with_reducible refine wpList_load_row rfl 43 (.tmp 2) rfl w.heap.size rfl 43 (hArr h (.slice g1 h.shot.nodes.length q1) (.slice g2 h.shot.led.held.length q2) (.slice g3 h.shot.led.last.length q3) (.slice g4 h.log.length q4)) (0, 0) _ HA3.out Try.underlying43 rfl (by kernel_rfl) ?_))
  refine (Vc.hard_own h _ _ HIH3.out HF.out).mono ?_
  rintro e w4 ⟨un, uh, ul, ug, rows, rfl, o1, o2, o3, o4, o5, hmap, hb4⟩
  have HA4 := Lib.hid ((hb4.block _ (lt_of_row HA3.out)).trans HA3.out)
  have HB4 := Lib.hid ((hb4.block _ (lt_of_row HB3.out)).trans HB3.out)
  have HC4 := Lib.hid ((hb4.block _ (lt_of_row HC3.out)).trans HC3.out)
  have HBW4 := Lib.hid (HBW3.out.trans (hb4.mono HBW3.out.size))
  have HS4 := Lib.hid (Nat.le_trans HS3.out hb4.size)
  have HIR4 := Lib.hid (HIR3.out.below hb4 (Nat.le_refl _))
  clear hb4
  obtain ⟨k1, m1, rfl, -⟩ := o1.sl HWH.out.2
  obtain ⟨k2, m2, rfl, -⟩ := o2.sl heldC_len
  obtain ⟨k3, m3, rfl, -⟩ := o3.sl lastC_len
  have HOG : Hid (OwnR 9 entC 47 w4 (w.heap.size + 3) ug rows ∧ EntsO w4 (w.heap.size + 3) ug.ownBlock rows) := Lib.hid ⟨o4.lower HS3.out, fun r hr => ⟨OwnK.lower (o5 r hr).1 HS3.out, (o5 r hr).2⟩⟩
  have HMAP := Lib.hid hmap
  have HO123 : Hid (OwnI w4 (w.heap.size + 3) (.slice k1 h.shot.nodes.length m1) h.shot.nodes ∧ OwnR 5 heldC 74 w4 (w.heap.size + 3) (.slice k2 h.shot.led.held.length m2) h.shot.led.held ∧ OwnR 6 lastC 78 w4 (w.heap.size + 3) (.slice k3 h.shot.led.last.length m3) h.shot.led.last) := Lib.hid ⟨OwnK.lower o1 HS3.out, o2.lower HS3.out, o3.lower HS3.out⟩
  obtain ⟨k4, m4, hug, -⟩ := HOG.out.1.sl entC_len
  have hrl : rows.length = h.log.length := by rw [← hmap, List.length_map]
  rw [hrl] at hug
  subst hug
  obtain ⟨W5, hW5⟩ : ∃ q, w4.setRow w.heap.size (hArr h (.slice k1 h.shot.nodes.length m1) (.slice k2 h.shot.led.held.length m2) (.slice k3 h.shot.led.last.length m3) (.slice k4 h.log.length m4)) = q := ⟨_, rfl⟩
  have HRL := Lib.hid hrl
  have HA5 : Hid (W5.heap[w.heap.size]? = some (.cells (hArr h (.slice k1 h.shot.nodes.length m1) (.slice k2 h.shot.led.held.length m2) (.slice k3 h.shot.led.last.length m3) (.slice k4 h.log.length m4)) 43 (0, 0))) := Lib.hid (by rw [← hW5]; exact setRow_heap _ _ _ _ _ _ HA4.out)
  have HB5 : Hid (W5.heap[w.heap.size + 1]? = some (.cells (rArr r (.slice a1 r.ent.cmd.nodes.length b1) (.slice a2 r.shot.nodes.length b2) (.slice a3 r.shot.led.held.length b3) (.slice a4 r.shot.led.last.length b4)) 49 (0, 0))) := Lib.hid (by rw [← hW5]; exact (setRow_other w4 _ _ _ (by omega)).trans HB4.out)
  have HC5 : Hid (W5.heap[w.heap.size + 2]? = some (.cells zH 43 (0, 0))) := Lib.hid (by rw [← hW5]; exact (setRow_other w4 _ _ _ (by omega)).trans HC4.out)
  have HBW5 : Hid (Below w.heap.size w W5) := Lib.hid (by rw [← hW5]; exact Ld.below_row HBW4.out (Nat.le_refl _) _)
  have HS5 : Hid (w.heap.size + 3 ≤ W5.heap.size) := Lib.hid (by rw [← hW5]; simpa using HS4.out)
  have HIR5 : Hid (IsRec W5 (.agg (rArr r (.slice a1 r.ent.cmd.nodes.length b1) (.slice a2 r.shot.nodes.length b2) (.slice a3 r.shot.led.held.length b3) (.slice a4 r.shot.led.last.length b4))) r) := Lib.hid (HIRW.out.below HBW5.out (Nat.le_refl _))
  have HOS5 : Hid (OwnI W5 (w.heap.size + 3) (.slice k1 h.shot.nodes.length m1) h.shot.nodes ∧ OwnR 5 heldC 74 W5 (w.heap.size + 3) (.slice k2 h.shot.led.held.length m2) h.shot.led.held ∧ OwnR 6 lastC 78 W5 (w.heap.size + 3) (.slice k3 h.shot.led.last.length m3) h.shot.led.last) := Lib.hid (by rw [← hW5]; exact ⟨owns_row HO123.out.1 (by omega), owns_row HO123.out.2.1 (by omega), owns_row HO123.out.2.2 (by omega)⟩)
  have HOL5 : Hid (OwnR 9 entC 47 W5 (w.heap.size + 3) (.slice k4 h.log.length m4) rows ∧ EntsO W5 (w.heap.size + 3) (Value.slice k4 h.log.length m4).ownBlock rows) := Lib.hid (by rw [← hW5]; exact ⟨owns_row HOG.out.1 (by omega), fun r hr => ⟨owns_row (HOG.out.2 r hr).1 (by omega), (HOG.out.2 r hr).2⟩⟩)
  have HO5 : Hid (OwnH W5 (w.heap.size + 3) (.slice k1 h.shot.nodes.length m1) (.slice k2 h.shot.led.held.length m2) (.slice k3 h.shot.led.last.length m3) (.slice k4 h.log.length m4) h) := Lib.hid ⟨HOS5.out.1, HOS5.out.2.1, HOS5.out.2.2, by have q := LogP.whole HOL5.out.1 HOL5.out.2; rw [HMAP.out] at q; exact q⟩
  clear o1 o2 o3 o4 o5 hmap hrl
  have c0 := (cells21 HB5.out).1
  have c2 := (cell_of_row W5 _ 2 _ _ _ HB5.out).trans rfl
  have d0 := (cell_of_row W5 _ 0 _ _ _ HA5.out).trans rfl
  have f0 := La.frozen_of (o := 0) HA5.out
  obtain ⟨W6, hW6⟩ : ∃ q, (W5.setCell ⟨w.heap.size, 0, none⟩ (.int .u64 r.boot)) = q := ⟨_, rfl⟩
  have HA6 : Hid (W6.heap[w.heap.size]? = some (.cells (hArr { h with boot := r.boot } (.slice k1 h.shot.nodes.length m1) (.slice k2 h.shot.led.held.length m2) (.slice k3 h.shot.led.last.length m3) (.slice k4 h.log.length m4)) 43 (0, 0))) := Lib.hid (by rw [← hW6, heap_setCell_same W5 w.heap.size 0 _ _ _ HA5.out]; rfl)
  have HC6 : Hid (W6.heap[w.heap.size + 2]? = some (.cells zH 43 (0, 0))) := Lib.hid (by rw [← hW6]; exact (heap_setCell_other _ _ _ _ (by simp)).trans HC5.out)
  have HBW6 : Hid (Below w.heap.size w W6) := Lib.hid (by rw [← hW6]; exact HBW5.out.setCell (Nat.le_refl _) _)
  have HM6 : Hid (∀ e sz v n xs, W5.ownsRow (w.heap.size + 3) e sz v n xs → W6.ownsRow (w.heap.size + 3) e sz v n xs) := Lib.hid (by rw [← hW6]; exact fun e sz v n xs q => owns_cell q (by omega))
  have HO6 : Hid (OwnH W6 (w.heap.size + 3) (.slice k1 h.shot.nodes.length m1) (.slice k2 h.shot.led.held.length m2) (.slice k3 h.shot.led.last.length m3) (.slice k4 h.log.length m4) { h with boot := r.boot }) := Lib.hid (HO5.out.map HM6.out)
  have HW6 : Hid (HarW { h with boot := r.boot }) := Lib.hid ⟨⟨HRW.out.2.2.1, HWH.out.1.2⟩, HWH.out.2⟩
  go_wp2_with (first | (with_reducible refine wpList_store_row rfl 43 (.tmp 2) (.tmp 22) rfl w.heap.size (hArr h (.slice k1 h.shot.nodes.length m1) (.slice k2 h.shot.led.held.length m2) (.slice k3 h.shot.led.last.length m3) (.slice k4 h.log.length m4)) rfl rfl 43 _ HA4.out (by kernel_rfl) rfl (hArr_one _ _ _ _ _ _ _ _ _ _ _ _ _) ?_; rw [hW5]) | (with_reducible refine wpList_load_row rfl 43 (.tmp 2) rfl w.heap.size rfl 43 (hArr { h with boot := r.boot } (.slice k1 h.shot.nodes.length m1) (.slice k2 h.shot.led.held.length m2) (.slice k3 h.shot.led.last.length m3) (.slice k4 h.log.length m4)) (0, 0) _ HA6.out Try.underlying43 rfl (by kernel_rfl) ?_))
  refine (check_any { h with boot := r.boot } _ _ (HO6.out.hard HW6.out)).mono ?_
  rintro e w7 ⟨z7, rfl, hz7, hb7⟩
  have HA7 := Lib.hid ((hb7.block _ (lt_of_row HA6.out)).trans HA6.out)
  have HC7 := Lib.hid ((hb7.block _ (lt_of_row HC6.out)).trans HC6.out)
  have HBW7 := Lib.hid (HBW6.out.trans (hb7.mono HBW6.out.size))
  have OW7 := Lib.hid (HO6.out.map fun e sz v n xs q => owns_below hb7 q)
  clear hb7
  rcases hz7 with ⟨rfl, hok⟩ | ⟨rfl, hno⟩
  · have FIN := Lib.hid (did_yes HE.out OK.out FR.out FO.out hok OW7.out HW6.out HBW7.out)
    clear hok
    go_wp2_with (first | (with_reducible refine wpList_load_row rfl 43 (.tmp 2) rfl w.heap.size rfl 43 (hArr { h with boot := r.boot } (.slice k1 h.shot.nodes.length m1) (.slice k2 h.shot.led.held.length m2) (.slice k3 h.shot.led.last.length m3) (.slice k4 h.log.length m4)) (0, 0) _ HA7.out Try.underlying43 rfl (by kernel_rfl) ?_) | (with_reducible refine wpList_store_row rfl 43 (.tmp 4) (.tmp 76) rfl (w.heap.size + 2) (hArr { h with boot := r.boot } (.slice k1 h.shot.nodes.length m1) (.slice k2 h.shot.led.held.length m2) (.slice k3 h.shot.led.last.length m3) (.slice k4 h.log.length m4)) rfl rfl 43 _ HC7.out (by kernel_rfl) rfl (hArr_one _ _ _ _ _ _ _ _ _ _ _ _ _) ?_))
    exact bodyPost_ret (v := .tuple #[.agg (hArr { h with boot := r.boot } (.slice k1 h.shot.nodes.length m1) (.slice k2 h.shot.led.held.length m2) (.slice k3 h.shot.led.last.length m3) (.slice k4 h.log.length m4)), .int .i64 0]) (results_ct rfl _ _ (w.heap.size + 2) 43 _ (0, 0) _ rfl (setRow_heap _ _ _ _ _ _ HC7.out) Try.underlying43 rfl (by kernel_rfl) rfl) rfl FIN.out
  · have FIN := Lib.hid (did_no (h := h) (r := r) (fun g => hno (by have q := g.2.2.2; rw [HE.out] at q; exact q)) HBW7.out)
    clear hno
    go_wp2_with ((with_reducible refine wpList_store_row rfl 43 (.tmp 4) (.tmp 75) rfl (w.heap.size + 2) zH rfl rfl 43 _ HC7.out (by kernel_rfl) rfl zH_one ?_))
    exact bodyPost_ret (v := .tuple #[.agg zH, .int .i64 130]) (results_ct rfl _ _ (w.heap.size + 2) 43 _ (0, 0) _ rfl (setRow_heap _ _ _ _ _ _ HC7.out) Try.underlying43 rfl (by kernel_rfl) rfl) rfl FIN.out
set_option maxHeartbeats 8000000 in
theorem do_2 (h : Har) (vv : Value) (r : RecR) (v : Value) (w : World) (hh : IsHard w vv h) (hf : IsHard.fits h)  (hr : IsRec w v r) (hrf : IsRec.fits r) (ok : hardOk h) (fr : fitsP r) (fo : followsP h r) (hk : r.kind = 2) : Calls Try.prog 24 #[vv, v] w (Did h r w) := by
  obtain ⟨vn, vh, vl, vg, rfl, hn, hhe, hl, hg, hhw⟩ := id hh
  obtain ⟨g1, q1, rfl, -⟩ := id hn
  obtain ⟨g2, q2, rfl, -⟩ := id hhe
  obtain ⟨g3, q3, rfl, -⟩ := id hl
  obtain ⟨g4, q4, rfl, -⟩ := IsLog.len hg
  obtain ⟨vc, vn, vh, vl, rfl, ⟨hc, hn2, hh2, hl2⟩, hwf⟩ := id hr
  obtain ⟨a1, b1, rfl, -⟩ := id hc
  obtain ⟨a2, b2, rfl, -⟩ := id hn2
  obtain ⟨a3, b3, rfl, -⟩ := id hh2
  obtain ⟨a4, b4, rfl, -⟩ := id hl2
  obtain ⟨W0, hW0, hb0, hz0, hA0, hB0, hC0⟩ := box3 w (hArr h (.slice g1 h.shot.nodes.length q1) (.slice g2 h.shot.led.held.length q2) (.slice g3 h.shot.led.last.length q3) (.slice g4 h.log.length q4)) (rArr r (.slice a1 r.ent.cmd.nodes.length b1) (.slice a2 r.shot.nodes.length b2) (.slice a3 r.shot.led.held.length b3) (.slice a4 r.shot.led.last.length b4)) zH
  have HIRW := Lib.hid hr
  have HIH0 := Lib.hid (hh.below hb0 (Nat.le_refl _))
  have HIR0 := Lib.hid (hr.below hb0 (Nat.le_refl _))
  have HWH := Lib.hid (IsHard.harW hh)
  have HRW := Lib.hid hwf
  have HA0 := Lib.hid hA0
  have HB0 := Lib.hid hB0
  have HC0 := Lib.hid hC0
  have HS0 : Hid (w.heap.size + 3 ≤ W0.heap.size) := Lib.hid (by omega)
  have HBW0 := Lib.hid hb0
  clear hh hr hn hhe hl hg hhw hc hn2 hh2 hl2 hwf hb0 hA0 hB0 hC0 hz0
  have HLA : Hid (h.shot.index + h.log.length ≤ 4611686018427387904) := Lib.hid ok.2.2.2.1
  have HF := Lib.hid hf
  have HRF := Lib.hid hrf
  have OK := Lib.hid ok
  have FR := Lib.hid fr
  have FO := Lib.hid fo
  clear hf hrf ok fr fo
  have HE : Hid (doH h r = { h with term := r.term, vote := r.vote }) := Lib.hid (by unfold doH; rw [if_neg (by omega), if_pos hk])
  have n1 : (r.kind == 1) = false := beq_eq_false_iff_ne.2 (by omega)
  have n2 : (r.kind == 2) = true := beq_iff_eq.2 hk
  clear hk
  go_enter Try.func24, Try.ntmps24
  go_wp2_with ((with_reducible refine wpList_load_row rfl 43 (.tmp 2) rfl w.heap.size rfl 43 (hArr h (.slice g1 h.shot.nodes.length q1) (.slice g2 h.shot.led.held.length q2) (.slice g3 h.shot.led.last.length q3) (.slice g4 h.log.length q4)) (0, 0) _ HA0.out Try.underlying43 rfl (by kernel_rfl) ?_))
  refine (check_any h _ _ HIH0.out).mono ?_
  rintro e w1 ⟨z1, rfl, hz1, hb1⟩
  obtain rfl : z1 = 0 := by
    rcases hz1 with g | g
    · exact g.1
    · exact absurd OK.out g.2
  clear hz1
  have HA1 := Lib.hid ((hb1.block _ (lt_of_row HA0.out)).trans HA0.out)
  have HB1 := Lib.hid ((hb1.block _ (lt_of_row HB0.out)).trans HB0.out)
  have HC1 := Lib.hid ((hb1.block _ (lt_of_row HC0.out)).trans HC0.out)
  have HBW1 := Lib.hid (HBW0.out.trans (hb1.mono HBW0.out.size))
  have HS1 := Lib.hid (Nat.le_trans HS0.out hb1.size)
  have HIH1 := Lib.hid (HIH0.out.below hb1 (Nat.le_refl _))
  have HIR1 := Lib.hid (HIR0.out.below hb1 (Nat.le_refl _))
  clear hb1
  go_wp2_with ((with_reducible refine wpList_load_rowG rfl 49 (.tmp 3) rfl (w.heap.size + 1) rfl 49 (rArr r (.slice a1 r.ent.cmd.nodes.length b1) (.slice a2 r.shot.nodes.length b2) (.slice a3 r.shot.led.held.length b3) (.slice a4 r.shot.led.last.length b4)) (0, 0) _ HB1.out Try.underlying49 rfl (by kernel_rfl) ?_))
  refine (fits_any r _ _ HIR1.out).mono ?_
  rintro e w2 ⟨t2, rfl, ht2, hb2⟩
  obtain rfl : t2 = true := ht2.2 FR.out
  clear ht2
  have HA2 := Lib.hid ((hb2.block _ (lt_of_row HA1.out)).trans HA1.out)
  have HB2 := Lib.hid ((hb2.block _ (lt_of_row HB1.out)).trans HB1.out)
  have HC2 := Lib.hid ((hb2.block _ (lt_of_row HC1.out)).trans HC1.out)
  have HBW2 := Lib.hid (HBW1.out.trans (hb2.mono HBW1.out.size))
  have HS2 := Lib.hid (Nat.le_trans HS1.out hb2.size)
  have HIH2 := Lib.hid (HIH1.out.below hb2 (Nat.le_refl _))
  have HIR2 := Lib.hid (HIR1.out.below hb2 (Nat.le_refl _))
  clear hb2
  go_wp2_with (first | (with_reducible refine wpList_load_rowG rfl 43 (.tmp 2) rfl w.heap.size rfl 43 (hArr h (.slice g1 h.shot.nodes.length q1) (.slice g2 h.shot.led.held.length q2) (.slice g3 h.shot.led.last.length q3) (.slice g4 h.log.length q4)) (0, 0) _ HA2.out Try.underlying43 rfl (by kernel_rfl) ?_) | (with_reducible refine wpList_load_rowG rfl 49 (.tmp 3) rfl (w.heap.size + 1) rfl 49 (rArr r (.slice a1 r.ent.cmd.nodes.length b1) (.slice a2 r.shot.nodes.length b2) (.slice a3 r.shot.led.held.length b3) (.slice a4 r.shot.led.last.length b4)) (0, 0) _ HB2.out Try.underlying49 rfl (by kernel_rfl) ?_))
  refine (follows_any h _ r _ _ HIH2.out HIR2.out HLA.out).mono ?_
  rintro e w3 ⟨t3, rfl, ht3, hb3⟩
  obtain rfl : t3 = true := ht3.2 FO.out
  clear ht3
  have HA3 := Lib.hid ((hb3.block _ (lt_of_row HA2.out)).trans HA2.out)
  have HB3 := Lib.hid ((hb3.block _ (lt_of_row HB2.out)).trans HB2.out)
  have HC3 := Lib.hid ((hb3.block _ (lt_of_row HC2.out)).trans HC2.out)
  have HBW3 := Lib.hid (HBW2.out.trans (hb3.mono HBW2.out.size))
  have HS3 := Lib.hid (Nat.le_trans HS2.out hb3.size)
  have HIH3 := Lib.hid (HIH2.out.below hb3 (Nat.le_refl _))
  have HIR3 := Lib.hid (HIR2.out.below hb3 (Nat.le_refl _))
  clear hb3
  go_wp2_with ((with_reducible refine wpList_load_row rfl 43 (.tmp 2) rfl w.heap.size rfl 43 (hArr h (.slice g1 h.shot.nodes.length q1) (.slice g2 h.shot.led.held.length q2) (.slice g3 h.shot.led.last.length q3) (.slice g4 h.log.length q4)) (0, 0) _ HA3.out Try.underlying43 rfl (by kernel_rfl) ?_))
  refine (Vc.hard_own h _ _ HIH3.out HF.out).mono ?_
  rintro e w4 ⟨un, uh, ul, ug, rows, rfl, o1, o2, o3, o4, o5, hmap, hb4⟩
  have HA4 := Lib.hid ((hb4.block _ (lt_of_row HA3.out)).trans HA3.out)
  have HB4 := Lib.hid ((hb4.block _ (lt_of_row HB3.out)).trans HB3.out)
  have HC4 := Lib.hid ((hb4.block _ (lt_of_row HC3.out)).trans HC3.out)
  have HBW4 := Lib.hid (HBW3.out.trans (hb4.mono HBW3.out.size))
  have HS4 := Lib.hid (Nat.le_trans HS3.out hb4.size)
  have HIR4 := Lib.hid (HIR3.out.below hb4 (Nat.le_refl _))
  clear hb4
  obtain ⟨k1, m1, rfl, -⟩ := o1.sl HWH.out.2
  obtain ⟨k2, m2, rfl, -⟩ := o2.sl heldC_len
  obtain ⟨k3, m3, rfl, -⟩ := o3.sl lastC_len
  have HOG : Hid (OwnR 9 entC 47 w4 (w.heap.size + 3) ug rows ∧ EntsO w4 (w.heap.size + 3) ug.ownBlock rows) := Lib.hid ⟨o4.lower HS3.out, fun r hr => ⟨OwnK.lower (o5 r hr).1 HS3.out, (o5 r hr).2⟩⟩
  have HMAP := Lib.hid hmap
  have HO123 : Hid (OwnI w4 (w.heap.size + 3) (.slice k1 h.shot.nodes.length m1) h.shot.nodes ∧ OwnR 5 heldC 74 w4 (w.heap.size + 3) (.slice k2 h.shot.led.held.length m2) h.shot.led.held ∧ OwnR 6 lastC 78 w4 (w.heap.size + 3) (.slice k3 h.shot.led.last.length m3) h.shot.led.last) := Lib.hid ⟨OwnK.lower o1 HS3.out, o2.lower HS3.out, o3.lower HS3.out⟩
  obtain ⟨k4, m4, hug, -⟩ := HOG.out.1.sl entC_len
  have hrl : rows.length = h.log.length := by rw [← hmap, List.length_map]
  rw [hrl] at hug
  subst hug
  obtain ⟨W5, hW5⟩ : ∃ q, w4.setRow w.heap.size (hArr h (.slice k1 h.shot.nodes.length m1) (.slice k2 h.shot.led.held.length m2) (.slice k3 h.shot.led.last.length m3) (.slice k4 h.log.length m4)) = q := ⟨_, rfl⟩
  have HRL := Lib.hid hrl
  have HA5 : Hid (W5.heap[w.heap.size]? = some (.cells (hArr h (.slice k1 h.shot.nodes.length m1) (.slice k2 h.shot.led.held.length m2) (.slice k3 h.shot.led.last.length m3) (.slice k4 h.log.length m4)) 43 (0, 0))) := Lib.hid (by rw [← hW5]; exact setRow_heap _ _ _ _ _ _ HA4.out)
  have HB5 : Hid (W5.heap[w.heap.size + 1]? = some (.cells (rArr r (.slice a1 r.ent.cmd.nodes.length b1) (.slice a2 r.shot.nodes.length b2) (.slice a3 r.shot.led.held.length b3) (.slice a4 r.shot.led.last.length b4)) 49 (0, 0))) := Lib.hid (by rw [← hW5]; exact (setRow_other w4 _ _ _ (by omega)).trans HB4.out)
  have HC5 : Hid (W5.heap[w.heap.size + 2]? = some (.cells zH 43 (0, 0))) := Lib.hid (by rw [← hW5]; exact (setRow_other w4 _ _ _ (by omega)).trans HC4.out)
  have HBW5 : Hid (Below w.heap.size w W5) := Lib.hid (by rw [← hW5]; exact Ld.below_row HBW4.out (Nat.le_refl _) _)
  have HS5 : Hid (w.heap.size + 3 ≤ W5.heap.size) := Lib.hid (by rw [← hW5]; simpa using HS4.out)
  have HIR5 : Hid (IsRec W5 (.agg (rArr r (.slice a1 r.ent.cmd.nodes.length b1) (.slice a2 r.shot.nodes.length b2) (.slice a3 r.shot.led.held.length b3) (.slice a4 r.shot.led.last.length b4))) r) := Lib.hid (HIRW.out.below HBW5.out (Nat.le_refl _))
  have HOS5 : Hid (OwnI W5 (w.heap.size + 3) (.slice k1 h.shot.nodes.length m1) h.shot.nodes ∧ OwnR 5 heldC 74 W5 (w.heap.size + 3) (.slice k2 h.shot.led.held.length m2) h.shot.led.held ∧ OwnR 6 lastC 78 W5 (w.heap.size + 3) (.slice k3 h.shot.led.last.length m3) h.shot.led.last) := Lib.hid (by rw [← hW5]; exact ⟨owns_row HO123.out.1 (by omega), owns_row HO123.out.2.1 (by omega), owns_row HO123.out.2.2 (by omega)⟩)
  have HOL5 : Hid (OwnR 9 entC 47 W5 (w.heap.size + 3) (.slice k4 h.log.length m4) rows ∧ EntsO W5 (w.heap.size + 3) (Value.slice k4 h.log.length m4).ownBlock rows) := Lib.hid (by rw [← hW5]; exact ⟨owns_row HOG.out.1 (by omega), fun r hr => ⟨owns_row (HOG.out.2 r hr).1 (by omega), (HOG.out.2 r hr).2⟩⟩)
  have HO5 : Hid (OwnH W5 (w.heap.size + 3) (.slice k1 h.shot.nodes.length m1) (.slice k2 h.shot.led.held.length m2) (.slice k3 h.shot.led.last.length m3) (.slice k4 h.log.length m4) h) := Lib.hid ⟨HOS5.out.1, HOS5.out.2.1, HOS5.out.2.2, by have q := LogP.whole HOL5.out.1 HOL5.out.2; rw [HMAP.out] at q; exact q⟩
  clear o1 o2 o3 o4 o5 hmap hrl
  have c0 := (cells21 HB5.out).1
  have c1 := (cell_of_row W5 _ 1 _ _ _ HB5.out).trans rfl
  have c3 := (cell_of_row W5 _ 3 _ _ _ HB5.out).trans rfl
  have d1 := (cell_of_row W5 _ 1 _ _ _ HA5.out).trans rfl
  have f1 := La.frozen_of (o := 1) HA5.out
  have d2 := (cell_of_row W5 _ 2 _ _ _ HA5.out).trans rfl
  have f2 := La.frozen_of (o := 2) HA5.out
  obtain ⟨W6, hW6⟩ : ∃ q, ((W5.setCell ⟨w.heap.size, 1, none⟩ (.int .u64 r.term)).setCell ⟨w.heap.size, 2, none⟩ (.int .i64 r.vote)).drew = q := ⟨_, rfl⟩
  have HA6 : Hid (W6.heap[w.heap.size]? = some (.cells (hArr { h with term := r.term, vote := r.vote } (.slice k1 h.shot.nodes.length m1) (.slice k2 h.shot.led.held.length m2) (.slice k3 h.shot.led.last.length m3) (.slice k4 h.log.length m4)) 43 (0, 0))) := Lib.hid (by rw [← hW6]; exact (heap_setCell_same _ w.heap.size 2 _ _ (.int .i64 r.vote) (heap_setCell_same W5 w.heap.size 1 _ _ (.int .u64 r.term) HA5.out)).trans rfl)
  have HC6 : Hid (W6.heap[w.heap.size + 2]? = some (.cells zH 43 (0, 0))) := Lib.hid (by rw [← hW6]; exact (heap_setCell_other _ ⟨w.heap.size, 2, none⟩ _ (.int .i64 r.vote) (by simp)).trans ((heap_setCell_other W5 ⟨w.heap.size, 1, none⟩ _ (.int .u64 r.term) (by simp)).trans HC5.out))
  have HBW6 : Hid (Below w.heap.size w W6) := Lib.hid (by rw [← hW6]; exact ((HBW5.out.setCell (Nat.le_refl _) _).setCell (Nat.le_refl _) _).drew)
  have HM6 : Hid (∀ e sz v n xs, W5.ownsRow (w.heap.size + 3) e sz v n xs → W6.ownsRow (w.heap.size + 3) e sz v n xs) := Lib.hid (by rw [← hW6]; exact fun e sz v n xs q => owns_cell (owns_cell (j := 1) (u := .int .u64 r.term) q (by omega)) (by omega))
  have HO6 : Hid (OwnH W6 (w.heap.size + 3) (.slice k1 h.shot.nodes.length m1) (.slice k2 h.shot.led.held.length m2) (.slice k3 h.shot.led.last.length m3) (.slice k4 h.log.length m4) { h with term := r.term, vote := r.vote }) := Lib.hid (HO5.out.map HM6.out)
  have HW6 : Hid (HarW { h with term := r.term, vote := r.vote }) := Lib.hid ⟨⟨HWH.out.1.1, HRW.out.2.2.2.1, HRW.out.2.1, HWH.out.1.2.2.2⟩, HWH.out.2⟩
  go_wp2_with (first | (with_reducible refine wpList_store_row rfl 43 (.tmp 2) (.tmp 22) rfl w.heap.size (hArr h (.slice k1 h.shot.nodes.length m1) (.slice k2 h.shot.led.held.length m2) (.slice k3 h.shot.led.last.length m3) (.slice k4 h.log.length m4)) rfl rfl 43 _ HA4.out (by kernel_rfl) rfl (hArr_one _ _ _ _ _ _ _ _ _ _ _ _ _) ?_; rw [hW5]) | fail)
  go_region
  try rw [hW6]
  clear hW6 c0 c1 c3 d1 d2 f1 f2
  go_wp2_with ((with_reducible refine wpList_load_row rfl 43 (.tmp 2) rfl w.heap.size rfl 43 (hArr { h with term := r.term, vote := r.vote } (.slice k1 h.shot.nodes.length m1) (.slice k2 h.shot.led.held.length m2) (.slice k3 h.shot.led.last.length m3) (.slice k4 h.log.length m4)) (0, 0) _ HA6.out Try.underlying43 rfl (by kernel_rfl) ?_))
  refine (check_any { h with term := r.term, vote := r.vote } _ _ (HO6.out.hard HW6.out)).mono ?_
  rintro e w7 ⟨z7, rfl, hz7, hb7⟩
  have HA7 := Lib.hid ((hb7.block _ (lt_of_row HA6.out)).trans HA6.out)
  have HC7 := Lib.hid ((hb7.block _ (lt_of_row HC6.out)).trans HC6.out)
  have HBW7 := Lib.hid (HBW6.out.trans (hb7.mono HBW6.out.size))
  have OW7 := Lib.hid (HO6.out.map fun e sz v n xs q => owns_below hb7 q)
  clear hb7
  rcases hz7 with ⟨rfl, hok⟩ | ⟨rfl, hno⟩
  · have FIN := Lib.hid (did_yes HE.out OK.out FR.out FO.out hok OW7.out HW6.out HBW7.out)
    clear hok
    go_wp2_with (first | (with_reducible refine wpList_load_row rfl 43 (.tmp 2) rfl w.heap.size rfl 43 (hArr { h with term := r.term, vote := r.vote } (.slice k1 h.shot.nodes.length m1) (.slice k2 h.shot.led.held.length m2) (.slice k3 h.shot.led.last.length m3) (.slice k4 h.log.length m4)) (0, 0) _ HA7.out Try.underlying43 rfl (by kernel_rfl) ?_) | (with_reducible refine wpList_store_row rfl 43 (.tmp 4) (.tmp 76) rfl (w.heap.size + 2) (hArr { h with term := r.term, vote := r.vote } (.slice k1 h.shot.nodes.length m1) (.slice k2 h.shot.led.held.length m2) (.slice k3 h.shot.led.last.length m3) (.slice k4 h.log.length m4)) rfl rfl 43 _ HC7.out (by kernel_rfl) rfl (hArr_one _ _ _ _ _ _ _ _ _ _ _ _ _) ?_))
    exact bodyPost_ret (v := .tuple #[.agg (hArr { h with term := r.term, vote := r.vote } (.slice k1 h.shot.nodes.length m1) (.slice k2 h.shot.led.held.length m2) (.slice k3 h.shot.led.last.length m3) (.slice k4 h.log.length m4)), .int .i64 0]) (results_ct rfl _ _ (w.heap.size + 2) 43 _ (0, 0) _ rfl (setRow_heap _ _ _ _ _ _ HC7.out) Try.underlying43 rfl (by kernel_rfl) rfl) rfl FIN.out
  · have FIN := Lib.hid (did_no (h := h) (r := r) (fun g => hno (by have q := g.2.2.2; rw [HE.out] at q; exact q)) HBW7.out)
    clear hno
    go_wp2_with ((with_reducible refine wpList_store_row rfl 43 (.tmp 4) (.tmp 75) rfl (w.heap.size + 2) zH rfl rfl 43 _ HC7.out (by kernel_rfl) rfl zH_one ?_))
    exact bodyPost_ret (v := .tuple #[.agg zH, .int .i64 130]) (results_ct rfl _ _ (w.heap.size + 2) 43 _ (0, 0) _ rfl (setRow_heap _ _ _ _ _ _ HC7.out) Try.underlying43 rfl (by kernel_rfl) rfl) rfl FIN.out
end Rc
end Go.Proofs.Ytlkgmjhejocobaa
namespace Go.Proofs.Ytlkgmjhejocobaa
open Go.ChangeShapes Go.WideShapes Go.ChangeAt Go.RowKit Go.Deep
set_option linter.unusedVariables false
set_option maxRecDepth 100000
namespace Rc
open Hd Nv
theorem piece_take {w : World} {B : Nat} {a : Option Addr} {log : List Ent} {rows : List ERow} {m : Nat} (own : OwnR 9 entC 47 w B (.slice a log.length m) rows) (hl : rows.length = log.length) {j : Nat} (hj : j ≤ log.length) : PieceOf (.slice a log.length m) log (.slice a j m) (log.take j) := by
  rcases own.2 with ⟨e, h0⟩ | ⟨g, cap, cur, e, -⟩
  · simp only [Value.slice.injEq] at e
    obtain ⟨rfl, hn, rfl⟩ := e
    have hj0 : j = 0 := by omega
    subst hj0
    exact .inl ⟨rfl, rfl⟩
  · simp only [Value.slice.injEq] at e
    obtain ⟨rfl, hn, rfl⟩ := e
    refine .inr (.inl ⟨g, 0, m, 0, rfl, ?_, ?_, ?_⟩)
    · rw [List.length_take, Nat.min_eq_left hj]; simp
    · rw [List.length_take]; omega
    · rw [List.drop_zero, List.length_take, Nat.min_eq_left hj]
theorem own_cap {w : World} {B n m : Nat} {a : Option Addr} {rows : List ERow} (own : OwnR 9 entC 47 w B (.slice a n m) rows) : n ≤ m ∧ m ≤ maxLen := by
  rcases own.2 with ⟨e, h0⟩ | ⟨g, cap, cur, e, -, -, h3, h4, -⟩
  · simp only [Value.slice.injEq] at e
    obtain ⟨-, hn, rfl⟩ := e
    exact ⟨by omega, Nat.zero_le _⟩
  · simp only [Value.slice.injEq] at e
    obtain ⟨-, hn, rfl⟩ := e
    exact ⟨by omega, h4⟩
set_option maxHeartbeats 8000000 in
theorem do_4 (h : Har) (vv : Value) (r : RecR) (v : Value) (w : World) (hh : IsHard w vv h) (hf : IsHard.fits h)  (hr : IsRec w v r) (hrf : IsRec.fits r) (ok : hardOk h) (fr : fitsP r) (fo : followsP h r) (hk : r.kind = 4) : Calls Try.prog 24 #[vv, v] w (Did h r w) := by
  obtain ⟨vn, vh, vl, vg, rfl, hn, hhe, hl, hg, hhw⟩ := id hh
  obtain ⟨g1, q1, rfl, -⟩ := id hn
  obtain ⟨g2, q2, rfl, -⟩ := id hhe
  obtain ⟨g3, q3, rfl, -⟩ := id hl
  obtain ⟨g4, q4, rfl, -⟩ := IsLog.len hg
  obtain ⟨vc, vn, vh, vl, rfl, ⟨hc, hn2, hh2, hl2⟩, hwf⟩ := id hr
  obtain ⟨a1, b1, rfl, -⟩ := id hc
  obtain ⟨a2, b2, rfl, -⟩ := id hn2
  obtain ⟨a3, b3, rfl, -⟩ := id hh2
  obtain ⟨a4, b4, rfl, -⟩ := id hl2
  obtain ⟨W0, hW0, hb0, hz0, hA0, hB0, hC0⟩ := box3 w (hArr h (.slice g1 h.shot.nodes.length q1) (.slice g2 h.shot.led.held.length q2) (.slice g3 h.shot.led.last.length q3) (.slice g4 h.log.length q4)) (rArr r (.slice a1 r.ent.cmd.nodes.length b1) (.slice a2 r.shot.nodes.length b2) (.slice a3 r.shot.led.held.length b3) (.slice a4 r.shot.led.last.length b4)) zH
  have HIRW := Lib.hid hr
  have HIH0 := Lib.hid (hh.below hb0 (Nat.le_refl _))
  have HIR0 := Lib.hid (hr.below hb0 (Nat.le_refl _))
  have HWH := Lib.hid (IsHard.harW hh)
  have HRW := Lib.hid hwf
  have HA0 := Lib.hid hA0
  have HB0 := Lib.hid hB0
  have HC0 := Lib.hid hC0
  have HS0 : Hid (w.heap.size + 3 ≤ W0.heap.size) := Lib.hid (by omega)
  have HBW0 := Lib.hid hb0
  clear hh hr hn hhe hl hg hhw hc hn2 hh2 hl2 hwf hb0 hA0 hB0 hC0 hz0
  have HLA : Hid (h.shot.index + h.log.length ≤ 4611686018427387904) := Lib.hid ok.2.2.2.1
  have HF := Lib.hid hf
  have HRF := Lib.hid hrf
  have OK := Lib.hid ok
  have FR := Lib.hid fr
  have FO := Lib.hid fo
  clear hf hrf ok fr fo
  have hU := FO.out
  unfold followsP at hU
  rw [if_neg (by omega), if_neg (by omega), if_neg (by omega), if_pos hk] at hU
  obtain ⟨j, hj⟩ : ∃ j : Nat, r.index = h.shot.index + j + 1 := ⟨(r.index - h.shot.index - 1).toNat, by omega⟩
  have HE : Hid (doH h r = { h with log := h.log.take j }) := Lib.hid (by unfold doH; rw [if_neg (by omega), if_neg (by omega), if_neg (by omega), if_pos hk, show (r.index - h.shot.index - 1).toNat = j by omega])
  have e1 : r.index - h.shot.index = (j : Int) + 1 := by omega
  have e2 : (j : Int) + 1 - 1 = (j : Int) := by omega
  have hle : h.shot.index ≤ r.index := by omega
  have hjl : j ≤ h.log.length := by omega
  have HJ := Lib.hid hjl
  have hx0 := Ld.u64_nonneg HWH.out.1.2.2.2.1
  have hw3 := bounds_u64 HRW.out.2.2.2.2.1
  have n1 : (r.kind == 1) = false := beq_eq_false_iff_ne.2 (by omega)
  have n2 : (r.kind == 2) = false := beq_eq_false_iff_ne.2 (by omega)
  have n3 : (r.kind == 3) = false := beq_eq_false_iff_ne.2 (by omega)
  have n4 : (r.kind == 4) = true := beq_iff_eq.2 hk
  clear hk hj hU
  go_enter Try.func24, Try.ntmps24
  go_wp2_with ((with_reducible refine wpList_load_row rfl 43 (.tmp 2) rfl w.heap.size rfl 43 (hArr h (.slice g1 h.shot.nodes.length q1) (.slice g2 h.shot.led.held.length q2) (.slice g3 h.shot.led.last.length q3) (.slice g4 h.log.length q4)) (0, 0) _ HA0.out Try.underlying43 rfl (by kernel_rfl) ?_))
  refine (check_any h _ _ HIH0.out).mono ?_
  rintro e w1 ⟨z1, rfl, hz1, hb1⟩
  obtain rfl : z1 = 0 := by
    rcases hz1 with g | g
    · exact g.1
    · exact absurd OK.out g.2
  clear hz1
  have HA1 := Lib.hid ((hb1.block _ (lt_of_row HA0.out)).trans HA0.out)
  have HB1 := Lib.hid ((hb1.block _ (lt_of_row HB0.out)).trans HB0.out)
  have HC1 := Lib.hid ((hb1.block _ (lt_of_row HC0.out)).trans HC0.out)
  have HBW1 := Lib.hid (HBW0.out.trans (hb1.mono HBW0.out.size))
  have HS1 := Lib.hid (Nat.le_trans HS0.out hb1.size)
  have HIH1 := Lib.hid (HIH0.out.below hb1 (Nat.le_refl _))
  have HIR1 := Lib.hid (HIR0.out.below hb1 (Nat.le_refl _))
  clear hb1
  go_wp2_with ((with_reducible refine wpList_load_rowG rfl 49 (.tmp 3) rfl (w.heap.size + 1) rfl 49 (rArr r (.slice a1 r.ent.cmd.nodes.length b1) (.slice a2 r.shot.nodes.length b2) (.slice a3 r.shot.led.held.length b3) (.slice a4 r.shot.led.last.length b4)) (0, 0) _ HB1.out Try.underlying49 rfl (by kernel_rfl) ?_))
  refine (fits_any r _ _ HIR1.out).mono ?_
  rintro e w2 ⟨t2, rfl, ht2, hb2⟩
  obtain rfl : t2 = true := ht2.2 FR.out
  clear ht2
  have HA2 := Lib.hid ((hb2.block _ (lt_of_row HA1.out)).trans HA1.out)
  have HB2 := Lib.hid ((hb2.block _ (lt_of_row HB1.out)).trans HB1.out)
  have HC2 := Lib.hid ((hb2.block _ (lt_of_row HC1.out)).trans HC1.out)
  have HBW2 := Lib.hid (HBW1.out.trans (hb2.mono HBW1.out.size))
  have HS2 := Lib.hid (Nat.le_trans HS1.out hb2.size)
  have HIH2 := Lib.hid (HIH1.out.below hb2 (Nat.le_refl _))
  have HIR2 := Lib.hid (HIR1.out.below hb2 (Nat.le_refl _))
  clear hb2
  go_wp2_with (first | (with_reducible refine wpList_load_rowG rfl 43 (.tmp 2) rfl w.heap.size rfl 43 (hArr h (.slice g1 h.shot.nodes.length q1) (.slice g2 h.shot.led.held.length q2) (.slice g3 h.shot.led.last.length q3) (.slice g4 h.log.length q4)) (0, 0) _ HA2.out Try.underlying43 rfl (by kernel_rfl) ?_) | (with_reducible refine wpList_load_rowG rfl 49 (.tmp 3) rfl (w.heap.size + 1) rfl 49 (rArr r (.slice a1 r.ent.cmd.nodes.length b1) (.slice a2 r.shot.nodes.length b2) (.slice a3 r.shot.led.held.length b3) (.slice a4 r.shot.led.last.length b4)) (0, 0) _ HB2.out Try.underlying49 rfl (by kernel_rfl) ?_))
  refine (follows_any h _ r _ _ HIH2.out HIR2.out HLA.out).mono ?_
  rintro e w3 ⟨t3, rfl, ht3, hb3⟩
  obtain rfl : t3 = true := ht3.2 FO.out
  clear ht3
  have HA3 := Lib.hid ((hb3.block _ (lt_of_row HA2.out)).trans HA2.out)
  have HB3 := Lib.hid ((hb3.block _ (lt_of_row HB2.out)).trans HB2.out)
  have HC3 := Lib.hid ((hb3.block _ (lt_of_row HC2.out)).trans HC2.out)
  have HBW3 := Lib.hid (HBW2.out.trans (hb3.mono HBW2.out.size))
  have HS3 := Lib.hid (Nat.le_trans HS2.out hb3.size)
  have HIH3 := Lib.hid (HIH2.out.below hb3 (Nat.le_refl _))
  have HIR3 := Lib.hid (HIR2.out.below hb3 (Nat.le_refl _))
  clear hb3
  go_wp2_with ((with_reducible refine wpList_load_row rfl 43 (.tmp 2) rfl w.heap.size rfl 43 (hArr h (.slice g1 h.shot.nodes.length q1) (.slice g2 h.shot.led.held.length q2) (.slice g3 h.shot.led.last.length q3) (.slice g4 h.log.length q4)) (0, 0) _ HA3.out Try.underlying43 rfl (by kernel_rfl) ?_))
  refine (Vc.hard_own h _ _ HIH3.out HF.out).mono ?_
  rintro e w4 ⟨un, uh, ul, ug, rows, rfl, o1, o2, o3, o4, o5, hmap, hb4⟩
  have HA4 := Lib.hid ((hb4.block _ (lt_of_row HA3.out)).trans HA3.out)
  have HB4 := Lib.hid ((hb4.block _ (lt_of_row HB3.out)).trans HB3.out)
  have HC4 := Lib.hid ((hb4.block _ (lt_of_row HC3.out)).trans HC3.out)
  have HBW4 := Lib.hid (HBW3.out.trans (hb4.mono HBW3.out.size))
  have HS4 := Lib.hid (Nat.le_trans HS3.out hb4.size)
  have HIR4 := Lib.hid (HIR3.out.below hb4 (Nat.le_refl _))
  clear hb4
  obtain ⟨k1, m1, rfl, -⟩ := o1.sl HWH.out.2
  obtain ⟨k2, m2, rfl, -⟩ := o2.sl heldC_len
  obtain ⟨k3, m3, rfl, -⟩ := o3.sl lastC_len
  have HOG : Hid (OwnR 9 entC 47 w4 (w.heap.size + 3) ug rows ∧ EntsO w4 (w.heap.size + 3) ug.ownBlock rows) := Lib.hid ⟨o4.lower HS3.out, fun r hr => ⟨OwnK.lower (o5 r hr).1 HS3.out, (o5 r hr).2⟩⟩
  have HMAP := Lib.hid hmap
  have HO123 : Hid (OwnI w4 (w.heap.size + 3) (.slice k1 h.shot.nodes.length m1) h.shot.nodes ∧ OwnR 5 heldC 74 w4 (w.heap.size + 3) (.slice k2 h.shot.led.held.length m2) h.shot.led.held ∧ OwnR 6 lastC 78 w4 (w.heap.size + 3) (.slice k3 h.shot.led.last.length m3) h.shot.led.last) := Lib.hid ⟨OwnK.lower o1 HS3.out, o2.lower HS3.out, o3.lower HS3.out⟩
  obtain ⟨k4, m4, hug, -⟩ := HOG.out.1.sl entC_len
  have hrl : rows.length = h.log.length := by rw [← hmap, List.length_map]
  rw [hrl] at hug
  subst hug
  obtain ⟨W5, hW5⟩ : ∃ q, w4.setRow w.heap.size (hArr h (.slice k1 h.shot.nodes.length m1) (.slice k2 h.shot.led.held.length m2) (.slice k3 h.shot.led.last.length m3) (.slice k4 h.log.length m4)) = q := ⟨_, rfl⟩
  have HRL := Lib.hid hrl
  have HA5 : Hid (W5.heap[w.heap.size]? = some (.cells (hArr h (.slice k1 h.shot.nodes.length m1) (.slice k2 h.shot.led.held.length m2) (.slice k3 h.shot.led.last.length m3) (.slice k4 h.log.length m4)) 43 (0, 0))) := Lib.hid (by rw [← hW5]; exact setRow_heap _ _ _ _ _ _ HA4.out)
  have HB5 : Hid (W5.heap[w.heap.size + 1]? = some (.cells (rArr r (.slice a1 r.ent.cmd.nodes.length b1) (.slice a2 r.shot.nodes.length b2) (.slice a3 r.shot.led.held.length b3) (.slice a4 r.shot.led.last.length b4)) 49 (0, 0))) := Lib.hid (by rw [← hW5]; exact (setRow_other w4 _ _ _ (by omega)).trans HB4.out)
  have HC5 : Hid (W5.heap[w.heap.size + 2]? = some (.cells zH 43 (0, 0))) := Lib.hid (by rw [← hW5]; exact (setRow_other w4 _ _ _ (by omega)).trans HC4.out)
  have HBW5 : Hid (Below w.heap.size w W5) := Lib.hid (by rw [← hW5]; exact Ld.below_row HBW4.out (Nat.le_refl _) _)
  have HS5 : Hid (w.heap.size + 3 ≤ W5.heap.size) := Lib.hid (by rw [← hW5]; simpa using HS4.out)
  have HIR5 : Hid (IsRec W5 (.agg (rArr r (.slice a1 r.ent.cmd.nodes.length b1) (.slice a2 r.shot.nodes.length b2) (.slice a3 r.shot.led.held.length b3) (.slice a4 r.shot.led.last.length b4))) r) := Lib.hid (HIRW.out.below HBW5.out (Nat.le_refl _))
  have HOS5 : Hid (OwnI W5 (w.heap.size + 3) (.slice k1 h.shot.nodes.length m1) h.shot.nodes ∧ OwnR 5 heldC 74 W5 (w.heap.size + 3) (.slice k2 h.shot.led.held.length m2) h.shot.led.held ∧ OwnR 6 lastC 78 W5 (w.heap.size + 3) (.slice k3 h.shot.led.last.length m3) h.shot.led.last) := Lib.hid (by rw [← hW5]; exact ⟨owns_row HO123.out.1 (by omega), owns_row HO123.out.2.1 (by omega), owns_row HO123.out.2.2 (by omega)⟩)
  have HOL5 : Hid (OwnR 9 entC 47 W5 (w.heap.size + 3) (.slice k4 h.log.length m4) rows ∧ EntsO W5 (w.heap.size + 3) (Value.slice k4 h.log.length m4).ownBlock rows) := Lib.hid (by rw [← hW5]; exact ⟨owns_row HOG.out.1 (by omega), fun r hr => ⟨owns_row (HOG.out.2 r hr).1 (by omega), (HOG.out.2 r hr).2⟩⟩)
  have HO5 : Hid (OwnH W5 (w.heap.size + 3) (.slice k1 h.shot.nodes.length m1) (.slice k2 h.shot.led.held.length m2) (.slice k3 h.shot.led.last.length m3) (.slice k4 h.log.length m4) h) := Lib.hid ⟨HOS5.out.1, HOS5.out.2.1, HOS5.out.2.2, by have q := LogP.whole HOL5.out.1 HOL5.out.2; rw [HMAP.out] at q; exact q⟩
  clear o1 o2 o3 o4 o5 hmap hrl
  have hcap := own_cap HOL5.out.1
  unfold maxLen at hcap
  have hjm : j ≤ m4 := by omega
  have c0 := (cells21 HB5.out).1
  have c4 := (cell_of_row W5 _ 4 _ _ _ HB5.out).trans rfl
  have d3 := (cell_of_row W5 _ 3 _ _ _ HA5.out).trans rfl
  have f3 := La.frozen_of (o := 3) HA5.out
  have d10 := (cell_of_row W5 _ 10 _ _ _ HA5.out).trans rfl
  have f10 := La.frozen_of (o := 10) HA5.out
  obtain ⟨W6, hW6⟩ : ∃ q, (W5.setCell ⟨w.heap.size, 10, none⟩ (.slice k4 j m4)) = q := ⟨_, rfl⟩
  have HA6 : Hid (W6.heap[w.heap.size]? = some (.cells (hArr { h with log := h.log.take j } (.slice k1 h.shot.nodes.length m1) (.slice k2 h.shot.led.held.length m2) (.slice k3 h.shot.led.last.length m3) (.slice k4 j m4)) 43 (0, 0))) := Lib.hid (by rw [← hW6, heap_setCell_same W5 w.heap.size 10 _ _ _ HA5.out]; rfl)
  have HC6 : Hid (W6.heap[w.heap.size + 2]? = some (.cells zH 43 (0, 0))) := Lib.hid (by rw [← hW6]; exact (heap_setCell_other _ _ _ _ (by simp)).trans HC5.out)
  have HBW6 : Hid (Below w.heap.size w W6) := Lib.hid (by rw [← hW6]; exact HBW5.out.setCell (Nat.le_refl _) _)
  have HM6 : Hid (∀ e sz v n xs, W5.ownsRow (w.heap.size + 3) e sz v n xs → W6.ownsRow (w.heap.size + 3) e sz v n xs) := Lib.hid (by rw [← hW6]; exact fun e sz v n xs q => owns_cell q (by omega))
  have HO6 : Hid (OwnH W6 (w.heap.size + 3) (.slice k1 h.shot.nodes.length m1) (.slice k2 h.shot.led.held.length m2) (.slice k3 h.shot.led.last.length m3) (.slice k4 j m4) { h with log := h.log.take j }) := Lib.hid (have q := HO5.out.map HM6.out; ⟨q.1, q.2.1, q.2.2.1, q.2.2.2.piece (piece_take HOL5.out.1 HRL.out HJ.out)⟩)
  have HW6 : Hid (HarW { h with log := h.log.take j }) := Lib.hid ⟨HWH.out.1, HWH.out.2⟩
  go_wp2_with (first | (with_reducible refine wpList_store_row rfl 43 (.tmp 2) (.tmp 22) rfl w.heap.size (hArr h (.slice k1 h.shot.nodes.length m1) (.slice k2 h.shot.led.held.length m2) (.slice k3 h.shot.led.last.length m3) (.slice k4 h.log.length m4)) rfl rfl 43 _ HA4.out (by kernel_rfl) rfl (hArr_one _ _ _ _ _ _ _ _ _ _ _ _ _) ?_; rw [hW5]) | (with_reducible refine wpList_load_row rfl 43 (.tmp 2) rfl w.heap.size rfl 43 (hArr { h with log := h.log.take j } (.slice k1 h.shot.nodes.length m1) (.slice k2 h.shot.led.held.length m2) (.slice k3 h.shot.led.last.length m3) (.slice k4 j m4)) (0, 0) _ HA6.out Try.underlying43 rfl (by kernel_rfl) ?_))
  refine (check_any { h with log := h.log.take j } _ _ (HO6.out.hard HW6.out)).mono ?_
  rintro e w7 ⟨z7, rfl, hz7, hb7⟩
  have HA7 := Lib.hid ((hb7.block _ (lt_of_row HA6.out)).trans HA6.out)
  have HC7 := Lib.hid ((hb7.block _ (lt_of_row HC6.out)).trans HC6.out)
  have HBW7 := Lib.hid (HBW6.out.trans (hb7.mono HBW6.out.size))
  have OW7 := Lib.hid (HO6.out.map fun e sz v n xs q => owns_below hb7 q)
  clear hb7
  rcases hz7 with ⟨rfl, hok⟩ | ⟨rfl, hno⟩
  · have FIN := Lib.hid (did_yes HE.out OK.out FR.out FO.out hok OW7.out HW6.out HBW7.out)
    clear hok
    go_wp2_with (first | (with_reducible refine wpList_load_row rfl 43 (.tmp 2) rfl w.heap.size rfl 43 (hArr { h with log := h.log.take j } (.slice k1 h.shot.nodes.length m1) (.slice k2 h.shot.led.held.length m2) (.slice k3 h.shot.led.last.length m3) (.slice k4 j m4)) (0, 0) _ HA7.out Try.underlying43 rfl (by kernel_rfl) ?_) | (with_reducible refine wpList_store_row rfl 43 (.tmp 4) (.tmp 76) rfl (w.heap.size + 2) (hArr { h with log := h.log.take j } (.slice k1 h.shot.nodes.length m1) (.slice k2 h.shot.led.held.length m2) (.slice k3 h.shot.led.last.length m3) (.slice k4 j m4)) rfl rfl 43 _ HC7.out (by kernel_rfl) rfl (hArr_one _ _ _ _ _ _ _ _ _ _ _ _ _) ?_))
    exact bodyPost_ret (v := .tuple #[.agg (hArr { h with log := h.log.take j } (.slice k1 h.shot.nodes.length m1) (.slice k2 h.shot.led.held.length m2) (.slice k3 h.shot.led.last.length m3) (.slice k4 j m4)), .int .i64 0]) (results_ct rfl _ _ (w.heap.size + 2) 43 _ (0, 0) _ rfl (setRow_heap _ _ _ _ _ _ HC7.out) Try.underlying43 rfl (by kernel_rfl) rfl) rfl FIN.out
  · have FIN := Lib.hid (did_no (h := h) (r := r) (fun g => hno (by have q := g.2.2.2; rw [HE.out] at q; exact q)) HBW7.out)
    clear hno
    go_wp2_with ((with_reducible refine wpList_store_row rfl 43 (.tmp 4) (.tmp 75) rfl (w.heap.size + 2) zH rfl rfl 43 _ HC7.out (by kernel_rfl) rfl zH_one ?_))
    exact bodyPost_ret (v := .tuple #[.agg zH, .int .i64 130]) (results_ct rfl _ _ (w.heap.size + 2) 43 _ (0, 0) _ rfl (setRow_heap _ _ _ _ _ _ HC7.out) Try.underlying43 rfl (by kernel_rfl) rfl) rfl FIN.out
end Rc
end Go.Proofs.Ytlkgmjhejocobaa
namespace Go.Proofs.Ytlkgmjhejocobaa
open Go.ChangeShapes Go.WideShapes Go.ChangeAt Go.RowKit Go.Deep
set_option linter.unusedVariables false
set_option maxRecDepth 100000
namespace Rc
open Hd Nv
theorem own_apart {w : World} {B B2 sz sz2 n n2 : Nat} {e e2 : TypeId} {v v2 : Value} {xs ys : List Value} (h : w.ownsRow B e sz v n xs) (h2 : w.ownsRow B2 e2 sz2 v2 n2 ys) (hne : e ≠ e2) : ∀ g, v.ownBlock = some g → some g ≠ v2.ownBlock := by
  intro g hg
  rcases h.2 with ⟨rfl, -⟩ | ⟨q, cap, cur, rfl, -, hh, -⟩
  · cases hg
  · obtain rfl : q = g := by simpa [Value.ownBlock] using hg
    rcases h2.2 with ⟨rfl, -⟩ | ⟨q2, cap2, cur2, rfl, -, hh2, -⟩
    · simp [Value.ownBlock]
    · intro q3
      obtain rfl : q = q2 := by simpa [Value.ownBlock] using q3
      rw [hh] at hh2
      simp only [Option.some.injEq, Obj.cells.injEq] at hh2
      exact hne hh2.2.1
theorem own_far {w w2 : World} {B sz n : Nat} {e : TypeId} {v : Value} {xs : List Value} {row : Option Nat} (h : w.ownsRow B e sz v n xs) (hg : w.grownBy w2 row) (hne : ∀ g, v.ownBlock = some g → some g ≠ row) : w2.ownsRow B e sz v n xs := by
  refine ⟨h.1, ?_⟩
  rcases h.2 with q | ⟨q, cap, cur, rfl, h3, h4, h5⟩
  · exact .inl q
  · exact .inr ⟨q, cap, cur, rfl, h3, by rw [hg.block q (Array.getElem?_eq_some_iff.1 h4).1 (hne q rfl)]; exact h4, h5⟩
theorem rent_mk {w : World} {g : Nat} {r : RecR} {vc vn vh vl : Value} (h : w.heap[g]? = some (.cells (rArr r vc vn vh vl) 49 (0, 0))) : w.heap[g]? = some (.cells (rArr r vc vn vh vl) 49 (0, 0)) ∧ w.cell? ⟨g, 5, none⟩ = some (.int .u64 r.ent.term) ∧ w.cell? ⟨g, 6, none⟩ = some (.int .i64 r.ent.cmd.kind) ∧ w.cell? ⟨g, 7, none⟩ = some (.int .i64 r.ent.cmd.node) ∧ w.cell? ⟨g, 8, none⟩ = some (.int .i64 r.ent.cmd.token) ∧ w.cell? ⟨g, 9, none⟩ = some vc ∧ w.cell? ⟨g, 10, none⟩ = some (.int .u64 r.ent.cmd.boot) ∧ w.cell? ⟨g, 11, none⟩ = some (.int .u64 r.ent.cmd.seq) ∧ w.cell? ⟨g, 12, none⟩ = some (.int .u64 r.ent.cmd.serial) ∧ w.cell? ⟨g, 13, none⟩ = some (.int .u64 r.ent.cmd.stamp) :=
  ⟨h, (cell_of_row w _ 5 _ _ _ h).trans rfl, (cell_of_row w _ 6 _ _ _ h).trans rfl, (cell_of_row w _ 7 _ _ _ h).trans rfl, (cell_of_row w _ 8 _ _ _ h).trans rfl, (cell_of_row w _ 9 _ _ _ h).trans rfl, (cell_of_row w _ 10 _ _ _ h).trans rfl, (cell_of_row w _ 11 _ _ _ h).trans rfl, (cell_of_row w _ 12 _ _ _ h).trans rfl, (cell_of_row w _ 13 _ _ _ h).trans rfl⟩
set_option maxHeartbeats 8000000 in
theorem do_3 (h : Har) (vv : Value) (r : RecR) (v : Value) (w : World) (hh : IsHard w vv h) (hf : IsHard.fits h)  (hr : IsRec w v r) (hrf : IsRec.fits r) (ok : hardOk h) (fr : fitsP r) (fo : followsP h r) (hk : r.kind = 3) : Calls Try.prog 24 #[vv, v] w (Did h r w) := by
  obtain ⟨vn, vh, vl, vg, rfl, hn, hhe, hl, hg, hhw⟩ := id hh
  obtain ⟨g1, q1, rfl, -⟩ := id hn
  obtain ⟨g2, q2, rfl, -⟩ := id hhe
  obtain ⟨g3, q3, rfl, -⟩ := id hl
  obtain ⟨g4, q4, rfl, -⟩ := IsLog.len hg
  obtain ⟨vc, vn, vh, vl, rfl, ⟨hc, hn2, hh2, hl2⟩, hwf⟩ := id hr
  obtain ⟨a1, b1, rfl, -⟩ := id hc
  obtain ⟨a2, b2, rfl, -⟩ := id hn2
  obtain ⟨a3, b3, rfl, -⟩ := id hh2
  obtain ⟨a4, b4, rfl, -⟩ := id hl2
  obtain ⟨W0, hW0, hb0, hz0, hA0, hB0, hC0⟩ := box3 w (hArr h (.slice g1 h.shot.nodes.length q1) (.slice g2 h.shot.led.held.length q2) (.slice g3 h.shot.led.last.length q3) (.slice g4 h.log.length q4)) (rArr r (.slice a1 r.ent.cmd.nodes.length b1) (.slice a2 r.shot.nodes.length b2) (.slice a3 r.shot.led.held.length b3) (.slice a4 r.shot.led.last.length b4)) zH
  have HIRW := Lib.hid hr
  have HIH0 := Lib.hid (hh.below hb0 (Nat.le_refl _))
  have HIR0 := Lib.hid (hr.below hb0 (Nat.le_refl _))
  have HWH := Lib.hid (IsHard.harW hh)
  have HRW := Lib.hid hwf
  have HRCL := Lib.hid (⟨hc, hn2, hh2, hl2⟩ : RecL w r _ _ _ _)
  have HA0 := Lib.hid hA0
  have HB0 := Lib.hid hB0
  have HC0 := Lib.hid hC0
  have HS0 : Hid (w.heap.size + 3 ≤ W0.heap.size) := Lib.hid (by omega)
  have HBW0 := Lib.hid hb0
  clear hh hr hn hhe hl hg hhw hc hn2 hh2 hl2 hwf hb0 hA0 hB0 hC0 hz0
  have HLA : Hid (h.shot.index + h.log.length ≤ 4611686018427387904) := Lib.hid ok.2.2.2.1
  have HF := Lib.hid hf
  have HRF := Lib.hid hrf
  have OK := Lib.hid ok
  have FR := Lib.hid fr
  have FO := Lib.hid fo
  clear hf hrf ok fr fo
  have HE : Hid (doH h r = { h with log := h.log ++ [r.ent] }) := Lib.hid (by unfold doH; rw [if_neg (by omega), if_neg (by omega), if_pos hk])
  have n1 : (r.kind == 1) = false := beq_eq_false_iff_ne.2 (by omega)
  have n2 : (r.kind == 2) = false := beq_eq_false_iff_ne.2 (by omega)
  have n3 : (r.kind == 3) = true := beq_iff_eq.2 hk
  clear hk
  go_enter Try.func24, Try.ntmps24
  go_wp2_with ((with_reducible refine wpList_load_row rfl 43 (.tmp 2) rfl w.heap.size rfl 43 (hArr h (.slice g1 h.shot.nodes.length q1) (.slice g2 h.shot.led.held.length q2) (.slice g3 h.shot.led.last.length q3) (.slice g4 h.log.length q4)) (0, 0) _ HA0.out Try.underlying43 rfl (by kernel_rfl) ?_))
  refine (check_any h _ _ HIH0.out).mono ?_
  rintro e w1 ⟨z1, rfl, hz1, hb1⟩
  obtain rfl : z1 = 0 := by
    rcases hz1 with g | g
    · exact g.1
    · exact absurd OK.out g.2
  clear hz1
  have HA1 := Lib.hid ((hb1.block _ (lt_of_row HA0.out)).trans HA0.out)
  have HB1 := Lib.hid ((hb1.block _ (lt_of_row HB0.out)).trans HB0.out)
  have HC1 := Lib.hid ((hb1.block _ (lt_of_row HC0.out)).trans HC0.out)
  have HBW1 := Lib.hid (HBW0.out.trans (hb1.mono HBW0.out.size))
  have HS1 := Lib.hid (Nat.le_trans HS0.out hb1.size)
  have HIH1 := Lib.hid (HIH0.out.below hb1 (Nat.le_refl _))
  have HIR1 := Lib.hid (HIR0.out.below hb1 (Nat.le_refl _))
  clear hb1
  go_wp2_with ((with_reducible refine wpList_load_rowG rfl 49 (.tmp 3) rfl (w.heap.size + 1) rfl 49 (rArr r (.slice a1 r.ent.cmd.nodes.length b1) (.slice a2 r.shot.nodes.length b2) (.slice a3 r.shot.led.held.length b3) (.slice a4 r.shot.led.last.length b4)) (0, 0) _ HB1.out Try.underlying49 rfl (by kernel_rfl) ?_))
  refine (fits_any r _ _ HIR1.out).mono ?_
  rintro e w2 ⟨t2, rfl, ht2, hb2⟩
  obtain rfl : t2 = true := ht2.2 FR.out
  clear ht2
  have HA2 := Lib.hid ((hb2.block _ (lt_of_row HA1.out)).trans HA1.out)
  have HB2 := Lib.hid ((hb2.block _ (lt_of_row HB1.out)).trans HB1.out)
  have HC2 := Lib.hid ((hb2.block _ (lt_of_row HC1.out)).trans HC1.out)
  have HBW2 := Lib.hid (HBW1.out.trans (hb2.mono HBW1.out.size))
  have HS2 := Lib.hid (Nat.le_trans HS1.out hb2.size)
  have HIH2 := Lib.hid (HIH1.out.below hb2 (Nat.le_refl _))
  have HIR2 := Lib.hid (HIR1.out.below hb2 (Nat.le_refl _))
  clear hb2
  go_wp2_with (first | (with_reducible refine wpList_load_rowG rfl 43 (.tmp 2) rfl w.heap.size rfl 43 (hArr h (.slice g1 h.shot.nodes.length q1) (.slice g2 h.shot.led.held.length q2) (.slice g3 h.shot.led.last.length q3) (.slice g4 h.log.length q4)) (0, 0) _ HA2.out Try.underlying43 rfl (by kernel_rfl) ?_) | (with_reducible refine wpList_load_rowG rfl 49 (.tmp 3) rfl (w.heap.size + 1) rfl 49 (rArr r (.slice a1 r.ent.cmd.nodes.length b1) (.slice a2 r.shot.nodes.length b2) (.slice a3 r.shot.led.held.length b3) (.slice a4 r.shot.led.last.length b4)) (0, 0) _ HB2.out Try.underlying49 rfl (by kernel_rfl) ?_))
  refine (follows_any h _ r _ _ HIH2.out HIR2.out HLA.out).mono ?_
  rintro e w3 ⟨t3, rfl, ht3, hb3⟩
  obtain rfl : t3 = true := ht3.2 FO.out
  clear ht3
  have HA3 := Lib.hid ((hb3.block _ (lt_of_row HA2.out)).trans HA2.out)
  have HB3 := Lib.hid ((hb3.block _ (lt_of_row HB2.out)).trans HB2.out)
  have HC3 := Lib.hid ((hb3.block _ (lt_of_row HC2.out)).trans HC2.out)
  have HBW3 := Lib.hid (HBW2.out.trans (hb3.mono HBW2.out.size))
  have HS3 := Lib.hid (Nat.le_trans HS2.out hb3.size)
  have HIH3 := Lib.hid (HIH2.out.below hb3 (Nat.le_refl _))
  have HIR3 := Lib.hid (HIR2.out.below hb3 (Nat.le_refl _))
  clear hb3
  go_wp2_with ((with_reducible refine wpList_load_row rfl 43 (.tmp 2) rfl w.heap.size rfl 43 (hArr h (.slice g1 h.shot.nodes.length q1) (.slice g2 h.shot.led.held.length q2) (.slice g3 h.shot.led.last.length q3) (.slice g4 h.log.length q4)) (0, 0) _ HA3.out Try.underlying43 rfl (by kernel_rfl) ?_))
  refine (Vc.hard_own h _ _ HIH3.out HF.out).mono ?_
  rintro e w4 ⟨un, uh, ul, ug, rows, rfl, o1, o2, o3, o4, o5, hmap, hb4⟩
  have HA4 := Lib.hid ((hb4.block _ (lt_of_row HA3.out)).trans HA3.out)
  have HB4 := Lib.hid ((hb4.block _ (lt_of_row HB3.out)).trans HB3.out)
  have HC4 := Lib.hid ((hb4.block _ (lt_of_row HC3.out)).trans HC3.out)
  have HBW4 := Lib.hid (HBW3.out.trans (hb4.mono HBW3.out.size))
  have HS4 := Lib.hid (Nat.le_trans HS3.out hb4.size)
  have HIR4 := Lib.hid (HIR3.out.below hb4 (Nat.le_refl _))
  clear hb4
  obtain ⟨k1, m1, rfl, -⟩ := o1.sl HWH.out.2
  obtain ⟨k2, m2, rfl, -⟩ := o2.sl heldC_len
  obtain ⟨k3, m3, rfl, -⟩ := o3.sl lastC_len
  have HOG : Hid (OwnR 9 entC 47 w4 (w.heap.size + 3) ug rows ∧ EntsO w4 (w.heap.size + 3) ug.ownBlock rows) := Lib.hid ⟨o4.lower HS3.out, fun r hr => ⟨OwnK.lower (o5 r hr).1 HS3.out, (o5 r hr).2⟩⟩
  have HMAP := Lib.hid hmap
  have HO123 : Hid (OwnI w4 (w.heap.size + 3) (.slice k1 h.shot.nodes.length m1) h.shot.nodes ∧ OwnR 5 heldC 74 w4 (w.heap.size + 3) (.slice k2 h.shot.led.held.length m2) h.shot.led.held ∧ OwnR 6 lastC 78 w4 (w.heap.size + 3) (.slice k3 h.shot.led.last.length m3) h.shot.led.last) := Lib.hid ⟨OwnK.lower o1 HS3.out, o2.lower HS3.out, o3.lower HS3.out⟩
  obtain ⟨k4, m4, hug, -⟩ := HOG.out.1.sl entC_len
  have hrl : rows.length = h.log.length := by rw [← hmap, List.length_map]
  rw [hrl] at hug
  subst hug
  obtain ⟨W5, hW5⟩ : ∃ q, w4.setRow w.heap.size (hArr h (.slice k1 h.shot.nodes.length m1) (.slice k2 h.shot.led.held.length m2) (.slice k3 h.shot.led.last.length m3) (.slice k4 h.log.length m4)) = q := ⟨_, rfl⟩
  have HRL := Lib.hid hrl
  have HA5 : Hid (W5.heap[w.heap.size]? = some (.cells (hArr h (.slice k1 h.shot.nodes.length m1) (.slice k2 h.shot.led.held.length m2) (.slice k3 h.shot.led.last.length m3) (.slice k4 h.log.length m4)) 43 (0, 0))) := Lib.hid (by rw [← hW5]; exact setRow_heap _ _ _ _ _ _ HA4.out)
  have HB5 : Hid (W5.heap[w.heap.size + 1]? = some (.cells (rArr r (.slice a1 r.ent.cmd.nodes.length b1) (.slice a2 r.shot.nodes.length b2) (.slice a3 r.shot.led.held.length b3) (.slice a4 r.shot.led.last.length b4)) 49 (0, 0))) := Lib.hid (by rw [← hW5]; exact (setRow_other w4 _ _ _ (by omega)).trans HB4.out)
  have HC5 : Hid (W5.heap[w.heap.size + 2]? = some (.cells zH 43 (0, 0))) := Lib.hid (by rw [← hW5]; exact (setRow_other w4 _ _ _ (by omega)).trans HC4.out)
  have HBW5 : Hid (Below w.heap.size w W5) := Lib.hid (by rw [← hW5]; exact Ld.below_row HBW4.out (Nat.le_refl _) _)
  have HS5 : Hid (w.heap.size + 3 ≤ W5.heap.size) := Lib.hid (by rw [← hW5]; simpa using HS4.out)
  have HIR5 : Hid (IsRec W5 (.agg (rArr r (.slice a1 r.ent.cmd.nodes.length b1) (.slice a2 r.shot.nodes.length b2) (.slice a3 r.shot.led.held.length b3) (.slice a4 r.shot.led.last.length b4))) r) := Lib.hid (HIRW.out.below HBW5.out (Nat.le_refl _))
  have HOS5 : Hid (OwnI W5 (w.heap.size + 3) (.slice k1 h.shot.nodes.length m1) h.shot.nodes ∧ OwnR 5 heldC 74 W5 (w.heap.size + 3) (.slice k2 h.shot.led.held.length m2) h.shot.led.held ∧ OwnR 6 lastC 78 W5 (w.heap.size + 3) (.slice k3 h.shot.led.last.length m3) h.shot.led.last) := Lib.hid (by rw [← hW5]; exact ⟨owns_row HO123.out.1 (by omega), owns_row HO123.out.2.1 (by omega), owns_row HO123.out.2.2 (by omega)⟩)
  have HOL5 : Hid (OwnR 9 entC 47 W5 (w.heap.size + 3) (.slice k4 h.log.length m4) rows ∧ EntsO W5 (w.heap.size + 3) (Value.slice k4 h.log.length m4).ownBlock rows) := Lib.hid (by rw [← hW5]; exact ⟨owns_row HOG.out.1 (by omega), fun r hr => ⟨owns_row (HOG.out.2 r hr).1 (by omega), (HOG.out.2 r hr).2⟩⟩)
  have HO5 : Hid (OwnH W5 (w.heap.size + 3) (.slice k1 h.shot.nodes.length m1) (.slice k2 h.shot.led.held.length m2) (.slice k3 h.shot.led.last.length m3) (.slice k4 h.log.length m4) h) := Lib.hid ⟨HOS5.out.1, HOS5.out.2.1, HOS5.out.2.2, by have q := LogP.whole HOL5.out.1 HOL5.out.2; rw [HMAP.out] at q; exact q⟩
  clear o1 o2 o3 o4 o5 hmap hrl
  have c0 := (cells21 HB5.out).1
  have c5 := (cell_of_row W5 _ 5 _ _ _ HB5.out).trans rfl
  have c6 := (cell_of_row W5 _ 6 _ _ _ HB5.out).trans rfl
  have c7 := (cell_of_row W5 _ 7 _ _ _ HB5.out).trans rfl
  have c8 := (cell_of_row W5 _ 8 _ _ _ HB5.out).trans rfl
  have c9 := (cell_of_row W5 _ 9 _ _ _ HB5.out).trans rfl
  have c10 := (cell_of_row W5 _ 10 _ _ _ HB5.out).trans rfl
  have c11 := (cell_of_row W5 _ 11 _ _ _ HB5.out).trans rfl
  have c12 := (cell_of_row W5 _ 12 _ _ _ HB5.out).trans rfl
  have c13 := (cell_of_row W5 _ 13 _ _ _ HB5.out).trans rfl
  have d10 := (cell_of_row W5 _ 10 _ _ _ HA5.out).trans rfl
  have f10 := La.frozen_of (o := 10) HA5.out
  have HIE := Lib.hid ((ent_led HRCL.out HRW.out HBW5.out.drew).1)
  have HLM : Hid (rows.length * 88 ≤ 140737488351232) := Lib.hid (by rw [HRL.out]; exact HF.out.2.1)
  go_wp2_with (first | (with_reducible refine wpList_store_row rfl 43 (.tmp 2) (.tmp 22) rfl w.heap.size (hArr h (.slice k1 h.shot.nodes.length m1) (.slice k2 h.shot.led.held.length m2) (.slice k3 h.shot.led.last.length m3) (.slice k4 h.log.length m4)) rfl rfl 43 _ HA4.out (by kernel_rfl) rfl (hArr_one _ _ _ _ _ _ _ _ _ _ _ _ _) ?_; rw [hW5]) | fail)
  go_region_law (first
    | (refine stepR entC_len Try.underlying41 rfl (by decide) info_ent rfl (.tmp 41) (.tmp 45) rfl (w.heap.size + 3) _ rows rfl ((HOL5.out.1.below HB56.out (Nat.le_refl _)).alloc _) _ [(r.ent, .slice a6 r.ent.cmd.nodes.length c6)] rfl (SlR.one entC_len _ _ rfl _ _ rfl) (Nat.succ_pos _) (ent_one _ _ _ _) (by have := HLM.out; unfold maxLen; simp; omega) (by have := HLM.out; simp; omega) (by have := HS5.out; have := HB56.out.size; simp; omega) _ rfl ?_; intro g7 c7 w7 hown7 hg7 hor7; have HOWN7 := Lib.hid hown7; have HG7 := Lib.hid hg7; have HOR7 := Lib.hid hor7; have HA7 := Lib.hid ((hg7.block w.heap.size (Nat.lt_of_lt_of_le (lt_of_row HA6.out) (by simp)) (fun e => by have := (World.ownsRow.lt HOL5.out.1 _ e.symm).1; omega)).trans ((heap_alloc_old _ _ (lt_of_row HA6.out)).trans HA6.out)); have HC7 := Lib.hid ((hg7.block (w.heap.size + 2) (Nat.lt_of_lt_of_le (lt_of_row HC6.out) (by simp)) (fun e => by have := (World.ownsRow.lt HOL5.out.1 _ e.symm).1; omega)).trans ((heap_alloc_old _ _ (lt_of_row HC6.out)).trans HC6.out)); have HB7 := Lib.hid ((hg7.block (w.heap.size + 1) (Nat.lt_of_lt_of_le (lt_of_row HB6.out) (by simp)) (fun e => by have := (World.ownsRow.lt HOL5.out.1 _ e.symm).1; omega)).trans ((heap_alloc_old _ _ (lt_of_row HB6.out)).trans HB6.out)); have z10 := (cell_of_row w7 _ 10 _ _ _ HA7.out).trans rfl; have u10 := La.frozen_of (o := 10) HA7.out; clear hown7 hg7 hor7)
    | (go_simp; go_at_call 59; refine (Vc.ent_own r.ent _ _ HIE.out HRF.out.1).mono ?_; rintro e w6 ⟨vn6, rfl, o6, hb6⟩; obtain ⟨a6, c6, rfl, -⟩ := o6.sl HRCL.out.1.wf; have HA6 := Lib.hid ((hb6.block _ (lt_of_row HA5.out)).trans HA5.out); have HB6 := Lib.hid ((hb6.block _ (lt_of_row HB5.out)).trans HB5.out); have HC6 := Lib.hid ((hb6.block _ (lt_of_row HC5.out)).trans HC5.out); have HB56 : Hid (Below W5.heap.size W5 w6) := Lib.hid ⟨hb6.os, hb6.tape, hb6.output, hb6.size, hb6.block⟩; have HBL := Lib.hid ((heap_alloc_old w6 (.cells (entC (r.ent, .slice a6 r.ent.cmd.nodes.length c6)).toArray 47 (0, 0)) (lt_of_row HB6.out)).trans HB6.out); have HO6 := Lib.hid o6; have x10 := (cell_of_row w6 _ 10 _ _ _ HA6.out).trans rfl; have y10 := (cell_of_row (w6.alloc (.cells (entC (r.ent, .slice a6 r.ent.cmd.nodes.length c6)).toArray 47)) _ 10 _ _ _ ((heap_alloc_old _ _ (lt_of_row HA6.out)).trans HA6.out)).trans rfl; clear hb6 o6))
  all_goals
    obtain ⟨W8, hW8⟩ : ∃ q, w7.setCell ⟨w.heap.size, 10, none⟩ (.slice (some ⟨g7, 0, none⟩) (rows.length + 1) c7) = q := ⟨_, rfl⟩
    rw [hW8]
    have HA8 : Hid (W8.heap[w.heap.size]? = some (.cells (hArr { h with log := h.log ++ [r.ent] } (.slice k1 h.shot.nodes.length m1) (.slice k2 h.shot.led.held.length m2) (.slice k3 h.shot.led.last.length m3) (.slice (some ⟨g7, 0, none⟩) (rows.length + 1) c7)) 43 (0, 0))) := Lib.hid (by rw [← hW8, heap_setCell_same w7 w.heap.size 10 _ _ _ HA7.out]; rfl)
    have HC8 : Hid (W8.heap[w.heap.size + 2]? = some (.cells zH 43 (0, 0))) := Lib.hid (by rw [← hW8]; exact (heap_setCell_other _ _ _ _ (by simp)).trans HC7.out)
    have hb58 : Below W5.heap.size W5 (w6.alloc (.cells (entC (r.ent, .slice a6 r.ent.cmd.nodes.length c6)).toArray 47)) := HB56.out.alloc HB56.out.size _
    have hbw7 : Below w.heap.size w w7 := Below.own (HBW5.out.trans (hb58.mono HBW5.out.size)) (Nat.le_trans HBW5.out.size hb58.size) (owns_lower (by omega) ((HOL5.out.1.below HB56.out (Nat.le_refl _)).alloc _)) HG7.out
    have HBW8 : Hid (Below w.heap.size w W8) := Lib.hid (by rw [← hW8]; exact hbw7.setCell (Nat.le_refl _) _)
    have hown7 := HOWN7.out
    simp only [List.length_cons, List.length_nil, Nat.zero_add] at hown7
    have hEO := HOL5.out.2.step hb58 HG7.out HOR7.out (HO6.out.alloc _) (fun g q => (World.ownsRow.lt HOL5.out.1 g q).2) HS5.out HRW.out.2.2.2.2.2.1 HRCL.out.1.wf
    have hlp := LogP.whole hown7 hEO
    rw [List.map_append, HMAP.out] at hlp
    have ap := fun (sz : Nat) (e : TypeId) (v : Value) (n : Nat) (xs : List Value) (q : W5.ownsRow (w.heap.size + 3) e sz v n xs) (hne : e ≠ 47) => own_far (owns_below hb58 q) HG7.out (own_apart q HOL5.out.1 hne)
    have HO8 : Hid (OwnH W8 (w.heap.size + 3) (.slice k1 h.shot.nodes.length m1) (.slice k2 h.shot.led.held.length m2) (.slice k3 h.shot.led.last.length m3) (.slice (some ⟨g7, 0, none⟩) (rows.length + 1) c7) { h with log := h.log ++ [r.ent] }) := Lib.hid (by rw [← hW8]; exact ⟨owns_cell (ap _ _ _ _ _ HOS5.out.1 (by decide)) (by omega), owns_cell (ap _ _ _ _ _ HOS5.out.2.1 (by decide)) (by omega), owns_cell (ap _ _ _ _ _ HOS5.out.2.2 (by decide)) (by omega), hlp.map fun e sz v n xs q => owns_cell q (by omega)⟩)
    have HW8 : Hid (HarW { h with log := h.log ++ [r.ent] }) := Lib.hid ⟨HWH.out.1, HWH.out.2⟩
    clear hb58 hbw7 hown7 hEO hlp ap hW8
    go_wp2_with ((with_reducible refine wpList_load_row rfl 43 (.tmp 2) rfl w.heap.size rfl 43 (hArr { h with log := h.log ++ [r.ent] } (.slice k1 h.shot.nodes.length m1) (.slice k2 h.shot.led.held.length m2) (.slice k3 h.shot.led.last.length m3) (.slice (some ⟨g7, 0, none⟩) (rows.length + 1) c7)) (0, 0) _ HA8.out Try.underlying43 rfl (by kernel_rfl) ?_))
    refine (check_any { h with log := h.log ++ [r.ent] } _ _ (HO8.out.hard HW8.out)).mono ?_
    rintro e w7 ⟨z7, rfl, hz7, hb7⟩
    have HA7 := Lib.hid ((hb7.block _ (lt_of_row HA8.out)).trans HA8.out)
    have HC7 := Lib.hid ((hb7.block _ (lt_of_row HC8.out)).trans HC8.out)
    have HBW7 := Lib.hid (HBW8.out.trans (hb7.mono HBW8.out.size))
    have OW7 := Lib.hid (HO8.out.map fun e sz v n xs q => owns_below hb7 q)
    clear hb7
    rcases hz7 with ⟨rfl, hok⟩ | ⟨rfl, hno⟩
    · have FIN := Lib.hid (did_yes HE.out OK.out FR.out FO.out hok OW7.out HW8.out HBW7.out)
      clear hok
      go_wp2_with (first | (with_reducible refine wpList_load_row rfl 43 (.tmp 2) rfl w.heap.size rfl 43 (hArr { h with log := h.log ++ [r.ent] } (.slice k1 h.shot.nodes.length m1) (.slice k2 h.shot.led.held.length m2) (.slice k3 h.shot.led.last.length m3) (.slice (some ⟨g7, 0, none⟩) (rows.length + 1) c7)) (0, 0) _ HA7.out Try.underlying43 rfl (by kernel_rfl) ?_) | (with_reducible refine wpList_store_row rfl 43 (.tmp 4) (.tmp 76) rfl (w.heap.size + 2) (hArr { h with log := h.log ++ [r.ent] } (.slice k1 h.shot.nodes.length m1) (.slice k2 h.shot.led.held.length m2) (.slice k3 h.shot.led.last.length m3) (.slice (some ⟨g7, 0, none⟩) (rows.length + 1) c7)) rfl rfl 43 _ HC7.out (by kernel_rfl) rfl (hArr_one _ _ _ _ _ _ _ _ _ _ _ _ _) ?_))
      exact bodyPost_ret (v := .tuple #[.agg (hArr { h with log := h.log ++ [r.ent] } (.slice k1 h.shot.nodes.length m1) (.slice k2 h.shot.led.held.length m2) (.slice k3 h.shot.led.last.length m3) (.slice (some ⟨g7, 0, none⟩) (rows.length + 1) c7)), .int .i64 0]) (results_ct rfl _ _ (w.heap.size + 2) 43 _ (0, 0) _ rfl (setRow_heap _ _ _ _ _ _ HC7.out) Try.underlying43 rfl (by kernel_rfl) rfl) rfl FIN.out
    · have FIN := Lib.hid (did_no (h := h) (r := r) (fun g => hno (by have q := g.2.2.2; rw [HE.out] at q; exact q)) HBW7.out)
      clear hno
      go_wp2_with ((with_reducible refine wpList_store_row rfl 43 (.tmp 4) (.tmp 75) rfl (w.heap.size + 2) zH rfl rfl 43 _ HC7.out (by kernel_rfl) rfl zH_one ?_))
      exact bodyPost_ret (v := .tuple #[.agg zH, .int .i64 130]) (results_ct rfl _ _ (w.heap.size + 2) 43 _ (0, 0) _ rfl (setRow_heap _ _ _ _ _ _ HC7.out) Try.underlying43 rfl (by kernel_rfl) rfl) rfl FIN.out
end Rc
end Go.Proofs.Ytlkgmjhejocobaa
namespace Go.Proofs.Ytlkgmjhejocobaa
open Go.ChangeShapes Go.WideShapes Go.ChangeAt Go.RowKit Go.Deep
set_option linter.unusedVariables false
set_option maxRecDepth 100000
namespace Rc
open Hd Nv
theorem piece_slice {v u : Value} {full part : List Ent} (h : PieceOf v full u part) : ∃ a c, u = .slice a part.length c := by
  rcases h with ⟨rfl, rfl⟩ | ⟨g, off, cap, k, -, rfl, -⟩ | ⟨ad, c, rfl, -, rfl⟩
  · exact ⟨_, _, rfl⟩
  · exact ⟨_, _, rfl⟩
  · exact ⟨_, _, rfl⟩
theorem behind_own {B : Nat} (h : Har) (vn vh vl : Value) (a : Option Addr) (m : Nat) (rows : List ERow) (s : Sho) (sv : Value) (w : World) (hh : IsHard w (.agg (hArr h vn vh vl (.slice a h.log.length m))) h) (own : OwnR 9 entC 47 w B (.slice a h.log.length m) rows) (hl : rows.length = h.log.length) (hs : IsShot w sv s) (hle : h.shot.index ≤ s.index) (hi : h.shot.index + h.log.length ≤ 4611686018427387904) : Calls Try.prog 60 #[.agg (hArr h vn vh vl (.slice a h.log.length m)), sv] w (SaysB h s (.slice a h.log.length m) w) := by
  have hk : s.index = h.shot.index + ((s.index - h.shot.index).toNat : Int) := by omega
  rcases own.2 with ⟨e, h0⟩ | ⟨g, cap, cur, e, -⟩
  · have hz : h.log = [] := List.eq_nil_of_length_eq_zero (by omega)
    rw [e]
    rw [e] at hh
    exact behind_nil h vn vh vl s sv w hh hs _ hk hi hz
  · have e2 : a = some ⟨g, 0, none⟩ := by simp only [Value.slice.injEq] at e; exact e.1
    subst e2
    exact behind_some h vn vh vl g 0 m s sv w hh hs _ hk hi
theorem shot_range {w : World} {g : Nat} {r : RecR} {vc vn vh vl : Value} (h : w.heap[g]? = some (.cells (rArr r vc vn vh vl) 49 (0, 0))) : w.rangeAt g 14 (sArr r.shot vn vh vl).toList := fun j v hv => by
  have hj : j < 7 := by have := (List.getElem?_eq_some_iff.1 hv).1; simpa using this
  rw [cell_of_row w g (14 + j) _ _ _ h, ← hv]
  match j, hj with
  | 0, _ => rfl
  | 1, _ => rfl
  | 2, _ => rfl
  | 3, _ => rfl
  | 4, _ => rfl
  | 5, _ => rfl
  | 6, _ => rfl
theorem mid7s {w : World} {g : Nat} {h : Har} {vn vh vl vg : Value} (hh : w.heap[g]? = some (.cells (hArr h vn vh vl vg) 43 (0, 0))) (s : Sho) (un uh ul : Value) : (w.setCells g 3 (sArr s un uh ul).toList).heap[g]? = some (.cells (hArr { h with shot := s } un uh ul vg) 43 (0, 0)) := by
  rw [heap_setCells g _ _ hh]
  simp [setsA]
set_option maxHeartbeats 8000000 in
theorem do_5 (h : Har) (vv : Value) (r : RecR) (v : Value) (w : World) (hh : IsHard w vv h) (hf : IsHard.fits h)  (hr : IsRec w v r) (hrf : IsRec.fits r) (ok : hardOk h) (fr : fitsP r) (fo : followsP h r) (hk : r.kind = 5) : Calls Try.prog 24 #[vv, v] w (Did h r w) := by
  obtain ⟨vn, vh, vl, vg, rfl, hn, hhe, hl, hg, hhw⟩ := id hh
  obtain ⟨g1, q1, rfl, -⟩ := id hn
  obtain ⟨g2, q2, rfl, -⟩ := id hhe
  obtain ⟨g3, q3, rfl, -⟩ := id hl
  obtain ⟨g4, q4, rfl, -⟩ := IsLog.len hg
  obtain ⟨vc, vn, vh, vl, rfl, ⟨hc, hn2, hh2, hl2⟩, hwf⟩ := id hr
  obtain ⟨a1, b1, rfl, -⟩ := id hc
  obtain ⟨a2, b2, rfl, -⟩ := id hn2
  obtain ⟨a3, b3, rfl, -⟩ := id hh2
  obtain ⟨a4, b4, rfl, -⟩ := id hl2
  obtain ⟨W0, hW0, hb0, hz0, hA0, hB0, hC0⟩ := box3 w (hArr h (.slice g1 h.shot.nodes.length q1) (.slice g2 h.shot.led.held.length q2) (.slice g3 h.shot.led.last.length q3) (.slice g4 h.log.length q4)) (rArr r (.slice a1 r.ent.cmd.nodes.length b1) (.slice a2 r.shot.nodes.length b2) (.slice a3 r.shot.led.held.length b3) (.slice a4 r.shot.led.last.length b4)) zH
  have HIRW := Lib.hid hr
  have HIH0 := Lib.hid (hh.below hb0 (Nat.le_refl _))
  have HIR0 := Lib.hid (hr.below hb0 (Nat.le_refl _))
  have HWH := Lib.hid (IsHard.harW hh)
  have HRW := Lib.hid hwf
  have HRCL := Lib.hid (⟨hc, hn2, hh2, hl2⟩ : RecL w r _ _ _ _)
  have HA0 := Lib.hid hA0
  have HB0 := Lib.hid hB0
  have HC0 := Lib.hid hC0
  have HS0 : Hid (w.heap.size + 3 ≤ W0.heap.size) := Lib.hid (by omega)
  have HBW0 := Lib.hid hb0
  clear hh hr hn hhe hl hg hhw hc hn2 hh2 hl2 hwf hb0 hA0 hB0 hC0 hz0
  have HLA : Hid (h.shot.index + h.log.length ≤ 4611686018427387904) := Lib.hid ok.2.2.2.1
  have HF := Lib.hid hf
  have HRF := Lib.hid hrf
  have OK := Lib.hid ok
  have FR := Lib.hid fr
  have FO := Lib.hid fo
  clear hf hrf ok fr fo
  have hU := FO.out
  unfold followsP at hU
  rw [if_neg (by omega), if_neg (by omega), if_neg (by omega), if_neg (by omega)] at hU
  have HLE := Lib.hid hU
  have HE : Hid (doH h r = { h with shot := r.shot, log := behindL h r.shot }) := Lib.hid (by unfold doH; rw [if_neg (by omega), if_neg (by omega), if_neg (by omega), if_neg (by omega)])
  have z1 : (r.kind == 1) = false := beq_eq_false_iff_ne.2 (by omega)
  have z2 : (r.kind == 2) = false := beq_eq_false_iff_ne.2 (by omega)
  have z3 : (r.kind == 3) = false := beq_eq_false_iff_ne.2 (by omega)
  have n4 : (r.kind == 4) = false := beq_eq_false_iff_ne.2 (by omega)
  have n5 : (r.kind == 5) = true := beq_iff_eq.2 hk
  clear hk hU
  go_enter Try.func24, Try.ntmps24
  go_wp2_with ((with_reducible refine wpList_load_row rfl 43 (.tmp 2) rfl w.heap.size rfl 43 (hArr h (.slice g1 h.shot.nodes.length q1) (.slice g2 h.shot.led.held.length q2) (.slice g3 h.shot.led.last.length q3) (.slice g4 h.log.length q4)) (0, 0) _ HA0.out Try.underlying43 rfl (by kernel_rfl) ?_))
  refine (check_any h _ _ HIH0.out).mono ?_
  rintro e w1 ⟨z1, rfl, hz1, hb1⟩
  obtain rfl : z1 = 0 := by
    rcases hz1 with g | g
    · exact g.1
    · exact absurd OK.out g.2
  clear hz1
  have HA1 := Lib.hid ((hb1.block _ (lt_of_row HA0.out)).trans HA0.out)
  have HB1 := Lib.hid ((hb1.block _ (lt_of_row HB0.out)).trans HB0.out)
  have HC1 := Lib.hid ((hb1.block _ (lt_of_row HC0.out)).trans HC0.out)
  have HBW1 := Lib.hid (HBW0.out.trans (hb1.mono HBW0.out.size))
  have HS1 := Lib.hid (Nat.le_trans HS0.out hb1.size)
  have HIH1 := Lib.hid (HIH0.out.below hb1 (Nat.le_refl _))
  have HIR1 := Lib.hid (HIR0.out.below hb1 (Nat.le_refl _))
  clear hb1
  go_wp2_with ((with_reducible refine wpList_load_rowG rfl 49 (.tmp 3) rfl (w.heap.size + 1) rfl 49 (rArr r (.slice a1 r.ent.cmd.nodes.length b1) (.slice a2 r.shot.nodes.length b2) (.slice a3 r.shot.led.held.length b3) (.slice a4 r.shot.led.last.length b4)) (0, 0) _ HB1.out Try.underlying49 rfl (by kernel_rfl) ?_))
  refine (fits_any r _ _ HIR1.out).mono ?_
  rintro e w2 ⟨t2, rfl, ht2, hb2⟩
  obtain rfl : t2 = true := ht2.2 FR.out
  clear ht2
  have HA2 := Lib.hid ((hb2.block _ (lt_of_row HA1.out)).trans HA1.out)
  have HB2 := Lib.hid ((hb2.block _ (lt_of_row HB1.out)).trans HB1.out)
  have HC2 := Lib.hid ((hb2.block _ (lt_of_row HC1.out)).trans HC1.out)
  have HBW2 := Lib.hid (HBW1.out.trans (hb2.mono HBW1.out.size))
  have HS2 := Lib.hid (Nat.le_trans HS1.out hb2.size)
  have HIH2 := Lib.hid (HIH1.out.below hb2 (Nat.le_refl _))
  have HIR2 := Lib.hid (HIR1.out.below hb2 (Nat.le_refl _))
  clear hb2
  go_wp2_with (first | (with_reducible refine wpList_load_rowG rfl 43 (.tmp 2) rfl w.heap.size rfl 43 (hArr h (.slice g1 h.shot.nodes.length q1) (.slice g2 h.shot.led.held.length q2) (.slice g3 h.shot.led.last.length q3) (.slice g4 h.log.length q4)) (0, 0) _ HA2.out Try.underlying43 rfl (by kernel_rfl) ?_) | (with_reducible refine wpList_load_rowG rfl 49 (.tmp 3) rfl (w.heap.size + 1) rfl 49 (rArr r (.slice a1 r.ent.cmd.nodes.length b1) (.slice a2 r.shot.nodes.length b2) (.slice a3 r.shot.led.held.length b3) (.slice a4 r.shot.led.last.length b4)) (0, 0) _ HB2.out Try.underlying49 rfl (by kernel_rfl) ?_))
  refine (follows_any h _ r _ _ HIH2.out HIR2.out HLA.out).mono ?_
  rintro e w3 ⟨t3, rfl, ht3, hb3⟩
  obtain rfl : t3 = true := ht3.2 FO.out
  clear ht3
  have HA3 := Lib.hid ((hb3.block _ (lt_of_row HA2.out)).trans HA2.out)
  have HB3 := Lib.hid ((hb3.block _ (lt_of_row HB2.out)).trans HB2.out)
  have HC3 := Lib.hid ((hb3.block _ (lt_of_row HC2.out)).trans HC2.out)
  have HBW3 := Lib.hid (HBW2.out.trans (hb3.mono HBW2.out.size))
  have HS3 := Lib.hid (Nat.le_trans HS2.out hb3.size)
  have HIH3 := Lib.hid (HIH2.out.below hb3 (Nat.le_refl _))
  have HIR3 := Lib.hid (HIR2.out.below hb3 (Nat.le_refl _))
  clear hb3
  go_wp2_with ((with_reducible refine wpList_load_row rfl 43 (.tmp 2) rfl w.heap.size rfl 43 (hArr h (.slice g1 h.shot.nodes.length q1) (.slice g2 h.shot.led.held.length q2) (.slice g3 h.shot.led.last.length q3) (.slice g4 h.log.length q4)) (0, 0) _ HA3.out Try.underlying43 rfl (by kernel_rfl) ?_))
  refine (Vc.hard_own h _ _ HIH3.out HF.out).mono ?_
  rintro e w4 ⟨un, uh, ul, ug, rows, rfl, o1, o2, o3, o4, o5, hmap, hb4⟩
  have HA4 := Lib.hid ((hb4.block _ (lt_of_row HA3.out)).trans HA3.out)
  have HB4 := Lib.hid ((hb4.block _ (lt_of_row HB3.out)).trans HB3.out)
  have HC4 := Lib.hid ((hb4.block _ (lt_of_row HC3.out)).trans HC3.out)
  have HBW4 := Lib.hid (HBW3.out.trans (hb4.mono HBW3.out.size))
  have HS4 := Lib.hid (Nat.le_trans HS3.out hb4.size)
  have HIR4 := Lib.hid (HIR3.out.below hb4 (Nat.le_refl _))
  clear hb4
  obtain ⟨k1, m1, rfl, -⟩ := o1.sl HWH.out.2
  obtain ⟨k2, m2, rfl, -⟩ := o2.sl heldC_len
  obtain ⟨k3, m3, rfl, -⟩ := o3.sl lastC_len
  have HOG : Hid (OwnR 9 entC 47 w4 (w.heap.size + 3) ug rows ∧ EntsO w4 (w.heap.size + 3) ug.ownBlock rows) := Lib.hid ⟨o4.lower HS3.out, fun r hr => ⟨OwnK.lower (o5 r hr).1 HS3.out, (o5 r hr).2⟩⟩
  have HMAP := Lib.hid hmap
  have HO123 : Hid (OwnI w4 (w.heap.size + 3) (.slice k1 h.shot.nodes.length m1) h.shot.nodes ∧ OwnR 5 heldC 74 w4 (w.heap.size + 3) (.slice k2 h.shot.led.held.length m2) h.shot.led.held ∧ OwnR 6 lastC 78 w4 (w.heap.size + 3) (.slice k3 h.shot.led.last.length m3) h.shot.led.last) := Lib.hid ⟨OwnK.lower o1 HS3.out, o2.lower HS3.out, o3.lower HS3.out⟩
  obtain ⟨k4, m4, hug, -⟩ := HOG.out.1.sl entC_len
  have hrl : rows.length = h.log.length := by rw [← hmap, List.length_map]
  rw [hrl] at hug
  subst hug
  obtain ⟨W5, hW5⟩ : ∃ q, w4.setRow w.heap.size (hArr h (.slice k1 h.shot.nodes.length m1) (.slice k2 h.shot.led.held.length m2) (.slice k3 h.shot.led.last.length m3) (.slice k4 h.log.length m4)) = q := ⟨_, rfl⟩
  have HRL := Lib.hid hrl
  have HA5 : Hid (W5.heap[w.heap.size]? = some (.cells (hArr h (.slice k1 h.shot.nodes.length m1) (.slice k2 h.shot.led.held.length m2) (.slice k3 h.shot.led.last.length m3) (.slice k4 h.log.length m4)) 43 (0, 0))) := Lib.hid (by rw [← hW5]; exact setRow_heap _ _ _ _ _ _ HA4.out)
  have HB5 : Hid (W5.heap[w.heap.size + 1]? = some (.cells (rArr r (.slice a1 r.ent.cmd.nodes.length b1) (.slice a2 r.shot.nodes.length b2) (.slice a3 r.shot.led.held.length b3) (.slice a4 r.shot.led.last.length b4)) 49 (0, 0))) := Lib.hid (by rw [← hW5]; exact (setRow_other w4 _ _ _ (by omega)).trans HB4.out)
  have HC5 : Hid (W5.heap[w.heap.size + 2]? = some (.cells zH 43 (0, 0))) := Lib.hid (by rw [← hW5]; exact (setRow_other w4 _ _ _ (by omega)).trans HC4.out)
  have HBW5 : Hid (Below w.heap.size w W5) := Lib.hid (by rw [← hW5]; exact Ld.below_row HBW4.out (Nat.le_refl _) _)
  have HS5 : Hid (w.heap.size + 3 ≤ W5.heap.size) := Lib.hid (by rw [← hW5]; simpa using HS4.out)
  have HIR5 : Hid (IsRec W5 (.agg (rArr r (.slice a1 r.ent.cmd.nodes.length b1) (.slice a2 r.shot.nodes.length b2) (.slice a3 r.shot.led.held.length b3) (.slice a4 r.shot.led.last.length b4))) r) := Lib.hid (HIRW.out.below HBW5.out (Nat.le_refl _))
  have HOS5 : Hid (OwnI W5 (w.heap.size + 3) (.slice k1 h.shot.nodes.length m1) h.shot.nodes ∧ OwnR 5 heldC 74 W5 (w.heap.size + 3) (.slice k2 h.shot.led.held.length m2) h.shot.led.held ∧ OwnR 6 lastC 78 W5 (w.heap.size + 3) (.slice k3 h.shot.led.last.length m3) h.shot.led.last) := Lib.hid (by rw [← hW5]; exact ⟨owns_row HO123.out.1 (by omega), owns_row HO123.out.2.1 (by omega), owns_row HO123.out.2.2 (by omega)⟩)
  have HOL5 : Hid (OwnR 9 entC 47 W5 (w.heap.size + 3) (.slice k4 h.log.length m4) rows ∧ EntsO W5 (w.heap.size + 3) (Value.slice k4 h.log.length m4).ownBlock rows) := Lib.hid (by rw [← hW5]; exact ⟨owns_row HOG.out.1 (by omega), fun r hr => ⟨owns_row (HOG.out.2 r hr).1 (by omega), (HOG.out.2 r hr).2⟩⟩)
  have HO5 : Hid (OwnH W5 (w.heap.size + 3) (.slice k1 h.shot.nodes.length m1) (.slice k2 h.shot.led.held.length m2) (.slice k3 h.shot.led.last.length m3) (.slice k4 h.log.length m4) h) := Lib.hid ⟨HOS5.out.1, HOS5.out.2.1, HOS5.out.2.2, by have q := LogP.whole HOL5.out.1 HOL5.out.2; rw [HMAP.out] at q; exact q⟩
  clear o1 o2 o3 o4 o5 hmap hrl
  have c0 := (cells21 HB5.out).1
  have d10 := (cell_of_row W5 _ 10 _ _ _ HA5.out).trans rfl
  have f10 := La.frozen_of (o := 10) HA5.out
  have hrg5 := shot_range HB5.out
  have HIS5 := Lib.hid ((ent_led HRCL.out HRW.out HBW5.out).2)
  go_wp2_with (first | (with_reducible refine wpList_store_row rfl 43 (.tmp 2) (.tmp 22) rfl w.heap.size (hArr h (.slice k1 h.shot.nodes.length m1) (.slice k2 h.shot.led.held.length m2) (.slice k3 h.shot.led.last.length m3) (.slice k4 h.log.length m4)) rfl rfl 43 _ HA4.out (by kernel_rfl) rfl (hArr_one _ _ _ _ _ _ _ _ _ _ _ _ _) ?_; rw [hW5]) | (with_reducible refine wpList_load_row rfl 43 (.tmp 2) rfl w.heap.size rfl 43 (hArr h (.slice k1 h.shot.nodes.length m1) (.slice k2 h.shot.led.held.length m2) (.slice k3 h.shot.led.last.length m3) (.slice k4 h.log.length m4)) (0, 0) _ HA5.out Try.underlying43 rfl (by kernel_rfl) ?_) | (with_reducible refine wpList_load_mid rfl 29 (.tmp 64) rfl (w.heap.size + 1) 14 rfl (sArr r.shot (.slice a2 r.shot.nodes.length b2) (.slice a3 r.shot.led.held.length b3) (.slice a4 r.shot.led.last.length b4)).toList _ hrg5 Try.underlying29 rfl (by kernel_rfl) ?_))
  refine (behind_own h _ _ _ _ _ rows r.shot _ _ (HO5.out.hard HWH.out) HOL5.out.1 HRL.out HIS5.out HLE.out HLA.out).mono ?_
  rintro e w6 ⟨u, rfl, hpc, hb6⟩
  obtain ⟨a5, m5, rfl⟩ := piece_slice hpc
  have HPC := Lib.hid hpc
  have HA6 := Lib.hid ((hb6.block _ (lt_of_row HA5.out)).trans HA5.out)
  have HB6 := Lib.hid ((hb6.block _ (lt_of_row HB5.out)).trans HB5.out)
  have HC6 := Lib.hid ((hb6.block _ (lt_of_row HC5.out)).trans HC5.out)
  have HBW6 := Lib.hid (HBW5.out.trans (hb6.mono HBW5.out.size))
  have HO6 := Lib.hid (HO5.out.map fun e sz v n xs q => owns_below hb6 q)
  have HS6 : Hid (w.heap.size + 3 ≤ w6.heap.size) := Lib.hid (Nat.le_trans HS5.out hb6.size)
  have d10 := (cell_of_row w6 _ 10 _ _ _ HA6.out).trans rfl
  have f10 := La.frozen_of (o := 10) HA6.out
  clear hpc hb6 hrg5
  obtain ⟨WP, hWP⟩ : ∃ q, w6.setCell ⟨w.heap.size, 10, none⟩ (.slice a5 (behindL h r.shot).length m5) = q := ⟨_, rfl⟩
  have HAP : Hid (WP.heap[w.heap.size]? = some (.cells (hArr { h with log := behindL h r.shot } (.slice k1 h.shot.nodes.length m1) (.slice k2 h.shot.led.held.length m2) (.slice k3 h.shot.led.last.length m3) (.slice a5 (behindL h r.shot).length m5)) 43 (0, 0))) := Lib.hid (by rw [← hWP, heap_setCell_same w6 w.heap.size 10 _ _ _ HA6.out]; rfl)
  have HBP : Hid (WP.heap[w.heap.size + 1]? = some (.cells (rArr r (.slice a1 r.ent.cmd.nodes.length b1) (.slice a2 r.shot.nodes.length b2) (.slice a3 r.shot.led.held.length b3) (.slice a4 r.shot.led.last.length b4)) 49 (0, 0))) := Lib.hid (by rw [← hWP]; exact (heap_setCell_other _ _ _ _ (by simp)).trans HB6.out)
  have HCP : Hid (WP.heap[w.heap.size + 2]? = some (.cells zH 43 (0, 0))) := Lib.hid (by rw [← hWP]; exact (heap_setCell_other _ _ _ _ (by simp)).trans HC6.out)
  have HBWP : Hid (Below w.heap.size w WP) := Lib.hid (by rw [← hWP]; exact HBW6.out.setCell (Nat.le_refl _) _)
  have HSP : Hid (w.heap.size + 3 ≤ WP.heap.size) := Lib.hid (by rw [← hWP]; simpa using HS6.out)
  have HMP : Hid (∀ e sz v n xs, w6.ownsRow (w.heap.size + 3) e sz v n xs → WP.ownsRow (w.heap.size + 3) e sz v n xs) := Lib.hid (by rw [← hWP]; exact fun e sz v n xs q => owns_cell q (by omega))
  have HLP : Hid (LogP WP (w.heap.size + 3) (.slice a5 (behindL h r.shot).length m5) (behindL h r.shot)) := Lib.hid ((HO6.out.2.2.2.map HMP.out).piece HPC.out)
  have hrgP := shot_range HBP.out
  have HISP := Lib.hid ((ent_led HRCL.out HRW.out HBWP.out).2)
  go_wp2_with (first | (with_reducible refine wpList_load_mid rfl 29 (.tmp 68) rfl (w.heap.size + 1) 14 rfl (sArr r.shot (.slice a2 r.shot.nodes.length b2) (.slice a3 r.shot.led.held.length b3) (.slice a4 r.shot.led.last.length b4)).toList _ hrgP Try.underlying29 rfl (by kernel_rfl) ?_) | fail)
  refine (Vc.shot_own r.shot _ _ HISP.out HRF.out.2).mono ?_
  rintro e w8 ⟨un8, uh8, ul8, rfl, o1, o2, o3, hb8⟩
  obtain ⟨p1, n1, rfl, -⟩ := o1.sl HRCL.out.2.1.wf
  obtain ⟨p2, n2, rfl, -⟩ := o2.sl heldC_len
  obtain ⟨p3, n3, rfl, -⟩ := o3.sl lastC_len
  have HA8 := Lib.hid ((hb8.block _ (lt_of_row HAP.out)).trans HAP.out)
  have HC8 := Lib.hid ((hb8.block _ (lt_of_row HCP.out)).trans HCP.out)
  have HBW8 := Lib.hid (HBWP.out.trans (hb8.mono HBWP.out.size))
  have HL8 := Lib.hid (HLP.out.map fun e sz v n xs q => owns_below hb8 q)
  have HO8 : Hid (OwnI w8 (w.heap.size + 3) (.slice p1 r.shot.nodes.length n1) r.shot.nodes ∧ OwnR 5 heldC 74 w8 (w.heap.size + 3) (.slice p2 r.shot.led.held.length n2) r.shot.led.held ∧ OwnR 6 lastC 78 w8 (w.heap.size + 3) (.slice p3 r.shot.led.last.length n3) r.shot.led.last) := Lib.hid ⟨OwnK.lower o1 HSP.out, o2.lower HSP.out, o3.lower HSP.out⟩
  have hth := there_row HA8.out 3 7 (by simp)
  clear o1 o2 o3 hb8 hrgP
  obtain ⟨W9, hW9⟩ : ∃ q, w8.setCells w.heap.size 3 (sArr r.shot (.slice p1 r.shot.nodes.length n1) (.slice p2 r.shot.led.held.length n2) (.slice p3 r.shot.led.last.length n3)).toList = q := ⟨_, rfl⟩
  have HA9 : Hid (W9.heap[w.heap.size]? = some (.cells (hArr { h with shot := r.shot, log := behindL h r.shot } (.slice p1 r.shot.nodes.length n1) (.slice p2 r.shot.led.held.length n2) (.slice p3 r.shot.led.last.length n3) (.slice a5 (behindL h r.shot).length m5)) 43 (0, 0))) := Lib.hid (by rw [← hW9]; exact mid7s HA8.out r.shot _ _ _)
  have HC9 : Hid (W9.heap[w.heap.size + 2]? = some (.cells zH 43 (0, 0))) := Lib.hid (by rw [← hW9]; exact (setCells_other _ _ _ _ (by omega)).trans HC8.out)
  have HBW9 : Hid (Below w.heap.size w W9) := Lib.hid (by rw [← hW9]; exact HBW8.out.trans (setCells_below _ (Nat.le_refl _) _ _ _))
  have HM9 : Hid (∀ e sz v n xs, w8.ownsRow (w.heap.size + 3) e sz v n xs → W9.ownsRow (w.heap.size + 3) e sz v n xs) := Lib.hid (by rw [← hW9]; exact fun e sz v n xs q => owns_cells (by omega) _ _ _ q)
  have HO9 : Hid (OwnH W9 (w.heap.size + 3) (.slice p1 r.shot.nodes.length n1) (.slice p2 r.shot.led.held.length n2) (.slice p3 r.shot.led.last.length n3) (.slice a5 (behindL h r.shot).length m5) { h with shot := r.shot, log := behindL h r.shot }) := Lib.hid ⟨HM9.out _ _ _ _ _ HO8.out.1, HM9.out _ _ _ _ _ HO8.out.2.1, HM9.out _ _ _ _ _ HO8.out.2.2, HL8.out.map HM9.out⟩
  have HW9 : Hid (HarW { h with shot := r.shot, log := behindL h r.shot }) := Lib.hid ⟨⟨HWH.out.1.1, HWH.out.1.2.1, HWH.out.1.2.2.1, HRW.out.2.2.2.2.2.2⟩, HRCL.out.2.1.wf⟩
  go_wp2_with (first
    | (refine wpList_store_mid rfl 29 (.tmp 71) (.tmp 70) rfl w.heap.size 3 (sArr r.shot (.slice p1 r.shot.nodes.length n1) (.slice p2 r.shot.led.held.length n2) (.slice p3 r.shot.led.last.length n3)) rfl rfl hth (by kernel_rfl) (Sh.sArr_one _ _ _ _ _ _ _ _ _ _) ?_; rw [hW9])
    | (with_reducible refine wpList_load_row rfl 43 (.tmp 2) rfl w.heap.size rfl 43 (hArr { h with shot := r.shot, log := behindL h r.shot } (.slice p1 r.shot.nodes.length n1) (.slice p2 r.shot.led.held.length n2) (.slice p3 r.shot.led.last.length n3) (.slice a5 (behindL h r.shot).length m5)) (0, 0) _ HA9.out Try.underlying43 rfl (by kernel_rfl) ?_))
  refine (check_any { h with shot := r.shot, log := behindL h r.shot } _ _ (HO9.out.hard HW9.out)).mono ?_
  rintro e w7 ⟨z7, rfl, hz7, hb7⟩
  have HA7 := Lib.hid ((hb7.block _ (lt_of_row HA9.out)).trans HA9.out)
  have HC7 := Lib.hid ((hb7.block _ (lt_of_row HC9.out)).trans HC9.out)
  have HBW7 := Lib.hid (HBW9.out.trans (hb7.mono HBW9.out.size))
  have OW7 := Lib.hid (HO9.out.map fun e sz v n xs q => owns_below hb7 q)
  clear hb7
  rcases hz7 with ⟨rfl, hok⟩ | ⟨rfl, hno⟩
  · have FIN := Lib.hid (did_yes HE.out OK.out FR.out FO.out hok OW7.out HW9.out HBW7.out)
    clear hok
    go_wp2_with (first | (with_reducible refine wpList_load_row rfl 43 (.tmp 2) rfl w.heap.size rfl 43 (hArr { h with shot := r.shot, log := behindL h r.shot } (.slice p1 r.shot.nodes.length n1) (.slice p2 r.shot.led.held.length n2) (.slice p3 r.shot.led.last.length n3) (.slice a5 (behindL h r.shot).length m5)) (0, 0) _ HA7.out Try.underlying43 rfl (by kernel_rfl) ?_) | (with_reducible refine wpList_store_row rfl 43 (.tmp 4) (.tmp 76) rfl (w.heap.size + 2) (hArr { h with shot := r.shot, log := behindL h r.shot } (.slice p1 r.shot.nodes.length n1) (.slice p2 r.shot.led.held.length n2) (.slice p3 r.shot.led.last.length n3) (.slice a5 (behindL h r.shot).length m5)) rfl rfl 43 _ HC7.out (by kernel_rfl) rfl (hArr_one _ _ _ _ _ _ _ _ _ _ _ _ _) ?_))
    exact bodyPost_ret (v := .tuple #[.agg (hArr { h with shot := r.shot, log := behindL h r.shot } (.slice p1 r.shot.nodes.length n1) (.slice p2 r.shot.led.held.length n2) (.slice p3 r.shot.led.last.length n3) (.slice a5 (behindL h r.shot).length m5)), .int .i64 0]) (results_ct rfl _ _ (w.heap.size + 2) 43 _ (0, 0) _ rfl (setRow_heap _ _ _ _ _ _ HC7.out) Try.underlying43 rfl (by kernel_rfl) rfl) rfl FIN.out
  · have FIN := Lib.hid (did_no (h := h) (r := r) (fun g => hno (by have q := g.2.2.2; rw [HE.out] at q; exact q)) HBW7.out)
    clear hno
    go_wp2_with ((with_reducible refine wpList_store_row rfl 43 (.tmp 4) (.tmp 75) rfl (w.heap.size + 2) zH rfl rfl 43 _ HC7.out (by kernel_rfl) rfl zH_one ?_))
    exact bodyPost_ret (v := .tuple #[.agg zH, .int .i64 130]) (results_ct rfl _ _ (w.heap.size + 2) 43 _ (0, 0) _ rfl (setRow_heap _ _ _ _ _ _ HC7.out) Try.underlying43 rfl (by kernel_rfl) rfl) rfl FIN.out
end Rc
end Go.Proofs.Ytlkgmjhejocobaa
namespace Go.Proofs.Ytlkgmjhejocobaa
open Go.ChangeShapes Go.WideShapes Go.ChangeAt Go.RowKit Go.Deep
set_option linter.unusedVariables false
set_option maxRecDepth 100000
namespace Rc
open Hd Nv
theorem do_any (h : Har) (vv : Value) (r : RecR) (v : Value) (w : World) (hh : IsHard w vv h) (hf : IsHard.fits h) (hr : IsRec w v r) (hrf : IsRec.fits r) : Calls Try.prog 24 #[vv, v] w (Did h r w) := by
  by_cases ok : hardOk h
  · by_cases fr : fitsP r
    · by_cases fo : followsP h r
      · rcases fr.2.2.2.2.2.2 with k | k | k | k | k
        · exact do_1 h vv r v w hh hf hr hrf ok fr fo k.1
        · exact do_2 h vv r v w hh hf hr hrf ok fr fo k.1
        · exact do_3 h vv r v w hh hf hr hrf ok fr fo k.1
        · exact do_4 h vv r v w hh hf hr hrf ok fr fo k.1
        · exact do_5 h vv r v w hh hf hr hrf ok fr fo k.1
      · exact do_no3 h vv r v w hh hr ok fr fo
    · exact do_no2 h vv r v w hh hr ok fr
  · exact do_no1 h vv r v w hh hr ok
/-- with whatever record, nothing falls and no second vote is cast -/
theorem rises {h : Har} {r : RecR} (c : can h r) : h.boot ≤ (doH h r).boot ∧ h.term ≤ (doH h r).term ∧ h.shot.index ≤ (doH h r).shot.index ∧ ((doH h r).term = h.term → h.vote ≠ 0 → (doH h r).vote = h.vote) ∧ hardOk (doH h r) := by
  obtain ⟨-, fr, fo, ok⟩ := c
  refine ⟨?_, ?_, ?_, ?_, ok⟩
  all_goals
    clear ok
    unfold followsP at fo
    unfold doH
    rcases fr.2.2.2.2.2.2 with ⟨k, -⟩ | ⟨k, -⟩ | ⟨k, -⟩ | ⟨k, -⟩ | ⟨k, -⟩
  all_goals simp only [k, if_true, if_false, Int.reduceEq] at fo ⊢
  all_goals first | omega | (intro h1 h2; rcases fo with g | ⟨-, g | g⟩; · omega; · exact absurd g h2; · exact g.symm) | exact fun _ _ => trivial
end Rc
end Go.Proofs.Ytlkgmjhejocobaa
