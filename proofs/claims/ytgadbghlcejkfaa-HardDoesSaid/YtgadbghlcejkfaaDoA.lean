/- What a record does to what lasts: on lists, the frame of hard.Do, and what it refuses. No condition but the bounds of what may last. -/
import Derived.Test.YtgadbghlcejkfaaHdV
import Derived.Test.YtgadbghlcejkfaaRcN
import Derived.Deep.QuietTactic
import Derived.BigQuiet
import Derived.Deep.MidRow
namespace Go.Proofs.Ytgadbghlcejkfaa
open Go.ChangeShapes Go.WideShapes Go.ChangeAt Go.RowKit Go.Deep
set_option linter.unusedVariables false
set_option maxRecDepth 100000
abbrev Rc.zH : Array Value := #[.int .u64 0, .int .u64 0, .int .i64 0, .int .u64 0, .int .u64 0, .slice none 0 0, .int .i64 0, .int .u64 0, .slice none 0 0, .slice none 0 0, .slice none 0 0]
theorem results_ct {P : Program} {fn : Func} {p a : Tmp} {ty : TypeId} (h : fn.results = #[.cell p ty, .tmp a]) (tmps : Array Value) (w : World) (g : Nat) (t : TypeId) (cs : Array Value) (fr : Nat × Nat) (d : TypeDesc)
    (hp : tmps.getD p undef = .pointer (some ⟨g, 0, none⟩)) (hg : w.heap[g]? = some (.cells cs t fr))
    (hu : P.underlying ty = some d) (hd : (match d with | .struct _ | .array _ _ => true | _ => false) = true) (hi : (P.info? ty).map (·.size) = some cs.size) {x : Value} (hx : tmps.getD a undef = x) :
    (results fn tmps).run P w = .ok (.tuple #[.agg cs, x]) w := by
  subst hx
  have hp' : tmps[p]?.getD undef = .pointer (some ⟨g, 0, none⟩) := by simpa using hp
  simp [results, h, hp', asAddr, run_loadVar_row w g t ty cs fr d hg hu hd hi]
namespace Rc
open Hd Nv
def doH (h : Har) (r : RecR) : Har := if r.kind = 1 then { h with boot := r.boot } else if r.kind = 2 then { h with term := r.term, vote := r.vote } else if r.kind = 3 then { h with log := h.log ++ [r.ent] } else if r.kind = 4 then { h with log := h.log.take (r.index - h.shot.index - 1).toNat } else { h with shot := r.shot, log := behindL h r.shot }
def can (h : Har) (r : RecR) : Prop := hardOk h ∧ fitsP r ∧ followsP h r ∧ hardOk (doH h r)
def nilH : Har := ⟨0, 0, 0, ⟨0, 0, [], ⟨0, 0, [], []⟩⟩, []⟩
theorem nilH_w : HarW nilH := ⟨⟨by decide, by decide, by decide, by decide, by decide, by decide, by decide, by simp [nilH], by simp [nilH]⟩, by simp [nilH]⟩
theorem nilH_own (w : World) (B : Nat) : OwnH w B (.slice none 0 0) (.slice none 0 0) (.slice none 0 0) (.slice none 0 0) nilH := ⟨OwnK.nil .i64 3 w B, OwnR.nil _ _ _, OwnR.nil _ _ _, LogP.nil _ _⟩
/-- what hard.Do answers: what lasts, its lists the call's own, and an error -/
def Did (h : Har) (r : RecR) (w : World) (e : Ending) (w' : World) : Prop := ∃ z h' vn vh vl vg, e = .returned (.tuple #[.agg (hArr h' vn vh vl vg), .int .i64 z]) ∧ ((z = 0 ∧ can h r ∧ h' = doH h r) ∨ (z = 130 ∧ ¬ can h r ∧ h' = nilH)) ∧ OwnH w' w.heap.size vn vh vl vg h' ∧ HarW h' ∧ Below w.heap.size w w'
theorem did_yes {h h' : Har} {r : RecR} {w w7 : World} {vn vh vl vg : Value} (he : doH h r = h') (ok : hardOk h) (fr : fitsP r) (fo : followsP h r) (hok : hardOk h') (own : OwnH w7 (w.heap.size + 3) vn vh vl vg h') (hw : HarW h') (hb : Below w.heap.size w w7) :
    Did h r w (.returned (.tuple #[.agg (hArr h' vn vh vl vg), .int .i64 0])) (w7.setRow (w.heap.size + 2) (hArr h' vn vh vl vg)) :=
  ⟨0, h', vn, vh, vl, vg, rfl, .inl ⟨rfl, ⟨ok, fr, fo, by rw [he]; exact hok⟩, he.symm⟩, own.map fun e sz v n xs q => owns_lower (by omega) (owns_row (g := w.heap.size + 2) q (by omega)), hw, Ld.below_row hb (by omega) _⟩
theorem did_no {h : Har} {r : RecR} {w w7 : World} (hno : ¬ can h r) (hb : Below w.heap.size w w7) :
    Did h r w (.returned (.tuple #[.agg zH, .int .i64 130])) (w7.setRow (w.heap.size + 2) zH) :=
  ⟨130, nilH, _, _, _, _, rfl, .inr ⟨rfl, hno, rfl⟩, nilH_own _ _, nilH_w, Ld.below_row hb (by omega) _⟩
theorem zH_one : zH.all (·.oneCell') = true := by simp [zH, Value.oneCell']
theorem box3 (w : World) (A B C : Array Value) : ∃ W, ((w.alloc (.cells A 32)).alloc (.cells B 38)).alloc (.cells C 32) = W ∧ Below w.heap.size w W ∧ W.heap.size = w.heap.size + 3 ∧ W.heap[w.heap.size]? = some (.cells A 32 (0, 0)) ∧ W.heap[w.heap.size + 1]? = some (.cells B 38 (0, 0)) ∧ W.heap[w.heap.size + 2]? = some (.cells C 32 (0, 0)) :=
  ⟨_, rfl, (((Below.refl _ _).alloc (Nat.le_refl _) _).alloc (by simp) _).alloc (by simp; omega) _, by simp, (heap_alloc_old _ _ (by simp; omega)).trans ((heap_alloc_old _ _ (by simp)).trans (heap_alloc_new _ _)), (heap_alloc_old _ _ (by simp)).trans (La.new2 _ _ _), by have := heap_alloc_new ((w.alloc (.cells A 32)).alloc (.cells B 38)) (.cells C 32); simpa using this⟩
set_option maxHeartbeats 8000000 in
theorem do_no1 (h : Har) (vv : Value) (r : RecR) (v : Value) (w : World) (hh : IsHard w vv h)  (hr : IsRec w v r) (no : ¬ hardOk h) : Calls Try.prog 17 #[vv, v] w (Did h r w) := by
  obtain ⟨vn, vh, vl, vg, rfl, hn, hhe, hl, hg, hhw⟩ := id hh
  obtain ⟨g1, q1, rfl, -⟩ := id hn
  obtain ⟨g2, q2, rfl, -⟩ := id hhe
  obtain ⟨g3, q3, rfl, -⟩ := id hl
  obtain ⟨g4, q4, rfl, -⟩ := IsLog.len hg
  obtain ⟨vc, vn, vh, vl, rfl, ⟨hc, hn2, hh2, hl2⟩, hwf⟩ := id hr
  obtain ⟨a1, b1, rfl, -⟩ := id hc
  obtain ⟨a2, b2, rfl, -⟩ := id hn2
  obtain ⟨a3, b3, rfl, -⟩ := id hh2
  obtain ⟨a4, b4, rfl, -⟩ := id hl2
  obtain ⟨W0, hW0, hb0, hz0, hA0, hB0, hC0⟩ := box3 w (hArr h (.slice g1 h.shot.nodes.length q1) (.slice g2 h.shot.led.held.length q2) (.slice g3 h.shot.led.last.length q3) (.slice g4 h.log.length q4)) (rArr r (.slice a1 r.ent.cmd.nodes.length b1) (.slice a2 r.shot.nodes.length b2) (.slice a3 r.shot.led.held.length b3) (.slice a4 r.shot.led.last.length b4)) zH
  have HIH0 := Lib.hid (hh.below hb0 (Nat.le_refl _))
  have HIR0 := Lib.hid (hr.below hb0 (Nat.le_refl _))
  have HWH := Lib.hid (IsHard.harW hh)
  have HRW := Lib.hid hwf
  have HA0 := Lib.hid hA0
  have HB0 := Lib.hid hB0
  have HC0 := Lib.hid hC0
  have HS0 : Hid (w.heap.size + 3 ≤ W0.heap.size) := Lib.hid (by omega)
  have HBW0 := Lib.hid hb0
  clear hh hr hn hhe hl hg hhw hc hn2 hh2 hl2 hwf hb0 hA0 hB0 hC0 hz0
  have NO := Lib.hid no
  clear no
  go_enter Try.func17, Try.ntmps17
  go_wp2_with ((with_reducible refine wpList_load_row rfl 32 (.tmp 2) rfl w.heap.size rfl 32 (hArr h (.slice g1 h.shot.nodes.length q1) (.slice g2 h.shot.led.held.length q2) (.slice g3 h.shot.led.last.length q3) (.slice g4 h.log.length q4)) (0, 0) _ HA0.out Try.underlying32 rfl (by kernel_rfl) ?_))
  refine (check_any h _ _ HIH0.out).mono ?_
  rintro e w1 ⟨z1, rfl, hz1, hb1⟩
  obtain rfl : z1 = 130 := by
    rcases hz1 with g | g
    · exact absurd g.2 NO.out
    · exact g.1
  clear hz1
  have HA1 := Lib.hid ((hb1.block _ (lt_of_row HA0.out)).trans HA0.out)
  have HB1 := Lib.hid ((hb1.block _ (lt_of_row HB0.out)).trans HB0.out)
  have HC1 := Lib.hid ((hb1.block _ (lt_of_row HC0.out)).trans HC0.out)
  have HBW1 := Lib.hid (HBW0.out.trans (hb1.mono HBW0.out.size))
  have HS1 := Lib.hid (Nat.le_trans HS0.out hb1.size)
  have HIH1 := Lib.hid (HIH0.out.below hb1 (Nat.le_refl _))
  have HIR1 := Lib.hid (HIR0.out.below hb1 (Nat.le_refl _))
  clear hb1
  have FIN := Lib.hid (did_no (h := h) (r := r) (fun g => NO.out g.1) HBW1.out)
  go_wp2_with ((with_reducible refine wpList_store_row rfl 32 (.tmp 4) (.tmp 20) rfl (w.heap.size + 2) zH rfl rfl 32 _ HC1.out (by kernel_rfl) rfl zH_one ?_))
  exact bodyPost_ret (v := .tuple #[.agg zH, .int .i64 130]) (results_ct rfl _ _ (w.heap.size + 2) 32 _ (0, 0) _ rfl (setRow_heap _ _ _ _ _ _ HC1.out) Try.underlying32 rfl (by kernel_rfl) rfl) rfl FIN.out
set_option maxHeartbeats 8000000 in
theorem do_no2 (h : Har) (vv : Value) (r : RecR) (v : Value) (w : World) (hh : IsHard w vv h)  (hr : IsRec w v r) (ok : hardOk h) (no : ¬ fitsP r) : Calls Try.prog 17 #[vv, v] w (Did h r w) := by
  obtain ⟨vn, vh, vl, vg, rfl, hn, hhe, hl, hg, hhw⟩ := id hh
  obtain ⟨g1, q1, rfl, -⟩ := id hn
  obtain ⟨g2, q2, rfl, -⟩ := id hhe
  obtain ⟨g3, q3, rfl, -⟩ := id hl
  obtain ⟨g4, q4, rfl, -⟩ := IsLog.len hg
  obtain ⟨vc, vn, vh, vl, rfl, ⟨hc, hn2, hh2, hl2⟩, hwf⟩ := id hr
  obtain ⟨a1, b1, rfl, -⟩ := id hc
  obtain ⟨a2, b2, rfl, -⟩ := id hn2
  obtain ⟨a3, b3, rfl, -⟩ := id hh2
  obtain ⟨a4, b4, rfl, -⟩ := id hl2
  obtain ⟨W0, hW0, hb0, hz0, hA0, hB0, hC0⟩ := box3 w (hArr h (.slice g1 h.shot.nodes.length q1) (.slice g2 h.shot.led.held.length q2) (.slice g3 h.shot.led.last.length q3) (.slice g4 h.log.length q4)) (rArr r (.slice a1 r.ent.cmd.nodes.length b1) (.slice a2 r.shot.nodes.length b2) (.slice a3 r.shot.led.held.length b3) (.slice a4 r.shot.led.last.length b4)) zH
  have HIH0 := Lib.hid (hh.below hb0 (Nat.le_refl _))
  have HIR0 := Lib.hid (hr.below hb0 (Nat.le_refl _))
  have HWH := Lib.hid (IsHard.harW hh)
  have HRW := Lib.hid hwf
  have HA0 := Lib.hid hA0
  have HB0 := Lib.hid hB0
  have HC0 := Lib.hid hC0
  have HS0 : Hid (w.heap.size + 3 ≤ W0.heap.size) := Lib.hid (by omega)
  have HBW0 := Lib.hid hb0
  clear hh hr hn hhe hl hg hhw hc hn2 hh2 hl2 hwf hb0 hA0 hB0 hC0 hz0
  have OK := Lib.hid ok
  have NO := Lib.hid no
  clear ok no
  go_enter Try.func17, Try.ntmps17
  go_wp2_with ((with_reducible refine wpList_load_row rfl 32 (.tmp 2) rfl w.heap.size rfl 32 (hArr h (.slice g1 h.shot.nodes.length q1) (.slice g2 h.shot.led.held.length q2) (.slice g3 h.shot.led.last.length q3) (.slice g4 h.log.length q4)) (0, 0) _ HA0.out Try.underlying32 rfl (by kernel_rfl) ?_))
  refine (check_any h _ _ HIH0.out).mono ?_
  rintro e w1 ⟨z1, rfl, hz1, hb1⟩
  obtain rfl : z1 = 0 := by
    rcases hz1 with g | g
    · exact g.1
    · exact absurd OK.out g.2
  clear hz1
  have HA1 := Lib.hid ((hb1.block _ (lt_of_row HA0.out)).trans HA0.out)
  have HB1 := Lib.hid ((hb1.block _ (lt_of_row HB0.out)).trans HB0.out)
  have HC1 := Lib.hid ((hb1.block _ (lt_of_row HC0.out)).trans HC0.out)
  have HBW1 := Lib.hid (HBW0.out.trans (hb1.mono HBW0.out.size))
  have HS1 := Lib.hid (Nat.le_trans HS0.out hb1.size)
  have HIH1 := Lib.hid (HIH0.out.below hb1 (Nat.le_refl _))
  have HIR1 := Lib.hid (HIR0.out.below hb1 (Nat.le_refl _))
  clear hb1
  go_wp2_with ((with_reducible refine wpList_load_rowG rfl 38 (.tmp 3) rfl (w.heap.size + 1) rfl 38 (rArr r (.slice a1 r.ent.cmd.nodes.length b1) (.slice a2 r.shot.nodes.length b2) (.slice a3 r.shot.led.held.length b3) (.slice a4 r.shot.led.last.length b4)) (0, 0) _ HB1.out Try.underlying38 rfl (by kernel_rfl) ?_))
  refine (fits_any r _ _ HIR1.out).mono ?_
  rintro e w2 ⟨t2, rfl, ht2, hb2⟩
  obtain rfl : t2 = false := by
    cases t2
    · rfl
    · exact absurd (ht2.1 rfl) NO.out
  clear ht2
  have HA2 := Lib.hid ((hb2.block _ (lt_of_row HA1.out)).trans HA1.out)
  have HB2 := Lib.hid ((hb2.block _ (lt_of_row HB1.out)).trans HB1.out)
  have HC2 := Lib.hid ((hb2.block _ (lt_of_row HC1.out)).trans HC1.out)
  have HBW2 := Lib.hid (HBW1.out.trans (hb2.mono HBW1.out.size))
  have HS2 := Lib.hid (Nat.le_trans HS1.out hb2.size)
  have HIH2 := Lib.hid (HIH1.out.below hb2 (Nat.le_refl _))
  have HIR2 := Lib.hid (HIR1.out.below hb2 (Nat.le_refl _))
  clear hb2
  have FIN := Lib.hid (did_no (h := h) (r := r) (fun g => NO.out g.2.1) HBW2.out)
  go_wp2_with ((with_reducible refine wpList_store_row rfl 32 (.tmp 4) (.tmp 20) rfl (w.heap.size + 2) zH rfl rfl 32 _ HC2.out (by kernel_rfl) rfl zH_one ?_))
  exact bodyPost_ret (v := .tuple #[.agg zH, .int .i64 130]) (results_ct rfl _ _ (w.heap.size + 2) 32 _ (0, 0) _ rfl (setRow_heap _ _ _ _ _ _ HC2.out) Try.underlying32 rfl (by kernel_rfl) rfl) rfl FIN.out
set_option maxHeartbeats 8000000 in
theorem do_no3 (h : Har) (vv : Value) (r : RecR) (v : Value) (w : World) (hh : IsHard w vv h)  (hr : IsRec w v r) (ok : hardOk h) (fr : fitsP r) (no : ¬ followsP h r) : Calls Try.prog 17 #[vv, v] w (Did h r w) := by
  obtain ⟨vn, vh, vl, vg, rfl, hn, hhe, hl, hg, hhw⟩ := id hh
  obtain ⟨g1, q1, rfl, -⟩ := id hn
  obtain ⟨g2, q2, rfl, -⟩ := id hhe
  obtain ⟨g3, q3, rfl, -⟩ := id hl
  obtain ⟨g4, q4, rfl, -⟩ := IsLog.len hg
  obtain ⟨vc, vn, vh, vl, rfl, ⟨hc, hn2, hh2, hl2⟩, hwf⟩ := id hr
  obtain ⟨a1, b1, rfl, -⟩ := id hc
  obtain ⟨a2, b2, rfl, -⟩ := id hn2
  obtain ⟨a3, b3, rfl, -⟩ := id hh2
  obtain ⟨a4, b4, rfl, -⟩ := id hl2
  obtain ⟨W0, hW0, hb0, hz0, hA0, hB0, hC0⟩ := box3 w (hArr h (.slice g1 h.shot.nodes.length q1) (.slice g2 h.shot.led.held.length q2) (.slice g3 h.shot.led.last.length q3) (.slice g4 h.log.length q4)) (rArr r (.slice a1 r.ent.cmd.nodes.length b1) (.slice a2 r.shot.nodes.length b2) (.slice a3 r.shot.led.held.length b3) (.slice a4 r.shot.led.last.length b4)) zH
  have HIH0 := Lib.hid (hh.below hb0 (Nat.le_refl _))
  have HIR0 := Lib.hid (hr.below hb0 (Nat.le_refl _))
  have HWH := Lib.hid (IsHard.harW hh)
  have HRW := Lib.hid hwf
  have HA0 := Lib.hid hA0
  have HB0 := Lib.hid hB0
  have HC0 := Lib.hid hC0
  have HS0 : Hid (w.heap.size + 3 ≤ W0.heap.size) := Lib.hid (by omega)
  have HBW0 := Lib.hid hb0
  clear hh hr hn hhe hl hg hhw hc hn2 hh2 hl2 hwf hb0 hA0 hB0 hC0 hz0
  have HLA : Hid (h.shot.index + h.log.length ≤ 4611686018427387904) := Lib.hid ok.2.2.2.1
  have OK := Lib.hid ok
  have FR := Lib.hid fr
  have NO := Lib.hid no
  clear ok fr no
  go_enter Try.func17, Try.ntmps17
  go_wp2_with ((with_reducible refine wpList_load_row rfl 32 (.tmp 2) rfl w.heap.size rfl 32 (hArr h (.slice g1 h.shot.nodes.length q1) (.slice g2 h.shot.led.held.length q2) (.slice g3 h.shot.led.last.length q3) (.slice g4 h.log.length q4)) (0, 0) _ HA0.out Try.underlying32 rfl (by kernel_rfl) ?_))
  refine (check_any h _ _ HIH0.out).mono ?_
  rintro e w1 ⟨z1, rfl, hz1, hb1⟩
  obtain rfl : z1 = 0 := by
    rcases hz1 with g | g
    · exact g.1
    · exact absurd OK.out g.2
  clear hz1
  have HA1 := Lib.hid ((hb1.block _ (lt_of_row HA0.out)).trans HA0.out)
  have HB1 := Lib.hid ((hb1.block _ (lt_of_row HB0.out)).trans HB0.out)
  have HC1 := Lib.hid ((hb1.block _ (lt_of_row HC0.out)).trans HC0.out)
  have HBW1 := Lib.hid (HBW0.out.trans (hb1.mono HBW0.out.size))
  have HS1 := Lib.hid (Nat.le_trans HS0.out hb1.size)
  have HIH1 := Lib.hid (HIH0.out.below hb1 (Nat.le_refl _))
  have HIR1 := Lib.hid (HIR0.out.below hb1 (Nat.le_refl _))
  clear hb1
  go_wp2_with ((with_reducible refine wpList_load_rowG rfl 38 (.tmp 3) rfl (w.heap.size + 1) rfl 38 (rArr r (.slice a1 r.ent.cmd.nodes.length b1) (.slice a2 r.shot.nodes.length b2) (.slice a3 r.shot.led.held.length b3) (.slice a4 r.shot.led.last.length b4)) (0, 0) _ HB1.out Try.underlying38 rfl (by kernel_rfl) ?_))
  refine (fits_any r _ _ HIR1.out).mono ?_
  rintro e w2 ⟨t2, rfl, ht2, hb2⟩
  obtain rfl : t2 = true := ht2.2 FR.out
  clear ht2
  have HA2 := Lib.hid ((hb2.block _ (lt_of_row HA1.out)).trans HA1.out)
  have HB2 := Lib.hid ((hb2.block _ (lt_of_row HB1.out)).trans HB1.out)
  have HC2 := Lib.hid ((hb2.block _ (lt_of_row HC1.out)).trans HC1.out)
  have HBW2 := Lib.hid (HBW1.out.trans (hb2.mono HBW1.out.size))
  have HS2 := Lib.hid (Nat.le_trans HS1.out hb2.size)
  have HIH2 := Lib.hid (HIH1.out.below hb2 (Nat.le_refl _))
  have HIR2 := Lib.hid (HIR1.out.below hb2 (Nat.le_refl _))
  clear hb2
  go_wp2_with (first | (with_reducible refine wpList_load_rowG rfl 32 (.tmp 2) rfl w.heap.size rfl 32 (hArr h (.slice g1 h.shot.nodes.length q1) (.slice g2 h.shot.led.held.length q2) (.slice g3 h.shot.led.last.length q3) (.slice g4 h.log.length q4)) (0, 0) _ HA2.out Try.underlying32 rfl (by kernel_rfl) ?_) | (with_reducible refine wpList_load_rowG rfl 38 (.tmp 3) rfl (w.heap.size + 1) rfl 38 (rArr r (.slice a1 r.ent.cmd.nodes.length b1) (.slice a2 r.shot.nodes.length b2) (.slice a3 r.shot.led.held.length b3) (.slice a4 r.shot.led.last.length b4)) (0, 0) _ HB2.out Try.underlying38 rfl (by kernel_rfl) ?_))
  refine (follows_any h _ r _ _ HIH2.out HIR2.out HLA.out).mono ?_
  rintro e w3 ⟨t3, rfl, ht3, hb3⟩
  obtain rfl : t3 = false := by
    cases t3
    · rfl
    · exact absurd (ht3.1 rfl) NO.out
  clear ht3
  have HA3 := Lib.hid ((hb3.block _ (lt_of_row HA2.out)).trans HA2.out)
  have HB3 := Lib.hid ((hb3.block _ (lt_of_row HB2.out)).trans HB2.out)
  have HC3 := Lib.hid ((hb3.block _ (lt_of_row HC2.out)).trans HC2.out)
  have HBW3 := Lib.hid (HBW2.out.trans (hb3.mono HBW2.out.size))
  have HS3 := Lib.hid (Nat.le_trans HS2.out hb3.size)
  have HIH3 := Lib.hid (HIH2.out.below hb3 (Nat.le_refl _))
  have HIR3 := Lib.hid (HIR2.out.below hb3 (Nat.le_refl _))
  clear hb3
  have FIN := Lib.hid (did_no (h := h) (r := r) (fun g => NO.out g.2.2.1) HBW3.out)
  go_wp2_with ((with_reducible refine wpList_store_row rfl 32 (.tmp 4) (.tmp 20) rfl (w.heap.size + 2) zH rfl rfl 32 _ HC3.out (by kernel_rfl) rfl zH_one ?_))
  exact bodyPost_ret (v := .tuple #[.agg zH, .int .i64 130]) (results_ct rfl _ _ (w.heap.size + 2) 32 _ (0, 0) _ rfl (setRow_heap _ _ _ _ _ _ HC3.out) Try.underlying32 rfl (by kernel_rfl) rfl) rfl FIN.out
end Rc
end Go.Proofs.Ytgadbghlcejkfaa
