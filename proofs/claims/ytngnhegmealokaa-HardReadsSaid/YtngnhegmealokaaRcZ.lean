/- Whether a command, a ledger, an entry, a snapshot is zero: package values. No condition. (Printed by wip/tools/novals.py.) A record, read as an argument, and without the fields that its kind uses: hard.unused. No condition. Which records may be: hard.used, hard.fits. No condition. Which records fit: hard.fits, arm by arm. No condition. Which records fit: hard.fits, the last arm. No condition. -/
import Derived.Test.YtngnhegmealokaaHdC
import Derived.Test.YtngnhegmealokaaLdB
import Derived.Deep.MidRow
import Derived.Deep.QuietTactic
import Derived.BigQuiet
namespace Go.Proofs.Ytngnhegmealokaa
open Go.ChangeShapes Go.WideShapes Go.ChangeAt Go.RowKit
set_option linter.unusedVariables false
set_option maxRecDepth 100000
namespace Nv
def zCmd (c : Cmd) : Prop := c.kind = 0 ∧ c.node = 0 ∧ c.token = 0 ∧ c.nodes.length = 0 ∧ c.boot = 0 ∧ c.seq = 0 ∧ c.serial = 0 ∧ c.stamp = 0
def zLedg (l : Led) : Prop := l.limit = 0 ∧ l.next = 0 ∧ l.held.length = 0 ∧ l.last.length = 0
def zEnt (x : Ent) : Prop := x.term = 0 ∧ zCmd x.cmd
def zSho (s : Sho) : Prop := s.index = 0 ∧ s.term = 0 ∧ s.nodes.length = 0 ∧ zLedg s.led
/-- a bool that tells whether -/
def Tells (p : Prop) (w : World) (e : Ending) (w' : World) : Prop := ∃ b, e = .returned (.bool b) ∧ (b = true ↔ p) ∧ Below w.heap.size w w'
theorem tells_no {p : Prop} (h : ¬ p) {w w' : World} (hb : Below w.heap.size w w') : Tells p w (.returned (.bool false)) w' := ⟨_, rfl, ⟨fun q => absurd q (by decide), fun g => absurd g h⟩, hb⟩
theorem tells_yes {p : Prop} (h : p) {w w' : World} (hb : Below w.heap.size w w') : Tells p w (.returned (.bool true)) w' := ⟨_, rfl, ⟨fun _ => h, fun _ => rfl⟩, hb⟩
set_option maxHeartbeats 4000000 in
theorem noCmd_any (c : Cmd) (v : Value) (w : World) (h : IsCmd w v c) : Calls Try.prog 52 #[v] w (Tells (zCmd c) w) := by
  obtain ⟨vn, rfl, hsn, hcw⟩ := id h
  obtain ⟨an, cn, rfl, hl1, hl2, -⟩ := id hsn
  unfold maxLen at hl2
  have HB : Hid (Below w.heap.size w (w.alloc (.cells (La.cA c (.slice an c.nodes.length cn)) 25))) := Lib.hid ((Below.refl _ _).alloc (Nat.le_refl _) _)
  have hr : (w.alloc (.cells (La.cA c (.slice an c.nodes.length cn)) 25)).heap[w.heap.size]? = some (.cells (La.cA c (.slice an c.nodes.length cn)) 25 (0, 0)) := heap_alloc_new _ _
  obtain ⟨q0, q1, q2, q4, q5, q6, q7⟩ := La.cmd_cells hr
  have q3 := (cell_of_row _ _ 3 _ _ _ hr).trans rfl
  clear hr hsn hcw h
  by_cases h0 : c.kind = 0
  · have e0 : (c.kind == 0) = true := beq_iff_eq.2 (by omega)
    have H0 := Lib.hid h0
    clear h0
    by_cases h1 : c.node = 0
    · have e1 : (c.node == 0) = true := beq_iff_eq.2 (by omega)
      have H1 := Lib.hid h1
      clear h1
      by_cases h2 : c.token = 0
      · have e2 : (c.token == 0) = true := beq_iff_eq.2 (by omega)
        have H2 := Lib.hid h2
        clear h2
        by_cases h3 : c.nodes.length = 0
        · have e3 : ((c.nodes.length : Int) == 0) = true := beq_iff_eq.2 (by omega)
          have H3 := Lib.hid h3
          clear h3
          by_cases h4 : c.boot = 0
          · have e4 : (c.boot == 0) = true := beq_iff_eq.2 (by omega)
            have H4 := Lib.hid h4
            clear h4
            by_cases h5 : c.seq = 0
            · have e5 : (c.seq == 0) = true := beq_iff_eq.2 (by omega)
              have H5 := Lib.hid h5
              clear h5
              by_cases h6 : c.serial = 0
              · have e6 : (c.serial == 0) = true := beq_iff_eq.2 (by omega)
                have H6 := Lib.hid h6
                clear h6
                by_cases h7 : c.stamp = 0
                · have e7 : (c.stamp == 0) = true := beq_iff_eq.2 (by omega)
                  have H7 := Lib.hid h7
                  clear h7
                  go_enter Try.func52, Try.ntmps52
                  go_wp2
                  all_goals go_ret
                  all_goals exact tells_yes ⟨H0.out, H1.out, H2.out, H3.out, H4.out, H5.out, H6.out, H7.out⟩ HB.out
                · have e7 : (c.stamp == 0) = false := beq_eq_false_iff_ne.2 (by omega)
                  have HN : Hid (¬ zCmd c) := Lib.hid (fun g => h7 g.2.2.2.2.2.2.2)
                  clear h7
                  go_enter Try.func52, Try.ntmps52
                  go_wp2
                  all_goals go_ret
                  all_goals exact tells_no HN.out HB.out
              · have e6 : (c.serial == 0) = false := beq_eq_false_iff_ne.2 (by omega)
                have HN : Hid (¬ zCmd c) := Lib.hid (fun g => h6 g.2.2.2.2.2.2.1)
                clear h6
                go_enter Try.func52, Try.ntmps52
                go_wp2
                all_goals go_ret
                all_goals exact tells_no HN.out HB.out
            · have e5 : (c.seq == 0) = false := beq_eq_false_iff_ne.2 (by omega)
              have HN : Hid (¬ zCmd c) := Lib.hid (fun g => h5 g.2.2.2.2.2.1)
              clear h5
              go_enter Try.func52, Try.ntmps52
              go_wp2
              all_goals go_ret
              all_goals exact tells_no HN.out HB.out
          · have e4 : (c.boot == 0) = false := beq_eq_false_iff_ne.2 (by omega)
            have HN : Hid (¬ zCmd c) := Lib.hid (fun g => h4 g.2.2.2.2.1)
            clear h4
            go_enter Try.func52, Try.ntmps52
            go_wp2
            all_goals go_ret
            all_goals exact tells_no HN.out HB.out
        · have e3 : ((c.nodes.length : Int) == 0) = false := beq_eq_false_iff_ne.2 (by omega)
          have HN : Hid (¬ zCmd c) := Lib.hid (fun g => h3 g.2.2.2.1)
          clear h3
          go_enter Try.func52, Try.ntmps52
          go_wp2
          all_goals go_ret
          all_goals exact tells_no HN.out HB.out
      · have e2 : (c.token == 0) = false := beq_eq_false_iff_ne.2 (by omega)
        have HN : Hid (¬ zCmd c) := Lib.hid (fun g => h2 g.2.2.1)
        clear h2
        go_enter Try.func52, Try.ntmps52
        go_wp2
        all_goals go_ret
        all_goals exact tells_no HN.out HB.out
    · have e1 : (c.node == 0) = false := beq_eq_false_iff_ne.2 (by omega)
      have HN : Hid (¬ zCmd c) := Lib.hid (fun g => h1 g.2.1)
      clear h1
      go_enter Try.func52, Try.ntmps52
      go_wp2
      all_goals go_ret
      all_goals exact tells_no HN.out HB.out
  · have e0 : (c.kind == 0) = false := beq_eq_false_iff_ne.2 (by omega)
    have HN : Hid (¬ zCmd c) := Lib.hid (fun g => h0 g.1)
    clear h0
    go_enter Try.func52, Try.ntmps52
    go_wp2
    all_goals go_ret
    all_goals exact tells_no HN.out HB.out
set_option maxHeartbeats 4000000 in
theorem noLedger_any (l : Led) (v : Value) (w : World) (h : IsLed w v l) : Calls Try.prog 53 #[v] w (Tells (zLedg l) w) := by
  obtain ⟨vh, vl, rfl, hh, hl, -⟩ := id h
  obtain ⟨a1, c1, rfl, hl1, hl2, -⟩ := id hh
  obtain ⟨a2, c2, rfl, hl3, hl4, -⟩ := id hl
  unfold maxLen at hl2 hl4
  have HB : Hid (Below w.heap.size w (w.alloc (.cells (lArr l (.slice a1 l.held.length c1) (.slice a2 l.last.length c2)) 31))) := Lib.hid ((Below.refl _ _).alloc (Nat.le_refl _) _)
  obtain ⟨q0, q1, q2, q3⟩ := La.led_cells (heap_alloc_new w (.cells (lArr l (.slice a1 l.held.length c1) (.slice a2 l.last.length c2)) 31 (0, 0)))
  clear hh hl h
  by_cases h0 : l.limit = 0
  · have e0 : (l.limit == 0) = true := beq_iff_eq.2 (by omega)
    have H0 := Lib.hid h0
    clear h0
    by_cases h1 : l.next = 0
    · have e1 : (l.next == 0) = true := beq_iff_eq.2 (by omega)
      have H1 := Lib.hid h1
      clear h1
      by_cases h2 : l.held.length = 0
      · have e2 : ((l.held.length : Int) == 0) = true := beq_iff_eq.2 (by omega)
        have H2 := Lib.hid h2
        clear h2
        by_cases h3 : l.last.length = 0
        · have e3 : ((l.last.length : Int) == 0) = true := beq_iff_eq.2 (by omega)
          have H3 := Lib.hid h3
          clear h3
          go_enter Try.func53, Try.ntmps53
          go_wp2
          all_goals go_ret
          all_goals exact tells_yes ⟨H0.out, H1.out, H2.out, H3.out⟩ HB.out
        · have e3 : ((l.last.length : Int) == 0) = false := beq_eq_false_iff_ne.2 (by omega)
          have HN : Hid (¬ zLedg l) := Lib.hid (fun g => h3 g.2.2.2)
          clear h3
          go_enter Try.func53, Try.ntmps53
          go_wp2
          all_goals go_ret
          all_goals exact tells_no HN.out HB.out
      · have e2 : ((l.held.length : Int) == 0) = false := beq_eq_false_iff_ne.2 (by omega)
        have HN : Hid (¬ zLedg l) := Lib.hid (fun g => h2 g.2.2.1)
        clear h2
        go_enter Try.func53, Try.ntmps53
        go_wp2
        all_goals go_ret
        all_goals exact tells_no HN.out HB.out
    · have e1 : (l.next == 0) = false := beq_eq_false_iff_ne.2 (by omega)
      have HN : Hid (¬ zLedg l) := Lib.hid (fun g => h1 g.2.1)
      clear h1
      go_enter Try.func53, Try.ntmps53
      go_wp2
      all_goals go_ret
      all_goals exact tells_no HN.out HB.out
  · have e0 : (l.limit == 0) = false := beq_eq_false_iff_ne.2 (by omega)
    have HN : Hid (¬ zLedg l) := Lib.hid (fun g => h0 g.1)
    clear h0
    go_enter Try.func53, Try.ntmps53
    go_wp2
    all_goals go_ret
    all_goals exact tells_no HN.out HB.out
set_option maxHeartbeats 4000000 in
theorem noEntry_any (x : Ent) (v : Value) (w : World) (h : Hd.IsEnt w v x) : Calls Try.prog 30 #[v] w (Tells (zEnt x) w) := by
  obtain ⟨vn, rfl, hsl, hwf⟩ := h
  obtain ⟨an, cn, rfl, -⟩ := id hsl
  have hb0 : Below w.heap.size w (w.alloc (.cells (entC (x, .slice an x.cmd.nodes.length cn)).toArray 27)) := (Below.refl _ _).alloc (Nat.le_refl _) _
  have HB := Lib.hid hb0
  have HI : Hid (IsCmd (w.alloc (.cells (entC (x, .slice an x.cmd.nodes.length cn)).toArray 27)) (.agg (Cm.cArr x.cmd (.slice an x.cmd.nodes.length cn))) x.cmd) := Lib.hid ⟨_, rfl, hsl.below hb0 (Nat.le_refl _), hwf.2⟩
  obtain ⟨b0, b1, b2, b3, b4, b5, b6, b7, b8⟩ := Hd.ent9 (heap_alloc_new w (.cells (entC (x, .slice an x.cmd.nodes.length cn)).toArray 27 (0, 0)))
  clear hsl hwf hb0
  by_cases h0 : x.term = 0
  · have e0 : (x.term == 0) = true := beq_iff_eq.2 h0
    have H0 := Lib.hid h0
    clear h0
    go_enter Try.func30, Try.ntmps30
    go_wp2_with fail
    refine (noCmd_any x.cmd _ _ HI.out).mono ?_
    rintro e w1 ⟨b, rfl, hbb, hb1⟩
    have HF : Hid (Below w.heap.size w w1) := Lib.hid (HB.out.trans (hb1.mono HB.out.size))
    have HBB := Lib.hid hbb
    clear hb1 hbb
    go_wp2
    go_ret
    exact ⟨_, rfl, ⟨fun g => ⟨H0.out, HBB.out.1 g⟩, fun g => HBB.out.2 g.2⟩, HF.out⟩
  · have e0 : (x.term == 0) = false := beq_eq_false_iff_ne.2 h0
    have HN : Hid (¬ zEnt x) := Lib.hid (fun g => h0 g.1)
    clear h0
    go_enter Try.func30, Try.ntmps30
    go_wp2
    go_ret
    exact tells_no HN.out HB.out
set_option maxHeartbeats 4000000 in
theorem noShot_any (s : Sho) (v : Value) (w : World) (h : IsShot w v s) : Calls Try.prog 31 #[v] w (Tells (zSho s) w) := by
  obtain ⟨vn, vh, vl, rfl, hn, hh, hl, hwf⟩ := h
  obtain ⟨an, cn, rfl, hn1, hn2, -⟩ := id hn
  obtain ⟨a1, c1, rfl, -⟩ := id hh
  obtain ⟨a2, c2, rfl, -⟩ := id hl
  unfold maxLen at hn2
  have hb0 : Below w.heap.size w (w.alloc (.cells (sArr s (.slice an s.nodes.length cn) (.slice a1 s.led.held.length c1) (.slice a2 s.led.last.length c2)) 33)) := (Below.refl _ _).alloc (Nat.le_refl _) _
  have HB := Lib.hid hb0
  have HI : Hid (IsLed (w.alloc (.cells (sArr s (.slice an s.nodes.length cn) (.slice a1 s.led.held.length c1) (.slice a2 s.led.last.length c2)) 33)) (.agg (lArr s.led (.slice a1 s.led.held.length c1) (.slice a2 s.led.last.length c2))) s.led) := Lib.hid ⟨_, _, rfl, hh.below hb0 (Nat.le_refl _), hl.below hb0 (Nat.le_refl _), hwf.2.2⟩
  obtain ⟨b0, b1, b2, b3, b4, b5, b6⟩ := Sh.cells7 (heap_alloc_new w (.cells (sArr s (.slice an s.nodes.length cn) (.slice a1 s.led.held.length c1) (.slice a2 s.led.last.length c2)) 33 (0, 0)))
  clear hn hh hl hwf hb0
  by_cases h0 : s.index = 0
  · have e0 : (s.index == 0) = true := beq_iff_eq.2 (by omega)
    have H0 := Lib.hid h0
    clear h0
    by_cases h1 : s.term = 0
    · have e1 : (s.term == 0) = true := beq_iff_eq.2 (by omega)
      have H1 := Lib.hid h1
      clear h1
      by_cases h2 : s.nodes.length = 0
      · have e2 : ((s.nodes.length : Int) == 0) = true := beq_iff_eq.2 (by omega)
        have H2 := Lib.hid h2
        clear h2
        go_enter Try.func31, Try.ntmps31
        go_wp2_with fail
        refine (noLedger_any s.led _ _ HI.out).mono ?_
        rintro e w1 ⟨b, rfl, hbb, hb1⟩
        have HF : Hid (Below w.heap.size w w1) := Lib.hid (HB.out.trans (hb1.mono HB.out.size))
        have HBB := Lib.hid hbb
        clear hb1 hbb
        go_wp2
        go_ret
        exact ⟨_, rfl, ⟨fun g => ⟨H0.out, H1.out, H2.out, HBB.out.1 g⟩, fun g => HBB.out.2 g.2.2.2⟩, HF.out⟩
      · have e2 : ((s.nodes.length : Int) == 0) = false := beq_eq_false_iff_ne.2 (by omega)
        have HN : Hid (¬ zSho s) := Lib.hid (fun g => h2 g.2.2.1)
        clear h2
        go_enter Try.func31, Try.ntmps31
        go_wp2
        all_goals go_ret
        all_goals exact tells_no HN.out HB.out
    · have e1 : (s.term == 0) = false := beq_eq_false_iff_ne.2 (by omega)
      have HN : Hid (¬ zSho s) := Lib.hid (fun g => h1 g.2.1)
      clear h1
      go_enter Try.func31, Try.ntmps31
      go_wp2
      all_goals go_ret
      all_goals exact tells_no HN.out HB.out
  · have e0 : (s.index == 0) = false := beq_eq_false_iff_ne.2 (by omega)
    have HN : Hid (¬ zSho s) := Lib.hid (fun g => h0 g.1)
    clear h0
    go_enter Try.func31, Try.ntmps31
    go_wp2
    all_goals go_ret
    all_goals exact tells_no HN.out HB.out
end Nv
end Go.Proofs.Ytngnhegmealokaa
namespace Go.Proofs.Ytngnhegmealokaa
open Go.ChangeShapes Go.WideShapes Go.ChangeAt Go.RowKit Go.Deep
set_option linter.unusedVariables false
set_option maxRecDepth 100000
structure RecR where
  kind : Int
  vote : Int
  boot : Int
  term : Int
  index : Int
  ent : Ent
  shot : Sho
abbrev rArr (r : RecR) (vc vn vh vl : Value) : Array Value := #[.int .i64 r.kind, .int .i64 r.vote, .int .u64 r.boot, .int .u64 r.term, .int .u64 r.index, .int .u64 r.ent.term, .int .i64 r.ent.cmd.kind, .int .i64 r.ent.cmd.node, .int .i64 r.ent.cmd.token, vc, .int .u64 r.ent.cmd.boot, .int .u64 r.ent.cmd.seq, .int .u64 r.ent.cmd.serial, .int .u64 r.ent.cmd.stamp, .int .u64 r.shot.index, .int .u64 r.shot.term, vn, .int .i64 r.shot.led.limit, .int .u64 r.shot.led.next, vh, vl]
abbrev zR : Array Value := #[.int .i64 0, .int .i64 0, .int .u64 0, .int .u64 0, .int .u64 0, .int .u64 0, .int .i64 0, .int .i64 0, .int .i64 0, .slice none 0 0, .int .u64 0, .int .u64 0, .int .u64 0, .int .u64 0, .int .u64 0, .int .u64 0, .slice none 0 0, .int .i64 0, .int .u64 0, .slice none 0 0, .slice none 0 0]
def RecR.wf (r : RecR) : Prop := (Lit.int .i64 r.kind).wf = true ∧ (Lit.int .i64 r.vote).wf = true ∧ (Lit.int .u64 r.boot).wf = true ∧ (Lit.int .u64 r.term).wf = true ∧ (Lit.int .u64 r.index).wf = true ∧ r.ent.wf ∧ r.shot.wf
/-- the lists of a record -/
def RecL (w : World) (r : RecR) (vc vn vh vl : Value) : Prop := Sl .i64 w vc r.ent.cmd.nodes ∧ Sl .i64 w vn r.shot.nodes ∧ SlR 5 heldC w vh r.shot.led.held ∧ SlR 6 lastC w vl r.shot.led.last
theorem RecL.below {w w' : World} {r : RecR} {vc vn vh vl : Value} {B : Nat} (h : RecL w r vc vn vh vl) (hb : Below B w w') (hB : w.heap.size ≤ B) : RecL w' r vc vn vh vl := ⟨h.1.below hb hB, h.2.1.below hb hB, h.2.2.1.below hb hB, h.2.2.2.below hb hB⟩
def IsRec (w : World) (v : Value) (r : RecR) : Prop := ∃ vc vn vh vl, v = .agg (rArr r vc vn vh vl) ∧ RecL w r vc vn vh vl ∧ r.wf
def IsRec.size (r : RecR) : Nat := 0
def IsRec.fits (r : RecR) : Prop := IsCmd.fits r.ent.cmd ∧ IsShot.fits r.shot
theorem IsRec.below {w w' : World} {v : Value} {r : RecR} {B : Nat} (h : IsRec w v r) (hb : Below B w w') (hB : w.heap.size ≤ B) : IsRec w' v r := by
  obtain ⟨vc, vn, vh, vl, e, h1, h2⟩ := h
  exact ⟨vc, vn, vh, vl, e, h1.below hb hB, h2⟩
section
variable {H : Type} {enc : TypeId × Value → H} {W : World}
theorem trod_rec {n : Nat} {cs : List Value} {y : DataW H × List MemPlace} (h : DataW.trod enc Try.prog W 0 (fun _ => true) true n 35 cs = some y) :
    ∃ r vc vn vh vl, cs = (rArr r vc vn vh vl).toList ∧ RecL W r vc vn vh vl ∧ r.wf ∧ (Wt Try.prog 35 y.1 → IsRec.fits r) := by
  obtain ⟨xs, m, _, rfl, hlen, hxl, hf⟩ := DataW.trod_struct Try.underlying35 h
  have hl : cs.length = 21 := hlen.trans (by kernel_rfl)
  match cs, hl, xs, hxl with
  | [c0, c1, c2, c3, c4, c5, c6, c7, c8, c9, c10, c11, c12, c13, c14, c15, c16, c17, c18, c19, c20], _, [y0, y1, y2, y3, y4, y5, y6], _ =>
    have k1 : Try.prog.cellsOf 3 = 1 := by kernel_rfl
    have k3 : Try.prog.cellsOf 22 = 1 := by kernel_rfl
    have k9 : Try.prog.cellsOf 27 = 9 := by kernel_rfl
    have k7 : Try.prog.cellsOf 33 = 7 := by kernel_rfl
    obtain ⟨z0, rfl, w0⟩ := int_cell (P := Try.prog) Try.underlying3 (by simpa [k1] using hf 0 _ rfl)
    obtain ⟨z1, rfl, w1⟩ := int_cell (P := Try.prog) Try.underlying3 (by simpa [k1] using hf 1 _ rfl)
    obtain ⟨z2, rfl, w2⟩ := int_cell (P := Try.prog) Try.underlying22 (by simpa [k3] using hf 2 _ rfl)
    obtain ⟨z3, rfl, w3⟩ := int_cell (P := Try.prog) Try.underlying22 (by simpa [k3] using hf 3 _ rfl)
    obtain ⟨z4, rfl, w4⟩ := int_cell (P := Try.prog) Try.underlying22 (by simpa [k3] using hf 4 _ rfl)
    obtain ⟨⟨x, vc⟩, hc5, ⟨h1, h2⟩, h3⟩ := trod_entry (by simpa [k9] using hf 5 _ rfl)
    obtain ⟨s, vn, vh, vl, hc6, ⟨h4, h5, h6, h7⟩, h8⟩ := trod_shot (by simpa [k7] using hf 6 _ rfl)
    simp only [List.cons.injEq, and_true] at hc5 hc6
    obtain ⟨rfl, rfl, rfl, rfl, rfl, rfl, rfl, rfl, rfl⟩ := hc5
    obtain ⟨rfl, rfl, rfl, rfl, rfl, rfl, rfl⟩ := hc6
    exact ⟨⟨z0, z1, z2, z3, z4, x, s⟩, _, _, _, _, rfl, ⟨h1, h4, h5, h6⟩, ⟨w0, w1, w2, w3, w4, h2, h7⟩, fun hw => ⟨h3 (wt_field Try.underlying35 hw (j := 5) rfl rfl), h8 (wt_field Try.underlying35 hw (j := 6) rfl rfl)⟩⟩
theorem open_rec {base : Nat} {v : Value} {d : DataW H} {ps : List MemPlace}
    (hok : Value.okWide Try.prog W .any base 35 v) (h : DataW.Trod enc Try.prog W 0 (fun _ => true) true 35 v d ps) : ∃ r, IsRec W v r ∧ IsRec.size r ≤ Rows.uptoBulk d ∧ (Wt Try.prog 35 d → IsRec.fits r) := by
  obtain ⟨cs, rfl, hsz⟩ := okWide_struct Try.underlying35 hok
  obtain ⟨fuel, hf⟩ := h
  obtain ⟨r, vc, vn, vh, vl, hcs, h1, h2, h4⟩ := trod_rec hf
  refine ⟨r, ⟨vc, vn, vh, vl, ?_, h1, h2⟩, Nat.zero_le _, h4⟩
  obtain ⟨q⟩ := cs
  simp only [Value.cells] at hcs
  subst hcs
  rfl
end
namespace Rc
theorem cells21 {w : World} {g : Nat} {r : RecR} {vc vn vh vl : Value} (h : w.heap[g]? = some (.cells (rArr r vc vn vh vl) 35 (0, 0))) :
    w.cell? ⟨g, 0, none⟩ = some (.int .i64 r.kind) ∧ w.cell? ⟨g, 1, none⟩ = some (.int .i64 r.vote) ∧ w.cell? ⟨g, 2, none⟩ = some (.int .u64 r.boot) ∧ w.cell? ⟨g, 3, none⟩ = some (.int .u64 r.term) ∧ w.cell? ⟨g, 4, none⟩ = some (.int .u64 r.index) ∧ w.cell? ⟨g, 5, none⟩ = some (.int .u64 r.ent.term) ∧ w.cell? ⟨g, 6, none⟩ = some (.int .i64 r.ent.cmd.kind) ∧ w.cell? ⟨g, 7, none⟩ = some (.int .i64 r.ent.cmd.node) ∧ w.cell? ⟨g, 8, none⟩ = some (.int .i64 r.ent.cmd.token) ∧ w.cell? ⟨g, 9, none⟩ = some (vc) ∧ w.cell? ⟨g, 10, none⟩ = some (.int .u64 r.ent.cmd.boot) ∧ w.cell? ⟨g, 11, none⟩ = some (.int .u64 r.ent.cmd.seq) ∧ w.cell? ⟨g, 12, none⟩ = some (.int .u64 r.ent.cmd.serial) ∧ w.cell? ⟨g, 13, none⟩ = some (.int .u64 r.ent.cmd.stamp) ∧ w.cell? ⟨g, 14, none⟩ = some (.int .u64 r.shot.index) ∧ w.cell? ⟨g, 15, none⟩ = some (.int .u64 r.shot.term) ∧ w.cell? ⟨g, 16, none⟩ = some (vn) ∧ w.cell? ⟨g, 17, none⟩ = some (.int .i64 r.shot.led.limit) ∧ w.cell? ⟨g, 18, none⟩ = some (.int .u64 r.shot.led.next) ∧ w.cell? ⟨g, 19, none⟩ = some (vh) ∧ w.cell? ⟨g, 20, none⟩ = some (vl) :=
  ⟨(cell_of_row w _ 0 _ _ _ h).trans rfl, (cell_of_row w _ 1 _ _ _ h).trans rfl, (cell_of_row w _ 2 _ _ _ h).trans rfl, (cell_of_row w _ 3 _ _ _ h).trans rfl, (cell_of_row w _ 4 _ _ _ h).trans rfl, (cell_of_row w _ 5 _ _ _ h).trans rfl, (cell_of_row w _ 6 _ _ _ h).trans rfl, (cell_of_row w _ 7 _ _ _ h).trans rfl, (cell_of_row w _ 8 _ _ _ h).trans rfl, (cell_of_row w _ 9 _ _ _ h).trans rfl, (cell_of_row w _ 10 _ _ _ h).trans rfl, (cell_of_row w _ 11 _ _ _ h).trans rfl, (cell_of_row w _ 12 _ _ _ h).trans rfl, (cell_of_row w _ 13 _ _ _ h).trans rfl, (cell_of_row w _ 14 _ _ _ h).trans rfl, (cell_of_row w _ 15 _ _ _ h).trans rfl, (cell_of_row w _ 16 _ _ _ h).trans rfl, (cell_of_row w _ 17 _ _ _ h).trans rfl, (cell_of_row w _ 18 _ _ _ h).trans rfl, (cell_of_row w _ 19 _ _ _ h).trans rfl, (cell_of_row w _ 20 _ _ _ h).trans rfl⟩
theorem rArr_one (r : RecR) (a b c d : Option Addr) (i j k m p q x y : Nat) : (rArr r (.slice a i j) (.slice b k m) (.slice c p q) (.slice d x y)).all (·.oneCell') = true := by simp [Value.oneCell']
def zEntV : Ent := ⟨0, ⟨0, 0, 0, [], 0, 0, 0, 0⟩⟩
def zShoV : Sho := ⟨0, 0, [], ⟨0, 0, [], []⟩⟩
def unusedR (r : RecR) : RecR :=
  if r.kind = 1 then { r with boot := 0 } else if r.kind = 2 then { r with term := 0, vote := 0 } else if r.kind = 3 then { r with index := 0, ent := zEntV } else if r.kind = 4 then { r with index := 0 } else if r.kind = 5 then { r with shot := zShoV } else r
theorem there_row {w : World} {g : Nat} {cs : Array Value} {t : TypeId} (h : w.heap[g]? = some (.cells cs t (0, 0))) (o n : Nat) (hn : o + n ≤ cs.size) : w.there g o n := by
  intro j hj
  refine ⟨?_, La.frozen_of h⟩
  rw [cell_of_row w g (o + j) _ _ _ h, Array.getElem?_eq_getElem (by omega)]
  rfl
def setsA : Array Value → Nat → List Value → Array Value
  | cs, _, [] => cs
  | cs, o, v :: r => setsA (cs.setIfInBounds o v) (o + 1) r
theorem heap_setCells (g : Nat) {t : TypeId} : ∀ (vs : List Value) (o : Nat) {w : World} {cs : Array Value}, w.heap[g]? = some (.cells cs t (0, 0)) → (w.setCells g o vs).heap[g]? = some (.cells (setsA cs o vs) t (0, 0))
  | [], _, _, _, h => h
  | v :: r, o, w, cs, h => heap_setCells g r (o + 1) (heap_setCell_same w g o _ _ v h)
theorem ent_put {w : World} {g : Nat} {r : RecR} {vc vn vh vl : Value} (h : w.heap[g]? = some (.cells (rArr r vc vn vh vl) 35 (0, 0))) : (w.setCells g 5 [.int .u64 0, .int .i64 0, .int .i64 0, .int .i64 0, .slice none 0 0, .int .u64 0, .int .u64 0, .int .u64 0, .int .u64 0]).heap[g]? = some (.cells (rArr { r with ent := zEntV } (.slice none 0 0) vn vh vl) 35 (0, 0)) := by
  rw [heap_setCells g _ _ h]
  simp [setsA, zEntV]
theorem shot_put {w : World} {g : Nat} {r : RecR} {vc vn vh vl : Value} (h : w.heap[g]? = some (.cells (rArr r vc vn vh vl) 35 (0, 0))) : (w.setCells g 14 [.int .u64 0, .int .u64 0, .slice none 0 0, .int .i64 0, .int .u64 0, .slice none 0 0, .slice none 0 0]).heap[g]? = some (.cells (rArr { r with shot := zShoV } vc (.slice none 0 0) (.slice none 0 0) (.slice none 0 0)) 35 (0, 0)) := by
  rw [heap_setCells g _ _ h]
  simp [setsA, zShoV]
theorem zEnt_wf : zEntV.wf := ⟨by decide, by unfold Cmd.wf; decide⟩
theorem zSho_wf : zShoV.wf := ⟨by decide, by decide, by decide, by decide, by simp [zShoV], by simp [zShoV]⟩
theorem setCells_other (g q : Nat) : ∀ (vs : List Value) (o : Nat) {w : World}, q ≠ g → (w.setCells g o vs).heap[q]? = w.heap[q]?
  | [], _, _, _ => rfl
  | v :: r, o, w, h => (setCells_other g q r (o + 1) h).trans (heap_setCell_other _ _ _ _ (by show q ≠ g; exact h))
theorem setCells_below (p : Nat) {g : Nat} (hg : p ≤ g) : ∀ (vs : List Value) (o : Nat) (w : World), Below p w (w.setCells g o vs)
  | [], _, _ => Below.refl _ _
  | v :: r, o, w => ((Below.refl _ _).setCell hg _).trans (setCells_below p hg r (o + 1) _)
def GivesRec (r : RecR) (w : World) (e : Ending) (w' : World) : Prop := ∃ v, e = .returned v ∧ IsRec w' v r ∧ Below w.heap.size w w'
/-- the two boxes at the beginning -/
theorem boxR (w : World) (cs : Array Value) : ∃ W, (w.alloc (.cells cs 35)).alloc (.cells zR 35) = W ∧ Below w.heap.size w W ∧ W.heap.size = w.heap.size + 2 ∧ W.heap[w.heap.size]? = some (.cells cs 35 (0, 0)) ∧ W.heap[w.heap.size + 1]? = some (.cells zR 35 (0, 0)) :=
  ⟨_, rfl, ((Below.refl _ _).alloc (Nat.le_refl _) _).alloc (by simp) _, by simp, (heap_alloc_old _ _ (by simp)).trans (heap_alloc_new _ _), La.new2 _ _ _⟩
set_option maxHeartbeats 4000000 in
theorem unused_any (r : RecR) (v : Value) (w : World) (h : IsRec w v r) : Calls Try.prog 29 #[v] w (GivesRec (unusedR r) w) := by
  obtain ⟨vc, vn, vh, vl, rfl, ⟨hc, hn, hh, hl⟩, hwf⟩ := id h
  obtain ⟨a1, b1, rfl, -⟩ := id hc
  obtain ⟨a2, b2, rfl, -⟩ := id hn
  obtain ⟨a3, b3, rfl, -⟩ := id hh
  obtain ⟨a4, b4, rfl, -⟩ := id hl
  obtain ⟨W1, hW1, hb1, hz1, hA1, hB1⟩ := boxR w (rArr r (.slice a1 r.ent.cmd.nodes.length b1) (.slice a2 r.shot.nodes.length b2) (.slice a3 r.shot.led.held.length b3) (.slice a4 r.shot.led.last.length b4))
  have HL := Lib.hid (⟨hc, hn, hh, hl⟩ : RecL w r (.slice a1 r.ent.cmd.nodes.length b1) (.slice a2 r.shot.nodes.length b2) (.slice a3 r.shot.led.held.length b3) (.slice a4 r.shot.led.last.length b4))
  have HWF := Lib.hid hwf
  have HB1 := Lib.hid hb1
  have HA1 := Lib.hid hA1
  have HR1 := Lib.hid hB1
  have q0 := (cells21 hA1).1
  clear h hc hn hh hl hwf hb1 hz1 hA1 hB1
  by_cases hk1 : r.kind = 1
  · have HK := Lib.hid hk1
    have n1 : (r.kind == 1) = true := beq_iff_eq.2 hk1
    have c2 := (cell_of_row W1 _ 2 _ _ _ HA1.out).trans rfl
    have f2 := La.frozen_of (o := 2) HA1.out
    clear hk1
    obtain ⟨W2, hW2⟩ : ∃ q, W1.setCell ⟨w.heap.size, 2, none⟩ (.int .u64 0) = q := ⟨_, rfl⟩
    have hAW2 : W2.heap[w.heap.size]? = some (.cells (rArr { r with boot := 0 } (.slice a1 r.ent.cmd.nodes.length b1) (.slice a2 r.shot.nodes.length b2) (.slice a3 r.shot.led.held.length b3) (.slice a4 r.shot.led.last.length b4)) 35 (0, 0)) := by rw [← hW2, heap_setCell_same W1 w.heap.size 2 _ _ _ HA1.out]; rfl
    have hEW2 : W2.heap[w.heap.size + 1]? = some (.cells zR 35 (0, 0)) := by rw [← hW2]; exact (heap_setCell_other _ _ _ _ (by show w.heap.size + 1 ≠ w.heap.size; omega)).trans HR1.out
    have hbW2 : Below w.heap.size w W2 := by rw [← hW2]; exact HB1.out.setCell (Nat.le_refl _) _
    have hA2 := hAW2
    have hB2 := hEW2
    have hb2 := hbW2
    clear hAW2 hEW2 hbW2
    have HA2 : Hid (W2.heap[w.heap.size]? = some (.cells (rArr { r with boot := 0 } (.slice a1 r.ent.cmd.nodes.length b1) (.slice a2 r.shot.nodes.length b2) (.slice a3 r.shot.led.held.length b3) (.slice a4 r.shot.led.last.length b4)) 35 (0, 0))) := Lib.hid hA2
    have HR2 : Hid (W2.heap[w.heap.size + 1]? = some (.cells zR 35 (0, 0))) := Lib.hid hB2
    have HFIN : Hid (GivesRec (unusedR r) w (.returned (.agg (rArr { r with boot := 0 } (.slice a1 r.ent.cmd.nodes.length b1) (.slice a2 r.shot.nodes.length b2) (.slice a3 r.shot.led.held.length b3) (.slice a4 r.shot.led.last.length b4)))) (W2.setRow (w.heap.size + 1) (rArr { r with boot := 0 } (.slice a1 r.ent.cmd.nodes.length b1) (.slice a2 r.shot.nodes.length b2) (.slice a3 r.shot.led.held.length b3) (.slice a4 r.shot.led.last.length b4)))) := Lib.hid (by
      have hb3 := Ld.below_row hb2 (show w.heap.size ≤ w.heap.size + 1 by omega) (rArr { r with boot := 0 } (.slice a1 r.ent.cmd.nodes.length b1) (.slice a2 r.shot.nodes.length b2) (.slice a3 r.shot.led.held.length b3) (.slice a4 r.shot.led.last.length b4))
      have he : unusedR r = { r with boot := 0 } := by unfold unusedR; rw [if_pos HK.out]
      rw [he]
      exact ⟨_, rfl, ⟨_, _, _, _, rfl, ⟨HL.out.1.below hb3 (Nat.le_refl _), HL.out.2.1.below hb3 (Nat.le_refl _), HL.out.2.2.1.below hb3 (Nat.le_refl _), HL.out.2.2.2.below hb3 (Nat.le_refl _)⟩, ⟨HWF.out.1, HWF.out.2.1, (show (Lit.int .u64 0).wf = true by decide), HWF.out.2.2.2.1, HWF.out.2.2.2.2.1, HWF.out.2.2.2.2.2.1, HWF.out.2.2.2.2.2.2⟩⟩, hb3⟩)
    clear hA2 hB2 hb2
    go_enter Try.func29, Try.ntmps29
    go_wp2_with (first
      | (with_reducible refine wpList_load_row rfl 35 (.tmp 1) rfl w.heap.size rfl 35 (rArr { r with boot := 0 } (.slice a1 r.ent.cmd.nodes.length b1) (.slice a2 r.shot.nodes.length b2) (.slice a3 r.shot.led.held.length b3) (.slice a4 r.shot.led.last.length b4)) (0, 0) _ HA2.out Try.underlying35 rfl (by kernel_rfl) ?_)
      | (with_reducible refine wpList_store_row rfl 35 (.tmp 2) (.tmp 24) rfl (w.heap.size + 1) (rArr { r with boot := 0 } (.slice a1 r.ent.cmd.nodes.length b1) (.slice a2 r.shot.nodes.length b2) (.slice a3 r.shot.led.held.length b3) (.slice a4 r.shot.led.last.length b4)) rfl rfl 35 _ HR2.out (by kernel_rfl) rfl (rArr_one _ _ _ _ _ _ _ _ _ _ _ _ _) ?_))
    exact bodyPost_ret (v := .agg (rArr { r with boot := 0 } (.slice a1 r.ent.cmd.nodes.length b1) (.slice a2 r.shot.nodes.length b2) (.slice a3 r.shot.led.held.length b3) (.slice a4 r.shot.led.last.length b4))) (results_cell_row rfl _ _ (w.heap.size + 1) 35 _ (0, 0) _ rfl (setRow_heap _ _ _ _ _ _ HR2.out) Try.underlying35 rfl (by kernel_rfl)) rfl HFIN.out
  by_cases hk2 : r.kind = 2
  · have HK := Lib.hid hk2
    have n1 : (r.kind == 1) = false := beq_eq_false_iff_ne.2 (by omega)
    have n2 : (r.kind == 2) = true := beq_iff_eq.2 hk2
    have c3 := (cell_of_row W1 _ 3 _ _ _ HA1.out).trans rfl
    have f3 := La.frozen_of (o := 3) HA1.out
    have HN1 := Lib.hid hk1
    clear hk1 hk2
    obtain ⟨W2, hW2⟩ : ∃ q, W1.setCell ⟨w.heap.size, 3, none⟩ (.int .u64 0) = q := ⟨_, rfl⟩
    have hAW2 : W2.heap[w.heap.size]? = some (.cells (rArr { r with term := 0 } (.slice a1 r.ent.cmd.nodes.length b1) (.slice a2 r.shot.nodes.length b2) (.slice a3 r.shot.led.held.length b3) (.slice a4 r.shot.led.last.length b4)) 35 (0, 0)) := by rw [← hW2, heap_setCell_same W1 w.heap.size 3 _ _ _ HA1.out]; rfl
    have hEW2 : W2.heap[w.heap.size + 1]? = some (.cells zR 35 (0, 0)) := by rw [← hW2]; exact (heap_setCell_other _ _ _ _ (by show w.heap.size + 1 ≠ w.heap.size; omega)).trans HR1.out
    have hbW2 : Below w.heap.size w W2 := by rw [← hW2]; exact HB1.out.setCell (Nat.le_refl _) _
    have c1b := (cell_of_row W2 _ 1 _ _ _ hAW2).trans rfl
    have f1b := La.frozen_of (o := 1) hAW2
    obtain ⟨W3, hW3⟩ : ∃ q, W2.setCell ⟨w.heap.size, 1, none⟩ (.int .i64 0) = q := ⟨_, rfl⟩
    have hAW3 : W3.heap[w.heap.size]? = some (.cells (rArr { r with term := 0, vote := 0 } (.slice a1 r.ent.cmd.nodes.length b1) (.slice a2 r.shot.nodes.length b2) (.slice a3 r.shot.led.held.length b3) (.slice a4 r.shot.led.last.length b4)) 35 (0, 0)) := by rw [← hW3, heap_setCell_same W2 w.heap.size 1 _ _ _ hAW2]; rfl
    have hEW3 : W3.heap[w.heap.size + 1]? = some (.cells zR 35 (0, 0)) := by rw [← hW3]; exact (heap_setCell_other _ _ _ _ (by show w.heap.size + 1 ≠ w.heap.size; omega)).trans hEW2
    have hbW3 : Below w.heap.size w W3 := by rw [← hW3]; exact hbW2.setCell (Nat.le_refl _) _
    have hA2 := hAW3
    have hB2 := hEW3
    have hb2 := hbW3
    clear hAW3 hEW3 hbW3
    clear hAW2 hEW2 hbW2
    have HA2 : Hid (W3.heap[w.heap.size]? = some (.cells (rArr { r with term := 0, vote := 0 } (.slice a1 r.ent.cmd.nodes.length b1) (.slice a2 r.shot.nodes.length b2) (.slice a3 r.shot.led.held.length b3) (.slice a4 r.shot.led.last.length b4)) 35 (0, 0))) := Lib.hid hA2
    have HR2 : Hid (W3.heap[w.heap.size + 1]? = some (.cells zR 35 (0, 0))) := Lib.hid hB2
    have HFIN : Hid (GivesRec (unusedR r) w (.returned (.agg (rArr { r with term := 0, vote := 0 } (.slice a1 r.ent.cmd.nodes.length b1) (.slice a2 r.shot.nodes.length b2) (.slice a3 r.shot.led.held.length b3) (.slice a4 r.shot.led.last.length b4)))) (W3.setRow (w.heap.size + 1) (rArr { r with term := 0, vote := 0 } (.slice a1 r.ent.cmd.nodes.length b1) (.slice a2 r.shot.nodes.length b2) (.slice a3 r.shot.led.held.length b3) (.slice a4 r.shot.led.last.length b4)))) := Lib.hid (by
      have hb3 := Ld.below_row hb2 (show w.heap.size ≤ w.heap.size + 1 by omega) (rArr { r with term := 0, vote := 0 } (.slice a1 r.ent.cmd.nodes.length b1) (.slice a2 r.shot.nodes.length b2) (.slice a3 r.shot.led.held.length b3) (.slice a4 r.shot.led.last.length b4))
      have he : unusedR r = { r with term := 0, vote := 0 } := by unfold unusedR; rw [if_neg HN1.out]; rw [if_pos HK.out]
      rw [he]
      exact ⟨_, rfl, ⟨_, _, _, _, rfl, ⟨HL.out.1.below hb3 (Nat.le_refl _), HL.out.2.1.below hb3 (Nat.le_refl _), HL.out.2.2.1.below hb3 (Nat.le_refl _), HL.out.2.2.2.below hb3 (Nat.le_refl _)⟩, ⟨HWF.out.1, (show (Lit.int .i64 0).wf = true by decide), HWF.out.2.2.1, (show (Lit.int .u64 0).wf = true by decide), HWF.out.2.2.2.2.1, HWF.out.2.2.2.2.2.1, HWF.out.2.2.2.2.2.2⟩⟩, hb3⟩)
    clear hA2 hB2 hb2
    go_enter Try.func29, Try.ntmps29
    go_wp2_with (first
      | (with_reducible refine wpList_load_row rfl 35 (.tmp 1) rfl w.heap.size rfl 35 (rArr { r with term := 0, vote := 0 } (.slice a1 r.ent.cmd.nodes.length b1) (.slice a2 r.shot.nodes.length b2) (.slice a3 r.shot.led.held.length b3) (.slice a4 r.shot.led.last.length b4)) (0, 0) _ HA2.out Try.underlying35 rfl (by kernel_rfl) ?_)
      | (with_reducible refine wpList_store_row rfl 35 (.tmp 2) (.tmp 24) rfl (w.heap.size + 1) (rArr { r with term := 0, vote := 0 } (.slice a1 r.ent.cmd.nodes.length b1) (.slice a2 r.shot.nodes.length b2) (.slice a3 r.shot.led.held.length b3) (.slice a4 r.shot.led.last.length b4)) rfl rfl 35 _ HR2.out (by kernel_rfl) rfl (rArr_one _ _ _ _ _ _ _ _ _ _ _ _ _) ?_))
    exact bodyPost_ret (v := .agg (rArr { r with term := 0, vote := 0 } (.slice a1 r.ent.cmd.nodes.length b1) (.slice a2 r.shot.nodes.length b2) (.slice a3 r.shot.led.held.length b3) (.slice a4 r.shot.led.last.length b4))) (results_cell_row rfl _ _ (w.heap.size + 1) 35 _ (0, 0) _ rfl (setRow_heap _ _ _ _ _ _ HR2.out) Try.underlying35 rfl (by kernel_rfl)) rfl HFIN.out
  by_cases hk3 : r.kind = 3
  · have HK := Lib.hid hk3
    have n1 : (r.kind == 1) = false := beq_eq_false_iff_ne.2 (by omega)
    have n2 : (r.kind == 2) = false := beq_eq_false_iff_ne.2 (by omega)
    have n3 : (r.kind == 3) = true := beq_iff_eq.2 hk3
    have c4 := (cell_of_row W1 _ 4 _ _ _ HA1.out).trans rfl
    have f4 := La.frozen_of (o := 4) HA1.out
    have HN1 := Lib.hid hk1
    have HN2 := Lib.hid hk2
    clear hk1 hk2 hk3
    obtain ⟨W2, hW2⟩ : ∃ q, W1.setCell ⟨w.heap.size, 4, none⟩ (.int .u64 0) = q := ⟨_, rfl⟩
    have hAW2 : W2.heap[w.heap.size]? = some (.cells (rArr { r with index := 0 } (.slice a1 r.ent.cmd.nodes.length b1) (.slice a2 r.shot.nodes.length b2) (.slice a3 r.shot.led.held.length b3) (.slice a4 r.shot.led.last.length b4)) 35 (0, 0)) := by rw [← hW2, heap_setCell_same W1 w.heap.size 4 _ _ _ HA1.out]; rfl
    have hEW2 : W2.heap[w.heap.size + 1]? = some (.cells zR 35 (0, 0)) := by rw [← hW2]; exact (heap_setCell_other _ _ _ _ (by show w.heap.size + 1 ≠ w.heap.size; omega)).trans HR1.out
    have hbW2 : Below w.heap.size w W2 := by rw [← hW2]; exact HB1.out.setCell (Nat.le_refl _) _
    have hth : W2.there w.heap.size 5 9 := there_row hAW2 5 9 (by simp)
    obtain ⟨W3, hW3⟩ : ∃ q, W2.setCells w.heap.size 5 [.int .u64 0, .int .i64 0, .int .i64 0, .int .i64 0, .slice none 0 0, .int .u64 0, .int .u64 0, .int .u64 0, .int .u64 0] = q := ⟨_, rfl⟩
    have hAW3 : W3.heap[w.heap.size]? = some (.cells (rArr { r with index := 0, ent := zEntV } (.slice none 0 0) (.slice a2 r.shot.nodes.length b2) (.slice a3 r.shot.led.held.length b3) (.slice a4 r.shot.led.last.length b4)) 35 (0, 0)) := by rw [← hW3]; exact ent_put hAW2
    have hEW3 : W3.heap[w.heap.size + 1]? = some (.cells zR 35 (0, 0)) := by rw [← hW3]; exact (setCells_other _ _ _ _ (by omega)).trans hEW2
    have hbW3 : Below w.heap.size w W3 := by rw [← hW3]; exact hbW2.trans (setCells_below _ (Nat.le_refl _) _ _ _)
    have hA2 := hAW3
    have hB2 := hEW3
    have hb2 := hbW3
    clear hAW3 hEW3 hbW3
    clear hAW2 hEW2 hbW2
    have HA2 : Hid (W3.heap[w.heap.size]? = some (.cells (rArr { r with index := 0, ent := zEntV } (.slice none 0 0) (.slice a2 r.shot.nodes.length b2) (.slice a3 r.shot.led.held.length b3) (.slice a4 r.shot.led.last.length b4)) 35 (0, 0))) := Lib.hid hA2
    have HR2 : Hid (W3.heap[w.heap.size + 1]? = some (.cells zR 35 (0, 0))) := Lib.hid hB2
    have HFIN : Hid (GivesRec (unusedR r) w (.returned (.agg (rArr { r with index := 0, ent := zEntV } (.slice none 0 0) (.slice a2 r.shot.nodes.length b2) (.slice a3 r.shot.led.held.length b3) (.slice a4 r.shot.led.last.length b4)))) (W3.setRow (w.heap.size + 1) (rArr { r with index := 0, ent := zEntV } (.slice none 0 0) (.slice a2 r.shot.nodes.length b2) (.slice a3 r.shot.led.held.length b3) (.slice a4 r.shot.led.last.length b4)))) := Lib.hid (by
      have hb3 := Ld.below_row hb2 (show w.heap.size ≤ w.heap.size + 1 by omega) (rArr { r with index := 0, ent := zEntV } (.slice none 0 0) (.slice a2 r.shot.nodes.length b2) (.slice a3 r.shot.led.held.length b3) (.slice a4 r.shot.led.last.length b4))
      have he : unusedR r = { r with index := 0, ent := zEntV } := by unfold unusedR; rw [if_neg HN1.out]; rw [if_neg HN2.out]; rw [if_pos HK.out]
      rw [he]
      exact ⟨_, rfl, ⟨_, _, _, _, rfl, ⟨Cm.sl_nil _ _, HL.out.2.1.below hb3 (Nat.le_refl _), HL.out.2.2.1.below hb3 (Nat.le_refl _), HL.out.2.2.2.below hb3 (Nat.le_refl _)⟩, ⟨HWF.out.1, HWF.out.2.1, HWF.out.2.2.1, HWF.out.2.2.2.1, (show (Lit.int .u64 0).wf = true by decide), zEnt_wf, HWF.out.2.2.2.2.2.2⟩⟩, hb3⟩)
    clear hA2 hB2 hb2
    go_enter Try.func29, Try.ntmps29
    go_wp2_with (first
      | (refine wpList_store_mid rfl 27 (.tmp 16) (.tmp 14) rfl w.heap.size 5 #[.int .u64 0, .int .i64 0, .int .i64 0, .int .i64 0, .slice none 0 0, .int .u64 0, .int .u64 0, .int .u64 0, .int .u64 0] rfl rfl hth (by kernel_rfl) (by simp [Value.oneCell']) ?_; rw [hW3]; clear hW3 hth)
      | (with_reducible refine wpList_load_row rfl 35 (.tmp 1) rfl w.heap.size rfl 35 (rArr { r with index := 0, ent := zEntV } (.slice none 0 0) (.slice a2 r.shot.nodes.length b2) (.slice a3 r.shot.led.held.length b3) (.slice a4 r.shot.led.last.length b4)) (0, 0) _ HA2.out Try.underlying35 rfl (by kernel_rfl) ?_)
      | (with_reducible refine wpList_store_row rfl 35 (.tmp 2) (.tmp 24) rfl (w.heap.size + 1) (rArr { r with index := 0, ent := zEntV } (.slice none 0 0) (.slice a2 r.shot.nodes.length b2) (.slice a3 r.shot.led.held.length b3) (.slice a4 r.shot.led.last.length b4)) rfl rfl 35 _ HR2.out (by kernel_rfl) rfl (rArr_one _ _ _ _ _ _ _ _ _ _ _ _ _) ?_))
    exact bodyPost_ret (v := .agg (rArr { r with index := 0, ent := zEntV } (.slice none 0 0) (.slice a2 r.shot.nodes.length b2) (.slice a3 r.shot.led.held.length b3) (.slice a4 r.shot.led.last.length b4))) (results_cell_row rfl _ _ (w.heap.size + 1) 35 _ (0, 0) _ rfl (setRow_heap _ _ _ _ _ _ HR2.out) Try.underlying35 rfl (by kernel_rfl)) rfl HFIN.out
  by_cases hk4 : r.kind = 4
  · have HK := Lib.hid hk4
    have n1 : (r.kind == 1) = false := beq_eq_false_iff_ne.2 (by omega)
    have n2 : (r.kind == 2) = false := beq_eq_false_iff_ne.2 (by omega)
    have n3 : (r.kind == 3) = false := beq_eq_false_iff_ne.2 (by omega)
    have n4 : (r.kind == 4) = true := beq_iff_eq.2 hk4
    have c4 := (cell_of_row W1 _ 4 _ _ _ HA1.out).trans rfl
    have f4 := La.frozen_of (o := 4) HA1.out
    have HN1 := Lib.hid hk1
    have HN2 := Lib.hid hk2
    have HN3 := Lib.hid hk3
    clear hk1 hk2 hk3 hk4
    obtain ⟨W2, hW2⟩ : ∃ q, W1.setCell ⟨w.heap.size, 4, none⟩ (.int .u64 0) = q := ⟨_, rfl⟩
    have hAW2 : W2.heap[w.heap.size]? = some (.cells (rArr { r with index := 0 } (.slice a1 r.ent.cmd.nodes.length b1) (.slice a2 r.shot.nodes.length b2) (.slice a3 r.shot.led.held.length b3) (.slice a4 r.shot.led.last.length b4)) 35 (0, 0)) := by rw [← hW2, heap_setCell_same W1 w.heap.size 4 _ _ _ HA1.out]; rfl
    have hEW2 : W2.heap[w.heap.size + 1]? = some (.cells zR 35 (0, 0)) := by rw [← hW2]; exact (heap_setCell_other _ _ _ _ (by show w.heap.size + 1 ≠ w.heap.size; omega)).trans HR1.out
    have hbW2 : Below w.heap.size w W2 := by rw [← hW2]; exact HB1.out.setCell (Nat.le_refl _) _
    have hA2 := hAW2
    have hB2 := hEW2
    have hb2 := hbW2
    clear hAW2 hEW2 hbW2
    have HA2 : Hid (W2.heap[w.heap.size]? = some (.cells (rArr { r with index := 0 } (.slice a1 r.ent.cmd.nodes.length b1) (.slice a2 r.shot.nodes.length b2) (.slice a3 r.shot.led.held.length b3) (.slice a4 r.shot.led.last.length b4)) 35 (0, 0))) := Lib.hid hA2
    have HR2 : Hid (W2.heap[w.heap.size + 1]? = some (.cells zR 35 (0, 0))) := Lib.hid hB2
    have HFIN : Hid (GivesRec (unusedR r) w (.returned (.agg (rArr { r with index := 0 } (.slice a1 r.ent.cmd.nodes.length b1) (.slice a2 r.shot.nodes.length b2) (.slice a3 r.shot.led.held.length b3) (.slice a4 r.shot.led.last.length b4)))) (W2.setRow (w.heap.size + 1) (rArr { r with index := 0 } (.slice a1 r.ent.cmd.nodes.length b1) (.slice a2 r.shot.nodes.length b2) (.slice a3 r.shot.led.held.length b3) (.slice a4 r.shot.led.last.length b4)))) := Lib.hid (by
      have hb3 := Ld.below_row hb2 (show w.heap.size ≤ w.heap.size + 1 by omega) (rArr { r with index := 0 } (.slice a1 r.ent.cmd.nodes.length b1) (.slice a2 r.shot.nodes.length b2) (.slice a3 r.shot.led.held.length b3) (.slice a4 r.shot.led.last.length b4))
      have he : unusedR r = { r with index := 0 } := by unfold unusedR; rw [if_neg HN1.out]; rw [if_neg HN2.out]; rw [if_neg HN3.out]; rw [if_pos HK.out]
      rw [he]
      exact ⟨_, rfl, ⟨_, _, _, _, rfl, ⟨HL.out.1.below hb3 (Nat.le_refl _), HL.out.2.1.below hb3 (Nat.le_refl _), HL.out.2.2.1.below hb3 (Nat.le_refl _), HL.out.2.2.2.below hb3 (Nat.le_refl _)⟩, ⟨HWF.out.1, HWF.out.2.1, HWF.out.2.2.1, HWF.out.2.2.2.1, (show (Lit.int .u64 0).wf = true by decide), HWF.out.2.2.2.2.2.1, HWF.out.2.2.2.2.2.2⟩⟩, hb3⟩)
    clear hA2 hB2 hb2
    go_enter Try.func29, Try.ntmps29
    go_wp2_with (first
      | (with_reducible refine wpList_load_row rfl 35 (.tmp 1) rfl w.heap.size rfl 35 (rArr { r with index := 0 } (.slice a1 r.ent.cmd.nodes.length b1) (.slice a2 r.shot.nodes.length b2) (.slice a3 r.shot.led.held.length b3) (.slice a4 r.shot.led.last.length b4)) (0, 0) _ HA2.out Try.underlying35 rfl (by kernel_rfl) ?_)
      | (with_reducible refine wpList_store_row rfl 35 (.tmp 2) (.tmp 24) rfl (w.heap.size + 1) (rArr { r with index := 0 } (.slice a1 r.ent.cmd.nodes.length b1) (.slice a2 r.shot.nodes.length b2) (.slice a3 r.shot.led.held.length b3) (.slice a4 r.shot.led.last.length b4)) rfl rfl 35 _ HR2.out (by kernel_rfl) rfl (rArr_one _ _ _ _ _ _ _ _ _ _ _ _ _) ?_))
    exact bodyPost_ret (v := .agg (rArr { r with index := 0 } (.slice a1 r.ent.cmd.nodes.length b1) (.slice a2 r.shot.nodes.length b2) (.slice a3 r.shot.led.held.length b3) (.slice a4 r.shot.led.last.length b4))) (results_cell_row rfl _ _ (w.heap.size + 1) 35 _ (0, 0) _ rfl (setRow_heap _ _ _ _ _ _ HR2.out) Try.underlying35 rfl (by kernel_rfl)) rfl HFIN.out
  by_cases hk5 : r.kind = 5
  · have HK := Lib.hid hk5
    have n1 : (r.kind == 1) = false := beq_eq_false_iff_ne.2 (by omega)
    have n2 : (r.kind == 2) = false := beq_eq_false_iff_ne.2 (by omega)
    have n3 : (r.kind == 3) = false := beq_eq_false_iff_ne.2 (by omega)
    have n4 : (r.kind == 4) = false := beq_eq_false_iff_ne.2 (by omega)
    have n5 : (r.kind == 5) = true := beq_iff_eq.2 hk5
    have HN1 := Lib.hid hk1
    have HN2 := Lib.hid hk2
    have HN3 := Lib.hid hk3
    have HN4 := Lib.hid hk4
    clear hk1 hk2 hk3 hk4 hk5
    have hth : W1.there w.heap.size 14 7 := there_row HA1.out 14 7 (by simp)
    obtain ⟨W3, hW3⟩ : ∃ q, W1.setCells w.heap.size 14 [.int .u64 0, .int .u64 0, .slice none 0 0, .int .i64 0, .int .u64 0, .slice none 0 0, .slice none 0 0] = q := ⟨_, rfl⟩
    have hAW3 : W3.heap[w.heap.size]? = some (.cells (rArr { r with shot := zShoV } (.slice a1 r.ent.cmd.nodes.length b1) (.slice none 0 0) (.slice none 0 0) (.slice none 0 0)) 35 (0, 0)) := by rw [← hW3]; exact shot_put HA1.out
    have hEW3 : W3.heap[w.heap.size + 1]? = some (.cells zR 35 (0, 0)) := by rw [← hW3]; exact (setCells_other _ _ _ _ (by omega)).trans HR1.out
    have hbW3 : Below w.heap.size w W3 := by rw [← hW3]; exact HB1.out.trans (setCells_below _ (Nat.le_refl _) _ _ _)
    have hA2 := hAW3
    have hB2 := hEW3
    have hb2 := hbW3
    clear hAW3 hEW3 hbW3
    have HA2 : Hid (W3.heap[w.heap.size]? = some (.cells (rArr { r with shot := zShoV } (.slice a1 r.ent.cmd.nodes.length b1) (.slice none 0 0) (.slice none 0 0) (.slice none 0 0)) 35 (0, 0))) := Lib.hid hA2
    have HR2 : Hid (W3.heap[w.heap.size + 1]? = some (.cells zR 35 (0, 0))) := Lib.hid hB2
    have HFIN : Hid (GivesRec (unusedR r) w (.returned (.agg (rArr { r with shot := zShoV } (.slice a1 r.ent.cmd.nodes.length b1) (.slice none 0 0) (.slice none 0 0) (.slice none 0 0)))) (W3.setRow (w.heap.size + 1) (rArr { r with shot := zShoV } (.slice a1 r.ent.cmd.nodes.length b1) (.slice none 0 0) (.slice none 0 0) (.slice none 0 0)))) := Lib.hid (by
      have hb3 := Ld.below_row hb2 (show w.heap.size ≤ w.heap.size + 1 by omega) (rArr { r with shot := zShoV } (.slice a1 r.ent.cmd.nodes.length b1) (.slice none 0 0) (.slice none 0 0) (.slice none 0 0))
      have he : unusedR r = { r with shot := zShoV } := by unfold unusedR; rw [if_neg HN1.out]; rw [if_neg HN2.out]; rw [if_neg HN3.out]; rw [if_neg HN4.out]; rw [if_pos HK.out]
      rw [he]
      exact ⟨_, rfl, ⟨_, _, _, _, rfl, ⟨HL.out.1.below hb3 (Nat.le_refl _), Cm.sl_nil _ _, SlR.nil _, SlR.nil _⟩, ⟨HWF.out.1, HWF.out.2.1, HWF.out.2.2.1, HWF.out.2.2.2.1, HWF.out.2.2.2.2.1, HWF.out.2.2.2.2.2.1, zSho_wf⟩⟩, hb3⟩)
    clear hA2 hB2 hb2
    go_enter Try.func29, Try.ntmps29
    go_wp2_with (first
      | (refine wpList_store_mid rfl 33 (.tmp 23) (.tmp 22) rfl w.heap.size 14 #[.int .u64 0, .int .u64 0, .slice none 0 0, .int .i64 0, .int .u64 0, .slice none 0 0, .slice none 0 0] rfl rfl hth (by kernel_rfl) (by simp [Value.oneCell']) ?_; rw [hW3]; clear hW3 hth)
      | (with_reducible refine wpList_load_row rfl 35 (.tmp 1) rfl w.heap.size rfl 35 (rArr { r with shot := zShoV } (.slice a1 r.ent.cmd.nodes.length b1) (.slice none 0 0) (.slice none 0 0) (.slice none 0 0)) (0, 0) _ HA2.out Try.underlying35 rfl (by kernel_rfl) ?_)
      | (with_reducible refine wpList_store_row rfl 35 (.tmp 2) (.tmp 24) rfl (w.heap.size + 1) (rArr { r with shot := zShoV } (.slice a1 r.ent.cmd.nodes.length b1) (.slice none 0 0) (.slice none 0 0) (.slice none 0 0)) rfl rfl 35 _ HR2.out (by kernel_rfl) rfl (rArr_one _ _ _ _ _ _ _ _ _ _ _ _ _) ?_))
    exact bodyPost_ret (v := .agg (rArr { r with shot := zShoV } (.slice a1 r.ent.cmd.nodes.length b1) (.slice none 0 0) (.slice none 0 0) (.slice none 0 0))) (results_cell_row rfl _ _ (w.heap.size + 1) 35 _ (0, 0) _ rfl (setRow_heap _ _ _ _ _ _ HR2.out) Try.underlying35 rfl (by kernel_rfl)) rfl HFIN.out
  · have n1 : (r.kind == 1) = false := beq_eq_false_iff_ne.2 (by omega)
    have n2 : (r.kind == 2) = false := beq_eq_false_iff_ne.2 (by omega)
    have n3 : (r.kind == 3) = false := beq_eq_false_iff_ne.2 (by omega)
    have n4 : (r.kind == 4) = false := beq_eq_false_iff_ne.2 (by omega)
    have n5 : (r.kind == 5) = false := beq_eq_false_iff_ne.2 (by omega)
    have HN1 := Lib.hid hk1
    have HN2 := Lib.hid hk2
    have HN3 := Lib.hid hk3
    have HN4 := Lib.hid hk4
    have HN5 := Lib.hid hk5
    clear hk1 hk2 hk3 hk4 hk5
    have hA2 := HA1.out
    have hB2 := HR1.out
    have hb2 := HB1.out
    have HA2 : Hid (W1.heap[w.heap.size]? = some (.cells (rArr r (.slice a1 r.ent.cmd.nodes.length b1) (.slice a2 r.shot.nodes.length b2) (.slice a3 r.shot.led.held.length b3) (.slice a4 r.shot.led.last.length b4)) 35 (0, 0))) := Lib.hid hA2
    have HR2 : Hid (W1.heap[w.heap.size + 1]? = some (.cells zR 35 (0, 0))) := Lib.hid hB2
    have HFIN : Hid (GivesRec (unusedR r) w (.returned (.agg (rArr r (.slice a1 r.ent.cmd.nodes.length b1) (.slice a2 r.shot.nodes.length b2) (.slice a3 r.shot.led.held.length b3) (.slice a4 r.shot.led.last.length b4)))) (W1.setRow (w.heap.size + 1) (rArr r (.slice a1 r.ent.cmd.nodes.length b1) (.slice a2 r.shot.nodes.length b2) (.slice a3 r.shot.led.held.length b3) (.slice a4 r.shot.led.last.length b4)))) := Lib.hid (by
      have hb3 := Ld.below_row hb2 (show w.heap.size ≤ w.heap.size + 1 by omega) (rArr r (.slice a1 r.ent.cmd.nodes.length b1) (.slice a2 r.shot.nodes.length b2) (.slice a3 r.shot.led.held.length b3) (.slice a4 r.shot.led.last.length b4))
      have he : unusedR r = r := by unfold unusedR; rw [if_neg HN1.out]; rw [if_neg HN2.out]; rw [if_neg HN3.out]; rw [if_neg HN4.out]; rw [if_neg HN5.out]
      rw [he]
      exact ⟨_, rfl, ⟨_, _, _, _, rfl, ⟨HL.out.1.below hb3 (Nat.le_refl _), HL.out.2.1.below hb3 (Nat.le_refl _), HL.out.2.2.1.below hb3 (Nat.le_refl _), HL.out.2.2.2.below hb3 (Nat.le_refl _)⟩, ⟨HWF.out.1, HWF.out.2.1, HWF.out.2.2.1, HWF.out.2.2.2.1, HWF.out.2.2.2.2.1, HWF.out.2.2.2.2.2.1, HWF.out.2.2.2.2.2.2⟩⟩, hb3⟩)
    clear hA2 hB2 hb2
    go_enter Try.func29, Try.ntmps29
    go_wp2_with (first
      | (with_reducible refine wpList_load_row rfl 35 (.tmp 1) rfl w.heap.size rfl 35 (rArr r (.slice a1 r.ent.cmd.nodes.length b1) (.slice a2 r.shot.nodes.length b2) (.slice a3 r.shot.led.held.length b3) (.slice a4 r.shot.led.last.length b4)) (0, 0) _ HA2.out Try.underlying35 rfl (by kernel_rfl) ?_)
      | (with_reducible refine wpList_store_row rfl 35 (.tmp 2) (.tmp 24) rfl (w.heap.size + 1) (rArr r (.slice a1 r.ent.cmd.nodes.length b1) (.slice a2 r.shot.nodes.length b2) (.slice a3 r.shot.led.held.length b3) (.slice a4 r.shot.led.last.length b4)) rfl rfl 35 _ HR2.out (by kernel_rfl) rfl (rArr_one _ _ _ _ _ _ _ _ _ _ _ _ _) ?_))
    exact bodyPost_ret (v := .agg (rArr r (.slice a1 r.ent.cmd.nodes.length b1) (.slice a2 r.shot.nodes.length b2) (.slice a3 r.shot.led.held.length b3) (.slice a4 r.shot.led.last.length b4))) (results_cell_row rfl _ _ (w.heap.size + 1) 35 _ (0, 0) _ rfl (setRow_heap _ _ _ _ _ _ HR2.out) Try.underlying35 rfl (by kernel_rfl)) rfl HFIN.out
end Rc
end Go.Proofs.Ytngnhegmealokaa
namespace Go.Proofs.Ytngnhegmealokaa
open Go.ChangeShapes Go.WideShapes Go.ChangeAt Go.RowKit Go.Deep
set_option linter.unusedVariables false
set_option maxRecDepth 100000
namespace Rc
open Nv
def usedP (r : RecR) : Prop := (r.kind = 1 ∧ 1 ≤ r.boot) ∨ (r.kind = 2 ∧ 1 ≤ r.term ∧ 0 ≤ r.vote ∧ r.vote ≤ 7) ∨ (r.kind = 3 ∧ 1 ≤ r.index ∧ Hd.fitsB r.ent = true) ∨ (r.kind = 4 ∧ 1 ≤ r.index) ∨ (r.kind = 5 ∧ Sh.shotOk r.shot)
theorem ent_led {w w1 : World} {r : RecR} {vc vn vh vl : Value} (h : RecL w r vc vn vh vl) (hw : r.wf) (hb : Below w.heap.size w w1) : Hd.IsEnt w1 (.agg (entC (r.ent, vc)).toArray) r.ent ∧ IsShot w1 (.agg (sArr r.shot vn vh vl)) r.shot :=
  ⟨⟨vc, rfl, h.1.below hb (Nat.le_refl _), hw.2.2.2.2.2.1⟩, ⟨vn, vh, vl, rfl, h.2.1.below hb (Nat.le_refl _), h.2.2.1.below hb (Nat.le_refl _), h.2.2.2.below hb (Nat.le_refl _), hw.2.2.2.2.2.2⟩⟩
set_option maxHeartbeats 8000000 in
theorem used_any (r : RecR) (v : Value) (w : World) (h : IsRec w v r) : Calls Try.prog 32 #[v] w (Tells (usedP r) w) := by
  obtain ⟨vc, vn, vh, vl, rfl, ⟨hc, hn, hh, hl⟩, hwf⟩ := id h
  obtain ⟨a1, b1, rfl, -⟩ := id hc
  obtain ⟨a2, b2, rfl, -⟩ := id hn
  obtain ⟨a3, b3, rfl, -⟩ := id hh
  obtain ⟨a4, b4, rfl, -⟩ := id hl
  have hb0 : Below w.heap.size w (w.alloc (.cells (rArr r (.slice a1 r.ent.cmd.nodes.length b1) (.slice a2 r.shot.nodes.length b2) (.slice a3 r.shot.led.held.length b3) (.slice a4 r.shot.led.last.length b4)) 35)) := (Below.refl _ _).alloc (Nat.le_refl _) _
  obtain ⟨he, hs⟩ := ent_led ⟨hc, hn, hh, hl⟩ hwf hb0
  have HB := Lib.hid hb0
  have HE := Lib.hid he
  have HS := Lib.hid hs
  have hw2 := bounds_u64 hwf.2.2.1
  have hw3 := bounds_u64 hwf.2.2.2.1
  have hw4 := bounds_u64 hwf.2.2.2.2.1
  obtain ⟨c0, c1, c2, c3, c4, c5, c6, c7, c8, c9, c10, c11, c12, c13, c14, c15, c16, c17, c18, c19, c20⟩ := cells21 (heap_alloc_new w (.cells (rArr r (.slice a1 r.ent.cmd.nodes.length b1) (.slice a2 r.shot.nodes.length b2) (.slice a3 r.shot.led.held.length b3) (.slice a4 r.shot.led.last.length b4)) 35 (0, 0)))
  clear h hc hn hh hl hwf hb0 he hs
  by_cases hk1 : r.kind = 1
  · have n1 : (r.kind == 1) = true := beq_iff_eq.2 hk1
    have HK := Lib.hid hk1
    by_cases hx : 1 ≤ r.boot
    · have HX := Lib.hid (.inl ⟨HK.out, hx⟩ : usedP r)
      clear hk1
      go_enter Try.func32, Try.ntmps32
      go_wp2
      go_ret
      exact tells_yes HX.out HB.out
    · have hx0 : r.boot = 0 := by omega
      have HX : Hid (¬ usedP r) := Lib.hid (by unfold usedP; omega)
      have hx1 : r.boot < 1 := by omega
      clear hk1 hx
      go_enter Try.func32, Try.ntmps32
      go_wp2
      go_ret
      exact tells_no HX.out HB.out
  by_cases hk2 : r.kind = 2
  · have n1 : (r.kind == 1) = false := beq_eq_false_iff_ne.2 (by omega)
    have n2 : (r.kind == 2) = true := beq_iff_eq.2 hk2
    have HK := Lib.hid hk2
    have HN1 := Lib.hid hk1
    by_cases hx : 1 ≤ r.term
    · by_cases hv : 0 ≤ r.vote ∧ r.vote ≤ 7
      · have HX := Lib.hid (.inr (.inl ⟨HK.out, hx, hv⟩) : usedP r)
        clear hk1 hk2
        go_enter Try.func32, Try.ntmps32
        go_wp2_with fail
        refine (Hd.vote_yes _ _ hv.1 hv.2).mono ?_
        rintro e w1 ⟨rfl, rfl⟩
        go_wp2
        go_ret
        exact tells_yes HX.out HB.out
      · have HX : Hid (¬ usedP r) := Lib.hid (by unfold usedP; omega)
        have HV : Hid (r.vote < 0 ∨ 7 < r.vote) := Lib.hid (by omega)
        clear hk1 hk2 hv
        go_enter Try.func32, Try.ntmps32
        go_wp2_with fail
        refine (Hd.vote_no _ _ HV.out).mono ?_
        rintro e w1 ⟨rfl, rfl⟩
        go_wp2
        go_ret
        exact tells_no HX.out HB.out
    · have HX : Hid (¬ usedP r) := Lib.hid (by unfold usedP; omega)
      have hx1 : r.term < 1 := by omega
      clear hk1 hk2 hx
      go_enter Try.func32, Try.ntmps32
      go_wp2
      go_ret
      exact tells_no HX.out HB.out
  by_cases hk3 : r.kind = 3
  · have n1 : (r.kind == 1) = false := beq_eq_false_iff_ne.2 (by omega)
    have n2 : (r.kind == 2) = false := beq_eq_false_iff_ne.2 (by omega)
    have n3 : (r.kind == 3) = true := beq_iff_eq.2 hk3
    have HK := Lib.hid hk3
    have HN1 := Lib.hid hk1
    have HN2 := Lib.hid hk2
    by_cases hx : 1 ≤ r.index
    · have HX : Hid (∀ b, b = Hd.fitsB r.ent → (b = true ↔ usedP r)) := Lib.hid (fun b hb => by
        subst hb
        unfold usedP
        constructor
        · intro g; exact .inr (.inr (.inl ⟨HK.out, hx, g⟩))
        · intro g; rcases g with g | g | g | g | g
          · omega
          · omega
          · exact g.2.2
          · omega
          · omega)
      clear hk1 hk2 hk3
      go_enter Try.func32, Try.ntmps32
      go_wp2_with fail
      refine (Hd.fits_any r.ent _ _ HE.out).mono ?_
      rintro e w1 ⟨rfl, hb1⟩
      have HF := Lib.hid (HB.out.trans (hb1.mono HB.out.size))
      clear hb1
      generalize hfb : Hd.fitsB r.ent = fb at *
      have HFB := Lib.hid hfb
      clear hfb
      go_wp2
      go_ret
      exact ⟨_, rfl, HX.out _ rfl, HF.out⟩
    · have HX : Hid (¬ usedP r) := Lib.hid (by unfold usedP; omega)
      have hx1 : r.index < 1 := by omega
      clear hk1 hk2 hk3 hx
      go_enter Try.func32, Try.ntmps32
      go_wp2
      go_ret
      exact tells_no HX.out HB.out
  by_cases hk4 : r.kind = 4
  · have n1 : (r.kind == 1) = false := beq_eq_false_iff_ne.2 (by omega)
    have n2 : (r.kind == 2) = false := beq_eq_false_iff_ne.2 (by omega)
    have n3 : (r.kind == 3) = false := beq_eq_false_iff_ne.2 (by omega)
    have n4 : (r.kind == 4) = true := beq_iff_eq.2 hk4
    have HK := Lib.hid hk4
    have HN1 := Lib.hid hk1
    have HN2 := Lib.hid hk2
    have HN3 := Lib.hid hk3
    by_cases hx : 1 ≤ r.index
    · have HX := Lib.hid (.inr (.inr (.inr (.inl ⟨HK.out, hx⟩))) : usedP r)
      clear hk1 hk2 hk3 hk4
      go_enter Try.func32, Try.ntmps32
      go_wp2
      go_ret
      exact tells_yes HX.out HB.out
    · have hx0 : r.index = 0 := by omega
      have HX : Hid (¬ usedP r) := Lib.hid (by unfold usedP; omega)
      have hx1 : r.index < 1 := by omega
      clear hk1 hk2 hk3 hk4 hx
      go_enter Try.func32, Try.ntmps32
      go_wp2
      go_ret
      exact tells_no HX.out HB.out
  by_cases hk5 : r.kind = 5
  · have n1 : (r.kind == 1) = false := beq_eq_false_iff_ne.2 (by omega)
    have n2 : (r.kind == 2) = false := beq_eq_false_iff_ne.2 (by omega)
    have n3 : (r.kind == 3) = false := beq_eq_false_iff_ne.2 (by omega)
    have n4 : (r.kind == 4) = false := beq_eq_false_iff_ne.2 (by omega)
    have n5 : (r.kind == 5) = true := beq_iff_eq.2 hk5
    have HK := Lib.hid hk5
    have HN1 := Lib.hid hk1
    have HN2 := Lib.hid hk2
    have HN3 := Lib.hid hk3
    have HN4 := Lib.hid hk4
    have HX : Hid (usedP r ↔ Sh.shotOk r.shot) := Lib.hid (by
      unfold usedP
      constructor
      · rintro (g | g | g | g | g)
        · omega
        · omega
        · omega
        · omega
        · exact g.2
      · intro g; exact .inr (.inr (.inr (.inr ⟨HK.out, g⟩))))
    clear hk1 hk2 hk3 hk4 hk5
    go_enter Try.func32, Try.ntmps32
    go_wp2_with fail
    refine (Sh.check_any r.shot _ _ HS.out).mono ?_
    rintro e w1 ⟨z, rfl, hz, hb1⟩
    have HF := Lib.hid (HB.out.trans (hb1.mono HB.out.size))
    clear hb1
    rcases hz with ⟨rfl, hok⟩ | ⟨rfl, hno⟩
    · have HO := Lib.hid hok
      clear hok
      go_wp2
      go_ret
      exact tells_yes (HX.out.2 HO.out) HF.out
    · have HO := Lib.hid hno
      clear hno
      go_wp2
      go_ret
      exact tells_no (fun g => HO.out (HX.out.1 g)) HF.out
  · have n1 : (r.kind == 1) = false := beq_eq_false_iff_ne.2 (by omega)
    have n2 : (r.kind == 2) = false := beq_eq_false_iff_ne.2 (by omega)
    have n3 : (r.kind == 3) = false := beq_eq_false_iff_ne.2 (by omega)
    have n4 : (r.kind == 4) = false := beq_eq_false_iff_ne.2 (by omega)
    have n5 : (r.kind == 5) = false := beq_eq_false_iff_ne.2 (by omega)
    have HX : Hid (¬ usedP r) := Lib.hid (by unfold usedP; omega)
    clear hk1 hk2 hk3 hk4 hk5
    go_enter Try.func32, Try.ntmps32
    go_wp2
    go_ret
    exact tells_no HX.out HB.out
end Rc
end Go.Proofs.Ytngnhegmealokaa
namespace Go.Proofs.Ytngnhegmealokaa
open Go.ChangeShapes Go.WideShapes Go.ChangeAt Go.RowKit Go.Deep
set_option linter.unusedVariables false
set_option maxRecDepth 100000
namespace Rc
open Nv
def fitsP (r : RecR) : Prop := (unusedR r).vote = 0 ∧ (unusedR r).boot = 0 ∧ (unusedR r).term = 0 ∧ (unusedR r).index = 0 ∧ zEnt (unusedR r).ent ∧ zSho (unusedR r).shot ∧ usedP r
set_option maxHeartbeats 8000000 in
theorem fits_0 (r : RecR) (v : Value) (w : World) (h : IsRec w v r)  (h0 : ¬ (unusedR r).vote = 0) : Calls Try.prog 13 #[v] w (Tells (fitsP r) w) := by
  obtain ⟨vc, vn, vh, vl, rfl, ⟨hc, hn, hh, hl⟩, hwf⟩ := id h
  obtain ⟨a1, b1, rfl, -⟩ := id hc
  obtain ⟨a2, b2, rfl, -⟩ := id hn
  obtain ⟨a3, b3, rfl, -⟩ := id hh
  obtain ⟨a4, b4, rfl, -⟩ := id hl
  have hb0 : Below w.heap.size w (w.alloc (.cells (rArr r (.slice a1 r.ent.cmd.nodes.length b1) (.slice a2 r.shot.nodes.length b2) (.slice a3 r.shot.led.held.length b3) (.slice a4 r.shot.led.last.length b4)) 35)) := (Below.refl _ _).alloc (Nat.le_refl _) _
  have HT0 : Hid ((w.alloc (.cells (rArr r (.slice a1 r.ent.cmd.nodes.length b1) (.slice a2 r.shot.nodes.length b2) (.slice a3 r.shot.led.held.length b3) (.slice a4 r.shot.led.last.length b4)) 35)).heap[w.heap.size]? = some (.cells (rArr r (.slice a1 r.ent.cmd.nodes.length b1) (.slice a2 r.shot.nodes.length b2) (.slice a3 r.shot.led.held.length b3) (.slice a4 r.shot.led.last.length b4)) 35 (0, 0))) := Lib.hid (heap_alloc_new _ _)
  have HB := Lib.hid hb0
  have HRC := Lib.hid h
  clear h hc hn hh hl hwf hb0
  go_enter Try.func13, Try.ntmps13
  go_wp2_with ((with_reducible refine wpList_load_row rfl 35 (.tmp 1) rfl w.heap.size rfl 35 (rArr r (.slice a1 r.ent.cmd.nodes.length b1) (.slice a2 r.shot.nodes.length b2) (.slice a3 r.shot.led.held.length b3) (.slice a4 r.shot.led.last.length b4)) (0, 0) _ HT0.out Try.underlying35 rfl (by kernel_rfl) ?_))
  refine (unused_any r _ _ (HRC.out.below HB.out (Nat.le_refl _))).mono ?_
  rintro e w1 ⟨uv, rfl, hu1, hb1⟩
  obtain ⟨u, hu⟩ : ∃ u, u = unusedR r := ⟨_, rfl⟩
  rw [← hu] at hu1
  rw [← hu] at h0
  obtain ⟨vc, vn, vh, vl, rfl, ⟨hc, hn, hh, hl⟩, hwf⟩ := id hu1
  obtain ⟨d1, p1, rfl, -⟩ := id hc
  obtain ⟨d2, p2, rfl, -⟩ := id hn
  obtain ⟨d3, p3, rfl, -⟩ := id hh
  obtain ⟨d4, p4, rfl, -⟩ := id hl
  have hs2 : (w1.alloc (.cells zR 35)).heap[w1.heap.size]? = some (.cells zR 35 (0, 0)) := heap_alloc_new _ _
  have hb2 : Below w1.heap.size w1 ((w1.alloc (.cells zR 35)).setRow w1.heap.size (rArr u (.slice d1 u.ent.cmd.nodes.length p1) (.slice d2 u.shot.nodes.length p2) (.slice d3 u.shot.led.held.length p3) (.slice d4 u.shot.led.last.length p4))) := Ld.below_row ((Below.refl _ _).alloc (Nat.le_refl _) _) (Nat.le_refl _) _
  have hr2 := setRow_heap _ _ _ (rArr u (.slice d1 u.ent.cmd.nodes.length p1) (.slice d2 u.shot.nodes.length p2) (.slice d3 u.shot.led.held.length p3) (.slice d4 u.shot.led.last.length p4)) _ _ hs2
  obtain ⟨W2, hW2⟩ : ∃ q, (w1.alloc (.cells zR 35)).setRow w1.heap.size (rArr u (.slice d1 u.ent.cmd.nodes.length p1) (.slice d2 u.shot.nodes.length p2) (.slice d3 u.shot.led.held.length p3) (.slice d4 u.shot.led.last.length p4)) = q := ⟨_, rfl⟩
  rw [hW2] at hb2 hr2
  obtain ⟨hue, hus⟩ := ent_led (w := w1) (w1 := W2) ⟨hc, hn, hh, hl⟩ hwf hb2
  have HUE := Lib.hid hue
  have HUS := Lib.hid hus
  have HU := Lib.hid hu
  have HS2 := Lib.hid hs2
  have HR2 := Lib.hid hr2
  have HT2 := Lib.hid ((hb2.block _ (Nat.lt_of_lt_of_le ((Array.getElem?_eq_some_iff.1 HT0.out).1) hb1.size)).trans ((hb1.block _ ((Array.getElem?_eq_some_iff.1 HT0.out).1)).trans HT0.out))
  have HB2 := Lib.hid (HB.out.trans ((hb1.mono HB.out.size).trans (hb2.mono (Nat.le_trans HB.out.size hb1.size))))
  obtain ⟨c0, c1, c2, c3, c4, c5, c6, c7, c8, c9, c10, c11, c12, c13, c14, c15, c16, c17, c18, c19, c20⟩ := cells21 hr2
  clear hu1 hc hn hh hl hwf hb1 hs2 hb2 hr2 hue hus hu
  have e0 : (u.vote != 0) = true := by rw [bne, beq_eq_false_iff_ne.2 h0]; rfl
  have HN : Hid (¬ fitsP r) := Lib.hid (fun g => h0 (by rw [HU.out]; exact g.1))
  clear h0
  go_wp2_with ((with_reducible refine wpList_store_row rfl 35 (.tmp 3) (.tmp 5) rfl w1.heap.size (rArr u (.slice d1 u.ent.cmd.nodes.length p1) (.slice d2 u.shot.nodes.length p2) (.slice d3 u.shot.led.held.length p3) (.slice d4 u.shot.led.last.length p4)) rfl rfl 35 _ HS2.out (by kernel_rfl) rfl (rArr_one _ _ _ _ _ _ _ _ _ _ _ _ _) ?_))
  go_ret
  exact tells_no HN.out HB2.out
set_option maxHeartbeats 8000000 in
theorem fits_1 (r : RecR) (v : Value) (w : World) (h : IsRec w v r) (h0 : (unusedR r).vote = 0) (h1 : ¬ (unusedR r).boot = 0) : Calls Try.prog 13 #[v] w (Tells (fitsP r) w) := by
  obtain ⟨vc, vn, vh, vl, rfl, ⟨hc, hn, hh, hl⟩, hwf⟩ := id h
  obtain ⟨a1, b1, rfl, -⟩ := id hc
  obtain ⟨a2, b2, rfl, -⟩ := id hn
  obtain ⟨a3, b3, rfl, -⟩ := id hh
  obtain ⟨a4, b4, rfl, -⟩ := id hl
  have hb0 : Below w.heap.size w (w.alloc (.cells (rArr r (.slice a1 r.ent.cmd.nodes.length b1) (.slice a2 r.shot.nodes.length b2) (.slice a3 r.shot.led.held.length b3) (.slice a4 r.shot.led.last.length b4)) 35)) := (Below.refl _ _).alloc (Nat.le_refl _) _
  have HT0 : Hid ((w.alloc (.cells (rArr r (.slice a1 r.ent.cmd.nodes.length b1) (.slice a2 r.shot.nodes.length b2) (.slice a3 r.shot.led.held.length b3) (.slice a4 r.shot.led.last.length b4)) 35)).heap[w.heap.size]? = some (.cells (rArr r (.slice a1 r.ent.cmd.nodes.length b1) (.slice a2 r.shot.nodes.length b2) (.slice a3 r.shot.led.held.length b3) (.slice a4 r.shot.led.last.length b4)) 35 (0, 0))) := Lib.hid (heap_alloc_new _ _)
  have HB := Lib.hid hb0
  have HRC := Lib.hid h
  clear h hc hn hh hl hwf hb0
  go_enter Try.func13, Try.ntmps13
  go_wp2_with ((with_reducible refine wpList_load_row rfl 35 (.tmp 1) rfl w.heap.size rfl 35 (rArr r (.slice a1 r.ent.cmd.nodes.length b1) (.slice a2 r.shot.nodes.length b2) (.slice a3 r.shot.led.held.length b3) (.slice a4 r.shot.led.last.length b4)) (0, 0) _ HT0.out Try.underlying35 rfl (by kernel_rfl) ?_))
  refine (unused_any r _ _ (HRC.out.below HB.out (Nat.le_refl _))).mono ?_
  rintro e w1 ⟨uv, rfl, hu1, hb1⟩
  obtain ⟨u, hu⟩ : ∃ u, u = unusedR r := ⟨_, rfl⟩
  rw [← hu] at hu1
  rw [← hu] at h0 h1
  obtain ⟨vc, vn, vh, vl, rfl, ⟨hc, hn, hh, hl⟩, hwf⟩ := id hu1
  obtain ⟨d1, p1, rfl, -⟩ := id hc
  obtain ⟨d2, p2, rfl, -⟩ := id hn
  obtain ⟨d3, p3, rfl, -⟩ := id hh
  obtain ⟨d4, p4, rfl, -⟩ := id hl
  have hs2 : (w1.alloc (.cells zR 35)).heap[w1.heap.size]? = some (.cells zR 35 (0, 0)) := heap_alloc_new _ _
  have hb2 : Below w1.heap.size w1 ((w1.alloc (.cells zR 35)).setRow w1.heap.size (rArr u (.slice d1 u.ent.cmd.nodes.length p1) (.slice d2 u.shot.nodes.length p2) (.slice d3 u.shot.led.held.length p3) (.slice d4 u.shot.led.last.length p4))) := Ld.below_row ((Below.refl _ _).alloc (Nat.le_refl _) _) (Nat.le_refl _) _
  have hr2 := setRow_heap _ _ _ (rArr u (.slice d1 u.ent.cmd.nodes.length p1) (.slice d2 u.shot.nodes.length p2) (.slice d3 u.shot.led.held.length p3) (.slice d4 u.shot.led.last.length p4)) _ _ hs2
  obtain ⟨W2, hW2⟩ : ∃ q, (w1.alloc (.cells zR 35)).setRow w1.heap.size (rArr u (.slice d1 u.ent.cmd.nodes.length p1) (.slice d2 u.shot.nodes.length p2) (.slice d3 u.shot.led.held.length p3) (.slice d4 u.shot.led.last.length p4)) = q := ⟨_, rfl⟩
  rw [hW2] at hb2 hr2
  obtain ⟨hue, hus⟩ := ent_led (w := w1) (w1 := W2) ⟨hc, hn, hh, hl⟩ hwf hb2
  have HUE := Lib.hid hue
  have HUS := Lib.hid hus
  have HU := Lib.hid hu
  have HS2 := Lib.hid hs2
  have HR2 := Lib.hid hr2
  have HT2 := Lib.hid ((hb2.block _ (Nat.lt_of_lt_of_le ((Array.getElem?_eq_some_iff.1 HT0.out).1) hb1.size)).trans ((hb1.block _ ((Array.getElem?_eq_some_iff.1 HT0.out).1)).trans HT0.out))
  have HB2 := Lib.hid (HB.out.trans ((hb1.mono HB.out.size).trans (hb2.mono (Nat.le_trans HB.out.size hb1.size))))
  obtain ⟨c0, c1, c2, c3, c4, c5, c6, c7, c8, c9, c10, c11, c12, c13, c14, c15, c16, c17, c18, c19, c20⟩ := cells21 hr2
  clear hu1 hc hn hh hl hwf hb1 hs2 hb2 hr2 hue hus hu
  have e0 : (u.vote != 0) = false := by rw [bne, beq_iff_eq.2 h0]; rfl
  have H0 := Lib.hid h0
  clear h0
  have e1 : (u.boot != 0) = true := by rw [bne, beq_eq_false_iff_ne.2 h1]; rfl
  have HN : Hid (¬ fitsP r) := Lib.hid (fun g => h1 (by rw [HU.out]; exact g.2.1))
  clear h1
  go_wp2_with ((with_reducible refine wpList_store_row rfl 35 (.tmp 3) (.tmp 5) rfl w1.heap.size (rArr u (.slice d1 u.ent.cmd.nodes.length p1) (.slice d2 u.shot.nodes.length p2) (.slice d3 u.shot.led.held.length p3) (.slice d4 u.shot.led.last.length p4)) rfl rfl 35 _ HS2.out (by kernel_rfl) rfl (rArr_one _ _ _ _ _ _ _ _ _ _ _ _ _) ?_))
  go_ret
  exact tells_no HN.out HB2.out
set_option maxHeartbeats 8000000 in
theorem fits_2 (r : RecR) (v : Value) (w : World) (h : IsRec w v r) (h0 : (unusedR r).vote = 0) (h1 : (unusedR r).boot = 0) (h2 : ¬ (unusedR r).term = 0) : Calls Try.prog 13 #[v] w (Tells (fitsP r) w) := by
  obtain ⟨vc, vn, vh, vl, rfl, ⟨hc, hn, hh, hl⟩, hwf⟩ := id h
  obtain ⟨a1, b1, rfl, -⟩ := id hc
  obtain ⟨a2, b2, rfl, -⟩ := id hn
  obtain ⟨a3, b3, rfl, -⟩ := id hh
  obtain ⟨a4, b4, rfl, -⟩ := id hl
  have hb0 : Below w.heap.size w (w.alloc (.cells (rArr r (.slice a1 r.ent.cmd.nodes.length b1) (.slice a2 r.shot.nodes.length b2) (.slice a3 r.shot.led.held.length b3) (.slice a4 r.shot.led.last.length b4)) 35)) := (Below.refl _ _).alloc (Nat.le_refl _) _
  have HT0 : Hid ((w.alloc (.cells (rArr r (.slice a1 r.ent.cmd.nodes.length b1) (.slice a2 r.shot.nodes.length b2) (.slice a3 r.shot.led.held.length b3) (.slice a4 r.shot.led.last.length b4)) 35)).heap[w.heap.size]? = some (.cells (rArr r (.slice a1 r.ent.cmd.nodes.length b1) (.slice a2 r.shot.nodes.length b2) (.slice a3 r.shot.led.held.length b3) (.slice a4 r.shot.led.last.length b4)) 35 (0, 0))) := Lib.hid (heap_alloc_new _ _)
  have HB := Lib.hid hb0
  have HRC := Lib.hid h
  clear h hc hn hh hl hwf hb0
  go_enter Try.func13, Try.ntmps13
  go_wp2_with ((with_reducible refine wpList_load_row rfl 35 (.tmp 1) rfl w.heap.size rfl 35 (rArr r (.slice a1 r.ent.cmd.nodes.length b1) (.slice a2 r.shot.nodes.length b2) (.slice a3 r.shot.led.held.length b3) (.slice a4 r.shot.led.last.length b4)) (0, 0) _ HT0.out Try.underlying35 rfl (by kernel_rfl) ?_))
  refine (unused_any r _ _ (HRC.out.below HB.out (Nat.le_refl _))).mono ?_
  rintro e w1 ⟨uv, rfl, hu1, hb1⟩
  obtain ⟨u, hu⟩ : ∃ u, u = unusedR r := ⟨_, rfl⟩
  rw [← hu] at hu1
  rw [← hu] at h0 h1 h2
  obtain ⟨vc, vn, vh, vl, rfl, ⟨hc, hn, hh, hl⟩, hwf⟩ := id hu1
  obtain ⟨d1, p1, rfl, -⟩ := id hc
  obtain ⟨d2, p2, rfl, -⟩ := id hn
  obtain ⟨d3, p3, rfl, -⟩ := id hh
  obtain ⟨d4, p4, rfl, -⟩ := id hl
  have hs2 : (w1.alloc (.cells zR 35)).heap[w1.heap.size]? = some (.cells zR 35 (0, 0)) := heap_alloc_new _ _
  have hb2 : Below w1.heap.size w1 ((w1.alloc (.cells zR 35)).setRow w1.heap.size (rArr u (.slice d1 u.ent.cmd.nodes.length p1) (.slice d2 u.shot.nodes.length p2) (.slice d3 u.shot.led.held.length p3) (.slice d4 u.shot.led.last.length p4))) := Ld.below_row ((Below.refl _ _).alloc (Nat.le_refl _) _) (Nat.le_refl _) _
  have hr2 := setRow_heap _ _ _ (rArr u (.slice d1 u.ent.cmd.nodes.length p1) (.slice d2 u.shot.nodes.length p2) (.slice d3 u.shot.led.held.length p3) (.slice d4 u.shot.led.last.length p4)) _ _ hs2
  obtain ⟨W2, hW2⟩ : ∃ q, (w1.alloc (.cells zR 35)).setRow w1.heap.size (rArr u (.slice d1 u.ent.cmd.nodes.length p1) (.slice d2 u.shot.nodes.length p2) (.slice d3 u.shot.led.held.length p3) (.slice d4 u.shot.led.last.length p4)) = q := ⟨_, rfl⟩
  rw [hW2] at hb2 hr2
  obtain ⟨hue, hus⟩ := ent_led (w := w1) (w1 := W2) ⟨hc, hn, hh, hl⟩ hwf hb2
  have HUE := Lib.hid hue
  have HUS := Lib.hid hus
  have HU := Lib.hid hu
  have HS2 := Lib.hid hs2
  have HR2 := Lib.hid hr2
  have HT2 := Lib.hid ((hb2.block _ (Nat.lt_of_lt_of_le ((Array.getElem?_eq_some_iff.1 HT0.out).1) hb1.size)).trans ((hb1.block _ ((Array.getElem?_eq_some_iff.1 HT0.out).1)).trans HT0.out))
  have HB2 := Lib.hid (HB.out.trans ((hb1.mono HB.out.size).trans (hb2.mono (Nat.le_trans HB.out.size hb1.size))))
  obtain ⟨c0, c1, c2, c3, c4, c5, c6, c7, c8, c9, c10, c11, c12, c13, c14, c15, c16, c17, c18, c19, c20⟩ := cells21 hr2
  clear hu1 hc hn hh hl hwf hb1 hs2 hb2 hr2 hue hus hu
  have e0 : (u.vote != 0) = false := by rw [bne, beq_iff_eq.2 h0]; rfl
  have H0 := Lib.hid h0
  clear h0
  have e1 : (u.boot != 0) = false := by rw [bne, beq_iff_eq.2 h1]; rfl
  have H1 := Lib.hid h1
  clear h1
  have e2 : (u.term != 0) = true := by rw [bne, beq_eq_false_iff_ne.2 h2]; rfl
  have HN : Hid (¬ fitsP r) := Lib.hid (fun g => h2 (by rw [HU.out]; exact g.2.2.1))
  clear h2
  go_wp2_with ((with_reducible refine wpList_store_row rfl 35 (.tmp 3) (.tmp 5) rfl w1.heap.size (rArr u (.slice d1 u.ent.cmd.nodes.length p1) (.slice d2 u.shot.nodes.length p2) (.slice d3 u.shot.led.held.length p3) (.slice d4 u.shot.led.last.length p4)) rfl rfl 35 _ HS2.out (by kernel_rfl) rfl (rArr_one _ _ _ _ _ _ _ _ _ _ _ _ _) ?_))
  go_ret
  exact tells_no HN.out HB2.out
set_option maxHeartbeats 8000000 in
theorem fits_3 (r : RecR) (v : Value) (w : World) (h : IsRec w v r) (h0 : (unusedR r).vote = 0) (h1 : (unusedR r).boot = 0) (h2 : (unusedR r).term = 0) (h3 : ¬ (unusedR r).index = 0) : Calls Try.prog 13 #[v] w (Tells (fitsP r) w) := by
  obtain ⟨vc, vn, vh, vl, rfl, ⟨hc, hn, hh, hl⟩, hwf⟩ := id h
  obtain ⟨a1, b1, rfl, -⟩ := id hc
  obtain ⟨a2, b2, rfl, -⟩ := id hn
  obtain ⟨a3, b3, rfl, -⟩ := id hh
  obtain ⟨a4, b4, rfl, -⟩ := id hl
  have hb0 : Below w.heap.size w (w.alloc (.cells (rArr r (.slice a1 r.ent.cmd.nodes.length b1) (.slice a2 r.shot.nodes.length b2) (.slice a3 r.shot.led.held.length b3) (.slice a4 r.shot.led.last.length b4)) 35)) := (Below.refl _ _).alloc (Nat.le_refl _) _
  have HT0 : Hid ((w.alloc (.cells (rArr r (.slice a1 r.ent.cmd.nodes.length b1) (.slice a2 r.shot.nodes.length b2) (.slice a3 r.shot.led.held.length b3) (.slice a4 r.shot.led.last.length b4)) 35)).heap[w.heap.size]? = some (.cells (rArr r (.slice a1 r.ent.cmd.nodes.length b1) (.slice a2 r.shot.nodes.length b2) (.slice a3 r.shot.led.held.length b3) (.slice a4 r.shot.led.last.length b4)) 35 (0, 0))) := Lib.hid (heap_alloc_new _ _)
  have HB := Lib.hid hb0
  have HRC := Lib.hid h
  clear h hc hn hh hl hwf hb0
  go_enter Try.func13, Try.ntmps13
  go_wp2_with ((with_reducible refine wpList_load_row rfl 35 (.tmp 1) rfl w.heap.size rfl 35 (rArr r (.slice a1 r.ent.cmd.nodes.length b1) (.slice a2 r.shot.nodes.length b2) (.slice a3 r.shot.led.held.length b3) (.slice a4 r.shot.led.last.length b4)) (0, 0) _ HT0.out Try.underlying35 rfl (by kernel_rfl) ?_))
  refine (unused_any r _ _ (HRC.out.below HB.out (Nat.le_refl _))).mono ?_
  rintro e w1 ⟨uv, rfl, hu1, hb1⟩
  obtain ⟨u, hu⟩ : ∃ u, u = unusedR r := ⟨_, rfl⟩
  rw [← hu] at hu1
  rw [← hu] at h0 h1 h2 h3
  obtain ⟨vc, vn, vh, vl, rfl, ⟨hc, hn, hh, hl⟩, hwf⟩ := id hu1
  obtain ⟨d1, p1, rfl, -⟩ := id hc
  obtain ⟨d2, p2, rfl, -⟩ := id hn
  obtain ⟨d3, p3, rfl, -⟩ := id hh
  obtain ⟨d4, p4, rfl, -⟩ := id hl
  have hs2 : (w1.alloc (.cells zR 35)).heap[w1.heap.size]? = some (.cells zR 35 (0, 0)) := heap_alloc_new _ _
  have hb2 : Below w1.heap.size w1 ((w1.alloc (.cells zR 35)).setRow w1.heap.size (rArr u (.slice d1 u.ent.cmd.nodes.length p1) (.slice d2 u.shot.nodes.length p2) (.slice d3 u.shot.led.held.length p3) (.slice d4 u.shot.led.last.length p4))) := Ld.below_row ((Below.refl _ _).alloc (Nat.le_refl _) _) (Nat.le_refl _) _
  have hr2 := setRow_heap _ _ _ (rArr u (.slice d1 u.ent.cmd.nodes.length p1) (.slice d2 u.shot.nodes.length p2) (.slice d3 u.shot.led.held.length p3) (.slice d4 u.shot.led.last.length p4)) _ _ hs2
  obtain ⟨W2, hW2⟩ : ∃ q, (w1.alloc (.cells zR 35)).setRow w1.heap.size (rArr u (.slice d1 u.ent.cmd.nodes.length p1) (.slice d2 u.shot.nodes.length p2) (.slice d3 u.shot.led.held.length p3) (.slice d4 u.shot.led.last.length p4)) = q := ⟨_, rfl⟩
  rw [hW2] at hb2 hr2
  obtain ⟨hue, hus⟩ := ent_led (w := w1) (w1 := W2) ⟨hc, hn, hh, hl⟩ hwf hb2
  have HUE := Lib.hid hue
  have HUS := Lib.hid hus
  have HU := Lib.hid hu
  have HS2 := Lib.hid hs2
  have HR2 := Lib.hid hr2
  have HT2 := Lib.hid ((hb2.block _ (Nat.lt_of_lt_of_le ((Array.getElem?_eq_some_iff.1 HT0.out).1) hb1.size)).trans ((hb1.block _ ((Array.getElem?_eq_some_iff.1 HT0.out).1)).trans HT0.out))
  have HB2 := Lib.hid (HB.out.trans ((hb1.mono HB.out.size).trans (hb2.mono (Nat.le_trans HB.out.size hb1.size))))
  obtain ⟨c0, c1, c2, c3, c4, c5, c6, c7, c8, c9, c10, c11, c12, c13, c14, c15, c16, c17, c18, c19, c20⟩ := cells21 hr2
  clear hu1 hc hn hh hl hwf hb1 hs2 hb2 hr2 hue hus hu
  have e0 : (u.vote != 0) = false := by rw [bne, beq_iff_eq.2 h0]; rfl
  have H0 := Lib.hid h0
  clear h0
  have e1 : (u.boot != 0) = false := by rw [bne, beq_iff_eq.2 h1]; rfl
  have H1 := Lib.hid h1
  clear h1
  have e2 : (u.term != 0) = false := by rw [bne, beq_iff_eq.2 h2]; rfl
  have H2 := Lib.hid h2
  clear h2
  have e3 : (u.index != 0) = true := by rw [bne, beq_eq_false_iff_ne.2 h3]; rfl
  have HN : Hid (¬ fitsP r) := Lib.hid (fun g => h3 (by rw [HU.out]; exact g.2.2.2.1))
  clear h3
  go_wp2_with ((with_reducible refine wpList_store_row rfl 35 (.tmp 3) (.tmp 5) rfl w1.heap.size (rArr u (.slice d1 u.ent.cmd.nodes.length p1) (.slice d2 u.shot.nodes.length p2) (.slice d3 u.shot.led.held.length p3) (.slice d4 u.shot.led.last.length p4)) rfl rfl 35 _ HS2.out (by kernel_rfl) rfl (rArr_one _ _ _ _ _ _ _ _ _ _ _ _ _) ?_))
  go_ret
  exact tells_no HN.out HB2.out
end Rc
end Go.Proofs.Ytngnhegmealokaa
namespace Go.Proofs.Ytngnhegmealokaa
open Go.ChangeShapes Go.WideShapes Go.ChangeAt Go.RowKit Go.Deep
set_option linter.unusedVariables false
set_option maxRecDepth 100000
namespace Rc
open Nv
set_option maxHeartbeats 8000000 in
theorem fits_4 (r : RecR) (v : Value) (w : World) (h : IsRec w v r) (h0 : (unusedR r).vote = 0) (h1 : (unusedR r).boot = 0) (h2 : (unusedR r).term = 0) (h3 : (unusedR r).index = 0) : Calls Try.prog 13 #[v] w (Tells (fitsP r) w) := by
  obtain ⟨vc, vn, vh, vl, rfl, ⟨hc, hn, hh, hl⟩, hwf⟩ := id h
  obtain ⟨a1, b1, rfl, -⟩ := id hc
  obtain ⟨a2, b2, rfl, -⟩ := id hn
  obtain ⟨a3, b3, rfl, -⟩ := id hh
  obtain ⟨a4, b4, rfl, -⟩ := id hl
  have hb0 : Below w.heap.size w (w.alloc (.cells (rArr r (.slice a1 r.ent.cmd.nodes.length b1) (.slice a2 r.shot.nodes.length b2) (.slice a3 r.shot.led.held.length b3) (.slice a4 r.shot.led.last.length b4)) 35)) := (Below.refl _ _).alloc (Nat.le_refl _) _
  have HT0 : Hid ((w.alloc (.cells (rArr r (.slice a1 r.ent.cmd.nodes.length b1) (.slice a2 r.shot.nodes.length b2) (.slice a3 r.shot.led.held.length b3) (.slice a4 r.shot.led.last.length b4)) 35)).heap[w.heap.size]? = some (.cells (rArr r (.slice a1 r.ent.cmd.nodes.length b1) (.slice a2 r.shot.nodes.length b2) (.slice a3 r.shot.led.held.length b3) (.slice a4 r.shot.led.last.length b4)) 35 (0, 0))) := Lib.hid (heap_alloc_new _ _)
  have HB := Lib.hid hb0
  have HRC := Lib.hid h
  clear h hc hn hh hl hwf hb0
  go_enter Try.func13, Try.ntmps13
  go_wp2_with ((with_reducible refine wpList_load_row rfl 35 (.tmp 1) rfl w.heap.size rfl 35 (rArr r (.slice a1 r.ent.cmd.nodes.length b1) (.slice a2 r.shot.nodes.length b2) (.slice a3 r.shot.led.held.length b3) (.slice a4 r.shot.led.last.length b4)) (0, 0) _ HT0.out Try.underlying35 rfl (by kernel_rfl) ?_))
  refine (unused_any r _ _ (HRC.out.below HB.out (Nat.le_refl _))).mono ?_
  rintro e w1 ⟨uv, rfl, hu1, hb1⟩
  obtain ⟨u, hu⟩ : ∃ u, u = unusedR r := ⟨_, rfl⟩
  rw [← hu] at hu1
  rw [← hu] at h0 h1 h2 h3
  obtain ⟨vc, vn, vh, vl, rfl, ⟨hc, hn, hh, hl⟩, hwf⟩ := id hu1
  obtain ⟨d1, p1, rfl, -⟩ := id hc
  obtain ⟨d2, p2, rfl, -⟩ := id hn
  obtain ⟨d3, p3, rfl, -⟩ := id hh
  obtain ⟨d4, p4, rfl, -⟩ := id hl
  have hs2 : (w1.alloc (.cells zR 35)).heap[w1.heap.size]? = some (.cells zR 35 (0, 0)) := heap_alloc_new _ _
  have hb2 : Below w1.heap.size w1 ((w1.alloc (.cells zR 35)).setRow w1.heap.size (rArr u (.slice d1 u.ent.cmd.nodes.length p1) (.slice d2 u.shot.nodes.length p2) (.slice d3 u.shot.led.held.length p3) (.slice d4 u.shot.led.last.length p4))) := Ld.below_row ((Below.refl _ _).alloc (Nat.le_refl _) _) (Nat.le_refl _) _
  have hr2 := setRow_heap _ _ _ (rArr u (.slice d1 u.ent.cmd.nodes.length p1) (.slice d2 u.shot.nodes.length p2) (.slice d3 u.shot.led.held.length p3) (.slice d4 u.shot.led.last.length p4)) _ _ hs2
  obtain ⟨W2, hW2⟩ : ∃ q, (w1.alloc (.cells zR 35)).setRow w1.heap.size (rArr u (.slice d1 u.ent.cmd.nodes.length p1) (.slice d2 u.shot.nodes.length p2) (.slice d3 u.shot.led.held.length p3) (.slice d4 u.shot.led.last.length p4)) = q := ⟨_, rfl⟩
  rw [hW2] at hb2 hr2
  obtain ⟨hue, hus⟩ := ent_led (w := w1) (w1 := W2) ⟨hc, hn, hh, hl⟩ hwf hb2
  have HUE := Lib.hid hue
  have HUS := Lib.hid hus
  have HU := Lib.hid hu
  have HS2 := Lib.hid hs2
  have HR2 := Lib.hid hr2
  have HT2 := Lib.hid ((hb2.block _ (Nat.lt_of_lt_of_le ((Array.getElem?_eq_some_iff.1 HT0.out).1) hb1.size)).trans ((hb1.block _ ((Array.getElem?_eq_some_iff.1 HT0.out).1)).trans HT0.out))
  have HB2 := Lib.hid (HB.out.trans ((hb1.mono HB.out.size).trans (hb2.mono (Nat.le_trans HB.out.size hb1.size))))
  obtain ⟨c0, c1, c2, c3, c4, c5, c6, c7, c8, c9, c10, c11, c12, c13, c14, c15, c16, c17, c18, c19, c20⟩ := cells21 hr2
  clear hu1 hc hn hh hl hwf hb1 hs2 hb2 hr2 hue hus hu
  have e0 : (u.vote != 0) = false := by rw [bne, beq_iff_eq.2 h0]; rfl
  have H0 := Lib.hid h0
  clear h0
  have e1 : (u.boot != 0) = false := by rw [bne, beq_iff_eq.2 h1]; rfl
  have H1 := Lib.hid h1
  clear h1
  have e2 : (u.term != 0) = false := by rw [bne, beq_iff_eq.2 h2]; rfl
  have H2 := Lib.hid h2
  clear h2
  have e3 : (u.index != 0) = false := by rw [bne, beq_iff_eq.2 h3]; rfl
  have H3 := Lib.hid h3
  clear h3
  go_wp2_with ((with_reducible refine wpList_store_row rfl 35 (.tmp 3) (.tmp 5) rfl w1.heap.size (rArr u (.slice d1 u.ent.cmd.nodes.length p1) (.slice d2 u.shot.nodes.length p2) (.slice d3 u.shot.led.held.length p3) (.slice d4 u.shot.led.last.length p4)) rfl rfl 35 _ HS2.out (by kernel_rfl) rfl (rArr_one _ _ _ _ _ _ _ _ _ _ _ _ _) ?_))
  refine (noEntry_any u.ent _ _ HUE.out).mono ?_
  rintro e w3 ⟨q1, rfl, hq1, hb3⟩
  have hr3 := (hb3.block _ ((Array.getElem?_eq_some_iff.1 HR2.out).1)).trans HR2.out
  have ht3 := (hb3.block _ ((Array.getElem?_eq_some_iff.1 HT2.out).1)).trans HT2.out
  have HB3 := Lib.hid (HB2.out.trans (hb3.mono HB2.out.size))
  have HUS3 := Lib.hid (HUS.out.below hb3 (Nat.le_refl _))
  have HQ1 := Lib.hid hq1
  have HR3 := Lib.hid hr3
  have HT3 := Lib.hid ht3
  clear c0 c1 c2 c3 c4 c5 c6 c7 c8 c9 c10 c11 c12 c13 c14 c15 c16 c17 c18 c19 c20
  obtain ⟨c0, c1, c2, c3, c4, c5, c6, c7, c8, c9, c10, c11, c12, c13, c14, c15, c16, c17, c18, c19, c20⟩ := cells21 hr3
  clear hq1 hb3 hr3 ht3
  cases q1
  · have HN : Hid (¬ fitsP r) := Lib.hid (fun g => by have := HQ1.out.2 (by rw [HU.out]; exact g.2.2.2.2.1); cases this)
    go_wp2
    go_ret
    exact tells_no HN.out HB3.out
  · have HZ1 := Lib.hid (HQ1.out.1 rfl)
    clear HQ1
    go_wp2_with fail
    refine (noShot_any u.shot _ _ HUS3.out).mono ?_
    rintro e w4 ⟨q2, rfl, hq2, hb4⟩
    have ht4 := (hb4.block _ ((Array.getElem?_eq_some_iff.1 HT3.out).1)).trans HT3.out
    have HB4 := Lib.hid (HB3.out.trans (hb4.mono HB3.out.size))
    have HRC4 := Lib.hid (HRC.out.below HB4.out (Nat.le_refl _))
    have HQ2 := Lib.hid hq2
    have HT4 := Lib.hid ht4
    clear c0 c1 c2 c3 c4 c5 c6 c7 c8 c9 c10 c11 c12 c13 c14 c15 c16 c17 c18 c19 c20
    clear hq2 hb4 ht4
    cases q2
    · have HN : Hid (¬ fitsP r) := Lib.hid (fun g => by have := HQ2.out.2 (by rw [HU.out]; exact g.2.2.2.2.2.1); cases this)
      go_wp2
      go_ret
      exact tells_no HN.out HB4.out
    · have HZ2 := Lib.hid (HQ2.out.1 rfl)
      clear HQ2
      go_wp2_with ((with_reducible refine wpList_load_rowG rfl 35 (.tmp 1) rfl w.heap.size rfl 35 (rArr r (.slice a1 r.ent.cmd.nodes.length b1) (.slice a2 r.shot.nodes.length b2) (.slice a3 r.shot.led.held.length b3) (.slice a4 r.shot.led.last.length b4)) (0, 0) _ HT4.out Try.underlying35 rfl (by kernel_rfl) ?_))
      refine (used_any r _ _ HRC4.out).mono ?_
      rintro e w5 ⟨q3, rfl, hq3, hb5⟩
      have HB5 := Lib.hid (HB4.out.trans (hb5.mono HB4.out.size))
      have HX : Hid (q3 = true ↔ fitsP r) := Lib.hid ⟨fun g => by
        unfold fitsP
        rw [← HU.out]
        exact ⟨H0.out, H1.out, H2.out, H3.out, HZ1.out, HZ2.out, hq3.1 g⟩, fun g => hq3.2 g.2.2.2.2.2.2⟩
      clear hq3 hb5
      go_wp2
      go_ret
      exact ⟨_, rfl, HX.out, HB5.out⟩
theorem fits_any (r : RecR) (v : Value) (w : World) (h : IsRec w v r) : Calls Try.prog 13 #[v] w (Tells (fitsP r) w) := by
  by_cases h0 : (unusedR r).vote = 0
  · by_cases h1 : (unusedR r).boot = 0
    · by_cases h2 : (unusedR r).term = 0
      · by_cases h3 : (unusedR r).index = 0
        · exact fits_4 r v w h h0 h1 h2 h3
        · exact fits_3 r v w h h0 h1 h2 h3
      · exact fits_2 r v w h h0 h1 h2
    · exact fits_1 r v w h h0 h1
  · exact fits_0 r v w h h0
end Rc
end Go.Proofs.Ytngnhegmealokaa
