/- Whether a command, a ledger, an entry, a snapshot is zero: package values. No condition. (Printed by wip/tools/novals.py.) -/
import Derived.Test.YtlkgmjhejocobaaHdC
import Derived.Test.YtlkgmjhejocobaaLdB
namespace Go.Proofs.Ytlkgmjhejocobaa
open Go.ChangeShapes Go.WideShapes Go.ChangeAt Go.RowKit
set_option linter.unusedVariables false
set_option maxRecDepth 100000
namespace Nv
def zCmd (c : Cmd) : Prop := c.kind = 0 ∧ c.node = 0 ∧ c.token = 0 ∧ c.nodes.length = 0 ∧ c.boot = 0 ∧ c.seq = 0 ∧ c.serial = 0 ∧ c.stamp = 0
def zLedg (l : Led) : Prop := l.limit = 0 ∧ l.next = 0 ∧ l.held.length = 0 ∧ l.last.length = 0
def zEnt (x : Ent) : Prop := x.term = 0 ∧ zCmd x.cmd
def zSho (s : Sho) : Prop := s.index = 0 ∧ s.term = 0 ∧ s.nodes.length = 0 ∧ zLedg s.led
/-- a bool that tells whether -/
def Tells (p : Prop) (w : World) (e : Ending) (w' : World) : Prop := ∃ b, e = .returned (.bool b) ∧ (b = true ↔ p) ∧ Below w.heap.size w w'
theorem tells_no {p : Prop} (h : ¬ p) {w w' : World} (hb : Below w.heap.size w w') : Tells p w (.returned (.bool false)) w' := ⟨_, rfl, ⟨fun q => absurd q (by decide), fun g => absurd g h⟩, hb⟩
theorem tells_yes {p : Prop} (h : p) {w w' : World} (hb : Below w.heap.size w w') : Tells p w (.returned (.bool true)) w' := ⟨_, rfl, ⟨fun _ => h, fun _ => rfl⟩, hb⟩
set_option maxHeartbeats 4000000 in
theorem noCmd_any (c : Cmd) (v : Value) (w : World) (h : IsCmd w v c) : Calls Try.prog 125 #[v] w (Tells (zCmd c) w) := by
  obtain ⟨vn, rfl, hsn, hcw⟩ := id h
  obtain ⟨an, cn, rfl, hl1, hl2, -⟩ := id hsn
  unfold maxLen at hl2
  have HB : Hid (Below w.heap.size w (w.alloc (.cells (La.cA c (.slice an c.nodes.length cn)) 45))) := Lib.hid ((Below.refl _ _).alloc (Nat.le_refl _) _)
  have hr : (w.alloc (.cells (La.cA c (.slice an c.nodes.length cn)) 45)).heap[w.heap.size]? = some (.cells (La.cA c (.slice an c.nodes.length cn)) 45 (0, 0)) := heap_alloc_new _ _
  obtain ⟨q0, q1, q2, q4, q5, q6, q7⟩ := La.cmd_cells hr
  have q3 := (cell_of_row _ _ 3 _ _ _ hr).trans rfl
  clear hr hsn hcw h
  by_cases h0 : c.kind = 0
  · have e0 : (c.kind == 0) = true := beq_iff_eq.2 (by omega)
    have H0 := Lib.hid h0
    clear h0
    by_cases h1 : c.node = 0
    · have e1 : (c.node == 0) = true := beq_iff_eq.2 (by omega)
      have H1 := Lib.hid h1
      clear h1
      by_cases h2 : c.token = 0
      · have e2 : (c.token == 0) = true := beq_iff_eq.2 (by omega)
        have H2 := Lib.hid h2
        clear h2
        by_cases h3 : c.nodes.length = 0
        · have e3 : ((c.nodes.length : Int) == 0) = true := beq_iff_eq.2 (by omega)
          have H3 := Lib.hid h3
          clear h3
          by_cases h4 : c.boot = 0
          · have e4 : (c.boot == 0) = true := beq_iff_eq.2 (by omega)
            have H4 := Lib.hid h4
            clear h4
            by_cases h5 : c.seq = 0
            · have e5 : (c.seq == 0) = true := beq_iff_eq.2 (by omega)
              have H5 := Lib.hid h5
              clear h5
              by_cases h6 : c.serial = 0
              · have e6 : (c.serial == 0) = true := beq_iff_eq.2 (by omega)
                have H6 := Lib.hid h6
                clear h6
                by_cases h7 : c.stamp = 0
                · have e7 : (c.stamp == 0) = true := beq_iff_eq.2 (by omega)
                  have H7 := Lib.hid h7
                  clear h7
                  go_enter Try.func125, Try.ntmps125
                  go_wp2
                  all_goals go_ret
                  all_goals exact tells_yes ⟨H0.out, H1.out, H2.out, H3.out, H4.out, H5.out, H6.out, H7.out⟩ HB.out
                · have e7 : (c.stamp == 0) = false := beq_eq_false_iff_ne.2 (by omega)
                  have HN : Hid (¬ zCmd c) := Lib.hid (fun g => h7 g.2.2.2.2.2.2.2)
                  clear h7
                  go_enter Try.func125, Try.ntmps125
                  go_wp2
                  all_goals go_ret
                  all_goals exact tells_no HN.out HB.out
              · have e6 : (c.serial == 0) = false := beq_eq_false_iff_ne.2 (by omega)
                have HN : Hid (¬ zCmd c) := Lib.hid (fun g => h6 g.2.2.2.2.2.2.1)
                clear h6
                go_enter Try.func125, Try.ntmps125
                go_wp2
                all_goals go_ret
                all_goals exact tells_no HN.out HB.out
            · have e5 : (c.seq == 0) = false := beq_eq_false_iff_ne.2 (by omega)
              have HN : Hid (¬ zCmd c) := Lib.hid (fun g => h5 g.2.2.2.2.2.1)
              clear h5
              go_enter Try.func125, Try.ntmps125
              go_wp2
              all_goals go_ret
              all_goals exact tells_no HN.out HB.out
          · have e4 : (c.boot == 0) = false := beq_eq_false_iff_ne.2 (by omega)
            have HN : Hid (¬ zCmd c) := Lib.hid (fun g => h4 g.2.2.2.2.1)
            clear h4
            go_enter Try.func125, Try.ntmps125
            go_wp2
            all_goals go_ret
            all_goals exact tells_no HN.out HB.out
        · have e3 : ((c.nodes.length : Int) == 0) = false := beq_eq_false_iff_ne.2 (by omega)
          have HN : Hid (¬ zCmd c) := Lib.hid (fun g => h3 g.2.2.2.1)
          clear h3
          go_enter Try.func125, Try.ntmps125
          go_wp2
          all_goals go_ret
          all_goals exact tells_no HN.out HB.out
      · have e2 : (c.token == 0) = false := beq_eq_false_iff_ne.2 (by omega)
        have HN : Hid (¬ zCmd c) := Lib.hid (fun g => h2 g.2.2.1)
        clear h2
        go_enter Try.func125, Try.ntmps125
        go_wp2
        all_goals go_ret
        all_goals exact tells_no HN.out HB.out
    · have e1 : (c.node == 0) = false := beq_eq_false_iff_ne.2 (by omega)
      have HN : Hid (¬ zCmd c) := Lib.hid (fun g => h1 g.2.1)
      clear h1
      go_enter Try.func125, Try.ntmps125
      go_wp2
      all_goals go_ret
      all_goals exact tells_no HN.out HB.out
  · have e0 : (c.kind == 0) = false := beq_eq_false_iff_ne.2 (by omega)
    have HN : Hid (¬ zCmd c) := Lib.hid (fun g => h0 g.1)
    clear h0
    go_enter Try.func125, Try.ntmps125
    go_wp2
    all_goals go_ret
    all_goals exact tells_no HN.out HB.out
set_option maxHeartbeats 4000000 in
theorem noLedger_any (l : Led) (v : Value) (w : World) (h : IsLed w v l) : Calls Try.prog 126 #[v] w (Tells (zLedg l) w) := by
  obtain ⟨vh, vl, rfl, hh, hl, -⟩ := id h
  obtain ⟨a1, c1, rfl, hl1, hl2, -⟩ := id hh
  obtain ⟨a2, c2, rfl, hl3, hl4, -⟩ := id hl
  unfold maxLen at hl2 hl4
  have HB : Hid (Below w.heap.size w (w.alloc (.cells (lArr l (.slice a1 l.held.length c1) (.slice a2 l.last.length c2)) 27))) := Lib.hid ((Below.refl _ _).alloc (Nat.le_refl _) _)
  obtain ⟨q0, q1, q2, q3⟩ := La.led_cells (heap_alloc_new w (.cells (lArr l (.slice a1 l.held.length c1) (.slice a2 l.last.length c2)) 27 (0, 0)))
  clear hh hl h
  by_cases h0 : l.limit = 0
  · have e0 : (l.limit == 0) = true := beq_iff_eq.2 (by omega)
    have H0 := Lib.hid h0
    clear h0
    by_cases h1 : l.next = 0
    · have e1 : (l.next == 0) = true := beq_iff_eq.2 (by omega)
      have H1 := Lib.hid h1
      clear h1
      by_cases h2 : l.held.length = 0
      · have e2 : ((l.held.length : Int) == 0) = true := beq_iff_eq.2 (by omega)
        have H2 := Lib.hid h2
        clear h2
        by_cases h3 : l.last.length = 0
        · have e3 : ((l.last.length : Int) == 0) = true := beq_iff_eq.2 (by omega)
          have H3 := Lib.hid h3
          clear h3
          go_enter Try.func126, Try.ntmps126
          go_wp2
          all_goals go_ret
          all_goals exact tells_yes ⟨H0.out, H1.out, H2.out, H3.out⟩ HB.out
        · have e3 : ((l.last.length : Int) == 0) = false := beq_eq_false_iff_ne.2 (by omega)
          have HN : Hid (¬ zLedg l) := Lib.hid (fun g => h3 g.2.2.2)
          clear h3
          go_enter Try.func126, Try.ntmps126
          go_wp2
          all_goals go_ret
          all_goals exact tells_no HN.out HB.out
      · have e2 : ((l.held.length : Int) == 0) = false := beq_eq_false_iff_ne.2 (by omega)
        have HN : Hid (¬ zLedg l) := Lib.hid (fun g => h2 g.2.2.1)
        clear h2
        go_enter Try.func126, Try.ntmps126
        go_wp2
        all_goals go_ret
        all_goals exact tells_no HN.out HB.out
    · have e1 : (l.next == 0) = false := beq_eq_false_iff_ne.2 (by omega)
      have HN : Hid (¬ zLedg l) := Lib.hid (fun g => h1 g.2.1)
      clear h1
      go_enter Try.func126, Try.ntmps126
      go_wp2
      all_goals go_ret
      all_goals exact tells_no HN.out HB.out
  · have e0 : (l.limit == 0) = false := beq_eq_false_iff_ne.2 (by omega)
    have HN : Hid (¬ zLedg l) := Lib.hid (fun g => h0 g.1)
    clear h0
    go_enter Try.func126, Try.ntmps126
    go_wp2
    all_goals go_ret
    all_goals exact tells_no HN.out HB.out
set_option maxHeartbeats 4000000 in
theorem noEntry_any (x : Ent) (v : Value) (w : World) (h : Hd.IsEnt w v x) : Calls Try.prog 101 #[v] w (Tells (zEnt x) w) := by
  obtain ⟨vn, rfl, hsl, hwf⟩ := h
  obtain ⟨an, cn, rfl, -⟩ := id hsl
  have hb0 : Below w.heap.size w (w.alloc (.cells (entC (x, .slice an x.cmd.nodes.length cn)).toArray 47)) := (Below.refl _ _).alloc (Nat.le_refl _) _
  have HB := Lib.hid hb0
  have HI : Hid (IsCmd (w.alloc (.cells (entC (x, .slice an x.cmd.nodes.length cn)).toArray 47)) (.agg (Cm.cArr x.cmd (.slice an x.cmd.nodes.length cn))) x.cmd) := Lib.hid ⟨_, rfl, hsl.below hb0 (Nat.le_refl _), hwf.2⟩
  obtain ⟨b0, b1, b2, b3, b4, b5, b6, b7, b8⟩ := Hd.ent9 (heap_alloc_new w (.cells (entC (x, .slice an x.cmd.nodes.length cn)).toArray 47 (0, 0)))
  clear hsl hwf hb0
  by_cases h0 : x.term = 0
  · have e0 : (x.term == 0) = true := beq_iff_eq.2 h0
    have H0 := Lib.hid h0
    clear h0
    go_enter Try.func101, Try.ntmps101
    go_wp2_with fail
    refine (noCmd_any x.cmd _ _ HI.out).mono ?_
    rintro e w1 ⟨b, rfl, hbb, hb1⟩
    have HF : Hid (Below w.heap.size w w1) := Lib.hid (HB.out.trans (hb1.mono HB.out.size))
    have HBB := Lib.hid hbb
    clear hb1 hbb
    go_wp2
    go_ret
    exact ⟨_, rfl, ⟨fun g => ⟨H0.out, HBB.out.1 g⟩, fun g => HBB.out.2 g.2⟩, HF.out⟩
  · have e0 : (x.term == 0) = false := beq_eq_false_iff_ne.2 h0
    have HN : Hid (¬ zEnt x) := Lib.hid (fun g => h0 g.1)
    clear h0
    go_enter Try.func101, Try.ntmps101
    go_wp2
    go_ret
    exact tells_no HN.out HB.out
set_option maxHeartbeats 4000000 in
theorem noShot_any (s : Sho) (v : Value) (w : World) (h : IsShot w v s) : Calls Try.prog 102 #[v] w (Tells (zSho s) w) := by
  obtain ⟨vn, vh, vl, rfl, hn, hh, hl, hwf⟩ := h
  obtain ⟨an, cn, rfl, hn1, hn2, -⟩ := id hn
  obtain ⟨a1, c1, rfl, -⟩ := id hh
  obtain ⟨a2, c2, rfl, -⟩ := id hl
  unfold maxLen at hn2
  have hb0 : Below w.heap.size w (w.alloc (.cells (sArr s (.slice an s.nodes.length cn) (.slice a1 s.led.held.length c1) (.slice a2 s.led.last.length c2)) 29)) := (Below.refl _ _).alloc (Nat.le_refl _) _
  have HB := Lib.hid hb0
  have HI : Hid (IsLed (w.alloc (.cells (sArr s (.slice an s.nodes.length cn) (.slice a1 s.led.held.length c1) (.slice a2 s.led.last.length c2)) 29)) (.agg (lArr s.led (.slice a1 s.led.held.length c1) (.slice a2 s.led.last.length c2))) s.led) := Lib.hid ⟨_, _, rfl, hh.below hb0 (Nat.le_refl _), hl.below hb0 (Nat.le_refl _), hwf.2.2⟩
  obtain ⟨b0, b1, b2, b3, b4, b5, b6⟩ := Sh.cells7 (heap_alloc_new w (.cells (sArr s (.slice an s.nodes.length cn) (.slice a1 s.led.held.length c1) (.slice a2 s.led.last.length c2)) 29 (0, 0)))
  clear hn hh hl hwf hb0
  by_cases h0 : s.index = 0
  · have e0 : (s.index == 0) = true := beq_iff_eq.2 (by omega)
    have H0 := Lib.hid h0
    clear h0
    by_cases h1 : s.term = 0
    · have e1 : (s.term == 0) = true := beq_iff_eq.2 (by omega)
      have H1 := Lib.hid h1
      clear h1
      by_cases h2 : s.nodes.length = 0
      · have e2 : ((s.nodes.length : Int) == 0) = true := beq_iff_eq.2 (by omega)
        have H2 := Lib.hid h2
        clear h2
        go_enter Try.func102, Try.ntmps102
        go_wp2_with fail
        refine (noLedger_any s.led _ _ HI.out).mono ?_
        rintro e w1 ⟨b, rfl, hbb, hb1⟩
        have HF : Hid (Below w.heap.size w w1) := Lib.hid (HB.out.trans (hb1.mono HB.out.size))
        have HBB := Lib.hid hbb
        clear hb1 hbb
        go_wp2
        go_ret
        exact ⟨_, rfl, ⟨fun g => ⟨H0.out, H1.out, H2.out, HBB.out.1 g⟩, fun g => HBB.out.2 g.2.2.2⟩, HF.out⟩
      · have e2 : ((s.nodes.length : Int) == 0) = false := beq_eq_false_iff_ne.2 (by omega)
        have HN : Hid (¬ zSho s) := Lib.hid (fun g => h2 g.2.2.1)
        clear h2
        go_enter Try.func102, Try.ntmps102
        go_wp2
        all_goals go_ret
        all_goals exact tells_no HN.out HB.out
    · have e1 : (s.term == 0) = false := beq_eq_false_iff_ne.2 (by omega)
      have HN : Hid (¬ zSho s) := Lib.hid (fun g => h1 g.2.1)
      clear h1
      go_enter Try.func102, Try.ntmps102
      go_wp2
      all_goals go_ret
      all_goals exact tells_no HN.out HB.out
  · have e0 : (s.index == 0) = false := beq_eq_false_iff_ne.2 (by omega)
    have HN : Hid (¬ zSho s) := Lib.hid (fun g => h0 g.1)
    clear h0
    go_enter Try.func102, Try.ntmps102
    go_wp2
    all_goals go_ret
    all_goals exact tells_no HN.out HB.out
end Nv
end Go.Proofs.Ytlkgmjhejocobaa
