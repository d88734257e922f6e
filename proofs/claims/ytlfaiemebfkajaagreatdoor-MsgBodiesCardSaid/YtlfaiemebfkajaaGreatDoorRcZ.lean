/- Whether a command, a ledger, an entry, a snapshot is zero: package values. No condition. (Printed by wip/tools/novals.py.) A record, read as an argument, and without the fields that its kind uses: hard.unused. No condition. Which records may be: hard.used, hard.fits. No condition. Which records fit: hard.fits, arm by arm. No condition. Which records fit: hard.fits, the last arm. No condition. -/
import Derived.Test.YtlfaiemebfkajaaGreatDoorHdC
import Derived.Test.YtlfaiemebfkajaaGreatDoorLdB
import Derived.Deep.MidRow
import Derived.Deep.QuietTactic
import Derived.BigQuiet
namespace Go.Proofs.YtlfaiemebfkajaaGreatDoor
open Go.ChangeShapes Go.WideShapes Go.ChangeAt Go.RowKit
set_option linter.unusedVariables false
set_option maxRecDepth 100000
namespace Nv
def zCmd (c : Cmd) : Prop := c.kind = 0 ∧ c.node = 0 ∧ c.token = 0 ∧ c.nodes.length = 0 ∧ c.boot = 0 ∧ c.seq = 0 ∧ c.serial = 0 ∧ c.stamp = 0
def zLedg (l : Led) : Prop := l.limit = 0 ∧ l.next = 0 ∧ l.held.length = 0 ∧ l.last.length = 0
def zEnt (x : Ent) : Prop := x.term = 0 ∧ zCmd x.cmd
def zSho (s : Sho) : Prop := s.index = 0 ∧ s.term = 0 ∧ s.nodes.length = 0 ∧ zLedg s.led
/-- a bool that tells whether -/
def Tells (p : Prop) (w : World) (e : Ending) (w' : World) : Prop := ∃ b, e = .returned (.bool b) ∧ (b = true ↔ p) ∧ Below w.heap.size w w'
theorem tells_no {p : Prop} (h : ¬ p) {w w' : World} (hb : Below w.heap.size w w') : Tells p w (.returned (.bool false)) w' := ⟨_, rfl, ⟨fun q => absurd q (by decide), fun g => absurd g h⟩, hb⟩
theorem tells_yes {p : Prop} (h : p) {w w' : World} (hb : Below w.heap.size w w') : Tells p w (.returned (.bool true)) w' := ⟨_, rfl, ⟨fun _ => h, fun _ => rfl⟩, hb⟩
set_option maxHeartbeats 4000000 in
theorem noLedger_any (l : Led) (v : Value) (w : World) (h : IsLed w v l) : Calls Tryz.prog 89 #[v] w (Tells (zLedg l) w) := by
  obtain ⟨vh, vl, rfl, hh, hl, -⟩ := id h
  obtain ⟨a1, c1, rfl, hl1, hl2, -⟩ := id hh
  obtain ⟨a2, c2, rfl, hl3, hl4, -⟩ := id hl
  unfold maxLen at hl2 hl4
  have HB : Hid (Below w.heap.size w (w.alloc (.cells (lArr l (.slice a1 l.held.length c1) (.slice a2 l.last.length c2)) 29))) := Lib.hid ((Below.refl _ _).alloc (Nat.le_refl _) _)
  obtain ⟨q0, q1, q2, q3⟩ := La.led_cells (heap_alloc_new w (.cells (lArr l (.slice a1 l.held.length c1) (.slice a2 l.last.length c2)) 29 (0, 0)))
  clear hh hl h
  by_cases h0 : l.limit = 0
  · have e0 : (l.limit == 0) = true := beq_iff_eq.2 (by omega)
    have H0 := Lib.hid h0
    clear h0
    by_cases h1 : l.next = 0
    · have e1 : (l.next == 0) = true := beq_iff_eq.2 (by omega)
      have H1 := Lib.hid h1
      clear h1
      by_cases h2 : l.held.length = 0
      · have e2 : ((l.held.length : Int) == 0) = true := beq_iff_eq.2 (by omega)
        have H2 := Lib.hid h2
        clear h2
        by_cases h3 : l.last.length = 0
        · have e3 : ((l.last.length : Int) == 0) = true := beq_iff_eq.2 (by omega)
          have H3 := Lib.hid h3
          clear h3
          go_enter Tryz.func89, Tryz.ntmps89
          go_wp2
          all_goals go_ret
          all_goals exact tells_yes ⟨H0.out, H1.out, H2.out, H3.out⟩ HB.out
        · have e3 : ((l.last.length : Int) == 0) = false := beq_eq_false_iff_ne.2 (by omega)
          have HN : Hid (¬ zLedg l) := Lib.hid (fun g => h3 g.2.2.2)
          clear h3
          go_enter Tryz.func89, Tryz.ntmps89
          go_wp2
          all_goals go_ret
          all_goals exact tells_no HN.out HB.out
      · have e2 : ((l.held.length : Int) == 0) = false := beq_eq_false_iff_ne.2 (by omega)
        have HN : Hid (¬ zLedg l) := Lib.hid (fun g => h2 g.2.2.1)
        clear h2
        go_enter Tryz.func89, Tryz.ntmps89
        go_wp2
        all_goals go_ret
        all_goals exact tells_no HN.out HB.out
    · have e1 : (l.next == 0) = false := beq_eq_false_iff_ne.2 (by omega)
      have HN : Hid (¬ zLedg l) := Lib.hid (fun g => h1 g.2.1)
      clear h1
      go_enter Tryz.func89, Tryz.ntmps89
      go_wp2
      all_goals go_ret
      all_goals exact tells_no HN.out HB.out
  · have e0 : (l.limit == 0) = false := beq_eq_false_iff_ne.2 (by omega)
    have HN : Hid (¬ zLedg l) := Lib.hid (fun g => h0 g.1)
    clear h0
    go_enter Tryz.func89, Tryz.ntmps89
    go_wp2
    all_goals go_ret
    all_goals exact tells_no HN.out HB.out
set_option maxHeartbeats 4000000 in
theorem noShot_any (s : Sho) (v : Value) (w : World) (h : IsShot w v s) : Calls Tryz.prog 69 #[v] w (Tells (zSho s) w) := by
  obtain ⟨vn, vh, vl, rfl, hn, hh, hl, hwf⟩ := h
  obtain ⟨an, cn, rfl, hn1, hn2, -⟩ := id hn
  obtain ⟨a1, c1, rfl, -⟩ := id hh
  obtain ⟨a2, c2, rfl, -⟩ := id hl
  unfold maxLen at hn2
  have hb0 : Below w.heap.size w (w.alloc (.cells (sArr s (.slice an s.nodes.length cn) (.slice a1 s.led.held.length c1) (.slice a2 s.led.last.length c2)) 31)) := (Below.refl _ _).alloc (Nat.le_refl _) _
  have HB := Lib.hid hb0
  have HI : Hid (IsLed (w.alloc (.cells (sArr s (.slice an s.nodes.length cn) (.slice a1 s.led.held.length c1) (.slice a2 s.led.last.length c2)) 31)) (.agg (lArr s.led (.slice a1 s.led.held.length c1) (.slice a2 s.led.last.length c2))) s.led) := Lib.hid ⟨_, _, rfl, hh.below hb0 (Nat.le_refl _), hl.below hb0 (Nat.le_refl _), hwf.2.2⟩
  obtain ⟨b0, b1, b2, b3, b4, b5, b6⟩ := Sh.cells7 (heap_alloc_new w (.cells (sArr s (.slice an s.nodes.length cn) (.slice a1 s.led.held.length c1) (.slice a2 s.led.last.length c2)) 31 (0, 0)))
  clear hn hh hl hwf hb0
  by_cases h0 : s.index = 0
  · have e0 : (s.index == 0) = true := beq_iff_eq.2 (by omega)
    have H0 := Lib.hid h0
    clear h0
    by_cases h1 : s.term = 0
    · have e1 : (s.term == 0) = true := beq_iff_eq.2 (by omega)
      have H1 := Lib.hid h1
      clear h1
      by_cases h2 : s.nodes.length = 0
      · have e2 : ((s.nodes.length : Int) == 0) = true := beq_iff_eq.2 (by omega)
        have H2 := Lib.hid h2
        clear h2
        go_enter Tryz.func69, Tryz.ntmps69
        go_wp2_with fail
        refine (noLedger_any s.led _ _ HI.out).mono ?_
        rintro e w1 ⟨b, rfl, hbb, hb1⟩
        have HF : Hid (Below w.heap.size w w1) := Lib.hid (HB.out.trans (hb1.mono HB.out.size))
        have HBB := Lib.hid hbb
        clear hb1 hbb
        go_wp2
        go_ret
        exact ⟨_, rfl, ⟨fun g => ⟨H0.out, H1.out, H2.out, HBB.out.1 g⟩, fun g => HBB.out.2 g.2.2.2⟩, HF.out⟩
      · have e2 : ((s.nodes.length : Int) == 0) = false := beq_eq_false_iff_ne.2 (by omega)
        have HN : Hid (¬ zSho s) := Lib.hid (fun g => h2 g.2.2.1)
        clear h2
        go_enter Tryz.func69, Tryz.ntmps69
        go_wp2
        all_goals go_ret
        all_goals exact tells_no HN.out HB.out
    · have e1 : (s.term == 0) = false := beq_eq_false_iff_ne.2 (by omega)
      have HN : Hid (¬ zSho s) := Lib.hid (fun g => h1 g.2.1)
      clear h1
      go_enter Tryz.func69, Tryz.ntmps69
      go_wp2
      all_goals go_ret
      all_goals exact tells_no HN.out HB.out
  · have e0 : (s.index == 0) = false := beq_eq_false_iff_ne.2 (by omega)
    have HN : Hid (¬ zSho s) := Lib.hid (fun g => h0 g.1)
    clear h0
    go_enter Tryz.func69, Tryz.ntmps69
    go_wp2
    all_goals go_ret
    all_goals exact tells_no HN.out HB.out
end Nv
end Go.Proofs.YtlfaiemebfkajaaGreatDoor
namespace Go.Proofs.YtlfaiemebfkajaaGreatDoor
open Go.ChangeShapes Go.WideShapes Go.ChangeAt Go.RowKit Go.Deep
set_option linter.unusedVariables false
set_option maxRecDepth 100000
structure RecR where
  kind : Int
  vote : Int
  boot : Int
  term : Int
  index : Int
  ent : Ent
  shot : Sho
abbrev rArr (r : RecR) (vc vn vh vl : Value) : Array Value := #[.int .i64 r.kind, .int .i64 r.vote, .int .u64 r.boot, .int .u64 r.term, .int .u64 r.index, .int .u64 r.ent.term, .int .i64 r.ent.cmd.kind, .int .i64 r.ent.cmd.node, .int .i64 r.ent.cmd.token, vc, .int .u64 r.ent.cmd.boot, .int .u64 r.ent.cmd.seq, .int .u64 r.ent.cmd.serial, .int .u64 r.ent.cmd.stamp, .int .u64 r.shot.index, .int .u64 r.shot.term, vn, .int .i64 r.shot.led.limit, .int .u64 r.shot.led.next, vh, vl]
abbrev zR : Array Value := #[.int .i64 0, .int .i64 0, .int .u64 0, .int .u64 0, .int .u64 0, .int .u64 0, .int .i64 0, .int .i64 0, .int .i64 0, .slice none 0 0, .int .u64 0, .int .u64 0, .int .u64 0, .int .u64 0, .int .u64 0, .int .u64 0, .slice none 0 0, .int .i64 0, .int .u64 0, .slice none 0 0, .slice none 0 0]
def RecR.wf (r : RecR) : Prop := (Lit.int .i64 r.kind).wf = true ∧ (Lit.int .i64 r.vote).wf = true ∧ (Lit.int .u64 r.boot).wf = true ∧ (Lit.int .u64 r.term).wf = true ∧ (Lit.int .u64 r.index).wf = true ∧ r.ent.wf ∧ r.shot.wf
/-- the lists of a record -/
def RecL (w : World) (r : RecR) (vc vn vh vl : Value) : Prop := Sl .i64 w vc r.ent.cmd.nodes ∧ Sl .i64 w vn r.shot.nodes ∧ SlR 5 heldC w vh r.shot.led.held ∧ SlR 6 lastC w vl r.shot.led.last
theorem RecL.below {w w' : World} {r : RecR} {vc vn vh vl : Value} {B : Nat} (h : RecL w r vc vn vh vl) (hb : Below B w w') (hB : w.heap.size ≤ B) : RecL w' r vc vn vh vl := ⟨h.1.below hb hB, h.2.1.below hb hB, h.2.2.1.below hb hB, h.2.2.2.below hb hB⟩
def IsRec (w : World) (v : Value) (r : RecR) : Prop := ∃ vc vn vh vl, v = .agg (rArr r vc vn vh vl) ∧ RecL w r vc vn vh vl ∧ r.wf
def IsRec.size (r : RecR) : Nat := 0
def IsRec.fits (r : RecR) : Prop := IsCmd.fits r.ent.cmd ∧ IsShot.fits r.shot
theorem IsRec.below {w w' : World} {v : Value} {r : RecR} {B : Nat} (h : IsRec w v r) (hb : Below B w w') (hB : w.heap.size ≤ B) : IsRec w' v r := by
  obtain ⟨vc, vn, vh, vl, e, h1, h2⟩ := h
  exact ⟨vc, vn, vh, vl, e, h1.below hb hB, h2⟩
section
variable {H : Type} {enc : TypeId × Value → H} {W : World}
end
namespace Rc
theorem rArr_one (r : RecR) (a b c d : Option Addr) (i j k m p q x y : Nat) : (rArr r (.slice a i j) (.slice b k m) (.slice c p q) (.slice d x y)).all (·.oneCell') = true := by simp [Value.oneCell']
def zEntV : Ent := ⟨0, ⟨0, 0, 0, [], 0, 0, 0, 0⟩⟩
def zShoV : Sho := ⟨0, 0, [], ⟨0, 0, [], []⟩⟩
def unusedR (r : RecR) : RecR :=
  if r.kind = 1 then { r with boot := 0 } else if r.kind = 2 then { r with term := 0, vote := 0 } else if r.kind = 3 then { r with index := 0, ent := zEntV } else if r.kind = 4 then { r with index := 0 } else if r.kind = 5 then { r with shot := zShoV } else r
theorem there_row {w : World} {g : Nat} {cs : Array Value} {t : TypeId} (h : w.heap[g]? = some (.cells cs t (0, 0))) (o n : Nat) (hn : o + n ≤ cs.size) : w.there g o n := by
  intro j hj
  refine ⟨?_, La.frozen_of h⟩
  rw [cell_of_row w g (o + j) _ _ _ h, Array.getElem?_eq_getElem (by omega)]
  rfl
def setsA : Array Value → Nat → List Value → Array Value
  | cs, _, [] => cs
  | cs, o, v :: r => setsA (cs.setIfInBounds o v) (o + 1) r
theorem heap_setCells (g : Nat) {t : TypeId} : ∀ (vs : List Value) (o : Nat) {w : World} {cs : Array Value}, w.heap[g]? = some (.cells cs t (0, 0)) → (w.setCells g o vs).heap[g]? = some (.cells (setsA cs o vs) t (0, 0))
  | [], _, _, _, h => h
  | v :: r, o, w, cs, h => heap_setCells g r (o + 1) (heap_setCell_same w g o _ _ v h)
theorem zEnt_wf : zEntV.wf := ⟨by decide, by unfold Cmd.wf; decide⟩
theorem zSho_wf : zShoV.wf := ⟨by decide, by decide, by decide, by decide, by simp [zShoV], by simp [zShoV]⟩
theorem setCells_other (g q : Nat) : ∀ (vs : List Value) (o : Nat) {w : World}, q ≠ g → (w.setCells g o vs).heap[q]? = w.heap[q]?
  | [], _, _, _ => rfl
  | v :: r, o, w, h => (setCells_other g q r (o + 1) h).trans (heap_setCell_other _ _ _ _ (by show q ≠ g; exact h))
theorem setCells_below (p : Nat) {g : Nat} (hg : p ≤ g) : ∀ (vs : List Value) (o : Nat) (w : World), Below p w (w.setCells g o vs)
  | [], _, _ => Below.refl _ _
  | v :: r, o, w => ((Below.refl _ _).setCell hg _).trans (setCells_below p hg r (o + 1) _)
def GivesRec (r : RecR) (w : World) (e : Ending) (w' : World) : Prop := ∃ v, e = .returned v ∧ IsRec w' v r ∧ Below w.heap.size w w'
end Rc
end Go.Proofs.YtlfaiemebfkajaaGreatDoor
namespace Go.Proofs.YtlfaiemebfkajaaGreatDoor
open Go.ChangeShapes Go.WideShapes Go.ChangeAt Go.RowKit Go.Deep
set_option linter.unusedVariables false
set_option maxRecDepth 100000
namespace Rc
open Nv
def usedP (r : RecR) : Prop := (r.kind = 1 ∧ 1 ≤ r.boot) ∨ (r.kind = 2 ∧ 1 ≤ r.term ∧ 0 ≤ r.vote ∧ r.vote ≤ 7) ∨ (r.kind = 3 ∧ 1 ≤ r.index ∧ Hd.fitsB r.ent = true) ∨ (r.kind = 4 ∧ 1 ≤ r.index) ∨ (r.kind = 5 ∧ Sh.shotOk r.shot)
theorem ent_led {w w1 : World} {r : RecR} {vc vn vh vl : Value} (h : RecL w r vc vn vh vl) (hw : r.wf) (hb : Below w.heap.size w w1) : Hd.IsEnt w1 (.agg (entC (r.ent, vc)).toArray) r.ent ∧ IsShot w1 (.agg (sArr r.shot vn vh vl)) r.shot :=
  ⟨⟨vc, rfl, h.1.below hb (Nat.le_refl _), hw.2.2.2.2.2.1⟩, ⟨vn, vh, vl, rfl, h.2.1.below hb (Nat.le_refl _), h.2.2.1.below hb (Nat.le_refl _), h.2.2.2.below hb (Nat.le_refl _), hw.2.2.2.2.2.2⟩⟩
end Rc
end Go.Proofs.YtlfaiemebfkajaaGreatDoor
namespace Go.Proofs.YtlfaiemebfkajaaGreatDoor
open Go.ChangeShapes Go.WideShapes Go.ChangeAt Go.RowKit Go.Deep
set_option linter.unusedVariables false
set_option maxRecDepth 100000
namespace Rc
open Nv
def fitsP (r : RecR) : Prop := (unusedR r).vote = 0 ∧ (unusedR r).boot = 0 ∧ (unusedR r).term = 0 ∧ (unusedR r).index = 0 ∧ zEnt (unusedR r).ent ∧ zSho (unusedR r).shot ∧ usedP r
end Rc
end Go.Proofs.YtlfaiemebfkajaaGreatDoor
namespace Go.Proofs.YtlfaiemebfkajaaGreatDoor
open Go.ChangeShapes Go.WideShapes Go.ChangeAt Go.RowKit Go.Deep
set_option linter.unusedVariables false
set_option maxRecDepth 100000
namespace Rc
open Nv
end Rc
end Go.Proofs.YtlfaiemebfkajaaGreatDoor
