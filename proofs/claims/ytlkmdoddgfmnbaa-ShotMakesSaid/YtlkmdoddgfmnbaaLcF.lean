/- Which ledgers may be: ledger.Check. No condition. -/
import Derived.Test.YtlkmdoddgfmnbaaLcC
import Derived.Test.YtlkmdoddgfmnbaaLcD
namespace Go.Proofs.Ytlkmdoddgfmnbaa
open Go.ChangeShapes Go.WideShapes Go.ChangeAt Go.RowKit
set_option linter.unusedVariables false
set_option maxRecDepth 100000
namespace Ld
def SaysC (l : Led) (w : World) (e : Ending) (w' : World) : Prop := ∃ z : Int, e = .returned (.int .i64 z) ∧ ((z = 0 ∧ ledOk l) ∨ (z = 50 ∧ ¬ ledOk l)) ∧ Below w.heap.size w w'
theorem saysC_no {l : Led} (h : ¬ ledOk l) {w w' : World} (hb : Below w.heap.size w w') : SaysC l w (.returned (.int .i64 50)) w' := ⟨_, rfl, .inr ⟨rfl, h⟩, hb⟩
theorem saysC_yes {l : Led} (h : ledOk l) {w w' : World} (hb : Below w.heap.size w w') : SaysC l w (.returned (.int .i64 0)) w' := ⟨_, rfl, .inl ⟨rfl, h⟩, hb⟩

set_option maxHeartbeats 4000000 in
theorem check_any (l : Led) (v : Value) (w : World) (h : IsLed w v l) :
    Calls Try.prog 21 #[v] w (SaysC l w) := by
  obtain ⟨vh, vl, rfl, hh, hl, hwf⟩ := id h
  have hb0 : Below w.heap.size w (w.alloc (.cells (lArr l vh vl) 26)) := (Below.refl _ _).alloc (Nat.le_refl _) _
  have HB := Lib.hid hb0
  have HI := Lib.hid (h.below hb0 (Nat.le_refl _))
  clear hh hl hwf h hb0
  have hr : Below (w.heap.size + 1) (w.alloc (.cells (lArr l vh vl) 26)) (w.alloc (.cells (lArr l vh vl) 26)) := Below.refl _ _
  obtain ⟨b0, b1, b2, b3⟩ := box_cells hr
  clear hr
  by_cases c1 : l.limit < 1
  · have HE : Hid (¬ ledOk l) := Lib.hid (by unfold ledOk; omega)
    go_enter Try.func21, Try.ntmps21
    go_wp2
    go_ret
    exact saysC_no HE.out HB.out
  have c1' : 1 ≤ l.limit := by omega
  clear c1
  by_cases c2 : 65535 < l.limit
  · have HE : Hid (¬ ledOk l) := Lib.hid (by unfold ledOk; omega)
    go_enter Try.func21, Try.ntmps21
    go_wp2
    go_ret
    exact saysC_no HE.out HB.out
  have c2' : l.limit ≤ 65535 := by omega
  clear c2
  by_cases c3 : l.next = 0
  · have HE : Hid (¬ ledOk l) := Lib.hid (by unfold ledOk; omega)
    have e3 : (l.next == 0) = true := beq_iff_eq.2 c3
    clear c3
    go_enter Try.func21, Try.ntmps21
    go_wp2
    go_ret
    exact saysC_no HE.out HB.out
  have e3 : (l.next == 0) = false := beq_eq_false_iff_ne.2 c3
  have C3 := Lib.hid c3
  clear c3
  go_enter Try.func21, Try.ntmps21
  go_wp2_with fail
  refine (heldFits_any l _ _ HI.out).mono ?_
  rintro e w1 ⟨t1, rfl, ht1, hb1⟩
  have HT1 := Lib.hid ht1
  have hb1' : Below (w.heap.size + 1) (w.alloc (.cells (lArr l vh vl) 26)) w1 := hb1.mono (by simp)
  have HB1 := Lib.hid (box_below hb1')
  have HI1 := Lib.hid (HI.out.below hb1 (Nat.le_refl _))
  obtain ⟨d0, d1, d2, d3⟩ := box_cells hb1'
  have HX := Lib.hid hb1'
  clear hb1' hb1 ht1
  cases t1
  · have HE : Hid (¬ ledOk l) := Lib.hid (fun h => by cases HT1.out.2 h.2.2.2.1)
    go_wp2
    go_ret
    exact saysC_no HE.out HB1.out
  go_wp2_with fail
  refine (lastFits_any l _ _ HI1.out).mono ?_
  rintro e w2 ⟨t2, rfl, ht2, hb2⟩
  have HT2 := Lib.hid ht2
  have HB2 := Lib.hid (HB1.out.trans (hb2.mono HB1.out.size))
  clear hb2 ht2
  cases t2
  · have HE : Hid (¬ ledOk l) := Lib.hid (fun h => by cases HT2.out.2 h.2.2.2.2)
    go_wp2
    go_ret
    exact saysC_no HE.out HB2.out
  have HE : Hid (ledOk l) := Lib.hid ⟨c1', c2', C3.out, HT1.out.1 (by first | trivial | rfl), HT2.out.1 (by first | trivial | rfl)⟩
  go_wp2
  go_ret
  exact saysC_yes HE.out HB2.out
end Ld
end Go.Proofs.Ytlkmdoddgfmnbaa
