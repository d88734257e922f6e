/- Whether the last answers may be: ledger.lastFits. No condition. -/
import Derived.Test.YtlkmdoddgfmnbaaLcB
namespace Go.Proofs.Ytlkmdoddgfmnbaa
open Go.ChangeShapes Go.WideShapes Go.ChangeAt Go.RowKit
set_option linter.unusedVariables false
set_option maxRecDepth 100000
namespace Ld
def SaysL (l : Led) (w : World) (e : Ending) (w' : World) : Prop := ∃ b, e = .returned (.bool b) ∧ (b = true ↔ lastsOk l) ∧ Below w.heap.size w w'
theorem saysL_no {l : Led} (h : ¬ lastsOk l) {w w' : World} (hb : Below w.heap.size w w') : SaysL l w (.returned (.bool false)) w' := ⟨_, rfl, ⟨fun h => (by cases h), fun h2 => absurd h2 h⟩, hb⟩
theorem saysL_yes {l : Led} (h : lastsOk l) {w w' : World} (hb : Below w.heap.size w w') : SaysL l w (.returned (.bool true)) w' := ⟨_, rfl, ⟨fun _ => h, fun _ => rfl⟩, hb⟩
theorem after_hasN {w wr w2 W0 : World} {cs : Array Value} {T : TypeId} (hB : Below (w.heap.size + 1) W0 wr) (hz : w.heap.size < wr.heap.size)
    (hbb : Below (wr.alloc (.cells cs T)).heap.size (wr.alloc (.cells cs T)) w2) : Below (w.heap.size + 1) W0 w2 ∧ ∀ j u, cs[j]? = some u → w2.cell? ⟨wr.heap.size, j, none⟩ = some u := by
  have hs : (wr.alloc (.cells cs T)).heap.size = wr.heap.size + 1 := by simp
  refine ⟨(hB.alloc hz _).trans (hbb.mono (by omega)), fun j u hu => ?_⟩
  have h := (hbb.block wr.heap.size (by omega)).trans (heap_alloc_new _ _)
  rw [cell_of_row w2 _ j _ _ _ h]
  exact hu

set_option maxHeartbeats 4000000 in
theorem lastFits_any (l : Led) (v : Value) (w : World) (h : IsLed w v l) :
    Calls Try.prog 58 #[v] w (SaysL l w) := by
  obtain ⟨vh, vl, rfl, hh, hl, hwf⟩ := h
  have HWF := Lib.hid hwf
  clear hh hwf
  obtain ⟨a, cap, rfl, h1, h2, h4⟩ := hl
  unfold maxLen at h2
  have HO4 := Lib.hid h4
  clear h4
  go_enter Try.func58, Try.ntmps58
  go_wp2
  go_loopw [3, 9] (fun bf i wr => ∃ k : Nat, k ≤ l.last.length ∧ i = .int .i64 k ∧ bf = .int .i64 (befL (l.last.take k)) ∧ Hid (lastUp l k) ∧ Below (w.heap.size + 1) (w.alloc (.cells (lArr l vh (.slice a l.last.length cap)) 26)) wr) (fun _ i _ => l.last.length - (intOf i).toNat)
  case atStart => exact ⟨0, Nat.zero_le _, rfl, rfl, Lib.hid (lastUp_zero l), Below.refl _ _⟩
  case round =>
    obtain ⟨k, hk, rfl, rfl, HU, hb⟩ := hrel
    by_cases hlt2 : k < l.last.length
    · obtain ⟨b, off, rfl, hlt, hc⟩ := rows_open hlt2 HO4.out
      have hbw := box_below hb
      obtain ⟨hL, hN, hH, hK⟩ := box_cells hb
      have hce := fun j u hu => (hbw.cell (p := ⟨b, off + (k * 6 + j), none⟩) hlt).trans (hc k _ (rgetD hlt2) j u hu)
      have HT := Lib.hid (rtake hlt2)
      have HG := Lib.hid (rgetD hlt2)
      have HM := Lib.hid (List.getElem_mem hlt2)
      have HBW := Lib.hid hbw
      have HBB := Lib.hid hb
      clear hc hbw
      generalize l.last[k] = x at *
      obtain ⟨x0, x1, x2, x3, x4, x5⟩ := last_cells hce
      have HZ : Hid (0 ≤ x.serial) := Lib.hid (by obtain ⟨-, -, -, -, -, q⟩ := HWF.out.2.2.2 x HM.out; exact u64_nonneg q)
      have HNO : Hid (¬ lastOk l.limit l.next (befL (l.last.take k)) x → ¬ lastsOk l) := Lib.hid (fun h h2 => h (h2 k x hlt2 HG.out))
      have hzw : w.heap.size < wr.heap.size := by have := hb.size; simp at this; omega
      have HAL : Hid (∀ o, Below w.heap.size w (wr.alloc o)) := Lib.hid (fun o => HBW.out.alloc (Nat.le_of_lt hzw) o)
      clear hce hb
      have HZ2 : Hid (befL (l.last.take (k + 1)) = x.node) := Lib.hid (by rw [HT.out, befL_snoc])
      generalize hbf0 : befL (l.last.take k) = z at *
      have HBF := Lib.hid hbf0
      clear hbf0
      by_cases c1 : x.node ≤ z
      · have HE := Lib.hid (HNO.out (by unfold lastOk; omega))
        go_wp2
        go_ret
        exact saysL_no HE.out (HAL.out _)
      have c1' : z < x.node := by omega
      clear c1
      by_cases c3 : 1 ≤ x.node ∧ x.node ≤ 7
      · obtain ⟨c3a, c3b⟩ := c3
        go_wp2_with fail
        refine (isNode_yes x.node _ c3a c3b).mono ?_
        rintro e w' ⟨rfl, rfl⟩
        by_cases c4 : x.boot = 0
        · have HE := Lib.hid (HNO.out (by unfold lastOk; omega))
          have e4 : (x.boot == 0) = true := beq_iff_eq.2 c4
          clear c4
          go_wp2
          go_ret
          exact saysL_no HE.out (HAL.out _)
        have e4 : (x.boot == 0) = false := beq_eq_false_iff_ne.2 c4
        have C4 := Lib.hid c4
        clear c4
        by_cases c5 : x.seq = 0
        · have HE := Lib.hid (HNO.out (by unfold lastOk; omega))
          have e5 : (x.seq == 0) = true := beq_iff_eq.2 c5
          clear c5
          go_wp2
          go_ret
          exact saysL_no HE.out (HAL.out _)
        have e5 : (x.seq == 0) = false := beq_eq_false_iff_ne.2 c5
        have C5 := Lib.hid c5
        clear c5
        go_wp2_with fail
        refine (answerFits_any l vh _ x.code x.token x.serial _ HZ.out).mono ?_
        rintro e w2 ⟨b2, rfl, hb2, hbb⟩
        have HB9 := Lib.hid hb2
        obtain ⟨hC2, hcell⟩ := after_hasN HBB.out hzw hbb
        have h0 : w2.cell? ⟨wr.heap.size, 0, none⟩ = some (.int .i64 x.node) := hcell 0 _ rfl
        have HC := Lib.hid hC2
        clear hcell hbb hC2 hb2
        cases b2
        · have HE := Lib.hid (HNO.out (fun h => by cases HB9.out.2 h.2.2.2.2.2))
          go_wp2
          go_ret
          exact saysL_no HE.out (box_below HC.out)
        · have HR : Hid (lastOk l.limit l.next z x) := Lib.hid ⟨c1', c3a, c3b, C4.out, C5.out, HB9.out.1 rfl⟩
          go_wp2
          go_roundw
          case rel => exact ⟨k + 1, by omega, by go_num, by rw [HZ2.out], Lib.hid (lastUp_succ HU.out HG.out (by rw [HBF.out]; exact HR.out)), HC.out⟩
          case measure => simp [intOf]; omega
      · have HE := Lib.hid (HNO.out (by unfold lastOk; omega))
        have c3' : x.node < 1 ∨ 7 < x.node := by omega
        clear c3
        go_wp2_with fail
        refine (isNode_no x.node _ c3').mono ?_
        rintro e w' ⟨rfl, rfl⟩
        go_wp2
        go_ret
        exact saysL_no HE.out (HAL.out _)
    · obtain rfl : k = l.last.length := by omega
      have HBW := Lib.hid (box_below hb)
      go_wp2
      go_ret
      exact saysL_yes HU.out HBW.out
end Ld
end Go.Proofs.Ytlkmdoddgfmnbaa
