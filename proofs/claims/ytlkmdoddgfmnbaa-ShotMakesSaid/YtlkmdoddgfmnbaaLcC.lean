/- Whether the rows that are held may be: ledger.heldFits. No condition. -/
import Derived.Test.YtlkmdoddgfmnbaaLcA
import Derived.BigRegion
import Derived.Deep.RegionWith
namespace Go.Proofs.Ytlkmdoddgfmnbaa
open Go.ChangeShapes Go.WideShapes Go.ChangeAt Go.RowKit
set_option linter.unusedVariables false
set_option maxRecDepth 100000
namespace Ld
def SaysH (l : Led) (w : World) (e : Ending) (w' : World) : Prop := ∃ b, e = .returned (.bool b) ∧ (b = true ↔ heldOk l) ∧ Below w.heap.size w w'
theorem saysH_no {l : Led} (h : ¬ heldOk l) {w w' : World} (hb : Below w.heap.size w w') : SaysH l w (.returned (.bool false)) w' := ⟨_, rfl, ⟨fun h => (by cases h), fun h2 => absurd h2 h⟩, hb⟩
theorem saysH_yes {l : Led} (h : heldOk l) {w w' : World} (hb : Below w.heap.size w w') : SaysH l w (.returned (.bool true)) w' := ⟨_, rfl, ⟨fun _ => h, fun _ => rfl⟩, hb⟩

theorem after_has {w wr w2 W0 : World} {cs : Array Value} {T : TypeId} (hB : Below (w.heap.size + 1) W0 wr) (hz : w.heap.size < wr.heap.size)
    (hbb : Below ((wr.alloc (.cells cs T)).drew).heap.size ((wr.alloc (.cells cs T)).drew) w2) : Below (w.heap.size + 1) W0 w2 ∧ ∀ j u, cs[j]? = some u → w2.cell? ⟨wr.heap.size, j, none⟩ = some u := by
  have hs : ((wr.alloc (.cells cs T)).drew).heap.size = wr.heap.size + 1 := by simp [World.drew]
  refine ⟨((hB.alloc hz _).drew).trans (hbb.mono (by omega)), fun j u hu => ?_⟩
  have h := (hbb.block wr.heap.size (by omega)).trans (show ((wr.alloc (.cells cs T)).drew).heap[wr.heap.size]? = _ from heap_alloc_new _ _)
  rw [cell_of_row w2 _ j _ _ _ h]
  exact hu

set_option maxHeartbeats 4000000 in
theorem heldFits_any (l : Led) (v : Value) (w : World) (h : IsLed w v l) :
    Calls Try.prog 57 #[v] w (SaysH l w) := by
  obtain ⟨vh, vl, rfl, hh, hl, hwf⟩ := h
  have HWF := Lib.hid hwf
  clear hl hwf
  obtain ⟨a, cap, rfl, h1, h2, h4⟩ := hh
  unfold maxLen at h2
  have HO4 := Lib.hid h4
  clear h4
  by_cases h64 : l.held.length ≤ 64
  · go_enter Try.func57, Try.ntmps57
    go_wp2
    go_loopw [3, 13] (fun bf i wr => ∃ k : Nat, k ≤ l.held.length ∧ i = .int .i64 k ∧ bf = .int .i64 (bef (l.held.take k)) ∧ Hid (heldUp l k) ∧ Below (w.heap.size + 1) (w.alloc (.cells (lArr l (.slice a l.held.length cap) vl) 26)) wr) (fun _ i _ => l.held.length - (intOf i).toNat)
    case atStart => exact ⟨0, Nat.zero_le _, rfl, rfl, Lib.hid (heldUp_zero l), Below.refl _ _⟩
    case round =>
      obtain ⟨k, hk, rfl, rfl, HU, hb⟩ := hrel
      by_cases hlt2 : k < l.held.length
      · obtain ⟨b, off, rfl, hlt, hc⟩ := rows_open hlt2 HO4.out
        have hbw := box_below hb
        obtain ⟨hL, hN, hH, -⟩ := box_cells hb
        have hce := fun j u hu => (hbw.cell (p := ⟨b, off + (k * 5 + j), none⟩) hlt).trans (hc k _ (rgetD hlt2) j u hu)
        have HT := Lib.hid (rtake hlt2)
        have HG := Lib.hid (rgetD hlt2)
        have HM := Lib.hid (List.getElem_mem hlt2)
        have hpre : SlR 5 heldC wr (.slice (some ⟨b, off, none⟩) k cap) (l.held.take k) := by
          refine ⟨_, cap, by rw [List.length_take, Nat.min_eq_left hk], by rw [List.length_take, Nat.min_eq_left hk]; omega, h2, .inr ⟨b, off, none, rfl, .inr ⟨rfl, Nat.lt_of_lt_of_le hlt hbw.size, fun i x hx j u hu => ?_⟩⟩⟩
          have hik : i < k := by
            rcases Nat.lt_or_ge i k with h | h
            · exact h
            · rw [List.getElem?_eq_none (by rw [List.length_take]; omega)] at hx; cases hx
          rw [List.getElem?_take_of_lt hik] at hx
          exact (hbw.cell (p := ⟨b, off + (i * 5 + j), none⟩) hlt).trans (hc i x hx j u hu)
        have HP := Lib.hid hpre
        have HBW := Lib.hid hbw
        have HBB := Lib.hid hb
        clear hc hpre hbw
        generalize l.held[k] = x at *
        obtain ⟨x0, x1, x2, x3, x4⟩ := held_cells hce
        have HZ : Hid (0 ≤ x.boot ∧ 0 ≤ x.serial ∧ 0 ≤ x.stamp) := Lib.hid (by obtain ⟨-, -, q1, q2, q3⟩ := HWF.out.2.2.1 x HM.out; exact ⟨u64_nonneg q1, u64_nonneg q2, u64_nonneg q3⟩)
        have HNO : Hid (¬ rowOk l.limit l.next (bef (l.held.take k)) (l.held.take k) x → ¬ heldOk l) := Lib.hid (fun h h2 => h (h2.2 k x hlt2 HG.out))
        have hzw : w.heap.size < wr.heap.size := by have := hb.size; simp at this; omega
        have HAL : Hid (∀ o, Below w.heap.size w (wr.alloc o)) := Lib.hid (fun o => HBW.out.alloc (Nat.le_of_lt hzw) o)
        clear hce hb
        have HZ2 : Hid (bef (l.held.take (k + 1)) = x.token) := Lib.hid (by rw [HT.out, bef_snoc])
        generalize hbf0 : bef (l.held.take k) = z at *
        have HBF := Lib.hid hbf0
        clear hbf0
        by_cases c1 : x.token ≤ z
        · have HE := Lib.hid (HNO.out (by unfold rowOk; omega))
          go_wp2
          go_ret
          exact saysH_no HE.out (HAL.out _)
        by_cases c2 : l.limit < x.token
        · have HE := Lib.hid (HNO.out (by unfold rowOk; omega))
          have c1' : z < x.token := by omega
          clear c1
          go_wp2
          go_ret
          exact saysH_no HE.out (HAL.out _)
        have c1' : z < x.token := by omega
        have c2' : x.token ≤ l.limit := by omega
        clear c1 c2
        by_cases c3 : 1 ≤ x.node ∧ x.node ≤ 7
        · obtain ⟨c3a, c3b⟩ := c3
          go_wp2_with fail
          refine (isNode_yes x.node _ c3a c3b).mono ?_
          rintro e w' ⟨rfl, rfl⟩
          by_cases c4 : x.boot = 0
          · have HE := Lib.hid (HNO.out (by unfold rowOk; omega))
            have e4 : (x.boot == 0) = true := beq_iff_eq.2 c4
            clear c4
            go_wp2
            go_ret
            exact saysH_no HE.out (HAL.out _)
          have e4 : (x.boot == 0) = false := beq_eq_false_iff_ne.2 c4
          have C4 := Lib.hid c4
          clear c4
          by_cases c5 : x.stamp = 0
          · have HE := Lib.hid (HNO.out (by unfold rowOk; omega))
            have e5 : (x.stamp == 0) = true := beq_iff_eq.2 c5
            clear c5
            go_wp2
            go_ret
            exact saysH_no HE.out (HAL.out _)
          have e5 : (x.stamp == 0) = false := beq_eq_false_iff_ne.2 c5
          have C5 := Lib.hid c5
          clear c5
          go_wp2
          by_cases c6 : x.serial = 0
          · have HE := Lib.hid (HNO.out (by unfold rowOk; omega))
            have e6 : (x.serial == 0) = true := beq_iff_eq.2 c6
            clear c6
            go_quiet (fail)
            go_wp2
            go_ret
            exact saysH_no HE.out ((HAL.out _).trans (below_drewN _ _))
          have e6 : (x.serial == 0) = false := beq_eq_false_iff_ne.2 c6
          have C6 := Lib.hid c6
          clear c6
          by_cases c7 : l.next ≤ x.serial
          · have HE := Lib.hid (HNO.out (by unfold rowOk; omega))
            have e7 : decide (l.next ≤ x.serial) = true := decide_eq_true c7
            go_quiet (fail)
            go_wp2
            go_ret
            exact saysH_no HE.out ((HAL.out _).trans (below_drewN _ _))
          have e7 : decide (l.next ≤ x.serial) = false := decide_eq_false c7
          have c7' : x.serial < l.next := by omega
          have C7 := Lib.hid c7'
          clear c7
          have HP2 : Hid (∀ o, SlR 5 heldC ((wr.alloc o).drew) (.slice (some ⟨b, off, none⟩) k cap) (l.held.take k)) := Lib.hid (fun o => HP.out.below (((Below.refl _ _).alloc (Nat.le_refl _) _).drew) (Nat.le_refl _))
          have HB2 : Hid (∀ o, Below w.heap.size w ((wr.alloc o).drew)) := Lib.hid (fun o => (HAL.out o).drew)
          have HB3 : Hid (∀ o, Below (w.heap.size + 1) (w.alloc (.cells (lArr l (.slice (some ⟨b, off, none⟩) l.held.length cap) vl) 26)) ((wr.alloc o).drew)) := Lib.hid (fun o => (HBB.out.alloc hzw o).drew)
          go_region_with ((go_at_call 105; refine (hasSerial_any (l.held.take k) _ x.serial _ (HP2.out _)).mono ?_; rintro e w2 ⟨b2, rfl, hb2, hbb⟩))
          all_goals
            obtain ⟨hC2, hcell⟩ := after_has HBB.out hzw hbb
            have h0 : w2.cell? ⟨wr.heap.size, 0, none⟩ = some (.int .i64 x.token) := hcell 0 _ rfl
            have HB9 := Lib.hid hb2
            have HC := Lib.hid hC2
            clear hcell hbb hC2 hb2
            cases b2
            · have HS : Hid (∀ y ∈ l.held.take k, y.serial ≠ x.serial) := Lib.hid (fun y hy he => by cases HB9.out.2 ⟨y, hy, he⟩)
              have HR : Hid (rowOk l.limit l.next z (l.held.take k) x) := Lib.hid ⟨c1', c2', c3a, c3b, C4.out, C5.out, C6.out, C7.out, HS.out⟩
              go_wp2
              go_roundw
              case rel => exact ⟨k + 1, by omega, by go_num, by rw [HZ2.out], Lib.hid (heldUp_succ HU.out HG.out (by rw [HBF.out]; exact HR.out)), HC.out⟩
              case measure => simp [intOf]; omega
            · have HE := Lib.hid (HNO.out (by obtain ⟨y, hy, he⟩ := HB9.out.1 rfl; exact fun h => h.2.2.2.2.2.2.2.2 y hy he))
              go_wp2
              go_ret
              exact saysH_no HE.out (box_below HC.out)
        · have HE := Lib.hid (HNO.out (by unfold rowOk; omega))
          have c3' : x.node < 1 ∨ 7 < x.node := by omega
          clear c3
          go_wp2_with fail
          refine (isNode_no x.node _ c3').mono ?_
          rintro e w' ⟨rfl, rfl⟩
          go_wp2
          go_ret
          exact saysH_no HE.out (HAL.out _)
      · obtain rfl : k = l.held.length := by omega
        have HBW := Lib.hid (box_below hb)
        go_wp2
        go_ret
        exact saysH_yes ⟨h64, HU.out⟩ HBW.out
  · have HE : Hid (¬ heldOk l) := Lib.hid (fun h => h64 h.1)
    have h65 : 64 < l.held.length := by omega
    have h66 : (64 : Int) < (l.held.length : Int) := by omega
    clear h64
    go_enter Try.func57, Try.ntmps57
    go_wp2
    go_ret
    exact saysH_no HE.out ((Below.refl _ _).alloc (Nat.le_refl _) _)
end Ld
end Go.Proofs.Ytlkmdoddgfmnbaa
