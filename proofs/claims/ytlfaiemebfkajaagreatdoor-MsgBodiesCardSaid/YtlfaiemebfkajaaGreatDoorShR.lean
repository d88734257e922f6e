/- Which snapshots may be, by the document's own answer. No condition. -/
import Derived.Test.YtlfaiemebfkajaaGreatDoorShC
import Derived.Test.YtlfaiemebfkajaaGreatDoorLcG
namespace Go.Proofs.YtlfaiemebfkajaaGreatDoor
open Go.ChangeShapes Go.WideShapes Go.ChangeAt Go.RowKit
set_option linter.unusedVariables false
set_option maxRecDepth 100000
namespace Sh
def baseOk (s : Sho) : Prop := Nd.chk s.nodes = true ∧ Ld.ledOk s.led ∧ (s.index = 0 ↔ s.term = 0)
theorem shot_iff (s : Sho) : shotOk s ↔ baseOk s ∧ stampsUp s s.led.held.length := ⟨fun h => ⟨⟨h.1, h.2.1, h.2.2.1⟩, h.2.2.2⟩, fun h => ⟨h.1.1, h.1.2.1, h.1.2.2, h.2⟩⟩

set_option maxHeartbeats 8000000 in
theorem rcheck_any (s : Sho) (v : Value) (w : World) (h : IsShot w v s) :
    Calls Tryz.prog 50 #[v] w (SaysS s w) := by
  obtain ⟨vn, vh, vl, rfl, hn, hh, hl, hwf⟩ := h
  have hb0 : Below w.heap.size w (w.alloc (.cells (sArr s vn vh vl) 31)) := (Below.refl _ _).alloc (Nat.le_refl _) _
  have HB := Lib.hid hb0
  have HN := Lib.hid (hn.below hb0 (Nat.le_refl _))
  have HI : Hid (IsLed (w.alloc (.cells (sArr s vn vh vl) 31)) (.agg (lArr s.led vh vl)) s.led) := Lib.hid ⟨vh, vl, rfl, hh.below hb0 (Nat.le_refl _), hl.below hb0 (Nat.le_refl _), hwf.2.2⟩
  obtain ⟨a, cap, rfl, h1, h2, h4⟩ := hh
  unfold maxLen at h2
  have HO4 := Lib.hid h4
  have hr : Below (w.heap.size + 1) (w.alloc (.cells (sArr s vn (.slice a s.led.held.length cap) vl) 31)) (w.alloc (.cells (sArr s vn (.slice a s.led.held.length cap) vl) 31)) := Below.refl _ _
  obtain ⟨b0, b1, b2, b3, b4, b5, b6⟩ := cells7 (box_cells hr)
  have HR := Lib.hid hr
  clear hn hl hwf hb0 h4 hr
  cases hc : Nd.chk s.nodes with
  | false =>
    have hE : Nd.errOf (Nd.chk s.nodes) = 1 := by rw [hc]; rfl
    have HE := Lib.hid hE
    have HG0 : Hid (false = true ↔ baseOk s ∧ stampsUp s 0) := Lib.hid ⟨fun h => (by cases h), fun h => (by have := h.1.1; rw [hc] at this; cases this)⟩
    clear hc hE
    go_enter Tryz.func50, Tryz.ntmps50
    go_wp2_with fail
    refine (Nd.rcheck_any _ _ _ HN.out).mono ?_
    rintro e w' ⟨rfl, rfl⟩
    rw [HE.out]
    go_wp2
    go_loopw [3, 29] (fun gv i wr => ∃ (k : Nat) (g : Bool), k ≤ s.led.held.length ∧ i = .int .i64 k ∧ gv = .bool g ∧ Hid (g = true ↔ baseOk s ∧ stampsUp s k) ∧ Below (w.heap.size + 1) (w.alloc (.cells (sArr s vn (.slice a s.led.held.length cap) vl) 31)) wr) (fun _ i _ => s.led.held.length - (intOf i).toNat)
    case atStart => exact ⟨0, false, Nat.zero_le _, rfl, rfl, Lib.hid (by simpa using HG0.out), HR.out⟩
    case round =>
      clear b0 b1 b2 b3 b4 b5 b6
      obtain ⟨k, g, hk, rfl, rfl, HU, hb⟩ := hrel
      by_cases hlt2 : k < s.led.held.length
      · obtain ⟨b, off, rfl, hlt, hc⟩ := Ld.rows_open hlt2 HO4.out
        have hbw := box_below hb
        have hce := fun j u hu => (hbw.cell (p := ⟨b, off + (k * 5 + j), none⟩) hlt).trans (hc k _ (Ld.rgetD hlt2) j u hu)
        have HG := Lib.hid (Ld.rgetD hlt2)
        have HBB := Lib.hid hb
        have hzw : w.heap.size < wr.heap.size := by have := hb.size; simp at this; omega
        obtain ⟨b0, b1, b2, b3, b4, b5, b6⟩ := cells7 (box_cells hb)
        clear hc hbw hb
        have hgx : ∃ x, s.led.held[k] = x := ⟨_, rfl⟩
        obtain ⟨x, hx⟩ := hgx
        rw [hx] at HG hce
        clear hx
        obtain ⟨x0, x1, x2, x3, x4⟩ := Ld.held_cells hce
        clear hce
        cases g
        · go_wp2
          go_roundw
          case rel => exact ⟨k + 1, false, by omega, by go_num, rfl, Lib.hid ⟨fun h => (by cases h), fun h => HU.out.2 ⟨h.1, fun j y hj hy => h.2 j y (by omega) hy⟩⟩, HBB.out.alloc hzw _⟩
          case measure => simp [intOf]; omega
        · have HST : Hid (decide (x.stamp ≤ s.index) = true ↔ baseOk s ∧ stampsUp s (k + 1)) := Lib.hid ⟨fun h => ⟨(HU.out.1 rfl).1, stamps_succ (HU.out.1 rfl).2 HG.out (of_decide_eq_true h)⟩, fun h => decide_eq_true (h.2 k x (by omega) HG.out)⟩
          go_wp2
          go_roundw
          case rel => exact ⟨k + 1, _, by omega, by go_num, rfl, HST, HBB.out.alloc hzw _⟩
          case measure => simp [intOf]; omega
      · obtain rfl : k = s.led.held.length := by omega
        have HBW := Lib.hid (box_below hb)
        cases g
        · have HF : Hid (¬ shotOk s) := Lib.hid (fun h => by cases HU.out.2 ((shot_iff s).1 h))
          go_wp2
          go_ret
          exact says_no HF.out HBW.out
        · have HF : Hid (shotOk s) := Lib.hid ((shot_iff s).2 (HU.out.1 rfl))
          go_wp2
          go_ret
          exact says_yes HF.out HBW.out
  | true =>
    have hE : Nd.errOf (Nd.chk s.nodes) = 0 := by rw [hc]; rfl
    have HE := Lib.hid hE
    have HCK := Lib.hid hc
    clear hc hE
    go_enter Tryz.func50, Tryz.ntmps50
    go_wp2_with fail
    refine (Nd.rcheck_any _ _ _ HN.out).mono ?_
    rintro e w' ⟨rfl, rfl⟩
    rw [HE.out]
    go_wp2_with fail
    refine (Ld.rcheck_any s.led _ _ HI.out).mono ?_
    rintro e w2 ⟨z, rfl, hz, hb2⟩
    have hb2' : Below (w.heap.size + 1) (w.alloc (.cells (sArr s vn (.slice a s.led.held.length cap) vl) 31)) w2 := hb2.mono (by simp)
    have HB2 := Lib.hid hb2'
    clear b0 b1 b2 b3 b4 b5 b6
    obtain ⟨b0, b1, b2, b3, b4, b5, b6⟩ := cells7 (box_cells hb2')
    clear hb2 hb2'
    rcases hz with ⟨rfl, hok⟩ | ⟨rfl, hno⟩
    · have HOK := Lib.hid hok
      clear hok
      by_cases hi : s.index = 0 ↔ s.term = 0
      · have HG0 : Hid (true = true ↔ baseOk s ∧ stampsUp s 0) := Lib.hid ⟨fun _ => ⟨⟨HCK.out, HOK.out, hi⟩, stamps_zero s⟩, fun _ => rfl⟩
        have hq : (s.term == 0) = (s.index == 0) := by
          by_cases h0 : s.index = 0
          · rw [beq_iff_eq.2 h0, beq_iff_eq.2 (hi.1 h0)]
          · rw [beq_eq_false_iff_ne.2 h0, beq_eq_false_iff_ne.2 (fun h => h0 (hi.2 h))]
        cases hg : (s.index == 0)
        all_goals
          rw [hg] at hq
          clear hi
          go_wp2
          go_loopw [3, 29] (fun gv i wr => ∃ (k : Nat) (g : Bool), k ≤ s.led.held.length ∧ i = .int .i64 k ∧ gv = .bool g ∧ Hid (g = true ↔ baseOk s ∧ stampsUp s k) ∧ Below (w.heap.size + 1) (w.alloc (.cells (sArr s vn (.slice a s.led.held.length cap) vl) 31)) wr) (fun _ i _ => s.led.held.length - (intOf i).toNat)
          case atStart => exact ⟨0, true, Nat.zero_le _, rfl, rfl, Lib.hid (by simpa using HG0.out), HB2.out⟩
          case round =>
            clear b0 b1 b2 b3 b4 b5 b6
            obtain ⟨k, g, hk, rfl, rfl, HU, hb⟩ := hrel
            by_cases hlt2 : k < s.led.held.length
            · obtain ⟨b, off, rfl, hlt, hc⟩ := Ld.rows_open hlt2 HO4.out
              have hbw := box_below hb
              have hce := fun j u hu => (hbw.cell (p := ⟨b, off + (k * 5 + j), none⟩) hlt).trans (hc k _ (Ld.rgetD hlt2) j u hu)
              have HG := Lib.hid (Ld.rgetD hlt2)
              have HBB := Lib.hid hb
              have hzw : w.heap.size < wr.heap.size := by have := hb.size; simp at this; omega
              obtain ⟨b0, b1, b2, b3, b4, b5, b6⟩ := cells7 (box_cells hb)
              clear hc hbw hb
              have hgx : ∃ x, s.led.held[k] = x := ⟨_, rfl⟩
              obtain ⟨x, hx⟩ := hgx
              rw [hx] at HG hce
              clear hx
              obtain ⟨x0, x1, x2, x3, x4⟩ := Ld.held_cells hce
              clear hce
              cases g
              · go_wp2
                go_roundw
                case rel => exact ⟨k + 1, false, by omega, by go_num, rfl, Lib.hid ⟨fun h => (by cases h), fun h => HU.out.2 ⟨h.1, fun j y hj hy => h.2 j y (by omega) hy⟩⟩, HBB.out.alloc hzw _⟩
                case measure => simp [intOf]; omega
              · have HST : Hid (decide (x.stamp ≤ s.index) = true ↔ baseOk s ∧ stampsUp s (k + 1)) := Lib.hid ⟨fun h => ⟨(HU.out.1 rfl).1, stamps_succ (HU.out.1 rfl).2 HG.out (of_decide_eq_true h)⟩, fun h => decide_eq_true (h.2 k x (by omega) HG.out)⟩
                go_wp2
                go_roundw
                case rel => exact ⟨k + 1, _, by omega, by go_num, rfl, HST, HBB.out.alloc hzw _⟩
                case measure => simp [intOf]; omega
            · obtain rfl : k = s.led.held.length := by omega
              have HBW := Lib.hid (box_below hb)
              cases g
              · have HF : Hid (¬ shotOk s) := Lib.hid (fun h => by cases HU.out.2 ((shot_iff s).1 h))
                go_wp2
                go_ret
                exact says_no HF.out HBW.out
              · have HF : Hid (shotOk s) := Lib.hid ((shot_iff s).2 (HU.out.1 rfl))
                go_wp2
                go_ret
                exact says_yes HF.out HBW.out
      · have HG0 : Hid (false = true ↔ baseOk s ∧ stampsUp s 0) := Lib.hid ⟨fun h => (by cases h), fun h => absurd h.1.2.2 hi⟩
        have hq : (s.term == 0) = !(s.index == 0) := by
          by_cases h0 : s.index = 0
          · rw [beq_iff_eq.2 h0, beq_eq_false_iff_ne.2 (fun h => hi ⟨fun _ => h, fun _ => h0⟩)]; rfl
          · have : s.term = 0 := Classical.byContradiction fun h => hi ⟨fun g => absurd g h0, fun g => absurd g h⟩
            rw [beq_eq_false_iff_ne.2 h0, beq_iff_eq.2 this]; rfl
        cases hg : (s.index == 0)
        all_goals
          rw [hg] at hq
          clear hi
          go_wp2
          go_loopw [3, 29] (fun gv i wr => ∃ (k : Nat) (g : Bool), k ≤ s.led.held.length ∧ i = .int .i64 k ∧ gv = .bool g ∧ Hid (g = true ↔ baseOk s ∧ stampsUp s k) ∧ Below (w.heap.size + 1) (w.alloc (.cells (sArr s vn (.slice a s.led.held.length cap) vl) 31)) wr) (fun _ i _ => s.led.held.length - (intOf i).toNat)
          case atStart => exact ⟨0, false, Nat.zero_le _, rfl, rfl, Lib.hid (by simpa using HG0.out), HB2.out⟩
          case round =>
            clear b0 b1 b2 b3 b4 b5 b6
            obtain ⟨k, g, hk, rfl, rfl, HU, hb⟩ := hrel
            by_cases hlt2 : k < s.led.held.length
            · obtain ⟨b, off, rfl, hlt, hc⟩ := Ld.rows_open hlt2 HO4.out
              have hbw := box_below hb
              have hce := fun j u hu => (hbw.cell (p := ⟨b, off + (k * 5 + j), none⟩) hlt).trans (hc k _ (Ld.rgetD hlt2) j u hu)
              have HG := Lib.hid (Ld.rgetD hlt2)
              have HBB := Lib.hid hb
              have hzw : w.heap.size < wr.heap.size := by have := hb.size; simp at this; omega
              obtain ⟨b0, b1, b2, b3, b4, b5, b6⟩ := cells7 (box_cells hb)
              clear hc hbw hb
              have hgx : ∃ x, s.led.held[k] = x := ⟨_, rfl⟩
              obtain ⟨x, hx⟩ := hgx
              rw [hx] at HG hce
              clear hx
              obtain ⟨x0, x1, x2, x3, x4⟩ := Ld.held_cells hce
              clear hce
              cases g
              · go_wp2
                go_roundw
                case rel => exact ⟨k + 1, false, by omega, by go_num, rfl, Lib.hid ⟨fun h => (by cases h), fun h => HU.out.2 ⟨h.1, fun j y hj hy => h.2 j y (by omega) hy⟩⟩, HBB.out.alloc hzw _⟩
                case measure => simp [intOf]; omega
              · have HST : Hid (decide (x.stamp ≤ s.index) = true ↔ baseOk s ∧ stampsUp s (k + 1)) := Lib.hid ⟨fun h => ⟨(HU.out.1 rfl).1, stamps_succ (HU.out.1 rfl).2 HG.out (of_decide_eq_true h)⟩, fun h => decide_eq_true (h.2 k x (by omega) HG.out)⟩
                go_wp2
                go_roundw
                case rel => exact ⟨k + 1, _, by omega, by go_num, rfl, HST, HBB.out.alloc hzw _⟩
                case measure => simp [intOf]; omega
            · obtain rfl : k = s.led.held.length := by omega
              have HBW := Lib.hid (box_below hb)
              cases g
              · have HF : Hid (¬ shotOk s) := Lib.hid (fun h => by cases HU.out.2 ((shot_iff s).1 h))
                go_wp2
                go_ret
                exact says_no HF.out HBW.out
              · have HF : Hid (shotOk s) := Lib.hid ((shot_iff s).2 (HU.out.1 rfl))
                go_wp2
                go_ret
                exact says_yes HF.out HBW.out
    · have HG0 : Hid (false = true ↔ baseOk s ∧ stampsUp s 0) := Lib.hid ⟨fun h => (by cases h), fun h => absurd h.1.2.1 hno⟩
      clear hno
      go_wp2
      go_loopw [3, 29] (fun gv i wr => ∃ (k : Nat) (g : Bool), k ≤ s.led.held.length ∧ i = .int .i64 k ∧ gv = .bool g ∧ Hid (g = true ↔ baseOk s ∧ stampsUp s k) ∧ Below (w.heap.size + 1) (w.alloc (.cells (sArr s vn (.slice a s.led.held.length cap) vl) 31)) wr) (fun _ i _ => s.led.held.length - (intOf i).toNat)
      case atStart => exact ⟨0, false, Nat.zero_le _, rfl, rfl, Lib.hid (by simpa using HG0.out), HB2.out⟩
      case round =>
        clear b0 b1 b2 b3 b4 b5 b6
        obtain ⟨k, g, hk, rfl, rfl, HU, hb⟩ := hrel
        by_cases hlt2 : k < s.led.held.length
        · obtain ⟨b, off, rfl, hlt, hc⟩ := Ld.rows_open hlt2 HO4.out
          have hbw := box_below hb
          have hce := fun j u hu => (hbw.cell (p := ⟨b, off + (k * 5 + j), none⟩) hlt).trans (hc k _ (Ld.rgetD hlt2) j u hu)
          have HG := Lib.hid (Ld.rgetD hlt2)
          have HBB := Lib.hid hb
          have hzw : w.heap.size < wr.heap.size := by have := hb.size; simp at this; omega
          obtain ⟨b0, b1, b2, b3, b4, b5, b6⟩ := cells7 (box_cells hb)
          clear hc hbw hb
          have hgx : ∃ x, s.led.held[k] = x := ⟨_, rfl⟩
          obtain ⟨x, hx⟩ := hgx
          rw [hx] at HG hce
          clear hx
          obtain ⟨x0, x1, x2, x3, x4⟩ := Ld.held_cells hce
          clear hce
          cases g
          · go_wp2
            go_roundw
            case rel => exact ⟨k + 1, false, by omega, by go_num, rfl, Lib.hid ⟨fun h => (by cases h), fun h => HU.out.2 ⟨h.1, fun j y hj hy => h.2 j y (by omega) hy⟩⟩, HBB.out.alloc hzw _⟩
            case measure => simp [intOf]; omega
          · have HST : Hid (decide (x.stamp ≤ s.index) = true ↔ baseOk s ∧ stampsUp s (k + 1)) := Lib.hid ⟨fun h => ⟨(HU.out.1 rfl).1, stamps_succ (HU.out.1 rfl).2 HG.out (of_decide_eq_true h)⟩, fun h => decide_eq_true (h.2 k x (by omega) HG.out)⟩
            go_wp2
            go_roundw
            case rel => exact ⟨k + 1, _, by omega, by go_num, rfl, HST, HBB.out.alloc hzw _⟩
            case measure => simp [intOf]; omega
        · obtain rfl : k = s.led.held.length := by omega
          have HBW := Lib.hid (box_below hb)
          cases g
          · have HF : Hid (¬ shotOk s) := Lib.hid (fun h => by cases HU.out.2 ((shot_iff s).1 h))
            go_wp2
            go_ret
            exact says_no HF.out HBW.out
          · have HF : Hid (shotOk s) := Lib.hid ((shot_iff s).2 (HU.out.1 rfl))
            go_wp2
            go_ret
            exact says_yes HF.out HBW.out
end Sh
end Go.Proofs.YtlfaiemebfkajaaGreatDoor
