/- Which snapshots may be: shot.Check. No condition. -/
import Derived.Test.YtlfaiemebfkajaaGreatDoorShT
import Derived.Test.YtlfaiemebfkajaaGreatDoorLcM
import Derived.Test.YtlfaiemebfkajaaGreatDoorBse
namespace Go.Proofs.YtlfaiemebfkajaaGreatDoor
open Go.ChangeShapes Go.WideShapes Go.ChangeAt Go.RowKit
set_option linter.unusedVariables false
set_option maxRecDepth 100000
namespace Sh
def stampsUp (s : Sho) (k : Nat) : Prop := ∀ j y, j < k → s.led.held[j]? = some y → y.stamp ≤ s.index
def shotOk (s : Sho) : Prop := Nd.chk s.nodes = true ∧ Ld.ledOk s.led ∧ (s.index = 0 ↔ s.term = 0) ∧ stampsUp s s.led.held.length
theorem stamps_zero (s : Sho) : stampsUp s 0 := fun j y hj => absurd hj (Nat.not_lt_zero _)
theorem stamps_succ {s : Sho} {k : Nat} {x : Held} (h : stampsUp s k) (hx : s.led.held[k]? = some x) (hr : x.stamp ≤ s.index) : stampsUp s (k + 1) := by
  intro j y hj hy
  rcases Nat.lt_or_ge j k with h1 | h1
  · exact h j y h1 hy
  · obtain rfl : j = k := by omega
    rw [hx] at hy
    cases hy
    exact hr
def SaysS (s : Sho) (w : World) (e : Ending) (w' : World) : Prop := ∃ z : Int, e = .returned (.int .i64 z) ∧ ((z = 0 ∧ shotOk s) ∨ (z = 60 ∧ ¬ shotOk s)) ∧ Below w.heap.size w w'
theorem says_no {s : Sho} (h : ¬ shotOk s) {w w' : World} (hb : Below w.heap.size w w') : SaysS s w (.returned (.int .i64 60)) w' := ⟨_, rfl, .inr ⟨rfl, h⟩, hb⟩
theorem says_yes {s : Sho} (h : shotOk s) {w w' : World} (hb : Below w.heap.size w w') : SaysS s w (.returned (.int .i64 0)) w' := ⟨_, rfl, .inl ⟨rfl, h⟩, hb⟩
theorem box_below {w wr : World} {o : Obj} (hb : Below (w.heap.size + 1) (w.alloc o) wr) : Below w.heap.size w wr :=
  ((Below.refl _ _).alloc (Nat.le_refl _) _).trans (hb.mono (by omega))

set_option maxHeartbeats 4000000 in
theorem check_any (s : Sho) (v : Value) (w : World) (h : IsShot w v s) :
    Calls Tryz.prog 74 #[v] w (SaysS s w) := by
  obtain ⟨vn, vh, vl, rfl, hn, hh, hl, hwf⟩ := h
  have hb0 : Below w.heap.size w (w.alloc (.cells (sArr s vn vh vl) 31)) := (Below.refl _ _).alloc (Nat.le_refl _) _
  have HB := Lib.hid hb0
  have HN := Lib.hid (hn.below hb0 (Nat.le_refl _))
  have HI : Hid (IsLed (w.alloc (.cells (sArr s vn vh vl) 31)) (.agg (lArr s.led vh vl)) s.led) := Lib.hid ⟨vh, vl, rfl, hh.below hb0 (Nat.le_refl _), hl.below hb0 (Nat.le_refl _), hwf.2.2⟩
  obtain ⟨a, cap, rfl, h1, h2, h4⟩ := hh
  unfold maxLen at h2
  have HO4 := Lib.hid h4
  have hr : Below (w.heap.size + 1) (w.alloc (.cells (sArr s vn (.slice a s.led.held.length cap) vl) 31)) (w.alloc (.cells (sArr s vn (.slice a s.led.held.length cap) vl) 31)) := Below.refl _ _
  obtain ⟨b0, b1, b2, b3, b4, b5, b6⟩ := cells7 (box_cells hr)
  clear hn hl hwf hb0 h4 hr
  cases hc : Nd.chk s.nodes with
  | false =>
    have hE : Nd.errOf (Nd.chk s.nodes) = 1 := by rw [hc]; rfl
    have HE := Lib.hid hE
    have HF : Hid (¬ shotOk s) := Lib.hid (fun h => by have := h.1; rw [hc] at this; cases this)
    clear hc hE
    go_enter Tryz.func74, Tryz.ntmps74
    go_wp2_with fail
    refine (Nd.check_any _ _ _ HN.out).mono ?_
    rintro e w' ⟨rfl, rfl⟩
    rw [HE.out]
    go_wp2
    go_ret
    exact says_no HF.out HB.out
  | true =>
    have hE : Nd.errOf (Nd.chk s.nodes) = 0 := by rw [hc]; rfl
    have HE := Lib.hid hE
    have HCK := Lib.hid hc
    clear hc hE
    go_enter Tryz.func74, Tryz.ntmps74
    go_wp2_with fail
    refine (Nd.check_any _ _ _ HN.out).mono ?_
    rintro e w' ⟨rfl, rfl⟩
    rw [HE.out]
    go_wp2_with fail
    refine (Ld.check_any s.led _ _ HI.out).mono ?_
    rintro e w2 ⟨z, rfl, hz, hb2⟩
    have hb2' : Below (w.heap.size + 1) (w.alloc (.cells (sArr s vn (.slice a s.led.held.length cap) vl) 31)) w2 := hb2.mono (by simp)
    have HB2 := Lib.hid hb2'
    clear b0 b1 b2 b3 b4 b5 b6
    obtain ⟨b0, b1, b2, b3, b4, b5, b6⟩ := cells7 (box_cells hb2')
    clear hb2 hb2'
    rcases hz with ⟨rfl, hok⟩ | ⟨rfl, hno⟩
    · have HOK := Lib.hid hok
      clear hok
      by_cases hi : s.index = 0 ↔ s.term = 0
      · have HIF := Lib.hid hi
        have hq : (s.term == 0) = (s.index == 0) := by
          by_cases h0 : s.index = 0
          · rw [beq_iff_eq.2 h0, beq_iff_eq.2 (hi.1 h0)]
          · rw [beq_eq_false_iff_ne.2 h0, beq_eq_false_iff_ne.2 (fun h => h0 (hi.2 h))]
        cases hg : (s.index == 0)
        all_goals
          rw [hg] at hq
          clear hi
          go_wp2
          go_loopw [28] (fun i wr => ∃ k : Nat, k ≤ s.led.held.length ∧ i = .int .i64 k ∧ Hid (stampsUp s k) ∧ Below (w.heap.size + 1) (w.alloc (.cells (sArr s vn (.slice a s.led.held.length cap) vl) 31)) wr) (fun i _ => s.led.held.length - (intOf i).toNat)
          case atStart => exact ⟨0, Nat.zero_le _, rfl, Lib.hid (stamps_zero s), HB2.out⟩
          case round =>
            clear b0 b1 b2 b3 b4 b5 b6
            obtain ⟨k, hk, rfl, HU, hb⟩ := hrel
            by_cases hlt2 : k < s.led.held.length
            · obtain ⟨b, off, rfl, hlt, hc⟩ := Ld.rows_open hlt2 HO4.out
              have hbw := box_below hb
              have hce := fun j u hu => (hbw.cell (p := ⟨b, off + (k * 5 + j), none⟩) hlt).trans (hc k _ (Ld.rgetD hlt2) j u hu)
              have HG := Lib.hid (Ld.rgetD hlt2)
              have HBW := Lib.hid hbw
              have HBB := Lib.hid hb
              have hzw : w.heap.size < wr.heap.size := by have := hb.size; simp at this; omega
              obtain ⟨b0, b1, b2, b3, b4, b5, b6⟩ := cells7 (box_cells hb)
              clear hc hbw hb
              have hgx : ∃ x, s.led.held[k] = x := ⟨_, rfl⟩
              obtain ⟨x, hx⟩ := hgx
              rw [hx] at HG hce
              clear hx
              obtain ⟨x0, x1, x2, x3, x4⟩ := Ld.held_cells hce
              clear hce
              by_cases hs : s.index < x.stamp
              · have HF : Hid (¬ shotOk s) := Lib.hid (fun h => by have := h.2.2.2 k x hlt2 HG.out; omega)
                go_wp2
                go_ret
                exact says_no HF.out (HBW.out.alloc (Nat.le_of_lt hzw) _)
              · have hs2 : x.stamp ≤ s.index := by omega
                have HS := Lib.hid hs2
                clear hs
                go_wp2
                go_roundw
                case rel => exact ⟨k + 1, by omega, by go_num, Lib.hid (stamps_succ HU.out HG.out HS.out), HBB.out.alloc hzw _⟩
                case measure => simp [intOf]; omega
            · obtain rfl : k = s.led.held.length := by omega
              have HBW := Lib.hid (box_below hb)
              go_wp2
              go_ret
              exact says_yes ⟨HCK.out, HOK.out, HIF.out, HU.out⟩ HBW.out
      · have HF : Hid (¬ shotOk s) := Lib.hid (fun h => hi h.2.2.1)
        have hq : (s.term == 0) = !(s.index == 0) := by
          by_cases h0 : s.index = 0
          · rw [beq_iff_eq.2 h0, beq_eq_false_iff_ne.2 (fun h => hi ⟨fun _ => h, fun _ => h0⟩)]; rfl
          · have : s.term = 0 := Classical.byContradiction fun h => hi ⟨fun g => absurd g h0, fun g => absurd g h⟩
            rw [beq_eq_false_iff_ne.2 h0, beq_iff_eq.2 this]; rfl
        have HBW := Lib.hid (box_below HB2.out)
        cases hg : (s.index == 0)
        all_goals
          rw [hg] at hq
          clear hi
          go_wp2
          go_ret
          exact says_no HF.out HBW.out
    · have HF : Hid (¬ shotOk s) := Lib.hid (fun h => hno h.2.1)
      have HBW := Lib.hid (box_below HB2.out)
      clear hno
      go_wp2
      go_ret
      exact says_no HF.out HBW.out
end Sh
end Go.Proofs.YtlfaiemebfkajaaGreatDoor
