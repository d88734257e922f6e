/- A node's rows: ledger.Of and the document's own. No condition but the list's size. -/
import Derived.Test.YtlkmdoddgfmnbaaLedH
import Derived.Laws.Rows
import Derived.Laws.NewBlocks
import Derived.Deep.QuietTactic
import Derived.BigQuiet
namespace Go.Proofs.Ytlkmdoddgfmnbaa
open Go.ChangeShapes Go.WideShapes Go.ChangeAt Go.RowKit
set_option linter.unusedVariables false
set_option maxRecDepth 100000
namespace Ld
def ofL (n : Int) (l : List Held) : List Held := l.filter fun x => x.node == n
theorem ofL_le (n : Int) (l : List Held) : (ofL n l).length ≤ l.length := List.length_filter_le _ _
theorem ofL_snoc (n : Int) (l : List Held) (x : Held) : ofL n (l ++ [x]) = if x.node = n then ofL n l ++ [x] else ofL n l := by
  unfold ofL
  by_cases h : x.node = n <;> simp [List.filter_append, h]
def MadeH (xs : List Held) (w : World) (e : Ending) (w' : World) : Prop := ∃ v, e = .returned v ∧ OwnR 5 heldC 39 w' w.heap.size v xs ∧ SlR 5 heldC w' v xs ∧ Below w.heap.size w w'

set_option maxHeartbeats 1000000 in
theorem of_any (l : Led) (v : Value) (n : Int) (w : World) (h : IsLed w v l) (hb8 : l.held.length * 40 ≤ 140737488351232) :
    Calls Try.prog 24 #[v, .int .i64 n] w (MadeH (ofL n l.held) w) := by
  obtain ⟨vh, vl, rfl, hh, hl, hwf⟩ := h
  have hb0 : Below w.heap.size w (w.alloc (.cells (lArr l vh vl) 26)) := (Below.refl _ _).alloc (Nat.le_refl _) _
  have hz0 : (w.alloc (.cells (lArr l vh vl) 26)).heap.size = w.heap.size + 1 := by simp
  rcases hh.cases with ⟨a, cap, rfl, hnil⟩ | ⟨b, off, cap, rfl, h0, hlc, hcm, hlt, hc⟩
  · have HB := Lib.hid hb0
    clear hh hb0 hz0 hl
    rw [hnil]
    go_enter Try.func24, Try.ntmps24
    go_wp2
    refine wp_loop_rounds 1 ?_
    rw [rounds_succ]
    go_wp2
    go_ret
    exact ⟨_, rfl, OwnR.nil _ _ _, SlR.nil _, HB.out⟩
  · have HC := Lib.hid hc
    have HB := Lib.hid hb0
    have HZ := Lib.hid hz0
    clear hh hc hb0 hz0 hl
    go_enter Try.func24, Try.ntmps24
    go_wp2
    go_loopw [5, 11] (fun u i wr => ∃ k : Nat, k ≤ l.held.length ∧ i = .int .i64 k ∧ OwnR 5 heldC 39 wr w.heap.size u (ofL n (l.held.take k)) ∧ Below w.heap.size w wr) (fun _ i _ => l.held.length - (intOf i).toNat)
    case atStart => exact ⟨0, Nat.zero_le _, rfl, OwnR.nil _ _ _, HB.out⟩
    case round =>
      obtain ⟨k, hk, rfl, hown, hb⟩ := hrel
      by_cases hlt2 : k < l.held.length
      · have hce := fun j u hu => (hb.cell (p := ⟨b, off + (k * 5 + j), none⟩) (by simp; omega)).trans (HC.out k _ (rgetD hlt2) j u hu)
        have HT := Lib.hid (rtake hlt2)
        generalize l.held[k] = x at *
        obtain ⟨x0, x1, x2, x3, x4⟩ := held_cells hce
        clear hce
        have hle := ofL_le n (l.held.take k)
        rw [List.length_take, Nat.min_eq_left hk] at hle
        have hzw := hb.size
        by_cases hn : x.node = n
        · have HO : Hid (ofL n (l.held.take (k + 1)) = ofL n (l.held.take k) ++ [x]) := Lib.hid (by rw [HT.out, ofL_snoc, if_pos hn])
          have hn2 : (x.node == n) = true := beq_iff_eq.2 hn
          clear hn
          go_wp2_with (at_builtin; (refine appR heldC_len heldC_one Try.underlying23 rfl (by decide) info_held rfl _ _ rfl w.heap.size _ _ rfl ((hown.alloc _).alloc _) _ [x] rfl (SlR.one heldC_len _ (wr.heap.size + 1) (by simp) _ x rfl) (by unfold maxLen; simp; omega) (by simp; omega) (by simp; omega) ?_; intro u1 w1 hown1 hb1))
          go_roundw
          case rel => exact ⟨k + 1, by omega, by go_num, by rw [HO.out]; exact hown1, ((hb.alloc hzw _).alloc (by simp; omega) _).trans hb1⟩
          case measure => simp [intOf]; omega
        · have HO : Hid (ofL n (l.held.take (k + 1)) = ofL n (l.held.take k)) := Lib.hid (by rw [HT.out, ofL_snoc, if_neg hn])
          have hn2 : (x.node == n) = false := beq_eq_false_iff_ne.2 hn
          clear hn
          go_wp2
          go_roundw
          case rel => exact ⟨k + 1, by omega, by go_num, by rw [HO.out]; exact hown.alloc _, hb.alloc hzw _⟩
          case measure => simp [intOf]; omega
      · obtain rfl : k = l.held.length := by omega
        rw [List.take_length] at hown
        go_wp2
        go_ret
        exact ⟨_, rfl, hown, hown.sl heldC_len, hb⟩

end Ld
end Go.Proofs.Ytlkmdoddgfmnbaa
