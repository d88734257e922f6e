/- Which row a command names: ledger.fitting. No condition. -/
import Derived.Test.YtgadbghlcejkfaaLaC
import Derived.Test.YtgadbghlcejkfaaLdB
namespace Go.Proofs.Ytgadbghlcejkfaa
open Go.ChangeShapes Go.WideShapes Go.ChangeAt Go.RowKit
set_option linter.unusedVariables false
set_option maxRecDepth 100000
namespace La
open Ld Cm

def fitZ (c : Cmd) (xs : List Held) : Int := if fitAt c xs < xs.length then (fitAt c xs : Int) else -1
theorem fitAt_of {c : Cmd} {xs : List Held} {k : Nat} {x : Held} (hx : xs[k]? = some x) (h : ∀ y ∈ xs.take k, named c y = false) (hn : named c x = true) : fitAt c xs = k := by
  obtain ⟨hk, rfl⟩ := List.getElem?_eq_some_iff.1 hx
  unfold fitAt
  rw [List.findIdx_eq hk]
  refine ⟨hn, fun j hj => h _ (List.mem_take_iff_getElem.2 ⟨j, by omega, rfl⟩)⟩
theorem fitAt_none {c : Cmd} {xs : List Held} (h : ∀ y ∈ xs, named c y = false) : fitAt c xs = xs.length := by
  unfold fitAt
  rw [List.findIdx_eq_length]
  exact h
/-- the row that would be named -/
def wanted (c : Cmd) (x : Held) : Held := if c.kind = 6 then ⟨c.token, x.node, x.boot, c.serial, c.stamp⟩ else ⟨c.token, c.node, c.boot, c.serial, x.stamp⟩
theorem named_iff (c : Cmd) (x : Held) : named c x = decide (x = wanted c x) := by
  unfold named wanted
  obtain ⟨a, b, d, e, f⟩ := x
  by_cases h : c.kind = 6
  · rw [if_pos h, if_pos h]
    simp
  · rw [if_neg h, if_neg h]
    simp
theorem box_row {w wr : World} {A : Array Value} {T : TypeId} (hb : Below (w.heap.size + 1) (w.alloc (.cells A T)) wr) : wr.heap[w.heap.size]? = some (.cells A T (0, 0)) :=
  (hb.block w.heap.size (by omega)).trans (heap_alloc_new _ _)
theorem held_eql (x y : Held) (w : World) : (binOp .eql 67 (.agg (hA x)) (.agg (hA y))).run Try.prog w = .ok (.bool (decide (x = y))) w := by
  obtain ⟨a1, a2, a3, a4, a5⟩ := x
  obtain ⟨b1, b2, b3, b4, b5⟩ := y
  go_simp
  by_cases h1 : a1 = b1 <;> by_cases h2 : a2 = b2 <;> by_cases h3 : a3 = b3 <;> by_cases h4 : a4 = b4 <;> by_cases h5 : a5 = b5 <;> simp [h1, h2, h3, h4, h5]

set_option maxHeartbeats 2000000 in
theorem fitting_any (xs : List Held) (v u : Value) (c : Cmd) (w : World) (h : SlR 5 heldC w v xs) (hc : IsCmd w u c) :
    Calls Try.prog 142 #[v, u] w fun e w' => e = .returned (.int .i64 (fitZ c xs)) ∧ Below w.heap.size w w' := by
  obtain ⟨vn, rfl, -, -⟩ := hc
  obtain ⟨a, cap, rfl, h1, h2, h4⟩ := h
  unfold maxLen at h2
  have HO4 := Lib.hid h4
  clear h4
  go_enter Try.func142, Try.ntmps142
  go_wp2
  go_loopw [10] (fun i wr => ∃ k : Nat, k ≤ xs.length ∧ i = .int .i64 k ∧ Hid (∀ y ∈ xs.take k, named c y = false) ∧ Below (w.heap.size + 1) (w.alloc (.cells (cA c vn) 34)) wr) (fun i _ => xs.length - (intOf i).toNat)
  case atStart => exact ⟨0, Nat.zero_le _, rfl, Lib.hid (by simp), Below.refl _ _⟩
  case round =>
    obtain ⟨k, hk, rfl, HU, hb⟩ := hrel
    by_cases hlt : k < xs.length
    · obtain ⟨b, off, rfl, hlb, hc⟩ := rows_open hlt HO4.out
      have hbw := box_below hb
      obtain ⟨q0, q1, q2, q4, q5, q6, q7⟩ := cmd_cells (box_row hb)
      have hce := fun j u hu => (hbw.cell (p := ⟨b, off + (k * 5 + j), none⟩) hlb).trans (hc k _ (rgetD hlt) j u hu)
      have HG := Lib.hid (rgetD hlt)
      have HT := Lib.hid (rtake hlt)
      have hzw : w.heap.size < wr.heap.size := by have := hb.size; simp at this; omega
      have HBB := Lib.hid hb
      clear hc hbw
      generalize xs[k] = x at *
      obtain ⟨x0, x1, x2, x3, x4⟩ := held_cells hce
      clear hce hb
      by_cases h6 : c.kind = 6
      · have e6 : (c.kind == 6) = true := beq_iff_eq.2 h6
        have hq : ∀ w', (binOp .eql 67 (.agg (hA x)) (.agg #[.int .i64 c.token, .int .i64 x.node, .int .u64 x.boot, .int .u64 c.serial, .int .u64 c.stamp])).run Try.prog w' = .ok (.bool (named c x)) w' := fun w' => by
          rw [named_iff, wanted, if_pos h6]
          exact held_eql x ⟨c.token, x.node, x.boot, c.serial, c.stamp⟩ w'
        clear h6
        cases hn : named c x
        · have HN := Lib.hid hn
          rw [hn] at hq
          clear hn
          go_wp2
          go_roundw
          case rel => exact ⟨k + 1, by omega, by go_num, Lib.hid (by rw [HT.out]; intro y hy; rcases List.mem_append.1 hy with h | h; exact HU.out y h; simp at h; subst h; exact HN.out), (HBB.out.alloc hzw _).alloc (by simp; omega) _⟩
          case measure => simp [intOf]; omega
        · have HN := Lib.hid hn
          have HZ := Lib.hid (fitAt_of HG.out HU.out hn)
          rw [hn] at hq
          clear hn
          go_wp2
          go_ret
          exact ⟨ret_int (by unfold fitZ; rw [HZ.out, if_pos hlt]), box_below ((HBB.out.alloc hzw _).alloc (by simp; omega) _)⟩
      · have e6 : (c.kind == 6) = false := beq_eq_false_iff_ne.2 h6
        have hq : ∀ w', (binOp .eql 67 (.agg (hA x)) (.agg #[.int .i64 c.token, .int .i64 c.node, .int .u64 c.boot, .int .u64 c.serial, .int .u64 x.stamp])).run Try.prog w' = .ok (.bool (named c x)) w' := fun w' => by
          rw [named_iff, wanted, if_neg h6]
          exact held_eql x ⟨c.token, c.node, c.boot, c.serial, x.stamp⟩ w'
        clear h6
        cases hn : named c x
        · have HN := Lib.hid hn
          rw [hn] at hq
          clear hn
          go_wp2
          go_roundw
          case rel => exact ⟨k + 1, by omega, by go_num, Lib.hid (by rw [HT.out]; intro y hy; rcases List.mem_append.1 hy with h | h; exact HU.out y h; simp at h; subst h; exact HN.out), (HBB.out.alloc hzw _).alloc (by simp; omega) _⟩
          case measure => simp [intOf]; omega
        · have HN := Lib.hid hn
          have HZ := Lib.hid (fitAt_of HG.out HU.out hn)
          rw [hn] at hq
          clear hn
          go_wp2
          go_ret
          exact ⟨ret_int (by unfold fitZ; rw [HZ.out, if_pos hlt]), box_below ((HBB.out.alloc hzw _).alloc (by simp; omega) _)⟩
    · obtain rfl : k = xs.length := by omega
      have HZ : Hid (fitZ c xs = -1) := Lib.hid (by
        have h := HU.out
        rw [List.take_length] at h
        unfold fitZ
        rw [fitAt_none h, if_neg (by omega)])
      have HBB := Lib.hid hb
      clear hb
      go_wp2
      go_ret
      exact ⟨ret_int HZ.out.symm, box_below HBB.out⟩
end La
end Go.Proofs.Ytgadbghlcejkfaa
