/- A token's row: ledger.Find. No condition. -/
import Derived.Test.YtlkmdoddgfmnbaaLaE
import Derived.Test.YtlkmdoddgfmnbaaLedN
import Derived.Test.YtlkmdoddgfmnbaaLcS
namespace Go.Proofs.Ytlkmdoddgfmnbaa
open Go.ChangeShapes Go.WideShapes Go.ChangeAt Go.RowKit
set_option linter.unusedVariables false
set_option maxRecDepth 100000
namespace La
open Ld Cm
def hasT (t : Int) (xs : List Held) : Bool := xs.any fun x => x.token == t
theorem new2' (w : World) (A B : Obj) : ((w.alloc A).alloc B).heap[w.heap.size + 1]? = some B := by have := heap_alloc_new (w.alloc A) B; simpa using this
theorem hA_one (x : Held) : (hA x).all (·.oneCell') = true := by simp [Value.oneCell']
/-- what Find hands back: a row (whatever it is), and whether there is one -/
def Finds (t : Int) (xs : List Held) (w : World) (e : Ending) (w' : World) : Prop := ∃ x : Held, e = .returned (.tuple #[.agg (hA x), .bool (hasT t xs)]) ∧ Below w.heap.size w w'
set_option maxHeartbeats 1000000 in
theorem find_any (l : Led) (v : Value) (t : Int) (w : World) (h : IsLed w v l) : Calls Try.prog 23 #[v, .int .i64 t] w (Finds t l.held w) := by
  obtain ⟨vh, vl, rfl, hh, -, -⟩ := h
  obtain ⟨a, cap, rfl, h1, h2, h4⟩ := hh
  unfold maxLen at h2
  have HO4 := Lib.hid h4
  clear h4
  go_enter Try.func23, Try.ntmps23
  go_wp2
  go_loopw [11] (fun i wr => ∃ k : Nat, k ≤ l.held.length ∧ i = .int .i64 k ∧ Hid (∀ y ∈ l.held.take k, (y.token == t) = false) ∧ Below (w.heap.size + 2) ((w.alloc (.cells (lArr l (.slice a l.held.length cap) vl) 26)).alloc (.cells #[.int .i64 0, .int .i64 0, .int .u64 0, .int .u64 0, .int .u64 0] 39)) wr) (fun i _ => l.held.length - (intOf i).toNat)
  case atStart => exact ⟨0, Nat.zero_le _, rfl, Lib.hid (by simp), Below.refl _ _⟩
  case round =>
    obtain ⟨k, hk, rfl, HU, hb⟩ := hrel
    have hr1 : wr.heap[w.heap.size + 1]? = some (.cells #[.int .i64 0, .int .i64 0, .int .u64 0, .int .u64 0, .int .u64 0] 39 (0, 0)) := (hb.block (w.heap.size + 1) (by omega)).trans (new2' _ _ _)
    have hbw : Below w.heap.size w wr := (((Below.refl _ _).alloc (Nat.le_refl _) _).alloc (by simp) _).trans (hb.mono (by omega))
    have hzw : w.heap.size + 2 ≤ wr.heap.size := by have := hb.size; simpa using this
    have HR1 := Lib.hid hr1
    have HBW := Lib.hid hbw
    have HBB := Lib.hid hb
    by_cases hlt : k < l.held.length
    · obtain ⟨b, off, rfl, hlb, hc⟩ := rows_open hlt HO4.out
      have hce := fun j u hu => (hbw.cell (p := ⟨b, off + (k * 5 + j), none⟩) hlb).trans (hc k _ (rgetD hlt) j u hu)
      have HT := Lib.hid (rtake hlt)
      have HM := Lib.hid (List.getElem_mem hlt)
      clear hc hbw hb hr1
      generalize l.held[k] = x at *
      obtain ⟨x0, x1, x2, x3, x4⟩ := held_cells hce
      clear hce
      cases hx : (x.token == t)
      · have HX := Lib.hid hx
        go_wp2
        go_roundw
        case rel => exact ⟨k + 1, by omega, by go_num, Lib.hid (by rw [HT.out]; intro y hy; rcases List.mem_append.1 hy with h | h; exact HU.out y h; simp at h; subst h; exact HX.out), HBB.out.alloc (by omega) _⟩
        case measure => simp [intOf]; omega
      · have HH : Hid (hasT t l.held = true) := Lib.hid (List.any_eq_true.2 ⟨x, HM.out, hx⟩)
        have HR2 : Hid ((wr.alloc (.cells (hA x) 39)).heap[w.heap.size + 1]? = some (.cells #[.int .i64 0, .int .i64 0, .int .u64 0, .int .u64 0, .int .u64 0] 39 (0, 0))) := Lib.hid ((heap_alloc_old _ _ (by omega)).trans HR1.out)
        have HFIN : Hid (Finds t l.held w (.returned (.tuple #[.agg (hA x), .bool true])) ((wr.alloc (.cells (hA x) 39)).setRow (w.heap.size + 1) (hA x))) := Lib.hid ⟨x, by rw [HH.out], Ld.below_row (HBW.out.alloc (by omega) _) (by omega) _⟩
        go_wp2_with ((with_reducible refine wpList_store_row rfl 39 (.tmp 4) (.tmp 19) rfl (w.heap.size + 1) (hA x) rfl rfl 39 _ HR2.out (by kernel_rfl) rfl (hA_one x) ?_))
        exact bodyPost_ret (v := .tuple #[.agg (hA x), .bool true]) (results_cell2 rfl _ _ (w.heap.size + 1) 39 _ (0, 0) _ rfl (setRow_heap _ _ _ _ _ _ HR2.out) Try.underlying39 rfl (by kernel_rfl) rfl) rfl HFIN.out
    · obtain rfl : k = l.held.length := by omega
      have HH : Hid (hasT t l.held = false) := Lib.hid (by
        have h := HU.out
        rw [List.take_length] at h
        exact List.any_eq_false.2 (fun y hy => by rw [h y hy]; simp))
      have HFIN : Hid (Finds t l.held w (.returned (.tuple #[.agg (hA ⟨0, 0, 0, 0, 0⟩), .bool false])) (wr.setRow (w.heap.size + 1) (hA ⟨0, 0, 0, 0, 0⟩))) := Lib.hid ⟨⟨0, 0, 0, 0, 0⟩, by rw [HH.out], Ld.below_row HBW.out (by omega) _⟩
      clear hbw hb hr1
      go_wp2_with ((with_reducible refine wpList_store_row rfl 39 (.tmp 4) (.tmp 21) rfl (w.heap.size + 1) (hA ⟨0, 0, 0, 0, 0⟩) rfl rfl 39 _ HR1.out (by kernel_rfl) rfl (hA_one _) ?_))
      exact bodyPost_ret (v := .tuple #[.agg (hA ⟨0, 0, 0, 0, 0⟩), .bool false]) (results_cell2 rfl _ _ (w.heap.size + 1) 39 _ (0, 0) _ rfl (setRow_heap _ _ _ _ _ _ HR1.out) Try.underlying39 rfl (by kernel_rfl) rfl) rfl HFIN.out
end La
end Go.Proofs.Ytlkmdoddgfmnbaa
