/- The sets of package nodes as arrays: mark, size. No condition. -/
import Derived.Test.YtogebbplfoainaaNodP
import Derived.Test.YtogebbplfoainaaBse
import Derived.Laws.Rows
import Derived.Laws.NewBlocks
namespace Go.Proofs.Ytogebbplfoainaa
open Go.ChangeShapes Go.WideShapes Go.ChangeAt Go.RowKit
set_option linter.unusedVariables false
set_option maxRecDepth 100000
namespace Nd

/-- the eight cells of a set -/
abbrev cA (f : Nat → Int) : Array Value := #[.int .i64 (f 0), .int .i64 (f 1), .int .i64 (f 2), .int .i64 (f 3), .int .i64 (f 4), .int .i64 (f 5), .int .i64 (f 6), .int .i64 (f 7)]
theorem cA_congr {f g : Nat → Int} (h : ∀ i, i < 8 → f i = g i) : cA f = cA g := by
  unfold cA; rw [h 0 (by omega), h 1 (by omega), h 2 (by omega), h 3 (by omega), h 4 (by omega), h 5 (by omega), h 6 (by omega), h 7 (by omega)]
theorem cA_set (f : Nat → Int) (n : Nat) (x : Int) (hn : n < 8) : (cA f).setIfInBounds n (.int .i64 x) = cA fun i => if i = n then x else f i := by
  rcases (show n = 0 ∨ n = 1 ∨ n = 2 ∨ n = 3 ∨ n = 4 ∨ n = 5 ∨ n = 6 ∨ n = 7 by omega) with rfl | rfl | rfl | rfl | rfl | rfl | rfl | rfl <;> rfl
theorem bit_nil : cA (bit []) = cA fun _ => 0 := cA_congr fun i _ => ind_neg (by simp)
theorem bit_add {l : List Int} {n : Int} (h : 1 ≤ n ∧ n ≤ 7) (i : Nat) : bit (l ++ [n]) i = if i = n.toNat then 1 else bit l i := by
  unfold bit
  split
  · rename_i e; exact ind_pos ⟨by omega, by rw [e]; simp; omega⟩
  · rename_i e; refine ind_congr ⟨fun h => ⟨h.1, ?_⟩, fun h => ⟨h.1, by simp [h.2]⟩⟩
    rcases List.mem_append.1 h.2 with h | h
    · exact h
    · rw [List.mem_singleton] at h; omega
theorem bit_out {l : List Int} {n : Int} (h : ¬ (1 ≤ n ∧ n ≤ 7)) (i : Nat) (hi : i < 8) : bit (l ++ [n]) i = bit l i := by
  unfold bit
  refine ind_congr ⟨fun h => ⟨h.1, ?_⟩, fun h => ⟨h.1, by simp [h.2]⟩⟩
  rcases List.mem_append.1 h.2 with h | h
  · exact h
  · rw [List.mem_singleton] at h; omega

theorem cA_one (f : Nat → Int) : (cA f).all (·.oneCell') = true := by simp [Value.oneCell']
theorem cA_cell {w : World} {g : Nat} {f : Nat → Int} (h : w.heap[g]? = some (.cells (cA f) 34 (0, 0))) {n : Nat} (hn : n < 8) : w.cell? ⟨g, n, none⟩ = some (.int .i64 (f n)) := by
  rw [cell_of_row w g n _ _ _ h]
  rcases (show n = 0 ∨ n = 1 ∨ n = 2 ∨ n = 3 ∨ n = 4 ∨ n = 5 ∨ n = 6 ∨ n = 7 by omega) with rfl | rfl | rfl | rfl | rfl | rfl | rfl | rfl <;> rfl
theorem cA_store {w : World} {g : Nat} {f f' : Nat → Int} {n : Nat} {x : Int} (h : w.heap[g]? = some (.cells (cA f) 34 (0, 0))) (hn : n < 8) (hf : ∀ i, i < 8 → f' i = if i = n then x else f i) :
    (w.setCell ⟨g, n, none⟩ (.int .i64 x)).heap[g]? = some (.cells (cA f') 34 (0, 0)) := by
  rw [heap_setCell_same _ _ _ _ _ _ h, cA_set _ _ _ hn, cA_congr hf]
theorem below_setRow {B : Nat} {a w : World} (h : Below B a w) {g : Nat} (hg : B ≤ g) (cs : Array Value) : Below B a (w.setRow g cs) :=
  h.trans ⟨rfl, rfl, rfl, by simp, fun k hk => setRow_other w g k cs (by omega)⟩

def MadeA (f : Nat → Int) (w : World) (e : Ending) (w' : World) : Prop := e = .returned (.agg (cA f)) ∧ Below w.heap.size w w'

set_option maxHeartbeats 1000000 in
theorem mark_any (v : Value) (zs : List Int) (w : World) (hs : Sl .i64 w v zs) :
    Calls Try.prog 12 #[v] w (MadeA (bit zs) w) := by
  have hB0 : Below w.heap.size w ((w.alloc (.cells (cA fun _ => 0) 34)).alloc (.cells (cA fun _ => 0) 34)) := ((Below.refl _ _).alloc (Nat.le_refl _) _).alloc (by simp) _
  have hr0 : ((w.alloc (.cells (cA fun _ => 0) 34)).alloc (.cells (cA fun _ => 0) 34)).heap[w.heap.size]? = some (.cells (cA fun _ => 0) 34 (0, 0)) := heap_alloc2_old _ _ _
  have hs0 : ((w.alloc (.cells (cA fun _ => 0) 34)).alloc (.cells (cA fun _ => 0) 34)).heap[w.heap.size + 1]? = some (.cells (cA (bit [])) 34 (0, 0)) := by rw [bit_nil]; exact heap_alloc2_new _ _ _
  have HB0 := Lib.hid hB0
  have HR0 := Lib.hid hr0
  have HS0 := Lib.hid hs0
  clear hB0 hr0 hs0
  rcases Sl.cases hs with ⟨a, cap, rfl, rfl⟩ | ⟨b, off, cap, rfl, h0, hlc, hcm, hlt, hc⟩
  · clear hs
    go_enter Try.func12, Try.ntmps12
    go_wp2
    refine wp_loop_rounds 1 ?_
    rw [rounds_succ]
    have hr := HR0.out
    have hst := HS0.out
    go_wp2_with (first
      | (refine wpList_load_row rfl 34 (.tmp 3) rfl (w.heap.size + 1) rfl 34 (cA (bit [])) (0, 0) _ hst Try.underlying34 rfl (by kernel_rfl) ?_)
      | (refine wpList_store_row rfl 34 (.tmp 2) (.tmp 17) rfl w.heap.size (cA (bit [])) rfl rfl 34 _ hr (by kernel_rfl) rfl (cA_one _) ?_))
    exact bodyPost_ret (v := .agg (cA (bit []))) (results_cell_row rfl _ _ w.heap.size 34 _ (0, 0) _ rfl (setRow_heap _ _ _ _ _ _ hr) Try.underlying34 rfl (by kernel_rfl)) rfl ⟨rfl, below_setRow HB0.out (Nat.le_refl _) _⟩
  · have HC := Lib.hid hc
    clear hs hc
    go_enter Try.func12, Try.ntmps12
    go_wp2
    go_loopw [8] (fun i wr => ∃ k : Nat, k ≤ zs.length ∧ i = .int .i64 k ∧ Below w.heap.size w wr ∧ wr.heap[w.heap.size]? = some (.cells (cA fun _ => 0) 34 (0, 0)) ∧ wr.heap[w.heap.size + 1]? = some (.cells (cA (bit (zs.take k))) 34 (0, 0))) (fun i _ => zs.length - (intOf i).toNat)
    case atStart => exact ⟨0, Nat.zero_le _, rfl, HB0.out, HR0.out, HS0.out⟩
    case round =>
      obtain ⟨k, hk, rfl, hb, hr, hst⟩ := hrel
      by_cases hlt2 : k < zs.length
      · have hcx := (hb.cell (p := ⟨b, off + k, none⟩) hlt).trans (HC.out k hlt2)
        have HT := Lib.hid (take_get hlt2)
        generalize zs.getD k 0 = z at *
        by_cases hz : 1 ≤ z ∧ z ≤ 7
        · have hn : nodeB z = true := decide_eq_true hz
          obtain ⟨z1, z7⟩ := hz
          obtain ⟨n, rfl⟩ : ∃ n : Nat, z = n := ⟨z.toNat, by omega⟩
          have hfz := frozen_of_row wr (w.heap.size + 1) n _ _ hst
          have hn8 : n < 8 := by omega
          have hset : (wr.setCell ⟨w.heap.size + 1, n, none⟩ (.int .i64 1)).heap[w.heap.size + 1]? = some (.cells (cA (bit (zs.take (k + 1)))) 34 (0, 0)) := by
            exact cA_store hst hn8 fun i _ => by rw [HT.out, bit_add ⟨z1, z7⟩]; rfl
          have hr2 : (wr.setCell ⟨w.heap.size + 1, n, none⟩ (.int .i64 1)).heap[w.heap.size]? = some (.cells (cA fun _ => 0) 34 (0, 0)) := (heap_setCell_other _ _ _ _ (by simp)).trans hr
          have HSET := Lib.hid hset
          have HR2 := Lib.hid hr2
          have hu := cA_cell hst hn8
          clear hset hr2 hr hst
          go_wp2_with (go_at_call 11; refine (isNode_any _ _).mono ?_; rintro e w' ⟨rfl, rfl⟩; rw [hn])
          go_roundw
          case rel => exact ⟨k + 1, by omega, by go_num, hb.setCell (by simp) _, HR2.out, HSET.out⟩
          case measure => simp [intOf]; omega
        · have hn : nodeB z = false := decide_eq_false hz
          have HE : Hid (cA (bit (zs.take (k + 1))) = cA (bit (zs.take k))) := Lib.hid (cA_congr fun i hi => by rw [HT.out]; exact bit_out hz i hi)
          clear hz
          go_wp2_with (go_at_call 11; refine (isNode_any _ _).mono ?_; rintro e w' ⟨rfl, rfl⟩; rw [hn])
          go_roundw
          case rel => exact ⟨k + 1, by omega, by go_num, hb, hr, by rw [HE.out]; exact hst⟩
          case measure => simp [intOf]; omega
      · obtain rfl : k = zs.length := by omega
        rw [List.take_length] at hst
        go_wp2_with (first
          | (refine wpList_load_row rfl 34 (.tmp 3) rfl (w.heap.size + 1) rfl 34 (cA (bit zs)) (0, 0) _ hst Try.underlying34 rfl (by kernel_rfl) ?_)
          | (refine wpList_store_row rfl 34 (.tmp 2) (.tmp 17) rfl w.heap.size (cA (bit zs)) rfl rfl 34 _ hr (by kernel_rfl) rfl (cA_one _) ?_))
        exact bodyPost_ret (v := .agg (cA (bit zs))) (results_cell_row rfl _ _ w.heap.size 34 _ (0, 0) _ rfl (setRow_heap _ _ _ _ _ _ hr) Try.underlying34 rfl (by kernel_rfl)) rfl ⟨rfl, below_setRow hb (Nat.le_refl _) _⟩
end Nd
end Go.Proofs.Ytogebbplfoainaa
