/- The sets of package nodes as arrays: size, Majority. No condition. -/
import Derived.Test.YtogebbplfoainaaNodM
import Derived.BigRegion
import Derived.Deep.RegionWith
namespace Go.Proofs.Ytogebbplfoainaa
open Go.ChangeShapes Go.WideShapes Go.ChangeAt Go.RowKit
set_option linter.unusedVariables false
set_option maxRecDepth 100000
namespace Nd

def sumTo (f : Nat → Int) : Nat → Int
  | 0 => 0
  | k + 1 => sumTo f k + f k
theorem sumTo_8 (f : Nat → Int) : sumTo f 8 = S8 f := by simp [sumTo, S8]
theorem sumTo_bd {f : Nat → Int} (h : ∀ i, f i = 0 ∨ f i = 1) : ∀ k : Nat, 0 ≤ sumTo f k ∧ sumTo f k ≤ k
  | 0 => ⟨Int.le_refl _, Int.le_refl _⟩
  | k + 1 => by have := sumTo_bd h k; have := h k; simp only [sumTo]; omega

theorem S8_bd {f : Nat → Int} (h : ∀ i, f i = 0 ∨ f i = 1) : 0 ≤ S8 f ∧ S8 f ≤ 8 := by
  have := sumTo_bd h 8
  rw [sumTo_8] at this
  exact this
set_option maxHeartbeats 2000000 in
theorem size_any (f : Nat → Int) (w : World) (hf : ∀ i, f i = 0 ∨ f i = 1) :
    Calls Try.prog 13 #[.agg (cA f)] w fun e w' => e = .returned (.int .i64 (S8 f)) ∧ w.alloc (.cells (cA f) 34) = w' := by
  have h0 : (w.alloc (.cells (cA f) 34)).heap[w.heap.size]? = some (.cells (cA f) 34 (0, 0)) := heap_alloc_new _ _
  have HS := Lib.hid (sumTo_bd hf)
  have i0 : ∀ w, (Instr.index 34 (.agg (cA f)) (.int .i64 0)).run Try.prog w = .ok (.int .i64 (f 0)) w := fun _ => by kernel_rfl
  have i1 : ∀ w, (Instr.index 34 (.agg (cA f)) (.int .i64 1)).run Try.prog w = .ok (.int .i64 (f 1)) w := fun _ => by kernel_rfl
  have i2 : ∀ w, (Instr.index 34 (.agg (cA f)) (.int .i64 2)).run Try.prog w = .ok (.int .i64 (f 2)) w := fun _ => by kernel_rfl
  have i3 : ∀ w, (Instr.index 34 (.agg (cA f)) (.int .i64 3)).run Try.prog w = .ok (.int .i64 (f 3)) w := fun _ => by kernel_rfl
  have i4 : ∀ w, (Instr.index 34 (.agg (cA f)) (.int .i64 4)).run Try.prog w = .ok (.int .i64 (f 4)) w := fun _ => by kernel_rfl
  have i5 : ∀ w, (Instr.index 34 (.agg (cA f)) (.int .i64 5)).run Try.prog w = .ok (.int .i64 (f 5)) w := fun _ => by kernel_rfl
  have i6 : ∀ w, (Instr.index 34 (.agg (cA f)) (.int .i64 6)).run Try.prog w = .ok (.int .i64 (f 6)) w := fun _ => by kernel_rfl
  have i7 : ∀ w, (Instr.index 34 (.agg (cA f)) (.int .i64 7)).run Try.prog w = .ok (.int .i64 (f 7)) w := fun _ => by kernel_rfl
  go_enter Try.func13, Try.ntmps13
  go_wp2_with (refine wpList_load_row rfl 34 (.tmp 1) rfl w.heap.size rfl 34 (cA f) (0, 0) _ h0 Try.underlying34 rfl (by kernel_rfl) ?_)
  go_loop [3, 7] (fun s i => ∃ k : Nat, k ≤ 8 ∧ i = .int .i64 k ∧ s = .int .i64 (sumTo f k)) (fun _ i => 8 - (intOf i).toNat)
  case atStart => exact ⟨0, by omega, rfl, rfl⟩
  case round =>
    obtain ⟨k, hk, rfl, rfl⟩ := hrel
    obtain ⟨b0, b1⟩ := HS.out k
    have hfk : 0 ≤ f k ∧ f k ≤ 1 := by have := hf k; omega
    obtain ⟨c0, c1⟩ := hfk
    have HT : Hid (sumTo f k + f k = sumTo f (k + 1)) := Lib.hid rfl
    have HE := Lib.hid (sumTo_8 f)
    clear hf HS
    rcases (show k = 0 ∨ k = 1 ∨ k = 2 ∨ k = 3 ∨ k = 4 ∨ k = 5 ∨ k = 6 ∨ k = 7 ∨ k = 8 by omega) with rfl | rfl | rfl | rfl | rfl | rfl | rfl | rfl | rfl
    all_goals first
      | (generalize sumTo f 8 = s at *
         go_wp2
         go_ret
         exact ⟨ret_int HE.out, rfl⟩)
      | (go_wp2
         go_round
         case rel => first | exact ⟨1, by decide, rfl, rfl⟩ | exact ⟨2, by decide, rfl, rfl⟩ | exact ⟨3, by decide, rfl, rfl⟩ | exact ⟨4, by decide, rfl, rfl⟩ | exact ⟨5, by decide, rfl, rfl⟩ | exact ⟨6, by decide, rfl, rfl⟩ | exact ⟨7, by decide, rfl, rfl⟩ | exact ⟨8, by decide, rfl, rfl⟩
         case measure => simp [intOf])

/-- the first k cells times those of a set -/
def upTo (f g : Nat → Int) (k : Nat) : Nat → Int := fun i => if i < k then g i * f i else g i
theorem upTo_0 (f g : Nat → Int) : cA (upTo f g 0) = cA g := cA_congr fun i _ => if_neg (Nat.not_lt_zero i)
theorem upTo_8 (f g : Nat → Int) : cA (upTo f g 8) = cA fun i => g i * f i := cA_congr fun i hi => if_pos hi
theorem upTo_step (f g : Nat → Int) (k i : Nat) : upTo f g (k + 1) i = if i = k then g k * f k else upTo f g k i := by
  unfold upTo
  by_cases h : i = k
  · rw [if_pos h, if_pos (by omega), h]
  · rw [if_neg h]
    by_cases h2 : i < k
    · rw [if_pos h2, if_pos (by omega)]
    · rw [if_neg h2, if_neg (by omega)]

theorem bit_mul (l v : List Int) (i : Nat) : bit v i * bit l i = 0 ∨ bit v i * bit l i = 1 := by
  rcases bit_01 l i with h | h <;> rcases bit_01 v i with g | g <;> rw [h, g] <;> simp
set_option maxHeartbeats 2000000 in
theorem majority_any (v u : Value) (zs vs : List Int) (w : World) (hs : Sl .i64 w v zs) (hv : Sl .i64 w u vs) :
    Calls Try.prog 8 #[v, u] w fun e w' => e = .returned (.bool (majB zs vs)) ∧ Below w.heap.size w w' := by
  cases hc : chk zs with
  | false =>
    have hm : majB zs vs = false := by unfold majB; rw [hc]; rfl
    have HM := Lib.hid hm
    have hce : errOf (chk zs) = 1 := by rw [hc]; rfl
    have HC := Lib.hid hce
    clear hm hc hce
    go_enter Try.func8, Try.ntmps8
    go_wp2_with (go_at_call 7; refine (check_any _ _ _ hs).mono ?_; rintro e w1 ⟨rfl, rfl⟩; rw [HC.out])
    go_ret
    exact ⟨ret_bool HM.out.symm, Below.refl _ _⟩
  | true =>
    have HM := Lib.hid (maj_of (v := vs) hc)
    have hce : errOf (chk zs) = 0 := by rw [hc]; rfl
    have HC := Lib.hid hce
    clear hc hce
    go_enter Try.func8, Try.ntmps8
    go_wp2_with (go_at_call 7; refine (check_any _ _ _ hs).mono ?_; rintro e w1 ⟨rfl, rfl⟩; rw [HC.out])
    refine (mark_any v zs _ hs).mono ?_
    rintro e w1 ⟨rfl, hb1⟩
    go_wp2_with fail
    refine (mark_any u vs _ ((hv.below hb1 (Nat.le_refl _)).below ((Below.refl _ _).alloc (Nat.le_refl _) _) (Nat.le_refl _))).mono ?_
    rintro e w2 ⟨rfl, hb2⟩
    go_wp2_with fail
    have hz12 : w1.heap.size < w2.heap.size := by have := hb2.size; simp at this; omega
    have hz01 := hb1.size
    have hr5 : (w2.alloc (.cells (cA (bit vs)) 34)).heap[w1.heap.size]? = some (.cells (cA (bit zs)) 34 (0, 0)) := (heap_alloc_old _ _ hz12).trans ((hb2.block w1.heap.size (by simp)).trans (heap_alloc_new _ _))
    have hr6 : (w2.alloc (.cells (cA (bit vs)) 34)).heap[w2.heap.size]? = some (.cells (cA (upTo (bit zs) (bit vs) 0)) 34 (0, 0)) := by rw [upTo_0]; exact heap_alloc_new _ _
    have hB : Below w.heap.size w (w2.alloc (.cells (cA (bit vs)) 34)) := ((hb1.trans ((Below.refl _ _).alloc hz01 _)).trans (hb2.mono (by simp; omega))).alloc (by omega) _
    generalize w1.heap.size = g5 at *
    generalize w2.heap.size = g6 at *
    clear hb1 hb2 hs hv
    go_loopw [15] (fun i wr => ∃ k : Nat, k ≤ 8 ∧ i = .int .i64 k ∧ Below w.heap.size w wr ∧ wr.heap[g5]? = some (.cells (cA (bit zs)) 34 (0, 0)) ∧ wr.heap[g6]? = some (.cells (cA (upTo (bit zs) (bit vs) k)) 34 (0, 0))) (fun i _ => 8 - (intOf i).toNat)
    case atStart => exact ⟨0, by omega, rfl, hB, hr5, hr6⟩
    case round =>
      clear hB hr5 hr6
      obtain ⟨k, hk, rfl, hb, h5, h6⟩ := hrel
      by_cases hlt : k < 8
      · have c5 := cA_cell h5 hlt
        have c6 := cA_cell h6 hlt
        have f6 := frozen_of_row wr g6 k _ _ h6
        have hx := bit_01 vs k
        have hy := ind_01 (1 ≤ k ∧ (k : Int) ∈ zs)
        have hup : upTo (bit zs) (bit vs) k k = bit vs k := if_neg (Nat.lt_irrefl k)
        rw [hup] at c6
        have HST := Lib.hid (fun (x : Int) (hx : x = bit vs k * bit zs k) => cA_store (f' := upTo (bit zs) (bit vs) (k + 1)) h6 hlt (x := x) (fun i hi => by rw [hx]; exact upTo_step _ _ _ _))
        have H5 := Lib.hid (fun (x : Int) => (heap_setCell_other wr ⟨g6, k, none⟩ g5 (.int .i64 x) (by simp; omega)).trans h5)
        have hy2 : 0 ≤ bit zs k ∧ bit zs k ≤ 1 := hy
        obtain ⟨y0, y1⟩ := hy2
        generalize bit zs k = y at *
        clear h5 h6 hup hy
        rcases hx with hx | hx
        all_goals
          rw [hx] at c6 HST
          clear hx
          go_wp2
          go_region
          go_wp2
          go_roundw
          case rel => exact ⟨k + 1, by omega, by go_num, (hb.trans (below_drewN _ 1)).setCell (by simp; omega) _, H5.out _, HST.out _ (by omega)⟩
          case measure => simp [intOf]; omega
      · obtain rfl : k = 8 := by omega
        rw [upTo_8] at h6
        have hp := fun i => bit_mul zs vs i
        have c60 := cA_cell h6 (n := 0) (by decide)
        have c50 := cA_cell h5 (n := 0) (by decide)
        have c61 := cA_cell h6 (n := 1) (by decide)
        have c51 := cA_cell h5 (n := 1) (by decide)
        have c62 := cA_cell h6 (n := 2) (by decide)
        have c52 := cA_cell h5 (n := 2) (by decide)
        have c63 := cA_cell h6 (n := 3) (by decide)
        have c53 := cA_cell h5 (n := 3) (by decide)
        have c64 := cA_cell h6 (n := 4) (by decide)
        have c54 := cA_cell h5 (n := 4) (by decide)
        have c65 := cA_cell h6 (n := 5) (by decide)
        have c55 := cA_cell h5 (n := 5) (by decide)
        have c66 := cA_cell h6 (n := 6) (by decide)
        have c56 := cA_cell h5 (n := 6) (by decide)
        have c67 := cA_cell h6 (n := 7) (by decide)
        have c57 := cA_cell h5 (n := 7) (by decide)
        have hl6 : g6 < wr.heap.size := (Array.getElem?_eq_some_iff.1 h6).1
        have hl5 : g5 < wr.heap.size := (Array.getElem?_eq_some_iff.1 h5).1
        have s1 := S8_bd (bit_01 zs)
        have s2 := S8_bd hp
        obtain ⟨s1a, s1b⟩ := s1
        obtain ⟨s2a, s2b⟩ := s2
        have HW := Lib.hid (IntWalk.i64_in (2 * S8 fun i => bit vs i * bit zs i) (by omega))
        go_wp2
        go_region_with (first
          | (go_at_call_of 13 (Value.int .i64 (bit zs 1)); refine (size_any (bit zs) _ (bit_01 zs)).mono ?_; rintro e w4 ⟨rfl, rfl⟩)
          | (go_at_call_of 13 (Value.int .i64 (bit vs 1 * bit zs 1)); refine (size_any (fun i => bit vs i * bit zs i) _ hp).mono ?_; rintro e w4 ⟨rfl, rfl⟩))
        all_goals
          go_wp2
          go_ret
          exact ⟨ret_bool (by rw [HW.out]; exact HM.out.symm), hb.trans (((((below_drewN _ 1)).alloc (by simp; omega) _).alloc (by simp; omega) _))⟩
end Nd
end Go.Proofs.Ytogebbplfoainaa
