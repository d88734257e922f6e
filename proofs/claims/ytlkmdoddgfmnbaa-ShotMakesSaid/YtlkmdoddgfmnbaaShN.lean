/- New snapshots: shot.New. No condition but the list's size. -/
import Derived.Test.YtlkmdoddgfmnbaaShS
import Derived.Test.YtlkmdoddgfmnbaaLedN
import Derived.Test.YtlkmdoddgfmnbaaNodB
import Derived.Test.YtlkmdoddgfmnbaaClo
import Derived.BigRegion
import Derived.Deep.RegionWith
namespace Go.Proofs.Ytlkmdoddgfmnbaa
open Go.ChangeShapes Go.WideShapes Go.ChangeAt Go.RowKit
set_option linter.unusedVariables false
set_option maxRecDepth 100000
namespace Sh
def newOk (k : Int) (zs : List Int) : Prop := (1 ≤ k ∧ k ≤ 65535) ∧ Nd.chk zs = true
def Fails (w : World) (e : Ending) (w' : World) : Prop := e = .returned (.tuple #[.agg (sArr ⟨0, 0, [], ⟨0, 0, [], []⟩⟩ (.slice none 0 0) (.slice none 0 0) (.slice none 0 0)), .int .i64 1]) ∧ Below w.heap.size w w'
abbrev zS : Array Value := sArr ⟨0, 0, [], ⟨0, 0, [], []⟩⟩ (.slice none 0 0) (.slice none 0 0) (.slice none 0 0)

set_option maxHeartbeats 1000000 in
theorem new_bad (k : Int) (v : Value) (zs : List Int) (w : World) (h : Sl .i64 w v zs) (hno : ¬ newOk k zs) :
    Calls Try.prog 25 #[.int .i64 k, v] w (Fails w) := by
  have hst : (w.alloc (.cells zS 58)).heap[w.heap.size]? = some (.cells zS 58 (0, 0)) := heap_alloc_new _ _
  have hb0 : Below w.heap.size w (w.alloc (.cells zS 58)) := (Below.refl _ _).alloc (Nat.le_refl _) _
  have HB := Lib.hid hb0
  have HST := Lib.hid hst
  have HV := Lib.hid h
  clear hst hb0 h
  by_cases hk : 1 ≤ k ∧ k ≤ 65535
  · have e3 : Ld.newE k = 0 := if_pos hk
    have HE3 := Lib.hid e3
    have hc : Nd.errOf (Nd.chk zs) = 1 := by
      cases hq : Nd.chk zs with
      | false => rfl
      | true => exact absurd ⟨hk, hq⟩ hno
    have HC := Lib.hid hc
    clear hk hno e3 hc
    go_enter Try.func25, Try.ntmps25
    go_wp2_with fail
    refine (Ld.new_any k _).mono ?_
    rintro e w1 ⟨rfl, hb1⟩
    rw [HE3.out]
    have hA := (hb1.block w.heap.size (by simp)).trans HST.out
    have hz1 : w.heap.size < w1.heap.size := by have := hb1.size; simp at this; omega
    have hB1 : Below w.heap.size w w1 := HB.out.trans (hb1.mono HB.out.size)
    have HB1 := Lib.hid hB1
    have HA := Lib.hid hA
    have HZ := Lib.hid hz1
    have HV1 := Lib.hid (fun o => HV.out.below (hB1.alloc (Nat.le_of_lt hz1) o) (Nat.le_refl _))
    have hA9 : ∀ o, (w1.alloc o).heap[w.heap.size]? = some (.cells zS 58 (0, 0)) := fun o => (heap_alloc_old _ _ hz1).trans hA
    have HA9 := Lib.hid hA9
    clear hA hb1 hz1 hB1 hA9
    go_wp2_with fail
    refine (Nd.check_any _ zs _ (HV1.out _)).mono ?_
    rintro e w' ⟨rfl, rfl⟩
    rw [HC.out]
    have hx := HA9.out (.cells (Ld.nilA (Ld.newL k) (Ld.newN k)) 26)
    go_wp2_with (first
      | (refine wpList_store_row rfl 58 (.tmp 4) (.tmp 20) rfl w.heap.size zS rfl rfl 58 _ hx (by kernel_rfl) rfl (by simp [Value.oneCell']) ?_)
      | fail)
    refine bodyPost_ret (v := .tuple #[.agg zS, .int .i64 1]) (results_cell2 rfl _ _ w.heap.size 58 _ (0, 0) _ rfl (setRow_heap _ _ _ _ _ _ hx) Try.underlying58 rfl (by kernel_rfl) rfl) rfl ⟨rfl, ?_⟩
    exact Ld.below_row (HB1.out.alloc (Nat.le_of_lt HZ.out) _) (Nat.le_refl _) _
  · have e3 : Ld.newE k = 1 := if_neg hk
    have HE3 := Lib.hid e3
    clear hk hno e3 HV
    go_enter Try.func25, Try.ntmps25
    go_wp2_with fail
    refine (Ld.new_any k _).mono ?_
    rintro e w1 ⟨rfl, hb1⟩
    rw [HE3.out]
    have hA := (hb1.block w.heap.size (by simp)).trans HST.out
    have hz1 : w.heap.size < w1.heap.size := by have := hb1.size; simp at this; omega
    have HB1 := Lib.hid (HB.out.trans (hb1.mono HB.out.size))
    have HZ := Lib.hid hz1
    have hx : (w1.alloc (.cells (Ld.nilA (Ld.newL k) (Ld.newN k)) 26)).heap[w.heap.size]? = some (.cells zS 58 (0, 0)) := (heap_alloc_old _ _ hz1).trans hA
    clear hA hb1 hz1
    go_wp2_with (first
      | (refine wpList_store_row rfl 58 (.tmp 4) (.tmp 20) rfl w.heap.size zS rfl rfl 58 _ hx (by kernel_rfl) rfl (by simp [Value.oneCell']) ?_)
      | fail)
    refine bodyPost_ret (v := .tuple #[.agg zS, .int .i64 1]) (results_cell2 rfl _ _ w.heap.size 58 _ (0, 0) _ rfl (setRow_heap _ _ _ _ _ _ hx) Try.underlying58 rfl (by kernel_rfl) rfl) rfl ⟨rfl, ?_⟩
    exact Ld.below_row (HB1.out.alloc (Nat.le_of_lt HZ.out) _) (Nat.le_refl _) _
set_option maxHeartbeats 1000000 in
theorem rnew_bad (k : Int) (v : Value) (zs : List Int) (w : World) (h : Sl .i64 w v zs) (hno : ¬ newOk k zs) :
    Calls Try.prog 26 #[.int .i64 k, v] w (Fails w) := by
  have hst : (w.alloc (.cells zS 58)).heap[w.heap.size]? = some (.cells zS 58 (0, 0)) := heap_alloc_new _ _
  have hb0 : Below w.heap.size w (w.alloc (.cells zS 58)) := (Below.refl _ _).alloc (Nat.le_refl _) _
  have HB := Lib.hid hb0
  have HST := Lib.hid hst
  have HV := Lib.hid h
  clear hst hb0 h
  by_cases hk : 1 ≤ k ∧ k ≤ 65535
  · have e3 : Ld.newE k = 0 := if_pos hk
    have HE3 := Lib.hid e3
    have hc : Nd.errOf (Nd.chk zs) = 1 := by
      cases hq : Nd.chk zs with
      | false => rfl
      | true => exact absurd ⟨hk, hq⟩ hno
    have HC := Lib.hid hc
    clear hk hno e3 hc
    go_enter Try.func26, Try.ntmps26
    go_wp2_with fail
    refine (Ld.rnew_any k _).mono ?_
    rintro e w1 ⟨rfl, hb1⟩
    rw [HE3.out]
    have hA := (hb1.block w.heap.size (by simp)).trans HST.out
    have hz1 : w.heap.size < w1.heap.size := by have := hb1.size; simp at this; omega
    have hB1 : Below w.heap.size w w1 := HB.out.trans (hb1.mono HB.out.size)
    have HB1 := Lib.hid hB1
    have HA := Lib.hid hA
    have HZ := Lib.hid hz1
    have HV1 := Lib.hid (fun o => HV.out.below (hB1.alloc (Nat.le_of_lt hz1) o) (Nat.le_refl _))
    have hA9 : ∀ o, (w1.alloc o).heap[w.heap.size]? = some (.cells zS 58 (0, 0)) := fun o => (heap_alloc_old _ _ hz1).trans hA
    have HA9 := Lib.hid hA9
    clear hA hb1 hz1 hB1 hA9
    go_wp2_with fail
    refine (Nd.rcheck_any _ zs _ (HV1.out _)).mono ?_
    rintro e w' ⟨rfl, rfl⟩
    rw [HC.out]
    have hx := HA9.out (.cells (Ld.nilA (Ld.newL k) (Ld.newN k)) 26)
    go_wp2_with (first
      | (refine wpList_store_row rfl 58 (.tmp 4) (.tmp 20) rfl w.heap.size zS rfl rfl 58 _ hx (by kernel_rfl) rfl (by simp [Value.oneCell']) ?_)
      | fail)
    refine bodyPost_ret (v := .tuple #[.agg zS, .int .i64 1]) (results_cell2 rfl _ _ w.heap.size 58 _ (0, 0) _ rfl (setRow_heap _ _ _ _ _ _ hx) Try.underlying58 rfl (by kernel_rfl) rfl) rfl ⟨rfl, ?_⟩
    exact Ld.below_row (HB1.out.alloc (Nat.le_of_lt HZ.out) _) (Nat.le_refl _) _
  · have e3 : Ld.newE k = 1 := if_neg hk
    have HE3 := Lib.hid e3
    clear hk hno e3 HV
    go_enter Try.func26, Try.ntmps26
    go_wp2_with fail
    refine (Ld.rnew_any k _).mono ?_
    rintro e w1 ⟨rfl, hb1⟩
    rw [HE3.out]
    have hA := (hb1.block w.heap.size (by simp)).trans HST.out
    have hz1 : w.heap.size < w1.heap.size := by have := hb1.size; simp at this; omega
    have HB1 := Lib.hid (HB.out.trans (hb1.mono HB.out.size))
    have HZ := Lib.hid hz1
    have hx : (w1.alloc (.cells (Ld.nilA (Ld.newL k) (Ld.newN k)) 26)).heap[w.heap.size]? = some (.cells zS 58 (0, 0)) := (heap_alloc_old _ _ hz1).trans hA
    clear hA hb1 hz1
    go_wp2_with (first
      | (refine wpList_store_row rfl 58 (.tmp 4) (.tmp 20) rfl w.heap.size zS rfl rfl 58 _ hx (by kernel_rfl) rfl (by simp [Value.oneCell']) ?_)
      | fail)
    refine bodyPost_ret (v := .tuple #[.agg zS, .int .i64 1]) (results_cell2 rfl _ _ w.heap.size 58 _ (0, 0) _ rfl (setRow_heap _ _ _ _ _ _ hx) Try.underlying58 rfl (by kernel_rfl) rfl) rfl ⟨rfl, ?_⟩
    exact Ld.below_row (HB1.out.alloc (Nat.le_of_lt HZ.out) _) (Nat.le_refl _) _
end Sh
end Go.Proofs.Ytlkmdoddgfmnbaa
