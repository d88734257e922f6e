/- The sets one step from a set: around. No condition. -/
import Derived.Test.YtlbadhkdkbghbaaNodK
namespace Go.Proofs.Ytlbadhkdkbghbaa
open Go.ChangeShapes Go.WideShapes Go.ChangeAt Go.RowKit Go.Maps
set_option linter.unusedVariables false
namespace Nd

def flipF (f : Nat → Int) (n : Nat) : Nat → Int := fun i => if i = n then 1 - f n else f i
theorem W01.flip {f : Nat → Int} (h : W01 f) (n : Nat) : W01 (flipF f n) := by
  intro i; unfold flipF; split
  · have := h n; omega
  · exact h i
/-- which sets stand in the map behind k rounds -/
def Near (f : Nat → Int) (k : Nat) (D : DataW Unit) : Prop := ∀ h, W01 h → (Maps.has D (kA h) = true ↔ ∃ n, 1 ≤ n ∧ n < k ∧ nzB (flipF f n) = true ∧ ∀ i, i < 8 → h i = flipF f n i)
theorem near_0 (f : Nat → Int) : Near f 1 (.map []) := fun h _ => ⟨fun h => by simp [Maps.has] at h, fun ⟨n, h1, h2, _⟩ => absurd h1 (by omega)⟩
theorem near_skip {f : Nat → Int} {k : Nat} {D : DataW Unit} (h : Near f k D) (hz : nzB (flipF f k) = false) : Near f (k + 1) D := fun g hg => by
  rw [h g hg]
  refine ⟨fun ⟨n, a, b, c⟩ => ⟨n, a, by omega, c⟩, fun ⟨n, a, b, c⟩ => ⟨n, a, ?_, c⟩⟩
  rcases Nat.lt_or_ge n k with h1 | h1
  · exact h1
  · obtain rfl : n = k := by omega
    rw [hz] at c; cases c.1
theorem near_put {f : Nat → Int} {k : Nat} {D : DataW Unit} (hf : W01 f) (h : Near f k D) (hk : 1 ≤ k) (hD : IsMap D) (hz : nzB (flipF f k) = true) (d : DataW Unit) : Near f (k + 1) (D.put (kA (flipF f k)) d) := fun g hg => by
  by_cases he : kA g = kA (flipF f k)
  · have h1 : Maps.has (D.put (kA (flipF f k)) d) (kA g) = true := by rw [he]; exact has_put_same hD (kA_key (hf.flip k)) d
    exact ⟨fun _ => ⟨k, hk, by omega, hz, kA_inj hg (hf.flip k) he⟩, fun _ => h1⟩
  · rw [has_put_other he, h g hg]
    refine ⟨fun ⟨n, a, b, c⟩ => ⟨n, a, by omega, c⟩, fun ⟨n, a, b, c⟩ => ⟨n, a, ?_, c⟩⟩
    rcases Nat.lt_or_ge n k with h1 | h1
    · exact h1
    · obtain rfl : n = k := by omega
      exact absurd (kA_congr c.2) he

def MadeM (f : Nat → Int) (w : World) (e : Ending) (w' : World) : Prop :=
  ∃ g D, e = .returned (.map (some g)) ∧ w'.ownsMap (H := Unit) Try.prog 39 (plainElem Try.prog 3) g 8 D ∧ Near f 8 D ∧ Below w.heap.size w w'

set_option maxHeartbeats 2000000 in
theorem around_any (f : Nat → Int) (w : World) (hf : W01 f) :
    Calls Try.prog 32 #[.agg (cA f)] w (MadeM f w) := by
  have hmm := @run_makeMap Try.prog
  have h00 : ((w.alloc (.cells (cA f) 39)).alloc (.map #[] 0)).heap[w.heap.size]? = some (.cells (cA f) 39 (0, 0)) := heap_alloc2_old _ _ _
  have hm0 := World.ownsMap_made (H := Unit) (w.alloc (.cells (cA f) 39)) Try.prog 39 (plainElem Try.prog 3)
  have hz0 : (w.alloc (.cells (cA f) 39)).heap.size = w.heap.size + 1 := by simp
  rw [hz0] at hm0
  have hb0 : Below w.heap.size w ((w.alloc (.cells (cA f) 39)).alloc (.map #[] 0)) := ((Below.refl _ _).alloc (Nat.le_refl _) _).alloc (by simp) _
  have HF := Lib.hid hf
  clear hf hz0
  go_enter Try.func32, Try.ntmps32
  go_wp2
  clear hmm
  go_loopw [4] (fun i wr => ∃ (k : Nat) (D : DataW Unit), 1 ≤ k ∧ k ≤ 8 ∧ i = .int .i64 k ∧ wr.heap[w.heap.size]? = some (.cells (cA f) 39 (0, 0)) ∧ wr.ownsMap Try.prog 39 (plainElem Try.prog 3) (w.heap.size + 1) k D ∧ Near f k D ∧ Below w.heap.size w wr) (fun i _ => 8 - (intOf i).toNat)
  case atStart => exact ⟨1, _, Nat.le_refl _, by omega, rfl, h00, hm0.mono (by omega), near_0 f, hb0⟩
  case round =>
    clear h00 hm0 hb0
    obtain ⟨k, D, hk1, hk8, rfl, hh, hown, hnear, hb⟩ := hrel
    have HN := Lib.hid hnear
    clear hnear
    by_cases hlt : k ≤ 7
    · have c0 := cA_cell hh (n := k) (by omega)
      have hfk := HF.out k
      have hbd : 0 ≤ f k ∧ f k ≤ 1 := by omega
      obtain ⟨b0, b1⟩ := hbd
      have hsz : w.heap.size < wr.heap.size := (Array.getElem?_eq_some_iff.1 hh).1
      clear hfk
      have hnew : (wr.alloc (.cells (cA f) 39)).heap[wr.heap.size]? = some (.cells (cA f) 39 (0, 0)) := heap_alloc_new _ _
      have cN := cA_cell hnew (n := k) (by omega)
      have fN := frozen_of_row _ wr.heap.size k _ _ hnew
      have hst : ((wr.alloc (.cells (cA f) 39)).setCell ⟨wr.heap.size, k, none⟩ (.int .i64 (1 - f k))).heap[wr.heap.size]? = some (.cells (cA (flipF f k)) 39 (0, 0)) := cA_store hnew (by omega) fun i _ => rfl
      have hnz := run_nz2 (HF.out.flip k)
      have hgB : (wr.alloc (.cells (cA (flipF f k)) 39)).heap[wr.heap.size]? = some (.cells (cA (flipF f k)) 39 (0, 0)) := heap_alloc_new _ _
      have hbB : Below w.heap.size w (wr.alloc (.cells (cA (flipF f k)) 39)) := hb.alloc hb.size _
      have hhB : (wr.alloc (.cells (cA (flipF f k)) 39)).heap[w.heap.size]? = some (.cells (cA f) 39 (0, 0)) := (heap_alloc_old _ _ hsz).trans hh
      have hoB : (wr.alloc (.cells (cA (flipF f k)) 39)).ownsMap (H := Unit) Try.prog 39 (plainElem Try.prog 3) (w.heap.size + 1) k D := hown.alloc _
      have hlm := hown.lt
      have HBB := Lib.hid hbB
      have HHB := Lib.hid hhB
      have hk64 : (Lit.int .i64 (k : Int)).wf = true := WalkArith.wf_i64 (by omega)
      have HK64 := Lib.hid hk64
      have HD := Lib.hid (hown.isMap)
      have HKA := Lib.hid (keyA (HF.out.flip k))
      clear hnew hbB hhB hk64 hst
      cases hz : nzB (flipF f k) with
      | false =>
        have HNK := Lib.hid (near_skip HN.out hz)
        rw [hz] at hnz
        clear hz HKA HD HN HF cN fN
        rcases (show k = 1 ∨ k = 2 ∨ k = 3 ∨ k = 4 ∨ k = 5 ∨ k = 6 ∨ k = 7 by omega) with rfl | rfl | rfl | rfl | rfl | rfl | rfl
        all_goals
          simp only [cA, flipF, Nat.reduceEqDiff, if_false, if_true] at hnz hgB
          go_wp2_with (first
            | (refine wpList_load_row rfl 39 (.tmp 1) rfl w.heap.size rfl 39 (cA f) (0, 0) _ hh Try.underlying39 rfl (by kernel_rfl) ?_)
            | (refine wpList_load_row rfl 39 (.tmp 5) rfl wr.heap.size rfl 39 _ (0, 0) _ hgB Try.underlying39 rfl (by kernel_rfl) ?_))
          go_roundw
          case rel => first | exact ⟨2, D, by decide, by decide, rfl, HHB.out, hoB.mono (by decide), HNK.out, HBB.out⟩ | exact ⟨3, D, by decide, by decide, rfl, HHB.out, hoB.mono (by decide), HNK.out, HBB.out⟩ | exact ⟨4, D, by decide, by decide, rfl, HHB.out, hoB.mono (by decide), HNK.out, HBB.out⟩ | exact ⟨5, D, by decide, by decide, rfl, HHB.out, hoB.mono (by decide), HNK.out, HBB.out⟩ | exact ⟨6, D, by decide, by decide, rfl, HHB.out, hoB.mono (by decide), HNK.out, HBB.out⟩ | exact ⟨7, D, by decide, by decide, rfl, HHB.out, hoB.mono (by decide), HNK.out, HBB.out⟩ | exact ⟨8, D, by decide, by decide, rfl, HHB.out, hoB.mono (by decide), HNK.out, HBB.out⟩
          case measure => simp [intOf]
      | true =>
        have HNK := Lib.hid (near_put HF.out HN.out hk1 HD.out hz (.lit (.int .i64 k)))
        rw [hz] at hnz
        clear hz HD HN HF cN fN
        rcases (show k = 1 ∨ k = 2 ∨ k = 3 ∨ k = 4 ∨ k = 5 ∨ k = 6 ∨ k = 7 by omega) with rfl | rfl | rfl | rfl | rfl | rfl | rfl
        all_goals
          have hka := HKA.out
          simp only [cA, flipF, Nat.reduceEqDiff, if_false, if_true] at hnz hgB hka
          have HKB := Lib.hid hka
          clear hka
          go_wp2_with (first
            | (refine wpList_load_row rfl 39 (.tmp 1) rfl w.heap.size rfl 39 (cA f) (0, 0) _ hh Try.underlying39 rfl (by kernel_rfl) ?_)
            | (refine wpList_load_row rfl 39 (.tmp 5) rfl wr.heap.size rfl 39 _ (0, 0) _ hgB Try.underlying39 rfl (by kernel_rfl) ?_)
            | (at_mapUpdate; refine wpList_mapUpdate_own _ rfl _ _ _ 43 rfl 39 3 setLaw Try.underlying43 _ (w.heap.size + 1) _ D rfl hoB (by decide) _ _ _ rfl rfl HKB.out _ [] (plainElem_int Try.underlying3 HK64.out) ?_; intro w1 hown1 hgrow1))
          have hh1 := (hgrow1.block w.heap.size (by have := HBB.out.size; simp; omega) (by simp)).trans HHB.out
          go_roundw
          case rel => first | exact ⟨2, _, by decide, by decide, rfl, hh1, hown1, HNK.out, HBB.out.grown hgrow1 HBB.out.size (fun j hj => by cases hj; omega)⟩ | exact ⟨3, _, by decide, by decide, rfl, hh1, hown1, HNK.out, HBB.out.grown hgrow1 HBB.out.size (fun j hj => by cases hj; omega)⟩ | exact ⟨4, _, by decide, by decide, rfl, hh1, hown1, HNK.out, HBB.out.grown hgrow1 HBB.out.size (fun j hj => by cases hj; omega)⟩ | exact ⟨5, _, by decide, by decide, rfl, hh1, hown1, HNK.out, HBB.out.grown hgrow1 HBB.out.size (fun j hj => by cases hj; omega)⟩ | exact ⟨6, _, by decide, by decide, rfl, hh1, hown1, HNK.out, HBB.out.grown hgrow1 HBB.out.size (fun j hj => by cases hj; omega)⟩ | exact ⟨7, _, by decide, by decide, rfl, hh1, hown1, HNK.out, HBB.out.grown hgrow1 HBB.out.size (fun j hj => by cases hj; omega)⟩ | exact ⟨8, _, by decide, by decide, rfl, hh1, hown1, HNK.out, HBB.out.grown hgrow1 HBB.out.size (fun j hj => by cases hj; omega)⟩
          case measure => simp [intOf]
    · obtain rfl : k = 8 := by omega
      go_wp2
      go_ret
      exact ⟨_, D, rfl, hown, HN.out, hb⟩
end Nd
end Go.Proofs.Ytlbadhkdkbghbaa
