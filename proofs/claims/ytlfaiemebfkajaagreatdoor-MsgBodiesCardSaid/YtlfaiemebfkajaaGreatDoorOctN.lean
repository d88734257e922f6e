/- A number's bytes: what octet.Num and the document's own answer hand back. No condition. -/
import Derived.Test.YtlfaiemebfkajaaGreatDoorS8
namespace Go.Proofs.YtlfaiemebfkajaaGreatDoor
open Go.ChangeShapes Go.WideShapes Go.ChangeAt Go.RowKit
set_option linter.unusedVariables false
set_option maxRecDepth 100000
namespace Oc

/-- how many bytes a number has; its last w bytes, the highest first -/
def bw (n : Nat) : Nat := if h : n = 0 then 0 else bw (n / 256) + 1
termination_by n
decreasing_by omega
def be : Nat → Nat → List Int
  | 0, _ => []
  | w + 1, n => be w (n / 256) ++ [((n % 256 : Nat) : Int)]
def numL (n : Nat) : List Int := (bw n : Int) :: be (bw n) n

theorem bw_zero : bw 0 = 0 := by rw [bw]; simp
theorem bw_pos {n : Nat} (h : n ≠ 0) : bw n = bw (n / 256) + 1 := by rw [bw]; simp [h]
theorem be_length : ∀ w n, (be w n).length = w
  | 0, _ => rfl
  | w + 1, n => by simp [be, be_length w]
theorem be_bd : ∀ w n, ∀ x ∈ be w n, 0 ≤ x ∧ x < 256
  | 0, _, x, h => by simp [be] at h
  | w + 1, n, x, h => by
    simp only [be, List.mem_append, List.mem_singleton] at h
    rcases h with h | h
    · exact be_bd w _ x h
    · subst h; omega
theorem bw_le : ∀ k n, n < 256 ^ k → bw n ≤ k
  | 0, n, h => by simp at h; subst h; simp [bw_zero]
  | k + 1, n, h => by
    by_cases h0 : n = 0
    · subst h0; simp [bw_zero]
    · rw [bw_pos h0]
      have : n / 256 < 256 ^ k := by rw [Nat.pow_succ] at h; omega
      have := bw_le k _ this
      omega
theorem bw_le8 {n : Nat} (h : n < 18446744073709551616) : bw n ≤ 8 := bw_le 8 n (by simpa using h)
theorem be_bw : ∀ n, be (bw n) n = if n = 0 then [] else be (bw (n / 256)) (n / 256) ++ [((n % 256 : Nat) : Int)] := by
  intro n
  by_cases h : n = 0
  · subst h; simp [bw_zero, be]
  · rw [bw_pos h, if_neg h, be]
theorem numL_length (n : Nat) : (numL n).length = bw n + 1 := by simp [numL, be_length]
theorem wf_b {x : Int} (h : 0 ≤ x ∧ x < 256) : (Lit.int .u8 x).wf = true := WalkArith.wf_u8 (by omega)
theorem be_wf (w n : Nat) : ∀ x ∈ be w n, (Lit.int .u8 x).wf = true := fun x h => wf_b (be_bd w n x h)
theorem numL_wf {n : Nat} (h : n < 18446744073709551616) : ∀ x ∈ numL n, (Lit.int .u8 x).wf = true := by
  intro x hx
  simp only [numL, List.mem_cons] at hx
  rcases hx with rfl | hx
  · have := bw_le8 h; exact wf_b (by omega)
  · exact be_wf _ _ x hx

/-- the row while the loop goes down: the width, zeros, what has been written -/
def rowL (W n i : Nat) : List Int := (W : Int) :: (List.replicate i 0 ++ (be W n).drop i)
theorem rowL_zero (W n : Nat) : rowL W n 0 = (W : Int) :: be W n := by simp [rowL]
theorem rowL_get {W n i : Nat} (hi : i < W) : (rowL W n (i + 1)).length = W + 1 := by simp [rowL, be_length]; omega
theorem be_take {W n i m : Nat} (hi : i < W) (h : be (i + 1) m = (be W n).take (i + 1)) : be i (m / 256) = (be W n).take i ∧ (be W n).drop i = ((m % 256 : Nat) : Int) :: (be W n).drop (i + 1) := by
  have hl := be_length W n
  have hi' : i < (be W n).length := by omega
  have e := List.take_succ_eq_append_getElem hi'
  rw [e] at h
  simp only [be] at h
  have h2 := List.append_inj h (by simp [be_length]; omega)
  refine ⟨h2.1, ?_⟩
  rw [List.drop_eq_getElem_cons hi']
  have := h2.2
  simp at this
  rw [← this]
  simp
theorem row_step {w : World} {B g E W n i m cap : Nat} (hi : i < W) (h : be (i + 1) m = (be W n).take (i + 1))
    (hown : w.ownsRow B E 1 (.slice (some ⟨g, 0, none⟩) (W + 1) cap) (W + 1) ((rowL W n (i + 1)).map (Value.int .u8))) :
    (w.setCell ⟨g, i + 1, none⟩ (.int .u8 ((m % 256 : Nat) : Int))).ownsRow B E 1 (.slice (some ⟨g, 0, none⟩) (W + 1) cap) (W + 1) ((rowL W n i).map (Value.int .u8)) := by
  have h1 := (hown.stored (i + 1) (.int .u8 ((m % 256 : Nat) : Int))).1
  have e : (List.map (Value.int IntKind.u8) (rowL W n (i + 1))).set (i + 1) (Value.int IntKind.u8 ((m % 256 : Nat) : Int)) = List.map (Value.int .u8) (rowL W n i) := by
    rw [← List.map_set]
    congr 1
    simp only [rowL, (be_take hi h).2, List.set_cons_succ]
    congr 1
    rw [List.replicate_succ', List.append_assoc, List.set_append_right _ _ (by simp)]
    simp
  rw [e] at h1
  exact h1
theorem row_cell {w : World} {B g E W n i cap : Nat} (hi : i < W) 
    (hown : w.ownsRow B E 1 (.slice (some ⟨g, 0, none⟩) (W + 1) cap) (W + 1) ((rowL W n (i + 1)).map (Value.int .u8))) : w.cell? ⟨g, i + 1, none⟩ = some (.int .u8 0) := by
  rw [hown.cellAt (i + 1) (by omega)]
  simp [rowL, List.getElem?_append]
theorem row_start {w : World} {B g E W n cap : Nat} (hown : w.ownsRow B E 1 (.slice (some ⟨g, 0, none⟩) (W + 1) cap) (W + 1) (madeCells #[Value.int .u8 0] ((W + 1) * 1)).toList) :
    w.cell? ⟨g, 0, none⟩ = some (.int .u8 0) ∧ w.frozen? ⟨g, 0, none⟩ = false ∧
    (w.setCell ⟨g, 0, none⟩ (.int .u8 W)).ownsRow B E 1 (.slice (some ⟨g, 0, none⟩) (W + 1) cap) (W + 1) ((rowL W n W).map (Value.int .u8)) := by
  rw [toList_madeCells_one, Nat.mul_one] at hown
  refine ⟨?_, hown.frozenAt 0, ?_⟩
  · rw [hown.cellAt 0 (by omega)]; simp
  · have h1 := (hown.stored 0 (.int .u8 W)).1
    have e : (List.replicate (W + 1) (Value.int .u8 0)).set 0 (Value.int .u8 W) = List.map (Value.int .u8) (rowL W n W) := by
      simp [rowL, List.replicate_succ, List.drop_eq_nil_of_le (Nat.le_of_eq (be_length W n))]
    rw [e] at h1
    exact h1

set_option maxHeartbeats 400000 in
theorem num_any (n : Nat) (hn : n < 18446744073709551616) (w : World) :
    Calls Tryz.prog 81 #[.int .u64 n] w fun e w' => ∃ v, e = .returned v ∧ w'.ownsRow w.heap.size 5 1 v (bw n + 1) ((numL n).map (Value.int .u8)) ∧ Below w.heap.size w w' := by
  have h8 := bw_le8 hn
  go_enter Tryz.func81, Tryz.ntmps81
  go_wp2
  go_loop [3, 4] (fun wd r => ∃ k m : Nat, wd = .int .i64 k ∧ r = .int .u64 m ∧ k + bw m = bw n ∧ m ≤ n) (fun _ r => (intOf r).toNat)
  case atStart => exact ⟨0, n, rfl, rfl, by simp, Nat.le_refl _⟩
  case round =>
    obtain ⟨k, m, rfl, rfl, hk, hmn⟩ := hrel
    by_cases hm : m = 0
    · subst hm
      have hk' : k = bw n := by rw [bw_zero] at hk; omega
      clear hk
      subst hk'
      obtain ⟨i0, hi, hz0, hz1, hz2⟩ := info_parts info_u8
      go_wp2_with (at_make; refine wpList_make_full _ rfl (.tmp 15) (.tmp 15) 22 rfl w.heap.size 5 i0 (.int .u8 0) 1 Tryz.underlying22 hi hz0 hz1 .i64 .i64 _ _ (bw n + 1) rfl rfl (by simp; omega) (by simp; omega) (by rw [hz2]; omega) (by unfold maxLen; omega) (Nat.le_refl _) ?_; intro w1 hown hgrow; obtain ⟨hc0, hf0, hown1⟩ := row_start (n := n) hown; clear hown)
      have hb1 : Below w.heap.size w (w1.setCell ⟨w.heap.size, 0, none⟩ (.int .u8 (bw n))) := ((Below.refl _ _).grown hgrow (Nat.le_refl _) (by intro k hk; simp at hk)).setCell (Nat.le_refl _) _
      go_loopw [0, 6] (fun m i wr => ∃ k q : Nat, i = .int .i64 k ∧ k ≤ bw n ∧ m = .int .u64 q ∧ q ≤ n ∧ Hid (be k q = (be (bw n) n).take k) ∧
          wr.ownsRow w.heap.size 5 1 (.slice (some ⟨w.heap.size, 0, none⟩) (bw n + 1) (bw n + 1)) (bw n + 1) ((rowL (bw n) n k).map (Value.int .u8)) ∧ Below w.heap.size w wr)
        (fun _ i _ => (intOf i).toNat)
      case atStart => exact ⟨bw n, n, rfl, Nat.le_refl _, rfl, Nat.le_refl _, Lib.hid (List.take_of_length_le (Nat.le_of_eq (be_length _ _))).symm, hown1, hb1⟩
      case round =>
        clear hc0 hf0 hown1 hb1 hgrow
        obtain ⟨k, q, rfl, hk, rfl, hq, HB, hown, hb⟩ := hrel
        rcases k with _ | k
        · rw [rowL_zero] at hown
          go_wp2
          go_ret
          exact ⟨_, rfl, hown, hb⟩
        · have hc := row_cell (by omega) hown
          have hf := hown.frozenAt (k + 1)
          have hn := row_step (m := q) (by omega) HB.out hown
          have hn2 := (be_take (by omega) HB.out).1
          have HN := Lib.hid hn2
          clear hown hn2
          go_wp2
          go_roundw
          case rel => exact ⟨k, q / 256, rfl, by omega, by go_num, by omega, HN, hn, hb.setCell (Nat.le_refl _) _⟩
          case measure => simp [intOf]
    · have hs := Lib.hid (bw_pos hm)
      have hk2 : k ≤ bw n := by omega
      have HK := Lib.hid hk
      clear hk
      go_wp2
      go_round
      case rel => exact ⟨k + 1, m / 256, by go_num, by go_num, by have := hs.out; have := HK.out; omega, by omega⟩
      case measure => simp [intOf]; omega

/-! ### the document's answer -/
/-- what a caller wants of a number's bytes -/
def Made (B : Nat) (zs : List Int) (w : World) (e : Ending) (w' : World) : Prop := ∃ v, e = .returned v ∧ Own w' B v zs ∧ Sl .u8 w' v zs ∧ Below B w w'
theorem num_made (n : Nat) (hn : n < 18446744073709551616) (w : World) : Calls Tryz.prog 81 #[.int .u64 n] w (Made w.heap.size (numL n) w) :=
  (num_any n hn w).mono fun e w' ⟨v, he, hown, hb⟩ => by
    have h : Own w' w.heap.size v (numL n) := by unfold Own; rw [numL_length]; exact hown
    exact ⟨v, he, h, h.sl (numL_wf hn), hb⟩
end Oc
end Go.Proofs.YtlfaiemebfkajaaGreatDoor
