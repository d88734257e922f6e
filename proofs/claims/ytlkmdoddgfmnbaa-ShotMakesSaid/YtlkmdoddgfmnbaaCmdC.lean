/- Which commands may be: what cmd.Check hands back. No condition. -/
import Derived.Test.YtlkmdoddgfmnbaaCmdN
namespace Go.Proofs.Ytlkmdoddgfmnbaa
open Go.ChangeShapes Go.WideShapes Go.ChangeAt Go.RowKit
set_option linter.unusedVariables false
set_option maxRecDepth 100000
namespace Cm

def okF (c : Cmd) (f : Nat) : Bool := if ((f : Nat) : Int) ∈ fieldsL c.kind then fitsF c f else numF c f == 0
def chkC (c : Cmd) : Bool := kindB c.kind && (List.range 7).all (okF c)
def cErr (b : Bool) : Int := if b then 0 else 40
theorem kindB_u64 {n : Int} (h : (Lit.int .i64 n).wf = true) : kindB (u64 n) = kindB n := by
  have := bounds_i64 h
  unfold kindB u64
  apply decide_eq_decide.2
  split <;> omega
theorem chk_no {c : Cmd} (h : kindB c.kind = false) : chkC c = false := by unfold chkC; rw [h]; rfl
theorem chk_bad {c : Cmd} {f : Nat} (hf : f < 7) (h : okF c f = false) : chkC c = false := by
  unfold chkC
  have : (List.range 7).all (okF c) = false := by
    rw [List.all_eq_false]
    exact ⟨f, List.mem_range.2 hf, by simp [h]⟩
  rw [this, Bool.and_false]
theorem chk_all {c : Cmd} (h : kindB c.kind = true) (h2 : ∀ g, g < 7 → okF c g = true) : chkC c = true := by
  unfold chkC
  rw [h, Bool.true_and, List.all_eq_true]
  exact fun g hg => h2 g (List.mem_range.1 hg)

set_option maxHeartbeats 1000000 in
theorem check_any (c : Cmd) (v : Value) (w : World) (h : IsCmd w v c) :
    Calls Try.prog 47 #[v] w fun e w' => e = .returned (.int .i64 (cErr (chkC c))) ∧ Below w.heap.size w w' := by
  have h' := h
  obtain ⟨vn, rfl, hsl, hw0, hw1, hw2, hw3, hw4, hw5, hw6⟩ := h'
  have hu := Lib.hid (u64_wrap hw0)
  have hkb := bounds_i64 hw0
  have hub : 0 ≤ u64 c.kind ∧ u64 c.kind ≤ 18446744073709551615 := by unfold u64; split <;> omega
  have HK := Lib.hid (kindB_u64 hw0)
  have HU := Lib.hid hub
  have hb0 : Below w.heap.size w (w.alloc (.cells #[.int .i64 c.kind, .int .i64 c.node, .int .i64 c.token, vn, .int .u64 c.boot, .int .u64 c.seq, .int .u64 c.serial, .int .u64 c.stamp] 29)) := (Below.refl _ _).alloc (Nat.le_refl _) _
  have hheap : (w.alloc (.cells #[.int .i64 c.kind, .int .i64 c.node, .int .i64 c.token, vn, .int .u64 c.boot, .int .u64 c.seq, .int .u64 c.serial, .int .u64 c.stamp] 29)).heap[w.heap.size]? = some (.cells #[.int .i64 c.kind, .int .i64 c.node, .int .i64 c.token, vn, .int .u64 c.boot, .int .u64 c.seq, .int .u64 c.serial, .int .u64 c.stamp] 29 (0, 0)) := heap_alloc_new _ _
  have HH := Lib.hid hheap
  have HB0 := Lib.hid hb0
  have HIC := Lib.hid (h.below hb0 (Nat.le_refl _))
  clear hb0 hheap h hw1 hw2 hw3 hw4 hw5 hw6 hub hkb hw0
  cases hkd : kindB c.kind
  · have HE := Lib.hid (chk_no hkd)
    have hk0 : kindB (u64 c.kind) = false := HK.out.trans hkd
    have Hk0 := Lib.hid hk0
    clear hkd hk0
    go_enter Try.func47, Try.ntmps47
    go_wp2_with (go_at_call 91; rw [hu.out]; refine (isKind_any _ _ HU.out.1 HU.out.2).mono ?_; rintro e w1 ⟨rfl, rfl⟩; rw [Hk0.out])
    go_ret
    exact ⟨by rw [HE.out]; rfl, HB0.out⟩
  · have hk0 : kindB (u64 c.kind) = true := HK.out.trans hkd
    have hk16 : 1 ≤ c.kind ∧ c.kind ≤ 6 := of_decide_eq_true hkd
    have Hk0 := Lib.hid hk0
    have HKD := Lib.hid hkd
    have H16 := Lib.hid hk16
    clear hkd hk0 hk16
    go_enter Try.func47, Try.ntmps47
    go_wp2_with (first
      | (go_at_call 91; rw [hu.out]; refine (isKind_any _ _ HU.out.1 HU.out.2).mono ?_; rintro e w1 ⟨rfl, rfl⟩; rw [Hk0.out])
      | (go_at_call 92; refine (fields_any _ _ H16.out).mono ?_; rintro e w1 ⟨v1, rfl, hs1, hb1⟩))
    have hh1 : w1.heap[w.heap.size]? = some (.cells #[.int .i64 c.kind, .int .i64 c.node, .int .i64 c.token, vn, .int .u64 c.boot, .int .u64 c.seq, .int .u64 c.serial, .int .u64 c.stamp] 29 (0, 0)) := (hb1.block _ (by simp)).trans HH.out
    have hic1 := HIC.out.below hb1 (Nat.le_refl _)
    have hB1 : Below w.heap.size w w1 := HB0.out.trans (hb1.mono (by simp))
    have hlt1 : w.heap.size < w1.heap.size := by have := hb1.size; simp at this; omega
    have HH1 := Lib.hid hh1
    clear hh1 hb1
    go_loopw [4] (fun f wr => ∃ k : Nat, k ≤ 7 ∧ f = .int .i64 k ∧ Below w1.heap.size w1 wr ∧ Hid (∀ g, g < k → okF c g = true)) (fun f _ => 7 - (intOf f).toNat)
    case atStart => exact ⟨0, by omega, rfl, Below.refl _ _, Lib.hid (fun g hg => absurd hg (by omega))⟩
    case round =>
      obtain ⟨k, hk, rfl, hb, HO⟩ := hrel
      have hhr := (hb.block _ hlt1).trans HH1.out
      have hsr := hs1.below hb (Nat.le_refl _)
      have hicr := hic1.below hb (Nat.le_refl _)
      by_cases hk6 : k ≤ 6
      · have hk6' : (k : Int) ≤ 6 := by omega
        by_cases hin : (k : Int) ∈ fieldsL c.kind
        · have HIN := Lib.hid (decide_eq_true hin)
          cases hfit : fitsF c k
          · have HE := Lib.hid (chk_bad (c := c) (f := k) (by omega) (by unfold okF; rw [if_pos hin, hfit]))
            have HF := Lib.hid hfit
            clear hin hfit
            go_wp2_with (first
              | (go_at_call 93; refine (fcontains_any _ _ _ _ hsr).mono ?_; rintro e w2 ⟨rfl, rfl⟩; rw [HIN.out])
              | (go_at_call 94; refine (fits_any c k hk6 _ _ hicr).mono ?_; rintro e w3 ⟨rfl, hb3⟩; rw [HF.out])
              | (refine wpList_load_row rfl 29 (.tmp 1) rfl w.heap.size rfl 29 #[.int .i64 c.kind, .int .i64 c.node, .int .i64 c.token, vn, .int .u64 c.boot, .int .u64 c.seq, .int .u64 c.serial, .int .u64 c.stamp] (0, 0) _ hhr Try.underlying29 rfl (by kernel_rfl) ?_))
            go_ret
            exact ⟨by rw [HE.out]; rfl, (hB1.trans (hb.mono hB1.size)).trans (hb3.mono (Nat.le_trans hB1.size hb.size))⟩
          · have hO : ∀ g, g < k + 1 → okF c g = true := fun g hg => by
              rcases Nat.lt_or_ge g k with h | h
              · exact HO.out g h
              · obtain rfl : g = k := by omega
                unfold okF; rw [if_pos hin, hfit]
            have HF := Lib.hid hfit
            have HO2 := Lib.hid hO
            clear hin hfit hO
            go_wp2_with (first
              | (go_at_call 93; refine (fcontains_any _ _ _ _ hsr).mono ?_; rintro e w2 ⟨rfl, rfl⟩; rw [HIN.out])
              | (go_at_call 94; refine (fits_any c k hk6 _ _ hicr).mono ?_; rintro e w3 ⟨rfl, hb3⟩; rw [HF.out])
              | (refine wpList_load_row rfl 29 (.tmp 1) rfl w.heap.size rfl 29 #[.int .i64 c.kind, .int .i64 c.node, .int .i64 c.token, vn, .int .u64 c.boot, .int .u64 c.seq, .int .u64 c.serial, .int .u64 c.stamp] (0, 0) _ hhr Try.underlying29 rfl (by kernel_rfl) ?_))
            go_roundw
            case rel => exact ⟨k + 1, by omega, by go_num, hb.trans (hb3.mono hb.size), HO2⟩
            case measure => simp [intOf]; omega
        · have HIN := Lib.hid (decide_eq_false hin)
          by_cases hz : numF c k = 0
          · have hO : ∀ g, g < k + 1 → okF c g = true := fun g hg => by
              rcases Nat.lt_or_ge g k with h | h
              · exact HO.out g h
              · obtain rfl : g = k := by omega
                unfold okF; rw [if_neg hin, hz]; rfl
            have hz2 : (numF c k != 0) = false := by rw [hz]; rfl
            have HO2 := Lib.hid hO
            clear hin hz hO
            go_wp2_with (first
              | (go_at_call 93; refine (fcontains_any _ _ _ _ hsr).mono ?_; rintro e w2 ⟨rfl, rfl⟩; rw [HIN.out])
              | (go_at_call 95; refine (number_any c k hk6 _ _ hicr).mono ?_; rintro e w3 ⟨rfl, hb3⟩)
              | (refine wpList_load_row rfl 29 (.tmp 1) rfl w.heap.size rfl 29 #[.int .i64 c.kind, .int .i64 c.node, .int .i64 c.token, vn, .int .u64 c.boot, .int .u64 c.seq, .int .u64 c.serial, .int .u64 c.stamp] (0, 0) _ hhr Try.underlying29 rfl (by kernel_rfl) ?_))
            go_roundw
            case rel => exact ⟨k + 1, by omega, by go_num, hb.trans (hb3.mono hb.size), HO2⟩
            case measure => simp [intOf]; omega
          · have HE := Lib.hid (chk_bad (c := c) (f := k) (by omega) (by unfold okF; rw [if_neg hin]; simpa using hz))
            have hz2 : (numF c k != 0) = true := by rw [bne_iff_ne]; exact hz
            clear hin hz
            go_wp2_with (first
              | (go_at_call 93; refine (fcontains_any _ _ _ _ hsr).mono ?_; rintro e w2 ⟨rfl, rfl⟩; rw [HIN.out])
              | (go_at_call 95; refine (number_any c k hk6 _ _ hicr).mono ?_; rintro e w3 ⟨rfl, hb3⟩)
              | (refine wpList_load_row rfl 29 (.tmp 1) rfl w.heap.size rfl 29 #[.int .i64 c.kind, .int .i64 c.node, .int .i64 c.token, vn, .int .u64 c.boot, .int .u64 c.seq, .int .u64 c.serial, .int .u64 c.stamp] (0, 0) _ hhr Try.underlying29 rfl (by kernel_rfl) ?_))
            go_ret
            exact ⟨by rw [HE.out]; rfl, (hB1.trans (hb.mono hB1.size)).trans (hb3.mono (Nat.le_trans hB1.size hb.size))⟩
      · obtain rfl : k = 7 := by omega
        have HE := Lib.hid (chk_all HKD.out HO.out)
        clear hhr hsr hicr
        go_wp2
        go_ret
        exact ⟨by rw [HE.out]; rfl, hB1.trans (hb.mono hB1.size)⟩
end Cm
end Go.Proofs.Ytlkmdoddgfmnbaa
