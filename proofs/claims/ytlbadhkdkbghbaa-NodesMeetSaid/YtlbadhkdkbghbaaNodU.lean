/- Majorities that meet: on lists alone, and the law's helpers common and inner. No condition but the lists' sizes. -/
import Derived.Test.YtlbadhkdkbghbaaNodT
namespace Go.Proofs.Ytlbadhkdkbghbaa
open Go.ChangeShapes Go.WideShapes Go.ChangeAt Go.RowKit
set_option linter.unusedVariables false
namespace Nd
theorem nocom {a b va vb : List Int} (h : (inV va a).any (fun n => decide (n ∈ inV vb b)) = false) (i : Nat) : bit va i * bit a i + bit vb i * bit b i ≤ 1 := by
  have h1 := bit_mul a va i
  have h2 := bit_mul b vb i
  rcases h1 with h1 | h1
  · omega
  rcases h2 with h2 | h2
  · omega
  exfalso
  have one : ∀ x y : Int, (x = 0 ∨ x = 1) → (y = 0 ∨ y = 1) → x * y = 1 → x = 1 ∧ y = 1 := fun x y hx hy h => by
    rcases hx with rfl | rfl <;> rcases hy with rfl | rfl <;> simp_all
  obtain ⟨a1, a2⟩ := one _ _ (bit_01 _ _) (bit_01 _ _) h1
  obtain ⟨b1, b2⟩ := one _ _ (bit_01 _ _) (bit_01 _ _) h2
  rw [bit_one] at a1 a2 b1 b2
  rw [List.any_eq_false] at h
  refine h i ?_ ?_
  · exact List.mem_filter.2 ⟨a1.2, decide_eq_true a2.2⟩
  · exact decide_eq_true (List.mem_filter.2 ⟨b1.2, decide_eq_true b2.2⟩)
theorem le_bit (l v : List Int) (i : Nat) : bit v i * bit l i ≤ bit l i := by
  rcases bit_01 v i with h | h <;> rcases bit_01 l i with g | g <;> rw [h, g] <;> decide
theorem meet_len {a b va vb : List Int} (ha : majB a va = true) (hb : majB b vb = true) (hle : ∀ i, bit b i ≤ bit a i) (hl : a.length = b.length ∨ a.length = b.length + 1) : (inV va a).any (fun n => decide (n ∈ inV vb b)) = true := by
  cases h : (inV va a).any (fun n => decide (n ∈ inV vb b)) with
  | true => rfl
  | false =>
    exfalso
    have ca : chk a = true := by unfold majB at ha; rw [Bool.and_eq_true] at ha; exact ha.1
    have cb : chk b = true := by unfold majB at hb; rw [Bool.and_eq_true] at hb; exact hb.1
    rw [maj_of ca, decide_eq_true_eq, sum_in ca] at ha
    rw [maj_of cb, decide_eq_true_eq, sum_in cb] at hb
    have hs : S8 (fun i => bit va i * bit a i + bit vb i * bit b i) ≤ S8 (bit a) := S8_le fun i _ => by
      have h1 := nocom h i
      have h2 := le_bit a va i
      have h3 := le_bit b vb i
      have h4 := hle i
      have h5 := bit_01 a i
      show bit va i * bit a i + bit vb i * bit b i ≤ bit a i
      have h6 := bit_mul a va i
      have h7 := bit_mul b vb i
      omega
    rw [S8_add, sum_in ca] at hs
    omega
theorem any_comm (x y : List Int) : x.any (fun n => decide (n ∈ y)) = y.any (fun n => decide (n ∈ x)) := by
  rw [Bool.eq_iff_iff, List.any_eq_true, List.any_eq_true]
  exact ⟨fun ⟨n, h, g⟩ => ⟨n, of_decide_eq_true g, decide_eq_true h⟩, fun ⟨n, h, g⟩ => ⟨n, of_decide_eq_true g, decide_eq_true h⟩⟩
theorem more_parts {a b : List Int} (h : moreB a b = true) : a.length = b.length + 1 ∧ ∀ i, bit b i ≤ bit a i := by
  unfold moreB at h
  rw [Bool.and_eq_true, decide_eq_true_eq, List.all_eq_true] at h
  exact ⟨h.1, more_le fun n hn => of_decide_eq_true (h.2 n hn)⟩
theorem meet {a b va vb : List Int} (h : stepsB a b = true ∨ a = b) (ha : majB a va = true) (hb : majB b vb = true) : (inV va a).any (fun n => decide (n ∈ inV vb b)) = true := by
  rcases h with h | rfl
  · rw [steps_more, Bool.and_eq_true, Bool.and_eq_true, Bool.or_eq_true] at h
    rcases h.2.2 with h | h
    · exact meet_len ha hb (more_parts h).2 (.inr (more_parts h).1)
    · rw [any_comm]
      exact meet_len hb ha (more_parts h).2 (.inr (more_parts h).1)
  · exact meet_len ha hb (fun _ => Int.le_refl _) (.inl rfl)

set_option maxHeartbeats 1000000 in
theorem common_any (v u : Value) (l t : List Int) (w : World) (hs : Sl .i64 w v l) (hv : Sl .i64 w u t) :
    Calls Try.prog 26 #[v, u] w fun e w' => e = .returned (.bool (l.any fun n => decide (n ∈ t))) ∧ w = w' := by
  rcases Sl.cases hs with ⟨a, cap, rfl, rfl⟩ | ⟨b, off, cap, rfl, h0, hlc, hcm, hlt, hc⟩
  · clear hs
    go_enter Try.func26, Try.ntmps26
    go_wp2
    refine wp_loop_rounds 1 ?_
    rw [rounds_succ]
    go_wp2
    go_ret
    exact ⟨rfl, rfl⟩
  · have HC := Lib.hid hc
    clear hs hc
    go_enter Try.func26, Try.ntmps26
    go_wp2
    go_loop [9] (fun i => ∃ k : Nat, k ≤ l.length ∧ i = .int .i64 k ∧ Hid (∀ n ∈ l.take k, n ∉ t)) (fun i => l.length - (intOf i).toNat)
    case atStart => exact ⟨0, Nat.zero_le _, rfl, Lib.hid (by simp)⟩
    case round =>
      obtain ⟨k, hk, rfl, HO⟩ := hrel
      by_cases hlt2 : k < l.length
      · have hcx := HC.out k hlt2
        have HT := Lib.hid (take_get hlt2)
        have HM := Lib.hid (mem_get hlt2)
        generalize l.getD k 0 = z at *
        by_cases hz : z ∈ t
        · have HB : Hid ((l.any fun n => decide (n ∈ t)) = true) := Lib.hid (List.any_eq_true.2 ⟨z, HM.out, decide_eq_true hz⟩)
          have hd := Lib.hid (decide_eq_true hz)
          clear hz
          go_wp2_with (go_at_call 16; refine (has_any _ _ _ _ hv).mono ?_; rintro e w1 ⟨rfl, rfl⟩; rw [hd.out])
          go_ret
          exact ⟨ret_bool HB.out.symm, rfl⟩
        · have HO2 : Hid (∀ n ∈ l.take (k + 1), n ∉ t) := by
            refine Lib.hid fun n hn => ?_
            rw [HT.out, List.mem_append, List.mem_singleton] at hn
            rcases hn with hn | rfl
            · exact HO.out n hn
            · exact hz
          have hd := Lib.hid (decide_eq_false hz)
          clear hz
          go_wp2_with (go_at_call 16; refine (has_any _ _ _ _ hv).mono ?_; rintro e w1 ⟨rfl, rfl⟩; rw [hd.out])
          go_round
          case rel => exact ⟨k + 1, by omega, by go_num, HO2⟩
          case measure => simp [intOf]; omega
      · obtain rfl : k = l.length := by omega
        have HB : Hid ((l.any fun n => decide (n ∈ t)) = false) := Lib.hid (by rw [List.any_eq_false]; intro n hn; have := HO.out; rw [List.take_length] at this; simpa using this n hn)
        go_wp2
        go_ret
        exact ⟨ret_bool HB.out.symm, rfl⟩

set_option maxHeartbeats 1000000 in
theorem inner_any (v u : Value) (l vs : List Int) (w : World) (hs : Sl .i64 w v l) (hv : Sl .i64 w u vs) (hb8 : vs.length * 8 ≤ 140737488351232) :
    Calls Try.prog 27 #[v, u] w (MadeI (inV vs l) w) := by
  rcases Sl.cases hv with ⟨a, cap, rfl, rfl⟩ | ⟨b, off, cap, rfl, h0, hlc, hcm, hlt, hc⟩
  · clear hv hs
    go_enter Try.func27, Try.ntmps27
    go_wp2
    refine wp_loop_rounds 1 ?_
    rw [rounds_succ]
    go_wp2
    go_ret
    exact ⟨_, rfl, OwnK.nil _ _ _ _, (OwnK.nil .i64 3 w w.heap.size).sl (by simp), Below.refl _ _⟩
  · have HC := Lib.hid hc
    have HW := Lib.hid hv.wf
    clear hv hc
    go_enter Try.func27, Try.ntmps27
    go_wp2
    go_loopw [5, 10] (fun u i wr => ∃ k : Nat, k ≤ vs.length ∧ i = .int .i64 k ∧ OwnI wr w.heap.size u (inV (vs.take k) l) ∧ Below w.heap.size w wr) (fun _ i _ => vs.length - (intOf i).toNat)
    case atStart => exact ⟨0, Nat.zero_le _, rfl, OwnK.nil _ _ _ _, Below.refl _ _⟩
    case round =>
      obtain ⟨k, hk, rfl, hown, hb⟩ := hrel
      have hsr := hs.below hb (Nat.le_refl _)
      by_cases hlt2 : k < vs.length
      · have hcx := (hb.cell (p := ⟨b, off + k, none⟩) hlt).trans (HC.out k hlt2)
        have HT := Lib.hid (take_get hlt2)
        have HZ := Lib.hid (HW.out _ (mem_get hlt2))
        have hle := inV_le (vs.take k) l
        rw [List.length_take, Nat.min_eq_left hk] at hle
        generalize vs.getD k 0 = z at *
        by_cases hz : z ∈ l
        · have HO : Hid (inV (vs.take (k + 1)) l = inV (vs.take k) l ++ [z]) := Lib.hid (by rw [HT.out, inV_snoc, if_pos hz])
          have hd := Lib.hid (decide_eq_true hz)
          clear hz
          go_wp2_with (first
            | (go_at_call 16; refine (has_any _ _ _ _ hsr).mono ?_; rintro e w1 ⟨rfl, rfl⟩; rw [hd.out])
            | (at_builtin; refine appI rfl _ _ rfl w.heap.size _ _ rfl (hown.alloc _) _ [z] rfl (Sl.new (fr := (0, 0)) wr #[Value.int .i64 z] [z] rfl rfl (Nat.le_refl _) (by decide) (by intro y hy; simp at hy; subst hy; exact HZ.out)) (by simp; omega) (by have := hb.size; simp; omega) ?_; intro u1 w1 hown1 hb1))
          go_roundw
          case rel => exact ⟨k + 1, by omega, by go_num, by rw [HO.out]; exact hown1, (hb.alloc hb.size _).trans hb1⟩
          case measure => simp [intOf]; omega
        · have HO : Hid (inV (vs.take (k + 1)) l = inV (vs.take k) l) := Lib.hid (by rw [HT.out, inV_snoc, if_neg hz])
          have hd := Lib.hid (decide_eq_false hz)
          clear hz
          go_wp2_with (go_at_call 16; refine (has_any _ _ _ _ hsr).mono ?_; rintro e w1 ⟨rfl, rfl⟩; rw [hd.out])
          go_roundw
          case rel => exact ⟨k + 1, by omega, by go_num, by rw [HO.out]; exact hown, hb⟩
          case measure => simp [intOf]; omega
      · obtain rfl : k = vs.length := by omega
        rw [List.take_length] at hown
        go_wp2
        go_ret
        exact ⟨_, rfl, hown, hown.sl (fun x hx => HW.out x (List.mem_filter.1 hx).1), hb⟩
end Nd
end Go.Proofs.Ytlbadhkdkbghbaa
