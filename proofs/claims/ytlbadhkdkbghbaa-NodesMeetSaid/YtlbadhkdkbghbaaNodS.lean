/- Whether two sets of nodes are one step apart: Steps. No condition. -/
import Derived.Test.YtlbadhkdkbghbaaNodG
namespace Go.Proofs.Ytlbadhkdkbghbaa
open Go.ChangeShapes Go.WideShapes Go.ChangeAt Go.RowKit Go.Maps
set_option linter.unusedVariables false
namespace Nd

/-- 1 where two sets differ -/
def dif (a b : List Int) (i : Nat) : Int := if bit a i = bit b i then 0 else 1
theorem dif_01 (a b : List Int) (i : Nat) : dif a b i = 0 ∨ dif a b i = 1 := by unfold dif; split <;> simp
theorem dif_comm (a b : List Int) (i : Nat) : dif a b i = dif b a i := by
  unfold dif
  by_cases h : bit a i = bit b i
  · rw [if_pos h, if_pos h.symm]
  · rw [if_neg h, if_neg fun e => h e.symm]
theorem bit_zero (a : List Int) : bit a 0 = 0 := ind_neg (by omega)
theorem bit_one {a : List Int} {i : Nat} : bit a i = 1 ↔ 1 ≤ i ∧ (i : Int) ∈ a := by
  unfold bit ind; split <;> simp_all
theorem one_of {d : Nat → Int} (h : ∀ i, d i = 0 ∨ d i = 1) (hs : S8 d = 1) : ∃ k, k < 8 ∧ d k = 1 ∧ ∀ i, i < 8 → i ≠ k → d i = 0 := by
  have h0 := h 0; have h1 := h 1; have h2 := h 2; have h3 := h 3; have h4 := h 4; have h5 := h 5; have h6 := h 6; have h7 := h 7
  unfold S8 at hs
  have fin : ∀ k, k < 8 → d k = 1 → (∀ i, i < 8 → i ≠ k → d i = 0) → ∃ k, k < 8 ∧ d k = 1 ∧ ∀ i, i < 8 → i ≠ k → d i = 0 := fun k a b c => ⟨k, a, b, c⟩
  have all : ∀ k, k < 8 → d k = 1 → ∀ i, i < 8 → i ≠ k → d i = 0 := fun k hk hd i hi hne => by
    rcases (show k = 0 ∨ k = 1 ∨ k = 2 ∨ k = 3 ∨ k = 4 ∨ k = 5 ∨ k = 6 ∨ k = 7 by omega) with rfl | rfl | rfl | rfl | rfl | rfl | rfl | rfl <;>
    rcases (show i = 0 ∨ i = 1 ∨ i = 2 ∨ i = 3 ∨ i = 4 ∨ i = 5 ∨ i = 6 ∨ i = 7 by omega) with rfl | rfl | rfl | rfl | rfl | rfl | rfl | rfl <;> first | exact absurd rfl hne | omega
  by_cases e0 : d 0 = 1; · exact fin 0 (by omega) e0 (all 0 (by omega) e0)
  by_cases e1 : d 1 = 1; · exact fin 1 (by omega) e1 (all 1 (by omega) e1)
  by_cases e2 : d 2 = 1; · exact fin 2 (by omega) e2 (all 2 (by omega) e2)
  by_cases e3 : d 3 = 1; · exact fin 3 (by omega) e3 (all 3 (by omega) e3)
  by_cases e4 : d 4 = 1; · exact fin 4 (by omega) e4 (all 4 (by omega) e4)
  by_cases e5 : d 5 = 1; · exact fin 5 (by omega) e5 (all 5 (by omega) e5)
  by_cases e6 : d 6 = 1; · exact fin 6 (by omega) e6 (all 6 (by omega) e6)
  exact fin 7 (by omega) (by omega) (all 7 (by omega) (by omega))
theorem S8_at {k : Nat} (h1 : 1 ≤ k) (h8 : k < 8) : S8 (fun i => ind (i = k)) = 1 := by
  have := S8_one (a := k) (by omega) (by omega)
  rw [← this]
  exact S8_congr fun i _ => ind_congr (by omega)
def stepsB (a b : List Int) : Bool := chk a && (chk b && decide (S8 (dif a b) = 1))
theorem stepsB_comm (a b : List Int) : stepsB a b = stepsB b a := by
  unfold stepsB
  rw [show S8 (dif a b) = S8 (dif b a) from S8_congr fun i _ => dif_comm a b i]
  cases chk a <;> cases chk b <;> rfl
theorem stepsB_self (a : List Int) : stepsB a a = false := by
  unfold stepsB
  rw [show S8 (dif a a) = S8 (fun _ => 0) from S8_congr fun i _ => if_pos rfl, S8_zero]
  cases chk a <;> rfl
theorem stepsB_chk {a b : List Int} (h : stepsB a b = true) : chk a = true ∧ chk b = true ∧ S8 (dif a b) = 1 := by
  unfold stepsB at h
  rw [Bool.and_eq_true, Bool.and_eq_true, decide_eq_true_eq] at h
  exact h
/-- the place where they differ -/
theorem step_at {a b : List Int} (h : S8 (dif a b) = 1) : ∃ k, 1 ≤ k ∧ k < 8 ∧ bit b k = 1 - bit a k ∧ ∀ i, i < 8 → i ≠ k → bit b i = bit a i := by
  obtain ⟨k, hk, hd, ho⟩ := one_of (dif_01 a b) h
  have hne : bit a k ≠ bit b k := fun e => by unfold dif at hd; rw [if_pos e] at hd; omega
  refine ⟨k, ?_, hk, ?_, fun i hi hik => ?_⟩
  · rcases Nat.eq_zero_or_pos k with rfl | h0
    · rw [bit_zero, bit_zero] at hne; exact absurd rfl hne
    · exact h0
  · have := bit_01 a k; have := bit_01 b k; omega
  · have := ho i hi hik
    unfold dif at this
    by_cases e : bit a i = bit b i
    · exact e.symm
    · rw [if_neg e] at this; omega
theorem step_of {a b : List Int} {k : Nat} (h1 : 1 ≤ k) (h8 : k < 8) (hk : bit b k = 1 - bit a k) (ho : ∀ i, i < 8 → i ≠ k → bit b i = bit a i) : S8 (dif a b) = 1 := by
  rw [← S8_at h1 h8]
  refine S8_congr fun i hi => ?_
  unfold dif
  by_cases e : i = k
  · subst e
    have := bit_01 a i
    rw [if_neg (by omega), ind_pos rfl]
  · rw [if_pos (ho i hi e).symm, ind_neg e]
theorem near_steps {a b : List Int} (hb : chk b = true) :
    (∃ n, 1 ≤ n ∧ n < 8 ∧ nzB (flipF (bit a) n) = true ∧ ∀ i, i < 8 → bit b i = flipF (bit a) n i) ↔ S8 (dif a b) = 1 := by
  constructor
  · rintro ⟨n, h1, h8, -, he⟩
    refine step_of h1 h8 ?_ fun i hi hne => ?_
    · rw [he n h8]; exact if_pos rfl
    · rw [he i hi]; exact if_neg hne
  · intro h
    obtain ⟨k, h1, h8, hk, ho⟩ := step_at h
    have he : ∀ i, i < 8 → bit b i = flipF (bit a) k i := fun i hi => by
      unfold flipF
      split
      · rename_i e; rw [e]; exact hk
      · rename_i e; exact ho i hi e
    refine ⟨k, h1, h8, ?_, he⟩
    unfold nzB
    rw [Bool.not_eq_true', decide_eq_false_iff_not, allz_iff]
    intro hz
    obtain ⟨_, hr, hl⟩ := chk_set hb
    obtain ⟨m, hm⟩ := List.exists_mem_of_length_pos hl
    have hm7 := hr m hm
    have := hz m.toNat (by omega)
    rw [← he m.toNat (by omega)] at this
    have h2 : bit b m.toNat = 1 := bit_one.2 ⟨by omega, by rw [show ((m.toNat : Nat) : Int) = m by omega]; exact hm⟩
    omega

def moreB (l t : List Int) : Bool := decide (l.length = t.length + 1) && t.all fun n => decide (n ∈ l)
theorem more_le {a b : List Int} (h : ∀ n ∈ b, n ∈ a) (i : Nat) : bit b i ≤ bit a i := by
  unfold bit
  by_cases hb : 1 ≤ i ∧ (i : Int) ∈ b
  · rw [ind_pos hb, ind_pos ⟨hb.1, h _ hb.2⟩]; exact Int.le_refl _
  · rw [ind_neg hb]; exact (ind_01 _).1
theorem S8_sub (f g : Nat → Int) : S8 (fun i => f i - g i) = S8 f - S8 g := by simp only [S8]; omega
theorem more_step {a b : List Int} (ha : chk a = true) (hb : chk b = true) (h : moreB a b = true) : S8 (dif a b) = 1 := by
  unfold moreB at h
  rw [Bool.and_eq_true, decide_eq_true_eq, List.all_eq_true] at h
  have hle := more_le (a := a) (b := b) fun n hn => of_decide_eq_true (h.2 n hn)
  have e : S8 (dif a b) = S8 (fun i => bit a i - bit b i) := S8_congr fun i _ => by
    have := hle i; have := bit_01 a i; have := bit_01 b i
    unfold dif; split <;> omega
  rw [e, S8_sub, sum_in ha, sum_in hb]
  have := h.1
  omega
theorem step_more {a b : List Int} (ha : chk a = true) (hb : chk b = true) {k : Nat} (h1 : 1 ≤ k) (h8 : k < 8) (hk : bit b k = 0) (hak : bit a k = 1) (ho : ∀ i, i < 8 → i ≠ k → bit b i = bit a i) : moreB a b = true := by
  unfold moreB
  rw [Bool.and_eq_true, decide_eq_true_eq, List.all_eq_true]
  have e : S8 (bit a) = S8 (fun i => bit b i + ind (i = k)) := S8_congr fun i hi => by
    by_cases e : i = k
    · subst e; rw [ind_pos rfl, hk, hak]; rfl
    · rw [ind_neg e, ho i hi e]; omega
  rw [S8_add, S8_at h1 h8, sum_in ha, sum_in hb] at e
  refine ⟨by omega, fun n hn => decide_eq_true ?_⟩
  have hn7 := (chk_set hb).2.1 n hn
  have hbn : bit b n.toNat = 1 := bit_one.2 ⟨by omega, by rw [show ((n.toNat : Nat) : Int) = n by omega]; exact hn⟩
  have hne : n.toNat ≠ k := fun e => by rw [e, hk] at hbn; omega
  have := bit_one.1 ((ho n.toNat (by omega) hne).symm.trans hbn)
  rw [show ((n.toNat : Nat) : Int) = n by omega] at this
  exact this.2
theorem steps_more (a b : List Int) : stepsB a b = (chk a && (chk b && (moreB a b || moreB b a))) := by
  unfold stepsB
  cases ha : chk a with
  | false => rfl
  | true =>
    cases hb : chk b with
    | false => rfl
    | true =>
      rw [Bool.true_and, Bool.true_and, Bool.true_and, Bool.true_and, Bool.eq_iff_iff, decide_eq_true_eq, Bool.or_eq_true]
      constructor
      · intro h
        obtain ⟨k, h1, h8, hk, ho⟩ := step_at h
        rcases bit_01 a k with h0 | h0
        · exact .inr (step_more hb ha h1 h8 h0 (by omega) fun i hi hne => (ho i hi hne).symm)
        · exact .inl (step_more ha hb h1 h8 (by omega) h0 ho)
      · rintro (h | h)
        · exact more_step ha hb h
        · rw [show S8 (dif a b) = S8 (dif b a) from S8_congr fun i _ => dif_comm a b i]
          exact more_step hb ha h

theorem zeroI (w : World) : (zeroValue 3).run Try.prog w = .ok (.int .i64 0) w := by kernel_rfl
theorem owns_below {w w' : World} {g n : Nat} {D : DataW Unit} (h : w.ownsMap Try.prog 39 (plainElem Try.prog 3) g n D) (hb : Below w.heap.size w w') : w'.ownsMap Try.prog 39 (plainElem Try.prog 3) g n D :=
  h.kept (row := none) ⟨hb.os, hb.tape, hb.output, hb.size, fun k hk _ => hb.block k hk⟩ (by simp)

set_option maxHeartbeats 2000000 in
theorem steps_any (v u : Value) (a b : List Int) (w : World) (hs : Sl .i64 w v a) (hv : Sl .i64 w u b) :
    Calls Try.prog 22 #[v, u] w fun e w' => e = .returned (.bool (stepsB a b)) ∧ Below w.heap.size w w' := by
  cases ha : chk a with
  | false =>
    have HM : Hid (stepsB a b = false) := Lib.hid (by unfold stepsB; rw [ha]; rfl)
    have hce : errOf (chk a) = 1 := by rw [ha]; rfl
    have HC := Lib.hid hce
    clear ha hce
    go_enter Try.func22, Try.ntmps22
    go_wp2_with fail
    refine (check_any _ _ _ hs).mono ?_
    rintro e w1 ⟨rfl, rfl⟩
    rw [HC.out]
    go_wp2
    go_ret
    exact ⟨ret_bool HM.out.symm, Below.refl _ _⟩
  | true =>
    cases hb : chk b with
    | false =>
      have HM : Hid (stepsB a b = false) := Lib.hid (by unfold stepsB; rw [ha, hb]; rfl)
      have hce : errOf (chk a) = 0 := by rw [ha]; rfl
      have HC := Lib.hid hce
      have hcf : errOf (chk b) = 1 := by rw [hb]; rfl
      have HF := Lib.hid hcf
      clear ha hb hce hcf
      go_enter Try.func22, Try.ntmps22
      go_wp2_with fail
      refine (check_any _ _ _ hs).mono ?_
      rintro e w1 ⟨rfl, rfl⟩
      rw [HC.out]
      go_wp2_with fail
      refine (check_any _ _ _ hv).mono ?_
      rintro e w1 ⟨rfl, rfl⟩
      rw [HF.out]
      go_wp2
      go_ret
      exact ⟨ret_bool HM.out.symm, Below.refl _ _⟩
    | true =>
      have HM : Hid (stepsB a b = decide (S8 (dif a b) = 1)) := Lib.hid (by unfold stepsB; rw [ha, hb]; rfl)
      have HN := Lib.hid (near_steps (a := a) hb)
      have hce : errOf (chk a) = 0 := by rw [ha]; rfl
      have HC := Lib.hid hce
      have hcf : errOf (chk b) = 0 := by rw [hb]; rfl
      have HF := Lib.hid hcf
      clear ha hb hce hcf
      go_enter Try.func22, Try.ntmps22
      go_wp2_with fail
      refine (check_any _ _ _ hs).mono ?_
      rintro e w1 ⟨rfl, rfl⟩
      rw [HC.out]
      go_wp2_with fail
      refine (check_any _ _ _ hv).mono ?_
      rintro e w1 ⟨rfl, rfl⟩
      rw [HF.out]
      go_wp2_with fail
      refine (mark_any _ _ _ hs).mono ?_
      rintro e w1 ⟨rfl, hb1⟩
      go_wp2_with fail
      refine (around_any (bit a) _ (bit_01 a)).mono ?_
      rintro e w2 ⟨g, D, rfl, hown, hnear, hb2⟩
      have hb12 := hb1.trans (hb2.mono hb1.size)
      go_wp2_with fail
      refine (mark_any _ _ _ (hv.below hb12 (Nat.le_refl _))).mono ?_
      rintro e w3 ⟨rfl, hb3⟩
      have hown3 := owns_below hown hb3
      have hhas : Maps.has D (kA (bit b)) = stepsB a b := by
        rw [HM.out, Bool.eq_iff_iff, decide_eq_true_eq, hnear _ (bit_01 b)]
        exact HN.out
      have HH := Lib.hid hhas
      have HK := Lib.hid (keyA (bit_01 b))
      clear hnear hhas
      go_wp2_with (at_lookup; refine wpList_lookup_own_ok_int _ rfl _ _ 43 rfl 39 3 .i64 setLaw Try.underlying43 Try.underlying3 (zeroI _) g 8 D rfl hown3 _ _ rfl HK.out ?_; intro c hat hwc)
      go_ret
      exact ⟨ret_bool HH.out, hb12.trans (hb3.mono hb12.size)⟩
theorem steps12 : stepsB [1] [1, 2] = true := by decide
end Nd
end Go.Proofs.Ytlbadhkdkbghbaa
