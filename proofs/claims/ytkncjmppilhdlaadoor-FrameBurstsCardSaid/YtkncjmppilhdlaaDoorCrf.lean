/- What becomes of the sum when bits are turned: plain mathematics. No condition. -/
import Derived.Test.YtkncjmppilhdlaaDoorCrc
namespace Go.Proofs.YtkncjmppilhdlaaDoor
set_option linter.unusedVariables false
namespace Crc
def bit1 : BitVec 32 := 2147483648#32
theorem steps_bit (k : Nat) (h : k ≤ 31) : steps k (1#32 <<< (31 - k)) = bit1 := by
  rw [steps_low _ k (by omega)]
  · rw [← BitVec.shiftLeft_add, show 31 - k + k = 31 by omega]; rfl
  · intro i hi
    rw [BitVec.getLsbD_shiftLeft]
    have h1 : (1#32).getLsbD (31 - i - (31 - k)) = false := by
      rw [BitVec.getLsbD_one]; simp; omega
    rw [h1]; simp
/-- a byte with the bit p from the top turned -/
def flipB (z : Int) (p : Nat) : Int := ((z.toNat ^^^ (128 / 2 ^ p) : Nat) : Int)
theorem top8 : ∀ p : Fin 8, BitVec.ofNat 32 (128 / 2 ^ p.val) <<< 24 = 1#32 <<< (31 - p.val) := by decide
theorem feed_xor (a b : BitVec 32) (z : Int) : feed (a ^^^ b) z = feed a z ^^^ steps 8 b := by
  unfold feed
  rw [BitVec.xor_assoc, BitVec.xor_comm b, ← BitVec.xor_assoc, steps_xor]
theorem crc_xor : ∀ (l : List Int) (a b : BitVec 32), crc (a ^^^ b) l = crc a l ^^^ steps (8 * l.length) b
  | [], a, b => rfl
  | z :: l, a, b => by
    show crc (feed (a ^^^ b) z) l = crc (feed a z) l ^^^ _
    rw [feed_xor, crc_xor l, ← steps_add, List.length_cons]
    congr 2; omega
theorem ofNat_xor32 (a b : Nat) : BitVec.ofNat 32 (a ^^^ b) = BitVec.ofNat 32 a ^^^ BitVec.ofNat 32 b := by
  apply BitVec.eq_of_toNat_eq
  rw [BitVec.toNat_xor, BitVec.toNat_ofNat, BitVec.toNat_ofNat, BitVec.toNat_ofNat]
  exact Nat.xor_mod_two_pow
theorem feed_flip (r : BitVec 32) (z : Int) (p : Nat) (h : p < 8) : feed r (flipB z p) = feed r z ^^^ steps (8 - p) bit1 := by
  have h1 := top8 ⟨p, h⟩
  have h2 := steps_bit p (by omega)
  unfold feed flipB
  rw [Int.toNat_natCast, ofNat_xor32, BitVec.shiftLeft_xor_distrib, h1, ← BitVec.xor_assoc, steps_xor]
  rw [← h2, ← steps_add, show p + (8 - p) = 8 by omega]
/-- a list of bytes with the bit p turned -/
def flip (l : List Int) (p : Nat) : List Int := l.set (p / 8) (flipB (l.getD (p / 8) 0) (p % 8))
theorem flip_cons (z : Int) (l : List Int) (p : Nat) : flip (z :: l) (p + 8) = z :: flip l p := by
  unfold flip
  rw [show (p + 8) / 8 = p / 8 + 1 by omega, show (p + 8) % 8 = p % 8 by omega]
  simp
theorem flip_len (l : List Int) (p : Nat) : (flip l p).length = l.length := by simp [flip]
theorem crc_flip : ∀ (l : List Int) (p : Nat) (r : BitVec 32), p < 8 * l.length → crc r (flip l p) = crc r l ^^^ steps (8 * l.length - p) bit1
  | [], p, r, h => by simp at h
  | z :: l, p, r, h => by
    rw [List.length_cons] at h ⊢
    rcases Nat.lt_or_ge p 8 with h1 | h1
    · have e : flip (z :: l) p = flipB z p :: l := by
        unfold flip
        rw [Nat.div_eq_of_lt h1, Nat.mod_eq_of_lt h1]
        rfl
      rw [e]
      show crc (feed r (flipB z p)) l = crc (feed r z) l ^^^ _
      rw [feed_flip r z p h1, crc_xor, ← steps_add]
      congr 2; omega
    · obtain ⟨q, rfl⟩ : ∃ q, p = q + 8 := ⟨p - 8, by omega⟩
      rw [flip_cons]
      show crc (feed r z) (flip l q) = crc (feed r z) l ^^^ _
      rw [crc_flip l q _ (by omega)]
      congr 2; omega
theorem flipB_bd {z : Int} (h0 : 0 ≤ z) (h1 : z ≤ 255) (p : Nat) : 0 ≤ flipB z p ∧ flipB z p ≤ 255 := by
  have h2 : z.toNat ^^^ (128 / 2 ^ p) < 2 ^ 8 := Nat.xor_lt_two_pow (by omega) (Nat.lt_of_le_of_lt (Nat.div_le_self _ _) (by decide))
  unfold flipB
  omega
theorem step_inj {r : BitVec 32} (h : step r = 0#32) : r = 0#32 := by
  unfold step at h
  cases hm : r.msb with
  | false =>
    rw [hm] at h
    simp only [Bool.false_eq_true, if_false, BitVec.xor_zero] at h
    apply BitVec.eq_of_getLsbD_eq
    intro i hi
    rw [BitVec.getLsbD_zero]
    rcases Nat.lt_or_ge i 31 with h1 | h1
    · have h2 := congrArg (fun b => b.getLsbD (i + 1)) h
      simp only [BitVec.getLsbD_shiftLeft, BitVec.getLsbD_zero] at h2
      simpa [show i + 1 < 32 by omega] using h2
    · have : i = 31 := by omega
      subst this
      rw [BitVec.msb_eq_getLsbD_last] at hm
      simpa using hm
  | true =>
    rw [hm] at h
    have h2 := congrArg (fun b => b.getLsbD 0) h
    simp only [if_true, BitVec.getLsbD_xor, BitVec.getLsbD_shiftLeft, BitVec.getLsbD_zero] at h2
    have h3 : poly.getLsbD 0 = true := by decide
    rw [h3, show decide (0 < 1) = true from rfl] at h2
    simp only [Bool.not_true, Bool.and_false, Bool.false_and, Bool.false_xor, Bool.true_eq_false] at h2
theorem steps_inj : ∀ (n : Nat) {r : BitVec 32}, steps n r = 0#32 → r = 0#32
  | 0, r, h => h
  | n + 1, r, h => steps_inj n (step_inj h)
/-- the k highest bits -/
def hiBits (b : BitVec 32) (k : Nat) : BitVec 32 := (b >>> (32 - k)) <<< (32 - k)
theorem hi_zero (b : BitVec 32) : hiBits b 0 = 0#32 := by
  unfold hiBits
  apply BitVec.eq_of_getLsbD_eq
  intro i hi
  rw [BitVec.getLsbD_shiftLeft, BitVec.getLsbD_zero]
  simp
theorem hi_get (b : BitVec 32) (k i : Nat) (hi : i < 32) : (hiBits b k).getLsbD i = (decide (32 - k ≤ i) && b.getLsbD i) := by
  unfold hiBits
  rw [BitVec.getLsbD_shiftLeft, BitVec.getLsbD_ushiftRight]
  by_cases h : 32 - k ≤ i
  · simp [h, hi, show 32 - k + (i - (32 - k)) = i by omega, Nat.not_lt.2 h]
  · simp [h, Nat.lt_of_not_le h]
theorem hi_succ_one (b : BitVec 32) (k : Nat) (h : k < 32) (hb : b.getLsbD (31 - k) = true) : hiBits b (k + 1) = hiBits b k ^^^ (1#32 <<< (31 - k)) ∧ hiBits b (k + 1) ≠ 0#32 := by
  constructor
  · apply BitVec.eq_of_getLsbD_eq
    intro i hi
    rw [BitVec.getLsbD_xor, hi_get _ _ _ hi, hi_get _ _ _ hi, BitVec.getLsbD_shiftLeft, BitVec.getLsbD_one]
    by_cases h1 : i = 31 - k
    · subst h1
      rw [hb, decide_eq_true (show 32 - (k + 1) ≤ 31 - k by omega), decide_eq_false (show ¬ (32 - k ≤ 31 - k) by omega)]
      simp [hi]
    · by_cases h2 : i < 31 - k
      · rw [decide_eq_false (show ¬ (32 - (k + 1) ≤ i) by omega), decide_eq_false (show ¬ (32 - k ≤ i) by omega)]
        simp [h2]
      · rw [decide_eq_true (show 32 - (k + 1) ≤ i by omega), decide_eq_true (show 32 - k ≤ i by omega), decide_eq_false (show ¬ (i - (31 - k) = 0) by omega)]
        simp
  · intro h2
    have h3 := congrArg (fun b => b.getLsbD (31 - k)) h2
    simp only [hi_get b (k + 1) (31 - k) (by omega), hb, BitVec.getLsbD_zero] at h3
    rw [decide_eq_true (show 32 - (k + 1) ≤ 31 - k by omega)] at h3
    exact absurd h3 (by decide)
theorem hi_succ_zero (b : BitVec 32) (k : Nat) (h : k < 32) (hb : b.getLsbD (31 - k) = false) : hiBits b (k + 1) = hiBits b k := by
  apply BitVec.eq_of_getLsbD_eq
  intro i hi
  rw [hi_get _ _ _ hi, hi_get _ _ _ hi]
  by_cases h1 : i = 31 - k
  · subst h1; rw [hb]; simp
  · by_cases h2 : 32 - k ≤ i
    · rw [decide_eq_true h2, decide_eq_true (show 32 - (k + 1) ≤ i by omega)]
    · rw [decide_eq_false h2, decide_eq_false (show ¬ (32 - (k + 1) ≤ i) by omega)]
/-- what holds when k bits of a burst at the bit p have been looked at -/
def Turned (b : BitVec 32) (p k : Nat) (zs xs : List Int) (t : Bool) : Prop :=
  xs.length = zs.length ∧ (∀ x ∈ xs, 0 ≤ x ∧ x ≤ 255) ∧ (∀ r, crc r xs = crc r zs ^^^ steps (8 * zs.length - p) (hiBits b k)) ∧ (t = true ↔ hiBits b k ≠ 0#32)
theorem turned_zero (b : BitVec 32) (p : Nat) {zs : List Int} (hz : ∀ x ∈ zs, 0 ≤ x ∧ x ≤ 255) : Turned b p 0 zs zs false := by
  refine ⟨rfl, hz, fun r => ?_, ?_⟩
  · rw [hi_zero, steps_zero, BitVec.xor_zero]
  · rw [hi_zero]; simp
theorem turned_zero_bit {b : BitVec 32} {p k : Nat} {zs xs : List Int} {t : Bool} (h : Turned b p k zs xs t) (hk : k < 32) (hb : b.getLsbD (31 - k) = false) : Turned b p (k + 1) zs xs t := by
  unfold Turned at *
  rw [hi_succ_zero b k hk hb]
  exact h
theorem turned_one_bit {b : BitVec 32} {p k : Nat} {zs xs : List Int} {t : Bool} (h : Turned b p k zs xs t) (hk : k < 32) (hp : p + k < 8 * zs.length) (hb : b.getLsbD (31 - k) = true) : Turned b p (k + 1) zs (flip xs (p + k)) true := by
  obtain ⟨h1, h2, h3, h4⟩ := h
  obtain ⟨g1, g2⟩ := hi_succ_one b k hk hb
  refine ⟨(flip_len _ _).trans h1, fun x hx => ?_, fun r => ?_, ?_⟩
  · unfold flip at hx
    rcases List.mem_or_eq_of_mem_set hx with hx | rfl
    · exact h2 x hx
    · have hlt : (p + k) / 8 < xs.length := by omega
      have hm : xs.getD ((p + k) / 8) 0 ∈ xs := by
        rw [show xs.getD ((p + k) / 8) 0 = xs[(p + k) / 8] by simp [List.getD, List.getElem?_eq_getElem hlt]]
        exact List.getElem_mem _
      exact flipB_bd (h2 _ hm).1 (h2 _ hm).2 _
  · rw [crc_flip _ _ _ (by rw [h1]; exact hp), h3, h1, g1, steps_xor, BitVec.xor_assoc]
    congr 2
    rw [show 8 * zs.length - p = k + (8 * zs.length - (p + k)) by omega, steps_add, steps_bit k (by omega)]
  · simp [g2]
/-- the sums differ just if a bit was turned -/
theorem turned_sums {b : BitVec 32} {p k : Nat} {zs xs : List Int} {t : Bool} (h : Turned b p k zs xs t) : (sum zs = sum xs ↔ t = false) := by
  obtain ⟨h1, h2, h3, h4⟩ := h
  unfold sum
  rw [h3]
  have e : ∀ a b : BitVec 32, a.toNat = b.toNat ↔ a = b := fun a b => ⟨BitVec.eq_of_toNat_eq, fun h => by rw [h]⟩
  rw [e]
  have e2 : ∀ a d s : BitVec 32, (a ^^^ s = a ^^^ d ^^^ s ↔ d = 0#32) := by
    intro a d s
    constructor
    · intro h
      have h5 : a ^^^ (a ^^^ s) = a ^^^ (a ^^^ d ^^^ s) := by rw [h]
      rw [← BitVec.xor_assoc, BitVec.xor_assoc a d s, ← BitVec.xor_assoc a a, BitVec.xor_self, BitVec.zero_xor, BitVec.zero_xor] at h5
      have h6 : s ^^^ s = (d ^^^ s) ^^^ s := by rw [← h5]
      rw [BitVec.xor_assoc, BitVec.xor_self, BitVec.xor_zero] at h6
      exact h6.symm
    · rintro rfl; simp
  rw [e2]
  constructor
  · intro h5
    have h6 := steps_inj _ h5
    cases t
    · rfl
    · exact absurd h6 (h4.1 rfl)
  · rintro rfl
    have : hiBits b k = 0#32 := by
      apply Classical.byContradiction
      intro h5
      exact absurd (h4.2 h5) (by decide)
    rw [this, steps_zero]
end Crc
end Go.Proofs.YtkncjmppilhdlaaDoor
