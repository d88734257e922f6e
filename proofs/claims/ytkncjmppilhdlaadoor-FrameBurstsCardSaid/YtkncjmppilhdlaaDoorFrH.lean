/- A frame with some bits turned is refused: plain mathematics. No condition. -/
import Derived.Test.YtkncjmppilhdlaaDoorFrG
import Derived.Test.YtkncjmppilhdlaaDoorCrf
namespace Go.Proofs.YtkncjmppilhdlaaDoor
open Go.ChangeShapes Go.WideShapes Go.ChangeAt Go.RowKit
set_option linter.unusedVariables false
namespace Crc
/-- the bit n of a list of bytes, the highest of the first one first -/
def bitOf (xs : List Int) (n : Nat) : Bool := (xs.getD (n / 8) 0).toNat.testBit (7 - n % 8)
theorem mask_bit : ∀ p q : Fin 8, (128 / 2 ^ p.val).testBit (7 - q.val) = decide (q.val = p.val) := by decide
theorem bit_flip (xs : List Int) (p n : Nat) (hp : p / 8 < xs.length) : bitOf (flip xs p) n = (bitOf xs n ^^ decide (n = p)) := by
  unfold bitOf flip
  by_cases h : n / 8 = p / 8
  · have e : (xs.set (p / 8) (flipB (xs.getD (p / 8) 0) (p % 8))).getD (n / 8) 0 = flipB (xs.getD (p / 8) 0) (p % 8) := by
      rw [h]; simp [List.getD, hp]
    rw [e, h]
    unfold flipB
    rw [Int.toNat_natCast, Nat.testBit_xor]
    have := mask_bit ⟨p % 8, by omega⟩ ⟨n % 8, by omega⟩
    simp only [] at this
    rw [this]
    congr 1
    exact decide_eq_decide.2 (by omega)
  · have e : (xs.set (p / 8) (flipB (xs.getD (p / 8) 0) (p % 8))).getD (n / 8) 0 = xs.getD (n / 8) 0 := by
      simp [List.getD, List.getElem?_set_ne (fun h2 => h h2.symm)]
    rw [e, decide_eq_false (fun h2 => h (by rw [h2])), Bool.xor_false]
/-- which bits were turned -/
def Bits (b : BitVec 32) (p k : Nat) (zs xs : List Int) : Prop := ∀ n, bitOf xs n = (bitOf zs n ^^ (decide (p ≤ n ∧ n < p + k) && b.getLsbD (31 - (n - p))))
theorem bits_zero (b : BitVec 32) (p : Nat) (zs : List Int) : Bits b p 0 zs zs := by
  intro n
  rw [decide_eq_false (by omega), Bool.false_and, Bool.xor_false]
theorem bits_one {b : BitVec 32} {p k : Nat} {zs xs : List Int} (h : Bits b p k zs xs) (hp : (p + k) / 8 < xs.length) (hb : b.getLsbD (31 - k) = true) : Bits b p (k + 1) zs (flip xs (p + k)) := by
  intro n
  rw [bit_flip _ _ _ hp, h n]
  by_cases h1 : n = p + k
  · subst h1
    rw [decide_eq_false (show ¬ (p ≤ p + k ∧ p + k < p + k) by omega), decide_eq_true (show p ≤ p + k ∧ p + k < p + (k + 1) by omega), show 31 - (p + k - p) = 31 - k by omega, hb]
    simp
  · rw [decide_eq_false h1, Bool.xor_false]
    congr 2
    exact decide_eq_decide.2 (by omega)
theorem bits_none {b : BitVec 32} {p k : Nat} {zs xs : List Int} (h : Bits b p k zs xs) (hb : b.getLsbD (31 - k) = false) : Bits b p (k + 1) zs xs := by
  intro n
  rw [h n]
  by_cases h1 : n = p + k
  · subst h1
    rw [show 31 - (p + k - p) = 31 - k by omega, hb]
    simp
  · congr 2
    exact decide_eq_decide.2 (by omega)
theorem comp_bit : ∀ x : Fin 256, ∀ i : Fin 8, (255 - x.val).testBit i.val = !(x.val.testBit i.val) := by decide +kernel
theorem comp {x y : Int} (hx : 0 ≤ x ∧ x ≤ 255) (h : x + y = 255) {i : Nat} (hi : i < 8) : y.toNat.testBit i = !(x.toNat.testBit i) := by
  have := comp_bit ⟨x.toNat, by omega⟩ ⟨i, hi⟩
  simp only [] at this
  rw [← this]
  congr 1
  omega
theorem byte_eq {x y : Int} (hx : 0 ≤ x ∧ x ≤ 255) (hy : 0 ≤ y ∧ y ≤ 255) (h : ∀ i, i < 8 → x.toNat.testBit i = y.toNat.testBit i) : x = y := by
  have : x.toNat = y.toNat := by
    apply Nat.eq_of_testBit_eq
    intro i
    rcases Nat.lt_or_ge i 8 with h1 | h1
    · exact h i h1
    · rw [Nat.testBit_lt_two_pow (Nat.lt_of_lt_of_le (show x.toNat < 2 ^ 8 by omega) (Nat.pow_le_pow_right (by omega) h1)), Nat.testBit_lt_two_pow (Nat.lt_of_lt_of_le (show y.toNat < 2 ^ 8 by omega) (Nat.pow_le_pow_right (by omega) h1))]
  omega
theorem steps_up (B : BitVec 32) (hB : B.toNat < 256) (n : Nat) (hn : n ≤ 24) : steps n (B <<< (24 - n)) = B <<< 24 := by
  rw [steps_low _ n (by omega), ← BitVec.shiftLeft_add, show 24 - n + n = 24 by omega]
  intro i hi
  rw [BitVec.getLsbD_shiftLeft]
  have h2 : B.getLsbD (31 - i - (24 - n)) = false := by
    rw [BitVec.getLsbD]
    exact Nat.testBit_lt_two_pow (Nat.lt_of_lt_of_le hB (Nat.pow_le_pow_right (n := 2) (i := 8) (by omega) (by omega)))
  rw [h2]; simp
theorem word_bytes (s : Nat) : (BitVec.ofNat 32 (s / 16777216 % 256) <<< 24) ^^^ (BitVec.ofNat 32 (s / 65536 % 256) <<< 16) ^^^ (BitVec.ofNat 32 (s / 256 % 256) <<< 8) ^^^ BitVec.ofNat 32 (s % 256) = BitVec.ofNat 32 s := by
  have hb : ∀ (m j : Nat), (s / 2 ^ m % 2 ^ 8).testBit j = (decide (j < 8) && s.testBit (m + j)) := by
    intro m j
    rw [Nat.testBit_mod_two_pow, Nat.testBit_div_two_pow]
    rw [Nat.add_comm j m]
  have h24 := hb 24
  have h16 := hb 16
  have h8 := hb 8
  have h0 := hb 0
  simp only [show (2 : Nat) ^ 24 = 16777216 from rfl, show (2 : Nat) ^ 16 = 65536 from rfl, show (2 : Nat) ^ 8 = 256 from rfl, show (2 : Nat) ^ 0 = 1 from rfl, Nat.div_one, Nat.zero_add] at h24 h16 h8 h0
  apply BitVec.eq_of_getLsbD_eq
  intro i hi
  simp only [BitVec.getLsbD_xor, BitVec.getLsbD_shiftLeft, BitVec.getLsbD_ofNat, h24, h16, h8, h0]
  rcases (show i < 8 ∨ (8 ≤ i ∧ i < 16) ∨ (16 ≤ i ∧ i < 24) ∨ (24 ≤ i ∧ i < 32) by omega) with h | h | h | h
  · simp [h, show i < 32 by omega, show i < 24 by omega, show i < 16 by omega]
  · rw [show 8 + (i - 8) = i by omega]
    simp [show i < 32 by omega, show i < 24 by omega, show i < 16 by omega, show ¬ i < 8 by omega, show i - 8 < 8 by omega, show i - 8 < 32 by omega]
  · rw [show 16 + (i - 16) = i by omega]
    simp [show i < 32 by omega, show i < 24 by omega, show ¬ i < 16 by omega, show ¬ i < 8 by omega, show ¬ i - 8 < 8 by omega, show i - 16 < 8 by omega, show i - 16 < 32 by omega]
  · rw [show 24 + (i - 24) = i by omega]
    simp [show i < 32 by omega, show ¬ i < 24 by omega, show ¬ i < 16 by omega, show ¬ i < 8 by omega, show ¬ i - 8 < 8 by omega, show ¬ i - 16 < 8 by omega, show i - 24 < 8 by omega, show i - 24 < 32 by omega]
theorem crc_word (r : BitVec 32) (s : Nat) : crc r (Fr.be4 s) = steps 32 (r ^^^ BitVec.ofNat 32 s) := by
  rw [← word_bytes s]
  have b0 : (BitVec.ofNat 32 (s / 16777216 % 256)).toNat < 256 := by rw [BitVec.toNat_ofNat]; omega
  have b1 : (BitVec.ofNat 32 (s / 65536 % 256)).toNat < 256 := by rw [BitVec.toNat_ofNat]; omega
  have b2 : (BitVec.ofNat 32 (s / 256 % 256)).toNat < 256 := by rw [BitVec.toNat_ofNat]; omega
  have b3 : (BitVec.ofNat 32 (s % 256)).toNat < 256 := by rw [BitVec.toNat_ofNat]; omega
  show feed (feed (feed (feed r _) _) _) _ = _
  unfold feed
  simp only [Int.toNat_natCast]
  generalize BitVec.ofNat 32 (s / 16777216 % 256) = B0 at *
  generalize BitVec.ofNat 32 (s / 65536 % 256) = B1 at *
  generalize BitVec.ofNat 32 (s / 256 % 256) = B2 at *
  generalize BitVec.ofNat 32 (s % 256) = B3 at *
  have e1 := steps_up B1 b1 8 (by omega)
  have e2 := steps_up B2 b2 16 (by omega)
  have e3 := steps_up B3 b3 24 (by omega)
  rw [show 24 - 8 = 16 from rfl] at e1
  rw [show 24 - 16 = 8 from rfl] at e2
  rw [show 24 - 24 = 0 from rfl, BitVec.shiftLeft_zero] at e3
  rw [← e1, ← steps_xor, ← steps_add, ← e2, ← steps_xor, ← steps_add, ← e3, ← steps_xor, ← steps_add]
  simp only [BitVec.xor_assoc]
/-- the register behind bytes and their sum is always the same -/
theorem crc_residue (l : List Int) : crc start (l ++ Fr.be4 (sum l)) = steps 32 start := by
  have e : crc start (l ++ Fr.be4 (sum l)) = crc (crc start l) (Fr.be4 (sum l)) := by unfold crc; rw [List.foldl_append]
  rw [e, crc_word]
  unfold sum
  rw [BitVec.ofNat_toNat, BitVec.setWidth_eq, ← BitVec.xor_assoc, BitVec.xor_self, BitVec.zero_xor]
end Crc
namespace Fr
theorem head_same {zs xs : List Int} {b : BitVec 32} {p k : Nat} (hk : k ≤ 16) (h : Crc.Bits b p k zs xs) (hz : ∀ i, 0 ≤ zs.getD i 0 ∧ zs.getD i 0 ≤ 255) (hx : ∀ i, 0 ≤ xs.getD i 0 ∧ xs.getD i 0 ≤ 255) (oz : okHead zs) (ox : okHead xs) :
    ∀ i, i < 4 → xs.getD i 0 = zs.getD i 0 := by
  have hc : ∀ n, n < 16 → Crc.bitOf zs (n + 16) = !(Crc.bitOf zs n) ∧ Crc.bitOf xs (n + 16) = !(Crc.bitOf xs n) := by
    intro n hn
    unfold Crc.bitOf
    rw [show (n + 16) % 8 = n % 8 by omega, show (n + 16) / 8 = n / 8 + 2 by omega]
    rcases (show n / 8 = 0 ∨ n / 8 = 1 by omega) with e | e
    · rw [e]
      exact ⟨Crc.comp (hz 0) oz.1 (by omega), Crc.comp (hx 0) ox.1 (by omega)⟩
    · rw [e]
      exact ⟨Crc.comp (hz 1) oz.2.1 (by omega), Crc.comp (hx 1) ox.2.1 (by omega)⟩
  have hs : ∀ n, n < 16 → Crc.bitOf xs n = Crc.bitOf zs n ∧ Crc.bitOf xs (n + 16) = Crc.bitOf zs (n + 16) := by
    intro n hn
    obtain ⟨c1, c2⟩ := hc n hn
    have h1 := h n
    have h2 := h (n + 16)
    have hq : (decide (p ≤ n ∧ n < p + k) && b.getLsbD (31 - (n - p))) = false ∨ (decide (p ≤ n + 16 ∧ n + 16 < p + k) && b.getLsbD (31 - (n + 16 - p))) = false := by
      by_cases g : p ≤ n ∧ n < p + k
      · right; rw [decide_eq_false (by omega), Bool.false_and]
      · left; rw [decide_eq_false g, Bool.false_and]
    generalize (decide (p ≤ n ∧ n < p + k) && b.getLsbD (31 - (n - p))) = t1 at *
    generalize (decide (p ≤ n + 16 ∧ n + 16 < p + k) && b.getLsbD (31 - (n + 16 - p))) = t2 at *
    rw [c1] at h2
    rw [c2, h1] at h2
    have ht : t1 = t2 := by
      revert h2
      generalize Crc.bitOf zs n = a
      cases a <;> cases t1 <;> cases t2 <;> simp
    have ht1 : t1 = false := by rcases hq with q | q <;> simp_all
    rw [ht1, Bool.xor_false] at h1
    exact ⟨h1, by rw [c1, c2, h1]⟩
  have hb : ∀ n, n < 32 → Crc.bitOf xs n = Crc.bitOf zs n := by
    intro n hn
    rcases Nat.lt_or_ge n 16 with g | g
    · exact (hs n g).1
    · have := (hs (n - 16) (by omega)).2
      rwa [show n - 16 + 16 = n by omega] at this
  intro i hi
  apply Crc.byte_eq (hx i) (hz i)
  intro j hj
  have := hb (8 * i + (7 - j)) (by omega)
  unfold Crc.bitOf at this
  rwa [show (8 * i + (7 - j)) / 8 = i by omega, show 7 - (8 * i + (7 - j)) % 8 = j by omega] at this
theorem getD_bd {xs : List Int} (h : ∀ x ∈ xs, 0 ≤ x ∧ x ≤ 255) (i : Nat) : 0 ≤ xs.getD i 0 ∧ xs.getD i 0 ≤ 255 := by
  rcases Nat.lt_or_ge i xs.length with g | g
  · rw [show xs.getD i 0 = xs[i] by simp [List.getD, List.getElem?_eq_getElem g]]
    exact h _ (List.getElem_mem _)
  · rw [show xs.getD i 0 = 0 by simp [List.getD, List.getElem?_eq_none g]]
    omega
theorem burst_err {z xs : List Int} (hz : ∀ x ∈ z, (Lit.int .u8 x).wf = true) (hl : z.length ≤ 8192) {b : BitVec 32} {p k : Nat} (hk : k ≤ 16) (ht : Crc.Turned b p k (sealL z) xs true) (hb : Crc.Bits b p k (sealL z) xs) :
    ∃ e : Int, (e = 11 ∨ e = 70) ∧ Opens xs [] 0 e := by
  obtain ⟨h1, h2, h3, h4⟩ := ht
  have hlen := seal_len z
  have hzb := getD_bd fun x hx => bounds_u8 (sealL_wf hl hz x hx)
  have hxb := getD_bd h2
  obtain ⟨o1, o2⟩ := seal_okHead (zs := z) [] hl
  rw [List.append_nil] at o1 o2
  by_cases ox : okHead xs
  · have hsame := head_same hk hb hzb hxb o1 ox
    have l2 : lenOf xs = z.length := by
      unfold lenOf at o2 ⊢
      rw [hsame 2 (by omega), hsame 3 (by omega)]
      exact o2
    refine ⟨70, .inr rfl, Opens.sum (by omega) ox (by omega) fun hs => ?_⟩
    have hseal := (seal_iff (fun i _ => hxb i) (by omega) ox (by omega)).2 hs
    rw [l2, show 8 + z.length = xs.length by omega, List.take_length] at hseal
    have r1 := Crc.crc_residue (hd ((xs.drop 4).take z.length).length ++ (xs.drop 4).take z.length)
    have r2 := Crc.crc_residue (hd z.length ++ z)
    have r3 := h3 Crc.start
    have q1 : Crc.crc Crc.start xs = Crc.steps 32 Crc.start := by rw [← hseal]; exact r1
    have q2 : Crc.crc Crc.start (sealL z) = Crc.steps 32 Crc.start := r2
    rw [q1, q2] at r3
    have r4 : Crc.steps (8 * (sealL z).length - p) (Crc.hiBits b k) = 0#32 := by
      have h5 : Crc.steps 32 Crc.start ^^^ Crc.steps 32 Crc.start = Crc.steps 32 Crc.start ^^^ (Crc.steps 32 Crc.start ^^^ Crc.steps (8 * (sealL z).length - p) (Crc.hiBits b k)) := by rw [← r3]
      rw [← BitVec.xor_assoc, BitVec.xor_self, BitVec.zero_xor] at h5
      exact h5.symm
    exact h4.1 rfl (Crc.steps_inj _ r4)
  · exact ⟨11, .inl rfl, Opens.form (by omega) ox⟩
end Fr
end Go.Proofs.YtkncjmppilhdlaaDoor
