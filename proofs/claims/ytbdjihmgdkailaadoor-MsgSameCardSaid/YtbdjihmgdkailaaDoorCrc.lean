/- The sum of 32 bits as steps of a register: plain mathematics. No condition. -/
import Init
namespace Go.Proofs.YtbdjihmgdkailaaDoor
set_option linter.unusedVariables false
set_option maxRecDepth 100000
namespace Crc
def poly : BitVec 32 := 0x04c11db7#32
/-- one step of the register -/
def step (r : BitVec 32) : BitVec 32 := (r <<< 1) ^^^ (if r.msb then poly else 0#32)
def steps : Nat → BitVec 32 → BitVec 32
  | 0, r => r
  | n + 1, r => step (steps n r)
theorem steps_add (a : Nat) : ∀ (b : Nat) (r : BitVec 32), steps (a + b) r = steps b (steps a r)
  | 0, r => rfl
  | b + 1, r => by rw [← Nat.add_assoc]; show step _ = step _; rw [steps_add a b r]
theorem step_xor (a b : BitVec 32) : step (a ^^^ b) = step a ^^^ step b := by
  unfold step
  rw [BitVec.shiftLeft_xor_distrib, BitVec.msb_xor]
  cases a.msb <;> cases b.msb <;> simp [BitVec.xor_assoc]
  · exact BitVec.xor_comm _ _
  · rw [← BitVec.xor_assoc poly, BitVec.xor_comm poly (b <<< 1), BitVec.xor_assoc (b <<< 1), BitVec.xor_self, BitVec.xor_zero]
theorem steps_xor : ∀ (n : Nat) (a b : BitVec 32), steps n (a ^^^ b) = steps n a ^^^ steps n b
  | 0, a, b => rfl
  | n + 1, a, b => by show step _ = step _ ^^^ step _; rw [steps_xor n a b, step_xor]
theorem step_zero : step 0#32 = 0#32 := by decide
theorem steps_zero : ∀ n, steps n 0#32 = 0#32
  | 0 => rfl
  | n + 1 => by show step _ = _; rw [steps_zero n, step_zero]
def tab : List (BitVec 32) := [0x00000000#32, 0x04c11db7#32, 0x09823b6e#32, 0x0d4326d9#32, 0x130476dc#32, 0x17c56b6b#32, 0x1a864db2#32, 0x1e475005#32, 0x2608edb8#32, 0x22c9f00f#32, 0x2f8ad6d6#32, 0x2b4bcb61#32, 0x350c9b64#32, 0x31cd86d3#32, 0x3c8ea00a#32, 0x384fbdbd#32]
theorem step_low {r : BitVec 32} (h : r.msb = false) : step r = r <<< 1 := by
  unfold step; rw [h]; simp
/-- while the highest bits are clear, a step only shifts -/
theorem steps_low (r : BitVec 32) : ∀ n, n ≤ 32 → (∀ i, i < n → r.getLsbD (31 - i) = false) → steps n r = r <<< n
  | 0, _, _ => by simp [steps]
  | n + 1, hn, h => by
    show step _ = _
    rw [steps_low r n (by omega) fun i hi => h i (by omega), step_low, BitVec.shiftLeft_add]
    rw [BitVec.msb_eq_getLsbD_last, BitVec.getLsbD_shiftLeft]
    have h1 := h n (by omega)
    have h2 : decide (32 - 1 < 32) = true := by decide
    rw [show (32 - 1 - n) = 31 - n by omega, h1]
    simp
theorem top4 : ∀ n : Fin 16, steps 4 ((BitVec.ofNat 32 n.val) <<< 28) = tab.getD n.val 0#32 := by decide
theorem parts (r : BitVec 32) : r = ((r >>> 28) <<< 28) ^^^ (r &&& 0x0fffffff#32) := by
  apply BitVec.eq_of_getLsbD_eq
  intro i hi
  rw [BitVec.getLsbD_xor, BitVec.getLsbD_shiftLeft, BitVec.getLsbD_ushiftRight, BitVec.getLsbD_and]
  have hm : ∀ j : Fin 32, (0x0fffffff#32).getLsbD j.val = decide (j.val < 28) := by decide
  rw [hm ⟨i, hi⟩]
  by_cases h : i < 28
  · simp [h, hi]
  · simp [h, hi, show 28 + (i - 28) = i by omega]
/-- four steps at once -/
theorem nib (r : BitVec 32) : steps 4 r = (r <<< 4) ^^^ tab.getD (r.toNat / 268435456) 0#32 := by
  have hp := parts r
  have hn : r.toNat / 268435456 < 16 := by have := r.isLt; omega
  have e : r >>> 28 = BitVec.ofNat 32 (r.toNat / 268435456) := by
    apply BitVec.eq_of_toNat_eq
    rw [BitVec.toNat_ushiftRight, Nat.shiftRight_eq_div_pow, BitVec.toNat_ofNat]
    rw [Nat.mod_eq_of_lt (by omega)]
  have h1 := top4 ⟨_, hn⟩
  have h2 : steps 4 (r &&& 0x0fffffff#32) = (r &&& 0x0fffffff#32) <<< 4 := by
    apply steps_low _ 4 (by omega)
    intro i hi
    rw [BitVec.getLsbD_and]
    have hm : ∀ j : Fin 32, (0x0fffffff#32).getLsbD j.val = decide (j.val < 28) := by decide
    rw [hm ⟨31 - i, by omega⟩]
    simp; omega
  have h3 : (r &&& 0x0fffffff#32) <<< 4 = r <<< 4 := by
    apply BitVec.eq_of_getLsbD_eq
    intro i hi
    rw [BitVec.getLsbD_shiftLeft, BitVec.getLsbD_shiftLeft, BitVec.getLsbD_and]
    have hm : ∀ j : Fin 32, (0x0fffffff#32).getLsbD j.val = decide (j.val < 28) := by decide
    by_cases h4 : i < 4
    · simp [h4]
    · rw [hm ⟨i - 4, by omega⟩]; simp [show i - 4 < 28 by omega]
  calc steps 4 r = steps 4 (((r >>> 28) <<< 28) ^^^ (r &&& 0x0fffffff#32)) := by rw [← hp]
    _ = steps 4 ((r >>> 28) <<< 28) ^^^ steps 4 (r &&& 0x0fffffff#32) := steps_xor _ _ _
    _ = _ := by rw [h2, h3, e, h1, BitVec.xor_comm]

/-- one byte more -/
def feed (r : BitVec 32) (z : Int) : BitVec 32 := steps 8 (r ^^^ (BitVec.ofNat 32 z.toNat <<< 24))
def crc (r : BitVec 32) (l : List Int) : BitVec 32 := l.foldl feed r
def start : BitVec 32 := 4294967295#32
/-- the sum of a list of bytes -/
def sum (l : List Int) : Nat := (crc start l ^^^ start).toNat
theorem crc_snoc (r : BitVec 32) (l : List Int) (z : Int) : crc r (l ++ [z]) = feed (crc r l) z := by simp [crc]
theorem in_byte {z : Int} (h0 : 0 ≤ z) (h1 : z ≤ 255) : (BitVec.ofNat 32 z.toNat <<< 24).toNat = z.toNat * 16777216 := by
  rw [BitVec.toNat_shiftLeft, BitVec.toNat_ofNat, Nat.shiftLeft_eq]
  rw [Nat.mod_eq_of_lt (a := z.toNat) (by omega), Nat.mod_eq_of_lt (by omega)]
theorem nib_nat (r : BitVec 32) : (steps 4 r).toNat = (r.toNat * 16 % 4294967296) ^^^ (tab.getD (r.toNat / 268435456) 0#32).toNat := by
  rw [nib, BitVec.toNat_xor, BitVec.toNat_shiftLeft, Nat.shiftLeft_eq]
theorem feed_nib (r : BitVec 32) (z : Int) : feed r z = steps 4 (steps 4 (r ^^^ (BitVec.ofNat 32 z.toNat <<< 24))) := by
  unfold feed; rw [← steps_add]
theorem step_hi {r : BitVec 32} (h : 2147483648 ≤ r.toNat) : (step r).toNat = (r.toNat * 2 % 4294967296) ^^^ 79764919 := by
  have hm : r.msb = true := by rw [BitVec.msb_eq_decide]; exact decide_eq_true h
  unfold step
  rw [hm, if_pos rfl, BitVec.toNat_xor, BitVec.toNat_shiftLeft, Nat.shiftLeft_eq]
  rfl
theorem step_lo {r : BitVec 32} (h : r.toNat < 2147483648) : (step r).toNat = r.toNat * 2 % 4294967296 := by
  have hm : r.msb = false := by rw [BitVec.msb_eq_decide]; exact decide_eq_false (by omega)
  unfold step
  rw [hm, if_neg (by decide), BitVec.xor_zero, BitVec.toNat_shiftLeft, Nat.shiftLeft_eq]
theorem tab_lt (i : Nat) : (tab.getD i 0#32).toNat < 4294967296 := (tab.getD i 0#32).isLt
end Crc
end Go.Proofs.YtbdjihmgdkailaaDoor
