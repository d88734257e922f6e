/- Frames as lists of bytes: plain mathematics. No condition. -/
import Derived.Test.YtkncjmppilhdlaaDoorS8
import Derived.Test.YtkncjmppilhdlaaDoorOctS
namespace Go.Proofs.YtkncjmppilhdlaaDoor
open Go.ChangeShapes Go.WideShapes Go.ChangeAt Go.RowKit
set_option linter.unusedVariables false
namespace Fr
/-- the four bytes ahead of a body -/
def hd (n : Nat) : List Int := [255 - ((n / 256 : Nat) : Int), 255 - ((n % 256 : Nat) : Int), ((n / 256 : Nat) : Int), ((n % 256 : Nat) : Int)]
/-- the four bytes of a sum -/
def be4 (s : Nat) : List Int := [((s / 16777216 % 256 : Nat) : Int), ((s / 65536 % 256 : Nat) : Int), ((s / 256 % 256 : Nat) : Int), ((s % 256 : Nat) : Int)]
/-- a body's frame -/
def sealL (zs : List Int) : List Int := hd zs.length ++ zs ++ be4 (Crc.sum (hd zs.length ++ zs))
theorem byte_wf {z : Int} (h : 0 ≤ z ∧ z ≤ 255) : (Lit.int .u8 z).wf = true := WalkArith.wf_u8 h
theorem hd_wf {n : Nat} (h : n ≤ 8192) : ∀ z ∈ hd n, (Lit.int .u8 z).wf = true := by
  intro z hz
  apply byte_wf
  have h1 : n / 256 ≤ 32 := by omega
  have h2 : n % 256 ≤ 255 := by omega
  unfold hd at hz
  simp only [List.mem_cons, List.not_mem_nil, or_false] at hz
  rcases hz with rfl | rfl | rfl | rfl <;> omega
theorem be4_wf (s : Nat) : ∀ z ∈ be4 s, (Lit.int .u8 z).wf = true := by
  intro z hz
  apply byte_wf
  unfold be4 at hz
  simp only [List.mem_cons, List.not_mem_nil, or_false] at hz
  rcases hz with rfl | rfl | rfl | rfl <;> omega
theorem seal_len (zs : List Int) : (sealL zs).length = zs.length + 8 := by
  unfold sealL
  simp only [List.length_append]
  simp [hd, be4]
  omega
theorem hd_len (n : Nat) : (hd n).length = 4 := rfl
theorem be4_len (n : Nat) : (be4 n).length = 4 := rfl
theorem inv8 : ∀ x : Fin 256, 255 ^^^ x.val = 255 - x.val := by decide +kernel
/-- ^b -/
theorem inv_byte {x : Int} (h0 : 0 ≤ x) (h1 : x ≤ 255) : bits BinOp.xor .u8 IntKind.u8.max x = 255 - x := by
  have hm : IntKind.u8.max = 255 := by decide
  have := inv8 ⟨x.toNat, by omega⟩
  simp only [] at this
  rw [hm, u8_xor _ _ (by omega) (by omega) h0 (by omega), show (255 : Int).toNat = 255 from rfl, this]
  omega
theorem bits_or_i64_nat (a b : Nat) (ha : a < 9223372036854775808) (hb : b < 9223372036854775808) : bits BinOp.or .i64 (a : Int) (b : Int) = ((a ||| b : Nat) : Int) := by
  have hx : a ||| b < 2 ^ 63 := Nat.or_lt_two_pow (by omega) (by omega)
  have h1 : (BitVec.ofInt 64 (a : Int)).toNat = a := by
    rw [BitVec.ofInt_natCast, BitVec.toNat_ofNat]; exact Nat.mod_eq_of_lt (by omega)
  have h2 : (BitVec.ofInt 64 (b : Int)).toNat = b := by
    rw [BitVec.ofInt_natCast, BitVec.toNat_ofNat]; exact Nat.mod_eq_of_lt (by omega)
  show IntKind.i64.wrap ((BitVec.ofInt 64 (a : Int) ||| BitVec.ofInt 64 (b : Int)).toNat : Int) = _
  rw [BitVec.toNat_or, h1, h2, IntKind.wrap_i64]
  omega
/-- int(high)<<8 | int(low) -/
theorem num_or {h l : Int} (h0 : 0 ≤ h) (h1 : h ≤ 255) (l0 : 0 ≤ l) (l1 : l ≤ 255) : bits BinOp.or .i64 (h * 256) l = h * 256 + l := by
  obtain ⟨a, rfl⟩ := Int.eq_ofNat_of_zero_le h0
  obtain ⟨b, rfl⟩ := Int.eq_ofNat_of_zero_le l0
  have h2 := Nat.shiftLeft_add_eq_or_of_lt (show b < 2 ^ 8 by omega) a
  rw [Nat.shiftLeft_eq, show (2 : Nat) ^ 8 = 256 from rfl] at h2
  have h3 := bits_or_i64_nat (a * 256) b (by omega) (by omega)
  rw [Int.natCast_mul, show ((256 : Nat) : Int) = 256 from rfl] at h3
  rw [h3, ← h2]
  omega
end Fr
end Go.Proofs.YtkncjmppilhdlaaDoor
