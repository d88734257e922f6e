/- The document's own answers for commands: fields, has, right, Check, Copy, Same. No condition. -/
import Derived.Test.YtlkmdoddgfmnbaaCmdC
import Derived.Test.YtlkmdoddgfmnbaaNodB
import Derived.Test.YtlkmdoddgfmnbaaNodI
namespace Go.Proofs.Ytlkmdoddgfmnbaa
open Go.ChangeShapes Go.WideShapes Go.ChangeAt Go.RowKit
set_option linter.unusedVariables false
set_option maxRecDepth 100000
namespace Cm

def fieldS (k : Int) : ByteArray := if k = 1 then ⟨#[]⟩ else if k = 2 then ⟨#[108]⟩ else if k = 3 then ⟨#[110, 98, 113]⟩ else if k = 4 then ⟨#[110, 98, 113, 116, 115]⟩ else if k = 5 then ⟨#[110, 98, 113, 116, 115]⟩ else if k = 6 then ⟨#[116, 115, 109]⟩ else ⟨#[]⟩

theorem ret_sb {s t : ByteArray} {a b : Bool} (h : s = t) (h2 : a = b) : Ending.returned (.tuple #[.string s, .bool a]) = .returned (.tuple #[.string t, .bool b]) := by rw [h, h2]
set_option maxHeartbeats 400000 in
theorem rfields_any (k : Int) (w : World) :
    Calls Try.prog 99 #[.int .i64 k] w fun e w' => e = .returned (.tuple #[.string (fieldS k), .bool (kindB k)]) ∧ w = w' := by
  by_cases h : 1 ≤ k ∧ k ≤ 6
  · rcases (show k = 1 ∨ k = 2 ∨ k = 3 ∨ k = 4 ∨ k = 5 ∨ k = 6 by omega) with rfl | rfl | rfl | rfl | rfl | rfl
    all_goals
      clear h
      go_enter Try.func99, Try.ntmps99
      go_wp2
      go_ret2
      exact ⟨rfl, rfl⟩
  · have h1 : (k == 1) = false := beq_eq_false_iff_ne.2 (by omega)
    have h2 : (k == 2) = false := beq_eq_false_iff_ne.2 (by omega)
    have h3 : (k == 3) = false := beq_eq_false_iff_ne.2 (by omega)
    have h4 : (k == 4) = false := beq_eq_false_iff_ne.2 (by omega)
    have h5 : (k == 5) = false := beq_eq_false_iff_ne.2 (by omega)
    have h6 : (k == 6) = false := beq_eq_false_iff_ne.2 (by omega)
    have hs : fieldS k = ⟨#[]⟩ := by unfold fieldS; rw [if_neg (by omega), if_neg (by omega), if_neg (by omega), if_neg (by omega), if_neg (by omega), if_neg (by omega)]
    have hk : kindB k = false := decide_eq_false h
    have HS := Lib.hid hs
    have HK := Lib.hid hk
    clear h hs hk
    go_enter Try.func99, Try.ntmps99
    go_wp2
    go_ret2
    exact ⟨ret_sb HS.out.symm HK.out.symm, rfl⟩

def sbs (s : ByteArray) : List Int := s.data.toList.map fun b => (b.toNat : Int)
def hasB (s : ByteArray) (c : Int) : Bool := decide (c ∈ sbs s)
theorem sbs_length (s : ByteArray) : (sbs s).length = s.size := by unfold sbs; rw [List.length_map, Array.length_toList]; rfl
theorem sbs_get (s : ByteArray) (k : Nat) (h : k < s.size) : (sbs s).getD k 0 = (s[k].toNat : Int) := by
  unfold sbs
  simp only [List.getD, List.getElem?_map]
  have : s.data.toList[k]? = some s[k] := by
    rw [Array.getElem?_toList]
    exact Array.getElem?_eq_getElem h
  rw [this]; rfl

set_option maxHeartbeats 400000 in
theorem rhas_any (s : ByteArray) (c : Int) (hs : s.size ≤ 1000) (w : World) :
    Calls Try.prog 101 #[.string s, .int .u8 c] w fun e w' => e = .returned (.bool (hasB s c)) ∧ w = w' := by
  go_enter Try.func101, Try.ntmps101
  go_wp2
  go_loop [5] (fun i => ∃ k : Nat, k ≤ s.size ∧ i = .int .i64 k ∧ Hid (c ∉ (sbs s).take k)) (fun i => s.size - (intOf i).toNat)
  case atStart => exact ⟨0, Nat.zero_le _, rfl, Lib.hid (by simp)⟩
  case round =>
    obtain ⟨k, hk, rfl, HO⟩ := hrel
    by_cases hlt : k < s.size
    · have hg := sbs_get s k hlt
      have HM := Lib.hid (Nd.mem_get (l := sbs s) (k := k) (by rw [sbs_length]; exact hlt))
      have HT := Lib.hid (Nd.take_get (l := sbs s) (k := k) (by rw [sbs_length]; exact hlt))
      rw [hg] at HM HT
      clear hg
      by_cases hz : (s[k].toNat : Int) = c
      · have HB : Hid (hasB s c = true) := Lib.hid (decide_eq_true (by rw [← hz]; exact HM.out))
        have hz2 : ((s[k].toNat : Int) == c) = true := beq_iff_eq.2 hz
        clear hz
        go_wp2
        go_ret
        exact ⟨ret_bool HB.out.symm, rfl⟩
      · have HO2 : Hid (c ∉ (sbs s).take (k + 1)) := by
          refine Lib.hid ?_
          rw [HT.out, List.mem_append, List.mem_singleton]
          rintro (h | h)
          · exact HO.out h
          · exact hz h.symm
        have hz2 : ((s[k].toNat : Int) == c) = false := beq_eq_false_iff_ne.2 hz
        clear hz
        go_wp2
        go_round
        case rel => exact ⟨k + 1, by omega, by go_num, HO2⟩
        case measure => simp [intOf]; omega
    · obtain rfl : k = s.size := by omega
      have HO2 := HO.out
      rw [← sbs_length, List.take_length] at HO2
      have HB : Hid (hasB s c = false) := Lib.hid (decide_eq_false HO2)
      clear HO2
      go_wp2
      go_ret
      exact ⟨ret_bool HB.out.symm, rfl⟩

def rightB (b : Bool) (n m : Int) : Bool := if b then decide (1 ≤ n ∧ n ≤ m) else n == 0
set_option maxHeartbeats 400000 in
theorem rright_any (b : Bool) (n m : Int) (w : World) :
    Calls Try.prog 100 #[.bool b, .int .u64 n, .int .u64 m] w fun e w' => e = .returned (.bool (rightB b n m)) ∧ w = w' := by
  cases b
  · go_enter Try.func100, Try.ntmps100
    go_wp2
    go_ret
    exact ⟨rfl, rfl⟩
  · go_enter Try.func100, Try.ntmps100
    go_wp2
    all_goals (go_ret; exact ⟨ret_bool (by unfold rightB; rw [if_pos rfl]; first | exact decide_eq_decide.2 (by omega) | exact (decide_eq_false (by omega)).symm), rfl⟩)
end Cm
end Go.Proofs.Ytlkmdoddgfmnbaa
