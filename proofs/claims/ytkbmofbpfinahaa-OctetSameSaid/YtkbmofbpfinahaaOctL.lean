/- What the octet laws' own helpers come to. No condition. -/
import Derived.Test.YtkbmofbpfinahaaOctN
namespace Go.Proofs.Ytkbmofbpfinahaa
open Go.ChangeShapes Go.WideShapes Go.ChangeAt Go.RowKit
set_option linter.unusedVariables false
namespace Oc
theorem numL_256 : numL 256 = [2, 1, 0] := by simp [numL, bw_pos, bw_zero, be]
theorem numL_0 : numL 0 = [0] := by simp [numL, bw_zero, be]

set_option maxHeartbeats 400000 in
theorem one_ex (w : World) : Calls Try.prog 13 #[] w fun e w' => e = .returned (.bool true) ∧ Below w.heap.size w w' := by
  have k1 : ((strOfNums [2, 1, 0]).toList == [2, 1, 0]) = true := by kernel_rfl
  have k2 : ((strOfNums [0]).toList == [0]) = true := by kernel_rfl
  go_enter Try.func13, Try.ntmps13
  go_wp2_with fail
  refine (num_any 256 (by omega) _).mono ?_
  rintro e w1 ⟨v1, rfl, hown1, hb1⟩
  have hs1 := run_str (Sl.own hown1 (numL_wf (by omega)))
  rw [numL_256] at hs1
  go_wp2_with fail
  refine (num_any 0 (by omega) _).mono ?_
  rintro e w2 ⟨v2, rfl, hown2, hb2⟩
  have hs2 := run_str (Sl.own hown2 (numL_wf (by omega)))
  rw [numL_0] at hs2
  go_wp2
  go_ret
  exact ⟨rfl, hb1.trans (hb2.mono hb1.size)⟩

end Oc
end Go.Proofs.Ytkbmofbpfinahaa
