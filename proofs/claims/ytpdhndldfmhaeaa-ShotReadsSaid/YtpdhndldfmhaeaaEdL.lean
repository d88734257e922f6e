/- The chapter's example of a snapshot's bytes. No condition. -/
import Derived.Test.YtpdhndldfmhaeaaEdH
namespace Go.Proofs.Ytpdhndldfmhaeaa
open Go.ChangeShapes Go.WideShapes Go.ChangeAt Go.RowKit
set_option linter.unusedVariables false
set_option maxRecDepth 100000
namespace Sc
open Cm Nm Sh
theorem numI_one {n : Int} (h1 : 1 ≤ n) (h2 : n ≤ 255) : numI n = [1, n] := by
  unfold numI Oc.numL
  rw [Oc.bw_pos (by omega), show n.toNat / 256 = 0 by omega, Oc.bw_zero]
  simp [Oc.be]
  omega
theorem numI_zero : numI 0 = [0] := by
  unfold numI Oc.numL
  rw [show (0 : Int).toNat = 0 from rfl, Oc.bw_zero]
  rfl
def exS : Sho := ⟨0, 0, [1, 3], ⟨2, 1, [], []⟩⟩
theorem exS_ok : shotOk exS := by
  refine ⟨by decide, ⟨by decide, by decide, by decide, ⟨by decide, fun j y hj hy => ?_⟩, fun j y hj hy => ?_⟩, by decide, fun j y hj hy => ?_⟩
  · simp [exS] at hy
  · simp [exS] at hy
  · simp [exS] at hy
theorem exS_enc : shotB exS = [83, 0, 0, 1, 2, 1, 1, 1, 3, 1, 2, 1, 1, 0, 0] := by
  have e : shotB exS = 83 :: (numI 0 ++ (numI 0 ++ (numI 2 ++ (numI 1 ++ (numI 3 ++ (numI 2 ++ (numI 1 ++ (numI 0 ++ (numI 0 ++ []))))))))) := rfl
  rw [e, numI_zero, numI_one (n := 2) (by omega) (by omega), numI_one (n := 1) (by omega) (by omega), numI_one (n := 3) (by omega) (by omega)]
  rfl
end Sc
end Go.Proofs.Ytpdhndldfmhaeaa
