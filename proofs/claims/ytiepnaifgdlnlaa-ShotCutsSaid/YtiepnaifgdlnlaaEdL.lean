/- The chapter's example of a snapshot's bytes. No condition. -/
import Derived.Test.YtiepnaifgdlnlaaEdH
namespace Go.Proofs.Ytiepnaifgdlnlaa
open Go.ChangeShapes Go.WideShapes Go.ChangeAt Go.RowKit
set_option linter.unusedVariables false
set_option maxRecDepth 100000
namespace Sc
open Cm Nm Sh
theorem numI_one {n : Int} (h1 : 1 ≤ n) (h2 : n ≤ 255) : numI n = [1, n] := by
  unfold numI Oc.numL
  rw [Oc.bw_pos (by omega), show n.toNat / 256 = 0 by omega, Oc.bw_zero]
  simp [Oc.be]
  omega
theorem numI_zero : numI 0 = [0] := by
  unfold numI Oc.numL
  rw [show (0 : Int).toNat = 0 from rfl, Oc.bw_zero]
  rfl
def exS : Sho := ⟨0, 0, [1, 3], ⟨2, 1, [], []⟩⟩
theorem exS_ok : shotOk exS := by
  refine ⟨by decide, ⟨by decide, by decide, by decide, ⟨by decide, fun j y hj hy => ?_⟩, fun j y hj hy => ?_⟩, by decide, fun j y hj hy => ?_⟩
  · simp [exS] at hy
  · simp [exS] at hy
  · simp [exS] at hy
theorem exS_enc : shotB exS = [83, 0, 0, 1, 2, 1, 1, 1, 3, 1, 2, 1, 1, 0, 0] := by
  have e : shotB exS = 83 :: (numI 0 ++ (numI 0 ++ (numI 2 ++ (numI 1 ++ (numI 3 ++ (numI 2 ++ (numI 1 ++ (numI 0 ++ (numI 0 ++ []))))))))) := rfl
  rw [e, numI_zero, numI_one (n := 2) (by omega) (by omega), numI_one (n := 1) (by omega) (by omega), numI_one (n := 3) (by omega) (by omega)]
  rfl
set_option maxHeartbeats 2000000 in
theorem live_any (w : World) : Calls Try.prog 4 #[] w fun e w' => e = .returned (.bool true) ∧ Below w.heap.size w w' := by
  have k1 : ((strOfNums [83, 0, 0, 1, 2, 1, 1, 1, 3, 1, 2, 1, 1, 0, 0]).toList == [83, 0, 0, 1, 2, 1, 1, 1, 3, 1, 2, 1, 1, 0, 0]) = true := by kernel_rfl
  go_enter Try.func4, Try.ntmps4
  go_wp2_with fail
  have hsl := Sl.new (k := .i64) (e := 3) (fr := (0, 0)) w #[Value.int .i64 1, Value.int .i64 3] [1, 3] rfl rfl (Nat.le_refl _) (by decide) (by decide)
  refine (enc_any exS _ _ ⟨_, _, _, rfl, hsl, SlR.nil _, SlR.nil _, by decide, by decide, by decide, by decide, by simp [exS], by simp [exS]⟩).mono ?_
  rintro e w1 ⟨v1, z, bs, rfl, hz, ho, hb1⟩
  obtain ⟨rfl, rfl⟩ : z = 0 ∧ bs = shotB exS := by
    rcases hz with ⟨h1, -, h2⟩ | ⟨-, h, -⟩
    · exact ⟨h1, h2⟩
    · exact absurd exS_ok h
  rw [exS_enc] at ho
  have hq1 := run_str (ho.sl (by decide))
  clear hz ho
  go_wp2
  go_ret
  exact ⟨rfl, ((Below.refl _ _).alloc (Nat.le_refl _) _).trans (hb1.mono (by simp))⟩
end Sc
end Go.Proofs.Ytiepnaifgdlnlaa
