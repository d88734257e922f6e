/- Both Encodes in one contract, and the laws' helper live. No condition. -/
import Derived.Test.YtlpoljknohiihaaCmdY
namespace Go.Proofs.Ytlpoljknohiihaa
open Go.ChangeShapes Go.WideShapes Go.ChangeAt Go.RowKit
set_option linter.unusedVariables false
namespace Cm

def encB (c : Cmd) : List Int := if chkC c then encL c else []
def Enc (c : Cmd) (w : World) (e : Ending) (w' : World) : Prop := ∃ v, e = .returned (.tuple #[v, .int .i64 (cErr (chkC c))]) ∧ Sl .u8 w' v (encB c) ∧ Below w.heap.size w w'

theorem encode_all (c : Cmd) (v : Value) (w : World) (h : IsCmd w v c) : Calls Try.prog 13 #[v] w (Enc c w) := by
  cases hc : chkC c with
  | false =>
    refine (encode_no c v w h hc).mono ?_
    rintro e w' ⟨rfl, hb⟩
    refine ⟨.slice none 0 0, ?_, ?_, hb⟩
    · rw [hc]; rfl
    · unfold encB; rw [hc]; exact sl_nil _ _
  | true =>
    refine (encode_yes c v w h hc).mono ?_
    rintro e w' ⟨u, rfl, -, hs, hb⟩
    refine ⟨u, ?_, ?_, hb⟩
    · rw [hc]; rfl
    · unfold encB; rw [hc]; exact hs
theorem rencode_all (c : Cmd) (v : Value) (w : World) (h : IsCmd w v c) : Calls Try.prog 14 #[v] w (Enc c w) := by
  have hrk := rchk_eq (by obtain ⟨_, _, _, h⟩ := h; exact h : c.wf)
  cases hc : chkC c with
  | false =>
    refine (rencode_no c v w h (hrk.trans hc)).mono ?_
    rintro e w' ⟨rfl, hb⟩
    refine ⟨.slice none 0 0, ?_, ?_, hb⟩
    · rw [hc]; rfl
    · unfold encB; rw [hc]; exact sl_nil _ _
  | true =>
    refine (rencode_yes c v w h hc hrk).mono ?_
    rintro e w' ⟨u, rfl, -, hs, hb⟩
    refine ⟨u, ?_, ?_, hb⟩
    · rw [hc]; rfl
    · unfold encB; rw [hc]; exact hs

def exC : Cmd := ⟨2, 0, 0, [1, 3], 0, 0, 0, 0⟩
theorem numI_small {n : Int} (h0 : 0 < n) (h1 : n < 256) : numI n = [1, n] := by
  unfold numI
  have hb : Oc.bw n.toNat = 1 := by rw [Oc.bw_pos (by omega), Nat.div_eq_of_lt (by omega), Oc.bw_zero]
  unfold Oc.numL
  rw [hb]
  simp [Oc.be]
  omega
theorem exC_chk : chkC exC = true := by decide
theorem exC_enc : encB exC = [1, 2, 1, 2, 1, 1, 1, 3] := by
  unfold encB
  rw [exC_chk, if_pos rfl]
  have e : encL exC = numI 2 ++ (numI 2 ++ []) ++ (numI 1 ++ (numI 3 ++ [])) := rfl
  rw [e, numI_small (by omega) (by omega), numI_small (by omega) (by omega), numI_small (by omega) (by omega)]
  rfl

set_option maxHeartbeats 400000 in
theorem live_any (w : World) : Calls Try.prog 15 #[] w fun e w' => e = .returned (.bool true) ∧ Below w.heap.size w w' := by
  have k1 : ((strOfNums [1, 2, 1, 2, 1, 1, 1, 3]).toList == [1, 2, 1, 2, 1, 1, 1, 3]) = true := by kernel_rfl
  go_enter Try.func15, Try.ntmps15
  go_wp2_with fail
  have hsl := Sl.new (k := .i64) (e := 3) (fr := (0, 0)) w #[Value.int .i64 1, Value.int .i64 3] [1, 3] rfl rfl (Nat.le_refl _) (by decide) (by decide)
  refine (encode_all exC _ _ ⟨_, rfl, hsl, by decide, by decide, by decide, by decide, by decide, by decide, by decide⟩).mono ?_
  rintro e w1 ⟨v1, rfl, hs1, hb1⟩
  rw [exC_enc] at hs1
  rw [exC_chk]
  have hq1 := run_str hs1
  go_wp2
  go_ret
  exact ⟨rfl, ((Below.refl _ _).alloc (Nat.le_refl _) _).trans (hb1.mono (by simp))⟩
end Cm
end Go.Proofs.Ytlpoljknohiihaa
