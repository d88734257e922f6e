/- The law's example of a record's bytes. No condition. Strings as bytes and back. No condition. -/
import Derived.Test.YtngnhegmealokaaRkB
import Derived.Test.YtngnhegmealokaaRkY
namespace Go.Proofs.Ytngnhegmealokaa
open Go.ChangeShapes Go.WideShapes Go.ChangeAt Go.RowKit Go.Deep
set_option linter.unusedVariables false
set_option maxRecDepth 100000
namespace Rk
open Cm Sc Rc Hd Nv Sh
def exR : RecR := { zRecV with kind := 1, boot := 3 }
theorem exR_wf : exR.wf := ⟨by decide, by decide, by decide, by decide, by decide, zEnt_wf, zSho_wf⟩
theorem exR_fits : fitsP exR := ⟨by decide, by decide, by decide, by decide, by simp [exR, unusedR, zRecV, zEnt, zCmd, zEntV], by simp [exR, unusedR, zRecV, zSho, zLedg, zShoV], .inl ⟨by decide, by decide⟩⟩
theorem exR_enc : recB exR = [1, 1, 3] := by
  have e : recB exR = 1 :: numI 3 := rfl
  rw [e, numI_one (n := 3) (by omega) (by omega)]
theorem exR_is (w : World) : IsRec w (.agg (rArr exR (.slice none 0 0) (.slice none 0 0) (.slice none 0 0) (.slice none 0 0))) exR := ⟨_, _, _, _, rfl, ⟨Nm.sl_nil _ _, Nm.sl_nil _ _, SlR.nil _, SlR.nil _⟩, exR_wf⟩
set_option maxHeartbeats 2000000 in
theorem writes_any (w : World) : Calls Try.prog 9 #[] w fun e w' => e = .returned (.bool true) ∧ Below w.heap.size w w' := by
  have k1 : ((strOfNums [1, 1, 3]).toList == [1, 1, 3]) = true := by kernel_rfl
  have HI := Lib.hid (exR_is w)
  go_enter Try.func9, Try.ntmps9
  go_wp2_with fail
  refine (enc_any exR _ _ HI.out).mono ?_
  rintro e w1 ⟨s, z, rfl, hz, hb1⟩
  obtain ⟨rfl, rfl⟩ : s = strOfNums [1, 1, 3] ∧ z = 0 := by
    rcases hz with ⟨-, h1, h2⟩ | ⟨h, -⟩
    · exact ⟨by rw [h1, exR_enc], h2⟩
    · exact absurd exR_fits h
  clear hz
  go_wp2
  go_ret
  exact ⟨rfl, hb1⟩
theorem row_ltx {w : World} {g : Nat} {o : Obj} (h : w.heap[g]? = some o) : g < w.heap.size := (Array.getElem?_eq_some_iff.1 h).1
theorem str_size {zs : List Int} : (strOfNums zs).size = zs.length := by
  simp [strOfNums, ByteArray.size]
end Rk
end Go.Proofs.Ytngnhegmealokaa
namespace Go.Proofs.Ytngnhegmealokaa
open Go.ChangeShapes Go.WideShapes Go.ChangeAt Go.RowKit Go.Deep
set_option linter.unusedVariables false
set_option maxRecDepth 100000
namespace Rk
open Cm Sc Nm Rc Hd Nv Sh
theorem sbs_wf (s : ByteArray) : WfB (sbs s) := by
  intro n hn
  obtain ⟨b, _, rfl⟩ := List.mem_map.1 hn
  exact u8_of ⟨by omega, by have := b.toNat_lt; omega⟩
theorem str_sbs (s : ByteArray) : strOfNums (sbs s) = s := by
  apply ByteArray.ext
  apply Array.toList_inj.1
  rw [strOfNums_data, sbs, List.map_map]
  conv => rhs; rw [← List.map_id s.data.toList]
  apply List.map_congr_left
  intro x _
  simp
theorem sbs_str {zs : List Int} (h : WfB zs) : sbs (strOfNums zs) = zs := by
  rw [sbs, strOfNums_data, List.map_map]
  conv => rhs; rw [← List.map_id zs]
  apply List.map_congr_left
  intro x hx
  have := h x hx
  simp [Lit.wf, IntKind.min, IntKind.max, IntKind.signed, IntKind.bits] at this
  simp
  omega
theorem back {r : RecR} (hw : r.wf) (hf : fitsP r) : decR (sbs (strOfNums (recB r))) = (r, 0) := by rw [sbs_str (recB_len hw hf).2, dec_enc hw hf]
end Rk
end Go.Proofs.Ytngnhegmealokaa
