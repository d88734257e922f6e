/- Strings as bytes and back. No condition. -/
import Derived.Test.YtngnhegmealokaaRkI
import Derived.Test.YtngnhegmealokaaRkF
namespace Go.Proofs.Ytngnhegmealokaa
open Go.ChangeShapes Go.WideShapes Go.ChangeAt Go.RowKit Go.Deep
set_option linter.unusedVariables false
set_option maxRecDepth 100000
namespace Rk
open Cm Sc Nm Rc Hd Nv Sh
theorem sbs_wf (s : ByteArray) : WfB (sbs s) := by
  intro n hn
  obtain ⟨b, _, rfl⟩ := List.mem_map.1 hn
  exact u8_of ⟨by omega, by have := b.toNat_lt; omega⟩
theorem str_sbs (s : ByteArray) : strOfNums (sbs s) = s := by
  apply ByteArray.ext
  apply Array.toList_inj.1
  rw [strOfNums_data, sbs, List.map_map]
  conv => rhs; rw [← List.map_id s.data.toList]
  apply List.map_congr_left
  intro x _
  simp
theorem sbs_str {zs : List Int} (h : WfB zs) : sbs (strOfNums zs) = zs := by
  rw [sbs, strOfNums_data, List.map_map]
  conv => rhs; rw [← List.map_id zs]
  apply List.map_congr_left
  intro x hx
  have := h x hx
  simp [Lit.wf, IntKind.min, IntKind.max, IntKind.signed, IntKind.bits] at this
  simp
  omega
theorem back {r : RecR} (hw : r.wf) (hf : fitsP r) : decR (sbs (strOfNums (recB r))) = (r, 0) := by rw [sbs_str (recB_len hw hf).2, dec_enc hw hf]
end Rk
end Go.Proofs.Ytngnhegmealokaa
