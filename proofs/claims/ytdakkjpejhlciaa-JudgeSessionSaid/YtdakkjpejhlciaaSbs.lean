/- Strings as numbers; append of a string. No condition. -/
import Derived.Test.YtdakkjpejhlciaaS8
import Derived.Lib.AppendStr
namespace Go.Proofs.Ytdakkjpejhlciaa
open Go.ChangeShapes Go.WideShapes Go.ChangeAt Go.RowKit
set_option linter.unusedVariables false
set_option maxRecDepth 100000
namespace St
theorem wf_b {x : Int} (h : 0 ≤ x ∧ x < 256) : (Lit.int .u8 x).wf = true := WalkArith.wf_u8 (by omega)
def sb (s : ByteArray) : List Int := s.data.toList.map fun b => (b.toNat : Int)
theorem sb_length (s : ByteArray) : (sb s).length = s.size := by unfold sb; rw [List.length_map, Array.length_toList]; rfl
theorem sb_wf (s : ByteArray) : ∀ n ∈ sb s, (Lit.int .u8 n).wf = true := by
  intro n hn
  obtain ⟨b, _, rfl⟩ := List.mem_map.1 hn
  exact wf_b ⟨by omega, by have := b.toNat_lt; omega⟩
theorem sb_cells (s : ByteArray) : Lib.strCells s = (sb s).map (Value.int .u8) := by
  unfold Lib.strCells sb
  rw [List.map_map]
  rfl
theorem sb_str (s : ByteArray) : strOfNums (sb s) = s := by
  apply ByteArray.ext
  apply Array.toList_inj.1
  rw [strOfNums_data, sb, List.map_map]
  conv => rhs; rw [← List.map_id s.data.toList]
  apply List.map_congr_left
  intro x _
  simp

theorem app8s {w : World} {ops : Array Oper} {rest : List Oper} {o : Oper} {a : Act} {Q : Exit → Act → World → Prop} (hgd : o.guard = none) (sl x : Operand)
    (ho : o.op = .call { callee := .builtin .append, args := #[sl, x], argTypes := #[37, 9] }) (base : Nat)
    (v : Value) (xs : List Int) (hs : a.eval sl = v) (hown : Own w base v xs) (s : ByteArray) (hx : a.eval x = .string s)
    (hb : xs.length + s.size ≤ 140737488355328) (hbase : base ≤ w.heap.size)
    (h : ∀ v' w', Own w' base v' (xs ++ sb s) → Below base w w' → wpList Try.prog ops Q rest (a.put o.dst v') w') : wpList Try.prog ops Q (o :: rest) a w := by
  obtain ⟨i0, hi, hz0, hz1, hz2⟩ := info_parts info_u8
  refine Lib.wpList_append_own_string w hgd sl x 37 9 ho base 5 i0 Try.underlying37 Try.underlying9 hi hz0 hz1 hz2 v xs.length _ hs hown s hx (by unfold maxLen; omega) (by omega) hbase ?_
  intro v' w' hown' hgrow _
  refine h v' w' ?_ (Below.own (Below.refl _ _) hbase hown hgrow)
  unfold Own
  rw [List.map_append, List.length_append, sb_length, ← sb_cells]
  exact hown'
end St
end Go.Proofs.Ytdakkjpejhlciaa
