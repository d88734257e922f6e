/- Appends to slices of ints that the call owns. No condition. -/
import Derived.Test.YtlkmdoddgfmnbaaSl
namespace Go.Proofs.Ytlkmdoddgfmnbaa
open Go.ChangeShapes Go.WideShapes Go.ChangeAt Go.RowKit
set_option linter.unusedVariables false
set_option maxRecDepth 100000
theorem info_int : (Try.prog.info? 3).map (fun i => (i.zero, i.size, i.bytes)) = some (some (.int .i64 0), 1, 8) := by kernel_rfl
abbrev OwnI := OwnK .i64 3
/-- append(nil, l...) -/
theorem copyI {w : World} {ops : Array Oper} {rest : List Oper} {o : Oper} {a : Act} {Q : Exit → Act → World → Prop} (hgd : o.guard = none) (x : Operand)
    (ho : o.op = .call { callee := .builtin .append, args := #[.const (.slice none 0 0), x], argTypes := #[27, 27] }) (base : Nat)
    (u : Value) (zs : List Int) (hx : a.eval x = u) (hsl : Sl .i64 w u zs) (hb : zs.length * 8 ≤ 140737488351232) (hbase : base ≤ w.heap.size)
    (h : ∀ v' w', OwnI w' base v' zs → Sl .i64 w' v' zs → Below base w w' → wpList Try.prog ops Q rest (a.put o.dst v') w') : wpList Try.prog ops Q (o :: rest) a w := by
  refine appK Try.underlying27 info_int hgd _ x ho base _ _ rfl (OwnK.nil _ _ _ _) u zs hx hsl (by have := hsl.len; simpa using this) (by simp; omega) hbase ?_
  intro v' w' h1 h2
  rw [List.nil_append] at h1
  exact h v' w' h1 (h1.sl hsl.wf) h2
theorem appI {w : World} {ops : Array Oper} {rest : List Oper} {o : Oper} {a : Act} {Q : Exit → Act → World → Prop} (hgd : o.guard = none) (s x : Operand)
    (ho : o.op = .call { callee := .builtin .append, args := #[s, x], argTypes := #[27, 27] }) (base : Nat)
    (v : Value) (xs : List Int) (hs : a.eval s = v) (hown : OwnI w base v xs) (u : Value) (zs : List Int) (hx : a.eval x = u) (hsl : Sl .i64 w u zs)
    (hb : (xs.length + zs.length) * 8 ≤ 140737488355328) (hbase : base ≤ w.heap.size)
    (h : ∀ v' w', OwnI w' base v' (xs ++ zs) → Below base w w' → wpList Try.prog ops Q rest (a.put o.dst v') w') : wpList Try.prog ops Q (o :: rest) a w :=
  appK Try.underlying27 info_int hgd s x ho base v xs hs hown u zs hx hsl (by unfold maxLen; omega) hb hbase h
end Go.Proofs.Ytlkmdoddgfmnbaa
