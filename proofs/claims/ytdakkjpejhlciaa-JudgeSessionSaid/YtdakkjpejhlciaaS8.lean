/- Bytes: slices of them that the call owns, and what they are as a text. No condition. -/
import Derived.Test.YtdakkjpejhlciaaRd
namespace Go.Proofs.Ytdakkjpejhlciaa
open Go.ChangeShapes Go.WideShapes Go.ChangeAt Go.RowKit
set_option linter.unusedVariables false
set_option maxRecDepth 100000

/-- string(b) -/
theorem run_str {w : World} {v : Value} {zs : List Int} (h : Sl .u8 w v zs) : (convert 37 9 v).run Try.prog w = .ok (.string (strOfNums zs)) w := by
  obtain ⟨a, cap, rfl, h1, h2, h3, h4⟩ := h
  rcases h4 with ⟨rfl, rfl, rfl⟩ | ⟨b, off, sp, rfl, h5⟩
  · exact run_convert_bytes_nil w 37 5 Try.underlying37 Try.underlying5 _ _ 9 Try.underlying9
  · rcases h5 with rfl | ⟨rfl, hlt, hc⟩
    · rw [run_convert_bytes_string w _ _ 5 _ _ _ Try.underlying37 Try.underlying5 Try.underlying9]
      exact run_bytesToString w _ 0 cap [] rfl
    · exact run_convert_bytes_arg w 37 5 Try.underlying37 Try.underlying5 b off _ cap zs rfl hc 9 Try.underlying9

theorem info_u8 : (Try.prog.info? 5).map (fun i => (i.zero, i.size, i.bytes)) = some (some (.int .u8 0), 1, 1) := by kernel_rfl

/-! ### bytes that the call owns -/
def Own (w : World) (B : Nat) (v : Value) (zs : List Int) : Prop := w.ownsRow B 5 1 v zs.length (zs.map (Value.int .u8))
theorem Own.nil (w : World) (B : Nat) : Own w B (.slice none 0 0) [] := World.ownsRow_nil _ _ _ _
theorem Own.sl {w : World} {B : Nat} {v : Value} {zs : List Int} (h : Own w B v zs) (hw : ∀ n ∈ zs, (Lit.int .u8 n).wf = true) : Sl .u8 w v zs := Sl.own h hw
theorem Own.mono {w : World} {B B' : Nat} {v : Value} {zs : List Int} (h : Own w B v zs) (hB : B' ≤ B) : Own w B' v zs := by
  refine ⟨h.1, ?_⟩
  rcases h.2 with h2 | ⟨g, cap, cur, h2, h3, h4⟩
  · exact .inl h2
  · exact .inr ⟨g, cap, cur, h2, by omega, h4⟩
theorem Own.below {w w' : World} {B C : Nat} {v : Value} {zs : List Int} (h : Own w B v zs) (hb : Below C w w') (hC : w.heap.size ≤ C) : Own w' B v zs := by
  refine ⟨h.1, ?_⟩
  rcases h.2 with h2 | ⟨g, cap, cur, h2, h3, h4, h5⟩
  · exact .inl h2
  · have hlt := (Array.getElem?_eq_some_iff.1 h4).1
    exact .inr ⟨g, cap, cur, h2, h3, by rw [hb.block g (by omega)]; exact h4, h5⟩
theorem Own.lit (w : World) {B : Nat} (zs : List Int) (hB : B ≤ w.heap.size) (hl : zs.length ≤ 1000000) : Own (w.alloc (.cells (zs.map (Value.int .u8)).toArray 5)) B (.slice (some ⟨w.heap.size, 0, none⟩) zs.length zs.length) zs := by
  have h := World.ownsRow_lit (e := 5) (size := 1) w (zs.map (Value.int .u8)).toArray zs.length hB (by unfold maxLen; omega) (by simp)
  simpa [Own] using h

theorem app8 {w : World} {ops : Array Oper} {rest : List Oper} {o : Oper} {a : Act} {Q : Exit → Act → World → Prop} (hgd : o.guard = none) (s x : Operand)
    (ho : o.op = .call { callee := .builtin .append, args := #[s, x], argTypes := #[37, 37] }) (base : Nat)
    (v : Value) (xs : List Int) (hs : a.eval s = v) (hown : Own w base v xs) (u : Value) (zs : List Int) (hx : a.eval x = u) (hsl : Sl .u8 w u zs)
    (hb : xs.length + zs.length ≤ 140737488355328) (hbase : base ≤ w.heap.size)
    (h : ∀ v' w', Own w' base v' (xs ++ zs) → Below base w w' → wpList Try.prog ops Q rest (a.put o.dst v') w') : wpList Try.prog ops Q (o :: rest) a w := by
  obtain ⟨i0, hi, hz0, hz1, hz2⟩ := info_parts info_u8
  refine wp_app hgd s x 37 ho base 5 i0 (.int .u8 0) 1 1 Try.underlying37 hi hz0 hz1 hz2 rfl (by decide) v xs.length _ hs hown u zs.length (zs.map (Value.int .u8)) hx hsl.src (by simp) (ints_oneCell _ _) (by unfold maxLen; omega) (by omega) hbase ?_
  intro v' w' hown' hgrow
  refine h v' w' ?_ (Below.own (Below.refl _ _) hbase hown hgrow)
  unfold Own
  rw [List.map_append, List.length_append]
  exact hown'

end Go.Proofs.Ytdakkjpejhlciaa
