/- append to bytes that the call owns: where the answer lies, told. No condition. -/
import Derived.Test.YtdakkjpejhlciaaS8
import Derived.ArgAppend
namespace Go.Proofs.Ytdakkjpejhlciaa
open Go.ChangeShapes Go.WideShapes Go.ChangeAt Go.RowKit
set_option linter.unusedVariables false
set_option maxRecDepth 100000

/-- v' lies where v lay, or in new memory of w's -/
def Lies (w : World) (v v' : Value) : Prop := v'.ownBlock = v.ownBlock ∨ ∀ k, v'.ownBlock = some k → w.heap.size ≤ k

theorem app8q {w : World} {ops : Array Oper} {rest : List Oper} {o : Oper} {a : Act} {Q : Exit → Act → World → Prop} (hgd : o.guard = none) (s x : Operand)
    (ho : o.op = .call { callee := .builtin .append, args := #[s, x], argTypes := #[37, 37] }) (base : Nat)
    (v : Value) (xs : List Int) (hs : a.eval s = v) (hown : Own w base v xs) (u : Value) (zs : List Int) (hx : a.eval x = u) (hsl : Sl .u8 w u zs)
    (hb : xs.length + zs.length ≤ 140737488355328) (hbase : base ≤ w.heap.size)
    (h : ∀ v' w', Own w' base v' (xs ++ zs) → w.grownBy w' v.ownBlock → Lies w v v' → wpList Try.prog ops Q rest (a.put o.dst v') w') : wpList Try.prog ops Q (o :: rest) a w := by
  obtain ⟨i0, hi, hz0, hz1, hz2⟩ := info_parts info_u8
  have conv : ∀ v' w' B, B ≤ w.heap.size → w'.ownsRow B 5 1 v' (xs.length + zs.length) (xs.map (Value.int .u8) ++ zs.map (Value.int .u8)) → Own w' B v' (xs ++ zs) := by
    intro v' w' B _ h2
    unfold Own
    rw [List.map_append, List.length_append]
    exact h2
  rcases hsl.src with ⟨rfl, hm0, hnil⟩ | ⟨ad, c, rfl, hc⟩
  · have hz : zs = [] := List.eq_nil_of_length_eq_zero hm0
    subst hz
    refine wpList_append_own_none hgd s x 37 ho base 5 i0 1 Try.underlying37 hi v xs.length _ hs hown hx ?_
    exact h v w (by simpa using hown) (World.grownBy.refl _ _) (.inl rfl)
  · rcases hown.2 with ⟨rfl, h0⟩ | ⟨g, cap, cur, rfl, hg, hh, hle, hcm, hsz, htk⟩
    · have hxs : xs = [] := List.eq_nil_of_length_eq_zero h0
      subst hxs
      refine wpList_append_own w hgd s x 37 ho w.heap.size 5 i0 (.int .u8 0) 1 1 Try.underlying37 hi hz0 hz1 hz2 rfl (by decide) _ 0 [] hs (World.ownsRow_nil _ _ _ _) ad zs.length c (zs.map (Value.int .u8)) hx (by simp) hc (ints_oneCell _ _) (by unfold maxLen; simp at hb ⊢; omega) (by simp at hb ⊢; omega) (Nat.le_refl _) ?_
      intro v' w' h2 h3 _
      have h4 : Own w' w.heap.size v' ([] ++ zs) := conv v' w' _ (Nat.le_refl _) (by simpa using h2)
      exact h v' w' (h4.mono hbase) h3 (.inr fun k hk => (World.ownsRow.lt h4 k hk).1)
    · by_cases hroom : xs.length + zs.length ≤ cap
      · refine wpList_append_fits w hgd s x 37 ho base 5 i0 1 Try.underlying37 hi hz1 g xs.length cap _ hs hown ad zs.length c (zs.map (Value.int .u8)) hx (by simp) hc (ints_oneCell _ _) hroom ?_
        intro w' h2 h3
        exact h _ w' (conv _ _ _ hbase h2) h3 (.inl rfl)
      · refine wpList_append_grows w hgd s x 37 ho 5 i0 (.int .u8 0) 1 1 Try.underlying37 hi hz0 hz1 hz2 rfl (by decide) (some ⟨g, 0, none⟩) xs.length cap (xs.map (Value.int .u8)) hs (by intro h; cases h) (by simp) (by intro b hb j u hu; cases hb; exact World.ownsRow.cells hown (g := g) rfl j u hu) ad zs.length c (zs.map (Value.int .u8)) hx (by simp) hc (ints_oneCell _ _) (by omega) (by unfold maxLen; omega) (by omega) ?_
        intro v' w' h2 h3
        have h4 := conv v' w' _ (Nat.le_refl _) h2
        exact h v' w' (h4.mono hbase) ⟨h3.os, h3.tape, h3.output, h3.size, fun k hk _ => h3.block k hk (by simp)⟩ (.inr fun k hk => (World.ownsRow.lt h4 k hk).1)
end Go.Proofs.Ytdakkjpejhlciaa
