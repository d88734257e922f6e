/- A string as bytes of its own; appends that tell where they lie. No condition. -/
import Derived.Test.YtdakkjpejhlciaaStG
import Derived.Laws.IdiomStrings
namespace Go.Proofs.Ytdakkjpejhlciaa
open Go.ChangeShapes Go.WideShapes Go.ChangeAt Go.RowKit
set_option linter.unusedVariables false
set_option maxRecDepth 100000
/-- append of any elements to what the call owns: where the answer lies, told -/
theorem appRz {α : Type} {sz : Nat} {C : α → List Value} {P : Program} (hC : ∀ x, (C x).length = sz) (h1c : ∀ x, ∀ u ∈ C x, u.oneCell' = true) {t e : TypeId} (ht : P.underlying t = some (.slice e)) {z : Value} {bytes : Nat} (hzs : z.cells.size = sz) (hsz : 0 < sz) (hinfo : (P.info? e).map (fun i => (i.zero, i.size, i.bytes)) = some (some z, sz, bytes)) (hby : 0 < bytes)
    {w : World} {ops : Array Oper} {rest : List Oper} {o : Oper} {a : Act} {Q : Exit → Act → World → Prop} (hgd : o.guard = none) (s x : Operand)
    (ho : o.op = .call { callee := .builtin .append, args := #[s, x], argTypes := #[t, t] }) (base : Nat)
    (v : Value) (xs : List α) (hs : a.eval s = v) (hown : OwnR sz C e w base v xs) (u : Value) (zs : List α) (hx : a.eval x = u) (hsl : SlR sz C w u zs)
    (h63 : xs.length + zs.length ≤ maxLen) (hb : (xs.length + zs.length) * bytes ≤ 140737488355328) (hbase : base ≤ w.heap.size)
    (h : ∀ v' w', OwnR sz C e w' base v' (xs ++ zs) → w.grownBy w' v.ownBlock → Lies w v v' → wpList P ops Q rest (a.put o.dst v') w') : wpList P ops Q (o :: rest) a w := by
  obtain ⟨i0, hi, hz0, hz1, hz2⟩ := info_parts hinfo
  have conv : ∀ v' w' B, w'.ownsRow B e sz v' (xs.length + zs.length) (xs.flatMap C ++ zs.flatMap C) → OwnR sz C e w' B v' (xs ++ zs) := by
    intro v' w' B h2
    unfold OwnR
    rw [List.flatMap_append, List.length_append]
    exact h2
  have h1z : ∀ u ∈ zs.flatMap C, u.oneCell' = true := fun u hu => by
    obtain ⟨y, _, hy⟩ := List.mem_flatMap.1 hu
    exact h1c y u hy
  have lower : ∀ {B D : Nat} {w' : World} {v' : Value} {ys : List α}, OwnR sz C e w' B v' ys → D ≤ B → OwnR sz C e w' D v' ys := fun h hD => by
    refine ⟨h.1, ?_⟩
    rcases h.2 with h2 | ⟨q, cap, cur, h2, h3, h4⟩
    · exact .inl h2
    · exact .inr ⟨q, cap, cur, h2, Nat.le_trans hD h3, h4⟩
  rcases hsl.src hC with ⟨rfl, hm0, hnil⟩ | ⟨ad, c, rfl, hc⟩
  · have hz : zs = [] := List.eq_nil_of_length_eq_zero hm0
    subst hz
    refine wpList_append_own_none hgd s x t ho base e i0 sz ht hi v xs.length _ hs hown hx ?_
    exact h v w (by simpa using hown) (World.grownBy.refl _ _) (.inl rfl)
  · rcases hown.2 with ⟨rfl, h0⟩ | ⟨g, cap, cur, rfl, hg, hh, hle, hcm, hsz', htk⟩
    · have hxs : xs = [] := List.eq_nil_of_length_eq_zero h0
      subst hxs
      refine wpList_append_own w hgd s x t ho w.heap.size e i0 z sz bytes ht hi hz0 hz1 hz2 hzs hsz _ 0 [] hs (World.ownsRow_nil _ _ _ _) ad zs.length c (zs.flatMap C) hx (flat_len hC zs) hc h1z (by simpa using h63) (by simpa using hb) (Nat.le_refl _) ?_
      intro v' w' h2 h3 _
      have h4 : OwnR sz C e w' w.heap.size v' ([] ++ zs) := conv v' w' _ (by simpa using h2)
      exact h v' w' (lower h4 hbase) h3 (.inr fun k hk => (World.ownsRow.lt h4 k hk).1)
    · by_cases hroom : xs.length + zs.length ≤ cap
      · refine wpList_append_fits w hgd s x t ho base e i0 sz ht hi hz1 g xs.length cap _ hs hown ad zs.length c (zs.flatMap C) hx (flat_len hC zs) hc h1z hroom ?_
        intro w' h2 h3
        exact h _ w' (conv _ _ _ h2) h3 (.inl rfl)
      · refine wpList_append_grows w hgd s x t ho e i0 z sz bytes ht hi hz0 hz1 hz2 hzs hsz (some ⟨g, 0, none⟩) xs.length cap (xs.flatMap C) hs (by intro h; cases h) (flat_len hC xs) (by intro b hb j u hu; cases hb; exact World.ownsRow.cells hown (g := g) rfl j u hu) ad zs.length c (zs.flatMap C) hx (flat_len hC zs) hc h1z (by omega) h63 hb ?_
        intro v' w' h2 h3
        have h4 := conv v' w' _ h2
        exact h v' w' (lower h4 hbase) ⟨h3.os, h3.tape, h3.output, h3.size, fun k hk _ => h3.block k hk (by simp)⟩ (.inr fun k hk => (World.ownsRow.lt h4 k hk).1)
namespace St
/-- '[]byte(s)' -/
theorem conv_bytes (w : World) (s : ByteArray) (hl : s.size ≤ maxLen) : ∃ cap w', (convert 9 37 (.string s)).run Try.prog w = .ok (.slice (some ⟨w.heap.size, 0, none⟩) s.size cap) w' ∧
    (∀ w2, w2.heap[w.heap.size]? = w'.heap[w.heap.size]? → w'.heap.size ≤ w2.heap.size → Sl .u8 w2 (.slice (some ⟨w.heap.size, 0, none⟩) s.size cap) (sb s)) ∧ Below w.heap.size w w' ∧ w.heap.size < w'.heap.size := by
  refine ⟨_, _, run_bytes_of_string w _ _ 5 s Try.underlying9 Try.underlying37 Try.underlying5, ?_, (Below.refl _ _).drew.alloc (Nat.le_refl _) _, ?_⟩
  · intro w2 hw2 hsz2
    refine ⟨_, _, by rw [sb_length], by rw [sb_length]; exact grownCap_ge _ _ _ _, grownCap_le_maxLen _ _ _ _ hl, sb_wf s, .inr ⟨w.heap.size, 0, none, rfl, .inr ⟨rfl, ?_, ?_⟩⟩⟩
    · refine Nat.lt_of_lt_of_le ?_ hsz2
      show w.heap.size < (w.heap.push _).size
      simp
    · intro i hi
      rw [sb_length] at hi
      rw [Nat.zero_add]
      have h1 : w2.cell? ⟨w.heap.size, i, none⟩ = (w.drew.alloc (.cells (bytesRow s (grownCap w s.size 0 5)) 5 ((bytesRow s (grownCap w s.size 0 5)).size, (bytesRow s (grownCap w s.size 0 5)).size + 1))).cell? ⟨w.heap.size, i, none⟩ := by
        simp only [World.cell?]
        rw [hw2]
      refine h1.trans ((World.cell?_alloc_mark w.drew _ _ _ i).trans ?_)
      rw [bytesRow_at s _ i hi]
      unfold sb
      simp [List.getD, hi]
  · show w.heap.size < (w.heap.push _).size
    simp
end St
end Go.Proofs.Ytdakkjpejhlciaa
