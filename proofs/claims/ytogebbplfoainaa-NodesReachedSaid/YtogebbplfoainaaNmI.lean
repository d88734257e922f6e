/- The law NodesReached: what more than half have reached, and two rows that grow beside each other. -/
import Derived.Test.YtogebbplfoainaaNmH
import Derived.Test.YtogebbplfoainaaNodJ
import Derived.Deep.AppendLies
namespace Go.Proofs.Ytogebbplfoainaa
open Go.ChangeShapes Go.WideShapes Go.ChangeAt Go.RowKit Go.Maps
set_option linter.unusedVariables false
set_option maxRecDepth 100000
namespace Nm
def Apart (v y : Value) : Prop := ∀ k, v.ownBlock = some k → y.ownBlock ≠ some k
theorem Apart.symm {v y : Value} (h : Apart v y) : Apart y v := fun k h1 h2 => h k h2 h1
theorem app_one {w : World} {ops : Array Oper} {rest : List Oper} {o : Oper} {a : Act} {Q : Exit → Act → World → Prop} (hgd : o.guard = none) (s x : Operand)
    (ho : o.op = .call { callee := .builtin .append, args := #[s, x], argTypes := #[22, 22] }) (base : Nat)
    (v : Value) (xs : List Int) (hs : a.eval s = v) (hown : OwnI w base v xs) (g1 c1 : Nat) (z : Int) (hx : a.eval x = .slice (some ⟨g1, 0, none⟩) 1 c1) (hc : w.heap[g1]? = some (.cells #[.int .i64 z] 3 (0, 0)))
    (y : Value) (ys : List Int) (hy : OwnI w base y ys) (hap : Apart v y)
    (hb : xs.length ≤ 100) (hbase : base ≤ w.heap.size)
    (h : ∀ v' w', OwnI w' base v' (xs ++ [z]) → OwnI w' base y ys → Apart v' y → Below base w w' → wpList Try.prog ops Q rest (a.put o.dst v') w') : wpList Try.prog ops Q (o :: rest) a w := by
  obtain ⟨i0, hi, hz0, hz1, hz2⟩ := info_parts info_int
  refine wpList_append_lies (w := w) hgd s x 22 ho base 3 i0 (.int .i64 0) 1 8 Try.underlying22 hi hz0 hz1 hz2 rfl (by decide) v xs.length _ hs hown ⟨g1, 0, none⟩ 1 c1 [.int .i64 z] hx rfl (World.news_of_block hc) (by simp [Value.oneCell']) (by decide) (by unfold maxLen; omega) (by omega) hbase w.heap.size rfl ?_
  intro g cap w' hown' hgrow hlie hlt
  refine h _ w' (by unfold OwnI OwnK; rw [List.map_append, List.length_append]; exact hown') ?_ ?_ (Below.own (Below.refl _ _) hbase hown hgrow)
  · refine World.ownsRow.kept hy hgrow ?_
    cases hq : y.ownBlock with
    | none => exact .inl rfl
    | some q => exact .inr fun e => hap q e.symm hq
  · intro k hk
    have hgk : g = k := by simpa [Value.ownBlock] using hk
    subst hgk
    rcases hlie with h1 | h1
    · exact hap g h1
    · intro e
      have := (World.ownsRow.lt hy g e).2
      omega
theorem in_part {zs : List Int} (p : Int → Bool) : (zs.filter fun n => decide (n ∈ zs.filter p)) = zs.filter p := by
  apply List.filter_congr
  intro n hn
  cases h : p n <;> simp [List.mem_filter, hn, h]
theorem part_cnt (f : Int → Int) (zs : List Int) (y : Int) : (zs.filter fun n => decide (y ≤ f n)).length = cntG (zs.map f) y := by
  unfold cntG
  rw [List.filter_map, List.length_map]
  rfl
theorem reach_maj {f : Int → Int} {zs : List Int} {x : Int} (hck : Nd.chk zs = true) (h : MidP f zs x) :
    Nd.majB zs (zs.filter fun n => decide (x ≤ f n)) = true ∧ Nd.majB zs (zs.filter fun n => decide (x < f n)) = false := by
  obtain ⟨l, hp, hs, hl, rfl⟩ := h.2 hck
  have h0 := (chk_len hck).1
  have hi : (zs.length - 1) / 2 < l.length := by omega
  rw [← hl] at hs
  have h1 := cnt_hi hs hi (Int.le_refl _)
  have h2 := cnt_lo hs hi (y := at0 l ((zs.length - 1) / 2) + 1) (by omega)
  rw [cntG_perm hp] at h1 h2
  unfold Nd.majB
  rw [hck, Bool.true_and, Bool.true_and, in_part, in_part, part_cnt, show (fun n => decide (at0 l ((zs.length - 1) / 2) < f n)) = fun n => decide (at0 l ((zs.length - 1) / 2) + 1 ≤ f n) from rfl, part_cnt]
  refine ⟨decide_eq_true (by omega), decide_eq_false (by omega)⟩
end Nm
end Go.Proofs.Ytogebbplfoainaa
