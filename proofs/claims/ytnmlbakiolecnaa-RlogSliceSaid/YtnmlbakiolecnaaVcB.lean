/- slices.Clone of entries; an entry stored into a row of entries. No condition. -/
import Derived.Test.YtnmlbakiolecnaaVcA
namespace Go.Proofs.Ytnmlbakiolecnaa
open Go.ChangeShapes Go.WideShapes Go.ChangeAt Go.RowKit
set_option linter.unusedVariables false
set_option maxRecDepth 100000
namespace Vc
theorem appE {w : World} {ops : Array Oper} {rest : List Oper} {o : Oper} {a : Act} {Q : Exit → Act → World → Prop} (hgd : o.guard = none) (s x : Operand)
    (ho : o.op = .call { callee := .builtin .append, args := #[s, x], argTypes := #[30, 30] }) (base : Nat)
    (v : Value) (xs : List ERow) (hs : a.eval s = v) (hown : OwnR 9 entC 41 w base v xs) (u : Value) (zs : List ERow) (hx : a.eval x = u) (hsl : SlR 9 entC w u zs) (h1c : ∀ r ∈ zs, ∀ q ∈ entC r, q.oneCell' = true)
    (h63 : xs.length + zs.length ≤ maxLen) (hb : (xs.length + zs.length) * 88 ≤ 140737488355328) (hbase : base ≤ w.heap.size)
    (h : ∀ v' w', OwnR 9 entC 41 w' base v' (xs ++ zs) → Below base w w' → wpList Try.prog ops Q rest (a.put o.dst v') w') : wpList Try.prog ops Q (o :: rest) a w := by
  obtain ⟨i0, hi, hz0, hz1, hz2⟩ := info_parts info_ent
  refine wp_app hgd s x 30 ho base 41 i0 _ 9 88 Try.underlying30 hi hz0 hz1 hz2 rfl (by decide) v xs.length _ hs hown u zs.length (zs.flatMap entC) hx (hsl.src entC_len) (flat_len entC_len zs) (fun u hu => ?_) h63 hb hbase ?_
  · obtain ⟨y, hy1, hy⟩ := List.mem_flatMap.1 hu
    exact h1c y hy1 u hy
  · intro v' w' hown' hgrow
    refine h v' w' ?_ (Below.own (Below.refl _ _) hbase hown hgrow)
    unfold OwnR
    rw [List.flatMap_append, List.length_append]
    exact hown'
theorem ents_one {w : World} {rows : List ERow} (h : Ents w rows) : ∀ r ∈ rows, ∀ u ∈ entC r, u.oneCell' = true := by
  intro r hr u hu
  obtain ⟨a, c, e, -⟩ := (h r hr).1
  obtain ⟨x, vr⟩ := r
  simp only [] at e
  subst e
  simp [entC] at hu
  rcases hu with rfl | rfl | rfl | rfl | rfl | rfl | rfl | rfl | rfl <;> rfl
theorem ownE_new (w : World) (g : Nat) (hg : w.heap.size = g) {B : Nat} (hB : B ≤ g) : OwnR 9 entC 41 (w.alloc (.cells #[] 41)) B (.slice (some ⟨g, 0, none⟩) 0 0) ([] : List ERow) := by
  subst hg
  exact ⟨rfl, .inr ⟨w.heap.size, 0, #[], rfl, hB, heap_alloc_new _ _, Nat.le_refl _, Nat.zero_le _, rfl, rfl⟩⟩
/-- a row of its own with the same entries; their lists are shared -/
def ClonedE (rows : List ERow) (w : World) (e : Ending) (w' : World) : Prop := ∃ u, e = .returned u ∧ OwnR 9 entC 41 w' w.heap.size u rows ∧ Below w.heap.size w w'
set_option maxHeartbeats 1000000 in
theorem clone_any (rows : List ERow) (v : Value) (w : World) (h : SlR 9 entC w v rows) (he : Ents w rows) (hb8 : rows.length * 88 ≤ 140737488351232) :
    Calls Try.prog 86 #[v] w (ClonedE rows w) := by
  have H1 := Lib.hid (ents_one he)
  have hml := h.len
  have HS := Lib.hid (fun A => h.below ((Below.refl w.heap.size w).alloc (Nat.le_refl _) (.cells A 41)) (Nat.le_refl _))
  obtain ⟨a, cap, rfl, h1, h2, h4⟩ := h
  rcases h4 with ⟨rfl, rfl, hnil⟩ | ⟨b, off, sp, rfl, h5⟩
  · subst hnil
    clear HS
    have hq : ∀ w' : World, (binOp BinOp.eql 30 (.slice none 0 0) (.slice none 0 0)).run Try.prog w' = .ok (.bool true) w' := fun _ => by first | kernel_rfl | rfl
    go_enter Try.func86, Try.ntmps86
    go_wp2
    go_ret
    exact ⟨_, rfl, OwnR.nil _ _ _, Below.refl _ _⟩
  · clear h5
    have hq : ∀ w' : World, (binOp BinOp.eql 30 (.slice (some ⟨b, off, sp⟩) rows.length cap) (.slice none 0 0)).run Try.prog w' = .ok (.bool false) w' := fun _ => by first | kernel_rfl | rfl
    go_enter Try.func86, Try.ntmps86
    go_wp2_with (at_builtin; (refine appE rfl _ _ rfl w.heap.size _ [] rfl (ownE_new w w.heap.size rfl (Nat.le_refl _)) _ rows rfl (HS.out _) H1.out (by simpa using hml) (by simp; omega) (by simp) ?_; intro v1 w1 hown1 hb1; rw [List.nil_append] at hown1))
    go_ret
    exact ⟨_, rfl, hown1, ((Below.refl _ _).alloc (Nat.le_refl _) _).trans hb1⟩
/-- cells stored one behind the other into a row of the call's own -/
theorem stored_cells {base e size g n cap : Nat} : ∀ (L : List Value) (o : Nat) (w : World) (xs : List Value), w.ownsRow base e size (.slice (some ⟨g, 0, none⟩) n cap) n xs →
    ∃ ys, (w.setCells g o L).ownsRow base e size (.slice (some ⟨g, 0, none⟩) n cap) n ys ∧ ∀ j, ys[j]? = if o ≤ j ∧ j < o + L.length ∧ j < xs.length then L[j - o]? else xs[j]?
  | [], o, w, xs, h => ⟨xs, h, fun j => by rw [if_neg (by simp; omega)]⟩
  | u :: L, o, w, xs, h => by
    obtain ⟨ys, h1, h2⟩ := stored_cells L (o + 1) _ _ (h.stored o u).1
    refine ⟨ys, h1, fun j => ?_⟩
    rw [h2 j, List.length_set]
    by_cases c1 : o + 1 ≤ j ∧ j < o + 1 + L.length ∧ j < xs.length
    · rw [if_pos c1, if_pos (by simp only [List.length_cons]; omega), show j - o = (j - (o + 1)) + 1 by omega, List.getElem?_cons_succ]
    · rw [if_neg c1, List.getElem?_set]
      by_cases c2 : o = j
      · subst c2
        by_cases c3 : o < xs.length
        · rw [if_pos rfl, if_pos c3, if_pos (by simp only [List.length_cons]; omega), Nat.sub_self, List.getElem?_cons_zero]
        · rw [if_pos rfl, if_neg c3, if_neg (by omega), List.getElem?_eq_none (by omega)]
      · rw [if_neg c2, if_neg (by simp only [List.length_cons]; omega)]
theorem flat_set (rows : List ERow) (k : Nat) (r : ERow) (hk : k < rows.length) (ys : List Value) (hy : ∀ j, ys[j]? = if k * 9 ≤ j ∧ j < k * 9 + (entC r).length ∧ j < (rows.flatMap entC).length then (entC r)[j - k * 9]? else (rows.flatMap entC)[j]?) : ys = (rows.set k r).flatMap entC := by
  have hl := flat_len entC_len rows
  have hl2 : ((rows.set k r).flatMap entC).length = rows.length * 9 := by rw [flat_len entC_len, List.length_set]
  apply List.ext_getElem?
  intro j
  rw [hy j, hl]
  by_cases c : j < rows.length * 9
  · have hi : j / 9 < rows.length := by omega
    have hj : j = (j / 9) * 9 + j % 9 := by omega
    have h9 : j % 9 < 9 := by omega
    have e9 : (entC r).length = 9 := rfl
    by_cases c2 : j / 9 = k
    · rw [if_pos (by rw [e9]; omega)]
      obtain ⟨u, hu⟩ : ∃ u, (entC r)[j % 9]? = some u := ⟨_, List.getElem?_eq_getElem (by rw [e9]; exact h9)⟩
      rw [show j - k * 9 = j % 9 by omega, hu]
      have := flat_at entC_len (rows.set k r) (j / 9) (j % 9) r u (by rw [c2, List.getElem?_set, if_pos rfl, if_pos hk]) hu
      rw [← hj] at this
      exact this.symm
    · have e99 : (entC rows[j / 9]).length = 9 := rfl
      rw [if_neg (by rw [e9]; omega)]
      obtain ⟨u, hu⟩ : ∃ u, (entC rows[j / 9])[j % 9]? = some u := ⟨_, List.getElem?_eq_getElem (by rw [e99]; exact h9)⟩
      have h1 := flat_at entC_len rows (j / 9) (j % 9) _ u (List.getElem?_eq_getElem hi) hu
      have h2 := flat_at entC_len (rows.set k r) (j / 9) (j % 9) rows[j / 9] u (by rw [List.getElem?_set, if_neg (by omega)]; exact List.getElem?_eq_getElem hi) hu
      rw [← hj] at h1 h2
      rw [h1, h2]
  · rw [if_neg (by omega), List.getElem?_eq_none (by omega), List.getElem?_eq_none (by omega)]
/-- an entry stored whole into a row of the call's own -/
theorem stored_ent {w : World} {B g cap : Nat} {rows : List ERow} {e : TypeId} (h : OwnR 9 entC e w B (.slice (some ⟨g, 0, none⟩) rows.length cap) rows) (k : Nat) (hk : k < rows.length) (r : ERow) :
    OwnR 9 entC e (w.setCells g (k * 9) (entC r)) B (.slice (some ⟨g, 0, none⟩) rows.length cap) (rows.set k r) := by
  obtain ⟨ys, h1, h2⟩ := stored_cells (entC r) (k * 9) w _ h
  have := flat_set rows k r hk ys h2
  subst this
  unfold OwnR
  rw [List.length_set]
  exact h1
end Vc
end Go.Proofs.Ytnmlbakiolecnaa
