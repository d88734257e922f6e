/- A queue: a slice of one's own that may begin anywhere in its row; what is taken off its front, and put at its end. No condition. -/
import Derived.Test.YtdakkjpejhlciaaOnl
import Derived.Deep.Upon
import Derived.Laws.IdiomCopy
namespace Go.Proofs.Ytdakkjpejhlciaa
open Go.ChangeShapes Go.WideShapes Go.ChangeAt Go.RowKit Go.Deep
set_option linter.unusedVariables false
set_option maxRecDepth 100000
set_option linter.unusedSimpArgs false
section
variable {α : Type} {sz : Nat} {C : α → List Value} {w w' : World} {B : Nat} {e : TypeId} {v : Value} {xs zs : List α} {x : α}
/-- the elements xs, in a row of one's own, from anywhere in it on -/
def OwnQ (sz : Nat) (C : α → List Value) (e : TypeId) (w : World) (B : Nat) (v : Value) (xs : List α) : Prop :=
  (v = .slice none 0 0 ∧ xs = []) ∨ ∃ g off cap cur, v = .slice (some ⟨g, off, none⟩) xs.length cap ∧ B ≤ g ∧ w.heap[g]? = some (.cells cur e (0, 0)) ∧ xs.length ≤ cap ∧ cap ≤ maxLen ∧ off + cap * sz ≤ cur.size ∧ ∀ j u, (xs.flatMap C)[j]? = some u → cur[off + j]? = some u
theorem OwnQ.nil (e : TypeId) (w : World) (B : Nat) : OwnQ sz C e w B (.slice none 0 0) ([] : List α) := .inl ⟨rfl, rfl⟩
theorem OwnQ.of (hC : ∀ x, (C x).length = sz) (h : OwnR sz C e w B v xs) : OwnQ sz C e w B v xs := by
  rcases h.2 with ⟨h1, h0⟩ | ⟨g, cap, cur, h1, h2, h3, h4, h5, h6, h7⟩
  · exact .inl ⟨h1, List.eq_nil_of_length_eq_zero h0⟩
  · refine .inr ⟨g, 0, cap, cur, h1, h2, h3, h4, h5, by omega, fun j u hu => ?_⟩
    rw [← h7, List.getElem?_take] at hu
    split at hu
    · rw [Nat.zero_add, ← Array.getElem?_toList]; exact hu
    · cases hu
theorem OwnQ.sl (hC : ∀ x, (C x).length = sz) (h : OwnQ sz C e w B v xs) : SlR sz C w v xs := by
  rcases h with ⟨rfl, rfl⟩ | ⟨g, off, cap, cur, rfl, h2, h3, h4, h5, h6, h7⟩
  · exact SlR.nil w
  · refine ⟨_, cap, rfl, h4, h5, .inr ⟨g, off, none, rfl, .inr ⟨rfl, (Array.getElem?_eq_some_iff.1 h3).1, fun i x hx j u hu => ?_⟩⟩⟩
    rw [cell_of_row _ _ _ _ _ _ h3]
    exact h7 _ u (flat_at hC xs i j x u hx hu)
theorem OwnQ.keep (h : OwnQ sz C e w B v xs) (hb : ∀ q, v.ownBlock = some q → w'.heap[q]? = w.heap[q]?) : OwnQ sz C e w' B v xs := by
  rcases h with h | ⟨g, off, cap, cur, rfl, h2, h3, h4⟩
  · exact .inl h
  · exact .inr ⟨g, off, cap, cur, rfl, h2, (hb g rfl).trans h3, h4⟩
theorem OwnQ.lt (h : OwnQ sz C e w B v xs) : ∀ q, v.ownBlock = some q → B ≤ q ∧ q < w.heap.size := by
  intro q hq
  rcases h with ⟨rfl, -⟩ | ⟨g, off, cap, cur, rfl, h2, h3, h4⟩
  · cases hq
  · simp only [Value.ownBlock, Option.some.injEq] at hq
    subst hq
    exact ⟨h2, (Array.getElem?_eq_some_iff.1 h3).1⟩
theorem OwnQ.up {D : Nat} (h : OwnQ sz C e w B v xs) (hD : ∀ q, v.ownBlock = some q → D ≤ q) : OwnQ sz C e w D v xs := by
  rcases h with h | ⟨g, off, cap, cur, rfl, h2, h4⟩
  · exact .inl h
  · exact .inr ⟨g, off, cap, cur, rfl, hD g rfl, h4⟩
theorem OwnQ.ty {g : Nat} {cs : Array Value} {t : TypeId} {fr : Nat × Nat} (h : OwnQ sz C e w B v xs) (hg : w.heap[g]? = some (.cells cs t fr)) (hne : e ≠ t) : ∀ q, v.ownBlock = some q → q ≠ g := by
  intro q hq hn
  subst hn
  rcases h with ⟨rfl, -⟩ | ⟨q2, off, cap, cur, rfl, -, hh, -⟩
  · cases hq
  · simp only [Value.ownBlock, Option.some.injEq] at hq
    subst hq
    rw [hg] at hh
    simp only [Option.some.injEq, Obj.cells.injEq] at hh
    exact hne hh.2.1.symm
theorem OwnQ.len (h : OwnQ sz C e w B v xs) : ∃ a c, v = .slice a xs.length c ∧ xs.length ≤ c ∧ c ≤ maxLen := by
  rcases h with ⟨rfl, rfl⟩ | ⟨g, off, cap, cur, rfl, h2, h3, h4, h5, -⟩
  · exact ⟨_, _, rfl, Nat.le_refl _, Nat.zero_le _⟩
  · exact ⟨_, _, rfl, h4, h5⟩
/-- opened where there is something -/
theorem OwnQ.form (hC : ∀ x, (C x).length = sz) (h : OwnQ sz C e w B v (x :: xs)) : ∃ g off cap, v = .slice (some ⟨g, off, none⟩) (xs.length + 1) cap ∧ B ≤ g ∧ xs.length + 1 ≤ cap ∧ cap ≤ maxLen ∧
    (∀ j u, (C x)[j]? = some u → w.cell? ⟨g, off + j, none⟩ = some u) ∧
    (2 ≤ cap → OwnQ sz C e w B (.slice (some ⟨g, off + sz, none⟩) xs.length (cap - 1)) xs) ∧ (cap = 1 → xs = [] ∧ OwnQ sz C e w B (.slice (some ⟨g, off, none⟩) 0 0) ([] : List α)) := by
  rcases h with ⟨_, h0⟩ | ⟨g, off, cap, cur, rfl, h2, h3, h4, h5, h6, h7⟩
  · cases h0
  · simp only [List.length_cons] at h4
    refine ⟨g, off, cap, by simp, h2, h4, h5, fun j u hu => ?_, fun hc => ?_, fun hc => ?_⟩
    · rw [cell_of_row _ _ _ _ _ _ h3]
      refine h7 j u ?_
      rw [List.flatMap_cons, List.getElem?_append_left]
      · exact hu
      · exact (List.getElem?_eq_some_iff.1 hu).1
    · refine .inr ⟨g, off + sz, cap - 1, cur, rfl, h2, h3, by omega, by omega, ?_, fun j u hu => ?_⟩
      · have : cap * sz = (cap - 1) * sz + sz := by rw [← Nat.succ_mul]; congr 1; omega
        omega
      · have := h7 (sz + j) u (by rw [List.flatMap_cons, List.getElem?_append_right (by rw [hC]; omega), hC, show sz + j - sz = j by omega]; exact hu)
        rw [← this]; congr 1; omega
    · have : xs = [] := List.eq_nil_of_length_eq_zero (by omega)
      exact ⟨this, .inr ⟨g, off, 0, cur, rfl, h2, h3, Nat.le_refl _, Nat.zero_le _, by omega, fun j u hu => by simp at hu⟩⟩
/-- what is left when the first is taken off -/
def tailQ (sz : Nat) : Value → Value
  | .slice (some ⟨g, off, sp⟩) n cap => if cap = 1 then .slice (some ⟨g, off, sp⟩) 0 0 else .slice (some ⟨g, off + sz, sp⟩) (n - 1) (cap - 1)
  | v => v
theorem tailQ_block (v : Value) : (tailQ sz v).ownBlock = v.ownBlock := by
  unfold tailQ
  split
  · split <;> rfl
  · rfl
theorem OwnQ.tail (hC : ∀ x, (C x).length = sz) (h : OwnQ sz C e w B v (x :: xs)) : OwnQ sz C e w B (tailQ sz v) xs := by
  obtain ⟨g, off, cap, rfl, -, h1, -, -, h2, h3⟩ := h.form hC
  unfold tailQ
  by_cases hc : cap = 1
  · simp only [if_pos hc]
    obtain ⟨rfl, h4⟩ := h3 hc
    exact h4
  · simp only [if_neg hc]
    exact h2 (by omega)
theorem setCells_block (b : Nat) : ∀ (vs : List Value) (o : Nat) (w : World) (k : Nat), k ≠ b → (w.setCells b o vs).heap[k]? = w.heap[k]?
  | [], _, _, _, _ => rfl
  | v :: vs, o, w, k, h => by
    show ((w.setCell ⟨b, o, none⟩ v).setCells b (o + 1) vs).heap[k]? = _
    rw [setCells_block b vs (o + 1) _ k h]
    exact heap_setCell_other w ⟨b, o, none⟩ k v h
theorem setCells_row (b : Nat) : ∀ (vs : List Value) (o : Nat) (w : World) (cur : Array Value) (t : TypeId), w.heap[b]? = some (.cells cur t (0, 0)) → o + vs.length ≤ cur.size →
    ∃ cur', (w.setCells b o vs).heap[b]? = some (.cells cur' t (0, 0)) ∧ cur'.size = cur.size ∧ (∀ i, i < o → cur'[i]? = cur[i]?) ∧ (∀ j u, vs[j]? = some u → cur'[o + j]? = some u)
  | [], o, w, cur, t, h, _ => ⟨cur, h, rfl, fun _ _ => rfl, fun j u hu => by simp at hu⟩
  | v :: vs, o, w, cur, t, h, hl => by
    simp only [List.length_cons] at hl
    obtain ⟨c2, h1, h2, h3, h4⟩ := setCells_row b vs (o + 1) (w.setCell ⟨b, o, none⟩ v) _ t (heap_setCell_same w b o _ t v h) (by simp; omega)
    refine ⟨c2, h1, by simpa using h2, fun i hi => ?_, fun j u hu => ?_⟩
    · rw [h3 i (by omega)]
      simp only [Array.getElem?_setIfInBounds]
      rw [if_neg (by omega)]
    · match j, hu with
      | 0, hu =>
        simp only [List.getElem?_cons_zero, Option.some.injEq] at hu
        subst hu
        rw [Nat.add_zero, h3 o (by omega)]
        simp only [Array.getElem?_setIfInBounds]
        rw [if_pos trivial, if_pos (by omega)]
      | j + 1, hu =>
        have := h4 j u (by simpa using hu)
        rw [← this]; congr 1; omega
theorem setCells_fields (b : Nat) : ∀ (vs : List Value) (o : Nat) (w : World), (w.setCells b o vs).os = w.os ∧ (w.setCells b o vs).tape = w.tape ∧ (w.setCells b o vs).output = w.output ∧ (w.setCells b o vs).heap.size = w.heap.size
  | [], _, _ => ⟨rfl, rfl, rfl, rfl⟩
  | v :: vs, o, w => by
    obtain ⟨h1, h2, h3, h4⟩ := setCells_fields b vs (o + 1) (w.setCell ⟨b, o, none⟩ v)
    exact ⟨h1, h2, h3, h4.trans (by simp)⟩
/-- elements put at its end -/
theorem run_append_que {P : Program} (hC : ∀ x, (C x).length = sz) {t ty : TypeId} (ht : P.underlying t = some (.slice e)) {z : Value} {bytes : Nat} (hzs : z.cells.size = sz) (hsz : 0 < sz) (hinfo : (P.info? e).map (fun i => (i.zero, i.size, i.bytes)) = some (some z, sz, bytes))
    (h : OwnQ sz C e w B v xs) {u : Value} (hsl : SlR sz C w u zs) (h1c : ∀ x ∈ zs, ∀ u ∈ C x, u.oneCell' = true) (h63 : xs.length + zs.length ≤ maxLen) (hb : (xs.length + zs.length) * bytes ≤ 140737488355328) (hbase : B ≤ w.heap.size) :
    ∃ v' w', (Builtin.append_ #[t, t] ty #[v, u]).run P w = .ok v' w' ∧ OwnQ sz C e w' B v' (xs ++ zs) ∧ w.grownBy w' v.ownBlock ∧ (v'.ownBlock = v.ownBlock ∨ ∀ q, v'.ownBlock = some q → w.heap.size ≤ q) := by
  obtain ⟨i0, hi, hz0, hz1, hz2⟩ := info_parts hinfo
  have hone : ∀ u ∈ zs.flatMap C, u.oneCell' = true := fun u hu => by
    obtain ⟨y, hy1, hy⟩ := List.mem_flatMap.1 hu
    exact h1c y hy1 u hy
  have fromOwn : ∀ v' w', w'.ownsRow B e sz v' (xs.length + zs.length) (xs.flatMap C ++ zs.flatMap C) → OwnQ sz C e w' B v' (xs ++ zs) := fun v' w' q => by
    refine OwnQ.of hC ?_
    unfold OwnR
    rw [List.flatMap_append, List.length_append]
    exact q
  rcases hsl.src hC with ⟨rfl, h0, hz⟩ | ⟨ad, c, rfl, hc⟩
  · have hzs0 : zs = [] := List.eq_nil_of_length_eq_zero h0
    subst hzs0
    rw [List.append_nil]
    have hle := h.len
    obtain ⟨a, cp, rfl, hl, -⟩ := hle
    exact ⟨_, w, run_append_nothing w t t ty e i0 ht hi a xs.length cp hl _ (Src.ofNil w ht 0), h, World.grownBy.refl _ _, .inl rfl⟩
  · rcases h with ⟨rfl, rfl⟩ | ⟨g, off, cap, cur, rfl, h2, h3, h4, h5, h6, h7⟩
    · obtain ⟨v', w', hr, q2, q3, q4, q5⟩ := run_append_own_at (P := P) w B t ty e i0 z sz bytes ht hi hz0 hz1 hz2 hzs hsz (.slice none 0 0) 0 [] (World.ownsRow_nil w _ e sz) ad zs.length c (zs.flatMap C) (flat_len hC zs) hc hone (by simpa using h63) (by simpa using hb) hbase
      exact ⟨v', w', hr, fromOwn v' w' (by simpa using q2), q3, q5.imp id fun h q hq => by rw [h] at hq; cases hq; exact Nat.le_refl _⟩
    · by_cases hroom : xs.length + zs.length ≤ cap
      · subst hz1
        have hmul : (xs.length + zs.length) * i0.size ≤ cap * i0.size := Nat.mul_le_mul_right _ hroom
        rw [Nat.add_mul] at hmul
        have hfl := flat_len hC zs
        have hr := run_append_room_cells (P := P) w t ty e i0 ht hi g off xs.length cap ad zs.length c (zs.flatMap C) hfl hc hone hroom
          (fun j hj => by
            rw [cell_of_row _ _ _ _ _ _ h3, Array.getElem?_eq_getElem (by omega)]
            rfl)
          (fun j hj => frozen_of_row _ _ _ _ _ h3)
        obtain ⟨c2, q1, q2, q3, q4⟩ := setCells_row g (zs.flatMap C) (off + xs.length * i0.size) w cur e h3 (by omega)
        obtain ⟨f1, f2, f3, f4⟩ := setCells_fields g (zs.flatMap C) (off + xs.length * i0.size) w
        refine ⟨_, _, hr, .inr ⟨g, off, cap, c2, by rw [List.length_append], h2, q1, by rw [List.length_append]; exact hroom, h5, by omega, fun j u hu => ?_⟩, ⟨f1, f2, f3, by omega, fun k hk hn => setCells_block g _ _ w k (fun e => hn (by rw [e]; rfl))⟩, .inl rfl⟩
        rw [List.flatMap_append] at hu
        have hxl := flat_len hC xs
        rcases Nat.lt_or_ge j (xs.flatMap C).length with hj | hj
        · rw [List.getElem?_append_left hj] at hu
          rw [q3 _ (by omega)]
          exact h7 j u hu
        · rw [List.getElem?_append_right hj] at hu
          have := q4 _ u hu
          rw [← this]; congr 1; omega
      · have holds : ∀ j u, (xs.flatMap C)[j]? = some u → w.cell? ((⟨g, off, none⟩ : Addr).add j) = some u := fun j u hu => by
          rw [add_plain, cell_of_row _ _ _ _ _ _ h3]
          exact h7 j u hu
        obtain ⟨v', w', hr, q1, q2⟩ := run_append_arg_grows (P := P) w t ty e i0 z sz bytes ht hi hz0 hz1 hz2 hzs hsz ⟨g, off, none⟩ xs.length cap (xs.flatMap C) (flat_len hC xs) holds ad zs.length c (zs.flatMap C) (flat_len hC zs) hc (by omega) h63 hb
        refine ⟨v', w', hr, fromOwn v' w' (q1.mono hbase), ⟨q2.os, q2.tape, q2.output, q2.size, fun k hk _ => q2.block k hk (by simp)⟩, ?_⟩
        right
        intro q hq
        exact (World.ownsRow.lt q1 q hq).1
/-- in a region -/
theorem stepQue {P : Program} (hC : ∀ x, (C x).length = sz) {t : TypeId} (ht : P.underlying t = some (.slice e)) {z : Value} {bytes : Nat} (hzs : z.cells.size = sz) (hsz : 0 < sz) (hinfo : (P.info? e).map (fun i => (i.zero, i.size, i.bytes)) = some (some z, sz, bytes))
    {ops : Array Oper} {o : Oper} {a : Act} {K : Act → World → Prop} {Q : Exit → Act → World → Prop} {E : Prop} (hgd : o.guard = none) (s y : Operand)
    (ho : o.op = .call { callee := .builtin .append, args := #[s, y], argTypes := #[t, t] })
    (hs : a.eval s = v) (h : OwnQ sz C e w B v xs) (u : Value) (hy : a.eval y = u) (hsl : SlR sz C w u zs) (h1c : ∀ x ∈ zs, ∀ u ∈ C x, u.oneCell' = true)
    (h63 : xs.length + zs.length ≤ maxLen) (hb : (xs.length + zs.length) * bytes ≤ 140737488355328) (hbase : B ≤ w.heap.size)
    (hk : ∀ v' w', OwnQ sz C e w' B v' (xs ++ zs) → w.grownBy w' v.ownBlock → (v'.ownBlock = v.ownBlock ∨ ∀ q, v'.ownBlock = some q → w.heap.size ≤ q) → K (a.put o.dst v') w') :
    if Region.wanted o (yielded ops a.tmps) = true then Oper.wp P o a w K Q else E := by
  have hw : Region.wanted o (yielded ops a.tmps) = true := by simp [Region.wanted, hgd]
  rw [if_pos hw]
  obtain ⟨v', w', hr, h2, h3, h4⟩ := run_append_que (ty := o.type) hC ht hzs hsz hinfo h hsl h1c h63 hb hbase
  unfold Oper.wp execOp
  simp only [ho, resolve, invoke, builtin, Sem.run_bind, Sem.run_pure, Result.andThen_ok, List.map_toArray, List.map_cons, List.map_nil, hs, hy, hr]
  exact hk _ _ h2 h3 h4
/-- in a list of operations -/
theorem appQue {P : Program} (hC : ∀ x, (C x).length = sz) {t : TypeId} (ht : P.underlying t = some (.slice e)) {z : Value} {bytes : Nat} (hzs : z.cells.size = sz) (hsz : 0 < sz) (hinfo : (P.info? e).map (fun i => (i.zero, i.size, i.bytes)) = some (some z, sz, bytes))
    {ops : Array Oper} {rest : List Oper} {o : Oper} {a : Act} {Q : Exit → Act → World → Prop} (hgd : o.guard = none) (s y : Operand)
    (ho : o.op = .call { callee := .builtin .append, args := #[s, y], argTypes := #[t, t] })
    (hs : a.eval s = v) (h : OwnQ sz C e w B v xs) (u : Value) (hy : a.eval y = u) (hsl : SlR sz C w u zs) (h1c : ∀ x ∈ zs, ∀ u ∈ C x, u.oneCell' = true)
    (h63 : xs.length + zs.length ≤ maxLen) (hb : (xs.length + zs.length) * bytes ≤ 140737488355328) (hbase : B ≤ w.heap.size)
    (hk : ∀ v' w', OwnQ sz C e w' B v' (xs ++ zs) → w.grownBy w' v.ownBlock → (v'.ownBlock = v.ownBlock ∨ ∀ q, v'.ownBlock = some q → w.heap.size ≤ q) → wpList P ops Q rest (a.put o.dst v') w') : wpList P ops Q (o :: rest) a w := by
  refine wpList_plain hgd fun K hK' => ?_
  obtain ⟨v', w', hr, h2, h3, h4⟩ := run_append_que (ty := o.type) hC ht hzs hsz hinfo h hsl h1c h63 hb hbase
  unfold Oper.wp execOp
  simp only [ho, resolve, invoke, builtin, Sem.run_bind, Sem.run_pure, Result.andThen_ok, List.map_toArray, List.map_cons, List.map_nil, hs, hy, hr]
  exact hK' _ _ (hk _ _ h2 h3 h4)
end
end Go.Proofs.Ytdakkjpejhlciaa
