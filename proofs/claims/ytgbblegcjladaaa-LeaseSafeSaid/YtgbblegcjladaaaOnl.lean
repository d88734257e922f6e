/- What a call leaves as it was; rows that a call owns; steps over appends. No condition. (Out of PlA, PrD, PrF: without a pool's types.) -/
import Derived.Test.YtgbblegcjladaaaLdB
import Derived.Deep.RegionLaw
import Derived.Deep.RegionLawGrows
import Derived.Deep.OwnRows
import Derived.Deep.RegionHeld
import Derived.Deep.QuietTactic
import Derived.BigQuiet
import Derived.Deep.AppendLies
import Derived.Lib.Hide
import Derived.Deep.MidRow
import Derived.Deep.DeepCutAuto
import Derived.Deep.CutRange
import Derived.Deep.CutBlock
import Derived.Deep.RegionWith
import Derived.Deep.RegionHeld3
import Derived.Deep.RegionHeldLaw
import Derived.Lib.QuietBelow
import Derived.BigRegion
import Derived.Test.YtgbblegcjladaaaWl
namespace Go.Proofs.Ytgbblegcjladaaa
open Go.ChangeShapes Go.WideShapes Go.ChangeAt Go.RowKit Go.Deep
set_option linter.unusedVariables false
set_option maxRecDepth 100000
set_option linter.unusedSimpArgs false
section
variable {P : Program} {W : World}
theorem slice_cells {r : Reach} {t e : TypeId} {v : Value} {b0 : Nat} (ht : P.underlying t = some (.slice e)) (hok : Value.okWide P W r b0 t v) : v.cells.toList = [v] := by
  obtain ⟨a, l, c, rfl⟩ := okWide_slice ht hok
  rfl
end
theorem rgetD {α : Type} {l : List α} {k : Nat} (h : k < l.length) : l[k]? = some l[k] := List.getElem?_eq_getElem h
/-- but for some blocks, and what is new, all is as it was -/
def Only (S : Nat → Prop) (w w' : World) : Prop := w'.os = w.os ∧ w'.tape = w.tape ∧ w'.output = w.output ∧ w.heap.size ≤ w'.heap.size ∧ ∀ k, k < w.heap.size → ¬ S k → w'.heap[k]? = w.heap[k]?
theorem Only.refl (S : Nat → Prop) (w : World) : Only S w w := ⟨rfl, rfl, rfl, Nat.le_refl _, fun _ _ _ => rfl⟩
theorem Only.trans {S : Nat → Prop} {a b c : World} (h : Only S a b) (k : Only S b c) : Only S a c :=
  ⟨k.1.trans h.1, k.2.1.trans h.2.1, k.2.2.1.trans h.2.2.1, Nat.le_trans h.2.2.2.1 k.2.2.2.1, fun i hi hs => (k.2.2.2.2 i (Nat.lt_of_lt_of_le hi h.2.2.2.1) hs).trans (h.2.2.2.2 i hi hs)⟩
/-- a second step may also change what is new -/
theorem Only.after {S T : Nat → Prop} {a b c : World} (h : Only S a b) (k : Only T b c) (hT : ∀ i, i < a.heap.size → T i → S i) : Only S a c :=
  ⟨k.1.trans h.1, k.2.1.trans h.2.1, k.2.2.1.trans h.2.2.1, Nat.le_trans h.2.2.2.1 k.2.2.2.1, fun i hi hs => (k.2.2.2.2 i (Nat.lt_of_lt_of_le hi h.2.2.2.1) (fun q => hs (hT i hi q))).trans (h.2.2.2.2 i hi hs)⟩
theorem Only.mono {S T : Nat → Prop} {a b : World} (h : Only S a b) (hs : ∀ k, S k → T k) : Only T a b :=
  ⟨h.1, h.2.1, h.2.2.1, h.2.2.2.1, fun i hi ht => h.2.2.2.2 i hi fun hk => ht (hs i hk)⟩
theorem Below.only {w w' : World} (h : Below w.heap.size w w') (S : Nat → Prop) : Only S w w' := ⟨h.os, h.tape, h.output, h.size, fun k hk _ => h.block k hk⟩
theorem Only.below {S : Nat → Prop} {B : Nat} {a w w' : World} (h : Only S w w') (hb : Below B a w) (hB : B ≤ w.heap.size) (hs : ∀ k, S k → B ≤ k) : Below B a w' :=
  ⟨h.1.trans hb.os, h.2.1.trans hb.tape, h.2.2.1.trans hb.output, Nat.le_trans hb.size h.2.2.2.1, fun k hk => (h.2.2.2.2 k (Nat.lt_of_lt_of_le hk hB) fun hS => Nat.lt_irrefl _ (Nat.lt_of_lt_of_le hk (hs k hS))).trans (hb.block k hk)⟩
theorem Only.setCell {S : Nat → Prop} (w : World) (p : Addr) (u : Value) (hs : S p.block) : Only S w (w.setCell p u) :=
  ⟨rfl, rfl, rfl, by simp, fun k hk hn => Below.heap_setCell w p u k fun e => hn (e ▸ hs)⟩
theorem Only.alloc (S : Nat → Prop) (w : World) (o : Obj) : Only S w (w.alloc o) := Below.only ((Below.refl _ _).alloc (Nat.le_refl _) _) S
theorem Only.grown {w w' : World} {row : Option Nat} {S : Nat → Prop} (h : w.grownBy w' row) (hS : ∀ q, row = some q → S q) : Only S w w' :=
  ⟨h.os, h.tape, h.output, h.size, fun k hk hn => h.block k hk (fun e => hn (hS k e.symm))⟩
theorem row_lt {w : World} {q : Nat} {o : Obj} (h : w.heap[q]? = some o) : q < w.heap.size := (Array.getElem?_eq_some_iff.1 h).1
theorem own_form {w : World} {B e sz n : Nat} {v : Value} {xs : List Value} (h : w.ownsRow B e sz v n xs) : (v = .slice none 0 0 ∧ n = 0) ∨ ∃ g c cur, v = .slice (some ⟨g, 0, none⟩) n c ∧ w.heap[g]? = some (.cells cur e (0, 0)) ∧ B ≤ g := by
  rcases h.2 with ⟨h, h0⟩ | ⟨k, cap, cur, e, hg, hh, -⟩
  · exact .inl ⟨h, h0⟩
  · exact .inr ⟨_, _, _, e, hh, hg⟩
theorem own_slice {w : World} {B e sz n : Nat} {v : Value} {xs : List Value} (h : w.ownsRow B e sz v n xs) : ∃ a c, v = .slice a n c := by
  rcases own_form h with ⟨rfl, rfl⟩ | ⟨g, c, cur, rfl, -⟩
  · exact ⟨_, _, rfl⟩
  · exact ⟨_, _, rfl⟩
/-- what one owns stays where its own block does -/
theorem own_keep {w w' : World} {B e sz n : Nat} {v : Value} {xs : List Value} (h : w.ownsRow B e sz v n xs) (hb : ∀ q, v.ownBlock = some q → q < w.heap.size → w'.heap[q]? = w.heap[q]?) : w'.ownsRow B e sz v n xs := by
  refine ⟨h.1, ?_⟩
  rcases h.2 with h2 | ⟨q, cap, cur, rfl, h3, h4, h5⟩
  · exact .inl h2
  · exact .inr ⟨_, cap, cur, rfl, h3, (hb q rfl (row_lt h4)).trans h4, h5⟩
theorem own_ty {w : World} {B e sz n g : Nat} {v : Value} {xs : List Value} {cs : Array Value} {t : TypeId} {fr : Nat × Nat} (h : w.ownsRow B e sz v n xs) (hg : w.heap[g]? = some (.cells cs t fr)) (hne : e ≠ t) : ∀ q, v.ownBlock = some q → q ≠ g := by
  intro q hq hn
  subst hn
  rcases h.2 with ⟨rfl, -⟩ | ⟨q2, cap, cur, rfl, -, hh, -⟩
  · cases hq
  · simp only [Value.ownBlock, Option.some.injEq] at hq
    subst hq
    rw [hg] at hh
    simp only [Option.some.injEq, Obj.cells.injEq] at hh
    exact hne hh.2.1.symm
theorem own_up {w : World} {B D e sz n : Nat} {v : Value} {xs : List Value} (h : w.ownsRow B e sz v n xs) (hD : ∀ q, v.ownBlock = some q → D ≤ q) : w.ownsRow D e sz v n xs := by
  refine ⟨h.1, ?_⟩
  rcases h.2 with h2 | ⟨q, cap, cur, rfl, h3, h4⟩
  · exact .inl h2
  · exact .inr ⟨q, cap, cur, rfl, hD q rfl, h4⟩
theorem below_cell {B : Nat} {w w' : World} (h : Below B w w') {b o : Nat} (hg : B ≤ b) (x : Value) : Below B w (w'.setCell ⟨b, o, none⟩ x) :=
  ⟨h.os, h.tape, h.output, by simpa using h.size, fun k hk => (Below.heap_setCell _ _ _ _ (by simp; omega)).trans (h.block k hk)⟩
/-- a row of n cells that may be written -/
def RowN (w : World) (g n : Nat) : Prop := ∃ cur t, w.heap[g]? = some (.cells cur t (0, 0)) ∧ n ≤ cur.size
theorem RowN.at {w : World} {g n : Nat} (h : RowN w g n) {i : Nat} (hi : i < n) : (∃ v, w.cell? ⟨g, i, none⟩ = some v) ∧ w.frozen? ⟨g, i, none⟩ = false ∧ ∀ x, RowN (w.setCell ⟨g, i, none⟩ x) g n := by
  obtain ⟨cur, t, h1, h2⟩ := h
  refine ⟨⟨cur[i], ?_⟩, frozen_of_row _ _ _ _ _ h1, fun x => ⟨_, t, heap_setCell_same _ g i _ _ x h1, by simpa using h2⟩⟩
  rw [cell_of_row _ _ _ _ _ _ h1]
  exact Array.getElem?_eq_getElem (by omega)
theorem own_rowN {α : Type} {sz : Nat} {C : α → List Value} (hC : ∀ x, (C x).length = sz) {e : TypeId} {w : World} {B : Nat} {v : Value} {xs : List α} (h : OwnR sz C e w B v xs) : (v = .slice none 0 0 ∧ xs = []) ∨ ∃ g c, v = .slice (some ⟨g, 0, none⟩) xs.length c ∧ B ≤ g ∧ RowN w g (xs.length * sz) := by
  rcases h.2 with ⟨rfl, h0⟩ | ⟨g, cap, cur, rfl, hg, hh, hle, hcm, hsz, htk⟩
  · exact .inl ⟨rfl, List.eq_nil_of_length_eq_zero h0⟩
  · refine .inr ⟨g, cap, rfl, hg, cur, e, hh, ?_⟩
    rw [hsz]
    exact Nat.mul_le_mul_right _ hle
theorem RowN.any {w : World} {g n : Nat} (h : RowN w g n) (b o : Nat) (x : Value) : RowN (w.setCell ⟨b, o, none⟩ x) g n := by
  obtain ⟨cur, t, h1, h2⟩ := h
  by_cases e : b = g
  · subst e
    exact ⟨_, t, heap_setCell_same _ b o _ _ x h1, by simpa using h2⟩
  · exact ⟨cur, t, (Below.heap_setCell _ _ _ _ (by simpa using fun q => e q.symm)).trans h1, h2⟩
theorem stepRq {α : Type} {sz : Nat} {C : α → List Value} {P : Program} (hC : ∀ x, (C x).length = sz) {t e : TypeId} (ht : P.underlying t = some (.slice e)) {z : Value} {bytes : Nat} (hzs : z.cells.size = sz) (hsz : 0 < sz) (hinfo : (P.info? e).map (fun i => (i.zero, i.size, i.bytes)) = some (some z, sz, bytes))
    {w : World} {ops : Array Oper} {o : Oper} {a : Act} {K : Act → World → Prop} {Q : Exit → Act → World → Prop} {E : Prop} (hgd : o.guard = none) (s x : Operand)
    (ho : o.op = .call { callee := .builtin .append, args := #[s, x], argTypes := #[t, t] }) (base : Nat)
    (v : Value) (xs : List α) (hs : a.eval s = v) (hown : OwnR sz C e w base v xs) (u : Value) (zs : List α) (hx : a.eval x = u) (hsl : SlR sz C w u zs) (h1c : ∀ x ∈ zs, ∀ u ∈ C x, u.oneCell' = true)
    (h63 : xs.length + zs.length ≤ maxLen) (hb : (xs.length + zs.length) * bytes ≤ 140737488355328) (hbase : base ≤ w.heap.size)
    (h : ∀ v' w', OwnR sz C e w' base v' (xs ++ zs) → w.grownBy w' v.ownBlock → (v'.ownBlock = v.ownBlock ∨ v'.ownBlock = some w.heap.size) → K (a.put o.dst v') w') :
    if Region.wanted o (yielded ops a.tmps) = true then Oper.wp P o a w K Q else E := by
  have hw : Region.wanted o (yielded ops a.tmps) = true := by simp [Region.wanted, hgd]
  rw [if_pos hw]
  obtain ⟨i0, hi, hz0, hz1, hz2⟩ := info_parts hinfo
  have hmk : ∀ {w' : World} {v' : Value}, w'.ownsRow base e sz v' (xs.length + zs.length) (xs.flatMap C ++ zs.flatMap C) → OwnR sz C e w' base v' (xs ++ zs) := fun q => by
    unfold OwnR
    rw [List.flatMap_append, List.length_append]
    exact q
  rcases hsl.src hC with ⟨rfl, h0, hz⟩ | ⟨ad, c, rfl, hc⟩
  · have hrun := run_append_owned_none (P := P) (w := w) base t o.type e i0 sz ht hi v xs.length _ hown
    unfold Oper.wp
    simp [execOp, ho, resolve, invoke, builtin, hs, hx, hrun, Result.andThen]
    exact h _ _ (hmk (by rw [hz, h0, List.append_nil, Nat.add_zero]; exact hown)) (World.grownBy.refl _ _) (.inl rfl)
  · obtain ⟨v', w', hr, h2, h3, h4, h5⟩ := run_append_own_at (P := P) w base t o.type e i0 z sz bytes ht hi hz0 hz1 hz2 hzs hsz v xs.length _ hown ad zs.length c (zs.flatMap C) (flat_len hC zs) hc (fun u hu => by
      obtain ⟨y, hy1, hy⟩ := List.mem_flatMap.1 hu
      exact h1c y hy1 u hy) h63 hb hbase
    unfold Oper.wp execOp
    simp only [ho, resolve, invoke, builtin, Sem.run_bind, Sem.run_pure, Result.andThen_ok, List.map_toArray, List.map_cons, List.map_nil, hs, hx, hr]
    exact h _ _ (hmk h2) h3 h5
theorem SlR.takes {α : Type} {sz : Nat} {C : α → List Value} {w : World} {g c : Nat} {xs : List α} (h : SlR sz C w (.slice (some ⟨g, 0, none⟩) xs.length c) xs) (k : Nat) (hk : k ≤ xs.length) : SlR sz C w (.slice (some ⟨g, 0, none⟩) k c) (xs.take k) := by
  obtain ⟨a, cap, e, h1, h2, h3⟩ := h
  simp only [Value.slice.injEq] at e
  obtain ⟨rfl, -, rfl⟩ := e
  have hl : (xs.take k).length = k := by rw [List.length_take]; omega
  refine ⟨_, c, by rw [hl], by omega, h2, ?_⟩
  rcases h3 with ⟨h3, -⟩ | ⟨b, off, sp, h3, h4⟩
  · cases h3
  · refine .inr ⟨b, off, sp, h3, ?_⟩
    rcases h4 with rfl | ⟨h5, h6, h7⟩
    · exact .inl (by simp)
    · exact .inr ⟨h5, h6, fun i x hx j u hu => h7 i x (by
        rw [List.getElem?_take] at hx
        split at hx
        · exact hx
        · cases hx) j u hu⟩
theorem SlR.drops {α : Type} {sz : Nat} {C : α → List Value} {w : World} {g c : Nat} {xs : List α} (h : SlR sz C w (.slice (some ⟨g, 0, none⟩) xs.length c) xs) (k : Nat) (hk : k ≤ xs.length) : SlR sz C w (.slice (some ⟨g, k * sz, none⟩) (xs.length - k) (c - k)) (xs.drop k) := by
  obtain ⟨a, cap, e, h1, h2, h3⟩ := h
  simp only [Value.slice.injEq] at e
  obtain ⟨rfl, -, rfl⟩ := e
  have hl : (xs.drop k).length = xs.length - k := List.length_drop
  refine ⟨_, c - k, by rw [hl], by omega, Nat.le_trans (Nat.sub_le _ _) h2, ?_⟩
  rcases h3 with ⟨h3, -⟩ | ⟨b, off, sp, h3, h4⟩
  · cases h3
  · simp only [Option.some.injEq, Addr.mk.injEq] at h3
    obtain ⟨rfl, rfl, rfl⟩ := h3
    refine .inr ⟨g, k * sz, none, rfl, ?_⟩
    rcases h4 with rfl | ⟨h5, h6, h7⟩
    · exact .inl (by simp)
    · refine .inr ⟨rfl, h6, fun i x hx j u hu => ?_⟩
      rw [List.getElem?_drop] at hx
      have := h7 (k + i) x hx j u hu
      rw [Nat.zero_add, Nat.add_mul] at this
      rw [← this]
      congr 2
      omega
theorem SlR.none_left {α : Type} {sz : Nat} {C : α → List Value} (w : World) (g : Nat) : SlR sz C w (.slice (some ⟨g, 0, none⟩) 0 0) ([] : List α) := ⟨_, 0, rfl, Nat.le_refl _, Nat.zero_le _, .inr ⟨g, 0, none, rfl, .inl rfl⟩⟩
/-- what grows twice, the second time in a row that is new -/
theorem grown_two {a b c : World} {row : Option Nat} (h : a.grownBy b none) (g : b.grownBy c row) (hr : ∀ q, row = some q → a.heap.size ≤ q) : a.grownBy c none :=
  ⟨g.os.trans h.os, g.tape.trans h.tape, g.output.trans h.output, Nat.le_trans h.size g.size, fun k hk hn => by
    rw [g.block k (Nat.lt_of_lt_of_le hk h.size) (fun e => by have := hr k e.symm; omega)]
    exact h.block k hk (fun e => by cases e)⟩
end Go.Proofs.Ytgbblegcjladaaa
