/- Rows stored whole; what a ledger with another list of last requests comes to. No condition. -/
import Derived.Test.YtgbblegcjladaaaLaG
import Derived.Test.YtgbblegcjladaaaLaD
import Derived.Lib.QuietBelow
namespace Go.Proofs.Ytgbblegcjladaaa
open Go.ChangeShapes Go.WideShapes Go.ChangeAt Go.RowKit Go.Lib
set_option linter.unusedVariables false
set_option maxRecDepth 100000
namespace La
open Ld Cm

def setsL : List Value → Nat → List Value → List Value
  | L, _, [] => L
  | L, o, v :: r => setsL (L.set o v) (o + 1) r
theorem sets_splice : ∀ (vs : List Value) (o : Nat) (L : List Value), o + vs.length ≤ L.length → setsL L o vs = splice L o vs
  | [], o, L, h => by simp [setsL, splice]
  | v :: r, o, L, h => by
    simp only [List.length_cons] at h
    rw [setsL, sets_splice r (o + 1) (L.set o v) (by rw [List.length_set]; omega)]
    unfold splice
    have e1 : (L.set o v).take (o + 1) = L.take o ++ [v] := by
      rw [List.take_succ_eq_append_getElem (by rw [List.length_set]; omega), List.getElem_set_self, List.take_set_of_le (Nat.le_refl _)]
    have e2 : (L.set o v).drop (o + 1 + r.length) = L.drop (o + 1 + r.length) := by rw [List.drop_set_of_lt (by omega)]
    rw [e1, e2, List.append_assoc, List.length_cons, show o + (r.length + 1) = o + 1 + r.length by omega]
    rfl
theorem stored_many {w : World} {base size g n cap : Nat} {e : TypeId} : ∀ (vs : List Value) (o : Nat) (w : World) (xs : List Value), w.ownsRow base e size (.slice (some ⟨g, 0, none⟩) n cap) n xs → (w.setCells g o vs).ownsRow base e size (.slice (some ⟨g, 0, none⟩) n cap) n (setsL xs o vs)
  | [], o, w, xs, h => h
  | v :: r, o, w, xs, h => stored_many (w := w) r (o + 1) _ _ (h.stored o v).1
theorem stored_last {w : World} {B g cap k : Nat} {xs : List LastR} (h : OwnR 6 lastC 103 w B (.slice (some ⟨g, 0, none⟩) xs.length cap) xs) (hk : k < xs.length) (r : LastR) :
    OwnR 6 lastC 103 (w.setCells g (k * 6) (lastC r)) B (.slice (some ⟨g, 0, none⟩) xs.length cap) (xs.set k r) := by
  have h1 := stored_many (w := w) (lastC r) (k * 6) _ _ h
  have e : setsL (xs.flatMap lastC) (k * 6) (lastC r) = (xs.set k r).flatMap lastC := by
    rw [sets_splice _ _ _ (by rw [lastC_len, flat_len lastC_len]; omega)]
    unfold splice
    rw [set_split r (rgetD hk), List.flatMap_append, List.flatMap_cons, ← Il.flat_take, ← Il.flat_drop, lastC_len, show k * 6 + 6 = (k + 1) * 6 by omega]
  unfold OwnR
  rw [List.length_set, ← e]
  exact h1
theorem frozen_own {w : World} {B g cap o : Nat} {xs : List LastR} (h : OwnR 6 lastC 103 w B (.slice (some ⟨g, 0, none⟩) xs.length cap) xs) : w.frozen? ⟨g, o, none⟩ = false := h.frozenAt _
theorem cells_own {w : World} {B g cap k : Nat} {xs : List LastR} {x : LastR} (h : OwnR 6 lastC 103 w B (.slice (some ⟨g, 0, none⟩) xs.length cap) xs) (hx : xs[k]? = some x) :
    w.cell? ⟨g, k * 6, none⟩ = some (.int .i64 x.node) ∧ w.cell? ⟨g, k * 6 + 1, none⟩ = some (.int .u64 x.boot) ∧ w.cell? ⟨g, k * 6 + 2, none⟩ = some (.int .u64 x.seq) ∧ w.cell? ⟨g, k * 6 + 3, none⟩ = some (.int .i64 x.code) ∧ w.cell? ⟨g, k * 6 + 4, none⟩ = some (.int .i64 x.token) ∧ w.cell? ⟨g, k * 6 + 5, none⟩ = some (.int .u64 x.serial) := by
  have hc : ∀ j u, (lastC x)[j]? = some u → w.cell? ⟨g, k * 6 + j, none⟩ = some u := fun j u hu => by
    have := World.ownsRow.cells h (g := g) rfl (k * 6 + j) u (flat_at lastC_len xs k j x u hx hu)
    rw [add_plain, Nat.zero_add] at this
    exact this
  exact ⟨hc 0 _ rfl, hc 1 _ rfl, hc 2 _ rfl, hc 3 _ rfl, hc 4 _ rfl, hc 5 _ rfl⟩

/-! ### Held does not ask for Last -/
theorem exec_with (l : Led) (i : Int) (c : Cmd) (X : List LastR) : execL { l with last := X } i c = ({ (execL l i c).1 with last := X }, (execL l i c).2) := by
  by_cases h3 : c.kind = 3
  · unfold execL
    rw [if_pos h3, if_pos h3]
    unfold grantL full newRow
    split <;> rfl
  · cases hx : l.held[fitAt c l.held]? with
    | none =>
      unfold execL
      rw [if_neg h3, if_neg h3, hx]
    | some x =>
      unfold execL
      rw [if_neg h3, if_neg h3, hx]
      by_cases h4 : c.kind = 4
      · simp only [if_pos h4]
      · simp only [if_neg h4]
theorem sl_nil_any {k : IntKind} {w W : World} {v : Value} (h : Sl k w v []) : Sl k W v [] := by
  obtain ⟨a, cap, e, h1, h2, h3, h4⟩ := h
  exact ⟨a, cap, e, h1, h2, h3, h4.imp id fun ⟨b, off, sp, ha, _⟩ => ⟨b, off, sp, ha, .inl rfl⟩⟩
theorem cmd_any {w W : World} {v : Value} {c : Cmd} (h : IsCmd w v c) (hn : c.nodes = []) : IsCmd W v c := by
  obtain ⟨vn, e, h1, h2⟩ := h
  refine ⟨vn, e, ?_, h2⟩
  rw [hn] at h1 ⊢
  exact sl_nil_any h1
theorem Box.lastput {W w4 : World} {p q cap n : Nat} {l : Led} {vh vl : Value} {X : List LastR} (h : Box W p l vh vl)
    (hown : OwnR 6 lastC 103 w4 (p + 1) (.slice (some ⟨q, 0, none⟩) n cap) X) (hgr : W.grownBy w4 vl.ownBlock) (hat : vl.ownBlock = some q ∨ W.heap.size ≤ q) :
    Box (w4.setCell ⟨p, 3, none⟩ (.slice (some ⟨q, 0, none⟩) n cap)) p { l with last := X } vh (.slice (some ⟨q, 0, none⟩) n cap) := by
  have hp := h.lt
  have hne : ∀ k, vl.ownBlock = some k → p + 1 ≤ k := fun k hk => (own_block h.last k hk).1
  have hbox := (hgr.block p hp (fun e => by have := hne p e.symm; omega)).trans h.box
  have hq : p + 1 ≤ q := (own_block hown q rfl).1
  refine ⟨store3 hbox _, own_keep h.held fun g hg => ?_, own_keep hown fun g hg => ?_, fun g hg e => ?_⟩
  · have h1 := own_block h.held g hg
    exact (heap_setCell_other _ _ _ _ (by show g ≠ p; omega)).trans (hgr.block g h1.2 (fun e => h.apart g hg e.symm))
  · simp only [Value.ownBlock, Option.some.injEq] at hg
    subst hg
    exact heap_setCell_other _ _ _ _ (by show q ≠ p; omega)
  · simp only [Value.ownBlock, Option.some.injEq] at e
    subst e
    have h1 := own_block h.held q hg
    rcases hat with h2 | h2
    · exact h.apart q hg h2
    · omega
theorem Box.lastset {w : World} {p g cap k n : Nat} {l : Led} {vh : Value} {X : List LastR} (h : Box w p { l with last := X } vh (.slice (some ⟨g, 0, none⟩) n cap)) (hn : n = X.length) (hk : k < X.length) (r : LastR) :
    Box (w.setCells g (k * 6) (lastC r)) p { l with last := X.set k r } vh (.slice (some ⟨g, 0, none⟩) n cap) := by
  subst hn
  have hg := (own_block h.last g rfl).1
  have hgr : ∀ (vs : List Value) (o : Nat) (w : World) (q : Nat), q ≠ g → (w.setCells g o vs).heap[q]? = w.heap[q]? := by
    intro vs
    induction vs with
    | nil => intro o w q hq; rfl
    | cons v r ih => intro o w q hq; exact (ih (o + 1) _ q hq).trans (heap_setCell_other _ _ _ _ (by show q ≠ g; exact hq))
  refine ⟨(hgr _ _ _ _ (by omega)).trans h.box, own_keep h.held fun q hq => hgr _ _ _ _ (fun e => h.apart q hq (by rw [e]; rfl)), stored_last h.last hk r, h.apart⟩
/-- but for a box and two rows, and what is new, all is as it was -/
structure Wid (p : Nat) (a b : Option Nat) (w w' : World) : Prop where
  os : w'.os = w.os
  tape : w'.tape = w.tape
  output : w'.output = w.output
  size : w.heap.size ≤ w'.heap.size
  block : ∀ k, k < w.heap.size → k ≠ p → some k ≠ a → some k ≠ b → w'.heap[k]? = w.heap[k]?
theorem Wid.trans {p : Nat} {a b : Option Nat} {x y z : World} (h : Wid p a b x y) (g : Wid p a b y z) : Wid p a b x z :=
  ⟨g.os.trans h.os, g.tape.trans h.tape, g.output.trans h.output, Nat.le_trans h.size g.size, fun k hk h1 h2 h3 => (g.block k (Nat.lt_of_lt_of_le hk h.size) h1 h2 h3).trans (h.block k hk h1 h2 h3)⟩
theorem Wid.of_below {p : Nat} {a b : Option Nat} {w w' : World} (h : Below w.heap.size w w') : Wid p a b w w' := ⟨h.os, h.tape, h.output, h.size, fun k hk _ _ _ => h.block k hk⟩
theorem Wid.of_far {p : Nat} {a b : Option Nat} {w w' : World} (h : Far p a w w') : Wid p a b w w' := ⟨h.os, h.tape, h.output, h.size, fun k hk h1 h2 _ => h.block k hk h1 h2⟩
theorem Wid.of_grown {p : Nat} {a b : Option Nat} {w w' : World} (h : w.grownBy w' b) : Wid p a b w w' := ⟨h.os, h.tape, h.output, h.size, fun k hk _ _ h3 => h.block k hk h3⟩
theorem Wid.setCell {p : Nat} {a b : Option Nat} {x w : World} (h : Wid p a b x w) (j : Nat) (u : Value) : Wid p a b x (w.setCell ⟨p, j, none⟩ u) :=
  ⟨h.os, h.tape, h.output, by simpa using h.size, fun k hk h1 h2 h3 => (heap_setCell_other w _ _ _ (fun e => h1 e)).trans (h.block k hk h1 h2 h3)⟩
theorem Wid.row {p s : Nat} {a b : Option Nat} {x w : World} (h : Wid p a b x w) (hs : x.heap.size ≤ s) (cs : Array Value) : Wid p a b x (w.setRow s cs) :=
  ⟨h.os, h.tape, h.output, by simpa using h.size, fun k hk h1 h2 h3 => (setRow_other _ _ _ _ (by omega)).trans (h.block k hk h1 h2 h3)⟩
theorem Wid.below {p : Nat} {a b : Option Nat} {w w' : World} (h : Wid p a b w w') (ha : ∀ k, a = some k → p ≤ k) (hb : ∀ k, b = some k → p ≤ k) {B : Nat} (hB : B ≤ p) (hs : B ≤ w.heap.size) : Below B w w' :=
  ⟨h.os, h.tape, h.output, h.size, fun k hk => h.block k (by omega) (by omega) (fun e => by have := ha k e.symm; omega) (fun e => by have := hb k e.symm; omega)⟩
/-- what once hands back -/
def Onced (p : Nat) (vh vl : Value) (r : Led × Ans) (w : World) (e : Ending) (w' : World) : Prop :=
  ∃ vh' vl', e = .returned (.agg #[.int .i64 r.2.code, .int .i64 r.2.token, .int .u64 r.2.serial]) ∧ Box w' p r.1 vh' vl' ∧ Wid p vh.ownBlock vl.ownBlock w w' ∧ (∀ g, vh'.ownBlock = some g → vh.ownBlock = some g ∨ w.heap.size ≤ g) ∧ ∀ g, vl'.ownBlock = some g → vl.ownBlock = some g ∨ w.heap.size ≤ g
end La
end Go.Proofs.Ytgbblegcjladaaa
