/- What a command does to the rows of Held: ledger.execute. No condition but sizes. -/
import Derived.Test.YtgbblegcjladaaaLaF
import Derived.Lib.QuietBelow
namespace Go.Proofs.Ytgbblegcjladaaa
open Go.ChangeShapes Go.WideShapes Go.ChangeAt Go.RowKit Go.Lib
set_option linter.unusedVariables false
set_option maxRecDepth 100000
namespace La
open Ld Cm

theorem ans_store {w : World} {s : Nat} {p : Nat} {r : Led × Ans} {l : Led} {vh vh' vl : Value} {a : World} (hp : p ≠ s) (hX : Box w p r.1 vh' vl) (hF : Far p vh.ownBlock a w) (hs : a.heap.size ≤ s) (hO : ∀ g, vh'.ownBlock = some g → vh.ownBlock = some g ∨ s < g) (hvh : ∀ g, vh.ownBlock = some g → g < a.heap.size) (hvl : ∀ g, vl.ownBlock = some g → g < a.heap.size) :
    Execd p l r vh vl a (.returned (.agg #[.int .i64 r.2.code, .int .i64 r.2.token, .int .u64 r.2.serial])) (w.setRow s #[.int .i64 r.2.code, .int .i64 r.2.token, .int .u64 r.2.serial]) :=
  ⟨vh', rfl, hX.row hp (fun e => by
    rcases hO _ e with h | h
    · have := hvh _ h; omega
    · omega) (fun e => by have := hvl _ e; omega) _, hF.row hs _, fun g hg => (hO g hg).imp id (fun h => by omega)⟩
theorem exec_grant {l : Led} {i : Int} {c : Cmd} (h : c.kind = 3) : execL l i c = grantL l i c := by unfold execL; rw [if_pos h]
theorem exec_gone {l : Led} {i : Int} {c : Cmd} (h : c.kind ≠ 3) (hf : fitZ c l.held < 0) : execL l i c = (l, ⟨4, 0, 0⟩) := by
  unfold execL
  rw [if_neg h]
  unfold fitZ at hf
  split at hf
  · omega
  · rw [List.getElem?_eq_none (by omega)]
theorem exec_renew {l : Led} {i : Int} {c : Cmd} {x : Held} (h : c.kind = 4) (hx : l.held[fitAt c l.held]? = some x) : execL l i c = ({ l with held := l.held.set (fitAt c l.held) (restamp i x) }, ⟨3, 0, 0⟩) := by
  unfold execL
  rw [if_neg (by omega), hx]
  simp only [if_pos h]
theorem exec_free {l : Led} {i : Int} {c : Cmd} {x : Held} (h3 : c.kind ≠ 3) (h4 : c.kind ≠ 4) (hx : l.held[fitAt c l.held]? = some x) : execL l i c = ({ l with held := cutAt (fitAt c l.held) l.held }, ⟨5, 0, 0⟩) := by
  unfold execL
  rw [if_neg h3, hx]
  simp only [if_neg h4]
/-- one cell of a row's entry written: a Stamp -/
theorem stamped {w : World} {B g cap k : Nat} {xs : List Held} {x : Held} (h : OwnR 5 heldC 47 w B (.slice (some ⟨g, 0, none⟩) xs.length cap) xs) (hx : xs[k]? = some x) (i : Int) :
    OwnR 5 heldC 47 (w.setCell ⟨g, k * 5 + 4, none⟩ (.int .u64 i)) B (.slice (some ⟨g, 0, none⟩) xs.length cap) (xs.set k (restamp i x)) := by
  have hs := (World.ownsRow.stored h (k * 5 + 4) (.int .u64 i)).1
  have e : ∀ (l : List Held) (k : Nat) (x : Held), l[k]? = some x → (l.flatMap heldC).set (k * 5 + 4) (.int .u64 i) = (l.set k (restamp i x)).flatMap heldC := by
    intro l
    induction l with
    | nil => intro k x hx; simp at hx
    | cons y ys ih =>
      intro k x hx
      cases k with
      | zero =>
        simp only [List.getElem?_cons_zero, Option.some.injEq] at hx
        subst hx
        rw [List.flatMap_cons, List.set_append, if_pos (by rw [heldC_len]; omega), List.set_cons_zero, List.flatMap_cons]
        rfl
      | succ k =>
        rw [List.getElem?_cons_succ] at hx
        rw [List.flatMap_cons, List.set_append, if_neg (by rw [heldC_len]; omega), List.set_cons_succ, List.flatMap_cons, ← ih k x hx, heldC_len]
        congr 2
        omega
  unfold OwnR
  rw [List.length_set, ← e xs k x hx]
  exact hs
theorem fit_cases (c : Cmd) (xs : List Held) : (fitZ c xs = -1) ∨ ∃ x, xs[fitAt c xs]? = some x ∧ fitZ c xs = (fitAt c xs : Int) := by
  unfold fitZ
  split
  · exact .inr ⟨_, rgetD ‹_›, rfl⟩
  · exact .inl rfl

theorem Box.stamp {w : World} {p g cap k : Nat} {l : Led} {vl : Value} {x : Held} (h : Box w p l (.slice (some ⟨g, 0, none⟩) l.held.length cap) vl) (hx : l.held[k]? = some x) (i : Int) :
    Box (w.setCell ⟨g, k * 5 + 4, none⟩ (.int .u64 i)) p { l with held := l.held.set k (restamp i x) } (.slice (some ⟨g, 0, none⟩) l.held.length cap) vl := by
  have hg := (own_block h.held g rfl).1
  refine ⟨(heap_setCell_other _ _ _ _ (by show p ≠ g; omega)).trans h.box, ?_, own_keep h.last fun q hq => heap_setCell_other _ _ _ _ (fun e => h.apart g rfl (by rw [hq]; exact congrArg some e)), h.apart⟩
  exact stamped h.held hx i
theorem Far.cellR {p g : Nat} {r : Option Nat} {a w : World} (h : Far p r a w) (hr : r = some g) (j : Nat) (u : Value) : Far p r a (w.setCell ⟨g, j, none⟩ u) :=
  ⟨h.os, h.tape, h.output, by simpa using h.size, fun k hk h1 h2 => (heap_setCell_other w _ _ _ (fun e => h2 (by rw [hr]; exact congrArg some e))).trans (h.block k hk h1 h2)⟩
/-- behind a Delete, and its store -/
theorem Box.cut {W w4 : World} {p g cap k : Nat} {l : Led} {vl : Value} (h : Box W p l (.slice (some ⟨g, 0, none⟩) l.held.length cap) vl) (hk : k < l.held.length)
    (hown : OwnR 5 heldC 47 w4 (p + 1) (.slice (some ⟨g, 0, none⟩) (l.held.length - 1) cap) (cutAt k l.held)) (hgr : W.grownBy w4 (some g)) :
    Box (w4.setCell ⟨p, 2, none⟩ (.slice (some ⟨g, 0, none⟩) (l.held.length - 1) cap)) p { l with held := cutAt k l.held } (.slice (some ⟨g, 0, none⟩) (l.held.length - 1) cap) vl := by
  have hp := h.lt
  have hg := (own_block h.held g rfl).1
  have hbox := (hgr.block p hp (by simp; omega)).trans h.box
  refine ⟨store2 hbox _, own_keep hown fun q hq => ?_, own_keep h.last fun q hq => ?_, h.apart⟩
  · simp only [Value.ownBlock, Option.some.injEq] at hq
    subst hq
    exact heap_setCell_other _ _ _ _ (by show g ≠ p; omega)
  · have h1 := own_block h.last q hq
    exact (heap_setCell_other _ _ _ _ (by show q ≠ p; omega)).trans (hgr.block q h1.2 (fun e => h.apart g rfl (by rw [hq, e])))

end La
end Go.Proofs.Ytgbblegcjladaaa
