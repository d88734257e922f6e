/- A token granted: ledger.grant, on a ledger in a box whose rows are the call's own. No condition but sizes. -/
import Derived.Test.YtgbblegcjladaaaLaE
import Derived.Test.YtgbblegcjladaaaLcM
import Derived.Test.YtgbblegcjladaaaIns
import Derived.Deep.RegionHeldLaw
import Derived.Deep.CutRange
import Derived.Deep.DeepCutAuto
namespace Go.Proofs.Ytgbblegcjladaaa
open Go.ChangeShapes Go.WideShapes Go.ChangeAt Go.RowKit
set_option linter.unusedVariables false
set_option maxRecDepth 100000
namespace La
open Ld Cm

/-- a ledger in the box p, its rows behind it, each the call's own, apart -/
structure Box (w : World) (p : Nat) (l : Led) (vh vl : Value) : Prop where
  box : w.heap[p]? = some (.cells (lArr l vh vl) 35 (0, 0))
  held : OwnR 5 heldC 47 w (p + 1) vh l.held
  last : OwnR 6 lastC 103 w (p + 1) vl l.last
  apart : ∀ k, vh.ownBlock = some k → vl.ownBlock ≠ some k
/-- but for a box and a row, and what is new, all is as it was -/
structure Far (p : Nat) (r : Option Nat) (w w' : World) : Prop where
  os : w'.os = w.os
  tape : w'.tape = w.tape
  output : w'.output = w.output
  size : w.heap.size ≤ w'.heap.size
  block : ∀ k, k < w.heap.size → k ≠ p → some k ≠ r → w'.heap[k]? = w.heap[k]?
theorem Far.refl (p : Nat) (r : Option Nat) (w : World) : Far p r w w := ⟨rfl, rfl, rfl, Nat.le_refl _, fun _ _ _ _ => rfl⟩
theorem Far.trans {p : Nat} {r : Option Nat} {a b c : World} (h : Far p r a b) (g : Far p r b c) : Far p r a c :=
  ⟨g.os.trans h.os, g.tape.trans h.tape, g.output.trans h.output, Nat.le_trans h.size g.size, fun k hk h1 h2 => (g.block k (Nat.lt_of_lt_of_le hk h.size) h1 h2).trans (h.block k hk h1 h2)⟩
theorem Far.of_below {p : Nat} {r : Option Nat} {w w' : World} (h : Below w.heap.size w w') : Far p r w w' := ⟨h.os, h.tape, h.output, h.size, fun k hk _ _ => h.block k hk⟩
theorem Far.of_grown {p : Nat} {r : Option Nat} {w w' : World} (h : w.grownBy w' r) : Far p r w w' := ⟨h.os, h.tape, h.output, h.size, fun k hk _ h2 => h.block k hk h2⟩
theorem Far.setCell {p : Nat} {r : Option Nat} {a w : World} (h : Far p r a w) (j : Nat) (u : Value) : Far p r a (w.setCell ⟨p, j, none⟩ u) :=
  ⟨h.os, h.tape, h.output, by simpa using h.size, fun k hk h1 h2 => (heap_setCell_other w _ _ _ (fun e => h1 e)).trans (h.block k hk h1 h2)⟩
theorem Far.alloc {p : Nat} {r : Option Nat} {a w : World} (h : Far p r a w) (o : Obj) : Far p r a (w.alloc o) :=
  ⟨h.os, h.tape, h.output, by have := h.size; simp; omega, fun k hk h1 h2 => (heap_alloc_old w o (Nat.lt_of_lt_of_le hk h.size)).trans (h.block k hk h1 h2)⟩
theorem Far.below {p : Nat} {r : Option Nat} {w w' : World} (h : Far p r w w') (hr : ∀ k, r = some k → p ≤ k) {B : Nat} (hB : B ≤ p) (hs : B ≤ w.heap.size) : Below B w w' :=
  ⟨h.os, h.tape, h.output, h.size, fun k hk => h.block k (by omega) (by omega) (fun e => by have := hr k e.symm; omega)⟩
theorem own_block {sz : Nat} {α : Type} {C : α → List Value} {e : TypeId} {w : World} {B : Nat} {v : Value} {xs : List α} (h : OwnR sz C e w B v xs) : ∀ k, v.ownBlock = some k → B ≤ k ∧ k < w.heap.size := World.ownsRow.lt h
/-- a row of the call's own where its block stands -/
theorem own_keep {sz : Nat} {α : Type} {C : α → List Value} {e : TypeId} {w w' : World} {B : Nat} {v : Value} {xs : List α} (h : OwnR sz C e w B v xs) (hb : ∀ k, v.ownBlock = some k → w'.heap[k]? = w.heap[k]?) : OwnR sz C e w' B v xs := by
  refine ⟨h.1, ?_⟩
  rcases h.2 with h2 | ⟨g, cap, cur, rfl, h3, h4, h5⟩
  · exact .inl h2
  · exact .inr ⟨g, cap, cur, rfl, h3, (hb g rfl).trans h4, h5⟩
theorem Box.below {w w' : World} {p : Nat} {l : Led} {vh vl : Value} (h : Box w p l vh vl) (hb : Below w.heap.size w w') : Box w' p l vh vl :=
  ⟨(hb.block p ((Array.getElem?_eq_some_iff.1 h.box).1)).trans h.box, own_keep h.held fun k hk => hb.block k (own_block h.held k hk).2, own_keep h.last fun k hk => hb.block k (own_block h.last k hk).2, h.apart⟩
theorem Box.drew {w : World} {p : Nat} {l : Led} {vh vl : Value} (h : Box w p l vh vl) : Box w.drew p l vh vl := ⟨h.box, h.held, h.last, h.apart⟩
theorem Box.lt {w : World} {p : Nat} {l : Led} {vh vl : Value} (h : Box w p l vh vl) : p < w.heap.size := (Array.getElem?_eq_some_iff.1 h.box).1

/-- what a call that changes the rows of Held hands back -/
def Execd (p : Nat) (l : Led) (r : Led × Ans) (vh vl : Value) (w : World) (e : Ending) (w' : World) : Prop :=
  ∃ vh', e = .returned (.agg #[.int .i64 r.2.code, .int .i64 r.2.token, .int .u64 r.2.serial]) ∧ Box w' p r.1 vh' vl ∧ Far p vh.ownBlock w w' ∧ ∀ g, vh'.ownBlock = some g → vh.ownBlock = some g ∨ w.heap.size ≤ g

theorem gap_none {xs : List Held} {k : Nat} (hk : k ≤ xs.length) (h : ∀ j x, j < k → xs[j]? = some x → x.token = (j : Int) + 1) (h2 : ∀ x, xs[k]? = some x → x.token ≠ (k : Int) + 1) : gap 0 xs = k := by
  rcases Nat.lt_trichotomy (gap 0 xs) k with h3 | h3 | h3
  · have := h _ _ h3 (rgetD (by omega : gap 0 xs < xs.length))
    have := gap_at xs 0 _ (rgetD (by omega : gap 0 xs < xs.length))
    omega
  · exact h3
  · have hl := gap_le xs 0
    have := gap_before xs 0 k _ h3 (rgetD (by omega : k < xs.length))
    have := h2 _ (rgetD (by omega : k < xs.length))
    omega

theorem grant_full {l : Led} {i : Int} {c : Cmd} (h : full l = true) : grantL l i c = (l, ⟨2, 0, 0⟩) := by unfold grantL; rw [if_pos h]
theorem grant_new {l : Led} {i : Int} {c : Cmd} (h : full l = false) : grantL l i c = ({ l with held := putAt (gap 0 l.held) (newRow l i c) l.held, next := l.next + 1 }, ⟨1, (gap 0 l.held : Int) + 1, l.next⟩) := by unfold grantL; rw [if_neg (by rw [h]; simp)]
/-- a row put into Held, its literal laid behind -/
def PutH (p : Nat) (l : Led) (vh : Value) (k : Nat) (x : Held) (W : World) (e : Ending) (w' : World) : Prop :=
  ∃ q cap, e = .returned (.slice (some ⟨q, 0, none⟩) (l.held.length + 1) cap) ∧ OwnR 5 heldC 47 w' (p + 1) (.slice (some ⟨q, 0, none⟩) (l.held.length + 1) cap) (putAt k x l.held) ∧ (W.alloc (.cells (hA x) 47)).grownBy w' vh.ownBlock ∧ (vh.ownBlock = some q ∨ W.heap.size + 1 ≤ q)
theorem sg_of {W : World} {p g : Nat} {l : Led} {vh vl : Value} {x : Held} (h : W.heap[p]? = some (.cells (lArr l vh vl) 35 (0, 0))) (hr : W.heap[g]? = some (.cells (hA x) 47 (0, 0))) :
    W.cell? ⟨p, 2, none⟩ = some vh ∧ W.heap[g]? = some (.cells (hA x) 47 (0, 0)) ∧ W.cell? ⟨g, 0, none⟩ = some (.int .i64 x.token) ∧ W.cell? ⟨g, 1, none⟩ = some (.int .i64 x.node) ∧ W.cell? ⟨g, 2, none⟩ = some (.int .u64 x.boot) ∧ W.cell? ⟨g, 3, none⟩ = some (.int .u64 x.serial) ∧ W.cell? ⟨g, 4, none⟩ = some (.int .u64 x.stamp) :=
  ⟨(cell_of_row W _ 2 _ _ _ h).trans rfl, hr, (cell_of_row W _ 0 _ _ _ hr).trans rfl, (cell_of_row W _ 1 _ _ _ hr).trans rfl, (cell_of_row W _ 2 _ _ _ hr).trans rfl, (cell_of_row W _ 3 _ _ _ hr).trans rfl, (cell_of_row W _ 4 _ _ _ hr).trans rfl⟩
/-- behind the store of the new row of Held -/
def PutDone (W : World) (p : Nat) (l : Led) (vh vl : Value) (k : Nat) (x : Held) (wx : World) : Prop := ∃ vh', Box wx p { l with held := putAt k x l.held } vh' vl ∧ Far p vh.ownBlock W wx ∧ ∀ g, vh'.ownBlock = some g → vh.ownBlock = some g ∨ W.heap.size ≤ g
theorem put_done {W w4 : World} {p : Nat} {l : Led} {vh vl : Value} {k q cap : Nat} {x : Held} (h : Box W p l vh vl) (hk : k ≤ l.held.length)
    (hown : OwnR 5 heldC 47 w4 (p + 1) (.slice (some ⟨q, 0, none⟩) (l.held.length + 1) cap) (putAt k x l.held)) (hgr : (W.drew.alloc (.cells (hA x) 47)).grownBy w4 vh.ownBlock) (hat : vh.ownBlock = some q ∨ W.drew.heap.size + 1 ≤ q) :
    PutDone W p l vh vl k x (w4.setCell ⟨p, 2, none⟩ (.slice (some ⟨q, 0, none⟩) (l.held.length + 1) cap)) := by
  have hp := h.lt
  have hne : ∀ k, vh.ownBlock = some k → p + 1 ≤ k := fun k hk => (own_block h.held k hk).1
  have hold : ∀ g, g < W.heap.size → some g ≠ vh.ownBlock → w4.heap[g]? = W.heap[g]? := fun g hg hn => (hgr.block g (by simp; omega) hn).trans (heap_alloc_old W.drew _ hg)
  have hbox := (hold p hp (fun e => by have := hne p e.symm; omega)).trans h.box
  have hq : p + 1 ≤ q := (own_block hown q rfl).1
  refine ⟨_, ⟨store2 hbox _, own_keep hown fun g hg => ?_, own_keep h.last fun g hg => ?_, fun g hg e => ?_⟩, ?_⟩
  · simp only [Value.ownBlock, Option.some.injEq] at hg
    subst hg
    exact heap_setCell_other _ _ _ _ (by show q ≠ p; omega)
  · have h1 := own_block h.last g hg
    exact (heap_setCell_other _ _ _ _ (by show g ≠ p; omega)).trans (hold g h1.2 (fun e => h.apart g e.symm hg))
  · simp only [Value.ownBlock, Option.some.injEq] at hg
    subst hg
    have h1 := own_block h.last q e
    rcases hat with h2 | h2
    · exact h.apart q h2 e
    · have h3 : W.heap.size + 1 ≤ q := h2
      omega
  · have h0 : Far p vh.ownBlock W (W.drew.alloc (.cells (hA x) 47)) := ⟨rfl, rfl, rfl, by simp, fun g hg _ _ => heap_alloc_old W.drew _ hg⟩
    refine ⟨(h0.trans (Far.of_grown hgr)).setCell _ _, fun g hg => ?_⟩
    simp only [Value.ownBlock, Option.some.injEq] at hg
    subst hg
    rcases hat with h2 | h2
    · exact .inl h2
    · right
      have h3 : W.heap.size + 1 ≤ q := h2
      omega
theorem Box.next {w : World} {p : Nat} {l : Led} {vh vl : Value} (h : Box w p l vh vl) (n : Int) : Box (w.setCell ⟨p, 1, none⟩ (.int .u64 n)) p { l with next := n } vh vl :=
  ⟨by rw [heap_setCell_same w p 1 _ _ _ h.box]; rfl, own_keep h.held fun k hk => heap_setCell_other _ _ _ _ (by have := (own_block h.held k hk).1; show k ≠ p; omega), own_keep h.last fun k hk => heap_setCell_other _ _ _ _ (by have := (own_block h.last k hk).1; show k ≠ p; omega), h.apart⟩
theorem Box.row {w : World} {p s : Nat} {l : Led} {vh vl : Value} (h : Box w p l vh vl) (hp : p ≠ s) (hh : vh.ownBlock ≠ some s) (hl : vl.ownBlock ≠ some s) (cs : Array Value) : Box (w.setRow s cs) p l vh vl :=
  ⟨(setRow_other _ _ _ _ hp).trans h.box, own_keep h.held fun k hk => setRow_other _ _ _ _ (fun e => hh (by rw [hk, e])), own_keep h.last fun k hk => setRow_other _ _ _ _ (fun e => hl (by rw [hk, e])), h.apart⟩
theorem Far.row {p s : Nat} {r : Option Nat} {a w : World} (h : Far p r a w) (hs : a.heap.size ≤ s) (cs : Array Value) : Far p r a (w.setRow s cs) :=
  ⟨h.os, h.tape, h.output, by simpa using h.size, fun k hk h1 h2 => (setRow_other _ _ _ _ (by omega)).trans (h.block k hk h1 h2)⟩
theorem ans_one (a b c : Int) : (#[.int .i64 a, .int .i64 b, .int .u64 c] : Array Value).all (·.oneCell') = true := by simp [Value.oneCell']
/-- what a ledger must be for its rows of Held to be changed -/
def Fit (l : Led) : Prop := 1 ≤ l.limit ∧ l.limit ≤ 65535 ∧ l.held.length ≤ 64 ∧ (Lit.int .u64 l.next).wf = true
end La
end Go.Proofs.Ytgbblegcjladaaa
