/- Which ledgers may be: what is asked of each row; small functions. No condition. Which answers a ledger may have given: the package's and the document's. No condition. Whether the rows that are held may be: ledger.heldFits. No condition. Whether the last answers may be: ledger.lastFits. No condition. Which ledgers may be: ledger.Check. No condition. Copies of a ledger, and whether two are the same where both are. No condition. -/
import Derived.Test.YtgbblegcjladaaaLdB
import Derived.BigRegion
import Derived.Deep.RegionWith
namespace Go.Proofs.Ytgbblegcjladaaa
open Go.ChangeShapes Go.WideShapes Go.ChangeAt Go.RowKit
set_option linter.unusedVariables false
set_option maxRecDepth 100000
namespace Ld
/-- the cells behind an index -/
theorem rows_open {α : Type} {sz : Nat} {C : α → List Value} {w : World} {a : Option Addr} {cap : Nat} {xs : List α} {k : Nat} (hk : k < xs.length)
    (h4 : (a = none ∧ cap = 0 ∧ xs = []) ∨ ∃ b off sp, a = some ⟨b, off, sp⟩ ∧ (xs = [] ∨ (sp = none ∧ b < w.heap.size ∧ ∀ i x, xs[i]? = some x → ∀ j u, (C x)[j]? = some u → w.cell? ⟨b, off + (i * sz + j), none⟩ = some u))) :
    ∃ b off, a = some ⟨b, off, none⟩ ∧ b < w.heap.size ∧ ∀ i x, xs[i]? = some x → ∀ j u, (C x)[j]? = some u → w.cell? ⟨b, off + (i * sz + j), none⟩ = some u := by
  rcases h4 with ⟨_, _, rfl⟩ | ⟨b, off, sp, rfl, rfl | ⟨rfl, hlt, hc⟩⟩
  · simp at hk
  · simp at hk
  · exact ⟨b, off, rfl, hlt, hc⟩
theorem last_cells {w : World} {b off k : Nat} {x : LastR} (h : ∀ j u, (lastC x)[j]? = some u → w.cell? ⟨b, off + (k * 6 + j), none⟩ = some u) :
    w.cell? ⟨b, off + k * 6, none⟩ = some (.int .i64 x.node) ∧ w.cell? ⟨b, off + k * 6 + 1, none⟩ = some (.int .u64 x.boot) ∧ w.cell? ⟨b, off + k * 6 + 2, none⟩ = some (.int .u64 x.seq) ∧ w.cell? ⟨b, off + k * 6 + 3, none⟩ = some (.int .i64 x.code) ∧ w.cell? ⟨b, off + k * 6 + 4, none⟩ = some (.int .i64 x.token) ∧ w.cell? ⟨b, off + k * 6 + 5, none⟩ = some (.int .u64 x.serial) := by
  have h0 := h 0 _ rfl; have h1 := h 1 _ rfl; have h2 := h 2 _ rfl; have h3 := h 3 _ rfl; have h4 := h 4 _ rfl; have h5 := h 5 _ rfl
  simp only [← Nat.add_assoc, Nat.add_zero] at h0 h1 h2 h3 h4 h5
  exact ⟨h0, h1, h2, h3, h4, h5⟩
/-- the box of a ledger in a later world -/
theorem box_cells {w wr : World} {l : Led} {vh vl : Value} (hb : Below (w.heap.size + 1) (w.alloc (.cells (lArr l vh vl) 35)) wr) :
    wr.cell? ⟨w.heap.size, 0, none⟩ = some (.int .i64 l.limit) ∧ wr.cell? ⟨w.heap.size, 1, none⟩ = some (.int .u64 l.next) ∧ wr.cell? ⟨w.heap.size, 2, none⟩ = some vh ∧ wr.cell? ⟨w.heap.size, 3, none⟩ = some vl := by
  have h := (hb.block w.heap.size (by omega)).trans (heap_alloc_new _ _)
  exact ⟨(cell_of_row wr _ 0 _ _ _ h).trans rfl, (cell_of_row wr _ 1 _ _ _ h).trans rfl, (cell_of_row wr _ 2 _ _ _ h).trans rfl, (cell_of_row wr _ 3 _ _ _ h).trans rfl⟩
/-- from behind the box to ahead of it -/
theorem box_below {w wr : World} {o : Obj} (hb : Below (w.heap.size + 1) (w.alloc o) wr) : Below w.heap.size w wr :=
  ((Below.refl _ _).alloc (Nat.le_refl _) _).trans (hb.mono (by omega))

def bef (xs : List Held) : Int := (xs.getLast?.map Held.token).getD 0
theorem bef_nil : bef [] = 0 := rfl
theorem bef_snoc (xs : List Held) (x : Held) : bef (xs ++ [x]) = x.token := by simp [bef]
def befL (xs : List LastR) : Int := (xs.getLast?.map LastR.node).getD 0
theorem befL_nil : befL [] = 0 := rfl
theorem befL_snoc (xs : List LastR) (x : LastR) : befL (xs ++ [x]) = x.node := by simp [befL]
def rowOk (L N bf : Int) (pre : List Held) (x : Held) : Prop :=
  bf < x.token ∧ x.token ≤ L ∧ 1 ≤ x.node ∧ x.node ≤ 7 ∧ x.boot ≠ 0 ∧ x.stamp ≠ 0 ∧ x.serial ≠ 0 ∧ x.serial < N ∧ ∀ y ∈ pre, y.serial ≠ x.serial
def ansOk (L N code token serial : Int) : Prop :=
  (code = 1 ∧ 1 ≤ token ∧ token ≤ L ∧ 1 ≤ serial ∧ serial < N) ∨ (2 ≤ code ∧ code ≤ 5 ∧ token = 0 ∧ serial = 0)
def lastOk (L N bf : Int) (x : LastR) : Prop := bf < x.node ∧ 1 ≤ x.node ∧ x.node ≤ 7 ∧ x.boot ≠ 0 ∧ x.seq ≠ 0 ∧ ansOk L N x.code x.token x.serial
def heldUp (l : Led) (k : Nat) : Prop := ∀ j y, j < k → l.held[j]? = some y → rowOk l.limit l.next (bef (l.held.take j)) (l.held.take j) y
def lastUp (l : Led) (k : Nat) : Prop := ∀ j y, j < k → l.last[j]? = some y → lastOk l.limit l.next (befL (l.last.take j)) y
def heldOk (l : Led) : Prop := l.held.length ≤ 64 ∧ heldUp l l.held.length
def lastsOk (l : Led) : Prop := lastUp l l.last.length
def ledOk (l : Led) : Prop := 1 ≤ l.limit ∧ l.limit ≤ 65535 ∧ l.next ≠ 0 ∧ heldOk l ∧ lastsOk l
theorem heldUp_zero (l : Led) : heldUp l 0 := fun j y hj => absurd hj (Nat.not_lt_zero _)
theorem lastUp_zero (l : Led) : lastUp l 0 := fun j y hj => absurd hj (Nat.not_lt_zero _)
theorem heldUp_succ {l : Led} {k : Nat} {x : Held} (h : heldUp l k) (hx : l.held[k]? = some x) (hr : rowOk l.limit l.next (bef (l.held.take k)) (l.held.take k) x) : heldUp l (k + 1) := by
  intro j y hj hy
  rcases Nat.lt_or_ge j k with h1 | h1
  · exact h j y h1 hy
  · obtain rfl : j = k := by omega
    rw [hx] at hy
    cases hy
    exact hr
theorem lastUp_succ {l : Led} {k : Nat} {x : LastR} (h : lastUp l k) (hx : l.last[k]? = some x) (hr : lastOk l.limit l.next (befL (l.last.take k)) x) : lastUp l (k + 1) := by
  intro j y hj hy
  rcases Nat.lt_or_ge j k with h1 | h1
  · exact h j y h1 hy
  · obtain rfl : j = k := by omega
    rw [hx] at hy
    cases hy
    exact hr
theorem u64_nonneg {n : Int} (h : (Lit.int .u64 n).wf = true) : 0 ≤ n := by
  simp [Lit.wf, IntKind.min, IntKind.max, IntKind.signed, IntKind.bits] at h
  omega

end Ld
end Go.Proofs.Ytgbblegcjladaaa
namespace Go.Proofs.Ytgbblegcjladaaa
open Go.ChangeShapes Go.WideShapes Go.ChangeAt Go.RowKit
set_option linter.unusedVariables false
set_option maxRecDepth 100000
namespace Ld
abbrev aArr (c t s : Int) : Array Value := #[.int .i64 c, .int .i64 t, .int .u64 s]
def SaysA (l : Led) (c t s : Int) (w : World) (e : Ending) (w' : World) : Prop := ∃ b, e = .returned (.bool b) ∧ (b = true ↔ ansOk l.limit l.next c t s) ∧ Below w.heap.size w w'
theorem says_no {l : Led} {c t s : Int} (h : ¬ ansOk l.limit l.next c t s) {w w' : World} (hb : Below w.heap.size w w') : SaysA l c t s w (.returned (.bool false)) w' := ⟨_, rfl, ⟨fun h => (by cases h), fun h2 => absurd h2 h⟩, hb⟩
theorem says_yes {l : Led} {c t s : Int} (h : ansOk l.limit l.next c t s) {w w' : World} (hb : Below w.heap.size w w') : SaysA l c t s w (.returned (.bool true)) w' := ⟨_, rfl, ⟨fun _ => h, fun _ => rfl⟩, hb⟩
theorem says_as {l : Led} {c t s : Int} {b : Bool} (h : b = true ↔ ansOk l.limit l.next c t s) {w w' : World} (hb : Below w.heap.size w w') : SaysA l c t s w (.returned (.bool b)) w' := ⟨_, rfl, h, hb⟩

set_option maxHeartbeats 2000000 in
theorem answer_any (l : Led) (vh vl : Value) (c t s : Int) (w : World) (hs : 0 ≤ s) :
    Calls Try.prog 44 #[.agg (lArr l vh vl), .agg (aArr c t s)] w (SaysA l c t s w) := by
  have hb0 : ∀ A B, Below w.heap.size w ((w.alloc (.cells A 35)).alloc (.cells B 60)) := fun A B => ((Below.refl _ _).alloc (Nat.le_refl _) _).alloc (by simp) _
  have HB := Lib.hid hb0
  clear hb0
  by_cases h1 : c = 1
  · subst h1
    by_cases g1 : 1 ≤ t
    · by_cases g2 : t ≤ l.limit
      · by_cases g3 : 1 ≤ s
        · have HE : Hid (decide (s < l.next) = true ↔ ansOk l.limit l.next 1 t s) := Lib.hid (by unfold ansOk; simp; omega)
          go_enter Try.func44, Try.ntmps44
          go_wp2
          go_ret
          exact says_as HE.out (HB.out _ _)
        · have HE : Hid (¬ ansOk l.limit l.next 1 t s) := Lib.hid (by unfold ansOk; omega)
          have g4 : s < 1 := by omega
          clear g3
          go_enter Try.func44, Try.ntmps44
          go_wp2
          go_ret
          exact says_no HE.out (HB.out _ _)
      · have HE : Hid (¬ ansOk l.limit l.next 1 t s) := Lib.hid (by unfold ansOk; omega)
        have g4 : l.limit < t := by omega
        clear g2
        go_enter Try.func44, Try.ntmps44
        go_wp2
        go_ret
        exact says_no HE.out (HB.out _ _)
    · have HE : Hid (¬ ansOk l.limit l.next 1 t s) := Lib.hid (by unfold ansOk; omega)
      have g4 : t < 1 := by omega
      clear g1
      go_enter Try.func44, Try.ntmps44
      go_wp2
      go_ret
      exact says_no HE.out (HB.out _ _)
  · by_cases h2 : 2 ≤ c ∧ c ≤ 5
    · have HE : Hid ((t = 0 ∧ s = 0) ↔ ansOk l.limit l.next c t s) := Lib.hid (by unfold ansOk; omega)
      clear hs
      by_cases ht : t = 0
      · subst ht
        rcases (show c = 2 ∨ c = 3 ∨ c = 4 ∨ c = 5 by omega) with rfl | rfl | rfl | rfl
        all_goals
          clear h1 h2
          go_enter Try.func44, Try.ntmps44
          go_wp2
          go_ret
          refine says_as ?_ (HB.out _ _)
          rw [← HE.out]
          simp
      · have HF : Hid (¬ ansOk l.limit l.next c t s) := Lib.hid (by rw [← HE.out]; intro h; exact ht h.1)
        have e0 : (t == 0) = false := beq_eq_false_iff_ne.2 ht
        clear ht HE
        rcases (show c = 2 ∨ c = 3 ∨ c = 4 ∨ c = 5 by omega) with rfl | rfl | rfl | rfl
        all_goals
          clear h1 h2
          go_enter Try.func44, Try.ntmps44
          go_wp2
          go_ret
          exact says_no HF.out (HB.out _ _)
    · have HE : Hid (¬ ansOk l.limit l.next c t s) := Lib.hid (by unfold ansOk; omega)
      have e1 : (c == 1) = false := beq_eq_false_iff_ne.2 (by omega)
      have e2 : (c == 2) = false := beq_eq_false_iff_ne.2 (by omega)
      have e3 : (c == 3) = false := beq_eq_false_iff_ne.2 (by omega)
      have e4 : (c == 4) = false := beq_eq_false_iff_ne.2 (by omega)
      have e5 : (c == 5) = false := beq_eq_false_iff_ne.2 (by omega)
      clear h1 h2
      go_enter Try.func44, Try.ntmps44
      go_wp2
      go_ret
      exact says_no HE.out (HB.out _ _)
end Ld
end Go.Proofs.Ytgbblegcjladaaa
namespace Go.Proofs.Ytgbblegcjladaaa
open Go.ChangeShapes Go.WideShapes Go.ChangeAt Go.RowKit
set_option linter.unusedVariables false
set_option maxRecDepth 100000
namespace Ld
def SaysH (l : Led) (w : World) (e : Ending) (w' : World) : Prop := ∃ b, e = .returned (.bool b) ∧ (b = true ↔ heldOk l) ∧ Below w.heap.size w w'
theorem saysH_no {l : Led} (h : ¬ heldOk l) {w w' : World} (hb : Below w.heap.size w w') : SaysH l w (.returned (.bool false)) w' := ⟨_, rfl, ⟨fun h => (by cases h), fun h2 => absurd h2 h⟩, hb⟩
theorem saysH_yes {l : Led} (h : heldOk l) {w w' : World} (hb : Below w.heap.size w w') : SaysH l w (.returned (.bool true)) w' := ⟨_, rfl, ⟨fun _ => h, fun _ => rfl⟩, hb⟩

theorem after_has {w wr w2 W0 : World} {cs : Array Value} {T : TypeId} (hB : Below (w.heap.size + 1) W0 wr) (hz : w.heap.size < wr.heap.size)
    (hbb : Below ((wr.alloc (.cells cs T)).drew).heap.size ((wr.alloc (.cells cs T)).drew) w2) : Below (w.heap.size + 1) W0 w2 ∧ ∀ j u, cs[j]? = some u → w2.cell? ⟨wr.heap.size, j, none⟩ = some u := by
  have hs : ((wr.alloc (.cells cs T)).drew).heap.size = wr.heap.size + 1 := by simp [World.drew]
  refine ⟨((hB.alloc hz _).drew).trans (hbb.mono (by omega)), fun j u hu => ?_⟩
  have h := (hbb.block wr.heap.size (by omega)).trans (show ((wr.alloc (.cells cs T)).drew).heap[wr.heap.size]? = _ from heap_alloc_new _ _)
  rw [cell_of_row w2 _ j _ _ _ h]
  exact hu

end Ld
end Go.Proofs.Ytgbblegcjladaaa
namespace Go.Proofs.Ytgbblegcjladaaa
open Go.ChangeShapes Go.WideShapes Go.ChangeAt Go.RowKit
set_option linter.unusedVariables false
set_option maxRecDepth 100000
namespace Ld
def SaysL (l : Led) (w : World) (e : Ending) (w' : World) : Prop := ∃ b, e = .returned (.bool b) ∧ (b = true ↔ lastsOk l) ∧ Below w.heap.size w w'
theorem saysL_no {l : Led} (h : ¬ lastsOk l) {w w' : World} (hb : Below w.heap.size w w') : SaysL l w (.returned (.bool false)) w' := ⟨_, rfl, ⟨fun h => (by cases h), fun h2 => absurd h2 h⟩, hb⟩
theorem saysL_yes {l : Led} (h : lastsOk l) {w w' : World} (hb : Below w.heap.size w w') : SaysL l w (.returned (.bool true)) w' := ⟨_, rfl, ⟨fun _ => h, fun _ => rfl⟩, hb⟩
theorem after_hasN {w wr w2 W0 : World} {cs : Array Value} {T : TypeId} (hB : Below (w.heap.size + 1) W0 wr) (hz : w.heap.size < wr.heap.size)
    (hbb : Below (wr.alloc (.cells cs T)).heap.size (wr.alloc (.cells cs T)) w2) : Below (w.heap.size + 1) W0 w2 ∧ ∀ j u, cs[j]? = some u → w2.cell? ⟨wr.heap.size, j, none⟩ = some u := by
  have hs : (wr.alloc (.cells cs T)).heap.size = wr.heap.size + 1 := by simp
  refine ⟨(hB.alloc hz _).trans (hbb.mono (by omega)), fun j u hu => ?_⟩
  have h := (hbb.block wr.heap.size (by omega)).trans (heap_alloc_new _ _)
  rw [cell_of_row w2 _ j _ _ _ h]
  exact hu

end Ld
end Go.Proofs.Ytgbblegcjladaaa
namespace Go.Proofs.Ytgbblegcjladaaa
open Go.ChangeShapes Go.WideShapes Go.ChangeAt Go.RowKit
set_option linter.unusedVariables false
set_option maxRecDepth 100000
namespace Ld
def SaysC (l : Led) (w : World) (e : Ending) (w' : World) : Prop := ∃ z : Int, e = .returned (.int .i64 z) ∧ ((z = 0 ∧ ledOk l) ∨ (z = 50 ∧ ¬ ledOk l)) ∧ Below w.heap.size w w'
theorem saysC_no {l : Led} (h : ¬ ledOk l) {w w' : World} (hb : Below w.heap.size w w') : SaysC l w (.returned (.int .i64 50)) w' := ⟨_, rfl, .inr ⟨rfl, h⟩, hb⟩
theorem saysC_yes {l : Led} (h : ledOk l) {w w' : World} (hb : Below w.heap.size w w') : SaysC l w (.returned (.int .i64 0)) w' := ⟨_, rfl, .inl ⟨rfl, h⟩, hb⟩

end Ld
end Go.Proofs.Ytgbblegcjladaaa
namespace Go.Proofs.Ytgbblegcjladaaa
open Go.ChangeShapes Go.WideShapes Go.ChangeAt Go.RowKit
set_option linter.unusedVariables false
set_option maxRecDepth 100000
theorem OwnR.cell {α : Type} {sz : Nat} {C : α → List Value} {e : TypeId} {w : World} {B g j : Nat} {v u : Value} {zs : List α} (hown : OwnR sz C e w B v zs) (hg : g < B) : OwnR sz C e (w.setCell ⟨g, j, none⟩ u) B v zs := by
  refine ⟨hown.1, ?_⟩
  rcases hown.2 with h2 | ⟨q, cap, cur, h2, h3, h4, h5⟩
  · exact .inl h2
  · refine .inr ⟨q, cap, cur, h2, h3, ?_, h5⟩
    rw [heap_setCell_other _ _ _ _ (by simp; omega)]
    exact h4
theorem OwnR.row {α : Type} {sz : Nat} {C : α → List Value} {e : TypeId} {w : World} {B g : Nat} {v : Value} {cs : Array Value} {zs : List α} (hown : OwnR sz C e w B v zs) (hg : g < B) : OwnR sz C e (w.setRow g cs) B v zs := by
  refine ⟨hown.1, ?_⟩
  rcases hown.2 with h2 | ⟨q, cap, cur, h2, h3, h4, h5⟩
  · exact .inl h2
  · refine .inr ⟨q, cap, cur, h2, h3, ?_, h5⟩
    rw [setRow_other _ _ _ _ (by omega)]
    exact h4
theorem OwnR.lower {α : Type} {sz : Nat} {C : α → List Value} {e : TypeId} {w : World} {B D : Nat} {v : Value} {zs : List α} (hown : OwnR sz C e w B v zs) (hD : D ≤ B) : OwnR sz C e w D v zs := by
  refine ⟨hown.1, ?_⟩
  rcases hown.2 with h2 | ⟨q, cap, cur, h2, h3, h4⟩
  · exact .inl h2
  · exact .inr ⟨q, cap, cur, h2, Nat.le_trans hD h3, h4⟩
namespace Ld
theorem below_row {B : Nat} {a w : World} (h : Below B a w) {g : Nat} (hg : B ≤ g) (cs : Array Value) : Below B a (w.setRow g cs) :=
  h.trans ⟨rfl, rfl, rfl, by simp, fun k hk => setRow_other w g k cs (by omega)⟩
def GivesLed (l : Led) (w : World) (e : Ending) (w' : World) : Prop := ∃ v, e = .returned v ∧ IsLed w' v l ∧ Below w.heap.size w w'
theorem lArr_one (l : Led) (a c : Option Addr) (i j k m : Nat) : (lArr l (.slice a i j) (.slice c k m)).all (·.oneCell') = true := by simp [Value.oneCell']
abbrev zArr : Array Value := #[.int .i64 0, .int .u64 0, .slice none 0 0, .slice none 0 0]

theorem store2 {w1 : World} {g : Nat} {l : Led} {vh vl : Value} (h : w1.heap[g]? = some (.cells (lArr l vh vl) 35 (0, 0))) (u : Value) : (w1.setCell ⟨g, 2, none⟩ u).heap[g]? = some (.cells (lArr l u vl) 35 (0, 0)) := by
  rw [heap_setCell_same w1 g 2 _ _ u h]; rfl
theorem store3 {w1 : World} {g : Nat} {l : Led} {vh vl : Value} (h : w1.heap[g]? = some (.cells (lArr l vh vl) 35 (0, 0))) (u : Value) : (w1.setCell ⟨g, 3, none⟩ u).heap[g]? = some (.cells (lArr l vh u) 35 (0, 0)) := by
  rw [heap_setCell_same w1 g 3 _ _ u h]; rfl
theorem row2 {w1 : World} {g : Nat} {l : Led} {vh vl : Value} (h : w1.heap[g]? = some (.cells (lArr l vh vl) 35 (0, 0))) : w1.cell? ⟨g, 2, none⟩ = some vh := by
  rw [cell_of_row w1 g 2 _ _ _ h]; rfl
theorem row3 {w1 : World} {g : Nat} {l : Led} {vh vl : Value} (h : w1.heap[g]? = some (.cells (lArr l vh vl) 35 (0, 0))) : w1.cell? ⟨g, 3, none⟩ = some vl := by
  rw [cell_of_row w1 g 3 _ _ _ h]; rfl

/-- a ledger whose lists are the call's own -/
def GivesOwn (l : Led) (w : World) (e : Ending) (w' : World) : Prop := ∃ vh vl, e = .returned (.agg (lArr l vh vl)) ∧ OwnR 5 heldC 47 w' w.heap.size vh l.held ∧ OwnR 6 lastC 103 w' w.heap.size vl l.last ∧ l.wf ∧ Below w.heap.size w w'

set_option maxHeartbeats 1000000 in
theorem copy_own (l : Led) (v : Value) (w : World) (h : IsLed w v l) (hf : IsLed.fits l) :
    Calls Try.prog 11 #[v] w (GivesOwn l w) := by
  obtain ⟨vh, vl, rfl, hh, hl, hwf⟩ := h
  have HW := Lib.hid hwf
  have hb0 : ∀ A B, Below w.heap.size w ((w.alloc (.cells A 35)).alloc (.cells B 35)) := fun A B => ((Below.refl _ _).alloc (Nat.le_refl _) _).alloc (by simp) _
  have H0 := Lib.hid hb0
  have HS := Lib.hid (fun A B => hh.below (hb0 A B) (Nat.le_refl _))
  have hml := hh.len
  have hmm := hl.len
  obtain ⟨hf1, hf2⟩ := hf
  have HN := Lib.hid hf1
  have HN2 := Lib.hid hf2
  have HLw := Lib.hid hl
  have HM := Lib.hid hml
  have HM2 := Lib.hid hmm
  clear hb0 hh hl hwf hml hmm hf1 hf2
  go_enter Try.func11, Try.ntmps11
  go_wp2_with (first
    | (at_builtin; refine appR heldC_len heldC_one Try.underlying32 rfl (by decide) info_held rfl _ _ rfl (w.heap.size + 2) _ [] rfl (OwnR.nil _ _ _) _ l.held rfl (HS.out _ _) (by simpa using HM.out) (by have := HN.out; simp; omega) (by simp) ?_; intro v1 w1 hown1 hb1; have hs1 := hown1.sl heldC_len; simp only [List.nil_append] at hown1 hs1; obtain ⟨a1, cap1, hv1, -⟩ := id hs1; subst hv1; have hA := (hb1.block w.heap.size (by omega)).trans (heap_alloc2_old w _ _); have hB := (hb1.block (w.heap.size + 1) (by omega)).trans (heap_alloc2_new w _ _); have hz1 : w.heap.size + 2 ≤ w1.heap.size := (by have := hb1.size; simpa using this); have hcell := row2 hA; have hfz := frozen_of_row w1 w.heap.size 2 _ _ hA; have hA1 := store2 hA (.slice a1 l.held.length cap1); have hc3 := row3 hA1; have hB1 := (heap_setCell_other w1 ⟨w.heap.size, 2, none⟩ (w.heap.size + 1) (.slice a1 l.held.length cap1) (by simp)).trans hB; have HBx := Lib.hid (((H0.out _ _).trans (hb1.mono (by omega))).setCell (p := ⟨w.heap.size, 2, none⟩) (Nat.le_refl _) (.slice a1 l.held.length cap1)); have HL1 := Lib.hid (HLw.out.below HBx.out (Nat.le_refl _)); have HOW := Lib.hid hown1; have HZ := Lib.hid hz1; clear hb1 hown1 hs1)
    | (at_builtin; refine appR lastC_len lastC_one Try.underlying33 rfl (by decide) info_last rfl _ _ rfl w1.heap.size _ [] rfl (OwnR.nil _ _ _) _ l.last rfl HL1.out (by simpa using HM2.out) (by have := HN2.out; simp; omega) (by simp) ?_; intro v2 w2 hown2 hb2; have hs2 := hown2.sl lastC_len; simp only [List.nil_append] at hown2 hs2; obtain ⟨a2, cap2, hv2, -⟩ := id hs2; subst hv2; have hA2 := (hb2.block w.heap.size (by have := HZ.out; omega)).trans hA1; have hB2 := (hb2.block (w.heap.size + 1) (by have := HZ.out; omega)).trans hB1; have hcell2 := row3 hA2; have hfz2 := frozen_of_row w2 w.heap.size 3 _ _ hA2; have hA3 := store3 hA2 (.slice a2 l.last.length cap2); have hB3 := (heap_setCell_other w2 ⟨w.heap.size, 3, none⟩ (w.heap.size + 1) (.slice a2 l.last.length cap2) (by simp)).trans hB2; clear hA hB hcell hfz hA1 hc3 hB1)
    | (refine wpList_load_row rfl 35 (.tmp 1) rfl w.heap.size rfl 35 (lArr l (.slice a1 l.held.length cap1) (.slice a2 l.last.length cap2)) (0, 0) _ hA3 Try.underlying35 rfl (by kernel_rfl) ?_)
    | (refine wpList_store_row rfl 35 (.tmp 2) (.tmp 11) rfl (w.heap.size + 1) (lArr l (.slice a1 l.held.length cap1) (.slice a2 l.last.length cap2)) rfl rfl 35 _ hB3 (by kernel_rfl) rfl (lArr_one _ _ _ _ _ _ _) ?_))
  refine bodyPost_ret (v := .agg (lArr l (.slice a1 l.held.length cap1) (.slice a2 l.last.length cap2))) (results_cell_row rfl _ _ (w.heap.size + 1) 35 _ (0, 0) _ rfl (setRow_heap _ _ _ _ _ _ hB3) Try.underlying35 rfl (by kernel_rfl)) rfl ?_
  have hz1 := HZ.out
  have hsz : (w1.setCell ⟨w.heap.size, 2, none⟩ (.slice a1 l.held.length cap1)).heap.size = w1.heap.size := by simp
  have hq1 : OwnR 5 heldC 47 w2 (w.heap.size + 2) (.slice a1 l.held.length cap1) l.held := (HOW.out.cell (g := w.heap.size) (by omega)).below hb2 (Nat.le_of_eq hsz)
  refine ⟨_, _, rfl, ((hq1.cell (by omega)).row (by omega)).lower (by omega), ((hown2.cell (by omega)).row (by omega)).lower (by omega), HW.out, ?_⟩
  exact below_row (((HBx.out).trans (hb2.mono (by omega))).setCell (Nat.le_refl _) _) (by omega) _
theorem copy_any (l : Led) (v : Value) (w : World) (h : IsLed w v l) (hf : IsLed.fits l) :
    Calls Try.prog 11 #[v] w (GivesLed l w) :=
  (copy_own l v w h hf).mono fun e w' ⟨vh, vl, he, h1, h2, h3, h4⟩ => ⟨_, he, ⟨_, _, rfl, h1.sl heldC_len, h2.sl lastC_len, h3⟩, h4⟩
end Ld
end Go.Proofs.Ytgbblegcjladaaa
