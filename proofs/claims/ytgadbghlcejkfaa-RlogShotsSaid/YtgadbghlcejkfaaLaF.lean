/- A token granted: ledger.grant, on a ledger in a box whose rows are the call's own. No condition but sizes. -/
import Derived.Test.YtgadbghlcejkfaaLaE
import Derived.Test.YtgadbghlcejkfaaLcM
import Derived.Test.YtgadbghlcejkfaaIns
import Derived.Deep.RegionHeldLaw
import Derived.Deep.CutRange
import Derived.Deep.DeepCutAuto
namespace Go.Proofs.Ytgadbghlcejkfaa
open Go.ChangeShapes Go.WideShapes Go.ChangeAt Go.RowKit
set_option linter.unusedVariables false
set_option maxRecDepth 100000
namespace La
open Ld Cm

/-- a ledger in the box p, its rows behind it, each the call's own, apart -/
structure Box (w : World) (p : Nat) (l : Led) (vh vl : Value) : Prop where
  box : w.heap[p]? = some (.cells (lArr l vh vl) 27 (0, 0))
  held : OwnR 5 heldC 67 w (p + 1) vh l.held
  last : OwnR 6 lastC 71 w (p + 1) vl l.last
  apart : ∀ k, vh.ownBlock = some k → vl.ownBlock ≠ some k
/-- but for a box and a row, and what is new, all is as it was -/
structure Far (p : Nat) (r : Option Nat) (w w' : World) : Prop where
  os : w'.os = w.os
  tape : w'.tape = w.tape
  output : w'.output = w.output
  size : w.heap.size ≤ w'.heap.size
  block : ∀ k, k < w.heap.size → k ≠ p → some k ≠ r → w'.heap[k]? = w.heap[k]?
theorem Far.refl (p : Nat) (r : Option Nat) (w : World) : Far p r w w := ⟨rfl, rfl, rfl, Nat.le_refl _, fun _ _ _ _ => rfl⟩
theorem Far.trans {p : Nat} {r : Option Nat} {a b c : World} (h : Far p r a b) (g : Far p r b c) : Far p r a c :=
  ⟨g.os.trans h.os, g.tape.trans h.tape, g.output.trans h.output, Nat.le_trans h.size g.size, fun k hk h1 h2 => (g.block k (Nat.lt_of_lt_of_le hk h.size) h1 h2).trans (h.block k hk h1 h2)⟩
theorem Far.of_below {p : Nat} {r : Option Nat} {w w' : World} (h : Below w.heap.size w w') : Far p r w w' := ⟨h.os, h.tape, h.output, h.size, fun k hk _ _ => h.block k hk⟩
theorem Far.of_grown {p : Nat} {r : Option Nat} {w w' : World} (h : w.grownBy w' r) : Far p r w w' := ⟨h.os, h.tape, h.output, h.size, fun k hk _ h2 => h.block k hk h2⟩
theorem Far.setCell {p : Nat} {r : Option Nat} {a w : World} (h : Far p r a w) (j : Nat) (u : Value) : Far p r a (w.setCell ⟨p, j, none⟩ u) :=
  ⟨h.os, h.tape, h.output, by simpa using h.size, fun k hk h1 h2 => (heap_setCell_other w _ _ _ (fun e => h1 e)).trans (h.block k hk h1 h2)⟩
theorem Far.alloc {p : Nat} {r : Option Nat} {a w : World} (h : Far p r a w) (o : Obj) : Far p r a (w.alloc o) :=
  ⟨h.os, h.tape, h.output, by have := h.size; simp; omega, fun k hk h1 h2 => (heap_alloc_old w o (Nat.lt_of_lt_of_le hk h.size)).trans (h.block k hk h1 h2)⟩
theorem Far.below {p : Nat} {r : Option Nat} {w w' : World} (h : Far p r w w') (hr : ∀ k, r = some k → p ≤ k) {B : Nat} (hB : B ≤ p) (hs : B ≤ w.heap.size) : Below B w w' :=
  ⟨h.os, h.tape, h.output, h.size, fun k hk => h.block k (by omega) (by omega) (fun e => by have := hr k e.symm; omega)⟩
theorem own_block {sz : Nat} {α : Type} {C : α → List Value} {e : TypeId} {w : World} {B : Nat} {v : Value} {xs : List α} (h : OwnR sz C e w B v xs) : ∀ k, v.ownBlock = some k → B ≤ k ∧ k < w.heap.size := World.ownsRow.lt h
/-- a row of the call's own where its block stands -/
theorem own_keep {sz : Nat} {α : Type} {C : α → List Value} {e : TypeId} {w w' : World} {B : Nat} {v : Value} {xs : List α} (h : OwnR sz C e w B v xs) (hb : ∀ k, v.ownBlock = some k → w'.heap[k]? = w.heap[k]?) : OwnR sz C e w' B v xs := by
  refine ⟨h.1, ?_⟩
  rcases h.2 with h2 | ⟨g, cap, cur, rfl, h3, h4, h5⟩
  · exact .inl h2
  · exact .inr ⟨g, cap, cur, rfl, h3, (hb g rfl).trans h4, h5⟩
theorem Box.below {w w' : World} {p : Nat} {l : Led} {vh vl : Value} (h : Box w p l vh vl) (hb : Below w.heap.size w w') : Box w' p l vh vl :=
  ⟨(hb.block p ((Array.getElem?_eq_some_iff.1 h.box).1)).trans h.box, own_keep h.held fun k hk => hb.block k (own_block h.held k hk).2, own_keep h.last fun k hk => hb.block k (own_block h.last k hk).2, h.apart⟩
theorem Box.drew {w : World} {p : Nat} {l : Led} {vh vl : Value} (h : Box w p l vh vl) : Box w.drew p l vh vl := ⟨h.box, h.held, h.last, h.apart⟩
theorem Box.lt {w : World} {p : Nat} {l : Led} {vh vl : Value} (h : Box w p l vh vl) : p < w.heap.size := (Array.getElem?_eq_some_iff.1 h.box).1

/-- what a call that changes the rows of Held hands back -/
def Execd (p : Nat) (l : Led) (r : Led × Ans) (vh vl : Value) (w : World) (e : Ending) (w' : World) : Prop :=
  ∃ vh', e = .returned (.agg #[.int .i64 r.2.code, .int .i64 r.2.token, .int .u64 r.2.serial]) ∧ Box w' p r.1 vh' vl ∧ Far p vh.ownBlock w w' ∧ ∀ g, vh'.ownBlock = some g → vh.ownBlock = some g ∨ w.heap.size ≤ g

theorem gap_none {xs : List Held} {k : Nat} (hk : k ≤ xs.length) (h : ∀ j x, j < k → xs[j]? = some x → x.token = (j : Int) + 1) (h2 : ∀ x, xs[k]? = some x → x.token ≠ (k : Int) + 1) : gap 0 xs = k := by
  rcases Nat.lt_trichotomy (gap 0 xs) k with h3 | h3 | h3
  · have := h _ _ h3 (rgetD (by omega : gap 0 xs < xs.length))
    have := gap_at xs 0 _ (rgetD (by omega : gap 0 xs < xs.length))
    omega
  · exact h3
  · have hl := gap_le xs 0
    have := gap_before xs 0 k _ h3 (rgetD (by omega : k < xs.length))
    have := h2 _ (rgetD (by omega : k < xs.length))
    omega

theorem grant_full {l : Led} {i : Int} {c : Cmd} (h : full l = true) : grantL l i c = (l, ⟨2, 0, 0⟩) := by unfold grantL; rw [if_pos h]
theorem grant_new {l : Led} {i : Int} {c : Cmd} (h : full l = false) : grantL l i c = ({ l with held := putAt (gap 0 l.held) (newRow l i c) l.held, next := l.next + 1 }, ⟨1, (gap 0 l.held : Int) + 1, l.next⟩) := by unfold grantL; rw [if_neg (by rw [h]; simp)]
/-- a row put into Held, its literal laid behind -/
def PutH (p : Nat) (l : Led) (vh : Value) (k : Nat) (x : Held) (W : World) (e : Ending) (w' : World) : Prop :=
  ∃ q cap, e = .returned (.slice (some ⟨q, 0, none⟩) (l.held.length + 1) cap) ∧ OwnR 5 heldC 67 w' (p + 1) (.slice (some ⟨q, 0, none⟩) (l.held.length + 1) cap) (putAt k x l.held) ∧ (W.alloc (.cells (hA x) 67)).grownBy w' vh.ownBlock ∧ (vh.ownBlock = some q ∨ W.heap.size + 1 ≤ q)
theorem insert_box {W : World} {p : Nat} {l : Led} {vh vl : Value} (h : Box W p l vh vl) (k : Nat) (hk : k ≤ l.held.length) (hl : l.held.length ≤ 64) (x : Held) :
    Calls Try.prog 150 #[vh, .int .i64 k, .slice (some ⟨W.heap.size, 0, none⟩) 1 1] (W.alloc (.cells (hA x) 67)) (PutH p l vh k x W) := by
  have hb : Below W.heap.size W (W.alloc (.cells (hA x) 67)) := (Below.refl _ _).alloc (Nat.le_refl _) _
  refine (Ih.insert_any l.held x k vh W.heap.size _ (p + 1) (h.below hb).held hk (heap_alloc_new _ _) (fun e => ?_) (by have := h.lt; simp; omega) (by omega)).mono ?_
  · have := (own_block h.held _ e).2
    omega
  · rintro e w' ⟨q, cap, rfl, h1, h2, h3⟩
    exact ⟨q, cap, rfl, h1, h2, h3.imp id (fun h => by simpa using h)⟩
theorem sg_of {W : World} {p g : Nat} {l : Led} {vh vl : Value} {x : Held} (h : W.heap[p]? = some (.cells (lArr l vh vl) 27 (0, 0))) (hr : W.heap[g]? = some (.cells (hA x) 67 (0, 0))) :
    W.cell? ⟨p, 2, none⟩ = some vh ∧ W.heap[g]? = some (.cells (hA x) 67 (0, 0)) ∧ W.cell? ⟨g, 0, none⟩ = some (.int .i64 x.token) ∧ W.cell? ⟨g, 1, none⟩ = some (.int .i64 x.node) ∧ W.cell? ⟨g, 2, none⟩ = some (.int .u64 x.boot) ∧ W.cell? ⟨g, 3, none⟩ = some (.int .u64 x.serial) ∧ W.cell? ⟨g, 4, none⟩ = some (.int .u64 x.stamp) :=
  ⟨(cell_of_row W _ 2 _ _ _ h).trans rfl, hr, (cell_of_row W _ 0 _ _ _ hr).trans rfl, (cell_of_row W _ 1 _ _ _ hr).trans rfl, (cell_of_row W _ 2 _ _ _ hr).trans rfl, (cell_of_row W _ 3 _ _ _ hr).trans rfl, (cell_of_row W _ 4 _ _ _ hr).trans rfl⟩
/-- behind the store of the new row of Held -/
def PutDone (W : World) (p : Nat) (l : Led) (vh vl : Value) (k : Nat) (x : Held) (wx : World) : Prop := ∃ vh', Box wx p { l with held := putAt k x l.held } vh' vl ∧ Far p vh.ownBlock W wx ∧ ∀ g, vh'.ownBlock = some g → vh.ownBlock = some g ∨ W.heap.size ≤ g
theorem put_done {W w4 : World} {p : Nat} {l : Led} {vh vl : Value} {k q cap : Nat} {x : Held} (h : Box W p l vh vl) (hk : k ≤ l.held.length)
    (hown : OwnR 5 heldC 67 w4 (p + 1) (.slice (some ⟨q, 0, none⟩) (l.held.length + 1) cap) (putAt k x l.held)) (hgr : (W.drew.alloc (.cells (hA x) 67)).grownBy w4 vh.ownBlock) (hat : vh.ownBlock = some q ∨ W.drew.heap.size + 1 ≤ q) :
    PutDone W p l vh vl k x (w4.setCell ⟨p, 2, none⟩ (.slice (some ⟨q, 0, none⟩) (l.held.length + 1) cap)) := by
  have hp := h.lt
  have hne : ∀ k, vh.ownBlock = some k → p + 1 ≤ k := fun k hk => (own_block h.held k hk).1
  have hold : ∀ g, g < W.heap.size → some g ≠ vh.ownBlock → w4.heap[g]? = W.heap[g]? := fun g hg hn => (hgr.block g (by simp; omega) hn).trans (heap_alloc_old W.drew _ hg)
  have hbox := (hold p hp (fun e => by have := hne p e.symm; omega)).trans h.box
  have hq : p + 1 ≤ q := (own_block hown q rfl).1
  refine ⟨_, ⟨store2 hbox _, own_keep hown fun g hg => ?_, own_keep h.last fun g hg => ?_, fun g hg e => ?_⟩, ?_⟩
  · simp only [Value.ownBlock, Option.some.injEq] at hg
    subst hg
    exact heap_setCell_other _ _ _ _ (by show q ≠ p; omega)
  · have h1 := own_block h.last g hg
    exact (heap_setCell_other _ _ _ _ (by show g ≠ p; omega)).trans (hold g h1.2 (fun e => h.apart g e.symm hg))
  · simp only [Value.ownBlock, Option.some.injEq] at hg
    subst hg
    have h1 := own_block h.last q e
    rcases hat with h2 | h2
    · exact h.apart q h2 e
    · have h3 : W.heap.size + 1 ≤ q := h2
      omega
  · have h0 : Far p vh.ownBlock W (W.drew.alloc (.cells (hA x) 67)) := ⟨rfl, rfl, rfl, by simp, fun g hg _ _ => heap_alloc_old W.drew _ hg⟩
    refine ⟨(h0.trans (Far.of_grown hgr)).setCell _ _, fun g hg => ?_⟩
    simp only [Value.ownBlock, Option.some.injEq] at hg
    subst hg
    rcases hat with h2 | h2
    · exact .inl h2
    · right
      have h3 : W.heap.size + 1 ≤ q := h2
      omega
theorem Box.next {w : World} {p : Nat} {l : Led} {vh vl : Value} (h : Box w p l vh vl) (n : Int) : Box (w.setCell ⟨p, 1, none⟩ (.int .u64 n)) p { l with next := n } vh vl :=
  ⟨by rw [heap_setCell_same w p 1 _ _ _ h.box]; rfl, own_keep h.held fun k hk => heap_setCell_other _ _ _ _ (by have := (own_block h.held k hk).1; show k ≠ p; omega), own_keep h.last fun k hk => heap_setCell_other _ _ _ _ (by have := (own_block h.last k hk).1; show k ≠ p; omega), h.apart⟩
theorem Box.row {w : World} {p s : Nat} {l : Led} {vh vl : Value} (h : Box w p l vh vl) (hp : p ≠ s) (hh : vh.ownBlock ≠ some s) (hl : vl.ownBlock ≠ some s) (cs : Array Value) : Box (w.setRow s cs) p l vh vl :=
  ⟨(setRow_other _ _ _ _ hp).trans h.box, own_keep h.held fun k hk => setRow_other _ _ _ _ (fun e => hh (by rw [hk, e])), own_keep h.last fun k hk => setRow_other _ _ _ _ (fun e => hl (by rw [hk, e])), h.apart⟩
theorem Far.row {p s : Nat} {r : Option Nat} {a w : World} (h : Far p r a w) (hs : a.heap.size ≤ s) (cs : Array Value) : Far p r a (w.setRow s cs) :=
  ⟨h.os, h.tape, h.output, by simpa using h.size, fun k hk h1 h2 => (setRow_other _ _ _ _ (by omega)).trans (h.block k hk h1 h2)⟩
theorem ans_one (a b c : Int) : (#[.int .i64 a, .int .i64 b, .int .u64 c] : Array Value).all (·.oneCell') = true := by simp [Value.oneCell']
/-- what a ledger must be for its rows of Held to be changed -/
def Fit (l : Led) : Prop := 1 ≤ l.limit ∧ l.limit ≤ 65535 ∧ l.held.length ≤ 64 ∧ (Lit.int .u64 l.next).wf = true
set_option maxHeartbeats 4000000 in
theorem grant_any (l : Led) (vh vl u : Value) (p : Nat) (i : Int) (c : Cmd) (w : World) (h : Box w p l vh vl) (hL : Fit l) (hc : IsCmd w u c) :
    Calls Try.prog 141 #[.pointer (some ⟨p, 0, none⟩), .int .u64 i, u] w (Execd p l (grantL l i c) vh vl w) := by
  obtain ⟨vn, rfl, -, -⟩ := hc
  have hlen : l.held.length ≤ 64 := hL.2.2.1
  have hlim : l.limit ≤ 65535 := hL.2.1
  have hlim0 : 1 ≤ l.limit := hL.1
  have hnx := bounds_u64 hL.2.2.2
  obtain ⟨hnx0, hnx1⟩ := hnx
  have HX := Lib.hid h
  have hplt := h.lt
  have hp1 : p < w.heap.size + 1 := by omega
  have hp2 : p < w.heap.size + 1 + 1 := by omega
  have hp2' : p < w.heap.size + 2 := by omega
  have hp3 : p < w.heap.size + 1 + 1 + 1 := by omega
  have hp3' : p < w.heap.size + 3 := by omega
  have hb0 : Below w.heap.size w ((w.alloc (.cells (cA c vn) 34)).alloc (.cells #[.int .i64 0, .int .i64 0, .int .u64 0] 69)) := ((Below.refl _ _).alloc (Nat.le_refl _) _).alloc (by simp) _
  have hX0 := h.below hb0
  obtain ⟨z0, z1, z2, z3⟩ := led_cells h.box
  have HB0 := Lib.hid hb0
  have HX0 := Lib.hid hX0
  have HREF : Hid (∀ vh', vh' = vh → full l = true → Execd p l (grantL l i c) vh' vl w (.returned (.agg #[.int .i64 2, .int .i64 0, .int .u64 0])) ((w.alloc (.cells (cA c vn) 34)).alloc (.cells #[.int .i64 2, .int .i64 0, .int .u64 0] 69))) := Lib.hid (by
    rintro vh' rfl hf
    rw [grant_full hf]
    have hb := ((Below.refl w.heap.size w).alloc (Nat.le_refl _) (.cells (cA c vn) 34)).alloc (by simp) (.cells #[.int .i64 2, .int .i64 0, .int .u64 0] 69)
    exact ⟨_, rfl, h.below hb, Far.of_below hb, fun g hg => .inl hg⟩)
  obtain ⟨a, cap, rfl, h1, h2, h4⟩ := h.held.sl heldC_len
  unfold maxLen at h2
  have HO4 := Lib.hid h4
  clear h4 h hb0 hX0
  go_enter Try.func141, Try.ntmps141
  go_wp2
  go_loop [7] (fun i => ∃ k : Nat, k ≤ l.held.length ∧ i = .int .i64 k ∧ Hid (∀ j x, j < k → l.held[j]? = some x → x.token = (j : Int) + 1)) (fun i => l.held.length - (intOf i).toNat)
  case atStart => exact ⟨0, Nat.zero_le _, rfl, Lib.hid (fun j x hj => absurd hj (Nat.not_lt_zero _))⟩
  case round =>
    obtain ⟨k, hk, rfl, HU⟩ := hrel
    by_cases hgo : ∃ x, l.held[k]? = some x ∧ x.token = (k : Int) + 1
    · obtain ⟨x, hx, ht⟩ := hgo
      obtain ⟨hlt, -⟩ := List.getElem?_eq_some_iff.1 hx
      obtain ⟨b, off, rfl, hlb, hc⟩ := rows_open hlt HO4.out
      obtain ⟨x0, -⟩ := held_cells (fun j u hu => hc k x hx j u hu)
      rw [ht] at x0
      have HT := Lib.hid ht
      have HG := Lib.hid hx
      clear hc ht hx
      go_wp2
      go_round
      case rel =>
        refine ⟨k + 1, by omega, by go_num, Lib.hid (fun j y hj hy => ?_)⟩
        rcases Nat.lt_or_ge j k with h | h
        · exact HU.out j y h hy
        · obtain rfl : j = k := by omega
          rw [HG.out] at hy
          cases hy
          exact HT.out
      case measure => simp [intOf]; omega
    · have HK : Hid (gap 0 l.held = k) := Lib.hid (gap_none hk HU.out (fun x hx ht => hgo ⟨x, hx, ht⟩))
      have hgo2 : ∀ x, l.held[k]? = some x → (x.token == (k : Int) + 1) = false := fun x hx => beq_eq_false_iff_ne.2 (fun ht => hgo ⟨x, hx, ht⟩)
      have HGO := Lib.hid hgo2
      clear hgo hgo2
      by_cases hlt : k < l.held.length
      · obtain ⟨b, off, rfl, hlb, hc⟩ := rows_open hlt HO4.out
        obtain ⟨x0, -⟩ := held_cells (fun j u hu => hc k _ (rgetD hlt) j u hu)
        have hne := HGO.out _ (rgetD hlt)
        clear hc
        generalize l.held[k] = x at *
        by_cases f1 : l.limit < (k : Int) + 1
        · have HF := Lib.hid (show full l = true from decide_eq_true (by rw [HK.out]; omega))
          go_wp2
          exact bodyPost_ret (v := .agg #[.int .i64 2, .int .i64 0, .int .u64 0]) (results_cell_row rfl _ _ (w.heap.size + 1) 69 _ (0, 0) _ rfl (new2 _ _ _) Try.underlying69 rfl (by kernel_rfl)) rfl (HREF.out _ rfl HF.out)
        · by_cases f2 : 64 ≤ l.held.length
          · have HF := Lib.hid (show full l = true from decide_eq_true (by rw [HK.out]; omega))
            go_wp2
            exact bodyPost_ret (v := .agg #[.int .i64 2, .int .i64 0, .int .u64 0]) (results_cell_row rfl _ _ (w.heap.size + 1) 69 _ (0, 0) _ rfl (new2 _ _ _) Try.underlying69 rfl (by kernel_rfl)) rfl (HREF.out _ rfl HF.out)
          · by_cases f3 : l.next = 18446744073709551615
            · have f3' : (l.next == 18446744073709551615) = true := beq_iff_eq.2 f3
              have HF := Lib.hid (show full l = true from decide_eq_true (by rw [HK.out]; omega))
              clear f3
              go_wp2
              exact bodyPost_ret (v := .agg #[.int .i64 2, .int .i64 0, .int .u64 0]) (results_cell_row rfl _ _ (w.heap.size + 1) 69 _ (0, 0) _ rfl (new2 _ _ _) Try.underlying69 rfl (by kernel_rfl)) rfl (HREF.out _ rfl HF.out)
            · have f3' : (l.next == 18446744073709551615) = false := beq_eq_false_iff_ne.2 f3
              have HF := Lib.hid (show full l = false from decide_eq_false (by rw [HK.out]; omega))
              clear f3
              go_wp2_with fail
              go_region
              generalize hW3 : World.drew _ = W3
              have HW3 := Lib.hid hW3
              have hb3 : Below w.heap.size w W3 := by
                rw [← hW3]
                exact ((((Below.refl _ _).alloc (Nat.le_refl _) _).alloc (by simp) _).alloc (by simp; omega) _).drew
              have hs3 : w.heap.size + 3 ≤ W3.heap.size := by rw [← hW3]; show _ ≤ (((w.alloc _).alloc _).alloc _).heap.size; simp
              have hrow3 : W3.heap[w.heap.size + 1 + 1]? = some (.cells (hA ⟨(k : Int) + 1, c.node, c.boot, l.next, i⟩) 67 (0, 0)) := by
                rw [← hW3]
                have := heap_alloc_new ((w.alloc (.cells (cA c vn) 34)).alloc (.cells #[.int .i64 0, .int .i64 0, .int .u64 0] 69)) (.cells (hA ⟨(k : Int) + 1, c.node, c.boot, l.next, i⟩) 67)
                rw [show ((w.alloc (.cells (cA c vn) 34)).alloc (.cells #[.int .i64 0, .int .i64 0, .int .u64 0] 69)).heap.size = w.heap.size + 1 + 1 by simp] at this
                exact this
              have hans3 : W3.heap[w.heap.size + 1]? = some (.cells #[.int .i64 0, .int .i64 0, .int .u64 0] 69 (0, 0)) := by
                rw [← hW3]
                exact (heap_alloc_old _ _ (by simp)).trans (new2 _ _ _)
              have hX3 := HX.out.below hb3
              have HB3 := Lib.hid hb3
              have HX3 := Lib.hid hX3
              have HR3 := Lib.hid hrow3
              have HA3 := Lib.hid hans3
              obtain ⟨y0, y1, y2, y3⟩ := led_cells hX3.box
              have r0 := (cell_of_row W3 _ 0 _ _ _ hrow3).trans rfl
              have r1 := (cell_of_row W3 _ 1 _ _ _ hrow3).trans rfl
              have r2 := (cell_of_row W3 _ 2 _ _ _ hrow3).trans rfl
              have r3 := (cell_of_row W3 _ 3 _ _ _ hrow3).trans rfl
              have r4 := (cell_of_row W3 _ 4 _ _ _ hrow3).trans rfl
              clear hW3 hb3 hrow3 hans3 hX3
              go_upto_region 8 with (fail)
              have HVN : Hid (∀ k, (Value.slice (some ⟨b, off, none⟩) l.held.length cap).ownBlock = some k → p + 1 ≤ k ∧ k < w.heap.size) := Lib.hid (fun k hk => own_block HX.out.held k hk)
              have HPN : Hid (∀ k, (Value.slice (some ⟨b, off, none⟩) l.held.length cap).ownBlock = some k → p + 1 ≤ k ∧ k < W3.heap.size) := Lib.hid (fun k hk => own_block HX3.out.held k hk)
              have hp4 : p < W3.heap.size := by omega
              go_cut [7] (fun s7 wx => s7 = .int .i64 k ∧ PutDone W3 p l (.slice (some ⟨b, off, none⟩) l.held.length cap) vl k ⟨(k : Int) + 1, c.node, c.boot, l.next, i⟩ wx)
              case first =>
                go_region_with ((go_at_call 150; refine (insert_box (W := W3.drew) HX3.out.drew k hk hlen ⟨(k : Int) + 1, c.node, c.boot, l.next, i⟩).mono ?_; rintro e w4 ⟨q, cap2, rfl, hown4, hgr4, hat4⟩; have hbox4 : w4.heap[p]? = some (.cells (lArr l (.slice (some ⟨b, off, none⟩) l.held.length cap) vl) 27 (0, 0)) := (hgr4.block p (by simp; omega) (fun e => by have := HPN.out p e.symm; omega)).trans ((heap_alloc_old W3.drew _ hp4).trans HX3.out.box); have t2 := (led_cells hbox4).2.2.1; have u2 := frozen_of (o := 2) hbox4; have HPD := Lib.hid (put_done HX3.out hk hown4 hgr4 hat4)))
                all_goals (go_wp2_with fail; go_meet; exact ⟨rfl, HPD.out⟩)
              case rest =>
                obtain ⟨rfl, hpd⟩ := hcut
                obtain ⟨vh5, hX5, hF5, hO5⟩ := hpd
                have hX5' := hX5.box
                have hsz5 := hF5.size
                have hrow5 := (hF5.block (w.heap.size + 1 + 1) (by omega) (by omega) (fun e => by have := HVN.out _ e.symm; omega)).trans HR3.out
                have hans5 := (hF5.block (w.heap.size + 1) (by omega) (by omega) (fun e => by have := HVN.out _ e.symm; omega)).trans HA3.out
                obtain ⟨y0, y1, y2, y3⟩ := led_cells hX5.box
                have u1 := frozen_of (o := 1) hX5.box
                have r0 := (cell_of_row _ _ 0 _ _ _ hrow5).trans rfl
                have r3 := (cell_of_row _ _ 3 _ _ _ hrow5).trans rfl
                have hn3 : l.next ≤ 18446744073709551614 := by have := beq_eq_false_iff_ne.1 f3'; omega
                have hne1 : ¬ (p = w.heap.size + 1 + 1) := by omega
                have hne2 : ¬ (w.heap.size + 1 + 1 = p) := by omega
                have hne3 : w.heap.size + 1 ≠ p := by omega
                have HX5 := Lib.hid hX5
                have HF5 := Lib.hid hF5
                have HO5 := Lib.hid hO5
                have HA5 := Lib.hid hans5
                have HN3 := Lib.hid hne3
                clear hX5 hX5' hF5 hO5 hrow5 hans5
                go_wp2_with (refine wpList_store_row rfl 69 (.tmp 6) (.tmp 89) rfl (w.heap.size + 1) #[.int .i64 1, .int .i64 ((k : Int) + 1), .int .u64 l.next] rfl rfl 69 _ ((heap_setCell_other _ _ _ _ HN3.out).trans HA5.out) (by kernel_rfl) rfl (ans_one _ _ _) ?_)
                refine bodyPost_ret (v := .agg #[.int .i64 1, .int .i64 ((k : Int) + 1), .int .u64 l.next]) (results_cell_row rfl _ _ (w.heap.size + 1) 69 _ (0, 0) _ rfl (setRow_heap _ _ _ _ _ _ ((heap_setCell_other _ _ _ _ HN3.out).trans HA5.out)) Try.underlying69 rfl (by kernel_rfl)) rfl ?_
                rw [grant_new HF.out, HK.out]
                have hfar3 : Far p (Value.slice (some ⟨b, off, none⟩) l.held.length cap).ownBlock w _ := Far.of_below HB3.out
                refine ⟨vh5, rfl, ?_, ?_, fun g hg => (HO5.out g hg).imp id (fun h => by omega)⟩
                · have hb := (HX5.out.next (l.next + 1)).row (s := w.heap.size + 1) (by omega) (fun e => by
                    rcases HO5.out _ e with h | h
                    · have := HVN.out _ h; omega
                    · omega) (fun e => by have := (own_block HX.out.last _ e).2; omega) #[.int .i64 1, .int .i64 ((k : Int) + 1), .int .u64 l.next]
                  unfold newRow
                  rw [HK.out]
                  exact hb
                · exact ((hfar3.trans HF5.out).setCell _ _).row (by omega) _
      · have hkl : k = l.held.length := by omega
        subst hkl
        by_cases f1 : l.limit < (l.held.length : Int) + 1
        · have HF := Lib.hid (show full l = true from decide_eq_true (by rw [HK.out]; omega))
          go_wp2
          exact bodyPost_ret (v := .agg #[.int .i64 2, .int .i64 0, .int .u64 0]) (results_cell_row rfl _ _ (w.heap.size + 1) 69 _ (0, 0) _ rfl (new2 _ _ _) Try.underlying69 rfl (by kernel_rfl)) rfl (HREF.out _ rfl HF.out)
        · by_cases f2 : 64 ≤ l.held.length
          · have HF := Lib.hid (show full l = true from decide_eq_true (by rw [HK.out]; omega))
            go_wp2
            exact bodyPost_ret (v := .agg #[.int .i64 2, .int .i64 0, .int .u64 0]) (results_cell_row rfl _ _ (w.heap.size + 1) 69 _ (0, 0) _ rfl (new2 _ _ _) Try.underlying69 rfl (by kernel_rfl)) rfl (HREF.out _ rfl HF.out)
          · by_cases f3 : l.next = 18446744073709551615
            · have f3' : (l.next == 18446744073709551615) = true := beq_iff_eq.2 f3
              have HF := Lib.hid (show full l = true from decide_eq_true (by rw [HK.out]; omega))
              clear f3
              go_wp2
              exact bodyPost_ret (v := .agg #[.int .i64 2, .int .i64 0, .int .u64 0]) (results_cell_row rfl _ _ (w.heap.size + 1) 69 _ (0, 0) _ rfl (new2 _ _ _) Try.underlying69 rfl (by kernel_rfl)) rfl (HREF.out _ rfl HF.out)
            · have f3' : (l.next == 18446744073709551615) = false := beq_eq_false_iff_ne.2 f3
              have HF := Lib.hid (show full l = false from decide_eq_false (by rw [HK.out]; omega))
              clear f3
              go_wp2_with fail
              go_region
              generalize hW3 : World.drew _ = W3
              have HW3 := Lib.hid hW3
              have hb3 : Below w.heap.size w W3 := by
                rw [← hW3]
                exact ((((Below.refl _ _).alloc (Nat.le_refl _) _).alloc (by simp) _).alloc (by simp; omega) _).drew
              have hs3 : w.heap.size + 3 ≤ W3.heap.size := by rw [← hW3]; show _ ≤ (((w.alloc _).alloc _).alloc _).heap.size; simp
              have hrow3 : W3.heap[w.heap.size + 1 + 1]? = some (.cells (hA ⟨(l.held.length : Int) + 1, c.node, c.boot, l.next, i⟩) 67 (0, 0)) := by
                rw [← hW3]
                have := heap_alloc_new ((w.alloc (.cells (cA c vn) 34)).alloc (.cells #[.int .i64 0, .int .i64 0, .int .u64 0] 69)) (.cells (hA ⟨(l.held.length : Int) + 1, c.node, c.boot, l.next, i⟩) 67)
                rw [show ((w.alloc (.cells (cA c vn) 34)).alloc (.cells #[.int .i64 0, .int .i64 0, .int .u64 0] 69)).heap.size = w.heap.size + 1 + 1 by simp] at this
                exact this
              have hans3 : W3.heap[w.heap.size + 1]? = some (.cells #[.int .i64 0, .int .i64 0, .int .u64 0] 69 (0, 0)) := by
                rw [← hW3]
                exact (heap_alloc_old _ _ (by simp)).trans (new2 _ _ _)
              have hX3 := HX.out.below hb3
              have HB3 := Lib.hid hb3
              have HX3 := Lib.hid hX3
              have HR3 := Lib.hid hrow3
              have HA3 := Lib.hid hans3
              obtain ⟨y0, y1, y2, y3⟩ := led_cells hX3.box
              have r0 := (cell_of_row W3 _ 0 _ _ _ hrow3).trans rfl
              have r1 := (cell_of_row W3 _ 1 _ _ _ hrow3).trans rfl
              have r2 := (cell_of_row W3 _ 2 _ _ _ hrow3).trans rfl
              have r3 := (cell_of_row W3 _ 3 _ _ _ hrow3).trans rfl
              have r4 := (cell_of_row W3 _ 4 _ _ _ hrow3).trans rfl
              clear hW3 hb3 hrow3 hans3 hX3
              go_upto_region 8 with (fail)
              have HVN : Hid (∀ k, (Value.slice a l.held.length cap).ownBlock = some k → p + 1 ≤ k ∧ k < w.heap.size) := Lib.hid (fun k hk => own_block HX.out.held k hk)
              have HPN : Hid (∀ k, (Value.slice a l.held.length cap).ownBlock = some k → p + 1 ≤ k ∧ k < W3.heap.size) := Lib.hid (fun k hk => own_block HX3.out.held k hk)
              have hp4 : p < W3.heap.size := by omega
              go_cut [7] (fun s7 wx => s7 = .int .i64 l.held.length ∧ PutDone W3 p l (.slice a l.held.length cap) vl l.held.length ⟨(l.held.length : Int) + 1, c.node, c.boot, l.next, i⟩ wx)
              case first =>
                go_region_with ((go_at_call 150; refine (insert_box (W := W3.drew) HX3.out.drew l.held.length hk hlen ⟨(l.held.length : Int) + 1, c.node, c.boot, l.next, i⟩).mono ?_; rintro e w4 ⟨q, cap2, rfl, hown4, hgr4, hat4⟩; have hbox4 : w4.heap[p]? = some (.cells (lArr l (.slice a l.held.length cap) vl) 27 (0, 0)) := (hgr4.block p (by simp; omega) (fun e => by have := HPN.out p e.symm; omega)).trans ((heap_alloc_old W3.drew _ hp4).trans HX3.out.box); have t2 := (led_cells hbox4).2.2.1; have u2 := frozen_of (o := 2) hbox4; have HPD := Lib.hid (put_done HX3.out hk hown4 hgr4 hat4)))
                all_goals (go_wp2_with fail; go_meet; exact ⟨rfl, HPD.out⟩)
              case rest =>
                obtain ⟨rfl, hpd⟩ := hcut
                obtain ⟨vh5, hX5, hF5, hO5⟩ := hpd
                have hX5' := hX5.box
                have hsz5 := hF5.size
                have hrow5 := (hF5.block (w.heap.size + 1 + 1) (by omega) (by omega) (fun e => by have := HVN.out _ e.symm; omega)).trans HR3.out
                have hans5 := (hF5.block (w.heap.size + 1) (by omega) (by omega) (fun e => by have := HVN.out _ e.symm; omega)).trans HA3.out
                obtain ⟨y0, y1, y2, y3⟩ := led_cells hX5.box
                have u1 := frozen_of (o := 1) hX5.box
                have r0 := (cell_of_row _ _ 0 _ _ _ hrow5).trans rfl
                have r3 := (cell_of_row _ _ 3 _ _ _ hrow5).trans rfl
                have hn3 : l.next ≤ 18446744073709551614 := by have := beq_eq_false_iff_ne.1 f3'; omega
                have hne1 : ¬ (p = w.heap.size + 1 + 1) := by omega
                have hne2 : ¬ (w.heap.size + 1 + 1 = p) := by omega
                have hne3 : w.heap.size + 1 ≠ p := by omega
                have HX5 := Lib.hid hX5
                have HF5 := Lib.hid hF5
                have HO5 := Lib.hid hO5
                have HA5 := Lib.hid hans5
                have HN3 := Lib.hid hne3
                clear hX5 hX5' hF5 hO5 hrow5 hans5
                go_wp2_with (refine wpList_store_row rfl 69 (.tmp 6) (.tmp 89) rfl (w.heap.size + 1) #[.int .i64 1, .int .i64 ((l.held.length : Int) + 1), .int .u64 l.next] rfl rfl 69 _ ((heap_setCell_other _ _ _ _ HN3.out).trans HA5.out) (by kernel_rfl) rfl (ans_one _ _ _) ?_)
                refine bodyPost_ret (v := .agg #[.int .i64 1, .int .i64 ((l.held.length : Int) + 1), .int .u64 l.next]) (results_cell_row rfl _ _ (w.heap.size + 1) 69 _ (0, 0) _ rfl (setRow_heap _ _ _ _ _ _ ((heap_setCell_other _ _ _ _ HN3.out).trans HA5.out)) Try.underlying69 rfl (by kernel_rfl)) rfl ?_
                rw [grant_new HF.out, HK.out]
                have hfar3 : Far p (Value.slice a l.held.length cap).ownBlock w _ := Far.of_below HB3.out
                refine ⟨vh5, rfl, ?_, ?_, fun g hg => (HO5.out g hg).imp id (fun h => by omega)⟩
                · have hb := (HX5.out.next (l.next + 1)).row (s := w.heap.size + 1) (by omega) (fun e => by
                    rcases HO5.out _ e with h | h
                    · have := HVN.out _ h; omega
                    · omega) (fun e => by have := (own_block HX.out.last _ e).2; omega) #[.int .i64 1, .int .i64 ((l.held.length : Int) + 1), .int .u64 l.next]
                  unfold newRow
                  rw [HK.out]
                  exact hb
                · exact ((hfar3.trans HF5.out).setCell _ _).row (by omega) _
end La
end Go.Proofs.Ytgadbghlcejkfaa
