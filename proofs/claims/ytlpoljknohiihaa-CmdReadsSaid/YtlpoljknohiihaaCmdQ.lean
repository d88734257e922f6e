/- A field of the list read: put with the list's field. No condition. -/
import Derived.Test.YtlpoljknohiihaaCmdP
namespace Go.Proofs.Ytlpoljknohiihaa
open Go.ChangeShapes Go.WideShapes Go.ChangeAt Go.RowKit
set_option linter.unusedVariables false
namespace Cm
/-- below B, only the blocks of S change -/
def Past (B : Nat) (S : Nat → Prop) (w w' : World) : Prop := w'.os = w.os ∧ w'.tape = w.tape ∧ w'.output = w.output ∧ w.heap.size ≤ w'.heap.size ∧ ∀ k, k < B → ¬ S k → w'.heap[k]? = w.heap[k]?
theorem Past.trans {B : Nat} {S : Nat → Prop} {a b c : World} (h : Past B S a b) (k : Past B S b c) : Past B S a c :=
  ⟨k.1.trans h.1, k.2.1.trans h.2.1, k.2.2.1.trans h.2.2.1, Nat.le_trans h.2.2.2.1 k.2.2.2.1, fun i hi hs => (k.2.2.2.2 i hi hs).trans (h.2.2.2.2 i hi hs)⟩
theorem Past.only {S : Nat → Prop} {w w' : World} (h : Past w.heap.size S w w') : Only S w w' := h
theorem Past.below {B : Nat} {w w' : World} (h : Below B w w') (S : Nat → Prop) : Past B S w w' := ⟨h.os, h.tape, h.output, h.size, fun k hk _ => h.block k hk⟩
theorem Past.setCell {B : Nat} {S : Nat → Prop} (w : World) (p : Addr) (u : Value) (hs : S p.block) : Past B S w (w.setCell p u) :=
  ⟨rfl, rfl, rfl, by simp, fun k hk hn => Below.heap_setCell w p u k fun e => hn (e ▸ hs)⟩
theorem own_set {w : World} {B g i : Nat} {v u : Value} {zs : List Int} (hown : OwnI w B v zs) (hg : g < B) : OwnI (w.setCell ⟨g, i, none⟩ u) B v zs := by
  rcases hown.2 with h | ⟨k, cap, cur, e, hk, hh, hr⟩
  · exact ⟨hown.1, .inl h⟩
  · exact ⟨hown.1, .inr ⟨k, cap, cur, e, hk, (Below.heap_setCell w _ u k (by simp; omega)).trans hh, hr⟩⟩
theorem own_form {w : World} {B : Nat} {v : Value} {zs : List Int} (hown : OwnI w B v zs) : ∃ a n q, v = .slice a n q := by
  rcases hown.2 with ⟨h, _⟩ | ⟨k, cap, cur, e, _⟩
  · exact ⟨_, _, _, h⟩
  · exact ⟨_, _, _, e⟩
/-- the command at h has the nodes zs, lying in memory from B on -/
def PutN (B h : Nat) (c : Cmd) (zs : List Int) (w : World) (e : Ending) (w' : World) : Prop :=
  e = .returned (.tuple #[]) ∧ ∃ vn, w'.heap[h]? = some (.cells (cArr c vn) 25 (0, 0)) ∧ OwnI w' B vn zs ∧ Past B (· = h) w w'

set_option maxHeartbeats 1000000 in
theorem putn_any (B h : Nat) (c : Cmd) (vn : Value) (zs : List Int) (n : Int) (w : World) (hh : w.heap[h]? = some (.cells (cArr c vn) 25 (0, 0))) (hown : OwnI w B vn zs) (hB : h < B) (hBw : B ≤ w.heap.size) (h0 : 0 ≤ n) (h1 : n ≤ 65535) (hl : zs.length ≤ 1000) :
    Calls Try.prog 39 #[.pointer (some ⟨h, 0, none⟩), .int .i64 6, .int .u64 n] w (PutN B h c (zs ++ [n]) w) := by
  obtain ⟨c1, c2, c3, c4, c5, c6, c7⟩ := fld_cells hh
  have hfr := frozen_of_row w h 3 _ _ hh
  have hnw := Lib.hid (show (Lit.int .i64 n).wf = true from WalkArith.wf_i64 (by omega))
  go_enter Try.func39, Try.ntmps39
  go_wp2_with (at_builtin; (refine appI rfl _ _ rfl B _ _ rfl (hown.alloc _) _ [n] rfl (Sl.new (fr := (0, 0)) w #[Value.int .i64 n] [n] rfl rfl (Nat.le_refl _) (by decide) (by intro y hy; simp at hy; subst hy; exact hnw.out)) (by simp; omega) (by simp; omega) ?_; intro u1 w1 hown1 hb1; obtain ⟨a1, n1, q1, hv1⟩ := own_form hown1; subst hv1; have hh1 := (hb1.block h hB).trans ((Below.heap_alloc w _ h (by omega)).trans hh); obtain ⟨d1, d2, d3, d4, d5, d6, d7⟩ := fld_cells hh1; have hf1 := frozen_of_row w1 h 3 _ _ hh1))
  refine bodyPost_end (results_none rfl _ _ _) rfl ?_
  exact ⟨rfl, _, copy_store hh1 _, own_set hown1 hB, ((Past.below ((Below.refl _ _).alloc hBw _) _).trans (Past.below hb1 _)).trans (Past.setCell _ _ _ rfl)⟩
end Cm
end Go.Proofs.Ytlpoljknohiihaa
