/- Rows of entries and lists of numbers that are the call's own, while a law writes into them. No condition. -/
import Derived.Test.YtgadbghlcejkfaaMyJ
import Derived.Test.YtgadbghlcejkfaaHlA
namespace Go.Proofs.Ytgadbghlcejkfaa
open Go.ChangeShapes Go.WideShapes Go.ChangeAt Go.RowKit Go.Deep
set_option linter.unusedVariables false
set_option maxRecDepth 100000
namespace Hx
open Hd Rc
theorem store_own {w : World} {B g n cap : Nat} {xs : List Int} (h : OwnI w B (.slice (some ⟨g, 0, none⟩) n cap) xs) (j : Nat) (z : Int) :
    OwnI (w.setCell ⟨g, j, none⟩ (.int .i64 z)) B (.slice (some ⟨g, 0, none⟩) n cap) (xs.set j z) := by
  have hn : n = xs.length := by
    have := h.2
    rcases this with ⟨h', _⟩ | ⟨g', cap', cur, h', _⟩
    · simp at h'
    · simp at h'; exact h'.2.1
  subst hn
  have h1 := (World.ownsRow.stored h j (.int .i64 z)).1
  unfold OwnI OwnK
  rw [List.length_set, List.map_set]
  exact h1
/-- a list of m numbers that is the call's own, in a block of its own -/
def LInv (w : World) (B : Nat) (ob : Option Nat) (v : Value) (m : Nat) : Prop := ∃ xs : List Int, OwnI w B v xs ∧ xs.length = m ∧ ∀ q, v.ownBlock = some q → some q ≠ ob
theorem LInv.open {w : World} {B m : Nat} {ob : Option Nat} {v : Value} (h : LInv w B ob v m) : ∃ a c, v = .slice a m c ∧ m ≤ c ∧ c ≤ maxLen ∧ (0 < m → ∃ q, a = some ⟨q, 0, none⟩ ∧ B ≤ q ∧ q < w.heap.size ∧ some q ≠ ob ∧ (∀ j, w.frozen? ⟨q, j, none⟩ = false) ∧ ∀ j, j < m → ∃ z, w.cell? ⟨q, j, none⟩ = some (.int .i64 z)) := by
  obtain ⟨xs, h1, rfl, h3⟩ := h
  rcases id h1.2 with ⟨rfl, h0⟩ | ⟨g, cap, cur, rfl, hg, hh, hle, hcm, hsz, htk⟩
  · exact ⟨none, 0, by rw [h0], by omega, by decide, fun h => by omega⟩
  · exact ⟨_, cap, rfl, hle, hcm, fun h => ⟨g, rfl, hg, (Array.getElem?_eq_some_iff.1 hh).1, h3 g rfl, fun j => frozen_of_row w g j _ _ hh, fun j hj => ⟨xs[j], by
      have q := World.ownsRow.cells h1 (g := g) rfl j (.int .i64 xs[j]) (by simp [List.getElem?_map, List.getElem?_eq_getElem hj])
      rw [add_plain, Nat.zero_add] at q
      exact q⟩⟩⟩
theorem own_other {w : World} {B e sz n g j : Nat} {v u : Value} {xs : List Value} (h : w.ownsRow B e sz v n xs) (hne : ∀ q, v.ownBlock = some q → q ≠ g) : (w.setCell ⟨g, j, none⟩ u).ownsRow B e sz v n xs := by
  refine ⟨h.1, ?_⟩
  rcases h.2 with h2 | ⟨q, cap, cur, rfl, h3, h4, h5⟩
  · exact .inl h2
  · exact .inr ⟨q, cap, cur, rfl, h3, (heap_setCell_other w ⟨g, j, none⟩ q u (by simpa using hne q rfl)).trans h4, h5⟩
theorem cell_other {w : World} {g q j o : Nat} {u : Value} (h : q ≠ g) : (w.setCell ⟨q, j, none⟩ u).cell? ⟨g, o, none⟩ = w.cell? ⟨g, o, none⟩ := by
  simp only [World.cell?]
  rw [heap_setCell_other w ⟨q, j, none⟩ g u (by simpa using fun e : g = q => h e.symm)]
theorem LInv.set {w : World} {B m : Nat} {ob : Option Nat} {v : Value} (h : LInv w B ob v m) (g j : Nat) : LInv (w.setCell ⟨g, j, none⟩ (.int .i64 99)) B ob v m := by
  obtain ⟨xs, h1, h2, h3⟩ := h
  by_cases c : v.ownBlock = some g
  · rcases id h1.2 with ⟨rfl, h0⟩ | ⟨q, cap, cur, rfl, hg, hh, hle, hcm, hsz, htk⟩
    · cases c
    · obtain rfl : q = g := by simpa [Value.ownBlock] using c
      exact ⟨xs.set j 99, store_own h1 j 99, by rw [List.length_set]; exact h2, h3⟩
  · exact ⟨xs, own_other h1 (fun q hq hn => c (by rw [hq, hn])), h2, h3⟩
theorem LInv.row {w : World} {B m g j : Nat} {v u : Value} (h : LInv w B (some g) v m) : LInv (w.setCell ⟨g, j, none⟩ u) B (some g) v m := by
  obtain ⟨xs, h1, h2, h3⟩ := h
  exact ⟨xs, own_other h1 (fun q hq hn => h3 q hq (by rw [hn])), h2, h3⟩
def t99 (r : ERow) : ERow := ({ r.1 with term := 99 }, r.2)
theorem flat_term : ∀ (rows : List ERow) (k : Nat) (h : k < rows.length), (rows.flatMap entC).set (k * 9) (.int .u64 99) = (rows.set k (t99 rows[k])).flatMap entC
  | r :: rows, 0, _ => by simp [t99, entC]
  | r :: rows, k + 1, h => by
    have hk : k < rows.length := by simpa using h
    have := flat_term rows k hk
    simp only [List.flatMap_cons, List.set_cons_succ, List.getElem_cons_succ]
    rw [← this, List.set_append_right _ _ (by rw [entC_len]; omega), entC_len, show (k + 1) * 9 - 9 = k * 9 by omega]
/-- the rows, with lists that are the call's own -/
def RInv (w : World) (B : Nat) (v : Value) (rows : List ERow) : Prop := OwnR 9 entC 36 w B v rows ∧ ∀ r ∈ rows, LInv w B v.ownBlock r.2 r.1.cmd.nodes.length
theorem RInv.set {w : World} {B : Nat} {v : Value} {rows : List ERow} (h : RInv w B v rows) (g j : Nat) (hg : some g ≠ v.ownBlock) : RInv (w.setCell ⟨g, j, none⟩ (.int .i64 99)) B v rows :=
  ⟨own_other h.1 (fun q hq hn => hg (by rw [hq, hn])), fun r hr => (h.2 r hr).set g j⟩
theorem RInv.term {w : World} {B g c k : Nat} {rows : List ERow} (h : RInv w B (.slice (some ⟨g, 0, none⟩) rows.length c) rows) (hk : k < rows.length) : RInv (w.setCell ⟨g, k * 9, none⟩ (.int .u64 99)) B (.slice (some ⟨g, 0, none⟩) rows.length c) (rows.set k (t99 rows[k])) := by
  refine ⟨?_, fun r hr => ?_⟩
  · have h1 := (World.ownsRow.stored h.1 (k * 9) (.int .u64 99)).1
    unfold OwnR
    rw [List.length_set, ← flat_term rows k hk]
    exact h1
  · rcases List.mem_or_eq_of_mem_set hr with q | q
    · exact (h.2 r q).row
    · subst q
      exact (h.2 rows[k] (List.getElem_mem hk)).row (v := rows[k].2)
theorem LInv.rowT {w : World} {B m g j : Nat} {ob : Option Nat} {v u : Value} {cs : Array Value} {fr : Nat × Nat} (h : LInv w B ob v m) (hg : w.heap[g]? = some (Obj.cells cs 36 fr)) : LInv (w.setCell ⟨g, j, none⟩ u) B ob v m := by
  obtain ⟨xs, h1, h2, h3⟩ := h
  exact ⟨xs, own_cellT h1 hg (by decide), h2, h3⟩
theorem LInv.ne {w : World} {B m q : Nat} {ob : Option Nat} {c : Nat} (h : LInv w B ob (.slice (some ⟨q, 0, none⟩) m c) m) {g : Nat} {cs : Array Value} {fr : Nat × Nat} (hx : w.heap[g]? = some (Obj.cells cs 32 fr)) : q ≠ g := by
  obtain ⟨xs, h1, h2, h3⟩ := h
  exact own_ty_ne h1 hx (by decide) q rfl
/-- a piece of n rows from row k0 on, of m rows of the call's own in block g -/
def PI (w : World) (B g c m k0 n : Nat) : Prop := n = 0 ∨ (k0 + n ≤ m ∧ ∃ rows : List ERow, rows.length = m ∧ RInv w B (.slice (some ⟨g, 0, none⟩) rows.length c) rows)
theorem PI.of_log {w : World} {B : Nat} {va : Value} {log : List Ent} (h : LogP w B va log) : ∃ g c m k0 a7 c7, va = .slice a7 log.length c7 ∧ PI w B g c m k0 log.length ∧ (0 < log.length → a7 = some ⟨g, k0 * 9, none⟩) := by
  obtain ⟨v, rows, own, ents, pc⟩ := h
  rcases pc with ⟨rfl, rfl⟩ | ⟨g, off, cap, k, hv, rfl, hk, -⟩ | ⟨ad, c, rfl, -, rfl⟩
  · exact ⟨0, 0, 0, 0, none, 0, rfl, .inl rfl, fun h => absurd h (by simp)⟩
  · rcases id own.2 with ⟨e, -⟩ | ⟨g', cap', cur, e, -⟩
    · rw [hv] at e
      simp at e
    · rw [e] at hv
      simp only [Value.slice.injEq, Option.some.injEq, Addr.mk.injEq, and_true] at hv
      obtain ⟨⟨rfl, rfl⟩, -, rfl⟩ := hv
      subst e
      refine ⟨g', cap', rows.length, k, _, _, rfl, .inr ⟨by simpa using hk, rows, rfl, own, fun r hr => ⟨r.1.cmd.nodes, (ents r hr).1, rfl, (ents r hr).2.2.2⟩⟩, fun _ => by rw [Nat.zero_add]⟩
  · exact ⟨0, 0, 0, 0, _, _, rfl, .inl rfl, fun h => absurd h (by simp)⟩
theorem PI.at {w : World} {B g c m k0 n i : Nat} (h : PI w B g c m k0 n) (hi : i < n) : B ≤ g ∧ g < w.heap.size ∧ (∃ cs fr, w.heap[g]? = some (Obj.cells cs 36 fr)) ∧ w.frozen? ⟨g, k0 * 9 + i * 9, none⟩ = false ∧ (∃ t, w.cell? ⟨g, k0 * 9 + i * 9, none⟩ = some (.int .u64 t)) ∧ ∃ vr l, w.cell? ⟨g, k0 * 9 + i * 9 + 4, none⟩ = some vr ∧ LInv w B (some g) vr l := by
  rcases h with h | ⟨hm, rows, rfl, hR⟩
  · omega
  · have hk : k0 + i < rows.length := by omega
    have hg := World.ownsRow.lt hR.1 g rfl
    have hf := World.ownsRow.frozenAt hR.1 ((k0 + i) * 9)
    have h1 := World.ownsRow.cells hR.1 (g := g) rfl ((k0 + i) * 9) _ (flat_at entC_len rows (k0 + i) 0 _ _ (List.getElem?_eq_getElem hk) rfl)
    have h2 := World.ownsRow.cells hR.1 (g := g) rfl ((k0 + i) * 9 + 4) _ (flat_at entC_len rows (k0 + i) 4 _ _ (List.getElem?_eq_getElem hk) rfl)
    rw [add_plain, Nat.zero_add] at h1 h2
    rw [Nat.add_mul] at hf h1 h2
    refine ⟨hg.1, hg.2, ?_, hf, ⟨_, h1⟩, _, _, h2, hR.2 _ (List.getElem_mem hk)⟩
    rcases id hR.1.2 with ⟨e, -⟩ | ⟨q, cap, cur, e, -, hh, -⟩
    · simp at e
    · simp only [Value.slice.injEq, Option.some.injEq, Addr.mk.injEq] at e
      obtain ⟨⟨rfl, -⟩, -⟩ := e
      exact ⟨_, _, hh⟩
theorem PI.term {w : World} {B g c m k0 n i : Nat} (h : PI w B g c m k0 n) (hi : i < n) : PI (w.setCell ⟨g, k0 * 9 + i * 9, none⟩ (.int .u64 99)) B g c m k0 n := by
  rcases h with h | ⟨hm, rows, rfl, hR⟩
  · omega
  · have hk : k0 + i < rows.length := by omega
    have q := RInv.term hR hk
    rw [Nat.add_mul] at q
    refine .inr ⟨hm, rows.set (k0 + i) (t99 rows[k0 + i]), by rw [List.length_set], ?_⟩
    rw [List.length_set]
    exact q
theorem PI.set {w : World} {B g c m k0 n q j : Nat} (h : PI w B g c m k0 n) (hq : some q ≠ some g) : PI (w.setCell ⟨q, j, none⟩ (.int .i64 99)) B g c m k0 n := by
  rcases h with h | ⟨hm, rows, hl, hR⟩
  · exact .inl h
  · exact .inr ⟨hm, rows, hl, hR.set q j hq⟩
theorem PI.any {w : World} {B g c m k0 n q j : Nat} (h : PI w B g c m k0 n) (hn : n = 0 ∨ some q ≠ some g) : PI (w.setCell ⟨q, j, none⟩ (.int .i64 99)) B g c m k0 n := by
  rcases hn with hn | hn
  · exact .inl hn
  · exact h.set hn
theorem box_keep {w : World} {g g7 j : Nat} {u : Value} {o : Obj} (h : w.heap[g7]? = some o) (hne : g ≠ g7) : (w.setCell ⟨g, j, none⟩ u).heap[g7]? = some o :=
  (heap_setCell_other w ⟨g, j, none⟩ g7 u (by simpa using fun e : g7 = g => hne e.symm)).trans h
theorem ent_ne {w : World} {g g7 : Nat} {cs cs2 : Array Value} {fr fr2 : Nat × Nat} (h : w.heap[g]? = some (Obj.cells cs 36 fr)) (hx : w.heap[g7]? = some (Obj.cells cs2 32 fr2)) : g ≠ g7 := by
  intro e
  subst e
  rw [hx] at h
  simp only [Option.some.injEq, Obj.cells.injEq] at h
  exact absurd h.2.1 (by decide)
end Hx
end Go.Proofs.Ytgadbghlcejkfaa
