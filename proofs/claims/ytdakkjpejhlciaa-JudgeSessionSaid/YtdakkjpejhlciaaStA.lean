/- What a reader of a stream does: lists alone; and how one lies in memory. No condition. -/
import Derived.Test.YtdakkjpejhlciaaFrm
import Derived.Test.YtdakkjpejhlciaaApp
import Derived.Laws.Rows
import Derived.Deep.QuietTactic
import Derived.BigQuiet
namespace Go.Proofs.Ytdakkjpejhlciaa
open Go.ChangeShapes Go.WideShapes Go.ChangeAt Go.RowKit
set_option linter.unusedVariables false
set_option maxRecDepth 100000
namespace St
def emp : ByteArray := ⟨#[]⟩
structure Rst where
  st : Int
  want : Int
  text : List Int
def zero : Rst := ⟨0, 0, []⟩
def mkQ (t : List Int) : Frm := ⟨81, strOfNums t⟩
def queryV (s : Rst) : Option Frm × Rst := if (s.text.length : Int) < s.want then (none, s) else (some (mkQ s.text), zero)
def stepV (s : Rst) (x : Int) : Option Frm × Rst :=
  if s.st = 0 then (if x = 66 ∨ x = 69 then (some ⟨x, emp⟩, s) else if x = 81 then (none, ⟨1, s.want, s.text⟩) else (none, ⟨3, s.want, s.text⟩))
  else if s.st = 1 then (if 48 < x then (none, ⟨3, s.want, s.text⟩) else queryV ⟨2, x, s.text⟩)
  else if s.st = 2 then queryV ⟨2, s.want, s.text ++ [x]⟩
  else (none, s)
def runF (p : List Frm × Rst) (x : Int) : List Frm × Rst := (p.1 ++ (stepV p.2 x).1.toList, (stepV p.2 x).2)
def runV (s : Rst) (xs : List Int) : List Frm × Rst := xs.foldl runF ([], s)
theorem run_snoc (s : Rst) (xs : List Int) (x : Int) : runV s (xs ++ [x]) = ((runV s xs).1 ++ (stepV (runV s xs).2 x).1.toList, (stepV (runV s xs).2 x).2) := by
  unfold runV; rw [List.foldl_append]; rfl
theorem run_from : ∀ (xs : List Int) (fs : List Frm) (s : Rst), xs.foldl runF (fs, s) = (fs ++ (runV s xs).1, (runV s xs).2)
  | [], fs, s => by simp [runV]
  | x :: xs, fs, s => by
    show xs.foldl runF (runF (fs, s) x) = _
    have h1 := run_from xs (fs ++ (stepV s x).1.toList) (stepV s x).2
    have h2 := run_from xs ([] ++ (stepV s x).1.toList) (stepV s x).2
    have e : runV s (x :: xs) = xs.foldl runF ([] ++ (stepV s x).1.toList, (stepV s x).2) := rfl
    rw [e, h2, show runF (fs, s) x = (fs ++ (stepV s x).1.toList, (stepV s x).2) from rfl, h1]
    simp
theorem run_app (s : Rst) (xs ys : List Int) : runV s (xs ++ ys) = ((runV s xs).1 ++ (runV (runV s xs).2 ys).1, (runV (runV s xs).2 ys).2) := by
  have h := run_from ys (runV s xs).1 (runV s xs).2
  rw [← h]
  unfold runV; rw [List.foldl_append]
/-- which states there can be -/
def okR (s : Rst) : Prop := (s.st = 0 ∨ s.st = 1 ∨ s.st = 2 ∨ s.st = 3) ∧ 0 ≤ s.want ∧ s.want ≤ 48 ∧ s.text.length ≤ 48 ∧ (∀ x ∈ s.text, (Lit.int .u8 x).wf = true) ∧ (s.st ≠ 2 → s.want = 0 ∧ s.text = []) ∧ (s.st = 2 → (s.text.length : Int) < s.want)
theorem ok_zero : okR zero := by unfold okR zero; simp
theorem ok_query {s : Rst} (h : s.st = 2 ∧ 0 ≤ s.want ∧ s.want ≤ 48 ∧ (∀ x ∈ s.text, (Lit.int .u8 x).wf = true) ∧ s.text.length ≤ 48) : okR (queryV s).2 := by
  unfold queryV
  by_cases c : (s.text.length : Int) < s.want
  · rw [if_pos c]; exact ⟨by simp [h.1], h.2.1, h.2.2.1, h.2.2.2.2, h.2.2.2.1, fun q => absurd h.1 q, fun _ => c⟩
  · rw [if_neg c]; exact ok_zero
theorem ok_step {s : Rst} (h : okR s) {x : Int} (hx : (Lit.int .u8 x).wf = true) : okR (stepV s x).2 := by
  have hb := bounds_u8 hx
  obtain ⟨h1, h2, h3, h4, h5, h6, h7⟩ := h
  unfold stepV
  by_cases c0 : s.st = 0
  · obtain ⟨q1, q2⟩ := h6 (by omega)
    rw [if_pos c0]
    by_cases c1 : x = 66 ∨ x = 69
    · rw [if_pos c1]; exact ⟨h1, h2, h3, h4, h5, h6, h7⟩
    · rw [if_neg c1]
      by_cases c2 : x = 81
      · rw [if_pos c2]; exact ⟨by simp, h2, h3, h4, h5, fun _ => ⟨q1, q2⟩, fun q => by simp at q⟩
      · rw [if_neg c2]; exact ⟨by simp, h2, h3, h4, h5, fun _ => ⟨q1, q2⟩, fun q => by simp at q⟩
  · rw [if_neg c0]
    by_cases c1 : s.st = 1
    · obtain ⟨q1, q2⟩ := h6 (by omega)
      rw [if_pos c1]
      by_cases c2 : 48 < x
      · rw [if_pos c2]; exact ⟨by simp, h2, h3, h4, h5, fun _ => ⟨q1, q2⟩, fun q => by simp at q⟩
      · rw [if_neg c2]; exact ok_query ⟨rfl, hb.1, by show x ≤ 48; omega, h5, h4⟩
    · rw [if_neg c1]
      by_cases c2 : s.st = 2
      · rw [if_pos c2]
        have := h7 c2
        refine ok_query ⟨rfl, h2, h3, ?_, by show (s.text ++ [x]).length ≤ 48; rw [List.length_append]; simp; omega⟩
        intro y hy
        rcases List.mem_append.1 hy with q | q
        · exact h5 y q
        · simp at q; subst q; exact hx
      · rw [if_neg c2]; exact ⟨h1, h2, h3, h4, h5, h6, h7⟩
theorem ok_run {s : Rst} (h : okR s) : ∀ (xs : List Int), (∀ x ∈ xs, (Lit.int .u8 x).wf = true) → okR (runV s xs).2 := by
  intro xs
  induction xs generalizing s with
  | nil => intro _; exact h
  | cons x xs ih =>
    intro hx
    have := ih (ok_step h (hx x (by simp))) (fun y hy => hx y (by simp [hy]))
    rw [show x :: xs = [x] ++ xs from rfl, run_app]
    exact this
theorem run_len {s : Rst} : ∀ (xs : List Int), (runV s xs).1.length ≤ xs.length := by
  intro xs
  induction xs generalizing s with
  | nil => exact Nat.le_refl _
  | cons x xs ih =>
    have := ih (s := (stepV s x).2)
    rw [show x :: xs = [x] ++ xs from rfl, run_app]
    simp only [List.length_append]
    have e : (runV s [x]).1.length ≤ 1 := by
      show ([] ++ (stepV s x).1.toList).length ≤ 1
      cases (stepV s x).1 <;> simp
    have e2 : (runV s [x]).2 = (stepV s x).2 := rfl
    rw [e2]
    simp; omega
/-- a reader in memory: its block g, its text's block S -/
def Rdr (B : Nat) (w : World) (g : Nat) (s : Rst) (S : Option Nat) : Prop :=
  ∃ vt, w.heap[g]? = some (.cells #[.int .i64 s.st, .int .i64 s.want, vt] 86 (0, 0)) ∧ Own w B vt s.text ∧ vt.ownBlock = S ∧ S ≠ some g ∧ B ≤ g
theorem Rdr.lt {B : Nat} {w : World} {g : Nat} {s : Rst} {S : Option Nat} (h : Rdr B w g s S) : g < w.heap.size := by
  obtain ⟨vt, h1, -⟩ := h
  exact (Array.getElem?_eq_some_iff.1 h1).1
theorem Rdr.ltS {B : Nat} {w : World} {g : Nat} {s : Rst} {S : Option Nat} (h : Rdr B w g s S) : ∀ q, S = some q → B ≤ q ∧ q < w.heap.size := by
  obtain ⟨vt, -, h2, rfl, -⟩ := h
  exact fun q hq => World.ownsRow.lt h2 q hq
/-- all but the reader is as it was -/
def FarR (B g : Nat) (S : Option Nat) (w w' : World) : Prop := Below B w w' ∧ ∀ k, k < w.heap.size → k ≠ g → some k ≠ S → w'.heap[k]? = w.heap[k]?
def NewS (w : World) (S S' : Option Nat) : Prop := S' = S ∨ ∀ q, S' = some q → w.heap.size ≤ q
theorem own_same {w w' : World} {B : Nat} {v : Value} {zs : List Int} (h : Own w B v zs) (hs : ∀ q, v.ownBlock = some q → w'.heap[q]? = w.heap[q]?) : Own w' B v zs := by
  refine ⟨h.1, ?_⟩
  rcases h.2 with h2 | ⟨q, cap, cur, rfl, h3, h4, h5⟩
  · exact .inl h2
  · exact .inr ⟨q, cap, cur, rfl, h3, (hs q rfl).trans h4, h5⟩
theorem Rdr.same {B : Nat} {w w' : World} {g : Nat} {s : Rst} {S : Option Nat} (h : Rdr B w g s S) (h1 : w'.heap[g]? = w.heap[g]?) (h2 : ∀ q, S = some q → w'.heap[q]? = w.heap[q]?) : Rdr B w' g s S := by
  obtain ⟨vt, g1, g2, rfl, g4⟩ := h
  exact ⟨vt, h1.trans g1, own_same g2 h2, rfl, g4⟩
theorem Rdr.below {B : Nat} {w w' : World} {g : Nat} {s : Rst} {S : Option Nat} (h : Rdr B w g s S) (hb : Below w.heap.size w w') : Rdr B w' g s S :=
  h.same (hb.block g h.lt) fun q hq => hb.block q (h.ltS q hq).2
/-- another reader is as it was -/
theorem Rdr.far {B : Nat} {w w' : World} {g g2 : Nat} {s : Rst} {S S2 : Option Nat} (h : Rdr B w g s S) (hb : FarR B g2 S2 w w') (h1 : g ≠ g2) (h2 : some g ≠ S2) (h3 : S ≠ some g2) (h4 : ∀ q, S = some q → S2 ≠ some q) : Rdr B w' g s S :=
  h.same (hb.2 g h.lt h1 h2) fun q hq => hb.2 q (h.ltS q hq).2 (fun e => h3 (by rw [hq, e])) (fun e => h4 q hq e.symm)
theorem FarR.refl {B g : Nat} {S : Option Nat} (w : World) : FarR B g S w w := ⟨Below.refl _ _, fun _ _ _ _ => rfl⟩
theorem FarR.trans {B g : Nat} {S S1 : Option Nat} {w w1 w2 : World} (h : FarR B g S w w1) (hs : NewS w S S1) (h2 : FarR B g S1 w1 w2) : FarR B g S w w2 :=
  ⟨h.1.trans h2.1, fun k hk hn hS => (h2.2 k (Nat.lt_of_lt_of_le hk h.1.size) hn (by
    rcases hs with rfl | hs
    · exact hS
    · intro e; have := hs k e.symm; omega)).trans (h.2 k hk hn hS)⟩
theorem FarR.of_below {B g : Nat} {S : Option Nat} {w w1 : World} (h : Below w.heap.size w w1) (hB : B ≤ w.heap.size) : FarR B g S w w1 := ⟨h.mono hB, fun k hk _ _ => h.block k hk⟩
theorem NewS.refl {w : World} {S : Option Nat} : NewS w S S := .inl rfl
theorem NewS.trans {B g : Nat} {w w1 : World} {S S1 S2 : Option Nat} (hw : w.heap.size ≤ w1.heap.size) (h : NewS w S S1) (h2 : NewS w1 S1 S2) : NewS w S S2 := by
  rcases h2 with rfl | h2
  · exact h
  · exact .inr fun q hq => Nat.le_trans hw (h2 q hq)
theorem FarR.setRow {B g : Nat} {S : Option Nat} {w w1 : World} (h : FarR B g S w w1) (hB : B ≤ g) (cs : Array Value) : FarR B g S w (w1.setRow g cs) :=
  ⟨h.1.trans ⟨rfl, rfl, rfl, by simp, fun k hk => setRow_other w1 g k cs (by omega)⟩, fun k hk hn hS => (setRow_other w1 g k cs hn).trans (h.2 k hk hn hS)⟩
theorem FarR.setCell {B g : Nat} {S : Option Nat} {w w1 : World} (h : FarR B g S w w1) (hB : B ≤ g) (j : Nat) (v : Value) : FarR B g S w (w1.setCell ⟨g, j, none⟩ v) :=
  ⟨h.1.setCell hB v, fun k hk hn hS => (heap_setCell_other w1 ⟨g, j, none⟩ k v (by simpa using hn)).trans (h.2 k hk hn hS)⟩
/-- a block laid since -/
theorem FarR.rowNew {B g q : Nat} {S : Option Nat} {w w1 : World} (h : FarR B g S w w1) (hq : w.heap.size ≤ q) (hB : B ≤ w.heap.size) (cs : Array Value) : FarR B g S w (w1.setRow q cs) :=
  ⟨h.1.trans ⟨rfl, rfl, rfl, by simp, fun k hk => setRow_other w1 q k cs (by omega)⟩, fun k hk hn hS => (setRow_other w1 q k cs (by omega)).trans (h.2 k hk hn hS)⟩
theorem FarR.alloc {B g : Nat} {S : Option Nat} {w w1 : World} (h : FarR B g S w w1) (hB : B ≤ w.heap.size) (o : Obj) : FarR B g S w (w1.alloc o) :=
  ⟨h.1.alloc (Nat.le_trans hB (by have := h.1.size; omega)) o, fun k hk hn hS => (heap_alloc_old w1 o (by have := h.1.size; omega)).trans (h.2 k hk hn hS)⟩
theorem FarR.drewN {B g : Nat} {S : Option Nat} {w w1 : World} (h : FarR B g S w w1) (n : Nat) : FarR B g S w (w1.drewN n) := ⟨h.1.trans ⟨rfl, rfl, rfl, Nat.le_refl _, fun _ _ => rfl⟩, h.2⟩
theorem FarR.cellNew {B g q : Nat} {S : Option Nat} {w w1 : World} (h : FarR B g S w w1) (hq : w.heap.size ≤ q) (hB : B ≤ w.heap.size) (j : Nat) (v : Value) : FarR B g S w (w1.setCell ⟨q, j, none⟩ v) :=
  ⟨h.1.setCell (Nat.le_trans hB hq) v, fun k hk hn hS => (heap_setCell_other w1 ⟨q, j, none⟩ k v (by show k ≠ q; omega)).trans (h.2 k hk hn hS)⟩
theorem Rdr.cellNew {B : Nat} {w : World} {g q : Nat} {s : Rst} {S : Option Nat} (h : Rdr B w g s S) (h1 : g ≠ q) (h2 : S ≠ some q) (j : Nat) (v : Value) : Rdr B (w.setCell ⟨q, j, none⟩ v) g s S :=
  h.same (heap_setCell_other w ⟨q, j, none⟩ g v h1) fun p hp => heap_setCell_other w ⟨q, j, none⟩ p v (by show p ≠ q; rintro rfl; exact h2 hp)
theorem Rdr.drewN {B : Nat} {w : World} {g : Nat} {s : Rst} {S : Option Nat} (h : Rdr B w g s S) (n : Nat) : Rdr B (w.drewN n) g s S := h.same rfl fun _ _ => rfl
theorem Rdr.alloc {B : Nat} {w : World} {g : Nat} {s : Rst} {S : Option Nat} (h : Rdr B w g s S) (o : Obj) : Rdr B (w.alloc o) g s S := h.below ((Below.refl _ _).alloc (Nat.le_refl _) _)
theorem two0 {w : World} {g : Nat} {a b v : Value} {t : TypeId} (h : w.heap[g]? = some (.cells #[a, b] t (0, 0))) : (w.setCell ⟨g, 0, none⟩ v).heap[g]? = some (.cells #[v, b] t (0, 0)) := (heap_setCell_same w g 0 _ t v h).trans rfl
theorem two1 {w : World} {g : Nat} {a b v : Value} {t : TypeId} (h : w.heap[g]? = some (.cells #[a, b] t (0, 0))) : (w.setCell ⟨g, 1, none⟩ v).heap[g]? = some (.cells #[a, v] t (0, 0)) := (heap_setCell_same w g 1 _ t v h).trans rfl
theorem thr0 {w : World} {g : Nat} {a b c v : Value} {t : TypeId} (h : w.heap[g]? = some (.cells #[a, b, c] t (0, 0))) : (w.setCell ⟨g, 0, none⟩ v).heap[g]? = some (.cells #[v, b, c] t (0, 0)) := (heap_setCell_same w g 0 _ t v h).trans rfl
theorem thr1 {w : World} {g : Nat} {a b c v : Value} {t : TypeId} (h : w.heap[g]? = some (.cells #[a, b, c] t (0, 0))) : (w.setCell ⟨g, 1, none⟩ v).heap[g]? = some (.cells #[a, v, c] t (0, 0)) := (heap_setCell_same w g 1 _ t v h).trans rfl
theorem thr2 {w : World} {g : Nat} {a b c v : Value} {t : TypeId} (h : w.heap[g]? = some (.cells #[a, b, c] t (0, 0))) : (w.setCell ⟨g, 2, none⟩ v).heap[g]? = some (.cells #[a, b, v] t (0, 0)) := (heap_setCell_same w g 2 _ t v h).trans rfl
theorem drow {w : World} {g : Nat} {o : Obj} (n : Nat) (h : w.heap[g]? = some o) : (w.drewN n).heap[g]? = some o := h
theorem crow {w : World} {g q j : Nat} {o : Obj} {v : Value} (h : w.heap[g]? = some o) (hq : g ≠ q) : (w.setCell ⟨q, j, none⟩ v).heap[g]? = some o := (heap_setCell_other w ⟨q, j, none⟩ g v hq).trans h
theorem arow {w : World} {g : Nat} {o x : Obj} (h : w.heap[g]? = some x) : (w.alloc o).heap[g]? = some x := (heap_alloc_old w o (Array.getElem?_eq_some_iff.1 h).1).trans h
theorem anew {w : World} {o : Obj} {n : Nat} (h : w.heap.size = n) : (w.alloc o).heap[n]? = some o := by subst h; exact heap_alloc_new w o
theorem own_set {w : World} {B g j : Nat} {v u : Value} {zs : List Int} (h : Own w B v zs) (hn : v.ownBlock ≠ some g) : Own (w.setCell ⟨g, j, none⟩ u) B v zs :=
  own_same h fun q hq => heap_setCell_other w ⟨g, j, none⟩ q u (by show q ≠ g; rintro rfl; exact hn hq)
theorem Rdr.setSt {B : Nat} {w : World} {g : Nat} {s : Rst} {S : Option Nat} (h : Rdr B w g s S) (n : Int) : Rdr B (w.setCell ⟨g, 0, none⟩ (.int .i64 n)) g ⟨n, s.want, s.text⟩ S := by
  obtain ⟨vt, g1, g2, rfl, g3, g4⟩ := h
  exact ⟨vt, thr0 g1, own_set g2 g3, rfl, g3, g4⟩
theorem Rdr.setWant {B : Nat} {w : World} {g : Nat} {s : Rst} {S : Option Nat} (h : Rdr B w g s S) (n : Int) : Rdr B (w.setCell ⟨g, 1, none⟩ (.int .i64 n)) g ⟨s.st, n, s.text⟩ S := by
  obtain ⟨vt, g1, g2, rfl, g3, g4⟩ := h
  exact ⟨vt, thr1 g1, own_set g2 g3, rfl, g3, g4⟩
theorem Rdr.setText {B : Nat} {w : World} {g : Nat} {s : Rst} {S : Option Nat} (h : Rdr B w g s S) {v : Value} {zs : List Int} (hv : Own w B v zs) (hn : v.ownBlock ≠ some g) : Rdr B (w.setCell ⟨g, 2, none⟩ v) g ⟨s.st, s.want, zs⟩ v.ownBlock := by
  obtain ⟨vt, g1, g2, rfl, g3, g4⟩ := h
  exact ⟨v, thr2 g1, own_set hv hn, rfl, hn, g4⟩
def oArr : Option Frm → Array Value
  | none => #[.int .u8 0, .string ⟨#[]⟩]
  | some f => #[.int .u8 f.kind, .string f.text]
/-- what a step tells -/
def StepR (B g : Nat) (S : Option Nat) (p : Option Frm × Rst) (w : World) (e : Ending) (w' : World) : Prop :=
  ∃ S', e = .returned (.tuple #[.agg (oArr p.1), .bool p.1.isSome]) ∧ Rdr B w' g p.2 S' ∧ NewS w S S' ∧ FarR B g S w w'
theorem results_cell2 {P : Program} {fn : Func} {p a : Tmp} {ty : TypeId} (h : fn.results = #[.cell p ty, .tmp a]) (tmps : Array Value) (w : World) (g : Nat) (t : TypeId) (cs : Array Value) (fr : Nat × Nat) (d : TypeDesc)
    (hp : tmps.getD p undef = .pointer (some ⟨g, 0, none⟩)) (hg : w.heap[g]? = some (.cells cs t fr))
    (hu : P.underlying ty = some d) (hd : (match d with | .struct _ | .array _ _ => true | _ => false) = true) (hi : (P.info? ty).map (·.size) = some cs.size) {x : Value} (hx : tmps.getD a undef = x) :
    (results fn tmps).run P w = .ok (.tuple #[.agg cs, x]) w := by
  subst hx
  have hp' : tmps[p]?.getD undef = .pointer (some ⟨g, 0, none⟩) := by simpa using hp
  simp [results, h, hp', asAddr, run_loadVar_row w g t ty cs fr d hg hu hd hi]
end St
end Go.Proofs.Ytdakkjpejhlciaa
