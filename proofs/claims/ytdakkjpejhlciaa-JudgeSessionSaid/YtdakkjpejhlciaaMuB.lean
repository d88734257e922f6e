/- A client's session in memory (stopcock/mux). No condition. -/
import Derived.Test.YtdakkjpejhlciaaMuA
import Derived.Test.YtdakkjpejhlciaaMch
import Derived.Test.YtdakkjpejhlciaaQue
import Derived.Test.YtdakkjpejhlciaaStL
namespace Go.Proofs.Ytdakkjpejhlciaa
open Go.ChangeShapes Go.WideShapes Go.ChangeAt Go.RowKit Go.Deep
set_option linter.unusedVariables false
set_option maxRecDepth 100000
set_option linter.unusedSimpArgs false
namespace Mu
open St Mc
abbrev TS : TypeId := 71
abbrev TF : TypeId := 57
abbrev TR : TypeId := 34
theorem info_rep : (Try.prog.info? 34).map (fun i => (i.zero, i.size, i.bytes)) = some (some (.agg #[.int .i64 0, .int .i64 0, .string ⟨#[]⟩]), 3, 32) := by kernel_rfl
def sesArr (s : Ses) (vr vq vo : Value) : Array Value := #[.int .i64 s.st, .bool s.wi, .string s.tx, vr, vq, vo]
/-- where the reader stands -/
def RdP (w : World) (S : Nat → Prop) (vr : Value) (s : Ses) : Prop := (s.st = 0 ∧ vr = .pointer none) ∨ (s.st ≠ 0 ∧ ∃ g b, vr = .pointer (some ⟨g, 0, none⟩) ∧ S g ∧ Rdr 0 w g s.rd b ∧ ∀ q, b = some q → S q)
structure SesV (w : World) (S : Nat → Prop) (p : Nat) (vr vq vo : Value) (s : Ses) : Prop where
  row : w.heap[p]? = some (.cells (sesArr s vr vq vo) TS (0, 0))
  sp : S p
  rdr : RdP w S vr s
  q : OwnQ 2 frmC TF w 0 vq s.q
  qs : ∀ k, vq.ownBlock = some k → S k
  o : OwnR 3 repC TR w 0 vo s.out
  os : ∀ k, vo.ownBlock = some k → S k
  low : ∀ k, S k → k < w.heap.size
def SesX (p : Nat) (s : Ses) (w : World) (S : Nat → Prop) : Prop := ∃ vr vq vo, SesV w S p vr vq vo s
variable {w w' : World} {S S' : Nat → Prop} {p : Nat} {vr vq vo : Value} {s s' : Ses}
theorem SesV.x (h : SesV w S p vr vq vo s) : SesX p s w S := ⟨vr, vq, vo, h⟩
theorem SesV.plt (h : SesV w S p vr vq vo s) : p < w.heap.size := h.low p h.sp
theorem RdP.keep (h : RdP w S vr s) (hb : ∀ k, S k → w'.heap[k]? = w.heap[k]?) : RdP w' S vr s := by
  rcases h with h | ⟨h0, g, b, h1, h2, h3, h4⟩
  · exact .inl h
  · exact .inr ⟨h0, g, b, h1, h2, h3.same (hb g h2) (fun q hq => hb q (h4 q hq)), h4⟩
theorem SesV.keep (h : SesV w S p vr vq vo s) (hb : ∀ k, S k → w'.heap[k]? = w.heap[k]?) (hz : w.heap.size ≤ w'.heap.size) : SesV w' S p vr vq vo s :=
  ⟨(hb p h.sp).trans h.row, h.sp, h.rdr.keep hb, h.q.keep (fun k hk => hb k (h.qs k hk)), h.qs, own_keep h.o (fun k hk _ => hb k (h.os k hk)), h.os, fun k hk => Nat.lt_of_lt_of_le (h.low k hk) hz⟩
theorem goodS (p : Nat) (s : Ses) : Mc.Good (SesX p s) :=
  ⟨fun ⟨_, _, _, h⟩ => h.low, fun ⟨_, _, _, h⟩ hb hz => ⟨_, _, _, h.keep hb hz⟩⟩
theorem SesV.below (h : SesV w S p vr vq vo s) (hb : Below w.heap.size w w') : SesV w' S p vr vq vo s := h.keep (fun k hk => hb.block k (h.low k hk)) hb.size
theorem SesV.cells (h : SesV w S p vr vq vo s) : w.cell? ⟨p, 0, none⟩ = some (.int .i64 s.st) ∧ w.cell? ⟨p, 1, none⟩ = some (.bool s.wi) ∧ w.cell? ⟨p, 2, none⟩ = some (.string s.tx) ∧ w.cell? ⟨p, 3, none⟩ = some vr ∧ w.cell? ⟨p, 4, none⟩ = some vq ∧ w.cell? ⟨p, 5, none⟩ = some vo ∧ ∀ i, w.frozen? ⟨p, i, none⟩ = false := by
  have hr := h.row
  exact ⟨cell_of_row _ _ _ _ _ _ hr, cell_of_row _ _ _ _ _ _ hr, cell_of_row _ _ _ _ _ _ hr, cell_of_row _ _ _ _ _ _ hr, cell_of_row _ _ _ _ _ _ hr, cell_of_row _ _ _ _ _ _ hr, fun i => frozen_of_row _ _ _ _ _ hr⟩
theorem SesV.qne (h : SesV w S p vr vq vo s) : ∀ k, vq.ownBlock = some k → k ≠ p := h.q.ty h.row (by decide)
theorem SesV.one (h : SesV w S p vr vq vo s) : ∀ k, vo.ownBlock = some k → k ≠ p := own_ty h.o h.row (by decide)
/-- the row is written, nothing else -/
theorem SesV.put (h : SesV w S p vr vq vo s) (hrow : w'.heap[p]? = some (.cells (sesArr s' vr vq vo) TS (0, 0))) (hb : ∀ k, k ≠ p → w'.heap[k]? = w.heap[k]?) (hz : w'.heap.size = w.heap.size) (hq : s'.q = s.q) (ho : s'.out = s.out) (hr : RdP w S vr s') : SesV w' S p vr vq vo s' := by
  refine ⟨hrow, h.sp, ?_, ?_, h.qs, ?_, h.os, fun k hk => by rw [hz]; exact h.low k hk⟩
  · rcases hr with hr | ⟨h0, g, b, h1, h2, h3, h4⟩
    · exact .inl hr
    · obtain ⟨vt, g1, g2, g3, g4⟩ := h3
      refine .inr ⟨h0, g, b, h1, h2, Rdr.same ⟨vt, g1, g2, g3, g4⟩ (hb g ?_) (fun q hq => hb q ?_), h4⟩
      · rintro rfl
        rw [h.row] at g1
        simp only [Option.some.injEq, Obj.cells.injEq] at g1
        exact absurd g1.2.1 (by decide)
      · rintro rfl
        subst g3
        exact own_ty g2 h.row (by decide) _ hq rfl
  · rw [hq]; exact h.q.keep (fun k hk => hb k (h.qne k hk))
  · rw [ho]; exact own_keep h.o (fun k hk _ => hb k (h.one k hk))
theorem SesV.rd (h : SesV w S p vr vq vo s) (h0 : s.st ≠ 0) : ∃ g b, vr = .pointer (some ⟨g, 0, none⟩) ∧ S g ∧ Rdr 0 w g s.rd b ∧ ∀ q, b = some q → S q := by
  rcases h.rdr with ⟨h1, -⟩ | ⟨-, h1⟩
  · exact absurd h1 h0
  · exact h1
theorem RdP.st (h : RdP w S vr s) (h0 : s.st ≠ 0) (hr : s'.rd = s.rd) (h1 : s'.st ≠ 0) : RdP w S vr s' := by
  rcases h with ⟨h2, -⟩ | ⟨-, h2⟩
  · exact absurd h2 h0
  · right; rw [hr]; exact ⟨h1, h2⟩
theorem SesV.set0 (h : SesV w S p vr vq vo s) (n : Int) (h0 : s.st ≠ 0) (hn : n ≠ 0) : SesV (w.setCell ⟨p, 0, none⟩ (.int .i64 n)) S p vr vq vo { s with st := n } :=
  h.put ((heap_setCell_same w p 0 _ TS _ h.row).trans rfl) (fun k hk => heap_setCell_other w ⟨p, 0, none⟩ k _ hk) (by simp) rfl rfl (h.rdr.st h0 rfl hn)
theorem SesV.set1 (h : SesV w S p vr vq vo s) (b : Bool) (h0 : s.st ≠ 0) : SesV (w.setCell ⟨p, 1, none⟩ (.bool b)) S p vr vq vo { s with wi := b } :=
  h.put ((heap_setCell_same w p 1 _ TS _ h.row).trans rfl) (fun k hk => heap_setCell_other w ⟨p, 1, none⟩ k _ hk) (by simp) rfl rfl (h.rdr.st h0 rfl h0)
theorem SesV.set2 (h : SesV w S p vr vq vo s) (t : ByteArray) (h0 : s.st ≠ 0) : SesV (w.setCell ⟨p, 2, none⟩ (.string t)) S p vr vq vo { s with tx := t } :=
  h.put ((heap_setCell_same w p 2 _ TS _ h.row).trans rfl) (fun k hk => heap_setCell_other w ⟨p, 2, none⟩ k _ hk) (by simp) rfl rfl (h.rdr.st h0 rfl h0)
/-- all but the replies is thrown away -/
theorem SesV.hang (h : SesV w S p vr vq vo s) (hrow : w'.heap[p]? = some (.cells (sesArr (hangS s) (.pointer none) (.slice none 0 0) vo) TS (0, 0))) (hb : ∀ k, k ≠ p → w'.heap[k]? = w.heap[k]?) (hz : w'.heap.size = w.heap.size) : SesV w' S p (.pointer none) (.slice none 0 0) vo (hangS s) :=
  ⟨hrow, h.sp, .inl ⟨rfl, rfl⟩, OwnQ.nil _ _ _, (fun k hk => by cases hk), own_keep h.o (fun k hk _ => hb k (h.one k hk)), h.os, fun k hk => by rw [hz]; exact h.low k hk⟩
theorem only_row (hp : S p) (cs : Array Value) : Only S w (w.setRow p cs) := ⟨rfl, rfl, rfl, by simp, fun k _ hk => setRow_other w p k cs (fun e => hk (e ▸ hp))⟩
/-- what only writes its cells leaves all else -/
theorem only_cell (hp : S p) (i : Nat) (v : Value) : Only S w (w.setCell ⟨p, i, none⟩ v) := Only.setCell w _ _ hp
/-- replies told: the list has grown, then is stored -/
theorem SesV.told {v' : Value} {r : List Rep} {w1 : World} (h : SesV w S p vr vq vo s) (ho : OwnR 3 repC TR w1 0 v' r) (hg : w.grownBy w1 vo.ownBlock) (hl : v'.ownBlock = vo.ownBlock ∨ ∀ q, v'.ownBlock = some q → w.heap.size ≤ q) :
    SesV (w1.setCell ⟨p, 5, none⟩ v') (Grow S w w1) p vr vq v' { s with out := r } ∧ Only S w (w1.setCell ⟨p, 5, none⟩ v') := by
  have hpl := h.plt
  have hz := hg.size
  have hrow : w1.heap[p]? = some (.cells (sesArr s vr vq vo) TS (0, 0)) := (hg.block p hpl (fun e => h.one p e.symm rfl)).trans h.row
  have hvp : ∀ k, v'.ownBlock = some k → k ≠ p := own_ty ho hrow (by decide)
  have hvq : ∀ k, vq.ownBlock = some k → some k ≠ vo.ownBlock := fun k hk e => by
    have h1 := h.low k (h.qs k hk)
    rcases h.o.2 with ⟨h2, -⟩ | ⟨g, cap, cur, h2, -, h3, -⟩
    · rw [h2] at e; cases e
    · rw [h2] at e
      simp only [Value.ownBlock, Option.some.injEq] at e
      subst e
      exact h.q.ty h3 (by decide) _ hk rfl
  have hrd : ∀ {g : Nat} {cs : Array Value} {t : TypeId}, w.heap[g]? = some (.cells cs t (0, 0)) → TR ≠ t → some g ≠ vo.ownBlock := fun hg2 hne e => own_ty h.o hg2 hne _ e.symm rfl
  have hsm : ∀ k, S k → k ≠ p → some k ≠ vo.ownBlock → (w1.setCell ⟨p, 5, none⟩ v').heap[k]? = w.heap[k]? := fun k hk hp ho => (heap_setCell_other w1 ⟨p, 5, none⟩ k v' hp).trans (hg.block k (h.low k hk) ho)
  refine ⟨⟨(heap_setCell_same w1 p 5 _ TS _ hrow).trans rfl, .inl h.sp, ?_, ?_, fun k hk => .inl (h.qs k hk), ?_, fun k hk => ?_, fun k hk => ?_⟩, ?_⟩
  · rcases h.rdr with h1 | ⟨h0, g, b, h1, h2, h3, h4⟩
    · exact .inl h1
    · obtain ⟨vt, g1, g2, g3, g4⟩ := h3
      refine .inr ⟨h0, g, b, h1, .inl h2, Rdr.same ⟨vt, g1, g2, g3, g4⟩ (hsm g h2 ?_ (hrd g1 (by decide))) (fun q hq => hsm q (h4 q hq) ?_ ?_), fun q hq => .inl (h4 q hq)⟩
      · rintro rfl
        rw [h.row] at g1
        simp only [Option.some.injEq, Obj.cells.injEq] at g1
        exact absurd g1.2.1 (by decide)
      · rintro rfl
        subst g3
        exact own_ty g2 h.row (by decide) _ hq rfl
      · intro e
        subst g3
        rcases h.o.2 with ⟨h5, -⟩ | ⟨g6, cap, cur, h5, -, h6, -⟩
        · rw [h5] at e; cases e
        · rw [h5] at e
          simp only [Value.ownBlock, Option.some.injEq] at e
          subst e
          exact own_ty g2 h6 (by decide) _ hq rfl
  · exact h.q.keep (fun k hk => hsm k (h.qs k hk) (h.qne k hk) (hvq k hk))
  · exact own_keep ho (fun k hk _ => heap_setCell_other w1 ⟨p, 5, none⟩ k v' (hvp k hk))
  · rcases hl with e | e
    · exact .inl (h.os k (e ▸ hk))
    · exact .inr ⟨e k hk, (World.ownsRow.lt ho k hk).2⟩
  · rcases hk with hk | hk
    · have := h.low k hk; simp; omega
    · have := hk.2; simp; omega
  · exact (Only.grown hg (fun q hq => h.os q hq)).trans (Only.setCell w1 _ _ h.sp)
/-- what a method answers -/
def MuR (r : Value) (p : Nat) (s' : Ses) (S : Nat → Prop) (w : World) (e : Ending) (w' : World) : Prop := e = .returned r ∧ Mc.Left (SesX p s') S w w'
end Mu
end Go.Proofs.Ytdakkjpejhlciaa
