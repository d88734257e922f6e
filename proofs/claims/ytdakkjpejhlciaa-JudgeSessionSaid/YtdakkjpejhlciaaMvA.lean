/- The document's session in memory: what it tells, its end. No condition. -/
import Derived.Test.YtdakkjpejhlciaaMuB
import Derived.Test.YtdakkjpejhlciaaMuC
import Derived.Test.YtdakkjpejhlciaaStP
import Derived.Test.YtdakkjpejhlciaaWl
namespace Go.Proofs.Ytdakkjpejhlciaa
open Go.ChangeShapes Go.WideShapes Go.ChangeAt Go.RowKit Go.Deep
set_option linter.unusedVariables false
set_option maxRecDepth 100000
set_option linter.unusedSimpArgs false
namespace Mv
open St Mc Mu
abbrev TX : TypeId := 32
def stX (n : Int) : Int := if n = 0 then 7 else n - 1
def xArr (b : ByteArray) (bd : Bool) (vq : Value) (st : Int) (al : Bool) (tx : ByteArray) (vo : Value) : Array Value := rowE [vq, .int .i64 st, .bool al, .string tx, vo] (.string b) (.bool bd)
/-- what its parts say of the state -/
def SaysX (b : ByteArray) (bd al : Bool) (tx : ByteArray) (s : Ses) : Prop := (s.st ≠ 0 → bd = decide (s.rd.st = 3) ∧ sb b = pend s.rd) ∧ (s.st = 2 ∨ s.st = 4 ∨ s.st = 5 → al = !s.wi) ∧ ((s.st = 2 ∧ s.wi = false) ∨ s.st = 4 → tx = s.tx)
structure XSV (w : World) (S : Nat → Prop) (p : Nat) (vq vo : Value) (b : ByteArray) (bd al : Bool) (tx : ByteArray) (s : Ses) : Prop where
  row : w.heap[p]? = some (.cells (xArr b bd vq (stX s.st) al tx vo) TX (0, 0))
  sp : S p
  says : SaysX b bd al tx s
  q : OwnQ 2 frmC TF w 0 vq s.q
  qs : ∀ k, vq.ownBlock = some k → S k
  o : OwnQ 3 repC TR w 0 vo s.out
  os : ∀ k, vo.ownBlock = some k → S k
  low : ∀ k, S k → k < w.heap.size
def XSX (p : Nat) (s : Ses) (w : World) (S : Nat → Prop) : Prop := ∃ vq vo b bd al tx, XSV w S p vq vo b bd al tx s
variable {w w' w1 w2 : World} {S S' : Nat → Prop} {p : Nat} {vq vo vq' vo' r : Value} {b tx tx' b' : ByteArray} {bd al bd' al' : Bool} {s s' : Ses}
theorem XSV.x (h : XSV w S p vq vo b bd al tx s) : XSX p s w S := ⟨_, _, _, _, _, _, h⟩
theorem XSV.plt (h : XSV w S p vq vo b bd al tx s) : p < w.heap.size := h.low p h.sp
theorem XSV.keep (h : XSV w S p vq vo b bd al tx s) (hb : ∀ k, S k → w'.heap[k]? = w.heap[k]?) (hz : w.heap.size ≤ w'.heap.size) : XSV w' S p vq vo b bd al tx s :=
  ⟨(hb p h.sp).trans h.row, h.sp, h.says, h.q.keep (fun k hk => hb k (h.qs k hk)), h.qs, h.o.keep (fun k hk => hb k (h.os k hk)), h.os, fun k hk => Nat.lt_of_lt_of_le (h.low k hk) hz⟩
theorem goodX (p : Nat) (s : Ses) : Mc.Good (XSX p s) :=
  ⟨fun ⟨_, _, _, _, _, _, h⟩ => h.low, fun ⟨_, _, _, _, _, _, h⟩ hb hz => ⟨_, _, _, _, _, _, h.keep hb hz⟩⟩
theorem XSV.below (h : XSV w S p vq vo b bd al tx s) (hb : Below w.heap.size w w') : XSV w' S p vq vo b bd al tx s := h.keep (fun k hk => hb.block k (h.low k hk)) hb.size
/-- the cells of a row -/
theorem xcells {st : Int} (h : w.heap[p]? = some (.cells (xArr b bd vq st al tx vo) TX (0, 0))) : w.cell? ⟨p, 0, none⟩ = some (.string b) ∧ w.cell? ⟨p, 1, none⟩ = some (.bool bd) ∧ w.cell? ⟨p, 2, none⟩ = some vq ∧ w.cell? ⟨p, 3, none⟩ = some (.int .i64 st) ∧ w.cell? ⟨p, 4, none⟩ = some (.bool al) ∧ w.cell? ⟨p, 5, none⟩ = some (.string tx) ∧ w.cell? ⟨p, 6, none⟩ = some vo ∧ ∀ i, w.frozen? ⟨p, i, none⟩ = false :=
  ⟨cell_of_row _ _ _ _ _ _ h, cell_of_row _ _ _ _ _ _ h, cell_of_row _ _ _ _ _ _ h, cell_of_row _ _ _ _ _ _ h, cell_of_row _ _ _ _ _ _ h, cell_of_row _ _ _ _ _ _ h, cell_of_row _ _ _ _ _ _ h, fun i => frozen_of_row _ _ _ _ _ h⟩
theorem xs2 {st : Int} {v : Value} (h : w.heap[p]? = some (.cells (xArr b bd vq st al tx vo) TX (0, 0))) : (w.setCell ⟨p, 2, none⟩ v).heap[p]? = some (.cells (xArr b bd v st al tx vo) TX (0, 0)) := (heap_setCell_same w p 2 _ TX v h).trans rfl
theorem xs3 {st n : Int} (h : w.heap[p]? = some (.cells (xArr b bd vq st al tx vo) TX (0, 0))) : (w.setCell ⟨p, 3, none⟩ (.int .i64 n)).heap[p]? = some (.cells (xArr b bd vq n al tx vo) TX (0, 0)) := (heap_setCell_same w p 3 _ TX _ h).trans rfl
theorem xs4 {st : Int} {a : Bool} (h : w.heap[p]? = some (.cells (xArr b bd vq st al tx vo) TX (0, 0))) : (w.setCell ⟨p, 4, none⟩ (.bool a)).heap[p]? = some (.cells (xArr b bd vq st a tx vo) TX (0, 0)) := (heap_setCell_same w p 4 _ TX _ h).trans rfl
theorem xs5 {st : Int} {t : ByteArray} (h : w.heap[p]? = some (.cells (xArr b bd vq st al tx vo) TX (0, 0))) : (w.setCell ⟨p, 5, none⟩ (.string t)).heap[p]? = some (.cells (xArr b bd vq st al t vo) TX (0, 0)) := (heap_setCell_same w p 5 _ TX _ h).trans rfl
theorem xs6 {st : Int} {v : Value} (h : w.heap[p]? = some (.cells (xArr b bd vq st al tx vo) TX (0, 0))) : (w.setCell ⟨p, 6, none⟩ v).heap[p]? = some (.cells (xArr b bd vq st al tx v) TX (0, 0)) := (heap_setCell_same w p 6 _ TX _ h).trans rfl
theorem xo (w : World) (p i : Nat) (v : Value) : ∀ k, k ≠ p → (w.setCell ⟨p, i, none⟩ v).heap[k]? = w.heap[k]? := fun k hk => heap_setCell_other w ⟨p, i, none⟩ k v hk
theorem XSV.qne (h : XSV w S p vq vo b bd al tx s) : ∀ k, vq.ownBlock = some k → k ≠ p := h.q.ty h.row (by decide)
theorem XSV.one (h : XSV w S p vq vo b bd al tx s) : ∀ k, vo.ownBlock = some k → k ≠ p := h.o.ty h.row (by decide)
/-- the row is written, nothing else -/
theorem XSV.put {n : Int} (h : XSV w S p vq vo b bd al tx s) (hrow : w'.heap[p]? = some (.cells (xArr b bd vq n al' tx' vo) TX (0, 0))) (hn : n = stX s'.st) (hb : ∀ k, k ≠ p → w'.heap[k]? = w.heap[k]?) (hz : w'.heap.size = w.heap.size) (hq : s'.q = s.q) (ho : s'.out = s.out) (hs : SaysX b bd al' tx' s') : XSV w' S p vq vo b bd al' tx' s' := by
  subst hn
  refine ⟨hrow, h.sp, hs, ?_, h.qs, ?_, h.os, fun k hk => by rw [hz]; exact h.low k hk⟩
  · rw [hq]; exact h.q.keep (fun k hk => hb k (h.qne k hk))
  · rw [ho]; exact h.o.keep (fun k hk => hb k (h.one k hk))
/-- what ends it -/
theorem XSV.ends (h : XSV w S p vq vo b bd al tx s) (hrow : w'.heap[p]? = some (.cells (xArr b bd (.slice none 0 0) 7 al' tx' vo) TX (0, 0))) (hb : ∀ k, k ≠ p → w'.heap[k]? = w.heap[k]?) (hz : w'.heap.size = w.heap.size) : XSV w' S p (.slice none 0 0) vo b bd al' tx' (hangS s) :=
  ⟨hrow, h.sp, ⟨fun q => absurd rfl q, (by rintro (q | q | q) <;> cases q), (by rintro (⟨q, -⟩ | q) <;> cases q)⟩, OwnQ.nil _ _ _, (fun k hk => by cases hk), h.o.keep (fun k hk => hb k (h.one k hk)), h.os, fun k hk => by rw [hz]; exact h.low k hk⟩
theorem OwnQ.cut {α : Type} {sz : Nat} {C : α → List Value} {e : TypeId} {B : Nat} {xs : List α} {a : Option Addr} {n c : Nat} (h : OwnQ sz C e w B (.slice a n c) xs) : OwnQ sz C e w B (.slice a n n) xs := by
  rcases h with ⟨h1, h2⟩ | ⟨g, off, cap, cur, h1, h2, h3, h4, h5, h6, h7⟩
  · cases h1; exact .inl ⟨rfl, h2⟩
  · simp only [Value.slice.injEq] at h1
    obtain ⟨rfl, rfl, rfl⟩ := h1
    have : xs.length * sz ≤ c * sz := Nat.mul_le_mul_right _ h4
    exact .inr ⟨g, off, xs.length, cur, rfl, h2, h3, Nat.le_refl _, Nat.le_trans h4 h5, by omega, h7⟩
/-- replies told -/
theorem XSV.told {v' : Value} {r : List Rep} (h : XSV w S p vq vo b bd al tx s) (ho : OwnQ 3 repC TR w1 0 v' r) (hg : w.grownBy w1 vo.ownBlock) (hl : v'.ownBlock = vo.ownBlock ∨ ∀ q, v'.ownBlock = some q → w.heap.size ≤ q) :
    XSV (w1.setCell ⟨p, 6, none⟩ v') (Grow S w w1) p vq v' b bd al tx { s with out := r } ∧ Only S w (w1.setCell ⟨p, 6, none⟩ v') := by
  have hpl := h.plt
  have hz := hg.size
  have hrow : w1.heap[p]? = some (.cells (xArr b bd vq (stX s.st) al tx vo) TX (0, 0)) := (hg.block p hpl (fun e => h.one p e.symm rfl)).trans h.row
  have hvp : ∀ k, v'.ownBlock = some k → k ≠ p := ho.ty hrow (by decide)
  have hvq : ∀ k, vq.ownBlock = some k → some k ≠ vo.ownBlock := fun k hk e => by
    rcases h.o with ⟨h2, -⟩ | ⟨g, off, cap, cur, h2, -, h3, -⟩
    · rw [h2] at e; cases e
    · rw [h2] at e
      simp only [Value.ownBlock, Option.some.injEq] at e
      subst e
      exact h.q.ty h3 (by decide) _ hk rfl
  have hsm : ∀ k, S k → k ≠ p → some k ≠ vo.ownBlock → (w1.setCell ⟨p, 6, none⟩ v').heap[k]? = w.heap[k]? := fun k hk hp ho => (heap_setCell_other w1 ⟨p, 6, none⟩ k v' hp).trans (hg.block k (h.low k hk) ho)
  refine ⟨⟨xs6 hrow, .inl h.sp, h.says, h.q.keep (fun k hk => hsm k (h.qs k hk) (h.qne k hk) (hvq k hk)), fun k hk => .inl (h.qs k hk), ho.keep (fun k hk => heap_setCell_other w1 ⟨p, 6, none⟩ k v' (hvp k hk)), fun k hk => ?_, fun k hk => ?_⟩, (Only.grown hg (fun q hq => h.os q hq)).trans (Only.setCell w1 _ _ h.sp)⟩
  · rcases hl with e | e
    · exact .inl (h.os k (e ▸ hk))
    · exact .inr ⟨e k hk, (ho.lt k hk).2⟩
  · rcases hk with hk | hk
    · have := h.low k hk; simp; omega
    · have := hk.2; simp; omega
/-- what a method answers -/
def MvR (r : Value) (p : Nat) (s' : Ses) (S : Nat → Prop) (w : World) (e : Ending) (w' : World) : Prop := e = .returned r ∧ Mc.Left (XSX p s') S w w'
theorem mvr_mk (hS : ∀ k, S' k → Grow S w w1 k) (ho : Only S w w1) (hv : XSV w2 S' p vq' vo' b' bd' al' tx' s') (h2 : Only S' w1 w2) : MvR r p s' S w (.returned r) w2 := ⟨rfl, Mc.Left.step ho hS (Mc.Left.mk (goodX p s') hv.x h2)⟩
theorem mvr_base (hb : Below w.heap.size w w1) (hv : XSV w2 S p vq' vo' b' bd' al' tx' s') (h2 : Only S w1 w2) : MvR r p s' S w (.returned r) w2 := mvr_mk (fun k hk => .inl hk) (Below.only hb S) hv h2
/-- a reply told -/
def XToldR (p : Nat) (S : Nat → Prop) (w : World) (vq : Value) (b : ByteArray) (bd al : Bool) (tx : ByteArray) (s' : Ses) (e : Ending) (w' : World) : Prop := e = .returned (.tuple #[]) ∧ ∃ S' vo', XSV w' S' p vq vo' b bd al tx s' ∧ (∀ k, S' k → Grow S w w' k) ∧ Only S w w'
set_option maxHeartbeats 2000000 in
theorem tell_any (r : Rep) (w : World) (h : XSV w S p vq vo b bd al tx s) (hl : s.out.length ≤ 1000000) : Calls Try.prog 42 #[.pointer (some ⟨p, 0, none⟩), .agg #[.int .i64 r.kind, .int .i64 r.node, .string r.text]] w (XToldR p S w vq b bd al tx (s.tell r)) := by
  have HML : Hid (s.out.length ≤ 1000000) := Lib.hid hl
  have HPB : Hid (w.heap.size ≠ p) := Lib.hid (by have := h.plt; omega)
  obtain ⟨W1, hW1⟩ : ∃ q, w.alloc (.cells #[.int .i64 r.kind, .int .i64 r.node, .string r.text] TR) = q := ⟨_, rfl⟩
  have hb1 : Below w.heap.size w W1 := by rw [← hW1]; exact (Below.refl _ _).alloc (Nat.le_refl _) _
  have hx1 : W1.heap[w.heap.size]? = some (.cells #[.int .i64 r.kind, .int .i64 r.node, .string r.text] TR (0, 0)) := by rw [← hW1]; exact heap_alloc_new _ _
  have hv1 := h.below hb1
  have HV1d : Hid (XSV W1.drew S p vq vo b bd al tx s) := Lib.hid (hv1.keep (fun _ _ => rfl) (Nat.le_refl _))
  obtain ⟨W4, hW4⟩ : ∃ q, W1.drew.alloc (.cells #[.int .i64 r.kind, .int .i64 r.node, .string r.text] TR) = q := ⟨_, rfl⟩
  have hb4 : Below W1.drew.heap.size W1.drew W4 := by rw [← hW4]; exact (Below.refl _ _).alloc (Nat.le_refl _) _
  have HB4 : Hid (Below w.heap.size w W4) := Lib.hid ((hb1.drew).trans (hb4.mono hb1.size))
  have HV4 := Lib.hid (HV1d.out.below hb4)
  have HX1 : Hid (W1.drew.heap[w.heap.size]? = some (.cells #[.int .i64 r.kind, .int .i64 r.node, .string r.text] TR (0, 0))) := Lib.hid hx1
  have HX4 : Hid (W4.heap[w.heap.size]? = some (.cells #[.int .i64 r.kind, .int .i64 r.node, .string r.text] TR (0, 0))) := Lib.hid ((hb4.block _ (row_lt hx1)).trans hx1)
  have HLIT : Hid (SlR 3 repC W4 (.slice (some ⟨W1.heap.size, 0, none⟩) 1 1) [r]) := Lib.hid (by rw [← hW4]; exact SlR.one repC_len W1.drew _ rfl _ r rfl)
  have HNO : Hid (∀ k, vo.ownBlock = some k → k ≠ w.heap.size) := Lib.hid (fun k hk => by have := h.low k (h.os k hk); omega)
  obtain ⟨ao, co, rfl, hoc, hom⟩ := h.o.len
  unfold maxLen at hom
  have C1 : Hid (W1.drew.cell? ⟨p, 6, none⟩ = some (.slice ao s.out.length co)) := Lib.hid (xcells HV1d.out.row).2.2.2.2.2.2.1
  have C4 : Hid (W4.cell? ⟨p, 6, none⟩ = some (.slice ao s.out.length co)) := Lib.hid (xcells HV4.out.row).2.2.2.2.2.2.1
  have HOB : Hid ((Value.slice ao s.out.length s.out.length).ownBlock = (Value.slice ao s.out.length co).ownBlock) := Lib.hid (by cases ao <;> rfl)
  have HCUT : Hid (OwnQ 3 repC TR W4 0 (.slice ao s.out.length s.out.length) s.out) := Lib.hid (OwnQ.cut HV4.out.o)
  clear h hl hb1 hx1 hv1 hb4
  go_enter Try.func42, Try.ntmps42
  go_wp2
  try rw [hW1]
  refine Wl.start 21 (fun u => u.cell? ⟨p, 6, none⟩ = some (.slice ao s.out.length co)) (fun u => u.heap[w.heap.size]? = some (.cells #[.int .i64 r.kind, .int .i64 r.node, .string r.text] TR (0, 0))) (by kernel_rfl) C1.out HX1.out (fun hk => ?_)
  refine Wl.take (i := 0) (v := .pointer (some ⟨p, 0, none⟩)) [19, 20, 21] rfl (by kernel_rfl) (by kernel_rfl) (by kernel_rfl) (by kernel_rfl) (by kernel_rfl) (fun _ _ _ h => h) (.inl ⟨by kernel_rfl, ?_⟩) hk ?_
  · intro wx hSw
    clear hSw hk
    go_simp
    try first | with_reducible rfl | kernel_rfl
  simp only [Act.put, List.getElem_toArray, List.getElem_cons_succ, List.getElem_cons_zero, List.setIfInBounds_toArray, List.set_cons_succ, List.set_cons_zero]
  refine Wl.take (i := 1) (v := .pointer (some ⟨p, 0, none⟩)) [2, 3, 4, 15, 18, 19, 20, 21] rfl (by kernel_rfl) (by kernel_rfl) (by kernel_rfl) (by kernel_rfl) (by kernel_rfl) (fun _ _ _ h => h) (.inl ⟨by kernel_rfl, ?_⟩) hk ?_
  · intro wx hSw
    clear hSw hk
    go_simp
    try first | with_reducible rfl | kernel_rfl
  simp only [Act.put, List.getElem_toArray, List.getElem_cons_succ, List.getElem_cons_zero, List.setIfInBounds_toArray, List.set_cons_succ, List.set_cons_zero]
  refine Wl.take (i := 2) (v := .pointer (some ⟨p, 0, none⟩)) [3, 4, 15, 18, 19, 20, 21] rfl (by kernel_rfl) (by kernel_rfl) (by kernel_rfl) (by kernel_rfl) (by kernel_rfl) (fun _ _ _ h => h) (.inl ⟨by kernel_rfl, ?_⟩) hk ?_
  · intro wx hSw
    clear hSw hk
    go_simp
    try first | with_reducible rfl | kernel_rfl
  simp only [Act.put, List.getElem_toArray, List.getElem_cons_succ, List.getElem_cons_zero, List.setIfInBounds_toArray, List.set_cons_succ, List.set_cons_zero]
  refine Wl.take (i := 3) (v := .pointer (some ⟨p, 6, none⟩)) [4, 15, 18, 19, 20, 21] rfl (by kernel_rfl) (by kernel_rfl) (by kernel_rfl) (by kernel_rfl) (by kernel_rfl) (fun _ _ _ h => h) (.inl ⟨by kernel_rfl, ?_⟩) hk ?_
  · intro wx hSw
    clear hSw hk
    go_simp
    try first | with_reducible rfl | kernel_rfl
  simp only [Act.put, List.getElem_toArray, List.getElem_cons_succ, List.getElem_cons_zero, List.setIfInBounds_toArray, List.set_cons_succ, List.set_cons_zero]
  refine Wl.take (i := 4) (v := .slice ao s.out.length co) [15, 18, 19, 20, 21] rfl (by kernel_rfl) (by kernel_rfl) (by kernel_rfl) (by kernel_rfl) (by kernel_rfl) (fun _ _ _ h => h) (.inl ⟨by kernel_rfl, ?_⟩) hk ?_
  · intro wx hSw
    have cc := hSw.1
    clear hSw hk
    go_simp
    try first | with_reducible rfl | kernel_rfl
  simp only [Act.put, List.getElem_toArray, List.getElem_cons_succ, List.getElem_cons_zero, List.setIfInBounds_toArray, List.set_cons_succ, List.set_cons_zero]
  refine Wl.take (i := 5) (v := .pointer (some ⟨p, 0, none⟩)) [6, 7, 8, 9, 15, 18, 19, 20, 21] rfl (by kernel_rfl) (by kernel_rfl) (by kernel_rfl) (by kernel_rfl) (by kernel_rfl) (fun _ _ _ h => h) (.inl ⟨by kernel_rfl, ?_⟩) hk ?_
  · intro wx hSw
    clear hSw hk
    go_simp
    try first | with_reducible rfl | kernel_rfl
  simp only [Act.put, List.getElem_toArray, List.getElem_cons_succ, List.getElem_cons_zero, List.setIfInBounds_toArray, List.set_cons_succ, List.set_cons_zero]
  refine Wl.take (i := 6) (v := .pointer (some ⟨p, 0, none⟩)) [7, 8, 9, 15, 18, 19, 20, 21] rfl (by kernel_rfl) (by kernel_rfl) (by kernel_rfl) (by kernel_rfl) (by kernel_rfl) (fun _ _ _ h => h) (.inl ⟨by kernel_rfl, ?_⟩) hk ?_
  · intro wx hSw
    clear hSw hk
    go_simp
    try first | with_reducible rfl | kernel_rfl
  simp only [Act.put, List.getElem_toArray, List.getElem_cons_succ, List.getElem_cons_zero, List.setIfInBounds_toArray, List.set_cons_succ, List.set_cons_zero]
  refine Wl.take (i := 7) (v := .pointer (some ⟨p, 6, none⟩)) [8, 9, 15, 18, 19, 20, 21] rfl (by kernel_rfl) (by kernel_rfl) (by kernel_rfl) (by kernel_rfl) (by kernel_rfl) (fun _ _ _ h => h) (.inl ⟨by kernel_rfl, ?_⟩) hk ?_
  · intro wx hSw
    clear hSw hk
    go_simp
    try first | with_reducible rfl | kernel_rfl
  simp only [Act.put, List.getElem_toArray, List.getElem_cons_succ, List.getElem_cons_zero, List.setIfInBounds_toArray, List.set_cons_succ, List.set_cons_zero]
  refine Wl.take (i := 8) (v := .slice ao s.out.length co) [9, 15, 18, 19, 20, 21] rfl (by kernel_rfl) (by kernel_rfl) (by kernel_rfl) (by kernel_rfl) (by kernel_rfl) (fun _ _ _ h => h) (.inl ⟨by kernel_rfl, ?_⟩) hk ?_
  · intro wx hSw
    have cc := hSw.1
    clear hSw hk
    go_simp
    try first | with_reducible rfl | kernel_rfl
  simp only [Act.put, List.getElem_toArray, List.getElem_cons_succ, List.getElem_cons_zero, List.setIfInBounds_toArray, List.set_cons_succ, List.set_cons_zero]
  refine Wl.take (i := 9) (v := .int .i64 (s.out.length : Int)) [15, 18, 19, 20, 21] rfl (by kernel_rfl) (by kernel_rfl) (by kernel_rfl) (by kernel_rfl) (by kernel_rfl) (fun _ _ _ h => h) (.inl ⟨by kernel_rfl, ?_⟩) hk ?_
  · intro wx hSw
    clear hSw hk
    go_simp
    try first | with_reducible rfl | kernel_rfl
  simp only [Act.put, List.getElem_toArray, List.getElem_cons_succ, List.getElem_cons_zero, List.setIfInBounds_toArray, List.set_cons_succ, List.set_cons_zero]
  refine Wl.take (i := 10) (v := .pointer (some ⟨p, 0, none⟩)) [11, 12, 13, 14, 15, 18, 19, 20, 21] rfl (by kernel_rfl) (by kernel_rfl) (by kernel_rfl) (by kernel_rfl) (by kernel_rfl) (fun _ _ _ h => h) (.inl ⟨by kernel_rfl, ?_⟩) hk ?_
  · intro wx hSw
    clear hSw hk
    go_simp
    try first | with_reducible rfl | kernel_rfl
  simp only [Act.put, List.getElem_toArray, List.getElem_cons_succ, List.getElem_cons_zero, List.setIfInBounds_toArray, List.set_cons_succ, List.set_cons_zero]
  refine Wl.take (i := 11) (v := .pointer (some ⟨p, 0, none⟩)) [12, 13, 14, 15, 18, 19, 20, 21] rfl (by kernel_rfl) (by kernel_rfl) (by kernel_rfl) (by kernel_rfl) (by kernel_rfl) (fun _ _ _ h => h) (.inl ⟨by kernel_rfl, ?_⟩) hk ?_
  · intro wx hSw
    clear hSw hk
    go_simp
    try first | with_reducible rfl | kernel_rfl
  simp only [Act.put, List.getElem_toArray, List.getElem_cons_succ, List.getElem_cons_zero, List.setIfInBounds_toArray, List.set_cons_succ, List.set_cons_zero]
  refine Wl.take (i := 12) (v := .pointer (some ⟨p, 6, none⟩)) [13, 14, 15, 18, 19, 20, 21] rfl (by kernel_rfl) (by kernel_rfl) (by kernel_rfl) (by kernel_rfl) (by kernel_rfl) (fun _ _ _ h => h) (.inl ⟨by kernel_rfl, ?_⟩) hk ?_
  · intro wx hSw
    clear hSw hk
    go_simp
    try first | with_reducible rfl | kernel_rfl
  simp only [Act.put, List.getElem_toArray, List.getElem_cons_succ, List.getElem_cons_zero, List.setIfInBounds_toArray, List.set_cons_succ, List.set_cons_zero]
  refine Wl.take (i := 13) (v := .slice ao s.out.length co) [14, 15, 18, 19, 20, 21] rfl (by kernel_rfl) (by kernel_rfl) (by kernel_rfl) (by kernel_rfl) (by kernel_rfl) (fun _ _ _ h => h) (.inl ⟨by kernel_rfl, ?_⟩) hk ?_
  · intro wx hSw
    have cc := hSw.1
    clear hSw hk
    go_simp
    try first | with_reducible rfl | kernel_rfl
  simp only [Act.put, List.getElem_toArray, List.getElem_cons_succ, List.getElem_cons_zero, List.setIfInBounds_toArray, List.set_cons_succ, List.set_cons_zero]
  refine Wl.take (i := 14) (v := .int .i64 (s.out.length : Int)) [15, 18, 19, 20, 21] rfl (by kernel_rfl) (by kernel_rfl) (by kernel_rfl) (by kernel_rfl) (by kernel_rfl) (fun _ _ _ h => h) (.inl ⟨by kernel_rfl, ?_⟩) hk ?_
  · intro wx hSw
    clear hSw hk
    go_simp
    try first | with_reducible rfl | kernel_rfl
  simp only [Act.put, List.getElem_toArray, List.getElem_cons_succ, List.getElem_cons_zero, List.setIfInBounds_toArray, List.set_cons_succ, List.set_cons_zero]
  refine Wl.take (i := 15) (v := .slice ao s.out.length s.out.length) [18, 19, 20, 21] rfl (by kernel_rfl) (by kernel_rfl) (by kernel_rfl) (by kernel_rfl) (by kernel_rfl) (fun _ _ _ h => h) (.inl ⟨by kernel_rfl, ?_⟩) hk ?_
  · intro wx hSw
    have hw1 : (s.out.length : Int) ≤ (co : Int) := by omega
    obtain ⟨m, hm⟩ : ∃ m, s.out.length = m := ⟨_, rfl⟩
    rw [hm] at hw1 ⊢
    rcases Nat.eq_zero_or_pos m with h0 | h0
    · subst h0
      clear hSw hk hm
      go_simp
      try first | with_reducible rfl | kernel_rfl
    have hm0 : ¬ m = 0 := by omega
    have hwa : ao.map (fun x : Addr => x.add 0) = ao := by
      rcases ao with _ | ⟨b, o, sp⟩
      · rfl
      · cases sp <;> simp [Addr.add]
    clear hSw hk
    go_simp
    try first | with_reducible rfl | kernel_rfl
  simp only [Act.put, List.getElem_toArray, List.getElem_cons_succ, List.getElem_cons_zero, List.setIfInBounds_toArray, List.set_cons_succ, List.set_cons_zero]
  refine Wl.take (i := 16) (v := .agg #[.int .i64 r.kind, .int .i64 r.node, .string r.text]) [17, 18, 19, 20, 21] rfl (by kernel_rfl) (by kernel_rfl) (by kernel_rfl) (by kernel_rfl) (by kernel_rfl) (fun _ _ _ h => h) (yieldsIf_load_mid (by rfl) _ _ rfl _ _ rfl (repC r) _ (fun w h => (fun j v hv => Wl.rng_of_row h.2 j v hv)) Try.underlying34 rfl (by kernel_rfl)) hk ?_
  simp only [Act.put, List.getElem_toArray, List.getElem_cons_succ, List.getElem_cons_zero, List.setIfInBounds_toArray, List.set_cons_succ, List.set_cons_zero]
  refine Wl.one (i := 17) (by kernel_rfl) rfl (fun K hK => ?_)
  go_simp
  try rw [hW4]
  refine hK.out _ _ (Wl.Kn.on C4.out HX4.out) (fun hk => ?_)
  clear hK K
  refine Wl.one (i := 18) (by kernel_rfl) rfl (fun K hK => ?_)
  refine stepQue repC_len Try.underlying30 rfl (by decide) info_rep rfl (.tmp 19) (.tmp 21) rfl rfl HCUT.out (.slice (some ⟨W1.heap.size, 0, none⟩) 1 1) rfl HLIT.out (fun y hy => repC_one y) (by have := HML.out; unfold maxLen; simp only [List.length_singleton]; omega) (by have := HML.out; simp only [List.length_singleton]; omega) (Nat.zero_le _) ?_
  intro v5 w5 hown5 hgr5 hor5
  replace hgr5 : W4.grownBy w5 (Value.slice ao s.out.length s.out.length).ownBlock := hgr5
  replace hor5 : v5.ownBlock = (Value.slice ao s.out.length s.out.length).ownBlock ∨ ∀ q, v5.ownBlock = some q → W4.heap.size ≤ q := hor5
  rw [HOB.out] at hgr5 hor5
  obtain ⟨a5, m5, d5, rfl⟩ := slice_que hown5
  obtain ⟨hn5, ho5⟩ := HV4.out.told hown5 hgr5 hor5
  have HN5 := Lib.hid hn5
  have HO5 := Lib.hid ho5
  have hrow5 := (hgr5.block p HV4.out.plt (fun e => HV4.out.one p e.symm rfl)).trans HV4.out.row
  have cc5 : w5.cell? ⟨p, 6, none⟩ = some (.slice ao s.out.length co) := (xcells hrow5).2.2.2.2.2.2.1
  have zz5 : ∀ i, w5.frozen? ⟨p, i, none⟩ = false := fun i => frozen_of_row _ _ _ _ _ hrow5
  have hx5 : w5.heap[w.heap.size]? = some (.cells #[.int .i64 r.kind, .int .i64 r.node, .string r.text] TR (0, 0)) := (hgr5.block _ (row_lt HX4.out) (fun e => HNO.out _ e.symm rfl)).trans HX4.out
  have HX6 : Hid ((w5.setCell ⟨p, 6, none⟩ (.slice a5 m5 d5)).heap[w.heap.size]? = some (.cells #[.int .i64 r.kind, .int .i64 r.node, .string r.text] TR (0, 0))) := Lib.hid ((heap_setCell_other w5 ⟨p, 6, none⟩ _ _ HPB.out).trans hx5)
  clear hown5 hgr5 hn5 ho5 hrow5 hor5
  refine hK.out _ _ (Wl.Kn.on cc5 hx5) (fun hk => ?_)
  clear hK K
  refine Wl.take (i := 19) (v := .pointer (some ⟨p, 0, none⟩)) [20, 21] rfl (by kernel_rfl) (by kernel_rfl) (by kernel_rfl) (by kernel_rfl) (by kernel_rfl) (fun _ _ _ h => h) (.inl ⟨by kernel_rfl, ?_⟩) hk ?_
  · intro wx hSw
    clear hSw hk
    go_simp
    try first | with_reducible rfl | kernel_rfl
  simp only [Act.put, List.getElem_toArray, List.getElem_cons_succ, List.getElem_cons_zero, List.setIfInBounds_toArray, List.set_cons_succ, List.set_cons_zero]
  refine Wl.take (i := 20) (v := .pointer (some ⟨p, 6, none⟩)) [21] rfl (by kernel_rfl) (by kernel_rfl) (by kernel_rfl) (by kernel_rfl) (by kernel_rfl) (fun _ _ _ h => h) (.inl ⟨by kernel_rfl, ?_⟩) hk ?_
  · intro wx hSw
    clear hSw hk
    go_simp
    try first | with_reducible rfl | kernel_rfl
  simp only [Act.put, List.getElem_toArray, List.getElem_cons_succ, List.getElem_cons_zero, List.setIfInBounds_toArray, List.set_cons_succ, List.set_cons_zero]
  refine Wl.one (i := 21) (by kernel_rfl) rfl (fun K hK => ?_)
  go_simp
  refine hK.out _ _ (Wl.Kn.off (by kernel_rfl) HX6.out) (fun hk => ?_)
  clear hK K
  refine Wl.done (by kernel_rfl) ?_ _
  clear hk
  go_wp2
  refine bodyPost_end (results_none rfl _ _ _) rfl ?_
  have hz : (w5.setCell ⟨p, 6, none⟩ (.slice a5 m5 d5)).heap.size = w5.heap.size := by simp
  obtain ⟨q1, q2⟩ := told_ahead (S' := Grow S W4 w5) HB4.out (w' := w5.setCell ⟨p, 6, none⟩ (.slice a5 m5 d5)) (S := S) (fun k hk => by
    rcases hk with hk | hk
    · exact .inl hk
    · exact .inr ⟨hk.1, by rw [hz]; exact hk.2⟩) HO5.out
  exact ⟨rfl, _, _, HN5.out, q1, q2⟩
set_option maxHeartbeats 400000 in
theorem end_any (w : World) (h : XSV w S p vq vo b bd al tx s) : Calls Try.prog 44 #[.pointer (some ⟨p, 0, none⟩)] w fun e w' => e = .returned (.tuple #[]) ∧ XSV w' S p (.slice none 0 0) vo b bd al emp (hangS s) ∧ Only S w w' := by
  obtain ⟨c0, c1, c2, c3, c4, c5, c6, z⟩ := xcells h.row
  have HF : Hid (XSV (((w.setCell ⟨p, 3, none⟩ (.int .i64 7)).setCell ⟨p, 2, none⟩ (.slice none 0 0)).setCell ⟨p, 5, none⟩ (.string ⟨#[]⟩)) S p (.slice none 0 0) vo b bd al emp (hangS s) ∧ Only S w (((w.setCell ⟨p, 3, none⟩ (.int .i64 7)).setCell ⟨p, 2, none⟩ (.slice none 0 0)).setCell ⟨p, 5, none⟩ (.string ⟨#[]⟩))) :=
    Lib.hid ⟨h.ends (xs5 (xs2 (xs3 h.row))) (fun k hk => (xo _ p 5 _ k hk).trans ((xo _ p 2 _ k hk).trans (xo _ p 3 _ k hk))) (by simp), ((only_cell h.sp 3 _).trans (only_cell h.sp 2 _)).trans (only_cell h.sp 5 _)⟩
  obtain ⟨aq, nq, mq, rfl⟩ := slice_que h.q
  clear h c0 c1 c4 c6
  go_enter Try.func44, Try.ntmps44
  go_wp2
  refine bodyPost_end (results_none rfl _ _ _) rfl ?_
  exact ⟨rfl, HF.out⟩
end Mv
end Go.Proofs.Ytdakkjpejhlciaa
