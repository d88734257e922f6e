/- A holder, a ledger, a keeper, in memory. No condition. The play's apply. No condition. The play's ask. No condition. -/
import Derived.Test.YtgbblegcjladaaaSu1
import Derived.Test.YtgbblegcjladaaaMp
import Derived.Test.YtgbblegcjladaaaWl
namespace Go.Proofs.Ytgbblegcjladaaa
open Go.ChangeShapes Go.WideShapes Go.ChangeAt Go.RowKit Go.Deep Go.Maps Go.ChangeMaps Go.MapKept
set_option linter.unusedVariables false
set_option maxRecDepth 100000
set_option linter.unusedSimpArgs false
namespace Sf
open Lt Ls La Ld Cm Mc Mp
abbrev TP : TypeId := 81
abbrev TCmd : TypeId := 58
abbrev THeld : TypeId := 47
abbrev TLast : TypeId := 103
abbrev TMA : TypeId := 79
def okU (x : Int) : Prop := (Lit.int .u64 x).wf = true
theorem u64K {P : Program} {k : TypeId} (hk : P.underlying k = some (.int .u64)) : KeyT P k (Value.int .u64) (Lit.int .u64) okU :=
  ⟨int_keyed hk, fun hx => keyOf_int_mk hk hx, fun h => by obtain ⟨x, rfl, rfl, hw⟩ := keyOf_int_inv hk h; exact ⟨x, hw, rfl, rfl⟩, fun _ _ h => by simpa using h⟩
abbrev cmL (c : Cmd) : List Value := (cmA c).toList
theorem cmL_len (c : Cmd) : (cmL c).length = 8 := rfl
theorem cmL_one (c : Cmd) : ∀ u ∈ cmL c, u.oneCell' = true := by intro u hu; simp at hu; rcases hu with rfl | rfl | rfl | rfl | rfl | rfl | rfl | rfl <;> rfl
abbrev ansV (a : La.Ans) : Value := .agg #[.int .i64 a.code, .int .i64 a.token, .int .u64 a.serial]
def ansF (x : Pl) (q : Int) : Option Value := (x.ans q).map ansV
abbrev plA (pw pk : Nat) (x : Pl) (vh vl va : Value) (g : Nat) : Array Value := #[.pointer (some ⟨pw, 0, none⟩), .pointer (some ⟨pk, 0, none⟩), .int .i64 x.l.limit, .int .u64 x.l.next, vh, vl, .int .i64 x.a, .int .i64 x.b, .int .u64 x.idx, .int .u64 x.seq, va, .map (some g)]
variable {w w' w1 a : World} {Q O O' : Nat → Prop} {P pw pk g g' N B : Nat} {short n : Int} {x x' : Pl} {vh vl va vh' vl' va' : Value} {s' : Wa} {K' : List Row}
/-- what the play owns beside its own row -/
structure PlR (w : World) (Q : Nat → Prop) (P : Nat) (x : Pl) (vh vl va : Value) (g N : Nat) : Prop where
  h : OwnR 5 heldC THeld w 0 vh x.l.held
  l : OwnR 6 lastC TLast w 0 vl x.l.last
  k : OwnR 8 cmL TCmd w 0 va x.asked
  m : MapF Try.prog 31 (Lit.int .u64) okU w g N (ansF x)
  oP : Q P
  og : Q g ∧ g ≠ P
  oh : ∀ k, vh.ownBlock = some k → Q k ∧ k ≠ P
  ol : ∀ k, vl.ownBlock = some k → Q k ∧ k ≠ P
  ok : ∀ k, va.ownBlock = some k → Q k ∧ k ≠ P
theorem PlR.keep (h : PlR w Q P x vh vl va g N) (hk : ∀ k, Q k → k ≠ P → w'.heap[k]? = w.heap[k]?) : PlR w' Q P x vh vl va g N :=
  ⟨own_keep h.h (fun k hq _ => hk k (h.oh k hq).1 (h.oh k hq).2), own_keep h.l (fun k hq _ => hk k (h.ol k hq).1 (h.ol k hq).2), own_keep h.k (fun k hq _ => hk k (h.ok k hq).1 (h.ok k hq).2), h.m.block (hk g h.og.1 h.og.2), h.oP, h.og, h.oh, h.ol, h.ok⟩
theorem PlR.as (h : PlR w Q P x vh vl va g N) (e1 : x'.l = x.l) (e2 : x'.asked = x.asked) (e3 : x'.ans = x.ans) : PlR w Q P x' vh vl va g N :=
  ⟨by rw [e1]; exact h.h, by rw [e1]; exact h.l, by rw [e2]; exact h.k, by unfold ansF; rw [e3]; exact h.m, h.oP, h.og, h.oh, h.ol, h.ok⟩
/-- the play, and blocks O that are nobody's -/
structure PlG (P pw pk : Nat) (short n : Int) (x : Pl) (vh vl va : Value) (g N : Nat) (Q O : Nat → Prop) (B : Nat) (a w : World) : Prop where
  two : TwoO (WaX pw short x.s) (KpX pk n x.K) (fun k => Q k ∨ O k) B a w
  ap : ∀ k, Q k → ¬ O k
  row : w.heap[P]? = some (.cells (plA pw pk x vh vl va g) TP (0, 0))
  r : PlR w Q P x vh vl va g N
def PlV (P pw pk : Nat) (short n : Int) (N : Nat) (x : Pl) (O : Nat → Prop) (B : Nat) (a w : World) : Prop := ∃ vh vl va g Q, PlG P pw pk short n x vh vl va g N Q O B a w
theorem two_lt {V1 V2 : World → (Nat → Prop) → Prop} (h : TwoO V1 V2 O B a w) {k : Nat} (hk : O k) : k < w.heap.size ∧ B ≤ k := by obtain ⟨S1, S2, -, -, -, -, -, h6, -, -⟩ := h; exact ⟨(h6 k hk).1, (h6 k hk).2.2.2⟩
theorem PlG.lt (h : PlG P pw pk short n x vh vl va g N Q O B a w) {k : Nat} (hk : O k) : k < w.heap.size := (two_lt h.two (.inr hk)).1
theorem PlG.bel (h : PlG P pw pk short n x vh vl va g N Q O B a w) : Below B a w ∧ B ≤ w.heap.size := h.two.bel
theorem PlG.below (h : PlG P pw pk short n x vh vl va g N Q O B a w) (hb : Below w.heap.size w w') : PlG P pw pk short n x vh vl va g N Q O B a w' :=
  ⟨TwoO.below (goodW pw short _) (goodK pk n _) h.two hb, h.ap, (hb.block P (row_lt h.row)).trans h.row, h.r.keep (fun k hk _ => hb.block k (two_lt h.two (.inl hk)).1)⟩
theorem PlG.drew (h : PlG P pw pk short n x vh vl va g N Q O B a w) : PlG P pw pk short n x vh vl va g N Q O B a w.drew := h.below ((Below.refl _ _).drew)
/-- what is made since is nobody's -/
theorem PlG.more (h : PlG P pw pk short n x vh vl va g N Q O B a w) (hb : Below w.heap.size w w') : PlG P pw pk short n x vh vl va g N Q (fun k => O k ∨ (w.heap.size ≤ k ∧ k < w'.heap.size)) B a w' := by
  have h1 := h.below hb
  refine ⟨TwoO.mono (TwoO.more (goodW pw short _) (goodK pk n _) h.two hb) (fun k hk => ?_), fun k hq ho => ?_, h1.row, h1.r⟩
  · rcases hk with hk | hk | hk
    · exact .inl (.inl hk)
    · exact .inl (.inr hk)
    · exact .inr hk
  · rcases ho with ho | ho
    · exact h.ap k hq ho
    · have := (two_lt h.two (.inl hq)).1; omega
theorem PlG.mono (h : PlG P pw pk short n x vh vl va g N Q O B a w) (hO : ∀ k, O' k → O k) : PlG P pw pk short n x vh vl va g N Q O' B a w :=
  ⟨TwoO.mono h.two (fun k hk => hk.elim .inl (fun q => .inr (hO k q))), fun k hq ho => h.ap k hq (hO k ho), h.row, h.r⟩
/-- nobody's blocks are written -/
theorem PlG.only (h : PlG P pw pk short n x vh vl va g N Q O B a w) (ho : Only O w w') : PlG P pw pk short n x vh vl va g N Q O B a w' :=
  ⟨TwoO.only (goodW pw short _) (goodK pk n _) h.two (ho.mono (fun k hk => .inr hk)), h.ap, (only_at ho (row_lt h.row) (h.ap P h.r.oP)).trans h.row, h.r.keep (fun k hk _ => only_at ho (two_lt h.two (.inl hk)).1 (h.ap k hk))⟩
/-- the play's own blocks are written -/
theorem PlG.writes (h : PlG P pw pk short n x vh vl va g N Q O B a w) (ho : Only Q w w') : TwoO (WaX pw short x.s) (KpX pk n x.K) (fun k => Q k ∨ O k) B a w' ∧ ∀ k, O k → w'.heap[k]? = w.heap[k]? :=
  ⟨TwoO.only (goodW pw short _) (goodK pk n _) h.two (ho.mono (fun k hk => .inl hk)), fun k hk => only_at ho (h.lt hk) (fun q => h.ap k q hk)⟩
/-- one cell of the row -/
theorem PlG.cell (h : PlG P pw pk short n x vh vl va g N Q O B a w) {i : Nat} {v : Value} (hs : x'.s = x.s) (hK : x'.K = x.K) (e : (plA pw pk x vh vl va g).setIfInBounds i v = plA pw pk x' vh vl va g) (e1 : x'.l = x.l) (e2 : x'.asked = x.asked) (e3 : x'.ans = x.ans) :
    PlG P pw pk short n x' vh vl va g N Q O B a (w.setCell ⟨P, i, none⟩ v) ∧ ∀ k, O k → (w.setCell ⟨P, i, none⟩ v).heap[k]? = w.heap[k]? := by
  have ho : Only Q w (w.setCell ⟨P, i, none⟩ v) := Only.setCell w ⟨P, i, none⟩ v h.r.oP
  obtain ⟨h1, h2⟩ := h.writes ho
  refine ⟨⟨by rw [hs, hK]; exact h1, h.ap, ?_, (h.r.as e1 e2 e3).keep (fun k _ hk => heap_setCell_other w ⟨P, i, none⟩ k _ hk)⟩, h2⟩
  rw [heap_setCell_same w P i _ TP v h.row, e]
/-- a call on the wallet -/
theorem PlG.onW {f : Nat} {args : Array Value} {R : Ending → World → Prop} (h : PlG P pw pk short n x vh vl va g N Q O B a w) (hc : ∀ S, WaX pw short x.s w S → Calls Try.prog f args w (fun e w' => R e w' ∧ Mc.Left (WaX pw short s') S w w')) :
    Calls Try.prog f args w (fun e w' => R e w' ∧ PlG P pw pk short n { x with s := s' } vh vl va g N Q O B a w' ∧ ∀ k, O k → w'.heap[k]? = w.heap[k]?) :=
  (TwoO.fst (goodW pw short _) (goodK pk n _) h.two (fun S hv _ _ => hc S hv)).mono (fun e w' ⟨h1, h2, h3⟩ => ⟨h1, ⟨h2, h.ap, (h3 P (.inl h.r.oP)).trans h.row, (h.r.as (x' := { x with s := s' }) rfl rfl rfl).keep (fun k hk _ => h3 k (.inl hk))⟩, fun k hk => h3 k (.inr hk)⟩)
/-- a call on the keeper; what else is the play's may be read -/
theorem PlG.onK {f : Nat} {args : Array Value} {R : Ending → World → Prop} (h : PlG P pw pk short n x vh vl va g N Q O B a w) (hc : ∀ S, KpX pk n x.K w S → (∀ w', Only S w w' → ∀ k, Q k ∨ O k → w'.heap[k]? = w.heap[k]?) → Calls Try.prog f args w (fun e w' => R e w' ∧ Mc.Left (KpX pk n K') S w w')) :
    Calls Try.prog f args w (fun e w' => R e w' ∧ PlG P pw pk short n { x with K := K' } vh vl va g N Q O B a w' ∧ ∀ k, O k → w'.heap[k]? = w.heap[k]?) :=
  (TwoO.snd (goodW pw short _) (goodK pk n _) h.two (fun S hv hO _ => hc S hv (fun w' ho k hk => only_at ho (two_lt h.two hk).1 (hO k hk)))).mono (fun e w' ⟨h1, h2, h3⟩ => ⟨h1, ⟨h2, h.ap, (h3 P (.inl h.r.oP)).trans h.row, (h.r.as (x' := { x with K := K' }) rfl rfl rfl).keep (fun k hk _ => h3 k (.inl hk))⟩, fun k hk => h3 k (.inr hk)⟩)
/-- the ledger's rows, wherever they stay -/
theorem PlG.led (h : PlG P pw pk short n x vh vl va g N Q O B a w) (hw : x.l.wf) : IsLed w (.agg (lArr x.l vh vl)) x.l := ⟨vh, vl, rfl, h.r.h.sl heldC_len, h.r.l.sl lastC_len, hw⟩
end Sf
end Go.Proofs.Ytgbblegcjladaaa
namespace Go.Proofs.Ytgbblegcjladaaa
open Go.ChangeShapes Go.WideShapes Go.ChangeAt Go.RowKit Go.Deep Go.Maps Go.ChangeMaps Go.MapKept
set_option linter.unusedVariables false
set_option maxRecDepth 100000
set_option linter.unusedSimpArgs false
namespace Wl
section
variable {P : Program} {ops : Array Oper} {Q : Exit → Act → World → Prop} {k : Nat} {p q : World → Prop}
/-- one of three -/
theorem three {i j l : Nat} {o x y : Oper} {n : Nat} {L : Array Bool} {a : Act} {w : World} (hr : Region.ready .any ops L = [i, j, l]) (ho : ops[i]? = some o) (hx : ops[j]? = some x) (hy : ops[l]? = some y)
    (h : ∀ K : Act → World → Prop, Shut (∀ a w, Kn k p q (L.setIfInBounds i true) w → (Kn k p q (L.setIfInBounds i true) w → Any P ops Q k p q n (L.setIfInBounds i true) a w) → K a w) → if Region.wanted o (yielded ops a.tmps) = true then Oper.wp P o a w K Q else K (a.put o.dst undef) w)
    (g : ∀ K : Act → World → Prop, Shut (∀ a w, Kn k p q (L.setIfInBounds j true) w → (Kn k p q (L.setIfInBounds j true) w → Any P ops Q k p q n (L.setIfInBounds j true) a w) → K a w) → if Region.wanted x (yielded ops a.tmps) = true then Oper.wp P x a w K Q else K (a.put x.dst undef) w)
    (f : ∀ K : Act → World → Prop, Shut (∀ a w, Kn k p q (L.setIfInBounds l true) w → (Kn k p q (L.setIfInBounds l true) w → Any P ops Q k p q n (L.setIfInBounds l true) a w) → K a w) → if Region.wanted y (yielded ops a.tmps) = true then Oper.wp P y a w K Q else K (a.put y.dst undef) w) :
    Any P ops Q k p q (n + 1) L a w := by
  refine ⟨fun e => (by rw [hr] at e; cases e), fun b hb => ?_⟩
  rw [hr] at hb
  simp only [List.mem_cons, List.not_mem_nil, or_false] at hb
  rcases hb with rfl | rfl | rfl
  · exact wpOp_step ho (fun K hK => h K (fun a w h1 h2 => hK a w ⟨h1, h2 h1⟩))
  · exact wpOp_step hx (fun K hK => g K (fun a w h1 h2 => hK a w ⟨h1, h2 h1⟩))
  · exact wpOp_step hy (fun K hK => f K (fun a w h1 h2 => hK a w ⟨h1, h2 h1⟩))
end
end Wl
namespace Sf
open Lt Ls La Ld Cm Mc Mp
variable {w w' w1 a : World} {Q O O' : Nat → Prop} {P pw pk g g' N B : Nat} {short n : Int} {x x' : Pl} {vh vl va vh' vl' va' : Value} {s' : Wa} {K' : List Row}
theorem rng_part {cs : Array Value} {t : TypeId} {fr : Nat × Nat} {l : List Value} (o : Nat) (h : w.heap[g]? = some (.cells cs t fr)) (hl : (cs.toList.drop o).take l.length = l) : w.rangeAt g o l := fun j v hv => by
  have hj : j < l.length := (List.getElem?_eq_some_iff.1 hv).1
  rw [cell_of_row _ _ _ _ _ _ h]
  rw [← hl] at hv
  rw [List.getElem?_take_of_lt hj, List.getElem?_drop, Array.getElem?_toList] at hv
  exact hv
theorem mid4 {z6 z7 z8 z9 : Int} {y0 y1 y2 y3 n0 n1 n2 n3 : Value} (h : w.heap[P]? = some (.cells #[.pointer (some ⟨pw, 0, none⟩), .pointer (some ⟨pk, 0, none⟩), y0, y1, y2, y3, .int .i64 z6, .int .i64 z7, .int .u64 z8, .int .u64 z9, va, .map (some g)] TP (0, 0))) : (w.setCells P 2 [n0, n1, n2, n3]).heap[P]? = some (.cells #[.pointer (some ⟨pw, 0, none⟩), .pointer (some ⟨pk, 0, none⟩), n0, n1, n2, n3, .int .i64 z6, .int .i64 z7, .int .u64 z8, .int .u64 z9, va, .map (some g)] TP (0, 0)) := by
  have h0 : (w.setCell ⟨P, 2, none⟩ n0).heap[P]? = some (.cells #[.pointer (some ⟨pw, 0, none⟩), .pointer (some ⟨pk, 0, none⟩), n0, y1, y2, y3, .int .i64 z6, .int .i64 z7, .int .u64 z8, .int .u64 z9, va, .map (some g)] TP (0, 0)) := (heap_setCell_same _ P 2 _ TP _ h).trans rfl
  have h1 : ((w.setCell ⟨P, 2, none⟩ n0).setCell ⟨P, 3, none⟩ n1).heap[P]? = some (.cells #[.pointer (some ⟨pw, 0, none⟩), .pointer (some ⟨pk, 0, none⟩), n0, n1, y2, y3, .int .i64 z6, .int .i64 z7, .int .u64 z8, .int .u64 z9, va, .map (some g)] TP (0, 0)) := (heap_setCell_same _ P 3 _ TP _ h0).trans rfl
  have h2 : (((w.setCell ⟨P, 2, none⟩ n0).setCell ⟨P, 3, none⟩ n1).setCell ⟨P, 4, none⟩ n2).heap[P]? = some (.cells #[.pointer (some ⟨pw, 0, none⟩), .pointer (some ⟨pk, 0, none⟩), n0, n1, n2, y3, .int .i64 z6, .int .i64 z7, .int .u64 z8, .int .u64 z9, va, .map (some g)] TP (0, 0)) := (heap_setCell_same _ P 4 _ TP _ h1).trans rfl
  have h3 : ((((w.setCell ⟨P, 2, none⟩ n0).setCell ⟨P, 3, none⟩ n1).setCell ⟨P, 4, none⟩ n2).setCell ⟨P, 5, none⟩ n3).heap[P]? = some (.cells #[.pointer (some ⟨pw, 0, none⟩), .pointer (some ⟨pk, 0, none⟩), n0, n1, n2, n3, .int .i64 z6, .int .i64 z7, .int .u64 z8, .int .u64 z9, va, .map (some g)] TP (0, 0)) := (heap_setCell_same _ P 5 _ TP _ h2).trans rfl
  exact h3
theorem midN4 {n0 n1 n2 n3 : Value} {k : Nat} (hk : k ≠ P) : (w.setCells P 2 [n0, n1, n2, n3]).heap[k]? = w.heap[k]? := by
  have o0 : (w.setCell ⟨P, 2, none⟩ n0).heap[k]? = w.heap[k]? := heap_setCell_other w ⟨P, 2, none⟩ k _ hk
  have o1 : ((w.setCell ⟨P, 2, none⟩ n0).setCell ⟨P, 3, none⟩ n1).heap[k]? = w.heap[k]? := (heap_setCell_other _ ⟨P, 3, none⟩ k _ hk).trans o0
  have o2 : (((w.setCell ⟨P, 2, none⟩ n0).setCell ⟨P, 3, none⟩ n1).setCell ⟨P, 4, none⟩ n2).heap[k]? = w.heap[k]? := (heap_setCell_other _ ⟨P, 4, none⟩ k _ hk).trans o1
  have o3 : ((((w.setCell ⟨P, 2, none⟩ n0).setCell ⟨P, 3, none⟩ n1).setCell ⟨P, 4, none⟩ n2).setCell ⟨P, 5, none⟩ n3).heap[k]? = w.heap[k]? := (heap_setCell_other _ ⟨P, 5, none⟩ k _ hk).trans o2
  exact o3
theorem midO4 {S : Nat → Prop} {n0 n1 n2 n3 : Value} (hq : S P) : Only S w (w.setCells P 2 [n0, n1, n2, n3]) := by
  have o0 : Only S w (w.setCell ⟨P, 2, none⟩ n0) := Only.setCell w ⟨P, 2, none⟩ _ hq
  have o1 : Only S w ((w.setCell ⟨P, 2, none⟩ n0).setCell ⟨P, 3, none⟩ n1) := o0.trans (Only.setCell _ ⟨P, 3, none⟩ _ hq)
  have o2 : Only S w (((w.setCell ⟨P, 2, none⟩ n0).setCell ⟨P, 3, none⟩ n1).setCell ⟨P, 4, none⟩ n2) := o1.trans (Only.setCell _ ⟨P, 4, none⟩ _ hq)
  have o3 : Only S w ((((w.setCell ⟨P, 2, none⟩ n0).setCell ⟨P, 3, none⟩ n1).setCell ⟨P, 4, none⟩ n2).setCell ⟨P, 5, none⟩ n3) := o2.trans (Only.setCell _ ⟨P, 5, none⟩ _ hq)
  exact o3
/-- behind an apply -/
def appX (x : Pl) (c : Cmd) : Pl := { x with idx := x.idx + 1, l := (doL x.l (x.idx + 1) c).1, K := seesV x.b x.K (doL x.l (x.idx + 1) c).1.held }
set_option maxRecDepth 100000 in
set_option maxHeartbeats 64000000 in
theorem papply_any (c : Cmd) (w : World) (h : PlV P pw pk short n N x O B a w) (hl : LedP x.l ∧ x.l.wf) (hok : OkL x.K) (hc : cmdOk c) (he : errL x.l (x.idx + 1) c = 0) (hi : 0 ≤ x.idx ∧ x.idx ≤ 1000000) (hd : LedP (doL x.l (x.idx + 1) c).1 ∧ (doL x.l (x.idx + 1) c).1.wf) :
    Calls Try.prog 39 #[.pointer (some ⟨P, 0, none⟩), .agg (cmA c)] w fun e w' => e = .returned (.tuple #[.agg (aA (doL x.l (x.idx + 1) c).2), .bool true]) ∧ PlV P pw pk short n N (appX x c) O B a w' ∧ ∀ k, O k → w'.heap[k]? = w.heap[k]? := by
  obtain ⟨vh, vl, va, g, Q, h⟩ := h
  have hwx : appX x c = { x with idx := x.idx + 1, l := (doL x.l (x.idx + 1) c).1, K := seesV x.b x.K (doL x.l (x.idx + 1) c).1.held } := rfl
  obtain ⟨l', hl'⟩ : ∃ z, (doL x.l (x.idx + 1) c).1 = z := ⟨_, rfl⟩
  obtain ⟨a', ha'⟩ : ∃ z, (doL x.l (x.idx + 1) c).2 = z := ⟨_, rfl⟩
  have hap : applyL x.l (x.idx + 1) c = l' ∧ answerL x.l (x.idx + 1) c = a' := by unfold applyL answerL; rw [if_pos he, if_pos he]; exact ⟨hl', ha'⟩
  rw [hl'] at hd hwx
  rw [ha', hwx]
  clear hl' ha' hwx
  obtain ⟨g3, hg3⟩ : ∃ z, w.heap.size = z := ⟨_, rfl⟩
  obtain ⟨W1, hW1⟩ : ∃ z, w.alloc (.cells (cmA c) TCmd) = z := ⟨_, rfl⟩
  have hb1 : Below w.heap.size w W1 := by rw [← hW1]; exact (Below.refl _ _).alloc (Nat.le_refl _) _
  have hr1 : W1.heap[g3]? = some (.cells (cmA c) TCmd (0, 0)) := by rw [← hW1, ← hg3]; exact heap_alloc_new _ _
  obtain ⟨g4, hg4⟩ : ∃ z, W1.heap.size = z := ⟨_, rfl⟩
  obtain ⟨W2, hW2⟩ : ∃ z, W1.alloc (.cells #[.int .i64 0, .int .i64 0, .int .u64 0] 60) = z := ⟨_, rfl⟩
  have hb2 : Below W1.heap.size W1 W2 := by rw [← hW2]; exact (Below.refl _ _).alloc (Nat.le_refl _) _
  have hz2 : W2.heap[g4]? = some (.cells #[.int .i64 0, .int .i64 0, .int .u64 0] 60 (0, 0)) := by rw [← hW2, ← hg4]; exact heap_alloc_new _ _
  have hc2 := (hb2.block g3 (row_lt hr1)).trans hr1
  have hb02 := hb1.trans (hb2.mono hb1.size)
  obtain ⟨O2, hO2⟩ : ∃ Z : Nat → Prop, Z = (fun k => O k ∨ (w.heap.size ≤ k ∧ k < W2.heap.size)) := ⟨_, rfl⟩
  have h2 : PlG P pw pk short n x vh vl va g N Q O2 B a W2 := by rw [hO2]; exact h.more hb02
  have HOO : Hid ((∀ k, O k → O2 k) ∧ O2 g3 ∧ O2 g4 ∧ ∀ k, O k → W2.heap[k]? = w.heap[k]?) := Lib.hid (by
    rw [hO2]
    exact ⟨fun k hk => .inl hk, .inr ⟨by omega, by have := row_lt hc2; omega⟩, .inr ⟨by have := hb1.size; omega, row_lt hz2⟩, fun k hk => hb02.block k (h.lt hk)⟩)
  have e8 : W2.cell? ⟨P, 8, none⟩ = some (.int .u64 x.idx) := (cell_of_row _ _ 8 _ _ _ h2.row).trans rfl
  have f8 : W2.frozen? ⟨P, 8, none⟩ = false := frozen_of_row W2 _ _ _ _ h2.row
  have hwr : IntKind.u64.wrap (x.idx + 1) = x.idx + 1 := by rw [IntKind.wrap_u64]; omega
  obtain ⟨x1, hx1⟩ : ∃ z : Pl, z = { x with idx := x.idx + 1 } := ⟨_, rfl⟩
  obtain ⟨W3, hW3⟩ : ∃ z, W2.setCell ⟨P, 8, none⟩ (.int .u64 (x.idx + 1)) = z := ⟨_, rfl⟩
  have h3 : PlG P pw pk short n x1 vh vl va g N Q O2 B a W3 ∧ ∀ k, O2 k → W3.heap[k]? = W2.heap[k]? := by rw [← hW3, hx1]; exact h2.cell (x' := { x with idx := x.idx + 1 }) rfl rfl rfl rfl rfl rfl
  have hrow3 : W3.heap[P]? = some (.cells (plA pw pk { x with idx := x.idx + 1 } vh vl va g) TP (0, 0)) := by have := h3.1.row; rw [hx1] at this; exact this
  have hc3 := (h3.2 g3 HOO.out.2.1).trans hc2
  have hz3 := (h3.2 g4 HOO.out.2.2.1).trans hz2
  have H3 : Hid (PlG P pw pk short n x1 vh vl va g N Q O2 B a W3 ∧ ∀ k, O k → W3.heap[k]? = w.heap[k]?) := Lib.hid ⟨h3.1, fun k hk => (h3.2 k (HOO.out.1 k hk)).trans (HOO.out.2.2.2 k hk)⟩
  have HZ4 : Hid (W3.heap[g4]? = some (.cells #[.int .i64 0, .int .i64 0, .int .u64 0] 60 (0, 0))) := Lib.hid hz3
  have HPP : Hid (∀ u, Below W3.heap.size W3 u → u.rangeAt P 2 [.int .i64 x.l.limit, .int .u64 x.l.next, vh, vl] ∧ u.cell? ⟨P, 8, none⟩ = some (.int .u64 (x.idx + 1)) ∧ u.rangeAt g3 0 (cmL c)) := Lib.hid (fun u hb => by
    have r1 := (hb.block P (row_lt hrow3)).trans hrow3
    have r2 := (hb.block g3 (row_lt hc3)).trans hc3
    exact ⟨rng_part 2 r1 rfl, (cell_of_row _ _ 8 _ _ _ r1).trans rfl, Wl.rng_of_row r2⟩)
  have HAPP : Hid (∀ u, Below W3.heap.size W3 u → Calls Try.prog 42 #[.agg (lArr x.l vh vl), .int .u64 (x.idx + 1), .agg (cmA c)] u (Lr.RApplied l' a' 0 u)) := Lib.hid (fun u hb => by
    have hh := (H3.out.1.below hb).r
    have hx1l : x1.l = x.l := by rw [hx1]
    have := Lr.apply_any x.l (.agg (lArr x.l vh vl)) (.agg (cmA c)) (x.idx + 1) c u ⟨vh, vl, rfl, by rw [← hx1l]; exact hh.h.sl heldC_len, by rw [← hx1l]; exact hh.l.sl lastC_len, hl.2⟩ (led_fits hl.1) (isc0 hc u) (wf_u64 (by omega) (by omega))
    rw [hap.1, hap.2, he] at this
    exact this)
  obtain ⟨u0, hu0⟩ : ∃ z, W3.drew = z := ⟨_, rfl⟩
  have HB0 : Hid (Below W3.heap.size W3 u0) := Lib.hid (by rw [← hu0]; exact (Below.refl _ _).drew)
  have HPD : Hid (W3.drew.rangeAt P 2 [.int .i64 x.l.limit, .int .u64 x.l.next, vh, vl] ∧ W3.drew.cell? ⟨P, 8, none⟩ = some (.int .u64 (x.idx + 1)) ∧ W3.drew.rangeAt g3 0 (cmL c)) := Lib.hid (HPP.out _ (Below.refl _ _).drew)
  have HX1 := Lib.hid hx1
  have HD := Lib.hid hd
  have HOK := Lib.hid hok
  have HLT : Hid (∀ k, O k → k < w.heap.size) := Lib.hid (fun k hk => h.lt hk)
  have HG4 : Hid (w.heap.size ≤ g4) := Lib.hid (by have := hb1.size; omega)
  clear hb1 hr1 hb2 hz2 hc2 hb02 hO2 h2 h3 hrow3 hc3 hz3 hap h hx1 hd hok he
  go_enter Try.func39, Try.ntmps39
  go_upto_region 2 with (first | rw [hW1, hg3] | rw [hW2, hg4] | rw [hW3])
  clear e8 f8 hwr hW1 hW2 hW3 hg3 hg4
  refine (fun (REST : ∀ (u : World) (g6 g7 : Nat) (vh' vl' : Value), Hid (Below W3.heap.size W3 u ∧ u.heap[g6]? = some (.cells #[.int .i64 0, .int .u64 0, .slice none 0 0, .slice none 0 0] 35 (0, 0)) ∧ u.heap[g7]? = some (.cells #[.int .i64 0, .int .i64 0, .int .u64 0] 60 (0, 0)) ∧ W3.heap.size ≤ g6 ∧ W3.heap.size ≤ g7 ∧ OwnR 5 heldC THeld u W3.heap.size vh' l'.held ∧ OwnR 6 lastC TLast u W3.heap.size vl' l'.last) → (?X : World → Nat → Nat → Value → Value → Prop) u g6 g7 vh' vl') => ?_) ?_
  rotate_left
  refine Wl.start 16 (fun u => u.rangeAt P 2 [.int .i64 x.l.limit, .int .u64 x.l.next, vh, vl] ∧ u.cell? ⟨P, 8, none⟩ = some (.int .u64 (x.idx + 1)) ∧ u.rangeAt g3 0 (cmL c)) (fun _ => True) (by kernel_rfl) HPD.out trivial (fun hk => ?_)
  rw [hu0] at hk ⊢
  refine Wl.take (i := 0) (v := .pointer (some ⟨P, 0, none⟩)) [1, 2, 3, 9, 10, 11, 16] rfl (by kernel_rfl) (by kernel_rfl) (by kernel_rfl) (by kernel_rfl) (by kernel_rfl) (fun _ _ _ h => h) (.inl ⟨by kernel_rfl, ?_⟩) hk ?_
  · intro wx hSw
    clear hSw hk
    go_simp
    try first | with_reducible rfl | kernel_rfl
  simp only [Act.put, List.getElem_toArray, List.getElem_cons_succ, List.getElem_cons_zero, List.setIfInBounds_toArray, List.set_cons_succ, List.set_cons_zero]
  refine Wl.take (i := 1) (v := .pointer (some ⟨P, 0, none⟩)) [2, 3, 9, 10, 11, 16] rfl (by kernel_rfl) (by kernel_rfl) (by kernel_rfl) (by kernel_rfl) (by kernel_rfl) (fun _ _ _ h => h) (.inl ⟨by kernel_rfl, ?_⟩) hk ?_
  · intro wx hSw
    clear hSw hk
    go_simp
    try first | with_reducible rfl | kernel_rfl
  simp only [Act.put, List.getElem_toArray, List.getElem_cons_succ, List.getElem_cons_zero, List.setIfInBounds_toArray, List.set_cons_succ, List.set_cons_zero]
  refine Wl.take (i := 2) (v := .pointer (some ⟨P, 2, none⟩)) [3, 9, 10, 11, 16] rfl (by kernel_rfl) (by kernel_rfl) (by kernel_rfl) (by kernel_rfl) (by kernel_rfl) (fun _ _ _ h => h) (.inl ⟨by kernel_rfl, ?_⟩) hk ?_
  · intro wx hSw
    clear hSw hk
    go_simp
    try first | with_reducible rfl | kernel_rfl
  simp only [Act.put, List.getElem_toArray, List.getElem_cons_succ, List.getElem_cons_zero, List.setIfInBounds_toArray, List.set_cons_succ, List.set_cons_zero]
  refine Wl.take (i := 3) (v := .agg #[.int .i64 x.l.limit, .int .u64 x.l.next, vh, vl]) [9, 10, 11, 16] rfl (by kernel_rfl) (by kernel_rfl) (by kernel_rfl) (by kernel_rfl) (by kernel_rfl) (fun _ _ _ h => h) (yieldsIf_load_mid (by rfl) _ _ rfl _ _ rfl [.int .i64 x.l.limit, .int .u64 x.l.next, vh, vl] _ (fun w h => h.1.1) Try.underlying35 rfl (by kernel_rfl)) hk ?_
  simp only [Act.put, List.getElem_toArray, List.getElem_cons_succ, List.getElem_cons_zero, List.setIfInBounds_toArray, List.set_cons_succ, List.set_cons_zero]
  refine Wl.take (i := 4) (v := .pointer (some ⟨P, 0, none⟩)) [5, 6, 7, 9, 10, 11, 16] rfl (by kernel_rfl) (by kernel_rfl) (by kernel_rfl) (by kernel_rfl) (by kernel_rfl) (fun _ _ _ h => h) (.inl ⟨by kernel_rfl, ?_⟩) hk ?_
  · intro wx hSw
    clear hSw hk
    go_simp
    try first | with_reducible rfl | kernel_rfl
  simp only [Act.put, List.getElem_toArray, List.getElem_cons_succ, List.getElem_cons_zero, List.setIfInBounds_toArray, List.set_cons_succ, List.set_cons_zero]
  refine Wl.take (i := 5) (v := .pointer (some ⟨P, 0, none⟩)) [6, 7, 9, 10, 11, 16] rfl (by kernel_rfl) (by kernel_rfl) (by kernel_rfl) (by kernel_rfl) (by kernel_rfl) (fun _ _ _ h => h) (.inl ⟨by kernel_rfl, ?_⟩) hk ?_
  · intro wx hSw
    clear hSw hk
    go_simp
    try first | with_reducible rfl | kernel_rfl
  simp only [Act.put, List.getElem_toArray, List.getElem_cons_succ, List.getElem_cons_zero, List.setIfInBounds_toArray, List.set_cons_succ, List.set_cons_zero]
  refine Wl.take (i := 6) (v := .pointer (some ⟨P, 8, none⟩)) [7, 9, 10, 11, 16] rfl (by kernel_rfl) (by kernel_rfl) (by kernel_rfl) (by kernel_rfl) (by kernel_rfl) (fun _ _ _ h => h) (.inl ⟨by kernel_rfl, ?_⟩) hk ?_
  · intro wx hSw
    clear hSw hk
    go_simp
    try first | with_reducible rfl | kernel_rfl
  simp only [Act.put, List.getElem_toArray, List.getElem_cons_succ, List.getElem_cons_zero, List.setIfInBounds_toArray, List.set_cons_succ, List.set_cons_zero]
  refine Wl.take (i := 7) (v := .int .u64 (x.idx + 1)) [9, 10, 11, 16] rfl (by kernel_rfl) (by kernel_rfl) (by kernel_rfl) (by kernel_rfl) (by kernel_rfl) (fun _ _ _ h => h) (.inl ⟨by kernel_rfl, ?_⟩) hk ?_
  · intro wx hSw
    have cc := hSw.1.2.1
    clear hSw hk
    go_simp
    try first | with_reducible rfl | kernel_rfl
  simp only [Act.put, List.getElem_toArray, List.getElem_cons_succ, List.getElem_cons_zero, List.setIfInBounds_toArray, List.set_cons_succ, List.set_cons_zero]
  refine Wl.take (i := 8) (v := .agg (cmA c)) [9, 10, 11, 16] rfl (by kernel_rfl) (by kernel_rfl) (by kernel_rfl) (by kernel_rfl) (by kernel_rfl) (fun _ _ _ h => h) (yieldsIf_load_mid (by rfl) _ _ rfl _ _ rfl (cmL c) _ (fun w h => h.1.2.2) Try.underlying58 rfl (by kernel_rfl)) hk ?_
  simp only [Act.put, List.getElem_toArray, List.getElem_cons_succ, List.getElem_cons_zero, List.setIfInBounds_toArray, List.set_cons_succ, List.set_cons_zero]
  refine Wl.three (i := 9) (j := 14) (l := 15) (by kernel_rfl) rfl rfl rfl (fun K hK => ?_) (fun K hK => ?_) (fun K hK => ?_)
  · go_simp
    refine (HAPP.out u0 HB0.out).mono ?_
    rintro e u1 ⟨vh', vl', rfl, oh', ol', -, hb⟩
    have HCL : Hid (OwnR 5 heldC THeld u1 W3.heap.size vh' l'.held ∧ OwnR 6 lastC TLast u1 W3.heap.size vl' l'.last) := Lib.hid ⟨ownsRow_base_a oh' HB0.out.size, ownsRow_base_a ol' HB0.out.size⟩
    have HB1 : Hid (Below W3.heap.size W3 u1) := Lib.hid (HB0.out.trans (hb.mono HB0.out.size))
    have HS1 : Hid (Below u0.heap.size u0 u1) := Lib.hid hb
    refine hK.out _ _ (Wl.Kn.on (HPP.out _ HB1.out) trivial) (fun hk => ?_)
    clear hK K hb oh' ol'
    refine Wl.take (i := 10) (v := (.tuple #[.agg (lArr l' vh' vl'), .agg (aA a'), .int .i64 0])) [11, 16] rfl (by kernel_rfl) (by kernel_rfl) (by kernel_rfl) (by kernel_rfl) (by kernel_rfl) (fun _ _ _ h => h) (.inl ⟨by kernel_rfl, ?_⟩) hk ?_
    · intro wx hSw
      clear hSw hk
      go_simp
      try first | with_reducible rfl | kernel_rfl
    simp only [Act.put, List.getElem_toArray, List.getElem_cons_succ, List.getElem_cons_zero, List.setIfInBounds_toArray, List.set_cons_succ, List.set_cons_zero]
    refine Wl.take (i := 11) (v := (.agg (lArr l' vh' vl'))) [16] rfl (by kernel_rfl) (by kernel_rfl) (by kernel_rfl) (by kernel_rfl) (by kernel_rfl) (fun _ _ _ h => h) (.inl ⟨by kernel_rfl, ?_⟩) hk ?_
    · intro wx hSw
      clear hSw hk
      go_simp
      try first | with_reducible rfl | kernel_rfl
    simp only [Act.put, List.getElem_toArray, List.getElem_cons_succ, List.getElem_cons_zero, List.setIfInBounds_toArray, List.set_cons_succ, List.set_cons_zero]
    refine Wl.take0 (i := 12) (v := (.agg (aA a'))) rfl (by kernel_rfl) (by kernel_rfl) (by kernel_rfl) (by kernel_rfl) (fun _ _ _ h => h) (.inl ⟨by kernel_rfl, ?_⟩) hk ?_
    · intro wx hSw
      clear hSw hk
      go_simp
      try first | with_reducible rfl | kernel_rfl
    simp only [Act.put, List.getElem_toArray, List.getElem_cons_succ, List.getElem_cons_zero, List.setIfInBounds_toArray, List.set_cons_succ, List.set_cons_zero]
    refine Wl.take0 (i := 13) (v := .int .i64 0) rfl (by kernel_rfl) (by kernel_rfl) (by kernel_rfl) (by kernel_rfl) (fun _ _ _ h => h) (.inl ⟨by kernel_rfl, ?_⟩) hk ?_
    · intro wx hSw
      clear hSw hk
      go_simp
      try first | with_reducible rfl | kernel_rfl
    simp only [Act.put, List.getElem_toArray, List.getElem_cons_succ, List.getElem_cons_zero, List.setIfInBounds_toArray, List.set_cons_succ, List.set_cons_zero]
    refine Wl.two (i := 14) (j := 15) (by kernel_rfl) rfl rfl (fun K hK => ?_) (fun K hK => ?_)
    · obtain ⟨g6, hg6⟩ : ∃ z, u1.heap.size = z := ⟨_, rfl⟩
      obtain ⟨u2, hu⟩ : ∃ z, u1.alloc (.cells #[.int .i64 0, .int .u64 0, .slice none 0 0, .slice none 0 0] 35) = z := ⟨_, rfl⟩
      have hb : Below u1.heap.size u1 u2 := by rw [← hu]; exact (Below.refl _ _).alloc (Nat.le_refl _) _
      have HG6 : Hid (u2.heap[g6]? = some (.cells #[.int .i64 0, .int .u64 0, .slice none 0 0, .slice none 0 0] 35 (0, 0)) ∧ W3.heap.size ≤ g6) := Lib.hid ⟨by rw [← hu, ← hg6]; exact heap_alloc_new _ _, by rw [← hg6]; exact HB1.out.size⟩
      have HB2 : Hid (Below W3.heap.size W3 u2) := Lib.hid (HB1.out.trans (hb.mono HB1.out.size))
      have HS2 : Hid (Below u1.heap.size u1 u2) := Lib.hid hb
      go_simp
      try rw [hg6]
      try rw [hu]
      refine hK.out _ _ (Wl.Kn.on (HPP.out _ HB2.out) trivial) (fun hk => ?_)
      clear hK K hb hu hg6
      refine Wl.one (i := 15) (by kernel_rfl) rfl (fun K hK => ?_)
      obtain ⟨g7, hg7⟩ : ∃ z, u2.heap.size = z := ⟨_, rfl⟩
      obtain ⟨u3, hu⟩ : ∃ z, u2.alloc (.cells #[.int .i64 0, .int .i64 0, .int .u64 0] 60) = z := ⟨_, rfl⟩
      have hb : Below u2.heap.size u2 u3 := by rw [← hu]; exact (Below.refl _ _).alloc (Nat.le_refl _) _
      have HG7 : Hid (u3.heap[g7]? = some (.cells #[.int .i64 0, .int .i64 0, .int .u64 0] 60 (0, 0)) ∧ W3.heap.size ≤ g7) := Lib.hid ⟨by rw [← hu, ← hg7]; exact heap_alloc_new _ _, by rw [← hg7]; exact HB2.out.size⟩
      have HB3 : Hid (Below W3.heap.size W3 u3) := Lib.hid (HB2.out.trans (hb.mono HB2.out.size))
      have HS3 : Hid (Below u2.heap.size u2 u3) := Lib.hid hb
      go_simp
      try rw [hg7]
      try rw [hu]
      refine hK.out _ _ (Wl.Kn.on (HPP.out _ HB3.out) trivial) (fun hk => ?_)
      clear hK K hb hu hg7
      clear hk
      exact REST u3 g6 g7 vh' vl' (Lib.hid ⟨HB3.out, ((HS3.out.block _ (row_lt (HG6.out.1))).trans (HG6.out.1)), HG7.out.1, HG6.out.2, HG7.out.2, ((((HCL.out.1).below HS2.out (Nat.le_refl _))).below HS3.out (Nat.le_refl _)), ((((HCL.out.2).below HS2.out (Nat.le_refl _))).below HS3.out (Nat.le_refl _))⟩)
    · obtain ⟨g7, hg7⟩ : ∃ z, u1.heap.size = z := ⟨_, rfl⟩
      obtain ⟨u2, hu⟩ : ∃ z, u1.alloc (.cells #[.int .i64 0, .int .i64 0, .int .u64 0] 60) = z := ⟨_, rfl⟩
      have hb : Below u1.heap.size u1 u2 := by rw [← hu]; exact (Below.refl _ _).alloc (Nat.le_refl _) _
      have HG7 : Hid (u2.heap[g7]? = some (.cells #[.int .i64 0, .int .i64 0, .int .u64 0] 60 (0, 0)) ∧ W3.heap.size ≤ g7) := Lib.hid ⟨by rw [← hu, ← hg7]; exact heap_alloc_new _ _, by rw [← hg7]; exact HB1.out.size⟩
      have HB2 : Hid (Below W3.heap.size W3 u2) := Lib.hid (HB1.out.trans (hb.mono HB1.out.size))
      have HS2 : Hid (Below u1.heap.size u1 u2) := Lib.hid hb
      go_simp
      try rw [hg7]
      try rw [hu]
      refine hK.out _ _ (Wl.Kn.on (HPP.out _ HB2.out) trivial) (fun hk => ?_)
      clear hK K hb hu hg7
      refine Wl.one (i := 14) (by kernel_rfl) rfl (fun K hK => ?_)
      obtain ⟨g6, hg6⟩ : ∃ z, u2.heap.size = z := ⟨_, rfl⟩
      obtain ⟨u3, hu⟩ : ∃ z, u2.alloc (.cells #[.int .i64 0, .int .u64 0, .slice none 0 0, .slice none 0 0] 35) = z := ⟨_, rfl⟩
      have hb : Below u2.heap.size u2 u3 := by rw [← hu]; exact (Below.refl _ _).alloc (Nat.le_refl _) _
      have HG6 : Hid (u3.heap[g6]? = some (.cells #[.int .i64 0, .int .u64 0, .slice none 0 0, .slice none 0 0] 35 (0, 0)) ∧ W3.heap.size ≤ g6) := Lib.hid ⟨by rw [← hu, ← hg6]; exact heap_alloc_new _ _, by rw [← hg6]; exact HB2.out.size⟩
      have HB3 : Hid (Below W3.heap.size W3 u3) := Lib.hid (HB2.out.trans (hb.mono HB2.out.size))
      have HS3 : Hid (Below u2.heap.size u2 u3) := Lib.hid hb
      go_simp
      try rw [hg6]
      try rw [hu]
      refine hK.out _ _ (Wl.Kn.on (HPP.out _ HB3.out) trivial) (fun hk => ?_)
      clear hK K hb hu hg6
      clear hk
      exact REST u3 g6 g7 vh' vl' (Lib.hid ⟨HB3.out, HG6.out.1, ((HS3.out.block _ (row_lt (HG7.out.1))).trans (HG7.out.1)), HG6.out.2, HG7.out.2, ((((HCL.out.1).below HS2.out (Nat.le_refl _))).below HS3.out (Nat.le_refl _)), ((((HCL.out.2).below HS2.out (Nat.le_refl _))).below HS3.out (Nat.le_refl _))⟩)
  · obtain ⟨g6, hg6⟩ : ∃ z, u0.heap.size = z := ⟨_, rfl⟩
    obtain ⟨u1, hu⟩ : ∃ z, u0.alloc (.cells #[.int .i64 0, .int .u64 0, .slice none 0 0, .slice none 0 0] 35) = z := ⟨_, rfl⟩
    have hb : Below u0.heap.size u0 u1 := by rw [← hu]; exact (Below.refl _ _).alloc (Nat.le_refl _) _
    have HG6 : Hid (u1.heap[g6]? = some (.cells #[.int .i64 0, .int .u64 0, .slice none 0 0, .slice none 0 0] 35 (0, 0)) ∧ W3.heap.size ≤ g6) := Lib.hid ⟨by rw [← hu, ← hg6]; exact heap_alloc_new _ _, by rw [← hg6]; exact HB0.out.size⟩
    have HB1 : Hid (Below W3.heap.size W3 u1) := Lib.hid (HB0.out.trans (hb.mono HB0.out.size))
    have HS1 : Hid (Below u0.heap.size u0 u1) := Lib.hid hb
    go_simp
    try rw [hg6]
    try rw [hu]
    refine hK.out _ _ (Wl.Kn.on (HPP.out _ HB1.out) trivial) (fun hk => ?_)
    clear hK K hb hu hg6
    refine Wl.two (i := 9) (j := 15) (by kernel_rfl) rfl rfl (fun K hK => ?_) (fun K hK => ?_)
    · go_simp
      refine (HAPP.out u1 HB1.out).mono ?_
      rintro e u2 ⟨vh', vl', rfl, oh', ol', -, hb⟩
      have HCL : Hid (OwnR 5 heldC THeld u2 W3.heap.size vh' l'.held ∧ OwnR 6 lastC TLast u2 W3.heap.size vl' l'.last) := Lib.hid ⟨ownsRow_base_a oh' HB1.out.size, ownsRow_base_a ol' HB1.out.size⟩
      have HB2 : Hid (Below W3.heap.size W3 u2) := Lib.hid (HB1.out.trans (hb.mono HB1.out.size))
      have HS2 : Hid (Below u1.heap.size u1 u2) := Lib.hid hb
      refine hK.out _ _ (Wl.Kn.on (HPP.out _ HB2.out) trivial) (fun hk => ?_)
      clear hK K hb oh' ol'
      refine Wl.take (i := 10) (v := (.tuple #[.agg (lArr l' vh' vl'), .agg (aA a'), .int .i64 0])) [11, 16] rfl (by kernel_rfl) (by kernel_rfl) (by kernel_rfl) (by kernel_rfl) (by kernel_rfl) (fun _ _ _ h => h) (.inl ⟨by kernel_rfl, ?_⟩) hk ?_
      · intro wx hSw
        clear hSw hk
        go_simp
        try first | with_reducible rfl | kernel_rfl
      simp only [Act.put, List.getElem_toArray, List.getElem_cons_succ, List.getElem_cons_zero, List.setIfInBounds_toArray, List.set_cons_succ, List.set_cons_zero]
      refine Wl.take (i := 11) (v := (.agg (lArr l' vh' vl'))) [16] rfl (by kernel_rfl) (by kernel_rfl) (by kernel_rfl) (by kernel_rfl) (by kernel_rfl) (fun _ _ _ h => h) (.inl ⟨by kernel_rfl, ?_⟩) hk ?_
      · intro wx hSw
        clear hSw hk
        go_simp
        try first | with_reducible rfl | kernel_rfl
      simp only [Act.put, List.getElem_toArray, List.getElem_cons_succ, List.getElem_cons_zero, List.setIfInBounds_toArray, List.set_cons_succ, List.set_cons_zero]
      refine Wl.take0 (i := 12) (v := (.agg (aA a'))) rfl (by kernel_rfl) (by kernel_rfl) (by kernel_rfl) (by kernel_rfl) (fun _ _ _ h => h) (.inl ⟨by kernel_rfl, ?_⟩) hk ?_
      · intro wx hSw
        clear hSw hk
        go_simp
        try first | with_reducible rfl | kernel_rfl
      simp only [Act.put, List.getElem_toArray, List.getElem_cons_succ, List.getElem_cons_zero, List.setIfInBounds_toArray, List.set_cons_succ, List.set_cons_zero]
      refine Wl.take0 (i := 13) (v := .int .i64 0) rfl (by kernel_rfl) (by kernel_rfl) (by kernel_rfl) (by kernel_rfl) (fun _ _ _ h => h) (.inl ⟨by kernel_rfl, ?_⟩) hk ?_
      · intro wx hSw
        clear hSw hk
        go_simp
        try first | with_reducible rfl | kernel_rfl
      simp only [Act.put, List.getElem_toArray, List.getElem_cons_succ, List.getElem_cons_zero, List.setIfInBounds_toArray, List.set_cons_succ, List.set_cons_zero]
      refine Wl.one (i := 15) (by kernel_rfl) rfl (fun K hK => ?_)
      obtain ⟨g7, hg7⟩ : ∃ z, u2.heap.size = z := ⟨_, rfl⟩
      obtain ⟨u3, hu⟩ : ∃ z, u2.alloc (.cells #[.int .i64 0, .int .i64 0, .int .u64 0] 60) = z := ⟨_, rfl⟩
      have hb : Below u2.heap.size u2 u3 := by rw [← hu]; exact (Below.refl _ _).alloc (Nat.le_refl _) _
      have HG7 : Hid (u3.heap[g7]? = some (.cells #[.int .i64 0, .int .i64 0, .int .u64 0] 60 (0, 0)) ∧ W3.heap.size ≤ g7) := Lib.hid ⟨by rw [← hu, ← hg7]; exact heap_alloc_new _ _, by rw [← hg7]; exact HB2.out.size⟩
      have HB3 : Hid (Below W3.heap.size W3 u3) := Lib.hid (HB2.out.trans (hb.mono HB2.out.size))
      have HS3 : Hid (Below u2.heap.size u2 u3) := Lib.hid hb
      go_simp
      try rw [hg7]
      try rw [hu]
      refine hK.out _ _ (Wl.Kn.on (HPP.out _ HB3.out) trivial) (fun hk => ?_)
      clear hK K hb hu hg7
      clear hk
      exact REST u3 g6 g7 vh' vl' (Lib.hid ⟨HB3.out, ((HS3.out.block _ (row_lt (((HS2.out.block _ (row_lt (HG6.out.1))).trans (HG6.out.1))))).trans (((HS2.out.block _ (row_lt (HG6.out.1))).trans (HG6.out.1)))), HG7.out.1, HG6.out.2, HG7.out.2, ((HCL.out.1).below HS3.out (Nat.le_refl _)), ((HCL.out.2).below HS3.out (Nat.le_refl _))⟩)
    · obtain ⟨g7, hg7⟩ : ∃ z, u1.heap.size = z := ⟨_, rfl⟩
      obtain ⟨u2, hu⟩ : ∃ z, u1.alloc (.cells #[.int .i64 0, .int .i64 0, .int .u64 0] 60) = z := ⟨_, rfl⟩
      have hb : Below u1.heap.size u1 u2 := by rw [← hu]; exact (Below.refl _ _).alloc (Nat.le_refl _) _
      have HG7 : Hid (u2.heap[g7]? = some (.cells #[.int .i64 0, .int .i64 0, .int .u64 0] 60 (0, 0)) ∧ W3.heap.size ≤ g7) := Lib.hid ⟨by rw [← hu, ← hg7]; exact heap_alloc_new _ _, by rw [← hg7]; exact HB1.out.size⟩
      have HB2 : Hid (Below W3.heap.size W3 u2) := Lib.hid (HB1.out.trans (hb.mono HB1.out.size))
      have HS2 : Hid (Below u1.heap.size u1 u2) := Lib.hid hb
      go_simp
      try rw [hg7]
      try rw [hu]
      refine hK.out _ _ (Wl.Kn.on (HPP.out _ HB2.out) trivial) (fun hk => ?_)
      clear hK K hb hu hg7
      refine Wl.one (i := 9) (by kernel_rfl) rfl (fun K hK => ?_)
      go_simp
      refine (HAPP.out u2 HB2.out).mono ?_
      rintro e u3 ⟨vh', vl', rfl, oh', ol', -, hb⟩
      have HCL : Hid (OwnR 5 heldC THeld u3 W3.heap.size vh' l'.held ∧ OwnR 6 lastC TLast u3 W3.heap.size vl' l'.last) := Lib.hid ⟨ownsRow_base_a oh' HB2.out.size, ownsRow_base_a ol' HB2.out.size⟩
      have HB3 : Hid (Below W3.heap.size W3 u3) := Lib.hid (HB2.out.trans (hb.mono HB2.out.size))
      have HS3 : Hid (Below u2.heap.size u2 u3) := Lib.hid hb
      refine hK.out _ _ (Wl.Kn.on (HPP.out _ HB3.out) trivial) (fun hk => ?_)
      clear hK K hb oh' ol'
      refine Wl.take (i := 10) (v := (.tuple #[.agg (lArr l' vh' vl'), .agg (aA a'), .int .i64 0])) [11, 16] rfl (by kernel_rfl) (by kernel_rfl) (by kernel_rfl) (by kernel_rfl) (by kernel_rfl) (fun _ _ _ h => h) (.inl ⟨by kernel_rfl, ?_⟩) hk ?_
      · intro wx hSw
        clear hSw hk
        go_simp
        try first | with_reducible rfl | kernel_rfl
      simp only [Act.put, List.getElem_toArray, List.getElem_cons_succ, List.getElem_cons_zero, List.setIfInBounds_toArray, List.set_cons_succ, List.set_cons_zero]
      refine Wl.take (i := 11) (v := (.agg (lArr l' vh' vl'))) [16] rfl (by kernel_rfl) (by kernel_rfl) (by kernel_rfl) (by kernel_rfl) (by kernel_rfl) (fun _ _ _ h => h) (.inl ⟨by kernel_rfl, ?_⟩) hk ?_
      · intro wx hSw
        clear hSw hk
        go_simp
        try first | with_reducible rfl | kernel_rfl
      simp only [Act.put, List.getElem_toArray, List.getElem_cons_succ, List.getElem_cons_zero, List.setIfInBounds_toArray, List.set_cons_succ, List.set_cons_zero]
      refine Wl.take0 (i := 12) (v := (.agg (aA a'))) rfl (by kernel_rfl) (by kernel_rfl) (by kernel_rfl) (by kernel_rfl) (fun _ _ _ h => h) (.inl ⟨by kernel_rfl, ?_⟩) hk ?_
      · intro wx hSw
        clear hSw hk
        go_simp
        try first | with_reducible rfl | kernel_rfl
      simp only [Act.put, List.getElem_toArray, List.getElem_cons_succ, List.getElem_cons_zero, List.setIfInBounds_toArray, List.set_cons_succ, List.set_cons_zero]
      refine Wl.take0 (i := 13) (v := .int .i64 0) rfl (by kernel_rfl) (by kernel_rfl) (by kernel_rfl) (by kernel_rfl) (fun _ _ _ h => h) (.inl ⟨by kernel_rfl, ?_⟩) hk ?_
      · intro wx hSw
        clear hSw hk
        go_simp
        try first | with_reducible rfl | kernel_rfl
      simp only [Act.put, List.getElem_toArray, List.getElem_cons_succ, List.getElem_cons_zero, List.setIfInBounds_toArray, List.set_cons_succ, List.set_cons_zero]
      clear hk
      exact REST u3 g6 g7 vh' vl' (Lib.hid ⟨HB3.out, ((HS3.out.block _ (row_lt (((HS2.out.block _ (row_lt (HG6.out.1))).trans (HG6.out.1))))).trans (((HS2.out.block _ (row_lt (HG6.out.1))).trans (HG6.out.1)))), ((HS3.out.block _ (row_lt (HG7.out.1))).trans (HG7.out.1)), HG6.out.2, HG7.out.2, HCL.out.1, HCL.out.2⟩)
  · obtain ⟨g7, hg7⟩ : ∃ z, u0.heap.size = z := ⟨_, rfl⟩
    obtain ⟨u1, hu⟩ : ∃ z, u0.alloc (.cells #[.int .i64 0, .int .i64 0, .int .u64 0] 60) = z := ⟨_, rfl⟩
    have hb : Below u0.heap.size u0 u1 := by rw [← hu]; exact (Below.refl _ _).alloc (Nat.le_refl _) _
    have HG7 : Hid (u1.heap[g7]? = some (.cells #[.int .i64 0, .int .i64 0, .int .u64 0] 60 (0, 0)) ∧ W3.heap.size ≤ g7) := Lib.hid ⟨by rw [← hu, ← hg7]; exact heap_alloc_new _ _, by rw [← hg7]; exact HB0.out.size⟩
    have HB1 : Hid (Below W3.heap.size W3 u1) := Lib.hid (HB0.out.trans (hb.mono HB0.out.size))
    have HS1 : Hid (Below u0.heap.size u0 u1) := Lib.hid hb
    go_simp
    try rw [hg7]
    try rw [hu]
    refine hK.out _ _ (Wl.Kn.on (HPP.out _ HB1.out) trivial) (fun hk => ?_)
    clear hK K hb hu hg7
    refine Wl.two (i := 9) (j := 14) (by kernel_rfl) rfl rfl (fun K hK => ?_) (fun K hK => ?_)
    · go_simp
      refine (HAPP.out u1 HB1.out).mono ?_
      rintro e u2 ⟨vh', vl', rfl, oh', ol', -, hb⟩
      have HCL : Hid (OwnR 5 heldC THeld u2 W3.heap.size vh' l'.held ∧ OwnR 6 lastC TLast u2 W3.heap.size vl' l'.last) := Lib.hid ⟨ownsRow_base_a oh' HB1.out.size, ownsRow_base_a ol' HB1.out.size⟩
      have HB2 : Hid (Below W3.heap.size W3 u2) := Lib.hid (HB1.out.trans (hb.mono HB1.out.size))
      have HS2 : Hid (Below u1.heap.size u1 u2) := Lib.hid hb
      refine hK.out _ _ (Wl.Kn.on (HPP.out _ HB2.out) trivial) (fun hk => ?_)
      clear hK K hb oh' ol'
      refine Wl.take (i := 10) (v := (.tuple #[.agg (lArr l' vh' vl'), .agg (aA a'), .int .i64 0])) [11, 16] rfl (by kernel_rfl) (by kernel_rfl) (by kernel_rfl) (by kernel_rfl) (by kernel_rfl) (fun _ _ _ h => h) (.inl ⟨by kernel_rfl, ?_⟩) hk ?_
      · intro wx hSw
        clear hSw hk
        go_simp
        try first | with_reducible rfl | kernel_rfl
      simp only [Act.put, List.getElem_toArray, List.getElem_cons_succ, List.getElem_cons_zero, List.setIfInBounds_toArray, List.set_cons_succ, List.set_cons_zero]
      refine Wl.take (i := 11) (v := (.agg (lArr l' vh' vl'))) [16] rfl (by kernel_rfl) (by kernel_rfl) (by kernel_rfl) (by kernel_rfl) (by kernel_rfl) (fun _ _ _ h => h) (.inl ⟨by kernel_rfl, ?_⟩) hk ?_
      · intro wx hSw
        clear hSw hk
        go_simp
        try first | with_reducible rfl | kernel_rfl
      simp only [Act.put, List.getElem_toArray, List.getElem_cons_succ, List.getElem_cons_zero, List.setIfInBounds_toArray, List.set_cons_succ, List.set_cons_zero]
      refine Wl.take0 (i := 12) (v := (.agg (aA a'))) rfl (by kernel_rfl) (by kernel_rfl) (by kernel_rfl) (by kernel_rfl) (fun _ _ _ h => h) (.inl ⟨by kernel_rfl, ?_⟩) hk ?_
      · intro wx hSw
        clear hSw hk
        go_simp
        try first | with_reducible rfl | kernel_rfl
      simp only [Act.put, List.getElem_toArray, List.getElem_cons_succ, List.getElem_cons_zero, List.setIfInBounds_toArray, List.set_cons_succ, List.set_cons_zero]
      refine Wl.take0 (i := 13) (v := .int .i64 0) rfl (by kernel_rfl) (by kernel_rfl) (by kernel_rfl) (by kernel_rfl) (fun _ _ _ h => h) (.inl ⟨by kernel_rfl, ?_⟩) hk ?_
      · intro wx hSw
        clear hSw hk
        go_simp
        try first | with_reducible rfl | kernel_rfl
      simp only [Act.put, List.getElem_toArray, List.getElem_cons_succ, List.getElem_cons_zero, List.setIfInBounds_toArray, List.set_cons_succ, List.set_cons_zero]
      refine Wl.one (i := 14) (by kernel_rfl) rfl (fun K hK => ?_)
      obtain ⟨g6, hg6⟩ : ∃ z, u2.heap.size = z := ⟨_, rfl⟩
      obtain ⟨u3, hu⟩ : ∃ z, u2.alloc (.cells #[.int .i64 0, .int .u64 0, .slice none 0 0, .slice none 0 0] 35) = z := ⟨_, rfl⟩
      have hb : Below u2.heap.size u2 u3 := by rw [← hu]; exact (Below.refl _ _).alloc (Nat.le_refl _) _
      have HG6 : Hid (u3.heap[g6]? = some (.cells #[.int .i64 0, .int .u64 0, .slice none 0 0, .slice none 0 0] 35 (0, 0)) ∧ W3.heap.size ≤ g6) := Lib.hid ⟨by rw [← hu, ← hg6]; exact heap_alloc_new _ _, by rw [← hg6]; exact HB2.out.size⟩
      have HB3 : Hid (Below W3.heap.size W3 u3) := Lib.hid (HB2.out.trans (hb.mono HB2.out.size))
      have HS3 : Hid (Below u2.heap.size u2 u3) := Lib.hid hb
      go_simp
      try rw [hg6]
      try rw [hu]
      refine hK.out _ _ (Wl.Kn.on (HPP.out _ HB3.out) trivial) (fun hk => ?_)
      clear hK K hb hu hg6
      clear hk
      exact REST u3 g6 g7 vh' vl' (Lib.hid ⟨HB3.out, HG6.out.1, ((HS3.out.block _ (row_lt (((HS2.out.block _ (row_lt (HG7.out.1))).trans (HG7.out.1))))).trans (((HS2.out.block _ (row_lt (HG7.out.1))).trans (HG7.out.1)))), HG6.out.2, HG7.out.2, ((HCL.out.1).below HS3.out (Nat.le_refl _)), ((HCL.out.2).below HS3.out (Nat.le_refl _))⟩)
    · obtain ⟨g6, hg6⟩ : ∃ z, u1.heap.size = z := ⟨_, rfl⟩
      obtain ⟨u2, hu⟩ : ∃ z, u1.alloc (.cells #[.int .i64 0, .int .u64 0, .slice none 0 0, .slice none 0 0] 35) = z := ⟨_, rfl⟩
      have hb : Below u1.heap.size u1 u2 := by rw [← hu]; exact (Below.refl _ _).alloc (Nat.le_refl _) _
      have HG6 : Hid (u2.heap[g6]? = some (.cells #[.int .i64 0, .int .u64 0, .slice none 0 0, .slice none 0 0] 35 (0, 0)) ∧ W3.heap.size ≤ g6) := Lib.hid ⟨by rw [← hu, ← hg6]; exact heap_alloc_new _ _, by rw [← hg6]; exact HB1.out.size⟩
      have HB2 : Hid (Below W3.heap.size W3 u2) := Lib.hid (HB1.out.trans (hb.mono HB1.out.size))
      have HS2 : Hid (Below u1.heap.size u1 u2) := Lib.hid hb
      go_simp
      try rw [hg6]
      try rw [hu]
      refine hK.out _ _ (Wl.Kn.on (HPP.out _ HB2.out) trivial) (fun hk => ?_)
      clear hK K hb hu hg6
      refine Wl.one (i := 9) (by kernel_rfl) rfl (fun K hK => ?_)
      go_simp
      refine (HAPP.out u2 HB2.out).mono ?_
      rintro e u3 ⟨vh', vl', rfl, oh', ol', -, hb⟩
      have HCL : Hid (OwnR 5 heldC THeld u3 W3.heap.size vh' l'.held ∧ OwnR 6 lastC TLast u3 W3.heap.size vl' l'.last) := Lib.hid ⟨ownsRow_base_a oh' HB2.out.size, ownsRow_base_a ol' HB2.out.size⟩
      have HB3 : Hid (Below W3.heap.size W3 u3) := Lib.hid (HB2.out.trans (hb.mono HB2.out.size))
      have HS3 : Hid (Below u2.heap.size u2 u3) := Lib.hid hb
      refine hK.out _ _ (Wl.Kn.on (HPP.out _ HB3.out) trivial) (fun hk => ?_)
      clear hK K hb oh' ol'
      refine Wl.take (i := 10) (v := (.tuple #[.agg (lArr l' vh' vl'), .agg (aA a'), .int .i64 0])) [11, 16] rfl (by kernel_rfl) (by kernel_rfl) (by kernel_rfl) (by kernel_rfl) (by kernel_rfl) (fun _ _ _ h => h) (.inl ⟨by kernel_rfl, ?_⟩) hk ?_
      · intro wx hSw
        clear hSw hk
        go_simp
        try first | with_reducible rfl | kernel_rfl
      simp only [Act.put, List.getElem_toArray, List.getElem_cons_succ, List.getElem_cons_zero, List.setIfInBounds_toArray, List.set_cons_succ, List.set_cons_zero]
      refine Wl.take (i := 11) (v := (.agg (lArr l' vh' vl'))) [16] rfl (by kernel_rfl) (by kernel_rfl) (by kernel_rfl) (by kernel_rfl) (by kernel_rfl) (fun _ _ _ h => h) (.inl ⟨by kernel_rfl, ?_⟩) hk ?_
      · intro wx hSw
        clear hSw hk
        go_simp
        try first | with_reducible rfl | kernel_rfl
      simp only [Act.put, List.getElem_toArray, List.getElem_cons_succ, List.getElem_cons_zero, List.setIfInBounds_toArray, List.set_cons_succ, List.set_cons_zero]
      refine Wl.take0 (i := 12) (v := (.agg (aA a'))) rfl (by kernel_rfl) (by kernel_rfl) (by kernel_rfl) (by kernel_rfl) (fun _ _ _ h => h) (.inl ⟨by kernel_rfl, ?_⟩) hk ?_
      · intro wx hSw
        clear hSw hk
        go_simp
        try first | with_reducible rfl | kernel_rfl
      simp only [Act.put, List.getElem_toArray, List.getElem_cons_succ, List.getElem_cons_zero, List.setIfInBounds_toArray, List.set_cons_succ, List.set_cons_zero]
      refine Wl.take0 (i := 13) (v := .int .i64 0) rfl (by kernel_rfl) (by kernel_rfl) (by kernel_rfl) (by kernel_rfl) (fun _ _ _ h => h) (.inl ⟨by kernel_rfl, ?_⟩) hk ?_
      · intro wx hSw
        clear hSw hk
        go_simp
        try first | with_reducible rfl | kernel_rfl
      simp only [Act.put, List.getElem_toArray, List.getElem_cons_succ, List.getElem_cons_zero, List.setIfInBounds_toArray, List.set_cons_succ, List.set_cons_zero]
      clear hk
      exact REST u3 g6 g7 vh' vl' (Lib.hid ⟨HB3.out, ((HS3.out.block _ (row_lt (HG6.out.1))).trans (HG6.out.1)), ((HS3.out.block _ (row_lt (((HS2.out.block _ (row_lt (HG7.out.1))).trans (HG7.out.1))))).trans (((HS2.out.block _ (row_lt (HG7.out.1))).trans (HG7.out.1)))), HG6.out.2, HG7.out.2, HCL.out.1, HCL.out.2⟩)
  intro u g6 g7 vh' vl' HF
  obtain ⟨ah, ch, rfl⟩ := own_slice HF.out.2.2.2.2.2.1
  obtain ⟨al, cl, rfl⟩ := own_slice HF.out.2.2.2.2.2.2
  have HN67 : Hid (g6 ≠ g7) := Lib.hid (fun e => by have h1 := HF.out.2.1; rw [e, HF.out.2.2.1] at h1; simp at h1)
  obtain ⟨W7, hW7⟩ : ∃ z, u.setRow g6 (lArr l' (.slice ah l'.held.length ch) (.slice al l'.last.length cl)) = z := ⟨_, rfl⟩
  have hr6 : W7.heap[g6]? = some (.cells (lArr l' (.slice ah l'.held.length ch) (.slice al l'.last.length cl)) 35 (0, 0)) := by rw [← hW7]; exact setRow_heap _ _ _ _ _ _ HF.out.2.1
  have HZ7 : Hid (W7.heap[g7]? = some (.cells #[.int .i64 0, .int .i64 0, .int .u64 0] 60 (0, 0))) := Lib.hid (by rw [← hW7, setRow_other _ _ _ _ (fun e => HN67.out e.symm)]; exact HF.out.2.2.1)
  obtain ⟨W8, hW8⟩ : ∃ z, W7.setRow g7 (aA a') = z := ⟨_, rfl⟩
  have hr7 : W8.heap[g7]? = some (.cells (aA a') 60 (0, 0)) := by rw [← hW8]; exact setRow_heap _ _ _ _ _ _ HZ7.out
  have hr68 : W8.heap[g6]? = some (.cells (lArr l' (.slice ah l'.held.length ch) (.slice al l'.last.length cl)) 35 (0, 0)) := by rw [← hW8, setRow_other _ _ _ _ HN67.out]; exact hr6
  have hrest : ∀ k, k ≠ g6 → k ≠ g7 → W8.heap[k]? = u.heap[k]? := fun k h1 h2 => by rw [← hW8, setRow_other _ _ _ _ h2, ← hW7, setRow_other _ _ _ _ h1]
  have hb38 : Below W3.heap.size W3 W8 := by rw [← hW8, ← hW7]; exact Ld.below_row (Ld.below_row HF.out.1 HF.out.2.2.2.1 _) HF.out.2.2.2.2.1 _
  have hzu : W8.heap.size = u.heap.size := by rw [← hW8, ← hW7]; simp
  have nT : ∀ {sz m : Nat} {T : TypeId} {v : Value} {xs : List Value}, u.ownsRow W3.heap.size T sz v m xs → T ≠ 35 → T ≠ 60 → ∀ k, v.ownBlock = some k → k ≠ g6 ∧ k ≠ g7 := fun ho h1 h2 k hk => ⟨own_ty ho HF.out.2.1 h1 k hk, own_ty ho HF.out.2.2.1 h2 k hk⟩
  have oh8 : OwnR 5 heldC THeld W8 W3.heap.size (.slice ah l'.held.length ch) l'.held := own_keep HF.out.2.2.2.2.2.1 (fun k hk _ => by have := nT HF.out.2.2.2.2.2.1 (by decide) (by decide) k hk; exact hrest k this.1 this.2)
  have ol8 : OwnR 6 lastC TLast W8 W3.heap.size (.slice al l'.last.length cl) l'.last := own_keep HF.out.2.2.2.2.2.2 (fun k hk _ => by have := nT HF.out.2.2.2.2.2.2 (by decide) (by decide) k hk; exact hrest k this.1 this.2)
  have h8 : PlG P pw pk short n x1 vh vl va g N Q (fun k => O2 k ∨ (W3.heap.size ≤ k ∧ k < W8.heap.size)) B a W8 := H3.out.1.more hb38
  have hz48 := (hb38.block g4 (row_lt HZ4.out)).trans HZ4.out
  have hP3 := row_lt H3.out.1.row
  have hth : W8.there P 2 4 := fun j hj => by
    rcases (by omega : j = 0 ∨ j = 1 ∨ j = 2 ∨ j = 3) with rfl | rfl | rfl | rfl <;> exact ⟨by rw [cell_of_row _ _ _ _ _ _ h8.row]; rfl, frozen_of_row _ _ _ _ _ h8.row⟩
  obtain ⟨W9, hW9⟩ : ∃ z, W8.setCells P 2 [.int .i64 l'.limit, .int .u64 l'.next, .slice ah l'.held.length ch, .slice al l'.last.length cl] = z := ⟨_, rfl⟩
  obtain ⟨x2, hx2⟩ : ∃ z : Pl, z = { x with idx := x.idx + 1, l := l' } := ⟨_, rfl⟩
  have hrow9 : W9.heap[P]? = some (.cells (plA pw pk x2 (.slice ah l'.held.length ch) (.slice al l'.last.length cl) va g) TP (0, 0)) := by
    rw [← hW9, hx2]
    have hr := h8.row
    rw [HX1.out] at hr
    exact mid4 hr
  have hoth9 : ∀ k, k ≠ P → W9.heap[k]? = W8.heap[k]? := fun k hk => by rw [← hW9]; exact midN4 hk
  have ho9 : Only (fun k => k = P) W8 W9 := by rw [← hW9]; exact midO4 rfl
  obtain ⟨Q9, hQ9⟩ : ∃ Z : Nat → Prop, Z = (fun k => Q k ∨ (Value.slice ah l'.held.length ch).ownBlock = some k ∨ (Value.slice al l'.last.length cl).ownBlock = some k) := ⟨_, rfl⟩
  obtain ⟨O9, hO9⟩ : ∃ Z : Nat → Prop, Z = (fun k => O k ∨ k = g4 ∨ k = g7) := ⟨_, rfl⟩
  have hkP : ∀ k, W3.heap.size ≤ k → k ≠ P := fun k hk e => by omega
  have h9 : PlG P pw pk short n x2 (.slice ah l'.held.length ch) (.slice al l'.last.length cl) va g N Q9 O9 B a W9 := by
    have hoh := fun k hk => World.ownsRow.lt oh8 k hk
    have hol := fun k hk => World.ownsRow.lt ol8 k hk
    have hr := h8.r
    have hs2 : x2.s = x1.s ∧ x2.K = x1.K ∧ x2.l = l' ∧ x2.asked = x1.asked ∧ x2.ans = x1.ans := by rw [hx2, HX1.out]; exact ⟨rfl, rfl, rfl, rfl, rfl⟩
    refine ⟨TwoO.mono (TwoO.only (goodW pw short _) (goodK pk n _) (by rw [hs2.1, hs2.2.1]; exact h8.two) (ho9.mono (T := fun k => Q k ∨ O2 k ∨ (W3.heap.size ≤ k ∧ k < W8.heap.size)) (fun k hk => .inl (hk ▸ hr.oP)))) (fun k hk => ?_), fun k hq ho => ?_, hrow9, ?_⟩
    · rw [hQ9, hO9] at hk
      rcases hk with (hk | hk | hk) | (hk | hk | hk)
      · exact .inl hk
      · exact .inr (.inr (hoh k hk))
      · exact .inr (.inr (hol k hk))
      · exact .inr (.inl (HOO.out.1 k hk))
      · exact .inr (.inl (hk ▸ HOO.out.2.2.1))
      · exact .inr (.inr (hk ▸ ⟨HF.out.2.2.2.2.1, row_lt hr7⟩))
    · rw [hQ9] at hq
      rw [hO9] at ho
      rcases ho with ho | rfl | rfl
      · rcases hq with hq | hq | hq
        · exact H3.out.1.ap k hq (HOO.out.1 k ho)
        · have := two_lt H3.out.1.two (.inr (HOO.out.1 k ho)); have := hoh k hq; omega
        · have := two_lt H3.out.1.two (.inr (HOO.out.1 k ho)); have := hol k hq; omega
      · rcases hq with hq | hq | hq
        · exact H3.out.1.ap _ hq HOO.out.2.2.1
        · have := row_lt HZ4.out; have := hoh _ hq; omega
        · have := row_lt HZ4.out; have := hol _ hq; omega
      · rcases hq with hq | hq | hq
        · have := (two_lt H3.out.1.two (Or.inl hq)).1; have := HF.out.2.2.2.2.1; omega
        · exact own_ty oh8 hr7 (by decide) _ hq rfl
        · exact own_ty ol8 hr7 (by decide) _ hq rfl
    · have e : ∀ k, Q k ∧ k ≠ P → Q9 k ∧ k ≠ P := fun k hk => by rw [hQ9]; exact ⟨.inl hk.1, hk.2⟩
      refine ⟨by rw [hs2.2.2.1]; exact own_keep (ownsRow_base_a oh8 (Nat.zero_le _)) (fun k hk _ => hoth9 k (hkP k (hoh k hk).1)), by rw [hs2.2.2.1]; exact own_keep (ownsRow_base_a ol8 (Nat.zero_le _)) (fun k hk _ => hoth9 k (hkP k (hol k hk).1)), by rw [hs2.2.2.2.1]; exact own_keep hr.k (fun k hk _ => hoth9 k (hr.ok k hk).2), by unfold ansF; rw [hs2.2.2.2.2]; exact hr.m.block (hoth9 g hr.og.2), by rw [hQ9]; exact .inl hr.oP, e g hr.og, fun k hk => by rw [hQ9]; exact ⟨.inr (.inl hk), hkP k (hoh k hk).1⟩, fun k hk => by rw [hQ9]; exact ⟨.inr (.inr hk), hkP k (hol k hk).1⟩, fun k hk => e k (hr.ok k hk)⟩
  have H9 : Hid (PlG P pw pk short n x2 (.slice ah l'.held.length ch) (.slice al l'.last.length cl) va g N Q9 O9 B a W9 ∧ ∀ k, O k → W9.heap[k]? = w.heap[k]?) := Lib.hid ⟨h9, fun k hk => by
    have hlt := two_lt H3.out.1.two (.inr (HOO.out.1 k hk))
    rw [hoth9 k (fun e => H3.out.1.ap P H3.out.1.r.oP (e ▸ HOO.out.1 k hk)), hb38.block k hlt.1]
    exact H3.out.2 k hk⟩
  have HZ49 : Hid (W9.heap[g4]? = some (.cells #[.int .i64 0, .int .i64 0, .int .u64 0] 60 (0, 0)) ∧ W9.heap[g7]? = some (.cells (aA a') 60 (0, 0)) ∧ O9 g4 ∧ O9 g7) := Lib.hid ⟨(hoth9 g4 (fun e => by have := HZ4.out; rw [e, H3.out.1.row] at this; simp at this)).trans hz48, (hoth9 g7 (hkP g7 HF.out.2.2.2.2.1)).trans hr7, by rw [hO9]; exact .inr (.inl rfl), by rw [hO9]; exact .inr (.inr rfl)⟩
  have HOI : Hid (∀ k, O k → O9 k) := Lib.hid (fun k hk => by rw [hO9]; exact .inl hk)
  have HP9 : Hid (∀ (K2 : List Row) (u : World), PlG P pw pk short n { x2 with K := K2 } (.slice ah l'.held.length ch) (.slice al l'.last.length cl) va g N Q9 O9 B a u → u.cell? ⟨P, 1, none⟩ = some (.pointer (some ⟨pk, 0, none⟩)) ∧ u.cell? ⟨P, 7, none⟩ = some (.int .i64 x.b) ∧ u.rangeAt P 2 [.int .i64 l'.limit, .int .u64 l'.next, .slice ah l'.held.length ch, .slice al l'.last.length cl]) := Lib.hid (fun K2 u hu => by
    have hr := hu.row
    rw [hx2] at hr
    exact ⟨(cell_of_row _ _ 1 _ _ _ hr).trans rfl, (cell_of_row _ _ 7 _ _ _ hr).trans rfl, rng_part 2 hr rfl⟩)
  have HP9d : Hid (W9.drew.cell? ⟨P, 1, none⟩ = some (.pointer (some ⟨pk, 0, none⟩)) ∧ W9.drew.cell? ⟨P, 7, none⟩ = some (.int .i64 x.b) ∧ W9.drew.rangeAt P 2 [.int .i64 l'.limit, .int .u64 l'.next, .slice ah l'.held.length ch, .slice al l'.last.length cl]) := Lib.hid (HP9.out x2.K W9.drew H9.out.1.drew)
  have HSE : Hid (Calls Try.prog 14 #[.pointer (some ⟨pk, 0, none⟩), .int .i64 x.b, .agg #[.int .i64 l'.limit, .int .u64 l'.next, .slice ah l'.held.length ch, .slice al l'.last.length cl]] W9.drew fun e w' => e = .returned (.tuple #[]) ∧ PlG P pw pk short n { x2 with K := seesV x.b x.K l'.held } (.slice ah l'.held.length ch) (.slice al l'.last.length cl) va g N Q9 O9 B a w' ∧ ∀ k, O9 k → w'.heap[k]? = W9.drew.heap[k]?) := Lib.hid (by
    have hd9 := H9.out.1.drew
    have hs2 : x2.K = x.K ∧ x2.l = l' := by rw [hx2]; exact ⟨rfl, rfl⟩
    have hla := leda_of HD.out.1 HD.out.2
    refine PlG.onK (R := fun e _ => e = .returned (.tuple #[])) hd9 (fun S hv hkeep => ?_)
    obtain ⟨vk, b, hv⟩ := hv
    rw [hs2.1] at hv
    have hrh := hd9.r
    exact Ls.sees_any x.b l' W9.drew hv.toKnV HOK.out (fun w' ho => OwnR.sl heldC_len (show OwnR 5 heldC THeld w' 0 (.slice ah l'.held.length ch) l'.held from own_keep (by have := hrh.h; rw [hs2.2] at this; exact this) (fun k hk _ => hkeep w' ho k (.inl (hrh.oh k hk).1)))) hla.len hla.wf hla.nd)
  have g0 : W8.cell? ⟨g6, 0, none⟩ = some (.int .i64 l'.limit) := (cell_of_row _ _ 0 _ _ _ hr68).trans rfl
  have g1 : W8.cell? ⟨g6, 1, none⟩ = some (.int .u64 l'.next) := (cell_of_row _ _ 1 _ _ _ hr68).trans rfl
  have g2 : W8.cell? ⟨g6, 2, none⟩ = some (.slice ah l'.held.length ch) := (cell_of_row _ _ 2 _ _ _ hr68).trans rfl
  have g3c : W8.cell? ⟨g6, 3, none⟩ = some (.slice al l'.last.length cl) := (cell_of_row _ _ 3 _ _ _ hr68).trans rfl
  have HF6 := Lib.hid HF.out.2.1
  have HX2 := Lib.hid hx2
  clear hr6 hr68 hrest hb38 hzu nT oh8 ol8 h8 hz48 hP3 hrow9 hoth9 ho9 hQ9 hO9 hkP h9 hx2
  refine Wl.one (i := 16) (by kernel_rfl) rfl (fun K hK => ?_)
  rw [if_pos (by kernel_rfl)]
  refine wp_store_row 35 (.tmp 6) (.tmp 27) (by kernel_rfl) g6 (lArr l' (.slice ah l'.held.length ch) (.slice al l'.last.length cl)) (by kernel_rfl) (by kernel_rfl) 35 #[.int .i64 0, .int .u64 0, .slice none 0 0, .slice none 0 0] HF6.out (by kernel_rfl) (by kernel_rfl) (by simp [Value.oneCell']) ?_
  rw [hW7]
  refine hK.out _ _ (Wl.Kn.off (by kernel_rfl) trivial) (fun hk => ?_)
  clear hK K hk
  refine Wl.one (i := 17) (by kernel_rfl) rfl (fun K hK => ?_)
  rw [if_pos (by kernel_rfl)]
  refine wp_store_row 60 (.tmp 7) (.tmp 28) (by kernel_rfl) g7 (aA a') (by kernel_rfl) (by kernel_rfl) 60 #[.int .i64 0, .int .i64 0, .int .u64 0] HZ7.out (by kernel_rfl) (by kernel_rfl) (by simp [Value.oneCell']) ?_
  rw [hW8]
  refine hK.out _ _ (Wl.Kn.off (by kernel_rfl) trivial) (fun hk => ?_)
  clear hK K
  refine Wl.take0 (i := 18) (v := .int .i64 0) rfl (by kernel_rfl) (by kernel_rfl) (by kernel_rfl) (by kernel_rfl) (fun _ _ _ h => h) (.inl ⟨by kernel_rfl, ?_⟩) hk ?_
  · intro wx hSw
    clear hSw hk
    go_simp
    try first | with_reducible rfl | kernel_rfl
  simp only [Act.put, List.getElem_toArray, List.getElem_cons_succ, List.getElem_cons_zero, List.setIfInBounds_toArray, List.set_cons_succ, List.set_cons_zero]
  refine Wl.done (by kernel_rfl) ?_ _
  clear hk hW7 hW8
  go_upto_region 6 with (first | (refine wpList_store_mid rfl 35 (.tmp 36) (.tmp 34) rfl P 2 (lArr l' (.slice ah l'.held.length ch) (.slice al l'.last.length cl)) rfl rfl hth (by kernel_rfl) (by simp [Value.oneCell']) ?_; rw [hW9]))
  clear g0 g1 g2 g3c hth hW9
  refine Wl.start 999 (fun _ => True) (fun u => u.cell? ⟨P, 1, none⟩ = some (.pointer (some ⟨pk, 0, none⟩)) ∧ u.cell? ⟨P, 7, none⟩ = some (.int .i64 x.b) ∧ u.rangeAt P 2 [.int .i64 l'.limit, .int .u64 l'.next, .slice ah l'.held.length ch, .slice al l'.last.length cl]) (by kernel_rfl) trivial HP9d.out (fun hk => ?_)
  refine Wl.take0 (i := 0) (v := .pointer (some ⟨P, 0, none⟩)) rfl (by kernel_rfl) (by kernel_rfl) (by kernel_rfl) (by kernel_rfl) (fun _ _ _ h => h) (.inl ⟨by kernel_rfl, ?_⟩) hk ?_
  · intro wx hSw
    clear hSw hk
    go_simp
    try first | with_reducible rfl | kernel_rfl
  simp only [Act.put, List.getElem_toArray, List.getElem_cons_succ, List.getElem_cons_zero, List.setIfInBounds_toArray, List.set_cons_succ, List.set_cons_zero]
  refine Wl.take0 (i := 1) (v := .pointer (some ⟨P, 0, none⟩)) rfl (by kernel_rfl) (by kernel_rfl) (by kernel_rfl) (by kernel_rfl) (fun _ _ _ h => h) (.inl ⟨by kernel_rfl, ?_⟩) hk ?_
  · intro wx hSw
    clear hSw hk
    go_simp
    try first | with_reducible rfl | kernel_rfl
  simp only [Act.put, List.getElem_toArray, List.getElem_cons_succ, List.getElem_cons_zero, List.setIfInBounds_toArray, List.set_cons_succ, List.set_cons_zero]
  refine Wl.take0 (i := 2) (v := .pointer (some ⟨P, 1, none⟩)) rfl (by kernel_rfl) (by kernel_rfl) (by kernel_rfl) (by kernel_rfl) (fun _ _ _ h => h) (.inl ⟨by kernel_rfl, ?_⟩) hk ?_
  · intro wx hSw
    clear hSw hk
    go_simp
    try first | with_reducible rfl | kernel_rfl
  simp only [Act.put, List.getElem_toArray, List.getElem_cons_succ, List.getElem_cons_zero, List.setIfInBounds_toArray, List.set_cons_succ, List.set_cons_zero]
  refine Wl.take0 (i := 3) (v := .pointer (some ⟨pk, 0, none⟩)) rfl (by kernel_rfl) (by kernel_rfl) (by kernel_rfl) (by kernel_rfl) (fun _ _ _ h => h) (.inl ⟨by kernel_rfl, ?_⟩) hk ?_
  · intro wx hSw
    have cc := hSw.1
    clear hSw hk
    go_simp
    try first | with_reducible rfl | kernel_rfl
  simp only [Act.put, List.getElem_toArray, List.getElem_cons_succ, List.getElem_cons_zero, List.setIfInBounds_toArray, List.set_cons_succ, List.set_cons_zero]
  refine Wl.take0 (i := 4) (v := .pointer (some ⟨P, 0, none⟩)) rfl (by kernel_rfl) (by kernel_rfl) (by kernel_rfl) (by kernel_rfl) (fun _ _ _ h => h) (.inl ⟨by kernel_rfl, ?_⟩) hk ?_
  · intro wx hSw
    clear hSw hk
    go_simp
    try first | with_reducible rfl | kernel_rfl
  simp only [Act.put, List.getElem_toArray, List.getElem_cons_succ, List.getElem_cons_zero, List.setIfInBounds_toArray, List.set_cons_succ, List.set_cons_zero]
  refine Wl.take0 (i := 5) (v := .pointer (some ⟨P, 0, none⟩)) rfl (by kernel_rfl) (by kernel_rfl) (by kernel_rfl) (by kernel_rfl) (fun _ _ _ h => h) (.inl ⟨by kernel_rfl, ?_⟩) hk ?_
  · intro wx hSw
    clear hSw hk
    go_simp
    try first | with_reducible rfl | kernel_rfl
  simp only [Act.put, List.getElem_toArray, List.getElem_cons_succ, List.getElem_cons_zero, List.setIfInBounds_toArray, List.set_cons_succ, List.set_cons_zero]
  refine Wl.take0 (i := 6) (v := .pointer (some ⟨P, 7, none⟩)) rfl (by kernel_rfl) (by kernel_rfl) (by kernel_rfl) (by kernel_rfl) (fun _ _ _ h => h) (.inl ⟨by kernel_rfl, ?_⟩) hk ?_
  · intro wx hSw
    clear hSw hk
    go_simp
    try first | with_reducible rfl | kernel_rfl
  simp only [Act.put, List.getElem_toArray, List.getElem_cons_succ, List.getElem_cons_zero, List.setIfInBounds_toArray, List.set_cons_succ, List.set_cons_zero]
  refine Wl.take0 (i := 7) (v := .int .i64 x.b) rfl (by kernel_rfl) (by kernel_rfl) (by kernel_rfl) (by kernel_rfl) (fun _ _ _ h => h) (.inl ⟨by kernel_rfl, ?_⟩) hk ?_
  · intro wx hSw
    have cc := hSw.2.1
    clear hSw hk
    go_simp
    try first | with_reducible rfl | kernel_rfl
  simp only [Act.put, List.getElem_toArray, List.getElem_cons_succ, List.getElem_cons_zero, List.setIfInBounds_toArray, List.set_cons_succ, List.set_cons_zero]
  refine Wl.take0 (i := 8) (v := .pointer (some ⟨P, 0, none⟩)) rfl (by kernel_rfl) (by kernel_rfl) (by kernel_rfl) (by kernel_rfl) (fun _ _ _ h => h) (.inl ⟨by kernel_rfl, ?_⟩) hk ?_
  · intro wx hSw
    clear hSw hk
    go_simp
    try first | with_reducible rfl | kernel_rfl
  simp only [Act.put, List.getElem_toArray, List.getElem_cons_succ, List.getElem_cons_zero, List.setIfInBounds_toArray, List.set_cons_succ, List.set_cons_zero]
  refine Wl.take0 (i := 9) (v := .pointer (some ⟨P, 0, none⟩)) rfl (by kernel_rfl) (by kernel_rfl) (by kernel_rfl) (by kernel_rfl) (fun _ _ _ h => h) (.inl ⟨by kernel_rfl, ?_⟩) hk ?_
  · intro wx hSw
    clear hSw hk
    go_simp
    try first | with_reducible rfl | kernel_rfl
  simp only [Act.put, List.getElem_toArray, List.getElem_cons_succ, List.getElem_cons_zero, List.setIfInBounds_toArray, List.set_cons_succ, List.set_cons_zero]
  refine Wl.take0 (i := 10) (v := .pointer (some ⟨P, 2, none⟩)) rfl (by kernel_rfl) (by kernel_rfl) (by kernel_rfl) (by kernel_rfl) (fun _ _ _ h => h) (.inl ⟨by kernel_rfl, ?_⟩) hk ?_
  · intro wx hSw
    clear hSw hk
    go_simp
    try first | with_reducible rfl | kernel_rfl
  simp only [Act.put, List.getElem_toArray, List.getElem_cons_succ, List.getElem_cons_zero, List.setIfInBounds_toArray, List.set_cons_succ, List.set_cons_zero]
  refine Wl.take0 (i := 11) (v := .agg #[.int .i64 l'.limit, .int .u64 l'.next, .slice ah l'.held.length ch, .slice al l'.last.length cl]) rfl (by kernel_rfl) (by kernel_rfl) (by kernel_rfl) (by kernel_rfl) (fun _ _ _ h => h) (yieldsIf_load_mid (by rfl) _ _ rfl _ _ rfl [.int .i64 l'.limit, .int .u64 l'.next, .slice ah l'.held.length ch, .slice al l'.last.length cl] _ (fun w h => h.2.2) Try.underlying35 rfl (by kernel_rfl)) hk ?_
  simp only [Act.put, List.getElem_toArray, List.getElem_cons_succ, List.getElem_cons_zero, List.setIfInBounds_toArray, List.set_cons_succ, List.set_cons_zero]
  refine Wl.one (i := 12) (by kernel_rfl) rfl (fun K hK => ?_)
  go_simp
  refine HSE.out.mono ?_
  rintro e w10 ⟨rfl, h10, k10⟩
  have H10 := Lib.hid (And.intro h10 k10)
  clear h10 k10
  refine hK.out _ _ (Wl.Kn.on trivial (HP9.out _ w10 H10.out.1)) (fun hk => ?_)
  clear hK K
  refine Wl.done (by kernel_rfl) ?_ _
  clear hk
  have k0 : w10.cell? ⟨g7, 0, none⟩ = some (.int .i64 a'.code) := (cell_of_row _ _ 0 _ _ _ ((H10.out.2 g7 HZ49.out.2.2.2).trans HZ49.out.2.1)).trans rfl
  have k1 : w10.cell? ⟨g7, 1, none⟩ = some (.int .i64 a'.token) := (cell_of_row _ _ 1 _ _ _ ((H10.out.2 g7 HZ49.out.2.2.2).trans HZ49.out.2.1)).trans rfl
  have k2 : w10.cell? ⟨g7, 2, none⟩ = some (.int .u64 a'.serial) := (cell_of_row _ _ 2 _ _ _ ((H10.out.2 g7 HZ49.out.2.2.2).trans HZ49.out.2.1)).trans rfl
  have hz410 : w10.heap[g4]? = some (.cells #[.int .i64 0, .int .i64 0, .int .u64 0] 60 (0, 0)) := (H10.out.2 g4 HZ49.out.2.2.1).trans HZ49.out.1
  obtain ⟨W11, hW11⟩ : ∃ z, w10.setRow g4 (aA a') = z := ⟨_, rfl⟩
  have H11 : Hid (W11.heap[g4]? = some (.cells (aA a') 60 (0, 0)) ∧ PlG P pw pk short n { x2 with K := seesV x.b x.K l'.held } (.slice ah l'.held.length ch) (.slice al l'.last.length cl) va g N Q9 O9 B a W11 ∧ ∀ k, O k → W11.heap[k]? = w.heap[k]?) := Lib.hid (by
    have hon : Only (fun k => k = g4) w10 W11 := by rw [← hW11]; exact ⟨rfl, rfl, rfl, by simp, fun k _ hk => setRow_other _ _ _ _ hk⟩
    refine ⟨by rw [← hW11]; exact setRow_heap _ _ _ _ _ _ hz410, H10.out.1.only (hon.mono (fun k hk => hk ▸ HZ49.out.2.2.1)), fun k hk => ?_⟩
    have h9k := HOI.out k hk
    have hk4 : k ≠ g4 := fun e => by
      have h0 := HOO.out.2.2.2 k hk
      have hlt : k < w.heap.size := HLT.out k hk
      have := HG4.out
      omega
    rw [only_at hon (H10.out.1.lt h9k) hk4, H10.out.2 k h9k]
    exact H9.out.2 k hk)
  clear hr7
  go_wp2_with (first | (refine wpList_store_row rfl 60 (.tmp 4) (.tmp 50) rfl g4 (aA a') rfl rfl 60 #[.int .i64 0, .int .i64 0, .int .u64 0] hz410 (by kernel_rfl) rfl (by simp [Value.oneCell']) ?_; rw [hW11]))
  exact bodyPost_ret (v := .tuple #[.agg (aA a'), .bool true]) (results_cell2 rfl _ _ g4 60 _ (0, 0) _ rfl H11.out.1 Try.underlying60 rfl (by kernel_rfl) rfl) rfl ⟨rfl, ⟨_, _, va, g, Q9, by have h := H11.out.2.1.mono (O' := O) HOI.out; rw [HX2.out] at h; exact h⟩, H11.out.2.2⟩
end Sf
end Go.Proofs.Ytgbblegcjladaaa
namespace Go.Proofs.Ytgbblegcjladaaa
open Go.ChangeShapes Go.WideShapes Go.ChangeAt Go.RowKit Go.Deep Go.Maps Go.ChangeMaps Go.MapKept
set_option linter.unusedVariables false
set_option maxRecDepth 100000
set_option linter.unusedSimpArgs false
namespace Mc
/-- nobody's blocks are written, and what is made is nobody's -/
theorem TwoO.onlyM {V1 V2 : World → (Nat → Prop) → Prop} {O : Nat → Prop} {B : Nat} {a w w' : World} (g1 : Good V1) (g2 : Good V2) (h : TwoO V1 V2 O B a w) (ho : Only O w w') : TwoO V1 V2 (fun k => O k ∨ (w.heap.size ≤ k ∧ k < w'.heap.size)) B a w' := by
  obtain ⟨S1, S2, h1, h2, h3, h4, h5, h6, h7, h8⟩ := h
  have z := ho.2.2.2.1
  refine ⟨S1, S2, g1.only h1 ho (fun k hk hq => (h6 k hq).2.1 hk), g2.only h2 ho (fun k hk hq => (h6 k hq).2.2.1 hk), h3, h4, h5, fun k hk => ?_, ho.below h7 h8 (fun k hk => (h6 k hk).2.2.2), Nat.le_trans h8 z⟩
  rcases hk with hk | hk
  · exact ⟨Nat.lt_of_lt_of_le (h6 k hk).1 z, (h6 k hk).2⟩
  · exact ⟨hk.2, fun q => by have := g1.low h1 k q; have := hk.1; omega, fun q => by have := g2.low h2 k q; have := hk.1; omega, by have := hk.1; omega⟩
end Mc
namespace Sf
open Lt Ls La Ld Cm Mc Mp
theorem two_rows {w : World} {B C e e' sz sz' m m' : Nat} {v u : Value} {xs ys : List Value} (h : w.ownsRow B e sz v m xs) (k : w.ownsRow C e' sz' u m' ys) (hne : e ≠ e') {q : Nat} (hv : v.ownBlock = some q) : u.ownBlock ≠ some q := by
  intro hu
  rcases own_form h with ⟨rfl, -⟩ | ⟨g, c, cur, rfl, hg, -⟩
  · cases hv
  · simp only [Value.ownBlock, Option.some.injEq] at hv
    subst hv
    exact own_ty k hg (fun e => hne e.symm) _ hu rfl
theorem map_own_ne {w : World} {g N : Nat} {f : Int → Option Value} {B e sz c : Nat} {v : Value} {xs : List Value} (h : MapF Try.prog 31 (Lit.int .u64) okU w g N f) (hv : w.ownsRow B e sz v c xs) : v.ownBlock ≠ some g := by
  intro hq
  rcases own_form hv with ⟨rfl, -⟩ | ⟨q, c, cur, rfl, hg, -⟩
  · cases hq
  · simp only [Value.ownBlock, Option.some.injEq] at hq
    subst hq
    exact h.row_ne hg rfl
variable {w w' w1 a : World} {Q O O' : Nat → Prop} {P pw pk g g' N B : Nat} {short n : Int} {x x' : Pl} {vh vl va vh' vl' va' : Value} {s' : Wa} {K' : List Row}
/-- a request more in its row -/
theorem PlG.grow (h : PlG P pw pk short n x vh vl va g N Q O B a w) {c : Cmd} (own' : OwnR 8 cmL TCmd w' 0 va' (x.asked ++ [c])) (gr : w.grownBy w' va.ownBlock) (ly : va'.ownBlock = va.ownBlock ∨ va'.ownBlock = some w.heap.size) :
    ∃ Q', PlG P pw pk short n { x with asked := x.asked ++ [c] } vh vl va' g N Q' O B a (w'.setCell ⟨P, 10, none⟩ va') := by
  have z := gr.size
  have hP := row_lt h.row
  have hq : ∀ k, va.ownBlock = some k → Q k ∧ k ≠ P := h.r.ok
  have hnew : ∀ k, va'.ownBlock = some k → (Q k ∧ k ≠ P) ∨ k = w.heap.size := fun k hk => by
    rcases ly with e | e
    · rw [e] at hk; exact .inl (hq k hk)
    · rw [e] at hk; cases hk; exact .inr rfl
  have hkeep : ∀ k, k < w.heap.size → va.ownBlock ≠ some k → w'.heap[k]? = w.heap[k]? := fun k hk hn => gr.block k hk (fun e => hn e.symm)
  have hrow : w'.heap[P]? = some (.cells (plA pw pk x vh vl va g) TP (0, 0)) := (hkeep P hP (fun e => (hq P e).2 rfl)).trans h.row
  have ho : Only (fun k => Q k) w (w'.setCell ⟨P, 10, none⟩ va') := (Only.grown gr (fun k e => (hq k e).1)).trans (Only.setCell w' ⟨P, 10, none⟩ va' h.r.oP)
  have hgo : ∀ k, Q k ∨ O k → k < w.heap.size := fun k hk => (two_lt h.two hk).1
  refine ⟨fun k => Q k ∨ va'.ownBlock = some k, ⟨?_, fun k hk hO => ?_, (heap_setCell_same w' P 10 _ TP va' hrow).trans rfl, ?_⟩⟩
  · refine TwoO.mono (TwoO.onlyM (goodW pw short _) (goodK pk n _) h.two (ho.mono (T := fun k => Q k ∨ O k) (fun k hk => .inl hk))) (fun k hk => ?_)
    have hz : (w'.setCell ⟨P, 10, none⟩ va').heap.size = w'.heap.size := by simp
    rcases hk with (hk | hk) | hk
    · exact .inl (.inl hk)
    · rcases hnew k hk with hk2 | hk2
      · exact .inl (.inl hk2.1)
      · exact .inr ⟨by omega, by rw [hz]; exact (World.ownsRow.lt own' k hk).2⟩
    · exact .inl (.inr hk)
  · rcases hk with hk | hk
    · exact h.ap k hk hO
    · rcases hnew k hk with hk | rfl
      · exact h.ap k hk.1 hO
      · exact absurd (h.lt hO) (Nat.lt_irrefl _)
  · have other : ∀ k, k < w.heap.size → k ≠ P → va.ownBlock ≠ some k → (w'.setCell ⟨P, 10, none⟩ va').heap[k]? = w.heap[k]? := fun k h1 h2 h3 => by
      rw [heap_setCell_other w' ⟨P, 10, none⟩ k va' h2]
      exact hkeep k h1 h3
    refine ⟨own_keep h.r.h (fun k hk hl => other k hl (h.r.oh k hk).2 (fun e => ?_)), own_keep h.r.l (fun k hk hl => other k hl (h.r.ol k hk).2 (fun e => ?_)), own_keep own' (fun k hk hl => heap_setCell_other w' ⟨P, 10, none⟩ k va' (fun e => ?_)), h.r.m.block (other g h.r.m.lt h.r.og.2 (fun e => ?_)), .inl h.r.oP, ⟨.inl h.r.og.1, h.r.og.2⟩, fun k hk => ⟨.inl (h.r.oh k hk).1, (h.r.oh k hk).2⟩, fun k hk => ⟨.inl (h.r.ol k hk).1, (h.r.ol k hk).2⟩, fun k hk => ⟨.inr hk, fun e => ?_⟩⟩
    · exact two_rows h.r.h h.r.k (by decide) hk e
    · exact two_rows h.r.l h.r.k (by decide) hk e
    · rcases hnew k hk with hk | hk
      · exact hk.2 e
      · have e : k = P := e; omega
    · exact map_own_ne h.r.m h.r.k e
    · rcases hnew k hk with hk | hk
      · exact hk.2 e
      · omega
set_option maxRecDepth 100000 in
set_option maxHeartbeats 64000000 in
theorem pask_any (k0 : Int) (w : World) (h : PlV P pw pk short n N x O B a w) (hn : x.s.L.length ≤ 1000) (hq : 0 ≤ x.seq ∧ x.seq ≤ 1000000) (hs : x.asked.length ≤ 1000000) :
    Calls Try.prog 38 #[.pointer (some ⟨P, 0, none⟩), .int .i64 k0] w fun e w' => e = .returned (.tuple #[]) ∧ ∃ c : Cmd, (c.node = 1 ∧ c.boot = 1 ∧ c.seq = x.seq + 1 ∧ (c.kind = 3 ∨ c.kind = 4) ∧ c.wf) ∧
      PlV P pw pk short n N (if askE x.s c = 0 then { x with s := askV x.s c, seq := x.seq + 1, asked := x.asked ++ [c] } else x) O B a w' ∧ ∀ k, O k → w'.heap[k]? = w.heap[k]? := by
  obtain ⟨vh, vl, va, g, Q, h⟩ := h
  obtain ⟨g4, hg4⟩ : ∃ z, w.heap.size = z := ⟨_, rfl⟩
  obtain ⟨W1, hW1⟩ : ∃ z, w.alloc (.cells (cmA (⟨3, 1, 0, [], 1, x.seq + 1, 0, 0⟩ : Cmd)) TCmd) = z := ⟨_, rfl⟩
  have hb1 : Below w.heap.size w W1 := by rw [← hW1]; exact (Below.refl _ _).alloc (Nat.le_refl _) _
  have hr1 : W1.heap[g4]? = some (.cells (cmA (⟨3, 1, 0, [], 1, x.seq + 1, 0, 0⟩ : Cmd)) TCmd (0, 0)) := by rw [← hW1, ← hg4]; exact heap_alloc_new _ _
  have h1 := h.below hb1
  have e9 : w.cell? ⟨P, 9, none⟩ = some (.int .u64 x.seq) := (cell_of_row _ _ 9 _ _ _ h.row).trans rfl
  have e0 : W1.cell? ⟨P, 0, none⟩ = some (.pointer (some ⟨pw, 0, none⟩)) := (cell_of_row _ _ 0 _ _ _ h1.row).trans rfl
  have hwr : IntKind.u64.wrap (x.seq + 1) = x.seq + 1 := by rw [IntKind.wrap_u64]; omega
  have HWR := Lib.hid hwr
  have HSZ := Lib.hid hs
  have HSQ := Lib.hid hq
  have HN := Lib.hid hn
  obtain ⟨S1, hv1⟩ : ∃ S, WaX pw short x.s W1 S := by obtain ⟨S1, S2, e, -⟩ := h1.two; exact ⟨S1, e⟩
  have HTW : Hid (∀ t ∈ x.s.L, t.wf) := Lib.hid (by obtain ⟨gg, hh⟩ := hv1; exact hh.m.2.1)
  have HALL := Lib.hid (all_any W1 hv1 hn)
  have H := Lib.hid h
  have HR1 := Lib.hid hr1
  have HB1 := Lib.hid hb1
  have HG := Lib.hid hg4
  have HW1 := Lib.hid hW1
  clear hW1 hr1 h1 h hs hq hn hv1 hb1
  go_enter Try.func38, Try.ntmps38
  go_wp2_with (first | rw [HW1.out])
  refine HALL.out.mono ?_
  rintro e w2 ⟨v, rfl, ho2, hb2⟩
  obtain ⟨al, cl, rfl⟩ := own_slice ho2
  obtain ⟨O2, hO2⟩ : ∃ Z : Nat → Prop, Z = (fun k => O k ∨ (w.heap.size ≤ k ∧ k < w2.heap.size)) := ⟨_, rfl⟩
  have hb02 : Below w.heap.size w w2 := HB1.out.trans (hb2.mono HB1.out.size)
  have h2 : PlG P pw pk short n x vh vl va g N Q O2 B a w2 := by rw [hO2]; exact H.out.more hb02
  have hr2 := (hb2.block g4 (row_lt HR1.out)).trans HR1.out
  have HOO : Hid ((∀ k, O k → O2 k) ∧ O2 g4) := Lib.hid (by rw [hO2]; exact ⟨fun k hk => .inl hk, .inr ⟨Nat.le_of_eq HG.out, by have := row_lt hr2; omega⟩⟩)
  have H2 : Hid (PlG P pw pk short n x vh vl va g N Q O2 B a w2 ∧ ∀ k, O k → w2.heap[k]? = w.heap[k]?) := Lib.hid ⟨h2, fun k hk => hb02.block k (H.out.lt hk)⟩
  have HR2 := Lib.hid hr2
  have HO2 := Lib.hid ho2
  have hlm : (x.s.L.length : Int) ≤ 1000 := by have := HN.out; omega
  clear e9 e0 hwr hg4 hO2 hb02 h2 hr2 ho2 hb2 HALL
  by_cases hrn : k0.tmod 2 ≠ 0 ∧ 0 < x.s.L.length
  · obtain ⟨hm, hlen⟩ := hrn
    have hmb : (k0.tmod 2 != 0) = true := bne_iff_ne.2 hm
    have hli : (0 : Int) < (x.s.L.length : Int) := by omega
    obtain ⟨t, ht⟩ : ∃ t, x.s.L[0]? = some t := ⟨_, List.getElem?_eq_getElem hlen⟩
    obtain ⟨b, cur, rfl, hbh⟩ : ∃ b cur, al = some ⟨b, 0, none⟩ ∧ w2.heap[b]? = some (.cells cur 115 (0, 0)) := by
      rcases own_form HO2.out with ⟨-, h0⟩ | ⟨b, c, cur, e1, e2, e3⟩
      · omega
      · simp only [Value.slice.injEq] at e1
        exact ⟨b, cur, e1.1, e2⟩
    have hbg : b ≠ g4 := own_ty HO2.out HR2.out (by decide) b rfl
    obtain ⟨y0, y1⟩ : w2.cell? ⟨b, 0, none⟩ = some (.int .i64 t.tok) ∧ w2.cell? ⟨b, 1, none⟩ = some (.int .u64 t.ser) := by
      rcases SlR.cases (HO2.out.sl trC_len) with ⟨a9, c9, e, hnil⟩ | ⟨b, off, c9, e, -, -, -, -, hc⟩
      · rw [hnil] at ht; cases ht
      · simp only [Value.slice.injEq, Option.some.injEq, Addr.mk.injEq, and_true] at e
        obtain ⟨⟨rfl, rfl⟩, -, -⟩ := e
        have := tr_cells (hc 0 _ ht)
        simp only [Nat.zero_mul, Nat.zero_add, Nat.add_zero] at this
        exact ⟨this.1, this.2.1⟩
    have HTT := Lib.hid (HTW.out t (List.mem_of_getElem? ht))
    obtain ⟨W3, hW3⟩ : ∃ z, w2.setCell ⟨g4, 0, none⟩ (.int .i64 4) = z := ⟨_, rfl⟩
    have hr3 : W3.heap[g4]? = some (.cells (cmA (⟨4, 1, 0, [], 1, x.seq + 1, 0, 0⟩ : Cmd)) TCmd (0, 0)) := by rw [← hW3]; exact (heap_setCell_same w2 g4 0 _ TCmd _ HR2.out).trans rfl
    have hb3 : W3.heap[b]? = w2.heap[b]? := by rw [← hW3]; exact heap_setCell_other w2 ⟨g4, 0, none⟩ b _ hbg
    obtain ⟨W4, hW4⟩ : ∃ z, W3.setCell ⟨g4, 2, none⟩ (.int .i64 t.tok) = z := ⟨_, rfl⟩
    have hr4 : W4.heap[g4]? = some (.cells (cmA (⟨4, 1, t.tok, [], 1, x.seq + 1, 0, 0⟩ : Cmd)) TCmd (0, 0)) := by rw [← hW4]; exact (heap_setCell_same W3 g4 2 _ TCmd _ hr3).trans rfl
    have hb4 : W4.heap[b]? = w2.heap[b]? := by rw [← hW4]; exact (heap_setCell_other W3 ⟨g4, 2, none⟩ b _ hbg).trans hb3
    obtain ⟨c, hc⟩ : ∃ z : Cmd, z = ⟨4, 1, t.tok, [], 1, x.seq + 1, t.ser, 0⟩ := ⟨_, rfl⟩
    obtain ⟨W5, hW5⟩ : ∃ z, W4.setCell ⟨g4, 6, none⟩ (.int .u64 t.ser) = z := ⟨_, rfl⟩
    have hr5 : W5.heap[g4]? = some (.cells (cmA c) TCmd (0, 0)) := by rw [← hW5, hc]; exact (heap_setCell_same W4 g4 6 _ TCmd _ hr4).trans rfl
    have ho5 : Only (fun k => k = g4) w2 W5 := by rw [← hW5, ← hW4, ← hW3]; exact ((Only.setCell (S := fun k => k = g4) w2 ⟨g4, 0, none⟩ _ rfl).trans (Only.setCell _ ⟨g4, 2, none⟩ _ rfl)).trans (Only.setCell _ ⟨g4, 6, none⟩ _ rfl)
    have HG4 := Lib.hid hr5
    have H5 : Hid (PlG P pw pk short n x vh vl va g N Q O2 B a W5 ∧ ∀ k, O k → W5.heap[k]? = w.heap[k]?) := Lib.hid ⟨H2.out.1.only (ho5.mono (fun k hk => hk ▸ HOO.out.2)), fun k hk => by
      have hlt := H.out.lt hk
      rw [only_at ho5 (H2.out.1.lt (HOO.out.1 k hk)) (fun e => by have := HG.out; omega)]
      exact H2.out.2 k hk⟩
    have HCO : Hid (cmdOk c) := Lib.hid (by rw [hc]; exact ⟨⟨rfl, rfl, HTT.out.1, rfl, wf_u64 (by have := HSQ.out; dsimp only; omega) (by have := HSQ.out; dsimp only; omega), HTT.out.2.1, rfl⟩, rfl⟩)
    have HCC : Hid (c.node = 1 ∧ c.boot = 1 ∧ c.seq = x.seq + 1 ∧ (c.kind = 3 ∨ c.kind = 4) ∧ c.wf) := Lib.hid ⟨by rw [hc], by rw [hc], by rw [hc], by rw [hc]; exact .inr rfl, HCO.out.1⟩
    have z0 : w2.cell? ⟨g4, 0, none⟩ = some (.int .i64 3) := (cell_of_row _ _ 0 _ _ _ HR2.out).trans rfl
    have z2 : W3.cell? ⟨g4, 2, none⟩ = some (.int .i64 0) := (cell_of_row _ _ 2 _ _ _ hr3).trans rfl
    have z6 : W4.cell? ⟨g4, 6, none⟩ = some (.int .u64 0) := (cell_of_row _ _ 6 _ _ _ hr4).trans rfl
    have f0 : w2.frozen? ⟨g4, 0, none⟩ = false := frozen_of_row _ _ _ _ _ HR2.out
    have f2 : W3.frozen? ⟨g4, 2, none⟩ = false := frozen_of_row _ _ _ _ _ hr3
    have f6 : W4.frozen? ⟨g4, 6, none⟩ = false := frozen_of_row _ _ _ _ _ hr4
    have y3 : W3.cell? ⟨b, 0, none⟩ = some (.int .i64 t.tok) := by rw [← y0]; unfold World.cell?; rw [hb3]
    have y4 : W4.cell? ⟨b, 1, none⟩ = some (.int .u64 t.ser) := by rw [← y1]; unfold World.cell?; rw [hb4]
    clear hm ht hbh hr3 hb3 hr4 hb4 hc hr5 ho5
    go_upto_region 6 with (first | rw [hW3] | rw [hW4] | rw [hW5])
    clear y0 y1 y3 y4 z0 z2 z6 f0 f2 f6 hW3 hW4 hW5
    have HAS : Hid (Calls Try.prog 28 #[.pointer (some ⟨pw, 0, none⟩), .agg (cmA c)] W5.drew fun e w' => e = .returned (.int .i64 (askE x.s c)) ∧ PlG P pw pk short n { x with s := askV x.s c } vh vl va g N Q O2 B a w' ∧ ∀ k, O2 k → w'.heap[k]? = W5.drew.heap[k]?) := Lib.hid (PlG.onW (R := fun e _ => e = .returned (.int .i64 (askE x.s c))) H5.out.1.drew (fun S hv => ask_any c _ _ hv (isc0 HCO.out _)))
    obtain ⟨ze, hze⟩ : ∃ z, askE x.s c = z := ⟨_, rfl⟩
    have HZE := Lib.hid hze
    obtain ⟨zb, hzb⟩ : ∃ z, (ze == 0) = z := ⟨_, rfl⟩
    have HZB := Lib.hid hzb
    have HQ5 : Hid (W5.drew.cell? ⟨P, 0, none⟩ = some (.pointer (some ⟨pw, 0, none⟩)) ∧ W5.drew.rangeAt g4 0 (cmL c)) := Lib.hid ⟨(cell_of_row W5 _ 0 _ _ _ H5.out.1.row).trans rfl, Wl.rng_of_row (w := W5.drew) HG4.out⟩
    have HQ6 : Hid (∀ u, PlG P pw pk short n { x with s := askV x.s c } vh vl va g N Q O2 B a u → (∀ k, O2 k → u.heap[k]? = W5.drew.heap[k]?) → u.cell? ⟨P, 0, none⟩ = some (.pointer (some ⟨pw, 0, none⟩)) ∧ u.rangeAt g4 0 (cmL c)) := Lib.hid (fun u hu hk => ⟨(cell_of_row _ _ 0 _ _ _ hu.row).trans rfl, Wl.rng_of_row (w := u) ((hk g4 HOO.out.2).trans HG4.out)⟩)
    clear hze hzb
    refine Wl.start 999 (fun _ => True) (fun u => u.cell? ⟨P, 0, none⟩ = some (.pointer (some ⟨pw, 0, none⟩)) ∧ u.rangeAt g4 0 (cmL c)) (by kernel_rfl) trivial HQ5.out (fun hk => ?_)
    refine Wl.take0 (i := 0) (v := .pointer (some ⟨P, 0, none⟩)) rfl (by kernel_rfl) (by kernel_rfl) (by kernel_rfl) (by kernel_rfl) (fun _ _ _ h => h) (.inl ⟨by kernel_rfl, ?_⟩) hk ?_
    · intro wx hSw
      clear hSw hk
      go_simp
      try first | with_reducible rfl | kernel_rfl
    simp only [Act.put, List.getElem_toArray, List.getElem_cons_succ, List.getElem_cons_zero, List.setIfInBounds_toArray, List.set_cons_succ, List.set_cons_zero]
    refine Wl.take0 (i := 1) (v := .pointer (some ⟨P, 0, none⟩)) rfl (by kernel_rfl) (by kernel_rfl) (by kernel_rfl) (by kernel_rfl) (fun _ _ _ h => h) (.inl ⟨by kernel_rfl, ?_⟩) hk ?_
    · intro wx hSw
      clear hSw hk
      go_simp
      try first | with_reducible rfl | kernel_rfl
    simp only [Act.put, List.getElem_toArray, List.getElem_cons_succ, List.getElem_cons_zero, List.setIfInBounds_toArray, List.set_cons_succ, List.set_cons_zero]
    refine Wl.take0 (i := 2) (v := .pointer (some ⟨P, 0, none⟩)) rfl (by kernel_rfl) (by kernel_rfl) (by kernel_rfl) (by kernel_rfl) (fun _ _ _ h => h) (.inl ⟨by kernel_rfl, ?_⟩) hk ?_
    · intro wx hSw
      clear hSw hk
      go_simp
      try first | with_reducible rfl | kernel_rfl
    simp only [Act.put, List.getElem_toArray, List.getElem_cons_succ, List.getElem_cons_zero, List.setIfInBounds_toArray, List.set_cons_succ, List.set_cons_zero]
    refine Wl.take0 (i := 3) (v := .pointer (some ⟨pw, 0, none⟩)) rfl (by kernel_rfl) (by kernel_rfl) (by kernel_rfl) (by kernel_rfl) (fun _ _ _ h => h) (.inl ⟨by kernel_rfl, ?_⟩) hk ?_
    · intro wx hSw
      have cc := hSw.1
      clear hSw hk
      go_simp
      try first | with_reducible rfl | kernel_rfl
    simp only [Act.put, List.getElem_toArray, List.getElem_cons_succ, List.getElem_cons_zero, List.setIfInBounds_toArray, List.set_cons_succ, List.set_cons_zero]
    refine Wl.take0 (i := 4) (v := .agg (cmA c)) rfl (by kernel_rfl) (by kernel_rfl) (by kernel_rfl) (by kernel_rfl) (fun _ _ _ h => h) (yieldsIf_load_mid (by rfl) _ _ rfl _ _ rfl (cmL c) _ (fun w h => h.2) Try.underlying58 rfl (by kernel_rfl)) hk ?_
    simp only [Act.put, List.getElem_toArray, List.getElem_cons_succ, List.getElem_cons_zero, List.setIfInBounds_toArray, List.set_cons_succ, List.set_cons_zero]
    refine Wl.one (i := 5) (by kernel_rfl) rfl (fun K hK => ?_)
    go_simp
    refine HAS.out.mono ?_
    rintro e w6 ⟨rfl, h6, k6⟩
    have H6 := Lib.hid (And.intro h6 k6)
    clear h6 k6
    rw [HZE.out]
    refine hK.out _ _ (Wl.Kn.on trivial (HQ6.out w6 H6.out.1 (fun k hk => H6.out.2 k hk))) (fun hk => ?_)
    clear hK K
    refine Wl.take0 (i := 6) (v := .bool zb) rfl (by kernel_rfl) (by kernel_rfl) (by kernel_rfl) (by kernel_rfl) (fun _ _ _ h => h) (.inl ⟨by kernel_rfl, ?_⟩) hk ?_
    · intro wx hSw
      have cc := HZB.out
      clear hSw hk
      go_simp
      try first | with_reducible rfl | kernel_rfl
    simp only [Act.put, List.getElem_toArray, List.getElem_cons_succ, List.getElem_cons_zero, List.setIfInBounds_toArray, List.set_cons_succ, List.set_cons_zero]
    refine Wl.done (by kernel_rfl) ?_ _
    clear hk
    have H6w : Hid (∀ k, O k → w6.heap[k]? = w.heap[k]?) := Lib.hid (fun k hk => (H6.out.2 k (HOO.out.1 k hk)).trans (H5.out.2 k hk))
    cases zb
    · have HNE : Hid (askE x.s c ≠ 0) := Lib.hid (by rw [HZE.out]; exact beq_eq_false_iff_ne.1 HZB.out)
      go_wp2_with fail
      refine bodyPost_end (results_none rfl _ _ _) rfl ?_
      refine ⟨rfl, c, HCC.out, ?_, H6w.out⟩
      rw [if_neg HNE.out]
      have h := H6.out.1
      rw [ask_same HNE.out] at h
      exact ⟨_, _, _, _, _, h.mono HOO.out.1⟩
    · have HEQ : Hid (askE x.s c = 0) := Lib.hid (by rw [HZE.out]; exact beq_iff_eq.1 HZB.out)
      have e9 : w6.cell? ⟨P, 9, none⟩ = some (.int .u64 x.seq) := (cell_of_row _ _ 9 _ _ _ H6.out.1.row).trans rfl
      have f9 : w6.frozen? ⟨P, 9, none⟩ = false := frozen_of_row w6 _ _ _ _ H6.out.1.row
      have hwr : IntKind.u64.wrap (x.seq + 1) = x.seq + 1 := HWR.out
      obtain ⟨W7, hW7⟩ : ∃ z, w6.setCell ⟨P, 9, none⟩ (.int .u64 (x.seq + 1)) = z := ⟨_, rfl⟩
      obtain ⟨W7d, hW7d⟩ : ∃ z, W7.drew = z := ⟨_, rfl⟩
      have h7 : PlG P pw pk short n { x with s := askV x.s c, seq := x.seq + 1 } vh vl va g N Q O2 B a W7 ∧ ∀ k, O2 k → W7.heap[k]? = w6.heap[k]? := by rw [← hW7]; exact H6.out.1.cell (x' := { x with s := askV x.s c, seq := x.seq + 1 }) rfl rfl rfl rfl rfl rfl
      have hg7 := (h7.2 g4 HOO.out.2).trans ((H6.out.2 g4 HOO.out.2).trans HG4.out)
      have H7 : Hid (PlG P pw pk short n { x with s := askV x.s c, seq := x.seq + 1 } vh vl va g N Q O2 B a W7d ∧ (∀ k, O k → W7d.heap[k]? = w.heap[k]?) ∧ W7d.rangeAt g4 0 (cmL c)) := Lib.hid (by
        rw [← hW7d]
        exact ⟨h7.1.drew, fun k hk => (h7.2 k (HOO.out.1 k hk)).trans (H6w.out k hk), Wl.rng_of_row (w := W7.drew) hg7⟩)
      have HQ7 : Hid (W7.drew.cell? ⟨P, 10, none⟩ = some va ∧ W7.drew.rangeAt g4 0 (cmL c)) := Lib.hid ⟨(cell_of_row W7 _ 10 _ _ _ h7.1.row).trans rfl, Wl.rng_of_row (w := W7.drew) hg7⟩
      clear h7 hg7
      go_upto_region 8 with (first | rw [hW7])
      clear e9 f9 hwr hW7
      refine Wl.start 10 (fun u => u.cell? ⟨P, 10, none⟩ = some va ∧ u.rangeAt g4 0 (cmL c)) (fun _ => True) (by kernel_rfl) HQ7.out trivial (fun hk => ?_)
      rw [hW7d] at hk ⊢
      clear hW7d
      refine Wl.take (i := 0) (v := .pointer (some ⟨P, 0, none⟩)) [8, 9, 10] rfl (by kernel_rfl) (by kernel_rfl) (by kernel_rfl) (by kernel_rfl) (by kernel_rfl) (fun _ _ _ h => h) (.inl ⟨by kernel_rfl, ?_⟩) hk ?_
      · intro wx hSw
        clear hSw hk
        go_simp
        try first | with_reducible rfl | kernel_rfl
      simp only [Act.put, List.getElem_toArray, List.getElem_cons_succ, List.getElem_cons_zero, List.setIfInBounds_toArray, List.set_cons_succ, List.set_cons_zero]
      refine Wl.take (i := 1) (v := .pointer (some ⟨P, 0, none⟩)) [2, 3, 4, 7, 8, 9, 10] rfl (by kernel_rfl) (by kernel_rfl) (by kernel_rfl) (by kernel_rfl) (by kernel_rfl) (fun _ _ _ h => h) (.inl ⟨by kernel_rfl, ?_⟩) hk ?_
      · intro wx hSw
        clear hSw hk
        go_simp
        try first | with_reducible rfl | kernel_rfl
      simp only [Act.put, List.getElem_toArray, List.getElem_cons_succ, List.getElem_cons_zero, List.setIfInBounds_toArray, List.set_cons_succ, List.set_cons_zero]
      refine Wl.take (i := 2) (v := .pointer (some ⟨P, 0, none⟩)) [3, 4, 7, 8, 9, 10] rfl (by kernel_rfl) (by kernel_rfl) (by kernel_rfl) (by kernel_rfl) (by kernel_rfl) (fun _ _ _ h => h) (.inl ⟨by kernel_rfl, ?_⟩) hk ?_
      · intro wx hSw
        clear hSw hk
        go_simp
        try first | with_reducible rfl | kernel_rfl
      simp only [Act.put, List.getElem_toArray, List.getElem_cons_succ, List.getElem_cons_zero, List.setIfInBounds_toArray, List.set_cons_succ, List.set_cons_zero]
      refine Wl.take (i := 3) (v := .pointer (some ⟨P, 10, none⟩)) [4, 7, 8, 9, 10] rfl (by kernel_rfl) (by kernel_rfl) (by kernel_rfl) (by kernel_rfl) (by kernel_rfl) (fun _ _ _ h => h) (.inl ⟨by kernel_rfl, ?_⟩) hk ?_
      · intro wx hSw
        clear hSw hk
        go_simp
        try first | with_reducible rfl | kernel_rfl
      simp only [Act.put, List.getElem_toArray, List.getElem_cons_succ, List.getElem_cons_zero, List.setIfInBounds_toArray, List.set_cons_succ, List.set_cons_zero]
      refine Wl.take (i := 4) (v := va) [7, 8, 9, 10] rfl (by kernel_rfl) (by kernel_rfl) (by kernel_rfl) (by kernel_rfl) (by kernel_rfl) (fun _ _ _ h => h) (.inl ⟨by kernel_rfl, ?_⟩) hk ?_
      · intro wx hSw
        have cc := hSw.1.1
        clear hSw hk
        go_simp
        try first | with_reducible rfl | kernel_rfl
      simp only [Act.put, List.getElem_toArray, List.getElem_cons_succ, List.getElem_cons_zero, List.setIfInBounds_toArray, List.set_cons_succ, List.set_cons_zero]
      refine Wl.take (i := 5) (v := .agg (cmA c)) [6, 7, 8, 9, 10] rfl (by kernel_rfl) (by kernel_rfl) (by kernel_rfl) (by kernel_rfl) (by kernel_rfl) (fun _ _ _ h => h) (yieldsIf_load_mid (by rfl) _ _ rfl _ _ rfl (cmL c) _ (fun w h => h.1.2) Try.underlying58 rfl (by kernel_rfl)) hk ?_
      simp only [Act.put, List.getElem_toArray, List.getElem_cons_succ, List.getElem_cons_zero, List.setIfInBounds_toArray, List.set_cons_succ, List.set_cons_zero]
      refine Wl.one (i := 6) (by kernel_rfl) rfl (fun K hK => ?_)
      obtain ⟨g9, hg9⟩ : ∃ z, W7d.heap.size = z := ⟨_, rfl⟩
      obtain ⟨W8, hW8⟩ : ∃ z, W7d.alloc (.cells (cmA c) TCmd) = z := ⟨_, rfl⟩
      have hb8 : Below W7d.heap.size W7d W8 := by rw [← hW8]; exact (Below.refl _ _).alloc (Nat.le_refl _) _
      have HLIT : Hid (SlR 8 cmL W8 (.slice (some ⟨g9, 0, none⟩) 1 1) [c]) := Lib.hid (by rw [← hW8]; exact SlR.one cmL_len W7d g9 hg9 _ c rfl)
      have H8 : Hid (PlG P pw pk short n { x with s := askV x.s c, seq := x.seq + 1 } vh vl va g N Q O2 B a W8 ∧ ∀ k, O k → W8.heap[k]? = w.heap[k]?) := Lib.hid ⟨H7.out.1.below hb8, fun k hk => (hb8.block k (H7.out.1.lt (HOO.out.1 k hk))).trans (H7.out.2.1 k hk)⟩
      have hq8 : W8.cell? ⟨P, 10, none⟩ = some va ∧ W8.rangeAt g4 0 (cmL c) := ⟨(cell_of_row _ _ 10 _ _ _ H8.out.1.row).trans rfl, Ls.rng_below H7.out.2.2 hb8⟩
      have HQ8 := Lib.hid hq8
      clear hb8 hq8
      go_simp
      try rw [hg9]
      try rw [hW8]
      refine hK.out _ _ (Wl.Kn.on HQ8.out trivial) (fun hk => ?_)
      clear hK K hg9 hW8
      refine Wl.one (i := 7) (by kernel_rfl) rfl (fun K hK => ?_)
      refine stepRq cmL_len Try.underlying42 rfl (by decide) info_cm rfl (.tmp 54) (.tmp 56) rfl 0 va x.asked rfl H8.out.1.r.k (.slice (some ⟨g9, 0, none⟩) 1 1) [c] rfl HLIT.out (fun y _ => cmL_one y) (by have := HSZ.out; unfold maxLen; simp only [List.length_singleton]; omega) (by have := HSZ.out; simp only [List.length_singleton]; omega) (Nat.zero_le _) ?_
      intro va9 w9 own9 gr9 ly9
      obtain ⟨a9, c9, rfl⟩ := own_slice own9
      have H9o : Hid (∀ k, O k → w9.heap[k]? = w.heap[k]?) := Lib.hid (fun k hk => (gr9.block k (H8.out.1.lt (HOO.out.1 k hk)) (fun e => H8.out.1.ap k (H8.out.1.r.ok k e.symm).1 (HOO.out.1 k hk))).trans (H8.out.2 k hk))
      have hrow9 : w9.heap[P]? = some (.cells (plA pw pk { x with s := askV x.s c, seq := x.seq + 1 } vh vl va g) TP (0, 0)) := (gr9.block P (row_lt H8.out.1.row) (fun e => (H8.out.1.r.ok P e.symm).2 rfl)).trans H8.out.1.row
      have e10 : w9.cell? ⟨P, 10, none⟩ = some va := (cell_of_row _ _ 10 _ _ _ hrow9).trans rfl
      have f10 : w9.frozen? ⟨P, 10, none⟩ = false := frozen_of_row w9 _ _ _ _ hrow9
      obtain ⟨W10, hW10⟩ : ∃ z, w9.setCell ⟨P, 10, none⟩ (.slice a9 (x.asked.length + 1) c9) = z := ⟨_, rfl⟩
      have H9 : Hid (∃ Q', PlG P pw pk short n { x with s := askV x.s c, seq := x.seq + 1, asked := x.asked ++ [c] } vh vl (.slice a9 (x.asked.length + 1) c9) g N Q' O2 B a W10) := Lib.hid (by
        have h := H8.out.1.grow own9 gr9 ly9
        have e : (x.asked ++ [c]).length = x.asked.length + 1 := by simp
        dsimp only at h
        rw [e, hW10] at h
        exact h)
      have HW10 := Lib.hid hW10
      have hq9 : w9.cell? ⟨P, 10, none⟩ = some va ∧ w9.rangeAt g4 0 (cmL c) := ⟨e10, fun j v hv => by
        have h1 := HQ8.out.2 j v hv
        have hlt := World.block_lt_of_cell? _ _ h1
        have hne : ∀ q, va.ownBlock = some q → g4 ≠ q := fun q e hq => H8.out.1.ap q (H8.out.1.r.ok q e).1 (hq ▸ HOO.out.2)
        show w9.cell? ⟨g4, 0 + j, none⟩ = some v
        rw [World.cell?, gr9.block g4 hlt (fun e => hne g4 e.symm rfl)]
        exact h1⟩
      have HQ9 := Lib.hid hq9
      clear own9 gr9 ly9 hrow9 hq9
      refine hK.out _ _ (Wl.Kn.on HQ9.out trivial) (fun hk => ?_)
      clear hK K
      refine Wl.take (i := 8) (v := .pointer (some ⟨P, 0, none⟩)) [9, 10] rfl (by kernel_rfl) (by kernel_rfl) (by kernel_rfl) (by kernel_rfl) (by kernel_rfl) (fun _ _ _ h => h) (.inl ⟨by kernel_rfl, ?_⟩) hk ?_
      · intro wx hSw
        clear hSw hk
        go_simp
        try first | with_reducible rfl | kernel_rfl
      simp only [Act.put, List.getElem_toArray, List.getElem_cons_succ, List.getElem_cons_zero, List.setIfInBounds_toArray, List.set_cons_succ, List.set_cons_zero]
      refine Wl.take (i := 9) (v := .pointer (some ⟨P, 10, none⟩)) [10] rfl (by kernel_rfl) (by kernel_rfl) (by kernel_rfl) (by kernel_rfl) (by kernel_rfl) (fun _ _ _ h => h) (.inl ⟨by kernel_rfl, ?_⟩) hk ?_
      · intro wx hSw
        clear hSw hk
        go_simp
        try first | with_reducible rfl | kernel_rfl
      simp only [Act.put, List.getElem_toArray, List.getElem_cons_succ, List.getElem_cons_zero, List.setIfInBounds_toArray, List.set_cons_succ, List.set_cons_zero]
      refine Wl.one (i := 10) (by kernel_rfl) rfl (fun K hK => ?_)
      go_simp
      try rw [hW10]
      refine hK.out _ _ (Wl.Kn.off (by kernel_rfl) trivial) (fun hk => ?_)
      clear hK K
      refine Wl.done (by kernel_rfl) ?_ _
      clear hk
      go_wp2_with fail
      refine bodyPost_end (results_none rfl _ _ _) rfl ?_
      refine ⟨rfl, c, HCC.out, ?_, ?_⟩
      · rw [if_pos HEQ.out]
        obtain ⟨Q9, h9⟩ := H9.out
        exact ⟨_, _, _, _, Q9, h9.mono HOO.out.1⟩
      · intro k hk
        rw [← HW10.out, heap_setCell_other w9 ⟨P, 10, none⟩ k _ (fun e => H8.out.1.ap P H8.out.1.r.oP (by have e : k = P := e; rw [← e]; exact HOO.out.1 k hk))]
        exact H9o.out k hk
  · obtain ⟨c, hc⟩ : ∃ z : Cmd, z = (⟨3, 1, 0, [], 1, x.seq + 1, 0, 0⟩ : Cmd) := ⟨_, rfl⟩
    have HG4 : Hid (w2.heap[g4]? = some (.cells (cmA c) TCmd (0, 0))) := Lib.hid (by rw [hc]; exact HR2.out)
    have H5 := H2
    have HCO : Hid (cmdOk c) := Lib.hid (by rw [hc]; exact ⟨⟨rfl, rfl, rfl, rfl, wf_u64 (by have := HSQ.out; dsimp only; omega) (by have := HSQ.out; dsimp only; omega), rfl, rfl⟩, rfl⟩)
    have HCC : Hid (c.node = 1 ∧ c.boot = 1 ∧ c.seq = x.seq + 1 ∧ (c.kind = 3 ∨ c.kind = 4) ∧ c.wf) := Lib.hid ⟨by rw [hc], by rw [hc], by rw [hc], by rw [hc]; exact .inl rfl, HCO.out.1⟩
    clear hc
    cases hmb : (k0.tmod 2 != 0)
    · clear hrn
      go_upto_region 6 with fail
      have HAS : Hid (Calls Try.prog 28 #[.pointer (some ⟨pw, 0, none⟩), .agg (cmA c)] w2.drew fun e w' => e = .returned (.int .i64 (askE x.s c)) ∧ PlG P pw pk short n { x with s := askV x.s c } vh vl va g N Q O2 B a w' ∧ ∀ k, O2 k → w'.heap[k]? = w2.drew.heap[k]?) := Lib.hid (PlG.onW (R := fun e _ => e = .returned (.int .i64 (askE x.s c))) H5.out.1.drew (fun S hv => ask_any c _ _ hv (isc0 HCO.out _)))
      obtain ⟨ze, hze⟩ : ∃ z, askE x.s c = z := ⟨_, rfl⟩
      have HZE := Lib.hid hze
      obtain ⟨zb, hzb⟩ : ∃ z, (ze == 0) = z := ⟨_, rfl⟩
      have HZB := Lib.hid hzb
      have HQ5 : Hid (w2.drew.cell? ⟨P, 0, none⟩ = some (.pointer (some ⟨pw, 0, none⟩)) ∧ w2.drew.rangeAt g4 0 (cmL c)) := Lib.hid ⟨(cell_of_row w2 _ 0 _ _ _ H5.out.1.row).trans rfl, Wl.rng_of_row (w := w2.drew) HG4.out⟩
      have HQ6 : Hid (∀ u, PlG P pw pk short n { x with s := askV x.s c } vh vl va g N Q O2 B a u → (∀ k, O2 k → u.heap[k]? = w2.drew.heap[k]?) → u.cell? ⟨P, 0, none⟩ = some (.pointer (some ⟨pw, 0, none⟩)) ∧ u.rangeAt g4 0 (cmL c)) := Lib.hid (fun u hu hk => ⟨(cell_of_row _ _ 0 _ _ _ hu.row).trans rfl, Wl.rng_of_row (w := u) ((hk g4 HOO.out.2).trans HG4.out)⟩)
      clear hze hzb
      refine Wl.start 999 (fun _ => True) (fun u => u.cell? ⟨P, 0, none⟩ = some (.pointer (some ⟨pw, 0, none⟩)) ∧ u.rangeAt g4 0 (cmL c)) (by kernel_rfl) trivial HQ5.out (fun hk => ?_)
      refine Wl.take0 (i := 0) (v := .pointer (some ⟨P, 0, none⟩)) rfl (by kernel_rfl) (by kernel_rfl) (by kernel_rfl) (by kernel_rfl) (fun _ _ _ h => h) (.inl ⟨by kernel_rfl, ?_⟩) hk ?_
      · intro wx hSw
        clear hSw hk
        go_simp
        try first | with_reducible rfl | kernel_rfl
      simp only [Act.put, List.getElem_toArray, List.getElem_cons_succ, List.getElem_cons_zero, List.setIfInBounds_toArray, List.set_cons_succ, List.set_cons_zero]
      refine Wl.take0 (i := 1) (v := .pointer (some ⟨P, 0, none⟩)) rfl (by kernel_rfl) (by kernel_rfl) (by kernel_rfl) (by kernel_rfl) (fun _ _ _ h => h) (.inl ⟨by kernel_rfl, ?_⟩) hk ?_
      · intro wx hSw
        clear hSw hk
        go_simp
        try first | with_reducible rfl | kernel_rfl
      simp only [Act.put, List.getElem_toArray, List.getElem_cons_succ, List.getElem_cons_zero, List.setIfInBounds_toArray, List.set_cons_succ, List.set_cons_zero]
      refine Wl.take0 (i := 2) (v := .pointer (some ⟨P, 0, none⟩)) rfl (by kernel_rfl) (by kernel_rfl) (by kernel_rfl) (by kernel_rfl) (fun _ _ _ h => h) (.inl ⟨by kernel_rfl, ?_⟩) hk ?_
      · intro wx hSw
        clear hSw hk
        go_simp
        try first | with_reducible rfl | kernel_rfl
      simp only [Act.put, List.getElem_toArray, List.getElem_cons_succ, List.getElem_cons_zero, List.setIfInBounds_toArray, List.set_cons_succ, List.set_cons_zero]
      refine Wl.take0 (i := 3) (v := .pointer (some ⟨pw, 0, none⟩)) rfl (by kernel_rfl) (by kernel_rfl) (by kernel_rfl) (by kernel_rfl) (fun _ _ _ h => h) (.inl ⟨by kernel_rfl, ?_⟩) hk ?_
      · intro wx hSw
        have cc := hSw.1
        clear hSw hk
        go_simp
        try first | with_reducible rfl | kernel_rfl
      simp only [Act.put, List.getElem_toArray, List.getElem_cons_succ, List.getElem_cons_zero, List.setIfInBounds_toArray, List.set_cons_succ, List.set_cons_zero]
      refine Wl.take0 (i := 4) (v := .agg (cmA c)) rfl (by kernel_rfl) (by kernel_rfl) (by kernel_rfl) (by kernel_rfl) (fun _ _ _ h => h) (yieldsIf_load_mid (by rfl) _ _ rfl _ _ rfl (cmL c) _ (fun w h => h.2) Try.underlying58 rfl (by kernel_rfl)) hk ?_
      simp only [Act.put, List.getElem_toArray, List.getElem_cons_succ, List.getElem_cons_zero, List.setIfInBounds_toArray, List.set_cons_succ, List.set_cons_zero]
      refine Wl.one (i := 5) (by kernel_rfl) rfl (fun K hK => ?_)
      go_simp
      refine HAS.out.mono ?_
      rintro e w6 ⟨rfl, h6, k6⟩
      have H6 := Lib.hid (And.intro h6 k6)
      clear h6 k6
      rw [HZE.out]
      refine hK.out _ _ (Wl.Kn.on trivial (HQ6.out w6 H6.out.1 (fun k hk => H6.out.2 k hk))) (fun hk => ?_)
      clear hK K
      refine Wl.take0 (i := 6) (v := .bool zb) rfl (by kernel_rfl) (by kernel_rfl) (by kernel_rfl) (by kernel_rfl) (fun _ _ _ h => h) (.inl ⟨by kernel_rfl, ?_⟩) hk ?_
      · intro wx hSw
        have cc := HZB.out
        clear hSw hk
        go_simp
        try first | with_reducible rfl | kernel_rfl
      simp only [Act.put, List.getElem_toArray, List.getElem_cons_succ, List.getElem_cons_zero, List.setIfInBounds_toArray, List.set_cons_succ, List.set_cons_zero]
      refine Wl.done (by kernel_rfl) ?_ _
      clear hk
      have H6w : Hid (∀ k, O k → w6.heap[k]? = w.heap[k]?) := Lib.hid (fun k hk => (H6.out.2 k (HOO.out.1 k hk)).trans (H5.out.2 k hk))
      cases zb
      · have HNE : Hid (askE x.s c ≠ 0) := Lib.hid (by rw [HZE.out]; exact beq_eq_false_iff_ne.1 HZB.out)
        go_wp2_with fail
        refine bodyPost_end (results_none rfl _ _ _) rfl ?_
        refine ⟨rfl, c, HCC.out, ?_, H6w.out⟩
        rw [if_neg HNE.out]
        have h := H6.out.1
        rw [ask_same HNE.out] at h
        exact ⟨_, _, _, _, _, h.mono HOO.out.1⟩
      · have HEQ : Hid (askE x.s c = 0) := Lib.hid (by rw [HZE.out]; exact beq_iff_eq.1 HZB.out)
        have e9 : w6.cell? ⟨P, 9, none⟩ = some (.int .u64 x.seq) := (cell_of_row _ _ 9 _ _ _ H6.out.1.row).trans rfl
        have f9 : w6.frozen? ⟨P, 9, none⟩ = false := frozen_of_row w6 _ _ _ _ H6.out.1.row
        have hwr : IntKind.u64.wrap (x.seq + 1) = x.seq + 1 := HWR.out
        obtain ⟨W7, hW7⟩ : ∃ z, w6.setCell ⟨P, 9, none⟩ (.int .u64 (x.seq + 1)) = z := ⟨_, rfl⟩
        obtain ⟨W7d, hW7d⟩ : ∃ z, W7.drew = z := ⟨_, rfl⟩
        have h7 : PlG P pw pk short n { x with s := askV x.s c, seq := x.seq + 1 } vh vl va g N Q O2 B a W7 ∧ ∀ k, O2 k → W7.heap[k]? = w6.heap[k]? := by rw [← hW7]; exact H6.out.1.cell (x' := { x with s := askV x.s c, seq := x.seq + 1 }) rfl rfl rfl rfl rfl rfl
        have hg7 := (h7.2 g4 HOO.out.2).trans ((H6.out.2 g4 HOO.out.2).trans HG4.out)
        have H7 : Hid (PlG P pw pk short n { x with s := askV x.s c, seq := x.seq + 1 } vh vl va g N Q O2 B a W7d ∧ (∀ k, O k → W7d.heap[k]? = w.heap[k]?) ∧ W7d.rangeAt g4 0 (cmL c)) := Lib.hid (by
          rw [← hW7d]
          exact ⟨h7.1.drew, fun k hk => (h7.2 k (HOO.out.1 k hk)).trans (H6w.out k hk), Wl.rng_of_row (w := W7.drew) hg7⟩)
        have HQ7 : Hid (W7.drew.cell? ⟨P, 10, none⟩ = some va ∧ W7.drew.rangeAt g4 0 (cmL c)) := Lib.hid ⟨(cell_of_row W7 _ 10 _ _ _ h7.1.row).trans rfl, Wl.rng_of_row (w := W7.drew) hg7⟩
        clear h7 hg7
        go_upto_region 8 with (first | rw [hW7])
        clear e9 f9 hwr hW7
        refine Wl.start 10 (fun u => u.cell? ⟨P, 10, none⟩ = some va ∧ u.rangeAt g4 0 (cmL c)) (fun _ => True) (by kernel_rfl) HQ7.out trivial (fun hk => ?_)
        rw [hW7d] at hk ⊢
        clear hW7d
        refine Wl.take (i := 0) (v := .pointer (some ⟨P, 0, none⟩)) [8, 9, 10] rfl (by kernel_rfl) (by kernel_rfl) (by kernel_rfl) (by kernel_rfl) (by kernel_rfl) (fun _ _ _ h => h) (.inl ⟨by kernel_rfl, ?_⟩) hk ?_
        · intro wx hSw
          clear hSw hk
          go_simp
          try first | with_reducible rfl | kernel_rfl
        simp only [Act.put, List.getElem_toArray, List.getElem_cons_succ, List.getElem_cons_zero, List.setIfInBounds_toArray, List.set_cons_succ, List.set_cons_zero]
        refine Wl.take (i := 1) (v := .pointer (some ⟨P, 0, none⟩)) [2, 3, 4, 7, 8, 9, 10] rfl (by kernel_rfl) (by kernel_rfl) (by kernel_rfl) (by kernel_rfl) (by kernel_rfl) (fun _ _ _ h => h) (.inl ⟨by kernel_rfl, ?_⟩) hk ?_
        · intro wx hSw
          clear hSw hk
          go_simp
          try first | with_reducible rfl | kernel_rfl
        simp only [Act.put, List.getElem_toArray, List.getElem_cons_succ, List.getElem_cons_zero, List.setIfInBounds_toArray, List.set_cons_succ, List.set_cons_zero]
        refine Wl.take (i := 2) (v := .pointer (some ⟨P, 0, none⟩)) [3, 4, 7, 8, 9, 10] rfl (by kernel_rfl) (by kernel_rfl) (by kernel_rfl) (by kernel_rfl) (by kernel_rfl) (fun _ _ _ h => h) (.inl ⟨by kernel_rfl, ?_⟩) hk ?_
        · intro wx hSw
          clear hSw hk
          go_simp
          try first | with_reducible rfl | kernel_rfl
        simp only [Act.put, List.getElem_toArray, List.getElem_cons_succ, List.getElem_cons_zero, List.setIfInBounds_toArray, List.set_cons_succ, List.set_cons_zero]
        refine Wl.take (i := 3) (v := .pointer (some ⟨P, 10, none⟩)) [4, 7, 8, 9, 10] rfl (by kernel_rfl) (by kernel_rfl) (by kernel_rfl) (by kernel_rfl) (by kernel_rfl) (fun _ _ _ h => h) (.inl ⟨by kernel_rfl, ?_⟩) hk ?_
        · intro wx hSw
          clear hSw hk
          go_simp
          try first | with_reducible rfl | kernel_rfl
        simp only [Act.put, List.getElem_toArray, List.getElem_cons_succ, List.getElem_cons_zero, List.setIfInBounds_toArray, List.set_cons_succ, List.set_cons_zero]
        refine Wl.take (i := 4) (v := va) [7, 8, 9, 10] rfl (by kernel_rfl) (by kernel_rfl) (by kernel_rfl) (by kernel_rfl) (by kernel_rfl) (fun _ _ _ h => h) (.inl ⟨by kernel_rfl, ?_⟩) hk ?_
        · intro wx hSw
          have cc := hSw.1.1
          clear hSw hk
          go_simp
          try first | with_reducible rfl | kernel_rfl
        simp only [Act.put, List.getElem_toArray, List.getElem_cons_succ, List.getElem_cons_zero, List.setIfInBounds_toArray, List.set_cons_succ, List.set_cons_zero]
        refine Wl.take (i := 5) (v := .agg (cmA c)) [6, 7, 8, 9, 10] rfl (by kernel_rfl) (by kernel_rfl) (by kernel_rfl) (by kernel_rfl) (by kernel_rfl) (fun _ _ _ h => h) (yieldsIf_load_mid (by rfl) _ _ rfl _ _ rfl (cmL c) _ (fun w h => h.1.2) Try.underlying58 rfl (by kernel_rfl)) hk ?_
        simp only [Act.put, List.getElem_toArray, List.getElem_cons_succ, List.getElem_cons_zero, List.setIfInBounds_toArray, List.set_cons_succ, List.set_cons_zero]
        refine Wl.one (i := 6) (by kernel_rfl) rfl (fun K hK => ?_)
        obtain ⟨g9, hg9⟩ : ∃ z, W7d.heap.size = z := ⟨_, rfl⟩
        obtain ⟨W8, hW8⟩ : ∃ z, W7d.alloc (.cells (cmA c) TCmd) = z := ⟨_, rfl⟩
        have hb8 : Below W7d.heap.size W7d W8 := by rw [← hW8]; exact (Below.refl _ _).alloc (Nat.le_refl _) _
        have HLIT : Hid (SlR 8 cmL W8 (.slice (some ⟨g9, 0, none⟩) 1 1) [c]) := Lib.hid (by rw [← hW8]; exact SlR.one cmL_len W7d g9 hg9 _ c rfl)
        have H8 : Hid (PlG P pw pk short n { x with s := askV x.s c, seq := x.seq + 1 } vh vl va g N Q O2 B a W8 ∧ ∀ k, O k → W8.heap[k]? = w.heap[k]?) := Lib.hid ⟨H7.out.1.below hb8, fun k hk => (hb8.block k (H7.out.1.lt (HOO.out.1 k hk))).trans (H7.out.2.1 k hk)⟩
        have hq8 : W8.cell? ⟨P, 10, none⟩ = some va ∧ W8.rangeAt g4 0 (cmL c) := ⟨(cell_of_row _ _ 10 _ _ _ H8.out.1.row).trans rfl, Ls.rng_below H7.out.2.2 hb8⟩
        have HQ8 := Lib.hid hq8
        clear hb8 hq8
        go_simp
        try rw [hg9]
        try rw [hW8]
        refine hK.out _ _ (Wl.Kn.on HQ8.out trivial) (fun hk => ?_)
        clear hK K hg9 hW8
        refine Wl.one (i := 7) (by kernel_rfl) rfl (fun K hK => ?_)
        refine stepRq cmL_len Try.underlying42 rfl (by decide) info_cm rfl (.tmp 54) (.tmp 56) rfl 0 va x.asked rfl H8.out.1.r.k (.slice (some ⟨g9, 0, none⟩) 1 1) [c] rfl HLIT.out (fun y _ => cmL_one y) (by have := HSZ.out; unfold maxLen; simp only [List.length_singleton]; omega) (by have := HSZ.out; simp only [List.length_singleton]; omega) (Nat.zero_le _) ?_
        intro va9 w9 own9 gr9 ly9
        obtain ⟨a9, c9, rfl⟩ := own_slice own9
        have H9o : Hid (∀ k, O k → w9.heap[k]? = w.heap[k]?) := Lib.hid (fun k hk => (gr9.block k (H8.out.1.lt (HOO.out.1 k hk)) (fun e => H8.out.1.ap k (H8.out.1.r.ok k e.symm).1 (HOO.out.1 k hk))).trans (H8.out.2 k hk))
        have hrow9 : w9.heap[P]? = some (.cells (plA pw pk { x with s := askV x.s c, seq := x.seq + 1 } vh vl va g) TP (0, 0)) := (gr9.block P (row_lt H8.out.1.row) (fun e => (H8.out.1.r.ok P e.symm).2 rfl)).trans H8.out.1.row
        have e10 : w9.cell? ⟨P, 10, none⟩ = some va := (cell_of_row _ _ 10 _ _ _ hrow9).trans rfl
        have f10 : w9.frozen? ⟨P, 10, none⟩ = false := frozen_of_row w9 _ _ _ _ hrow9
        obtain ⟨W10, hW10⟩ : ∃ z, w9.setCell ⟨P, 10, none⟩ (.slice a9 (x.asked.length + 1) c9) = z := ⟨_, rfl⟩
        have H9 : Hid (∃ Q', PlG P pw pk short n { x with s := askV x.s c, seq := x.seq + 1, asked := x.asked ++ [c] } vh vl (.slice a9 (x.asked.length + 1) c9) g N Q' O2 B a W10) := Lib.hid (by
          have h := H8.out.1.grow own9 gr9 ly9
          have e : (x.asked ++ [c]).length = x.asked.length + 1 := by simp
          dsimp only at h
          rw [e, hW10] at h
          exact h)
        have HW10 := Lib.hid hW10
        have hq9 : w9.cell? ⟨P, 10, none⟩ = some va ∧ w9.rangeAt g4 0 (cmL c) := ⟨e10, fun j v hv => by
          have h1 := HQ8.out.2 j v hv
          have hlt := World.block_lt_of_cell? _ _ h1
          have hne : ∀ q, va.ownBlock = some q → g4 ≠ q := fun q e hq => H8.out.1.ap q (H8.out.1.r.ok q e).1 (hq ▸ HOO.out.2)
          show w9.cell? ⟨g4, 0 + j, none⟩ = some v
          rw [World.cell?, gr9.block g4 hlt (fun e => hne g4 e.symm rfl)]
          exact h1⟩
        have HQ9 := Lib.hid hq9
        clear own9 gr9 ly9 hrow9 hq9
        refine hK.out _ _ (Wl.Kn.on HQ9.out trivial) (fun hk => ?_)
        clear hK K
        refine Wl.take (i := 8) (v := .pointer (some ⟨P, 0, none⟩)) [9, 10] rfl (by kernel_rfl) (by kernel_rfl) (by kernel_rfl) (by kernel_rfl) (by kernel_rfl) (fun _ _ _ h => h) (.inl ⟨by kernel_rfl, ?_⟩) hk ?_
        · intro wx hSw
          clear hSw hk
          go_simp
          try first | with_reducible rfl | kernel_rfl
        simp only [Act.put, List.getElem_toArray, List.getElem_cons_succ, List.getElem_cons_zero, List.setIfInBounds_toArray, List.set_cons_succ, List.set_cons_zero]
        refine Wl.take (i := 9) (v := .pointer (some ⟨P, 10, none⟩)) [10] rfl (by kernel_rfl) (by kernel_rfl) (by kernel_rfl) (by kernel_rfl) (by kernel_rfl) (fun _ _ _ h => h) (.inl ⟨by kernel_rfl, ?_⟩) hk ?_
        · intro wx hSw
          clear hSw hk
          go_simp
          try first | with_reducible rfl | kernel_rfl
        simp only [Act.put, List.getElem_toArray, List.getElem_cons_succ, List.getElem_cons_zero, List.setIfInBounds_toArray, List.set_cons_succ, List.set_cons_zero]
        refine Wl.one (i := 10) (by kernel_rfl) rfl (fun K hK => ?_)
        go_simp
        try rw [hW10]
        refine hK.out _ _ (Wl.Kn.off (by kernel_rfl) trivial) (fun hk => ?_)
        clear hK K
        refine Wl.done (by kernel_rfl) ?_ _
        clear hk
        go_wp2_with fail
        refine bodyPost_end (results_none rfl _ _ _) rfl ?_
        refine ⟨rfl, c, HCC.out, ?_, ?_⟩
        · rw [if_pos HEQ.out]
          obtain ⟨Q9, h9⟩ := H9.out
          exact ⟨_, _, _, _, Q9, h9.mono HOO.out.1⟩
        · intro k hk
          rw [← HW10.out, heap_setCell_other w9 ⟨P, 10, none⟩ k _ (fun e => H8.out.1.ap P H8.out.1.r.oP (by have e : k = P := e; rw [← e]; exact HOO.out.1 k hk))]
          exact H9o.out k hk
    · have hli : ¬ (0 : Int) < (x.s.L.length : Int) := by have := bne_iff_ne.1 hmb; omega
      clear hrn
      go_upto_region 6 with fail
      have HAS : Hid (Calls Try.prog 28 #[.pointer (some ⟨pw, 0, none⟩), .agg (cmA c)] w2.drew fun e w' => e = .returned (.int .i64 (askE x.s c)) ∧ PlG P pw pk short n { x with s := askV x.s c } vh vl va g N Q O2 B a w' ∧ ∀ k, O2 k → w'.heap[k]? = w2.drew.heap[k]?) := Lib.hid (PlG.onW (R := fun e _ => e = .returned (.int .i64 (askE x.s c))) H5.out.1.drew (fun S hv => ask_any c _ _ hv (isc0 HCO.out _)))
      obtain ⟨ze, hze⟩ : ∃ z, askE x.s c = z := ⟨_, rfl⟩
      have HZE := Lib.hid hze
      obtain ⟨zb, hzb⟩ : ∃ z, (ze == 0) = z := ⟨_, rfl⟩
      have HZB := Lib.hid hzb
      have HQ5 : Hid (w2.drew.cell? ⟨P, 0, none⟩ = some (.pointer (some ⟨pw, 0, none⟩)) ∧ w2.drew.rangeAt g4 0 (cmL c)) := Lib.hid ⟨(cell_of_row w2 _ 0 _ _ _ H5.out.1.row).trans rfl, Wl.rng_of_row (w := w2.drew) HG4.out⟩
      have HQ6 : Hid (∀ u, PlG P pw pk short n { x with s := askV x.s c } vh vl va g N Q O2 B a u → (∀ k, O2 k → u.heap[k]? = w2.drew.heap[k]?) → u.cell? ⟨P, 0, none⟩ = some (.pointer (some ⟨pw, 0, none⟩)) ∧ u.rangeAt g4 0 (cmL c)) := Lib.hid (fun u hu hk => ⟨(cell_of_row _ _ 0 _ _ _ hu.row).trans rfl, Wl.rng_of_row (w := u) ((hk g4 HOO.out.2).trans HG4.out)⟩)
      clear hze hzb
      refine Wl.start 999 (fun _ => True) (fun u => u.cell? ⟨P, 0, none⟩ = some (.pointer (some ⟨pw, 0, none⟩)) ∧ u.rangeAt g4 0 (cmL c)) (by kernel_rfl) trivial HQ5.out (fun hk => ?_)
      refine Wl.take0 (i := 0) (v := .pointer (some ⟨P, 0, none⟩)) rfl (by kernel_rfl) (by kernel_rfl) (by kernel_rfl) (by kernel_rfl) (fun _ _ _ h => h) (.inl ⟨by kernel_rfl, ?_⟩) hk ?_
      · intro wx hSw
        clear hSw hk
        go_simp
        try first | with_reducible rfl | kernel_rfl
      simp only [Act.put, List.getElem_toArray, List.getElem_cons_succ, List.getElem_cons_zero, List.setIfInBounds_toArray, List.set_cons_succ, List.set_cons_zero]
      refine Wl.take0 (i := 1) (v := .pointer (some ⟨P, 0, none⟩)) rfl (by kernel_rfl) (by kernel_rfl) (by kernel_rfl) (by kernel_rfl) (fun _ _ _ h => h) (.inl ⟨by kernel_rfl, ?_⟩) hk ?_
      · intro wx hSw
        clear hSw hk
        go_simp
        try first | with_reducible rfl | kernel_rfl
      simp only [Act.put, List.getElem_toArray, List.getElem_cons_succ, List.getElem_cons_zero, List.setIfInBounds_toArray, List.set_cons_succ, List.set_cons_zero]
      refine Wl.take0 (i := 2) (v := .pointer (some ⟨P, 0, none⟩)) rfl (by kernel_rfl) (by kernel_rfl) (by kernel_rfl) (by kernel_rfl) (fun _ _ _ h => h) (.inl ⟨by kernel_rfl, ?_⟩) hk ?_
      · intro wx hSw
        clear hSw hk
        go_simp
        try first | with_reducible rfl | kernel_rfl
      simp only [Act.put, List.getElem_toArray, List.getElem_cons_succ, List.getElem_cons_zero, List.setIfInBounds_toArray, List.set_cons_succ, List.set_cons_zero]
      refine Wl.take0 (i := 3) (v := .pointer (some ⟨pw, 0, none⟩)) rfl (by kernel_rfl) (by kernel_rfl) (by kernel_rfl) (by kernel_rfl) (fun _ _ _ h => h) (.inl ⟨by kernel_rfl, ?_⟩) hk ?_
      · intro wx hSw
        have cc := hSw.1
        clear hSw hk
        go_simp
        try first | with_reducible rfl | kernel_rfl
      simp only [Act.put, List.getElem_toArray, List.getElem_cons_succ, List.getElem_cons_zero, List.setIfInBounds_toArray, List.set_cons_succ, List.set_cons_zero]
      refine Wl.take0 (i := 4) (v := .agg (cmA c)) rfl (by kernel_rfl) (by kernel_rfl) (by kernel_rfl) (by kernel_rfl) (fun _ _ _ h => h) (yieldsIf_load_mid (by rfl) _ _ rfl _ _ rfl (cmL c) _ (fun w h => h.2) Try.underlying58 rfl (by kernel_rfl)) hk ?_
      simp only [Act.put, List.getElem_toArray, List.getElem_cons_succ, List.getElem_cons_zero, List.setIfInBounds_toArray, List.set_cons_succ, List.set_cons_zero]
      refine Wl.one (i := 5) (by kernel_rfl) rfl (fun K hK => ?_)
      go_simp
      refine HAS.out.mono ?_
      rintro e w6 ⟨rfl, h6, k6⟩
      have H6 := Lib.hid (And.intro h6 k6)
      clear h6 k6
      rw [HZE.out]
      refine hK.out _ _ (Wl.Kn.on trivial (HQ6.out w6 H6.out.1 (fun k hk => H6.out.2 k hk))) (fun hk => ?_)
      clear hK K
      refine Wl.take0 (i := 6) (v := .bool zb) rfl (by kernel_rfl) (by kernel_rfl) (by kernel_rfl) (by kernel_rfl) (fun _ _ _ h => h) (.inl ⟨by kernel_rfl, ?_⟩) hk ?_
      · intro wx hSw
        have cc := HZB.out
        clear hSw hk
        go_simp
        try first | with_reducible rfl | kernel_rfl
      simp only [Act.put, List.getElem_toArray, List.getElem_cons_succ, List.getElem_cons_zero, List.setIfInBounds_toArray, List.set_cons_succ, List.set_cons_zero]
      refine Wl.done (by kernel_rfl) ?_ _
      clear hk
      have H6w : Hid (∀ k, O k → w6.heap[k]? = w.heap[k]?) := Lib.hid (fun k hk => (H6.out.2 k (HOO.out.1 k hk)).trans (H5.out.2 k hk))
      cases zb
      · have HNE : Hid (askE x.s c ≠ 0) := Lib.hid (by rw [HZE.out]; exact beq_eq_false_iff_ne.1 HZB.out)
        go_wp2_with fail
        refine bodyPost_end (results_none rfl _ _ _) rfl ?_
        refine ⟨rfl, c, HCC.out, ?_, H6w.out⟩
        rw [if_neg HNE.out]
        have h := H6.out.1
        rw [ask_same HNE.out] at h
        exact ⟨_, _, _, _, _, h.mono HOO.out.1⟩
      · have HEQ : Hid (askE x.s c = 0) := Lib.hid (by rw [HZE.out]; exact beq_iff_eq.1 HZB.out)
        have e9 : w6.cell? ⟨P, 9, none⟩ = some (.int .u64 x.seq) := (cell_of_row _ _ 9 _ _ _ H6.out.1.row).trans rfl
        have f9 : w6.frozen? ⟨P, 9, none⟩ = false := frozen_of_row w6 _ _ _ _ H6.out.1.row
        have hwr : IntKind.u64.wrap (x.seq + 1) = x.seq + 1 := HWR.out
        obtain ⟨W7, hW7⟩ : ∃ z, w6.setCell ⟨P, 9, none⟩ (.int .u64 (x.seq + 1)) = z := ⟨_, rfl⟩
        obtain ⟨W7d, hW7d⟩ : ∃ z, W7.drew = z := ⟨_, rfl⟩
        have h7 : PlG P pw pk short n { x with s := askV x.s c, seq := x.seq + 1 } vh vl va g N Q O2 B a W7 ∧ ∀ k, O2 k → W7.heap[k]? = w6.heap[k]? := by rw [← hW7]; exact H6.out.1.cell (x' := { x with s := askV x.s c, seq := x.seq + 1 }) rfl rfl rfl rfl rfl rfl
        have hg7 := (h7.2 g4 HOO.out.2).trans ((H6.out.2 g4 HOO.out.2).trans HG4.out)
        have H7 : Hid (PlG P pw pk short n { x with s := askV x.s c, seq := x.seq + 1 } vh vl va g N Q O2 B a W7d ∧ (∀ k, O k → W7d.heap[k]? = w.heap[k]?) ∧ W7d.rangeAt g4 0 (cmL c)) := Lib.hid (by
          rw [← hW7d]
          exact ⟨h7.1.drew, fun k hk => (h7.2 k (HOO.out.1 k hk)).trans (H6w.out k hk), Wl.rng_of_row (w := W7.drew) hg7⟩)
        have HQ7 : Hid (W7.drew.cell? ⟨P, 10, none⟩ = some va ∧ W7.drew.rangeAt g4 0 (cmL c)) := Lib.hid ⟨(cell_of_row W7 _ 10 _ _ _ h7.1.row).trans rfl, Wl.rng_of_row (w := W7.drew) hg7⟩
        clear h7 hg7
        go_upto_region 8 with (first | rw [hW7])
        clear e9 f9 hwr hW7
        refine Wl.start 10 (fun u => u.cell? ⟨P, 10, none⟩ = some va ∧ u.rangeAt g4 0 (cmL c)) (fun _ => True) (by kernel_rfl) HQ7.out trivial (fun hk => ?_)
        rw [hW7d] at hk ⊢
        clear hW7d
        refine Wl.take (i := 0) (v := .pointer (some ⟨P, 0, none⟩)) [8, 9, 10] rfl (by kernel_rfl) (by kernel_rfl) (by kernel_rfl) (by kernel_rfl) (by kernel_rfl) (fun _ _ _ h => h) (.inl ⟨by kernel_rfl, ?_⟩) hk ?_
        · intro wx hSw
          clear hSw hk
          go_simp
          try first | with_reducible rfl | kernel_rfl
        simp only [Act.put, List.getElem_toArray, List.getElem_cons_succ, List.getElem_cons_zero, List.setIfInBounds_toArray, List.set_cons_succ, List.set_cons_zero]
        refine Wl.take (i := 1) (v := .pointer (some ⟨P, 0, none⟩)) [2, 3, 4, 7, 8, 9, 10] rfl (by kernel_rfl) (by kernel_rfl) (by kernel_rfl) (by kernel_rfl) (by kernel_rfl) (fun _ _ _ h => h) (.inl ⟨by kernel_rfl, ?_⟩) hk ?_
        · intro wx hSw
          clear hSw hk
          go_simp
          try first | with_reducible rfl | kernel_rfl
        simp only [Act.put, List.getElem_toArray, List.getElem_cons_succ, List.getElem_cons_zero, List.setIfInBounds_toArray, List.set_cons_succ, List.set_cons_zero]
        refine Wl.take (i := 2) (v := .pointer (some ⟨P, 0, none⟩)) [3, 4, 7, 8, 9, 10] rfl (by kernel_rfl) (by kernel_rfl) (by kernel_rfl) (by kernel_rfl) (by kernel_rfl) (fun _ _ _ h => h) (.inl ⟨by kernel_rfl, ?_⟩) hk ?_
        · intro wx hSw
          clear hSw hk
          go_simp
          try first | with_reducible rfl | kernel_rfl
        simp only [Act.put, List.getElem_toArray, List.getElem_cons_succ, List.getElem_cons_zero, List.setIfInBounds_toArray, List.set_cons_succ, List.set_cons_zero]
        refine Wl.take (i := 3) (v := .pointer (some ⟨P, 10, none⟩)) [4, 7, 8, 9, 10] rfl (by kernel_rfl) (by kernel_rfl) (by kernel_rfl) (by kernel_rfl) (by kernel_rfl) (fun _ _ _ h => h) (.inl ⟨by kernel_rfl, ?_⟩) hk ?_
        · intro wx hSw
          clear hSw hk
          go_simp
          try first | with_reducible rfl | kernel_rfl
        simp only [Act.put, List.getElem_toArray, List.getElem_cons_succ, List.getElem_cons_zero, List.setIfInBounds_toArray, List.set_cons_succ, List.set_cons_zero]
        refine Wl.take (i := 4) (v := va) [7, 8, 9, 10] rfl (by kernel_rfl) (by kernel_rfl) (by kernel_rfl) (by kernel_rfl) (by kernel_rfl) (fun _ _ _ h => h) (.inl ⟨by kernel_rfl, ?_⟩) hk ?_
        · intro wx hSw
          have cc := hSw.1.1
          clear hSw hk
          go_simp
          try first | with_reducible rfl | kernel_rfl
        simp only [Act.put, List.getElem_toArray, List.getElem_cons_succ, List.getElem_cons_zero, List.setIfInBounds_toArray, List.set_cons_succ, List.set_cons_zero]
        refine Wl.take (i := 5) (v := .agg (cmA c)) [6, 7, 8, 9, 10] rfl (by kernel_rfl) (by kernel_rfl) (by kernel_rfl) (by kernel_rfl) (by kernel_rfl) (fun _ _ _ h => h) (yieldsIf_load_mid (by rfl) _ _ rfl _ _ rfl (cmL c) _ (fun w h => h.1.2) Try.underlying58 rfl (by kernel_rfl)) hk ?_
        simp only [Act.put, List.getElem_toArray, List.getElem_cons_succ, List.getElem_cons_zero, List.setIfInBounds_toArray, List.set_cons_succ, List.set_cons_zero]
        refine Wl.one (i := 6) (by kernel_rfl) rfl (fun K hK => ?_)
        obtain ⟨g9, hg9⟩ : ∃ z, W7d.heap.size = z := ⟨_, rfl⟩
        obtain ⟨W8, hW8⟩ : ∃ z, W7d.alloc (.cells (cmA c) TCmd) = z := ⟨_, rfl⟩
        have hb8 : Below W7d.heap.size W7d W8 := by rw [← hW8]; exact (Below.refl _ _).alloc (Nat.le_refl _) _
        have HLIT : Hid (SlR 8 cmL W8 (.slice (some ⟨g9, 0, none⟩) 1 1) [c]) := Lib.hid (by rw [← hW8]; exact SlR.one cmL_len W7d g9 hg9 _ c rfl)
        have H8 : Hid (PlG P pw pk short n { x with s := askV x.s c, seq := x.seq + 1 } vh vl va g N Q O2 B a W8 ∧ ∀ k, O k → W8.heap[k]? = w.heap[k]?) := Lib.hid ⟨H7.out.1.below hb8, fun k hk => (hb8.block k (H7.out.1.lt (HOO.out.1 k hk))).trans (H7.out.2.1 k hk)⟩
        have hq8 : W8.cell? ⟨P, 10, none⟩ = some va ∧ W8.rangeAt g4 0 (cmL c) := ⟨(cell_of_row _ _ 10 _ _ _ H8.out.1.row).trans rfl, Ls.rng_below H7.out.2.2 hb8⟩
        have HQ8 := Lib.hid hq8
        clear hb8 hq8
        go_simp
        try rw [hg9]
        try rw [hW8]
        refine hK.out _ _ (Wl.Kn.on HQ8.out trivial) (fun hk => ?_)
        clear hK K hg9 hW8
        refine Wl.one (i := 7) (by kernel_rfl) rfl (fun K hK => ?_)
        refine stepRq cmL_len Try.underlying42 rfl (by decide) info_cm rfl (.tmp 54) (.tmp 56) rfl 0 va x.asked rfl H8.out.1.r.k (.slice (some ⟨g9, 0, none⟩) 1 1) [c] rfl HLIT.out (fun y _ => cmL_one y) (by have := HSZ.out; unfold maxLen; simp only [List.length_singleton]; omega) (by have := HSZ.out; simp only [List.length_singleton]; omega) (Nat.zero_le _) ?_
        intro va9 w9 own9 gr9 ly9
        obtain ⟨a9, c9, rfl⟩ := own_slice own9
        have H9o : Hid (∀ k, O k → w9.heap[k]? = w.heap[k]?) := Lib.hid (fun k hk => (gr9.block k (H8.out.1.lt (HOO.out.1 k hk)) (fun e => H8.out.1.ap k (H8.out.1.r.ok k e.symm).1 (HOO.out.1 k hk))).trans (H8.out.2 k hk))
        have hrow9 : w9.heap[P]? = some (.cells (plA pw pk { x with s := askV x.s c, seq := x.seq + 1 } vh vl va g) TP (0, 0)) := (gr9.block P (row_lt H8.out.1.row) (fun e => (H8.out.1.r.ok P e.symm).2 rfl)).trans H8.out.1.row
        have e10 : w9.cell? ⟨P, 10, none⟩ = some va := (cell_of_row _ _ 10 _ _ _ hrow9).trans rfl
        have f10 : w9.frozen? ⟨P, 10, none⟩ = false := frozen_of_row w9 _ _ _ _ hrow9
        obtain ⟨W10, hW10⟩ : ∃ z, w9.setCell ⟨P, 10, none⟩ (.slice a9 (x.asked.length + 1) c9) = z := ⟨_, rfl⟩
        have H9 : Hid (∃ Q', PlG P pw pk short n { x with s := askV x.s c, seq := x.seq + 1, asked := x.asked ++ [c] } vh vl (.slice a9 (x.asked.length + 1) c9) g N Q' O2 B a W10) := Lib.hid (by
          have h := H8.out.1.grow own9 gr9 ly9
          have e : (x.asked ++ [c]).length = x.asked.length + 1 := by simp
          dsimp only at h
          rw [e, hW10] at h
          exact h)
        have HW10 := Lib.hid hW10
        have hq9 : w9.cell? ⟨P, 10, none⟩ = some va ∧ w9.rangeAt g4 0 (cmL c) := ⟨e10, fun j v hv => by
          have h1 := HQ8.out.2 j v hv
          have hlt := World.block_lt_of_cell? _ _ h1
          have hne : ∀ q, va.ownBlock = some q → g4 ≠ q := fun q e hq => H8.out.1.ap q (H8.out.1.r.ok q e).1 (hq ▸ HOO.out.2)
          show w9.cell? ⟨g4, 0 + j, none⟩ = some v
          rw [World.cell?, gr9.block g4 hlt (fun e => hne g4 e.symm rfl)]
          exact h1⟩
        have HQ9 := Lib.hid hq9
        clear own9 gr9 ly9 hrow9 hq9
        refine hK.out _ _ (Wl.Kn.on HQ9.out trivial) (fun hk => ?_)
        clear hK K
        refine Wl.take (i := 8) (v := .pointer (some ⟨P, 0, none⟩)) [9, 10] rfl (by kernel_rfl) (by kernel_rfl) (by kernel_rfl) (by kernel_rfl) (by kernel_rfl) (fun _ _ _ h => h) (.inl ⟨by kernel_rfl, ?_⟩) hk ?_
        · intro wx hSw
          clear hSw hk
          go_simp
          try first | with_reducible rfl | kernel_rfl
        simp only [Act.put, List.getElem_toArray, List.getElem_cons_succ, List.getElem_cons_zero, List.setIfInBounds_toArray, List.set_cons_succ, List.set_cons_zero]
        refine Wl.take (i := 9) (v := .pointer (some ⟨P, 10, none⟩)) [10] rfl (by kernel_rfl) (by kernel_rfl) (by kernel_rfl) (by kernel_rfl) (by kernel_rfl) (fun _ _ _ h => h) (.inl ⟨by kernel_rfl, ?_⟩) hk ?_
        · intro wx hSw
          clear hSw hk
          go_simp
          try first | with_reducible rfl | kernel_rfl
        simp only [Act.put, List.getElem_toArray, List.getElem_cons_succ, List.getElem_cons_zero, List.setIfInBounds_toArray, List.set_cons_succ, List.set_cons_zero]
        refine Wl.one (i := 10) (by kernel_rfl) rfl (fun K hK => ?_)
        go_simp
        try rw [hW10]
        refine hK.out _ _ (Wl.Kn.off (by kernel_rfl) trivial) (fun hk => ?_)
        clear hK K
        refine Wl.done (by kernel_rfl) ?_ _
        clear hk
        go_wp2_with fail
        refine bodyPost_end (results_none rfl _ _ _) rfl ?_
        refine ⟨rfl, c, HCC.out, ?_, ?_⟩
        · rw [if_pos HEQ.out]
          obtain ⟨Q9, h9⟩ := H9.out
          exact ⟨_, _, _, _, Q9, h9.mono HOO.out.1⟩
        · intro k hk
          rw [← HW10.out, heap_setCell_other w9 ⟨P, 10, none⟩ k _ (fun e => H8.out.1.ap P H8.out.1.r.oP (by have e : k = P := e; rw [← e]; exact HOO.out.1 k hk))]
          exact H9o.out k hk
end Sf
end Go.Proofs.Ytgbblegcjladaaa
