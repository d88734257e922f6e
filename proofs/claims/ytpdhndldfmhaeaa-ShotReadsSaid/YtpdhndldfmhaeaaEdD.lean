/- The reader of shot: a snapshot, that may not be one. No condition. -/
import Derived.Test.YtpdhndldfmhaeaaEdC
import Derived.Deep.RegionHeldLaw
import Derived.Deep.AppendLies
import Derived.Deep.RegionHeld3
import Derived.Deep.CutRange
import Derived.Deep.CutBlock
import Derived.Deep.DeepCutAuto
import Derived.Deep.MidRow
namespace Go.Proofs.Ytpdhndldfmhaeaa
open Go.ChangeShapes Go.WideShapes Go.ChangeAt Go.RowKit Go.Deep
set_option linter.unusedVariables false
set_option maxRecDepth 100000
namespace Sc
open Cm Nm Sh
abbrev zSA : Array Value := #[.int .u64 0, .int .u64 0, .slice none 0 0, .int .i64 0, .int .u64 0, .slice none 0 0, .slice none 0 0]
theorem own_far {w w2 : World} {B sz n : Nat} {e : TypeId} {v : Value} {xs : List Value} {row : Option Nat} (h : w.ownsRow B e sz v n xs) (hg : w.grownBy w2 row) (hne : ∀ g, v.ownBlock = some g → some g ≠ row) : w2.ownsRow B e sz v n xs := by
  refine ⟨h.1, ?_⟩
  rcases h.2 with q | ⟨q, cap, cur, rfl, h3, h4, h5⟩
  · exact .inl q
  · exact .inr ⟨q, cap, cur, rfl, h3, by rw [hg.block q (row_lt h4) (hne q rfl)]; exact h4, h5⟩
theorem own_apart {w : World} {B B2 sz sz2 n n2 : Nat} {e e2 : TypeId} {v v2 : Value} {xs ys : List Value} (h : w.ownsRow B e sz v n xs) (h2 : w.ownsRow B2 e2 sz2 v2 n2 ys) (hne : e ≠ e2) : ∀ g, v.ownBlock = some g → some g ≠ v2.ownBlock := by
  intro g hg hq
  rcases h2.2 with ⟨rfl, -⟩ | ⟨q, cap, cur, rfl, -, hh, -⟩
  · cases hq
  · obtain rfl : g = q := by simpa [Value.ownBlock] using hq
    exact own_ty h hh hne g hg rfl
theorem own_blk {w w' : World} {B e sz n g : Nat} {v : Value} {xs : List Value} (h : w.ownsRow B e sz v n xs) (hne : ∀ q, v.ownBlock = some q → q ≠ g) (hb : ∀ q, q < w.heap.size → q ≠ g → w'.heap[q]? = w.heap[q]?) : w'.ownsRow B e sz v n xs := by
  refine ⟨h.1, ?_⟩
  rcases h.2 with h2 | ⟨q, cap, cur, rfl, h3, h4, h5⟩
  · exact .inl h2
  · exact .inr ⟨q, cap, cur, rfl, h3, (hb q (row_lt h4) (hne q rfl)).trans h4, h5⟩
theorem own_cellx {w : World} {B e sz n g j : Nat} {v u : Value} {xs : List Value} {cs : Array Value} {t : TypeId} {fr : Nat × Nat} (h : w.ownsRow B e sz v n xs) (hg : w.heap[g]? = some (.cells cs t fr)) (hne : e ≠ t) : (w.setCell ⟨g, j, none⟩ u).ownsRow B e sz v n xs :=
  own_blk (g := g) h (own_ty h hg hne) fun q _ hq => Below.heap_setCell w ⟨g, j, none⟩ u q (by simpa using hq)
/-- what is known while a snapshot is read -/
def Inv (w w0 : World) (g : Nat) (st : Pst) (s : Sho) (vn vh vl : Value) (wr : World) : Prop :=
  wr.heap[w.heap.size + 1]? = some (.cells (sArr s vn vh vl) 30 (0, 0)) ∧ wr.heap[w.heap.size]? = some (.cells zSA 30 (0, 0)) ∧ OwnI wr w.heap.size vn s.nodes ∧ OwnR 5 heldC 51 wr w.heap.size vh s.led.held ∧ OwnR 6 lastC 56 wr w.heap.size vl s.led.last ∧ RdS w0 g st wr ∧ Only (· = g) w wr
theorem own_ge {w : World} {B e sz n : Nat} {v : Value} {xs : List Value} (h : w.ownsRow B e sz v n xs) {g : Nat} (hg : g < B) : ∀ q, v.ownBlock = some q → q ≠ g := fun q hq hn => by
  have := (World.ownsRow.lt h q hq).1
  omega
theorem Inv.call {w w0 wr w' : World} {g : Nat} {st st' : Pst} {s : Sho} {vn vh vl : Value} (h : Inv w w0 g st s vn vh vl wr) (hg : g < w.heap.size) (hr : RdS w0 g st' w') (ho : Only (· = g) wr w') : Inv w w0 g st' s vn vh vl w' := by
  obtain ⟨h1, h2, h3, h4, h5, h6, h7⟩ := h
  have hb : ∀ q, q < wr.heap.size → q ≠ g → w'.heap[q]? = wr.heap[q]? := fun q hq hn => ho.2.2.2.2 q hq hn
  exact ⟨(hb _ (row_lt h1) (by omega)).trans h1, (hb _ (row_lt h2) (by omega)).trans h2, own_blk h3 (own_ge h3 hg) hb, own_blk h4 (own_ge h4 hg) hb, own_blk h5 (own_ge h5 hg) hb, hr, h7.trans ho⟩
theorem Inv.alloc {w w0 wr : World} {g : Nat} {st : Pst} {s : Sho} {vn vh vl : Value} (h : Inv w w0 g st s vn vh vl wr) (hg : g < w.heap.size) (o : Obj) : Inv w w0 g st s vn vh vl (wr.alloc o) :=
  h.call hg (h.2.2.2.2.2.1.block (((Below.refl wr.heap.size wr).alloc (Nat.le_refl _) o).block g h.2.2.2.2.2.1.lt)) (Only.alloc _ _ _)
theorem Inv.set {w w0 wr : World} {g j : Nat} {st : Pst} {s s' : Sho} {vn vh vl u : Value} (h : Inv w w0 g st s vn vh vl wr) (hg : g < w.heap.size) (hrow : (wr.setCell ⟨w.heap.size + 1, j, none⟩ u).heap[w.heap.size + 1]? = some (.cells (sArr s' vn vh vl) 30 (0, 0))) (hn : s'.nodes = s.nodes) (hh : s'.led.held = s.led.held) (hl : s'.led.last = s.led.last) : Inv w w0 g st s' vn vh vl (wr.setCell ⟨w.heap.size + 1, j, none⟩ u) := by
  obtain ⟨h1, h2, h3, h4, h5, h6, h7⟩ := h
  have hx : Only (· = w.heap.size + 1) wr (wr.setCell ⟨w.heap.size + 1, j, none⟩ u) := Only.setCell _ _ _ rfl
  refine ⟨hrow, (hx.2.2.2.2 _ (row_lt h2) (by omega)).trans h2, by rw [hn]; exact own_cellx h3 h1 (by decide), by rw [hh]; exact own_cellx h4 h1 (by decide), by rw [hl]; exact own_cellx h5 h1 (by decide), h6.only hx (by omega), only_new h7 (Only.refl _ _) hx (by omega)⟩
theorem Inv.index {w w0 wr : World} {g : Nat} {st : Pst} {s : Sho} {vn vh vl : Value} (h : Inv w w0 g st s vn vh vl wr) (hg : g < w.heap.size) (n : Int) : Inv w w0 g st { s with index := n } vn vh vl (wr.setCell ⟨w.heap.size + 1, 0, none⟩ (.int .u64 n)) :=
  h.set hg (by rw [heap_setCell_same _ _ 0 _ _ _ h.1]; rfl) rfl rfl rfl
theorem Inv.term {w w0 wr : World} {g : Nat} {st : Pst} {s : Sho} {vn vh vl : Value} (h : Inv w w0 g st s vn vh vl wr) (hg : g < w.heap.size) (n : Int) : Inv w w0 g st { s with term := n } vn vh vl (wr.setCell ⟨w.heap.size + 1, 1, none⟩ (.int .u64 n)) :=
  h.set hg (by rw [heap_setCell_same _ _ 1 _ _ _ h.1]; rfl) rfl rfl rfl
theorem Inv.limit {w w0 wr : World} {g : Nat} {st : Pst} {s : Sho} {vn vh vl : Value} (h : Inv w w0 g st s vn vh vl wr) (hg : g < w.heap.size) (n : Int) : Inv w w0 g st { s with led := { s.led with limit := n } } vn vh vl (wr.setCell ⟨w.heap.size + 1, 3, none⟩ (.int .i64 n)) :=
  h.set hg (by rw [heap_setCell_same _ _ 3 _ _ _ h.1]; rfl) rfl rfl rfl
theorem Inv.next {w w0 wr : World} {g : Nat} {st : Pst} {s : Sho} {vn vh vl : Value} (h : Inv w w0 g st s vn vh vl wr) (hg : g < w.heap.size) (n : Int) : Inv w w0 g st { s with led := { s.led with next := n } } vn vh vl (wr.setCell ⟨w.heap.size + 1, 4, none⟩ (.int .u64 n)) :=
  h.set hg (by rw [heap_setCell_same _ _ 4 _ _ _ h.1]; rfl) rfl rfl rfl
theorem own_up {w wr : World} {e sz n : Nat} {v : Value} {xs : List Value} (h : wr.ownsRow w.heap.size e sz v n xs) : ∀ q, v.ownBlock = some q → w.heap.size ≤ q := fun q hq => (World.ownsRow.lt h q hq).1
theorem only_grown {w wr w' : World} {g : Nat} {row : Option Nat} (h : Only (· = g) w wr) (hg : wr.grownBy w' row) (hr : ∀ q, row = some q → w.heap.size ≤ q) : Only (· = g) w w' := by
  refine ⟨hg.os.trans h.1, hg.tape.trans h.2.1, hg.output.trans h.2.2.1, Nat.le_trans h.2.2.2.1 hg.size, fun k hk hn => ?_⟩
  rw [hg.block k (Nat.lt_of_lt_of_le hk h.2.2.2.1) (fun e => by have := hr k e.symm; omega)]
  exact h.2.2.2.2 k hk hn
theorem RdS.grown {w0 wr w' : World} {g B : Nat} {st : Pst} {row : Option Nat} (h : RdS w0 g st wr) (hg : wr.grownBy w' row) (hB : g < B) (hr : ∀ q, row = some q → B ≤ q) : RdS w0 g st w' :=
  h.block (hg.block g h.lt (fun e => by have := hr g e.symm; omega))
theorem row_grown {wr w' : World} {B e sz n q : Nat} {v : Value} {xs : List Value} {cs : Array Value} {t : TypeId} {fr : Nat × Nat} (h : wr.heap[q]? = some (.cells cs t fr)) (own : wr.ownsRow B e sz v n xs) (hne : e ≠ t) (hg : wr.grownBy w' v.ownBlock) : w'.heap[q]? = some (.cells cs t fr) := by
  rw [hg.block q (row_lt h) (fun e1 => own_ty own h hne q e1.symm rfl)]
  exact h
/-- a number more -/
theorem Inv.appn {w w0 wr w' : World} {g : Nat} {st : Pst} {s : Sho} {vn vh vl v' : Value} {x : Int} (h : Inv w w0 g st s vn vh vl wr) (hg : g < w.heap.size) (own' : OwnI w' w.heap.size v' (s.nodes ++ [x])) (hgr : wr.grownBy w' vn.ownBlock) : Inv w w0 g st { s with nodes := s.nodes ++ [x] } v' vh vl (w'.setCell ⟨w.heap.size + 1, 2, none⟩ v') := by
  obtain ⟨h1, h2, h3, h4, h5, h6, h7⟩ := h
  have r1 := row_grown h1 h3 (by decide) hgr
  have r2 := row_grown h2 h3 (by decide) hgr
  have r4 := own_far h4 hgr (own_apart h4 h3 (by decide))
  have r5 := own_far h5 hgr (own_apart h5 h3 (by decide))
  have hx : Only (· = w.heap.size + 1) w' (w'.setCell ⟨w.heap.size + 1, 2, none⟩ v') := Only.setCell _ _ _ rfl
  refine ⟨by rw [heap_setCell_same _ _ 2 _ _ _ r1]; rfl, (hx.2.2.2.2 _ (row_lt r2) (by omega)).trans r2, own_cellx own' r1 (by decide), own_cellx r4 r1 (by decide), own_cellx r5 r1 (by decide), (h6.grown hgr hg (own_up h3)).only hx (by omega), only_new (only_grown h7 hgr (own_up h3)) (Only.refl _ _) hx (by omega)⟩
theorem Inv.apph {w w0 wr w' : World} {g : Nat} {st : Pst} {s : Sho} {vn vh vl v' : Value} {x : Held} (h : Inv w w0 g st s vn vh vl wr) (hg : g < w.heap.size) (own' : OwnR 5 heldC 51 w' w.heap.size v' (s.led.held ++ [x])) (hgr : wr.grownBy w' vh.ownBlock) : Inv w w0 g st { s with led := { s.led with held := s.led.held ++ [x] } } vn v' vl (w'.setCell ⟨w.heap.size + 1, 5, none⟩ v') := by
  obtain ⟨h1, h2, h3, h4, h5, h6, h7⟩ := h
  have r1 := row_grown h1 h4 (by decide) hgr
  have r2 := row_grown h2 h4 (by decide) hgr
  have r3 := own_far h3 hgr (own_apart h3 h4 (by decide))
  have r5 := own_far h5 hgr (own_apart h5 h4 (by decide))
  have hx : Only (· = w.heap.size + 1) w' (w'.setCell ⟨w.heap.size + 1, 5, none⟩ v') := Only.setCell _ _ _ rfl
  refine ⟨by rw [heap_setCell_same _ _ 5 _ _ _ r1]; rfl, (hx.2.2.2.2 _ (row_lt r2) (by omega)).trans r2, own_cellx r3 r1 (by decide), own_cellx own' r1 (by decide), own_cellx r5 r1 (by decide), (h6.grown hgr hg (own_up h4)).only hx (by omega), only_new (only_grown h7 hgr (own_up h4)) (Only.refl _ _) hx (by omega)⟩
theorem Inv.appl {w w0 wr w' : World} {g : Nat} {st : Pst} {s : Sho} {vn vh vl v' : Value} {x : LastR} (h : Inv w w0 g st s vn vh vl wr) (hg : g < w.heap.size) (own' : OwnR 6 lastC 56 w' w.heap.size v' (s.led.last ++ [x])) (hgr : wr.grownBy w' vl.ownBlock) : Inv w w0 g st { s with led := { s.led with last := s.led.last ++ [x] } } vn vh v' (w'.setCell ⟨w.heap.size + 1, 6, none⟩ v') := by
  obtain ⟨h1, h2, h3, h4, h5, h6, h7⟩ := h
  have r1 := row_grown h1 h5 (by decide) hgr
  have r2 := row_grown h2 h5 (by decide) hgr
  have r3 := own_far h3 hgr (own_apart h3 h5 (by decide))
  have r4 := own_far h4 hgr (own_apart h4 h5 (by decide))
  have hx : Only (· = w.heap.size + 1) w' (w'.setCell ⟨w.heap.size + 1, 6, none⟩ v') := Only.setCell _ _ _ rfl
  refine ⟨by rw [heap_setCell_same _ _ 6 _ _ _ r1]; rfl, (hx.2.2.2.2 _ (row_lt r2) (by omega)).trans r2, own_cellx r3 r1 (by decide), own_cellx r4 r1 (by decide), own_cellx own' r1 (by decide), (h6.grown hgr hg (own_up h5)).only hx (by omega), only_new (only_grown h7 hgr (own_up h5)) (Only.refl _ _) hx (by omega)⟩
theorem Inv.drew {w w0 wr : World} {g : Nat} {st : Pst} {s : Sho} {vn vh vl : Value} (h : Inv w w0 g st s vn vh vl wr) : Inv w w0 g st s vn vh vl wr.drew := by
  obtain ⟨h1, h2, h3, h4, h5, h6, h7⟩ := h
  exact ⟨h1, h2, h3, h4, h5, h6, h7.trans (Below.only ((Below.refl _ _).drew) _)⟩
/-- an append to what the call owns, at a step of a region that draws its order -/
theorem stepRx {α : Type} {sz : Nat} {C : α → List Value} {P : Program} (hC : ∀ x, (C x).length = sz) {t e : TypeId} (ht : P.underlying t = some (.slice e)) {z : Value} {bytes : Nat} (hzs : z.cells.size = sz) (hsz : 0 < sz) (hinfo : (P.info? e).map (fun i => (i.zero, i.size, i.bytes)) = some (some z, sz, bytes))
    {w : World} {ops : Array Oper} {o : Oper} {a : Act} {K : Act → World → Prop} {Q : Exit → Act → World → Prop} {E : Prop} (hgd : o.guard = none) (s x : Operand)
    (ho : o.op = .call { callee := .builtin .append, args := #[s, x], argTypes := #[t, t] }) (base : Nat)
    (v : Value) (xs : List α) (hs : a.eval s = v) (hown : OwnR sz C e w base v xs) (u : Value) (zs : List α) (hx : a.eval x = u) (hsl : SlR sz C w u zs) (hne : 0 < zs.length) (h1c : ∀ x ∈ zs, ∀ u ∈ C x, u.oneCell' = true)
    (h63 : xs.length + zs.length ≤ maxLen) (hb : (xs.length + zs.length) * bytes ≤ 140737488355328) (hbase : base ≤ w.heap.size)
    (H : Nat) (hH : w.heap.size = H)
    (h : ∀ g cap w', OwnR sz C e w' base (.slice (some ⟨g, 0, none⟩) (xs.length + zs.length) cap) (xs ++ zs) → w.grownBy w' v.ownBlock → (v.ownBlock = some g ∨ g = H) → K (a.put o.dst (.slice (some ⟨g, 0, none⟩) (xs.length + zs.length) cap)) w') :
    if Region.wanted o (yielded ops a.tmps) = true then Oper.wp P o a w K Q else E := by
  have hw : Region.wanted o (yielded ops a.tmps) = true := by simp [Region.wanted, hgd]
  rw [if_pos hw]
  obtain ⟨i0, hi, hz0, hz1, hz2⟩ := info_parts hinfo
  rcases hsl.src hC with ⟨_, h0, _⟩ | ⟨ad, c, rfl, hc⟩
  · omega
  · refine wp_append_lies w s x t ho base e i0 z sz bytes ht hi hz0 hz1 hz2 hzs hsz v xs.length _ hs hown ad zs.length c (zs.flatMap C) hx (flat_len hC zs) hc (fun u hu => ?_) hne h63 hb hbase H hH fun g cap w' h2 h3 h4 _ => h g cap w' ?_ h3 h4
    · obtain ⟨y, hy1, hy⟩ := List.mem_flatMap.1 hu
      exact h1c y hy1 u hy
    · unfold OwnR
      rw [List.flatMap_append, List.length_append]
      exact h2
/-- an append of numbers, at a step of a region that draws its order -/
theorem stepK {k : IntKind} {P : Program} {t e : TypeId} (ht : P.underlying t = some (.slice e)) {z : Value} {bytes : Nat} (hzs : z.cells.size = 1) (hinfo : (P.info? e).map (fun i => (i.zero, i.size, i.bytes)) = some (some z, 1, bytes))
    {w : World} {ops : Array Oper} {o : Oper} {a : Act} {K : Act → World → Prop} {Q : Exit → Act → World → Prop} {E : Prop} (hgd : o.guard = none) (s x : Operand)
    (ho : o.op = .call { callee := .builtin .append, args := #[s, x], argTypes := #[t, t] }) (base : Nat)
    (v : Value) (xs : List Int) (hs : a.eval s = v) (hown : OwnK k e w base v xs) (u : Value) (zs : List Int) (hx : a.eval x = u) (hsl : Sl k w u zs) (hne : 0 < zs.length)
    (h63 : xs.length + zs.length ≤ maxLen) (hb : (xs.length + zs.length) * bytes ≤ 140737488355328) (hbase : base ≤ w.heap.size)
    (h : ∀ v' w', OwnK k e w' base v' (xs ++ zs) → w.grownBy w' v.ownBlock → K (a.put o.dst v') w') :
    if Region.wanted o (yielded ops a.tmps) = true then Oper.wp P o a w K Q else E := by
  have hw : Region.wanted o (yielded ops a.tmps) = true := by simp [Region.wanted, hgd]
  rw [if_pos hw]
  obtain ⟨i0, hi, hz0, hz1, hz2⟩ := info_parts hinfo
  rcases hsl.src with ⟨_, h0, _⟩ | ⟨ad, c, rfl, hc⟩
  · omega
  · refine wp_append_lies w s x t ho base e i0 z 1 bytes ht hi hz0 hz1 hz2 hzs (by decide) v xs.length _ hs hown ad zs.length c (zs.map (Value.int k)) hx (by simp) hc (fun u hu => ?_) hne h63 hb hbase w.heap.size rfl fun g cap w' h2 h3 h4 _ => h _ w' ?_ h3
    · obtain ⟨n, -, rfl⟩ := List.mem_map.1 hu
      rfl
    · unfold OwnK
      rw [List.map_append, List.length_append]
      exact h2
theorem rowE_h {w0 w : World} {g : Nat} {st stn : Pst} {n0 n1 n2 n3 n4 : Int} {f : FuncId} {args : Array Value} (h : heldS st = (⟨n0, n1, n2, n3, n4⟩, stn)) (c : Calls Try.prog f args w (RowE w0 g (heldS st).2 (.agg (heldC (heldS st).1).toArray) w)) : Calls Try.prog f args w (RowE w0 g stn (.agg #[.int .i64 n0, .int .i64 n1, .int .u64 n2, .int .u64 n3, .int .u64 n4]) w) := by
  rw [h] at c
  exact c
theorem rowE_l {w0 w : World} {g : Nat} {st stn : Pst} {n0 n1 n2 n3 n4 n5 : Int} {f : FuncId} {args : Array Value} (h : lastS st = (⟨n0, n1, n2, n3, n4, n5⟩, stn)) (c : Calls Try.prog f args w (RowE w0 g (lastS st).2 (.agg (lastC (lastS st).1).toArray) w)) : Calls Try.prog f args w (RowE w0 g stn (.agg #[.int .i64 n0, .int .u64 n1, .int .u64 n2, .int .i64 n3, .int .i64 n4, .int .u64 n5]) w) := by
  rw [h] at c
  exact c
theorem Inv.sz {w w0 wr : World} {g : Nat} {st : Pst} {s : Sho} {vn vh vl : Value} (h : Inv w w0 g st s vn vh vl wr) : w.heap.size ≤ wr.heap.size := h.2.2.2.2.2.2.2.2.2.1
theorem own_formx {w : World} {B e sz n : Nat} {v : Value} {xs : List Value} (h : w.ownsRow B e sz v n xs) : ∃ a m q, v = .slice a m q := by
  rcases h.2 with ⟨h, _⟩ | ⟨k, cap, cur, e, _⟩
  · exact ⟨_, _, _, h⟩
  · exact ⟨_, _, _, e⟩
/-- what reader.shot tells -/
def ShotE (w0 : World) (g : Nat) (r : Sho × Pst) (w : World) (e : Ending) (w' : World) : Prop := ∃ vn vh vl, e = .returned (.agg (sArr r.1 vn vh vl)) ∧ OwnI w' w.heap.size vn r.1.nodes ∧ OwnR 5 heldC 51 w' w.heap.size vh r.1.led.held ∧ OwnR 6 lastC 56 w' w.heap.size vl r.1.led.last ∧ RdS w0 g r.2 w' ∧ Only (· = g) w w'
set_option maxHeartbeats 8000000 in
theorem shot_any (w0 : World) (g : Nat) (st : Pst) (w : World) (hr : RdS w0 g st w) (hb : Below w0.heap.size w0 w) (hg : w0.heap.size ≤ g) :
    Calls Try.prog 7 #[.pointer (some ⟨g, 0, none⟩)] w (ShotE w0 g (shotS st) w) := by
  have hgl : g < w.heap.size := hr.lt
  obtain ⟨W0, hW0⟩ : ∃ q, (w.alloc (.cells zSA 30)).alloc (.cells zSA 30) = q := ⟨_, rfl⟩
  have hbo : Below w.heap.size w W0 := by rw [← hW0]; exact ((Below.refl _ _).alloc (Nat.le_refl _) _).alloc (by simp) _
  have HI : Hid (Inv w w0 g st zS (.slice none 0 0) (.slice none 0 0) (.slice none 0 0) W0) := Lib.hid ⟨by rw [← hW0]; exact heap_alloc2_new _ _ _, by rw [← hW0]; exact heap_alloc2_old _ _ _, OwnK.nil _ _ _ _, OwnR.nil _ _ _, OwnR.nil _ _ _, hr.block (hbo.block g hgl), Below.only hbo _⟩
  have HBW := Lib.hid hb
  have HG := Lib.hid hg
  have HGL := Lib.hid hgl
  clear hr hb hbo hg hgl
  go_enter Try.func7, Try.ntmps7
  go_wp2_with fail
  refine (begin_any w0 g st _ HI.out.2.2.2.2.2.1 (HI.out.2.2.2.2.2.2.below HBW.out HBW.out.size (fun q hq => hq ▸ HG.out))).mono ?_
  rintro E u0 ⟨rfl, hrk, hok, -⟩
  have HIB := Lib.hid (HI.out.call HGL.out hrk hok)
  clear hrk hok HI hW0
  have HI := HIB
  clear HIB
  go_wp2_with fail
  have hcal : Calls Try.prog _ _ _ (NumE w0 g (sh1 st) (.int .u64 (sh1 st).1) _) := wide_any w0 g (beginS st) _ HI.out.2.2.2.2.2.1 (HI.out.2.2.2.2.2.2.below HBW.out HBW.out.size (fun q hq => hq ▸ HG.out))
  refine hcal.mono ?_
  clear hcal
  rintro E u1 ⟨rfl, hrk, hok, -⟩
  have HI1 := Lib.hid (HI.out.call HGL.out hrk hok)
  clear hrk hok HI
  have ck := (cell_of_row _ _ 0 _ _ _ HI1.out.1).trans rfl
  have fk : u1.frozen? ⟨w.heap.size + 1, 0, none⟩ = false := frozen_of_row _ _ 0 _ _ HI1.out.1
  obtain ⟨W1, hW1⟩ : ∃ q, u1.setCell ⟨w.heap.size + 1, 0, none⟩ (.int .u64 (sh1 st).1) = q := ⟨_, rfl⟩
  have HI : Hid (Inv w w0 g (sh1 st).2 ⟨(sh1 st).1, 0, [], ⟨0, 0, [], []⟩⟩ (.slice none 0 0) (.slice none 0 0) (.slice none 0 0) W1) := Lib.hid (by rw [← hW1]; exact HI1.out.index HGL.out _)
  go_wp2_with fail
  clear ck fk HI1 hW1
  have hcal : Calls Try.prog _ _ _ (NumE w0 g (sh2 st) (.int .u64 (sh2 st).1) _) := wide_any w0 g (sh1 st).2 _ HI.out.2.2.2.2.2.1 (HI.out.2.2.2.2.2.2.below HBW.out HBW.out.size (fun q hq => hq ▸ HG.out))
  refine hcal.mono ?_
  clear hcal
  rintro E u2 ⟨rfl, hrk, hok, -⟩
  have HI2 := Lib.hid (HI.out.call HGL.out hrk hok)
  clear hrk hok HI
  have ck := (cell_of_row _ _ 1 _ _ _ HI2.out.1).trans rfl
  have fk : u2.frozen? ⟨w.heap.size + 1, 1, none⟩ = false := frozen_of_row _ _ 1 _ _ HI2.out.1
  obtain ⟨W2, hW2⟩ : ∃ q, u2.setCell ⟨w.heap.size + 1, 1, none⟩ (.int .u64 (sh2 st).1) = q := ⟨_, rfl⟩
  have HI : Hid (Inv w w0 g (sh2 st).2 ⟨(sh1 st).1, (sh2 st).1, [], ⟨0, 0, [], []⟩⟩ (.slice none 0 0) (.slice none 0 0) (.slice none 0 0) W2) := Lib.hid (by rw [← hW2]; exact HI2.out.term HGL.out _)
  go_wp2_with fail
  clear ck fk HI2 hW2
  have hcal : Calls Try.prog _ _ _ (NumE w0 g (sh3 st) (.int .i64 (sh3 st).1) _) := many_any w0 g (sh2 st).2 _ HI.out.2.2.2.2.2.1 (HI.out.2.2.2.2.2.2.below HBW.out HBW.out.size (fun q hq => hq ▸ HG.out))
  refine hcal.mono ?_
  clear hcal
  rintro E u3 ⟨rfl, hrk, hok, -⟩
  have HI3 := Lib.hid (HI.out.call HGL.out hrk hok)
  clear hrk hok HI
  obtain ⟨K3, hK3⟩ : ∃ K : Nat, (sh3 st).1 = (K : Int) ∧ (sh3 st).1.toNat = K := ⟨(sh3 st).1.toNat, by have := (pnum_bd 64 (by decide) (sh2 st).2).1; have e : (sh3 st).1 = (pnum 64 (sh2 st).2).1 := rfl; omega, rfl⟩
  have hle3 : K3 ≤ 64 := by have := (pnum_bd 64 (by decide) (sh2 st).2).2; have e : (sh3 st).1 = (pnum 64 (sh2 st).2).1 := rfl; have := hK3.1; omega
  have HK3 := Lib.hid hK3.2
  rw [hK3.1]
  have HI := HI3
  clear hK3 HI3
  go_wp2_with fail
  have HIK := HI
  clear HI
  go_loopw [14] (fun i wr => ∃ (k : Nat) (vx : Value), k ≤ K3 ∧ i = .int .i64 k ∧ Hid (Inv w w0 g (listS smallS k (sh3 st).2).2 ⟨(sh1 st).1, (sh2 st).1, (listS smallS k (sh3 st).2).1, ⟨0, 0, [], []⟩⟩ vx (.slice none 0 0) (.slice none 0 0) wr)) (fun i _ => K3 - (intOf i).toNat)
  case atStart => exact ⟨0, (.slice none 0 0), Nat.zero_le _, rfl, HIK⟩
  case round =>
    clear HIK
    obtain ⟨k, vx, hk, rfl, HI⟩ := hrel
    by_cases hlt : k < K3
    · rcases hL : listS smallS k (sh3 st).2 with ⟨lk, stk⟩
      have HLK := Lib.hid hL
      have HLEN : Hid (lk.length ≤ 64) := Lib.hid (by have q := listS_len smallS k (sh3 st).2; rw [hL] at q; simp only [] at q; omega)
      rw [hL] at HI
      clear hL
      have WFX : Hid ((Lit.int .i64 (smallS stk).1).wf = true) := Lib.hid (by rw [show (smallS stk).1 = (pnum 65535 stk).1 from rfl]; obtain ⟨h1, h2⟩ := pnum_bd 65535 (by decide) stk; simp [Lit.wf, IntKind.min, IntKind.max, IntKind.signed, IntKind.bits]; omega)
      have HNX : Hid (listS smallS (k + 1) (sh3 st).2 = (lk ++ [(smallS stk).1], (smallS stk).2)) := Lib.hid (by rw [listS, HLK.out])
      have hkz : (k : Int) < (K3 : Int) := by omega
      go_upto_region 7 with (fail)
      have HI := Lib.hid (HI.out.drew)
      refine wp_region_held_drew (S := fun _ => True) (by kernel_rfl) trivial (fun hHeld => ?_)
      refine wpAnyH_take (i := 0) (v := .pointer (some ⟨(w.heap.size + 1), 2, none⟩)) rfl (by kernel_rfl) (by kernel_rfl) (by kernel_rfl) (fun _ _ _ h => h) (Or.inl ⟨by kernel_rfl, ?_⟩) (by assumption) ?_
      · intro wx hSw
        clear hSw hHeld
        go_simp
        try first | with_reducible rfl | kernel_rfl
      simp only [Act.put, List.getElem_toArray, List.getElem_cons_zero, List.setIfInBounds_toArray, List.set_cons_succ, List.set_cons_zero]
      refine wpAnyH_take (i := 2) (v := .pointer (some ⟨g, 0, none⟩)) rfl (by kernel_rfl) (by kernel_rfl) (by kernel_rfl) (fun _ _ _ h => h) (Or.inl ⟨by kernel_rfl, ?_⟩) (by assumption) ?_
      · intro wx hSw
        clear hSw hHeld
        go_simp
        try first | with_reducible rfl | kernel_rfl
      simp only [Act.put, List.getElem_toArray, List.getElem_cons_succ, List.getElem_cons_zero, List.setIfInBounds_toArray, List.set_cons_succ, List.set_cons_zero]
      refine wpAnyH_ready (rs := [1, 3]) (by kernel_rfl) (by simp) ?_
      refine (AllReadyH.cons rfl (fun K hK => ?_) (AllReadyH.cons rfl (fun K hK => ?_) AllReadyH.nil))
      · have hci := (cell_of_row _ _ 2 _ _ _ HI.out.1).trans rfl
        go_simp
        clear hci
        refine hK.out _ _ trivial (fun hHeld => ?_)
        clear hK K hHeld
        refine wpAnyH_ready (rs := [3]) (by kernel_rfl) (by simp) ?_
        refine (AllReadyH.cons rfl (fun K hK => ?_) AllReadyH.nil)
        go_simp
        refine ((small_any' w0 g stk _ HI.out.2.2.2.2.2.1 (HI.out.2.2.2.2.2.2.below HBW.out HBW.out.size (fun q hq => hq ▸ HG.out)))).mono ?_
        rintro E wk ⟨rfl, hrk, hok, -⟩
        have HI := Lib.hid (HI.out.call HGL.out hrk hok)
        clear hrk hok
        refine hK.out _ _ trivial (fun hHeld => ?_)
        clear hK K hHeld
        refine wpAnyH_ready (rs := [4]) (by kernel_rfl) (by simp) ?_
        refine (AllReadyH.cons rfl (fun K hK => ?_) AllReadyH.nil)
        go_simp
        have HI := Lib.hid (HI.out.alloc HGL.out (.cells #[.int .i64 (smallS stk).1] 3))
        refine hK.out _ _ trivial (fun hHeld => ?_)
        clear hK K hHeld
        refine wpAnyH_ready (rs := [5]) (by kernel_rfl) (by simp) ?_
        refine (AllReadyH.cons rfl (fun K hK => ?_) AllReadyH.nil)
        refine stepK (k := .i64) (e := 3) Try.underlying24 rfl info_int rfl _ _ rfl w.heap.size vx _ rfl HI.out.2.2.1 _ [(smallS stk).1] rfl (Sl.newAt _ _ rfl _ _ rfl rfl (Nat.le_refl _) (by decide) (fun n hn => by simp only [List.mem_cons, List.not_mem_nil, or_false] at hn; subst hn; exact WFX.out)) (by simp) (by have := HLEN.out; unfold maxLen; simp; omega) (by have := HLEN.out; simp; omega) HI.out.sz ?_
        intro v' w' own' hgr
        obtain ⟨ax, mx, qx, rfl⟩ := own_formx own'
        have HXR := Lib.hid (row_grown HI.out.1 HI.out.2.2.1 (by decide) hgr)
        have ck := (cell_of_row _ _ 2 _ _ _ HXR.out).trans rfl
        have fk : w'.frozen? ⟨w.heap.size + 1, 2, none⟩ = false := frozen_of_row _ _ 2 _ _ HXR.out
        obtain ⟨WS, hWS⟩ : ∃ q, w'.setCell ⟨w.heap.size + 1, 2, none⟩ (.slice ax mx qx) = q := ⟨_, rfl⟩
        have HI2 := Lib.hid (HI.out.appn HGL.out own' hgr)
        rw [hWS] at HI2
        clear own' hgr HXR
        refine hK.out _ _ trivial (fun hHeld => ?_)
        clear hK K
        refine wpAnyH_take (i := 6) (v := .pointer (some ⟨(w.heap.size + 1), 2, none⟩)) rfl (by kernel_rfl) (by kernel_rfl) (by kernel_rfl) (fun _ _ _ h => h) (Or.inl ⟨by kernel_rfl, ?_⟩) (by assumption) ?_
        · intro wx hSw
          clear hSw hHeld
          go_simp
          try first | with_reducible rfl | kernel_rfl
        simp only [Act.put, List.getElem_toArray, List.getElem_cons_succ, List.getElem_cons_zero, List.setIfInBounds_toArray, List.set_cons_succ, List.set_cons_zero]
        clear hHeld
        refine wpAnyH_ready (rs := [7]) (by kernel_rfl) (by simp) ?_
        refine (AllReadyH.cons rfl (fun K hK => ?_) AllReadyH.nil)
        go_simp
        refine hK.out _ _ trivial (fun hHeld => ?_)
        clear hK K hHeld
        refine wpAnyH_done (by kernel_rfl) ?_ _
        clear ck fk
        go_wp2_with fail
        go_roundw
        case rel => exact ⟨k + 1, _, by omega, by go_num, Lib.hid (by rw [HNX.out]; exact HI2.out)⟩
        case measure => simp [intOf]; omega
      · go_simp
        refine ((small_any' w0 g stk _ HI.out.2.2.2.2.2.1 (HI.out.2.2.2.2.2.2.below HBW.out HBW.out.size (fun q hq => hq ▸ HG.out)))).mono ?_
        rintro E wk ⟨rfl, hrk, hok, -⟩
        have HI := Lib.hid (HI.out.call HGL.out hrk hok)
        clear hrk hok
        refine hK.out _ _ trivial (fun hHeld => ?_)
        clear hK K hHeld
        refine wpAnyH_ready (rs := [1, 4]) (by kernel_rfl) (by simp) ?_
        refine (AllReadyH.cons rfl (fun K hK => ?_) (AllReadyH.cons rfl (fun K hK => ?_) AllReadyH.nil))
        · have hci := (cell_of_row _ _ 2 _ _ _ HI.out.1).trans rfl
          go_simp
          clear hci
          refine hK.out _ _ trivial (fun hHeld => ?_)
          clear hK K hHeld
          refine wpAnyH_ready (rs := [4]) (by kernel_rfl) (by simp) ?_
          refine (AllReadyH.cons rfl (fun K hK => ?_) AllReadyH.nil)
          go_simp
          have HI := Lib.hid (HI.out.alloc HGL.out (.cells #[.int .i64 (smallS stk).1] 3))
          refine hK.out _ _ trivial (fun hHeld => ?_)
          clear hK K hHeld
          refine wpAnyH_ready (rs := [5]) (by kernel_rfl) (by simp) ?_
          refine (AllReadyH.cons rfl (fun K hK => ?_) AllReadyH.nil)
          refine stepK (k := .i64) (e := 3) Try.underlying24 rfl info_int rfl _ _ rfl w.heap.size vx _ rfl HI.out.2.2.1 _ [(smallS stk).1] rfl (Sl.newAt _ _ rfl _ _ rfl rfl (Nat.le_refl _) (by decide) (fun n hn => by simp only [List.mem_cons, List.not_mem_nil, or_false] at hn; subst hn; exact WFX.out)) (by simp) (by have := HLEN.out; unfold maxLen; simp; omega) (by have := HLEN.out; simp; omega) HI.out.sz ?_
          intro v' w' own' hgr
          obtain ⟨ax, mx, qx, rfl⟩ := own_formx own'
          have HXR := Lib.hid (row_grown HI.out.1 HI.out.2.2.1 (by decide) hgr)
          have ck := (cell_of_row _ _ 2 _ _ _ HXR.out).trans rfl
          have fk : w'.frozen? ⟨w.heap.size + 1, 2, none⟩ = false := frozen_of_row _ _ 2 _ _ HXR.out
          obtain ⟨WS, hWS⟩ : ∃ q, w'.setCell ⟨w.heap.size + 1, 2, none⟩ (.slice ax mx qx) = q := ⟨_, rfl⟩
          have HI2 := Lib.hid (HI.out.appn HGL.out own' hgr)
          rw [hWS] at HI2
          clear own' hgr HXR
          refine hK.out _ _ trivial (fun hHeld => ?_)
          clear hK K
          refine wpAnyH_take (i := 6) (v := .pointer (some ⟨(w.heap.size + 1), 2, none⟩)) rfl (by kernel_rfl) (by kernel_rfl) (by kernel_rfl) (fun _ _ _ h => h) (Or.inl ⟨by kernel_rfl, ?_⟩) (by assumption) ?_
          · intro wx hSw
            clear hSw hHeld
            go_simp
            try first | with_reducible rfl | kernel_rfl
          simp only [Act.put, List.getElem_toArray, List.getElem_cons_succ, List.getElem_cons_zero, List.setIfInBounds_toArray, List.set_cons_succ, List.set_cons_zero]
          clear hHeld
          refine wpAnyH_ready (rs := [7]) (by kernel_rfl) (by simp) ?_
          refine (AllReadyH.cons rfl (fun K hK => ?_) AllReadyH.nil)
          go_simp
          refine hK.out _ _ trivial (fun hHeld => ?_)
          clear hK K hHeld
          refine wpAnyH_done (by kernel_rfl) ?_ _
          clear ck fk
          go_wp2_with fail
          go_roundw
          case rel => exact ⟨k + 1, _, by omega, by go_num, Lib.hid (by rw [HNX.out]; exact HI2.out)⟩
          case measure => simp [intOf]; omega
        · go_simp
          have HI := Lib.hid (HI.out.alloc HGL.out (.cells #[.int .i64 (smallS stk).1] 3))
          refine hK.out _ _ trivial (fun hHeld => ?_)
          clear hK K hHeld
          refine wpAnyH_ready (rs := [1]) (by kernel_rfl) (by simp) ?_
          refine (AllReadyH.cons rfl (fun K hK => ?_) AllReadyH.nil)
          have hci := (cell_of_row _ _ 2 _ _ _ HI.out.1).trans rfl
          go_simp
          clear hci
          refine hK.out _ _ trivial (fun hHeld => ?_)
          clear hK K hHeld
          refine wpAnyH_ready (rs := [5]) (by kernel_rfl) (by simp) ?_
          refine (AllReadyH.cons rfl (fun K hK => ?_) AllReadyH.nil)
          refine stepK (k := .i64) (e := 3) Try.underlying24 rfl info_int rfl _ _ rfl w.heap.size vx _ rfl HI.out.2.2.1 _ [(smallS stk).1] rfl (Sl.newAt _ _ rfl _ _ rfl rfl (Nat.le_refl _) (by decide) (fun n hn => by simp only [List.mem_cons, List.not_mem_nil, or_false] at hn; subst hn; exact WFX.out)) (by simp) (by have := HLEN.out; unfold maxLen; simp; omega) (by have := HLEN.out; simp; omega) HI.out.sz ?_
          intro v' w' own' hgr
          obtain ⟨ax, mx, qx, rfl⟩ := own_formx own'
          have HXR := Lib.hid (row_grown HI.out.1 HI.out.2.2.1 (by decide) hgr)
          have ck := (cell_of_row _ _ 2 _ _ _ HXR.out).trans rfl
          have fk : w'.frozen? ⟨w.heap.size + 1, 2, none⟩ = false := frozen_of_row _ _ 2 _ _ HXR.out
          obtain ⟨WS, hWS⟩ : ∃ q, w'.setCell ⟨w.heap.size + 1, 2, none⟩ (.slice ax mx qx) = q := ⟨_, rfl⟩
          have HI2 := Lib.hid (HI.out.appn HGL.out own' hgr)
          rw [hWS] at HI2
          clear own' hgr HXR
          refine hK.out _ _ trivial (fun hHeld => ?_)
          clear hK K
          refine wpAnyH_take (i := 6) (v := .pointer (some ⟨(w.heap.size + 1), 2, none⟩)) rfl (by kernel_rfl) (by kernel_rfl) (by kernel_rfl) (fun _ _ _ h => h) (Or.inl ⟨by kernel_rfl, ?_⟩) (by assumption) ?_
          · intro wx hSw
            clear hSw hHeld
            go_simp
            try first | with_reducible rfl | kernel_rfl
          simp only [Act.put, List.getElem_toArray, List.getElem_cons_succ, List.getElem_cons_zero, List.setIfInBounds_toArray, List.set_cons_succ, List.set_cons_zero]
          clear hHeld
          refine wpAnyH_ready (rs := [7]) (by kernel_rfl) (by simp) ?_
          refine (AllReadyH.cons rfl (fun K hK => ?_) AllReadyH.nil)
          go_simp
          refine hK.out _ _ trivial (fun hHeld => ?_)
          clear hK K hHeld
          refine wpAnyH_done (by kernel_rfl) ?_ _
          clear ck fk
          go_wp2_with fail
          go_roundw
          case rel => exact ⟨k + 1, _, by omega, by go_num, Lib.hid (by rw [HNX.out]; exact HI2.out)⟩
          case measure => simp [intOf]; omega
    · obtain rfl : K3 = k := by omega
      have hkz : ¬ ((K3 : Int) < (K3 : Int)) := by omega
      have HI4 : Hid (Inv w w0 g (sh4 st).2 ⟨(sh1 st).1, (sh2 st).1, (sh4 st).1, ⟨0, 0, [], []⟩⟩ vx (.slice none 0 0) (.slice none 0 0) wr) := Lib.hid (by have q := HI.out; rw [← HK3.out] at q; exact q)
      clear HI
      have HI := HI4
      clear HI4
      obtain ⟨v1, hv1⟩ : ∃ q, q = vx := ⟨_, rfl⟩
      rw [← hv1] at HI
      clear hv1 hlt
      go_wp2_with fail
      have hcal : Calls Try.prog _ _ _ (NumE w0 g (sh5 st) (.int .i64 (sh5 st).1) _) := small_any' w0 g (sh4 st).2 _ HI.out.2.2.2.2.2.1 (HI.out.2.2.2.2.2.2.below HBW.out HBW.out.size (fun q hq => hq ▸ HG.out))
      refine hcal.mono ?_
      clear hcal
      rintro E u5 ⟨rfl, hrk, hok, -⟩
      have HI5 := Lib.hid (HI.out.call HGL.out hrk hok)
      clear hrk hok HI
      have ck := (cell_of_row _ _ 3 _ _ _ HI5.out.1).trans rfl
      have fk : u5.frozen? ⟨w.heap.size + 1, 3, none⟩ = false := frozen_of_row _ _ 3 _ _ HI5.out.1
      obtain ⟨W5, hW5⟩ : ∃ q, u5.setCell ⟨w.heap.size + 1, 3, none⟩ (.int .i64 (sh5 st).1) = q := ⟨_, rfl⟩
      have HI : Hid (Inv w w0 g (sh5 st).2 ⟨(sh1 st).1, (sh2 st).1, (sh4 st).1, ⟨(sh5 st).1, 0, [], []⟩⟩ v1 (.slice none 0 0) (.slice none 0 0) W5) := Lib.hid (by rw [← hW5]; exact HI5.out.limit HGL.out _)
      go_wp2_with fail
      clear ck fk HI5 hW5
      have hcal : Calls Try.prog _ _ _ (NumE w0 g (sh6 st) (.int .u64 (sh6 st).1) _) := wide_any w0 g (sh5 st).2 _ HI.out.2.2.2.2.2.1 (HI.out.2.2.2.2.2.2.below HBW.out HBW.out.size (fun q hq => hq ▸ HG.out))
      refine hcal.mono ?_
      clear hcal
      rintro E u6 ⟨rfl, hrk, hok, -⟩
      have HI6 := Lib.hid (HI.out.call HGL.out hrk hok)
      clear hrk hok HI
      have ck := (cell_of_row _ _ 4 _ _ _ HI6.out.1).trans rfl
      have fk : u6.frozen? ⟨w.heap.size + 1, 4, none⟩ = false := frozen_of_row _ _ 4 _ _ HI6.out.1
      obtain ⟨W6, hW6⟩ : ∃ q, u6.setCell ⟨w.heap.size + 1, 4, none⟩ (.int .u64 (sh6 st).1) = q := ⟨_, rfl⟩
      have HI : Hid (Inv w w0 g (sh6 st).2 ⟨(sh1 st).1, (sh2 st).1, (sh4 st).1, ⟨(sh5 st).1, (sh6 st).1, [], []⟩⟩ v1 (.slice none 0 0) (.slice none 0 0) W6) := Lib.hid (by rw [← hW6]; exact HI6.out.next HGL.out _)
      go_wp2_with fail
      clear ck fk HI6 hW6
      have hcal : Calls Try.prog _ _ _ (NumE w0 g (sh7 st) (.int .i64 (sh7 st).1) _) := many_any w0 g (sh6 st).2 _ HI.out.2.2.2.2.2.1 (HI.out.2.2.2.2.2.2.below HBW.out HBW.out.size (fun q hq => hq ▸ HG.out))
      refine hcal.mono ?_
      clear hcal
      rintro E u7 ⟨rfl, hrk, hok, -⟩
      have HI7 := Lib.hid (HI.out.call HGL.out hrk hok)
      clear hrk hok HI
      obtain ⟨K7, hK7⟩ : ∃ K : Nat, (sh7 st).1 = (K : Int) ∧ (sh7 st).1.toNat = K := ⟨(sh7 st).1.toNat, by have := (pnum_bd 64 (by decide) (sh6 st).2).1; have e : (sh7 st).1 = (pnum 64 (sh6 st).2).1 := rfl; omega, rfl⟩
      have hle7 : K7 ≤ 64 := by have := (pnum_bd 64 (by decide) (sh6 st).2).2; have e : (sh7 st).1 = (pnum 64 (sh6 st).2).1 := rfl; have := hK7.1; omega
      have HK7 := Lib.hid hK7.2
      rw [hK7.1]
      have HI := HI7
      clear hK7 HI7
      go_wp2_with fail
      have HIK := HI
      clear HI
      go_loopw [34] (fun i wr => ∃ (k : Nat) (vx : Value), k ≤ K7 ∧ i = .int .i64 k ∧ Hid (Inv w w0 g (listS heldS k (sh7 st).2).2 ⟨(sh1 st).1, (sh2 st).1, (sh4 st).1, ⟨(sh5 st).1, (sh6 st).1, (listS heldS k (sh7 st).2).1, []⟩⟩ v1 vx (.slice none 0 0) wr)) (fun i _ => K7 - (intOf i).toNat)
      case atStart => exact ⟨0, (.slice none 0 0), Nat.zero_le _, rfl, HIK⟩
      case round =>
        clear HIK
        obtain ⟨k, vx, hk, rfl, HI⟩ := hrel
        by_cases hlt : k < K7
        · rcases hL : listS heldS k (sh7 st).2 with ⟨lk, stk⟩
          have HLK := Lib.hid hL
          have HLEN : Hid (lk.length ≤ 64) := Lib.hid (by have q := listS_len heldS k (sh7 st).2; rw [hL] at q; simp only [] at q; omega)
          rw [hL] at HI
          clear hL
          rcases hfx : heldS stk with ⟨⟨n0, n1, n2, n3, n4⟩, stn⟩
          have HFX := Lib.hid hfx
          clear hfx
          have HNX : Hid (listS heldS (k + 1) (sh7 st).2 = (lk ++ [(⟨n0, n1, n2, n3, n4⟩ : Held)], stn)) := Lib.hid (by rw [listS, HLK.out]; simp only [HFX.out])
          have hkz : (k : Int) < (K7 : Int) := by omega
          go_upto_region 13 with (fail)
          have HI := Lib.hid (HI.out.drew)
          refine wp_region_held_drew (S := fun _ => True) (by kernel_rfl) trivial (fun hHeld => ?_)
          refine wpAnyH_take (i := 0) (v := .pointer (some ⟨(w.heap.size + 1), 3, none⟩)) rfl (by kernel_rfl) (by kernel_rfl) (by kernel_rfl) (fun _ _ _ h => h) (Or.inl ⟨by kernel_rfl, ?_⟩) (by assumption) ?_
          · intro wx hSw
            clear hSw hHeld
            go_simp
            try first | with_reducible rfl | kernel_rfl
          simp only [Act.put, List.getElem_toArray, List.getElem_cons_zero, List.setIfInBounds_toArray, List.set_cons_succ, List.set_cons_zero]
          refine wpAnyH_take (i := 1) (v := .pointer (some ⟨(w.heap.size + 1), 5, none⟩)) rfl (by kernel_rfl) (by kernel_rfl) (by kernel_rfl) (fun _ _ _ h => h) (Or.inl ⟨by kernel_rfl, ?_⟩) (by assumption) ?_
          · intro wx hSw
            clear hSw hHeld
            go_simp
            try first | with_reducible rfl | kernel_rfl
          simp only [Act.put, List.getElem_toArray, List.getElem_cons_succ, List.getElem_cons_zero, List.setIfInBounds_toArray, List.set_cons_succ, List.set_cons_zero]
          refine wpAnyH_take (i := 3) (v := .pointer (some ⟨g, 0, none⟩)) rfl (by kernel_rfl) (by kernel_rfl) (by kernel_rfl) (fun _ _ _ h => h) (Or.inl ⟨by kernel_rfl, ?_⟩) (by assumption) ?_
          · intro wx hSw
            clear hSw hHeld
            go_simp
            try first | with_reducible rfl | kernel_rfl
          simp only [Act.put, List.getElem_toArray, List.getElem_cons_succ, List.getElem_cons_zero, List.setIfInBounds_toArray, List.set_cons_succ, List.set_cons_zero]
          refine wpAnyH_ready (rs := [2, 4]) (by kernel_rfl) (by simp) ?_
          refine (AllReadyH.cons rfl (fun K hK => ?_) (AllReadyH.cons rfl (fun K hK => ?_) AllReadyH.nil))
          · have hci := (cell_of_row _ _ 5 _ _ _ HI.out.1).trans rfl
            go_simp
            clear hci
            refine hK.out _ _ trivial (fun hHeld => ?_)
            clear hK K hHeld
            refine wpAnyH_ready (rs := [4]) (by kernel_rfl) (by simp) ?_
            refine (AllReadyH.cons rfl (fun K hK => ?_) AllReadyH.nil)
            go_simp
            refine (rowE_h HFX.out (held_any w0 g stk _ HI.out.2.2.2.2.2.1 (HI.out.2.2.2.2.2.2.below HBW.out HBW.out.size (fun q hq => hq ▸ HG.out)) HG.out)).mono ?_
            rintro E wk ⟨rfl, hrk, hok⟩
            have HI := Lib.hid (HI.out.call HGL.out hrk hok)
            clear hrk hok
            refine hK.out _ _ trivial (fun hHeld => ?_)
            clear hK K hHeld
            refine wpAnyH_ready (rs := [5]) (by kernel_rfl) (by simp) ?_
            refine (AllReadyH.cons rfl (fun K hK => ?_) AllReadyH.nil)
            go_simp
            have HI := Lib.hid (HI.out.alloc HGL.out (.cells #[.int .i64 n0, .int .i64 n1, .int .u64 n2, .int .u64 n3, .int .u64 n4] 51))
            refine hK.out _ _ trivial (fun hHeld => ?_)
            clear hK K hHeld
            refine wpAnyH_ready (rs := [6]) (by kernel_rfl) (by simp) ?_
            refine (AllReadyH.cons rfl (fun K hK => ?_) AllReadyH.nil)
            refine stepRx heldC_len Try.underlying25 rfl (by decide) info_held rfl _ _ rfl w.heap.size vx _ rfl HI.out.2.2.2.1 _ [(⟨n0, n1, n2, n3, n4⟩ : Held)] rfl (SlR.one heldC_len _ _ rfl _ _ rfl) (by simp) (fun y hy u hu => heldC_one y u hu) (by have := HLEN.out; unfold maxLen; simp; omega) (by have := HLEN.out; simp; omega) HI.out.sz _ rfl ?_
            intro gq cq w' own' hgr hxx
            clear hxx
            obtain ⟨v', hv'⟩ : ∃ q, Value.slice (some ⟨gq, 0, none⟩) (lk.length + [(⟨n0, n1, n2, n3, n4⟩ : Held)].length) cq = q := ⟨_, rfl⟩
            rw [hv'] at own' ⊢
            clear hv'
            obtain ⟨ax, mx, qx, rfl⟩ := own_formx own'
            have HXR := Lib.hid (row_grown HI.out.1 HI.out.2.2.2.1 (by decide) hgr)
            have ck := (cell_of_row _ _ 5 _ _ _ HXR.out).trans rfl
            have fk : w'.frozen? ⟨w.heap.size + 1, 5, none⟩ = false := frozen_of_row _ _ 5 _ _ HXR.out
            obtain ⟨WS, hWS⟩ : ∃ q, w'.setCell ⟨w.heap.size + 1, 5, none⟩ (.slice ax mx qx) = q := ⟨_, rfl⟩
            have HI2 := Lib.hid (HI.out.apph HGL.out own' hgr)
            rw [hWS] at HI2
            clear own' hgr HXR
            refine hK.out _ _ trivial (fun hHeld => ?_)
            clear hK K
            refine wpAnyH_take (i := 7) (v := .pointer (some ⟨(w.heap.size + 1), 3, none⟩)) rfl (by kernel_rfl) (by kernel_rfl) (by kernel_rfl) (fun _ _ _ h => h) (Or.inl ⟨by kernel_rfl, ?_⟩) (by assumption) ?_
            · intro wx hSw
              clear hSw hHeld
              go_simp
              try first | with_reducible rfl | kernel_rfl
            simp only [Act.put, List.getElem_toArray, List.getElem_cons_succ, List.getElem_cons_zero, List.setIfInBounds_toArray, List.set_cons_succ, List.set_cons_zero]
            refine wpAnyH_take (i := 8) (v := .pointer (some ⟨(w.heap.size + 1), 5, none⟩)) rfl (by kernel_rfl) (by kernel_rfl) (by kernel_rfl) (fun _ _ _ h => h) (Or.inl ⟨by kernel_rfl, ?_⟩) (by assumption) ?_
            · intro wx hSw
              clear hSw hHeld
              go_simp
              try first | with_reducible rfl | kernel_rfl
            simp only [Act.put, List.getElem_toArray, List.getElem_cons_succ, List.getElem_cons_zero, List.setIfInBounds_toArray, List.set_cons_succ, List.set_cons_zero]
            clear hHeld
            refine wpAnyH_ready (rs := [9]) (by kernel_rfl) (by simp) ?_
            refine (AllReadyH.cons rfl (fun K hK => ?_) AllReadyH.nil)
            go_simp
            refine hK.out _ _ trivial (fun hHeld => ?_)
            clear hK K hHeld
            refine wpAnyH_done (by kernel_rfl) ?_ _
            clear ck fk
            go_wp2_with fail
            go_roundw
            case rel => exact ⟨k + 1, _, by omega, by go_num, Lib.hid (by rw [HNX.out]; exact HI2.out)⟩
            case measure => simp [intOf]; omega
          · go_simp
            refine (rowE_h HFX.out (held_any w0 g stk _ HI.out.2.2.2.2.2.1 (HI.out.2.2.2.2.2.2.below HBW.out HBW.out.size (fun q hq => hq ▸ HG.out)) HG.out)).mono ?_
            rintro E wk ⟨rfl, hrk, hok⟩
            have HI := Lib.hid (HI.out.call HGL.out hrk hok)
            clear hrk hok
            refine hK.out _ _ trivial (fun hHeld => ?_)
            clear hK K hHeld
            refine wpAnyH_ready (rs := [2, 5]) (by kernel_rfl) (by simp) ?_
            refine (AllReadyH.cons rfl (fun K hK => ?_) (AllReadyH.cons rfl (fun K hK => ?_) AllReadyH.nil))
            · have hci := (cell_of_row _ _ 5 _ _ _ HI.out.1).trans rfl
              go_simp
              clear hci
              refine hK.out _ _ trivial (fun hHeld => ?_)
              clear hK K hHeld
              refine wpAnyH_ready (rs := [5]) (by kernel_rfl) (by simp) ?_
              refine (AllReadyH.cons rfl (fun K hK => ?_) AllReadyH.nil)
              go_simp
              have HI := Lib.hid (HI.out.alloc HGL.out (.cells #[.int .i64 n0, .int .i64 n1, .int .u64 n2, .int .u64 n3, .int .u64 n4] 51))
              refine hK.out _ _ trivial (fun hHeld => ?_)
              clear hK K hHeld
              refine wpAnyH_ready (rs := [6]) (by kernel_rfl) (by simp) ?_
              refine (AllReadyH.cons rfl (fun K hK => ?_) AllReadyH.nil)
              refine stepRx heldC_len Try.underlying25 rfl (by decide) info_held rfl _ _ rfl w.heap.size vx _ rfl HI.out.2.2.2.1 _ [(⟨n0, n1, n2, n3, n4⟩ : Held)] rfl (SlR.one heldC_len _ _ rfl _ _ rfl) (by simp) (fun y hy u hu => heldC_one y u hu) (by have := HLEN.out; unfold maxLen; simp; omega) (by have := HLEN.out; simp; omega) HI.out.sz _ rfl ?_
              intro gq cq w' own' hgr hxx
              clear hxx
              obtain ⟨v', hv'⟩ : ∃ q, Value.slice (some ⟨gq, 0, none⟩) (lk.length + [(⟨n0, n1, n2, n3, n4⟩ : Held)].length) cq = q := ⟨_, rfl⟩
              rw [hv'] at own' ⊢
              clear hv'
              obtain ⟨ax, mx, qx, rfl⟩ := own_formx own'
              have HXR := Lib.hid (row_grown HI.out.1 HI.out.2.2.2.1 (by decide) hgr)
              have ck := (cell_of_row _ _ 5 _ _ _ HXR.out).trans rfl
              have fk : w'.frozen? ⟨w.heap.size + 1, 5, none⟩ = false := frozen_of_row _ _ 5 _ _ HXR.out
              obtain ⟨WS, hWS⟩ : ∃ q, w'.setCell ⟨w.heap.size + 1, 5, none⟩ (.slice ax mx qx) = q := ⟨_, rfl⟩
              have HI2 := Lib.hid (HI.out.apph HGL.out own' hgr)
              rw [hWS] at HI2
              clear own' hgr HXR
              refine hK.out _ _ trivial (fun hHeld => ?_)
              clear hK K
              refine wpAnyH_take (i := 7) (v := .pointer (some ⟨(w.heap.size + 1), 3, none⟩)) rfl (by kernel_rfl) (by kernel_rfl) (by kernel_rfl) (fun _ _ _ h => h) (Or.inl ⟨by kernel_rfl, ?_⟩) (by assumption) ?_
              · intro wx hSw
                clear hSw hHeld
                go_simp
                try first | with_reducible rfl | kernel_rfl
              simp only [Act.put, List.getElem_toArray, List.getElem_cons_succ, List.getElem_cons_zero, List.setIfInBounds_toArray, List.set_cons_succ, List.set_cons_zero]
              refine wpAnyH_take (i := 8) (v := .pointer (some ⟨(w.heap.size + 1), 5, none⟩)) rfl (by kernel_rfl) (by kernel_rfl) (by kernel_rfl) (fun _ _ _ h => h) (Or.inl ⟨by kernel_rfl, ?_⟩) (by assumption) ?_
              · intro wx hSw
                clear hSw hHeld
                go_simp
                try first | with_reducible rfl | kernel_rfl
              simp only [Act.put, List.getElem_toArray, List.getElem_cons_succ, List.getElem_cons_zero, List.setIfInBounds_toArray, List.set_cons_succ, List.set_cons_zero]
              clear hHeld
              refine wpAnyH_ready (rs := [9]) (by kernel_rfl) (by simp) ?_
              refine (AllReadyH.cons rfl (fun K hK => ?_) AllReadyH.nil)
              go_simp
              refine hK.out _ _ trivial (fun hHeld => ?_)
              clear hK K hHeld
              refine wpAnyH_done (by kernel_rfl) ?_ _
              clear ck fk
              go_wp2_with fail
              go_roundw
              case rel => exact ⟨k + 1, _, by omega, by go_num, Lib.hid (by rw [HNX.out]; exact HI2.out)⟩
              case measure => simp [intOf]; omega
            · go_simp
              have HI := Lib.hid (HI.out.alloc HGL.out (.cells #[.int .i64 n0, .int .i64 n1, .int .u64 n2, .int .u64 n3, .int .u64 n4] 51))
              refine hK.out _ _ trivial (fun hHeld => ?_)
              clear hK K hHeld
              refine wpAnyH_ready (rs := [2]) (by kernel_rfl) (by simp) ?_
              refine (AllReadyH.cons rfl (fun K hK => ?_) AllReadyH.nil)
              have hci := (cell_of_row _ _ 5 _ _ _ HI.out.1).trans rfl
              go_simp
              clear hci
              refine hK.out _ _ trivial (fun hHeld => ?_)
              clear hK K hHeld
              refine wpAnyH_ready (rs := [6]) (by kernel_rfl) (by simp) ?_
              refine (AllReadyH.cons rfl (fun K hK => ?_) AllReadyH.nil)
              refine stepRx heldC_len Try.underlying25 rfl (by decide) info_held rfl _ _ rfl w.heap.size vx _ rfl HI.out.2.2.2.1 _ [(⟨n0, n1, n2, n3, n4⟩ : Held)] rfl (SlR.one heldC_len _ _ rfl _ _ rfl) (by simp) (fun y hy u hu => heldC_one y u hu) (by have := HLEN.out; unfold maxLen; simp; omega) (by have := HLEN.out; simp; omega) HI.out.sz _ rfl ?_
              intro gq cq w' own' hgr hxx
              clear hxx
              obtain ⟨v', hv'⟩ : ∃ q, Value.slice (some ⟨gq, 0, none⟩) (lk.length + [(⟨n0, n1, n2, n3, n4⟩ : Held)].length) cq = q := ⟨_, rfl⟩
              rw [hv'] at own' ⊢
              clear hv'
              obtain ⟨ax, mx, qx, rfl⟩ := own_formx own'
              have HXR := Lib.hid (row_grown HI.out.1 HI.out.2.2.2.1 (by decide) hgr)
              have ck := (cell_of_row _ _ 5 _ _ _ HXR.out).trans rfl
              have fk : w'.frozen? ⟨w.heap.size + 1, 5, none⟩ = false := frozen_of_row _ _ 5 _ _ HXR.out
              obtain ⟨WS, hWS⟩ : ∃ q, w'.setCell ⟨w.heap.size + 1, 5, none⟩ (.slice ax mx qx) = q := ⟨_, rfl⟩
              have HI2 := Lib.hid (HI.out.apph HGL.out own' hgr)
              rw [hWS] at HI2
              clear own' hgr HXR
              refine hK.out _ _ trivial (fun hHeld => ?_)
              clear hK K
              refine wpAnyH_take (i := 7) (v := .pointer (some ⟨(w.heap.size + 1), 3, none⟩)) rfl (by kernel_rfl) (by kernel_rfl) (by kernel_rfl) (fun _ _ _ h => h) (Or.inl ⟨by kernel_rfl, ?_⟩) (by assumption) ?_
              · intro wx hSw
                clear hSw hHeld
                go_simp
                try first | with_reducible rfl | kernel_rfl
              simp only [Act.put, List.getElem_toArray, List.getElem_cons_succ, List.getElem_cons_zero, List.setIfInBounds_toArray, List.set_cons_succ, List.set_cons_zero]
              refine wpAnyH_take (i := 8) (v := .pointer (some ⟨(w.heap.size + 1), 5, none⟩)) rfl (by kernel_rfl) (by kernel_rfl) (by kernel_rfl) (fun _ _ _ h => h) (Or.inl ⟨by kernel_rfl, ?_⟩) (by assumption) ?_
              · intro wx hSw
                clear hSw hHeld
                go_simp
                try first | with_reducible rfl | kernel_rfl
              simp only [Act.put, List.getElem_toArray, List.getElem_cons_succ, List.getElem_cons_zero, List.setIfInBounds_toArray, List.set_cons_succ, List.set_cons_zero]
              clear hHeld
              refine wpAnyH_ready (rs := [9]) (by kernel_rfl) (by simp) ?_
              refine (AllReadyH.cons rfl (fun K hK => ?_) AllReadyH.nil)
              go_simp
              refine hK.out _ _ trivial (fun hHeld => ?_)
              clear hK K hHeld
              refine wpAnyH_done (by kernel_rfl) ?_ _
              clear ck fk
              go_wp2_with fail
              go_roundw
              case rel => exact ⟨k + 1, _, by omega, by go_num, Lib.hid (by rw [HNX.out]; exact HI2.out)⟩
              case measure => simp [intOf]; omega
        · obtain rfl : K7 = k := by omega
          have hkz : ¬ ((K7 : Int) < (K7 : Int)) := by omega
          have HI8 : Hid (Inv w w0 g (sh8 st).2 ⟨(sh1 st).1, (sh2 st).1, (sh4 st).1, ⟨(sh5 st).1, (sh6 st).1, (sh8 st).1, []⟩⟩ v1 vx (.slice none 0 0) wr) := Lib.hid (by have q := HI.out; rw [← HK7.out] at q; exact q)
          clear HI
          have HI := HI8
          clear HI8
          obtain ⟨v2, hv2⟩ : ∃ q, q = vx := ⟨_, rfl⟩
          rw [← hv2] at HI
          clear hv2 hlt
          go_wp2_with fail
          have hcal : Calls Try.prog _ _ _ (NumE w0 g (sh9 st) (.int .i64 (sh9 st).1) _) := many_any w0 g (sh8 st).2 _ HI.out.2.2.2.2.2.1 (HI.out.2.2.2.2.2.2.below HBW.out HBW.out.size (fun q hq => hq ▸ HG.out))
          refine hcal.mono ?_
          clear hcal
          rintro E u9 ⟨rfl, hrk, hok, -⟩
          have HI9 := Lib.hid (HI.out.call HGL.out hrk hok)
          clear hrk hok HI
          obtain ⟨K9, hK9⟩ : ∃ K : Nat, (sh9 st).1 = (K : Int) ∧ (sh9 st).1.toNat = K := ⟨(sh9 st).1.toNat, by have := (pnum_bd 64 (by decide) (sh8 st).2).1; have e : (sh9 st).1 = (pnum 64 (sh8 st).2).1 := rfl; omega, rfl⟩
          have hle9 : K9 ≤ 64 := by have := (pnum_bd 64 (by decide) (sh8 st).2).2; have e : (sh9 st).1 = (pnum 64 (sh8 st).2).1 := rfl; have := hK9.1; omega
          have HK9 := Lib.hid hK9.2
          rw [hK9.1]
          have HI := HI9
          clear hK9 HI9
          go_wp2_with fail
          have HIK := HI
          clear HI
          go_loopw [48] (fun i wr => ∃ (k : Nat) (vx : Value), k ≤ K9 ∧ i = .int .i64 k ∧ Hid (Inv w w0 g (listS lastS k (sh9 st).2).2 ⟨(sh1 st).1, (sh2 st).1, (sh4 st).1, ⟨(sh5 st).1, (sh6 st).1, (sh8 st).1, (listS lastS k (sh9 st).2).1⟩⟩ v1 v2 vx wr)) (fun i _ => K9 - (intOf i).toNat)
          case atStart => exact ⟨0, (.slice none 0 0), Nat.zero_le _, rfl, HIK⟩
          case round =>
            clear HIK
            obtain ⟨k, vx, hk, rfl, HI⟩ := hrel
            by_cases hlt : k < K9
            · rcases hL : listS lastS k (sh9 st).2 with ⟨lk, stk⟩
              have HLK := Lib.hid hL
              have HLEN : Hid (lk.length ≤ 64) := Lib.hid (by have q := listS_len lastS k (sh9 st).2; rw [hL] at q; simp only [] at q; omega)
              rw [hL] at HI
              clear hL
              rcases hfx : lastS stk with ⟨⟨n0, n1, n2, n3, n4, n5⟩, stn⟩
              have HFX := Lib.hid hfx
              clear hfx
              have HNX : Hid (listS lastS (k + 1) (sh9 st).2 = (lk ++ [(⟨n0, n1, n2, n3, n4, n5⟩ : LastR)], stn)) := Lib.hid (by rw [listS, HLK.out]; simp only [HFX.out])
              have hkz : (k : Int) < (K9 : Int) := by omega
              go_upto_region 17 with (fail)
              have HI := Lib.hid (HI.out.drew)
              refine wp_region_held_drew (S := fun _ => True) (by kernel_rfl) trivial (fun hHeld => ?_)
              refine wpAnyH_take (i := 0) (v := .pointer (some ⟨(w.heap.size + 1), 3, none⟩)) rfl (by kernel_rfl) (by kernel_rfl) (by kernel_rfl) (fun _ _ _ h => h) (Or.inl ⟨by kernel_rfl, ?_⟩) (by assumption) ?_
              · intro wx hSw
                clear hSw hHeld
                go_simp
                try first | with_reducible rfl | kernel_rfl
              simp only [Act.put, List.getElem_toArray, List.getElem_cons_zero, List.setIfInBounds_toArray, List.set_cons_succ, List.set_cons_zero]
              refine wpAnyH_take (i := 1) (v := .pointer (some ⟨(w.heap.size + 1), 6, none⟩)) rfl (by kernel_rfl) (by kernel_rfl) (by kernel_rfl) (fun _ _ _ h => h) (Or.inl ⟨by kernel_rfl, ?_⟩) (by assumption) ?_
              · intro wx hSw
                clear hSw hHeld
                go_simp
                try first | with_reducible rfl | kernel_rfl
              simp only [Act.put, List.getElem_toArray, List.getElem_cons_succ, List.getElem_cons_zero, List.setIfInBounds_toArray, List.set_cons_succ, List.set_cons_zero]
              refine wpAnyH_take (i := 3) (v := .pointer (some ⟨g, 0, none⟩)) rfl (by kernel_rfl) (by kernel_rfl) (by kernel_rfl) (fun _ _ _ h => h) (Or.inl ⟨by kernel_rfl, ?_⟩) (by assumption) ?_
              · intro wx hSw
                clear hSw hHeld
                go_simp
                try first | with_reducible rfl | kernel_rfl
              simp only [Act.put, List.getElem_toArray, List.getElem_cons_succ, List.getElem_cons_zero, List.setIfInBounds_toArray, List.set_cons_succ, List.set_cons_zero]
              refine wpAnyH_ready (rs := [2, 4]) (by kernel_rfl) (by simp) ?_
              refine (AllReadyH.cons rfl (fun K hK => ?_) (AllReadyH.cons rfl (fun K hK => ?_) AllReadyH.nil))
              · have hci := (cell_of_row _ _ 6 _ _ _ HI.out.1).trans rfl
                go_simp
                clear hci
                refine hK.out _ _ trivial (fun hHeld => ?_)
                clear hK K hHeld
                refine wpAnyH_ready (rs := [4]) (by kernel_rfl) (by simp) ?_
                refine (AllReadyH.cons rfl (fun K hK => ?_) AllReadyH.nil)
                go_simp
                refine (rowE_l HFX.out (last_any w0 g stk _ HI.out.2.2.2.2.2.1 (HI.out.2.2.2.2.2.2.below HBW.out HBW.out.size (fun q hq => hq ▸ HG.out)) HG.out)).mono ?_
                rintro E wk ⟨rfl, hrk, hok⟩
                have HI := Lib.hid (HI.out.call HGL.out hrk hok)
                clear hrk hok
                refine hK.out _ _ trivial (fun hHeld => ?_)
                clear hK K hHeld
                refine wpAnyH_ready (rs := [5]) (by kernel_rfl) (by simp) ?_
                refine (AllReadyH.cons rfl (fun K hK => ?_) AllReadyH.nil)
                go_simp
                have HI := Lib.hid (HI.out.alloc HGL.out (.cells #[.int .i64 n0, .int .u64 n1, .int .u64 n2, .int .i64 n3, .int .i64 n4, .int .u64 n5] 56))
                refine hK.out _ _ trivial (fun hHeld => ?_)
                clear hK K hHeld
                refine wpAnyH_ready (rs := [6]) (by kernel_rfl) (by simp) ?_
                refine (AllReadyH.cons rfl (fun K hK => ?_) AllReadyH.nil)
                refine stepRx lastC_len Try.underlying26 rfl (by decide) info_last rfl _ _ rfl w.heap.size vx _ rfl HI.out.2.2.2.2.1 _ [(⟨n0, n1, n2, n3, n4, n5⟩ : LastR)] rfl (SlR.one lastC_len _ _ rfl _ _ rfl) (by simp) (fun y hy u hu => lastC_one y u hu) (by have := HLEN.out; unfold maxLen; simp; omega) (by have := HLEN.out; simp; omega) HI.out.sz _ rfl ?_
                intro gq cq w' own' hgr hxx
                clear hxx
                obtain ⟨v', hv'⟩ : ∃ q, Value.slice (some ⟨gq, 0, none⟩) (lk.length + [(⟨n0, n1, n2, n3, n4, n5⟩ : LastR)].length) cq = q := ⟨_, rfl⟩
                rw [hv'] at own' ⊢
                clear hv'
                obtain ⟨ax, mx, qx, rfl⟩ := own_formx own'
                have HXR := Lib.hid (row_grown HI.out.1 HI.out.2.2.2.2.1 (by decide) hgr)
                have ck := (cell_of_row _ _ 6 _ _ _ HXR.out).trans rfl
                have fk : w'.frozen? ⟨w.heap.size + 1, 6, none⟩ = false := frozen_of_row _ _ 6 _ _ HXR.out
                obtain ⟨WS, hWS⟩ : ∃ q, w'.setCell ⟨w.heap.size + 1, 6, none⟩ (.slice ax mx qx) = q := ⟨_, rfl⟩
                have HI2 := Lib.hid (HI.out.appl HGL.out own' hgr)
                rw [hWS] at HI2
                clear own' hgr HXR
                refine hK.out _ _ trivial (fun hHeld => ?_)
                clear hK K
                refine wpAnyH_take (i := 7) (v := .pointer (some ⟨(w.heap.size + 1), 3, none⟩)) rfl (by kernel_rfl) (by kernel_rfl) (by kernel_rfl) (fun _ _ _ h => h) (Or.inl ⟨by kernel_rfl, ?_⟩) (by assumption) ?_
                · intro wx hSw
                  clear hSw hHeld
                  go_simp
                  try first | with_reducible rfl | kernel_rfl
                simp only [Act.put, List.getElem_toArray, List.getElem_cons_succ, List.getElem_cons_zero, List.setIfInBounds_toArray, List.set_cons_succ, List.set_cons_zero]
                refine wpAnyH_take (i := 8) (v := .pointer (some ⟨(w.heap.size + 1), 6, none⟩)) rfl (by kernel_rfl) (by kernel_rfl) (by kernel_rfl) (fun _ _ _ h => h) (Or.inl ⟨by kernel_rfl, ?_⟩) (by assumption) ?_
                · intro wx hSw
                  clear hSw hHeld
                  go_simp
                  try first | with_reducible rfl | kernel_rfl
                simp only [Act.put, List.getElem_toArray, List.getElem_cons_succ, List.getElem_cons_zero, List.setIfInBounds_toArray, List.set_cons_succ, List.set_cons_zero]
                clear hHeld
                refine wpAnyH_ready (rs := [9]) (by kernel_rfl) (by simp) ?_
                refine (AllReadyH.cons rfl (fun K hK => ?_) AllReadyH.nil)
                go_simp
                refine hK.out _ _ trivial (fun hHeld => ?_)
                clear hK K hHeld
                refine wpAnyH_done (by kernel_rfl) ?_ _
                clear ck fk
                go_wp2_with fail
                go_roundw
                case rel => exact ⟨k + 1, _, by omega, by go_num, Lib.hid (by rw [HNX.out]; exact HI2.out)⟩
                case measure => simp [intOf]; omega
              · go_simp
                refine (rowE_l HFX.out (last_any w0 g stk _ HI.out.2.2.2.2.2.1 (HI.out.2.2.2.2.2.2.below HBW.out HBW.out.size (fun q hq => hq ▸ HG.out)) HG.out)).mono ?_
                rintro E wk ⟨rfl, hrk, hok⟩
                have HI := Lib.hid (HI.out.call HGL.out hrk hok)
                clear hrk hok
                refine hK.out _ _ trivial (fun hHeld => ?_)
                clear hK K hHeld
                refine wpAnyH_ready (rs := [2, 5]) (by kernel_rfl) (by simp) ?_
                refine (AllReadyH.cons rfl (fun K hK => ?_) (AllReadyH.cons rfl (fun K hK => ?_) AllReadyH.nil))
                · have hci := (cell_of_row _ _ 6 _ _ _ HI.out.1).trans rfl
                  go_simp
                  clear hci
                  refine hK.out _ _ trivial (fun hHeld => ?_)
                  clear hK K hHeld
                  refine wpAnyH_ready (rs := [5]) (by kernel_rfl) (by simp) ?_
                  refine (AllReadyH.cons rfl (fun K hK => ?_) AllReadyH.nil)
                  go_simp
                  have HI := Lib.hid (HI.out.alloc HGL.out (.cells #[.int .i64 n0, .int .u64 n1, .int .u64 n2, .int .i64 n3, .int .i64 n4, .int .u64 n5] 56))
                  refine hK.out _ _ trivial (fun hHeld => ?_)
                  clear hK K hHeld
                  refine wpAnyH_ready (rs := [6]) (by kernel_rfl) (by simp) ?_
                  refine (AllReadyH.cons rfl (fun K hK => ?_) AllReadyH.nil)
                  refine stepRx lastC_len Try.underlying26 rfl (by decide) info_last rfl _ _ rfl w.heap.size vx _ rfl HI.out.2.2.2.2.1 _ [(⟨n0, n1, n2, n3, n4, n5⟩ : LastR)] rfl (SlR.one lastC_len _ _ rfl _ _ rfl) (by simp) (fun y hy u hu => lastC_one y u hu) (by have := HLEN.out; unfold maxLen; simp; omega) (by have := HLEN.out; simp; omega) HI.out.sz _ rfl ?_
                  intro gq cq w' own' hgr hxx
                  clear hxx
                  obtain ⟨v', hv'⟩ : ∃ q, Value.slice (some ⟨gq, 0, none⟩) (lk.length + [(⟨n0, n1, n2, n3, n4, n5⟩ : LastR)].length) cq = q := ⟨_, rfl⟩
                  rw [hv'] at own' ⊢
                  clear hv'
                  obtain ⟨ax, mx, qx, rfl⟩ := own_formx own'
                  have HXR := Lib.hid (row_grown HI.out.1 HI.out.2.2.2.2.1 (by decide) hgr)
                  have ck := (cell_of_row _ _ 6 _ _ _ HXR.out).trans rfl
                  have fk : w'.frozen? ⟨w.heap.size + 1, 6, none⟩ = false := frozen_of_row _ _ 6 _ _ HXR.out
                  obtain ⟨WS, hWS⟩ : ∃ q, w'.setCell ⟨w.heap.size + 1, 6, none⟩ (.slice ax mx qx) = q := ⟨_, rfl⟩
                  have HI2 := Lib.hid (HI.out.appl HGL.out own' hgr)
                  rw [hWS] at HI2
                  clear own' hgr HXR
                  refine hK.out _ _ trivial (fun hHeld => ?_)
                  clear hK K
                  refine wpAnyH_take (i := 7) (v := .pointer (some ⟨(w.heap.size + 1), 3, none⟩)) rfl (by kernel_rfl) (by kernel_rfl) (by kernel_rfl) (fun _ _ _ h => h) (Or.inl ⟨by kernel_rfl, ?_⟩) (by assumption) ?_
                  · intro wx hSw
                    clear hSw hHeld
                    go_simp
                    try first | with_reducible rfl | kernel_rfl
                  simp only [Act.put, List.getElem_toArray, List.getElem_cons_succ, List.getElem_cons_zero, List.setIfInBounds_toArray, List.set_cons_succ, List.set_cons_zero]
                  refine wpAnyH_take (i := 8) (v := .pointer (some ⟨(w.heap.size + 1), 6, none⟩)) rfl (by kernel_rfl) (by kernel_rfl) (by kernel_rfl) (fun _ _ _ h => h) (Or.inl ⟨by kernel_rfl, ?_⟩) (by assumption) ?_
                  · intro wx hSw
                    clear hSw hHeld
                    go_simp
                    try first | with_reducible rfl | kernel_rfl
                  simp only [Act.put, List.getElem_toArray, List.getElem_cons_succ, List.getElem_cons_zero, List.setIfInBounds_toArray, List.set_cons_succ, List.set_cons_zero]
                  clear hHeld
                  refine wpAnyH_ready (rs := [9]) (by kernel_rfl) (by simp) ?_
                  refine (AllReadyH.cons rfl (fun K hK => ?_) AllReadyH.nil)
                  go_simp
                  refine hK.out _ _ trivial (fun hHeld => ?_)
                  clear hK K hHeld
                  refine wpAnyH_done (by kernel_rfl) ?_ _
                  clear ck fk
                  go_wp2_with fail
                  go_roundw
                  case rel => exact ⟨k + 1, _, by omega, by go_num, Lib.hid (by rw [HNX.out]; exact HI2.out)⟩
                  case measure => simp [intOf]; omega
                · go_simp
                  have HI := Lib.hid (HI.out.alloc HGL.out (.cells #[.int .i64 n0, .int .u64 n1, .int .u64 n2, .int .i64 n3, .int .i64 n4, .int .u64 n5] 56))
                  refine hK.out _ _ trivial (fun hHeld => ?_)
                  clear hK K hHeld
                  refine wpAnyH_ready (rs := [2]) (by kernel_rfl) (by simp) ?_
                  refine (AllReadyH.cons rfl (fun K hK => ?_) AllReadyH.nil)
                  have hci := (cell_of_row _ _ 6 _ _ _ HI.out.1).trans rfl
                  go_simp
                  clear hci
                  refine hK.out _ _ trivial (fun hHeld => ?_)
                  clear hK K hHeld
                  refine wpAnyH_ready (rs := [6]) (by kernel_rfl) (by simp) ?_
                  refine (AllReadyH.cons rfl (fun K hK => ?_) AllReadyH.nil)
                  refine stepRx lastC_len Try.underlying26 rfl (by decide) info_last rfl _ _ rfl w.heap.size vx _ rfl HI.out.2.2.2.2.1 _ [(⟨n0, n1, n2, n3, n4, n5⟩ : LastR)] rfl (SlR.one lastC_len _ _ rfl _ _ rfl) (by simp) (fun y hy u hu => lastC_one y u hu) (by have := HLEN.out; unfold maxLen; simp; omega) (by have := HLEN.out; simp; omega) HI.out.sz _ rfl ?_
                  intro gq cq w' own' hgr hxx
                  clear hxx
                  obtain ⟨v', hv'⟩ : ∃ q, Value.slice (some ⟨gq, 0, none⟩) (lk.length + [(⟨n0, n1, n2, n3, n4, n5⟩ : LastR)].length) cq = q := ⟨_, rfl⟩
                  rw [hv'] at own' ⊢
                  clear hv'
                  obtain ⟨ax, mx, qx, rfl⟩ := own_formx own'
                  have HXR := Lib.hid (row_grown HI.out.1 HI.out.2.2.2.2.1 (by decide) hgr)
                  have ck := (cell_of_row _ _ 6 _ _ _ HXR.out).trans rfl
                  have fk : w'.frozen? ⟨w.heap.size + 1, 6, none⟩ = false := frozen_of_row _ _ 6 _ _ HXR.out
                  obtain ⟨WS, hWS⟩ : ∃ q, w'.setCell ⟨w.heap.size + 1, 6, none⟩ (.slice ax mx qx) = q := ⟨_, rfl⟩
                  have HI2 := Lib.hid (HI.out.appl HGL.out own' hgr)
                  rw [hWS] at HI2
                  clear own' hgr HXR
                  refine hK.out _ _ trivial (fun hHeld => ?_)
                  clear hK K
                  refine wpAnyH_take (i := 7) (v := .pointer (some ⟨(w.heap.size + 1), 3, none⟩)) rfl (by kernel_rfl) (by kernel_rfl) (by kernel_rfl) (fun _ _ _ h => h) (Or.inl ⟨by kernel_rfl, ?_⟩) (by assumption) ?_
                  · intro wx hSw
                    clear hSw hHeld
                    go_simp
                    try first | with_reducible rfl | kernel_rfl
                  simp only [Act.put, List.getElem_toArray, List.getElem_cons_succ, List.getElem_cons_zero, List.setIfInBounds_toArray, List.set_cons_succ, List.set_cons_zero]
                  refine wpAnyH_take (i := 8) (v := .pointer (some ⟨(w.heap.size + 1), 6, none⟩)) rfl (by kernel_rfl) (by kernel_rfl) (by kernel_rfl) (fun _ _ _ h => h) (Or.inl ⟨by kernel_rfl, ?_⟩) (by assumption) ?_
                  · intro wx hSw
                    clear hSw hHeld
                    go_simp
                    try first | with_reducible rfl | kernel_rfl
                  simp only [Act.put, List.getElem_toArray, List.getElem_cons_succ, List.getElem_cons_zero, List.setIfInBounds_toArray, List.set_cons_succ, List.set_cons_zero]
                  clear hHeld
                  refine wpAnyH_ready (rs := [9]) (by kernel_rfl) (by simp) ?_
                  refine (AllReadyH.cons rfl (fun K hK => ?_) AllReadyH.nil)
                  go_simp
                  refine hK.out _ _ trivial (fun hHeld => ?_)
                  clear hK K hHeld
                  refine wpAnyH_done (by kernel_rfl) ?_ _
                  clear ck fk
                  go_wp2_with fail
                  go_roundw
                  case rel => exact ⟨k + 1, _, by omega, by go_num, Lib.hid (by rw [HNX.out]; exact HI2.out)⟩
                  case measure => simp [intOf]; omega
            · obtain rfl : K9 = k := by omega
              have hkz : ¬ ((K9 : Int) < (K9 : Int)) := by omega
              have HIE : Hid (Inv w w0 g (shotS st).2 (shotS st).1 v1 v2 vx wr) := Lib.hid (by have q := HI.out; rw [← HK9.out] at q; exact q)
              obtain ⟨a1, m1, q1, rfl⟩ := own_formx HIE.out.2.2.1
              obtain ⟨a2, m2, q2, rfl⟩ := own_formx HIE.out.2.2.2.1
              obtain ⟨a3, m3, q3, rfl⟩ := own_formx HIE.out.2.2.2.2.1
              clear HI
              obtain ⟨S, hS⟩ : ∃ q, (shotS st).1 = q := ⟨_, rfl⟩
              obtain ⟨stE, hstE⟩ : ∃ q, (shotS st).2 = q := ⟨_, rfl⟩
              rw [hS, hstE] at HIE
              have HSS := Lib.hid hS
              have HSE := Lib.hid hstE
              clear hS hstE
              have hone : (sArr S (.slice a1 m1 q1) (.slice a2 m2 q2) (.slice a3 m3 q3)).all (·.oneCell') = true := by simp [Value.oneCell']
              obtain ⟨WZ, hWZ⟩ : ∃ q, wr.setRow w.heap.size (sArr S (.slice a1 m1 q1) (.slice a2 m2 q2) (.slice a3 m3 q3)) = q := ⟨_, rfl⟩
              have HQZ : Hid (WZ.heap[w.heap.size]? = some (.cells (sArr S (.slice a1 m1 q1) (.slice a2 m2 q2) (.slice a3 m3 q3)) 30 (0, 0))) := Lib.hid (by rw [← hWZ]; exact setRow_heap _ _ _ _ _ _ HIE.out.2.1)
              have HZ : Hid (OwnI WZ w.heap.size (.slice a1 m1 q1) S.nodes ∧ OwnR 5 heldC 51 WZ w.heap.size (.slice a2 m2 q2) S.led.held ∧ OwnR 6 lastC 56 WZ w.heap.size (.slice a3 m3 q3) S.led.last ∧ RdS w0 g stE WZ ∧ Only (· = g) w WZ) := Lib.hid (by
                have hx : Only (· = w.heap.size) wr WZ := by rw [← hWZ]; exact only_row _ _ _
                have hb : ∀ q, q < wr.heap.size → q ≠ w.heap.size → WZ.heap[q]? = wr.heap[q]? := fun q hq hn => hx.2.2.2.2 q hq hn
                obtain ⟨h1, h2, h3, h4, h5, h6, h7⟩ := HIE.out
                exact ⟨own_blk h3 (own_ty h3 h2 (by decide)) hb, own_blk h4 (own_ty h4 h2 (by decide)) hb, own_blk h5 (own_ty h5 h2 (by decide)) hb, h6.only hx (by have := HGL.out; omega), only_new h7 (Only.refl _ _) hx (Nat.le_refl _)⟩)
              have HRG : Hid (wr.heap[w.heap.size + 1]? = some (.cells (sArr S (.slice a1 m1 q1) (.slice a2 m2 q2) (.slice a3 m3 q3)) 30 (0, 0))) := Lib.hid HIE.out.1
              have HRQ : Hid (wr.heap[w.heap.size]? = some (.cells zSA 30 (0, 0))) := Lib.hid HIE.out.2.1
              go_wp2_with (first
                | (with_reducible refine wpList_load_row rfl 30 (.tmp 3) rfl (w.heap.size + 1) rfl 30 (sArr S (.slice a1 m1 q1) (.slice a2 m2 q2) (.slice a3 m3 q3)) (0, 0) _ HRG.out Try.underlying30 rfl (by kernel_rfl) ?_)
                | (with_reducible refine wpList_store_row rfl 30 (.tmp 2) (.tmp 60) rfl w.heap.size (sArr S (.slice a1 m1 q1) (.slice a2 m2 q2) (.slice a3 m3 q3)) rfl rfl 30 _ HRQ.out (by kernel_rfl) rfl hone ?_; rw [hWZ]; clear hWZ))
              refine bodyPost_ret (v := .agg (sArr S (.slice a1 m1 q1) (.slice a2 m2 q2) (.slice a3 m3 q3))) (results_cell_row rfl _ _ w.heap.size 30 _ (0, 0) _ rfl HQZ.out Try.underlying30 rfl (by kernel_rfl)) rfl ?_
              obtain ⟨z1, z2, z3, z4, z5⟩ := HZ.out
              exact ⟨_, _, _, by rw [HSS.out], by rw [HSS.out]; exact z1, by rw [HSS.out]; exact z2, by rw [HSS.out]; exact z3, by rw [HSE.out]; exact z4, z5⟩
end Sc
end Go.Proofs.Ytpdhndldfmhaeaa
