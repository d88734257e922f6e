/- Numbers written behind bytes of the call's own: shot.put. No condition but a bound of size. -/
import Derived.Test.YtpdhndldfmhaeaaNum
import Derived.Test.YtpdhndldfmhaeaaShC
namespace Go.Proofs.Ytpdhndldfmhaeaa
open Go.ChangeShapes Go.WideShapes Go.ChangeAt Go.RowKit
set_option linter.unusedVariables false
set_option maxRecDepth 100000
namespace Sc
open Cm Nm
/-- no block but of bytes changes -/
def ByT (w w' : World) : Prop := ∀ (q : Nat) (cs : Array Value) (t : TypeId) (fr : Nat × Nat), w.heap[q]? = some (Obj.cells cs t fr) → t ≠ 5 → w'.heap[q]? = some (Obj.cells cs t fr)
theorem ByT.refl (w : World) : ByT w w := fun q cs t fr h _ => h
theorem ByT.trans {a b c : World} (h : ByT a b) (k : ByT b c) : ByT a c := fun q cs t fr hq ht => k q cs t fr (h q cs t fr hq ht) ht
theorem row_lt {w : World} {q : Nat} {o : Obj} (h : w.heap[q]? = some o) : q < w.heap.size := (Array.getElem?_eq_some_iff.1 h).1
theorem ByT.of {w w' : World} (h : Below w.heap.size w w') : ByT w w' := fun q cs t fr hq _ => (h.block q (row_lt hq)).trans hq
theorem ByT.alloc (w : World) (o : Obj) : ByT w (w.alloc o) := ByT.of ((Below.refl _ _).alloc (Nat.le_refl _) _)
theorem own_ty {w : World} {B e sz n g : Nat} {v : Value} {xs : List Value} {cs : Array Value} {t : TypeId} {fr : Nat × Nat} (h : w.ownsRow B e sz v n xs) (hg : w.heap[g]? = some (.cells cs t fr)) (hne : e ≠ t) : ∀ q, v.ownBlock = some q → q ≠ g := by
  intro q hq hn
  subst hn
  rcases h.2 with ⟨rfl, -⟩ | ⟨q2, cap, cur, rfl, -, hh, -⟩
  · cases hq
  · obtain rfl : q2 = q := by simpa [Value.ownBlock] using hq
    rw [hg] at hh
    simp only [Option.some.injEq, Obj.cells.injEq] at hh
    exact hne hh.2.1.symm
theorem ByT.grown {w w' : World} {B : Nat} {v : Value} {zs : List Int} (h : Own w B v zs) (hg : w.grownBy w' v.ownBlock) : ByT w w' := fun q cs t fr hq ht => by
  rw [hg.block q (row_lt hq) (fun e => own_ty h hq (fun e2 => ht e2.symm) q e.symm rfl)]
  exact hq
theorem below_grown {w w' : World} {B : Nat} {v : Value} {zs : List Int} (h : Own w B v zs) (hB : B ≤ w.heap.size) (hg : w.grownBy w' v.ownBlock) : Below B w w' :=
  ⟨hg.os, hg.tape, hg.output, hg.size, fun q hq => hg.block q (Nat.lt_of_lt_of_le hq hB) (fun e => by
    have := (World.ownsRow.lt h q e.symm).1
    omega)⟩
/-- bytes of the call's own, longer; no block but of bytes has changed -/
def Longr (B : Nat) (zs : List Int) (w : World) (e : Ending) (w' : World) : Prop := ∃ v, e = .returned v ∧ Own w' B v zs ∧ Below B w w' ∧ ByT w w'
/-- a row's numbers -/
def heldNs (x : Held) : List Int := [x.token, x.node, x.boot, x.serial, x.stamp]
def lastNs (x : LastR) : List Int := [x.node, x.boot, x.seq, x.code, x.token, x.serial]
def heldsNs (l : List Held) : List Int := l.flatMap heldNs
def lastsNs (l : List LastR) : List Int := l.flatMap lastNs
theorem heldsNs_snoc (l : List Held) (x : Held) : heldsNs (l ++ [x]) = heldsNs l ++ heldNs x := by simp [heldsNs]
theorem lastsNs_snoc (l : List LastR) (x : LastR) : lastsNs (l ++ [x]) = lastsNs l ++ lastNs x := by simp [lastsNs]
/-- a snapshot's numbers, as far as each part goes -/
def ns1 (s : Sho) : List Int := [s.index, s.term, (s.nodes.length : Int)]
def ns3 (s : Sho) : List Int := [s.led.limit, s.led.next, (s.led.held.length : Int)]
def shotNs (s : Sho) : List Int := ns1 s ++ s.nodes ++ ns3 s ++ heldsNs s.led.held ++ [(s.led.last.length : Int)] ++ lastsNs s.led.last
def shotB (s : Sho) : List Int := 83 :: encN (shotNs s)
theorem encN_app (a b : List Int) : encN (a ++ b) = encN a ++ encN b := by simp [encN]
theorem heldsNs_len (l : List Held) : (heldsNs l).length = 5 * l.length := by
  induction l with
  | nil => rfl
  | cons x l ih => simp only [heldsNs, List.flatMap_cons, List.length_append, List.length_cons] at ih ⊢; rw [ih]; simp [heldNs]; omega
theorem lastsNs_len (l : List LastR) : (lastsNs l).length = 6 * l.length := by
  induction l with
  | nil => rfl
  | cons x l ih => simp only [lastsNs, List.flatMap_cons, List.length_append, List.length_cons] at ih ⊢; rw [ih]; simp [lastNs]; omega
theorem held_pos {l : Led} (h : Ld.heldUp l l.held.length) : ∀ (j : Nat) (y : Held), l.held[j]? = some y → 1 ≤ y.token
  | 0, y, hy => by
    have hl := (List.getElem?_eq_some_iff.1 hy).1
    have := (h 0 y hl hy).1
    simp [Ld.bef_nil] at this
    omega
  | j + 1, y, hy => by
    have hl := (List.getElem?_eq_some_iff.1 hy).1
    have hx := List.getElem?_eq_getElem (show j < l.held.length by omega)
    have ih := held_pos h j _ hx
    have := (h (j + 1) y hl hy).1
    rw [List.take_add_one, hx] at this
    simp only [Option.toList_some] at this
    rw [Ld.bef_snoc] at this
    omega
theorem last_idx {l : Led} (h : Ld.lastUp l l.last.length) : ∀ (j : Nat) (y : LastR), l.last[j]? = some y → (j : Int) + 1 ≤ y.node
  | 0, y, hy => by
    have hl := (List.getElem?_eq_some_iff.1 hy).1
    have := (h 0 y hl hy).2.1
    omega
  | j + 1, y, hy => by
    have hl := (List.getElem?_eq_some_iff.1 hy).1
    have hx := List.getElem?_eq_getElem (show j < l.last.length by omega)
    have ih := last_idx h j _ hx
    have := (h (j + 1) y hl hy).1
    rw [List.take_add_one, hx] at this
    simp only [Option.toList_some] at this
    rw [Ld.befL_snoc] at this
    push_cast
    omega
theorem last_len {l : Led} (h : Ld.lastUp l l.last.length) : l.last.length ≤ 7 := by
  rcases Nat.lt_or_ge 7 l.last.length with g | g
  · have hx := List.getElem?_eq_getElem g
    have h1 := last_idx h 7 _ hx
    have h2 := (h 7 _ g hx).2.2.1
    omega
  · exact g
/-- what is known of the numbers of a snapshot that may be -/
structure Nums (s : Sho) : Prop where
  index : 0 ≤ s.index ∧ s.index ≤ 18446744073709551615
  term : 0 ≤ s.term ∧ s.term ≤ 18446744073709551615
  nodes : s.nodes.length ≤ 7 ∧ ∀ n ∈ s.nodes, 1 ≤ n ∧ n ≤ 7
  limit : 1 ≤ s.led.limit ∧ s.led.limit ≤ 65535
  next : 0 ≤ s.led.next ∧ s.led.next ≤ 18446744073709551615
  heldl : s.led.held.length ≤ 64
  held : ∀ x ∈ s.led.held, (1 ≤ x.token ∧ x.token ≤ 65535) ∧ (1 ≤ x.node ∧ x.node ≤ 7) ∧ (0 ≤ x.boot ∧ x.boot ≤ 18446744073709551615) ∧ (0 ≤ x.serial ∧ x.serial ≤ 18446744073709551615) ∧ (0 ≤ x.stamp ∧ x.stamp ≤ 18446744073709551615)
  lastl : s.led.last.length ≤ 7
  last : ∀ x ∈ s.led.last, (1 ≤ x.node ∧ x.node ≤ 7) ∧ (0 ≤ x.boot ∧ x.boot ≤ 18446744073709551615) ∧ (0 ≤ x.seq ∧ x.seq ≤ 18446744073709551615) ∧ (0 ≤ x.code ∧ x.code ≤ 65535) ∧ (0 ≤ x.token ∧ x.token ≤ 65535) ∧ (0 ≤ x.serial ∧ x.serial ≤ 18446744073709551615)
theorem u64_bd {n : Int} (h : (Lit.int .u64 n).wf = true) : 0 ≤ n ∧ n ≤ 18446744073709551615 := by
  simp [Lit.wf, IntKind.min, IntKind.max, IntKind.signed, IntKind.bits] at h
  omega
theorem nums_of {s : Sho} (hw : s.wf) (ok : Sh.shotOk s) : Nums s := by
  obtain ⟨w1, w2, w3, w4, w5, w6⟩ := hw
  obtain ⟨o1, ⟨o2, o3, o4, ⟨o5, o6⟩, o7⟩, o8, o9⟩ := ok
  have hc : s.nodes.isEmpty = false ∧ Nd.okFrom 0 s.nodes = true := by
    unfold Nd.chk at o1
    cases h : s.nodes.isEmpty
    · rw [h] at o1; exact ⟨rfl, by simpa using o1⟩
    · rw [h] at o1; simp at o1
  have hnl := okFrom_len s.nodes 0 hc.2 (by omega) (by omega)
  refine ⟨u64_bd w1, u64_bd w2, ⟨by omega, okFrom_nodes _ _ hc.2⟩, ⟨o2, o3⟩, u64_bd w4, o5, fun x hx => ?_, last_len o7, fun x hx => ?_⟩
  · obtain ⟨j, hj, e⟩ := List.mem_iff_getElem.1 hx
    have hy : s.led.held[j]? = some x := by rw [List.getElem?_eq_getElem hj, e]
    have q := o6 j x hj hy
    have p := held_pos o6 j x hy
    obtain ⟨v1, v2, v3, v4, v5⟩ := w5 x hx
    exact ⟨⟨p, by have := q.2.1; omega⟩, ⟨q.2.2.1, q.2.2.2.1⟩, u64_bd v3, u64_bd v4, u64_bd v5⟩
  · obtain ⟨j, hj, e⟩ := List.mem_iff_getElem.1 hx
    have hy : s.led.last[j]? = some x := by rw [List.getElem?_eq_getElem hj, e]
    have q := o7 j x hj hy
    obtain ⟨v1, v2, v3, v4, v5, v6⟩ := w6 x hx
    have qa := q.2.2.2.2.2
    unfold Ld.ansOk at qa
    exact ⟨⟨q.2.1, q.2.2.1⟩, u64_bd v2, u64_bd v3, by omega, by omega, u64_bd v6⟩
theorem sl_row {k : IntKind} {w : World} {g : Nat} {cs : Array Value} {t : TypeId} {fr : Nat × Nat} {ns : List Int} {n : Nat} (h : w.heap[g]? = some (.cells cs t fr)) (hc : cs = (ns.map (Value.int k)).toArray) (hn : n = ns.length) (hm : n ≤ maxLen) (hw : ∀ x ∈ ns, (Lit.int k x).wf = true) : Sl k w (.slice (some ⟨g, 0, none⟩) n n) ns := by
  subst hn
  refine ⟨_, ns.length, rfl, Nat.le_refl _, hm, hw, .inr ⟨g, 0, none, rfl, .inr ⟨rfl, row_lt h, fun i hi => ?_⟩⟩⟩
  rw [Nat.zero_add, cell_of_row w g i _ _ _ h, hc]
  simp [hi]
theorem u64_wf {n : Int} (h : 0 ≤ n ∧ n ≤ 18446744073709551615) : (Lit.int .u64 n).wf = true := by
  simp [Lit.wf, IntKind.min, IntKind.max, IntKind.signed, IntKind.bits]
  omega
end Sc
end Go.Proofs.Ytpdhndldfmhaeaa
