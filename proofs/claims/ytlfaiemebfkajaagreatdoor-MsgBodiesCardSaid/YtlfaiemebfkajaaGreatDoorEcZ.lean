/- Numbers written behind bytes of the call's own: shot.put. No condition but a bound of size. A snapshot's bytes: shot.Encode. No condition. -/
import Derived.Test.YtlfaiemebfkajaaGreatDoorNum
import Derived.Test.YtlfaiemebfkajaaGreatDoorShC
import Derived.Deep.MidRow
namespace Go.Proofs.YtlfaiemebfkajaaGreatDoor
open Go.ChangeShapes Go.WideShapes Go.ChangeAt Go.RowKit
set_option linter.unusedVariables false
set_option maxRecDepth 100000
namespace Sc
open Cm Nm
/-- no block but of bytes changes -/
def ByT (w w' : World) : Prop := ∀ (q : Nat) (cs : Array Value) (t : TypeId) (fr : Nat × Nat), w.heap[q]? = some (Obj.cells cs t fr) → t ≠ 5 → w'.heap[q]? = some (Obj.cells cs t fr)
theorem ByT.refl (w : World) : ByT w w := fun q cs t fr h _ => h
theorem ByT.trans {a b c : World} (h : ByT a b) (k : ByT b c) : ByT a c := fun q cs t fr hq ht => k q cs t fr (h q cs t fr hq ht) ht
theorem row_lt {w : World} {q : Nat} {o : Obj} (h : w.heap[q]? = some o) : q < w.heap.size := (Array.getElem?_eq_some_iff.1 h).1
theorem ByT.of {w w' : World} (h : Below w.heap.size w w') : ByT w w' := fun q cs t fr hq _ => (h.block q (row_lt hq)).trans hq
theorem ByT.alloc (w : World) (o : Obj) : ByT w (w.alloc o) := ByT.of ((Below.refl _ _).alloc (Nat.le_refl _) _)
theorem own_ty {w : World} {B e sz n g : Nat} {v : Value} {xs : List Value} {cs : Array Value} {t : TypeId} {fr : Nat × Nat} (h : w.ownsRow B e sz v n xs) (hg : w.heap[g]? = some (.cells cs t fr)) (hne : e ≠ t) : ∀ q, v.ownBlock = some q → q ≠ g := by
  intro q hq hn
  subst hn
  rcases h.2 with ⟨rfl, -⟩ | ⟨q2, cap, cur, rfl, -, hh, -⟩
  · cases hq
  · obtain rfl : q2 = q := by simpa [Value.ownBlock] using hq
    rw [hg] at hh
    simp only [Option.some.injEq, Obj.cells.injEq] at hh
    exact hne hh.2.1.symm
theorem ByT.grown {w w' : World} {B : Nat} {v : Value} {zs : List Int} (h : Own w B v zs) (hg : w.grownBy w' v.ownBlock) : ByT w w' := fun q cs t fr hq ht => by
  rw [hg.block q (row_lt hq) (fun e => own_ty h hq (fun e2 => ht e2.symm) q e.symm rfl)]
  exact hq
theorem below_grown {w w' : World} {B : Nat} {v : Value} {zs : List Int} (h : Own w B v zs) (hB : B ≤ w.heap.size) (hg : w.grownBy w' v.ownBlock) : Below B w w' :=
  ⟨hg.os, hg.tape, hg.output, hg.size, fun q hq => hg.block q (Nat.lt_of_lt_of_le hq hB) (fun e => by
    have := (World.ownsRow.lt h q e.symm).1
    omega)⟩
/-- bytes of the call's own, longer; no block but of bytes has changed -/
def Longr (B : Nat) (zs : List Int) (w : World) (e : Ending) (w' : World) : Prop := ∃ v, e = .returned v ∧ Own w' B v zs ∧ Below B w w' ∧ ByT w w'
set_option maxHeartbeats 2000000 in
theorem put_any (B : Nat) (vb vn : Value) (bs ns : List Int) (w : World) (hown : Own w B vb bs) (hB : B ≤ w.heap.size) (hS : Sl .u64 w vn ns) (hK : ∀ w', ByT w w' → Below B w w' → Sl .u64 w' vn ns)
    (hz : ∀ n ∈ ns, 0 ≤ n ∧ n ≤ 18446744073709551615) (hb : bs.length ≤ 100000000) (hl : ns.length ≤ 1000) :
    Calls Tryz.prog 98 #[vb, vn] w (Longr B (bs ++ encN ns) w) := by
  have HK := Lib.hid hK
  obtain ⟨an, capn, rfl, -⟩ := id hS
  have HZ := Lib.hid hz
  clear hz hK hS
  go_enter Tryz.func98, Tryz.ntmps98
  go_wp2
  have hown0 : Own w B vb (bs ++ encN (ns.take 0)) := by rw [show encN (ns.take 0) = [] from rfl, List.append_nil]; exact hown
  clear hown
  go_loopw [0, 9] (fun b i wr => ∃ k : Nat, k ≤ ns.length ∧ i = .int .i64 k ∧ Own wr B b (bs ++ encN (ns.take k)) ∧ Below B w wr ∧ Hid (ByT w wr)) (fun _ i _ => ns.length - (intOf i).toNat)
  case atStart => exact ⟨0, Nat.zero_le _, rfl, hown0, Below.refl _ _, Lib.hid (ByT.refl _)⟩
  case round =>
    clear hown0
    obtain ⟨k, hk, rfl, hown, hb2, HT⟩ := hrel
    have hW := hb2.size
    by_cases hlt3 : k < ns.length
    · have hS := HK.out _ HT.out hb2
      obtain ⟨b, off, rfl, -, hcx⟩ := Sl.at hS hlt3
      have HTK := Lib.hid (Nd.take_get hlt3)
      obtain ⟨hv0, hv1⟩ := HZ.out _ (Nd.mem_get hlt3)
      have hl3 := (encN_len (ns.take k) fun n hn => HZ.out n (List.mem_of_mem_take hn)).1
      rw [List.length_take, Nat.min_eq_left hk] at hl3
      generalize ns.getD k 0 = z at *
      have hl2 := numI_len (n := z) (by omega) (by omega)
      have hlb : (bs ++ encN (ns.take k)).length + (numI z).length ≤ 140737488355328 := by rw [List.length_append]; omega
      have HOO := Lib.hid (show bs ++ encN (ns.take (k + 1)) = (bs ++ encN (ns.take k)) ++ numI z by rw [HTK.out, encN_snoc, List.append_assoc])
      clear hl2 hl3 hS
      go_wp2_with fail
      refine (num_int z _ (by omega) (by omega)).mono ?_
      rintro e w4 ⟨v4, rfl, hown4, hs4, hb4⟩
      have HT4 := Lib.hid (HT.out.trans (ByT.of hb4))
      have HB4 := Lib.hid (hb2.trans (hb4.mono (by omega)))
      have own4 : Own w4 B _ (bs ++ encN (ns.take k)) := hown.below hb4 (Nat.le_refl _)
      clear hown4 hb4 hcx HT
      go_wp2_with (at_builtin; refine app8q rfl _ _ rfl B _ _ rfl own4 _ _ rfl hs4 hlb (by have := HB4.out.size; omega) ?_; intro v5 w5 hown5 hg5 hl5)
      have HT5 := Lib.hid (HT4.out.trans (ByT.grown own4 hg5))
      have hb5 : Below B w w5 := HB4.out.trans (below_grown own4 (by have := HB4.out.size; omega) hg5)
      clear hg5 hl5 own4 hs4
      go_wp2_with fail
      go_roundw
      case rel => exact ⟨k + 1, by omega, by go_num, by rw [HOO.out]; exact hown5, hb5, HT5⟩
      case measure => simp [intOf]; omega
    · obtain rfl : k = ns.length := by omega
      rw [List.take_length] at hown
      go_wp2
      go_ret
      exact ⟨_, rfl, hown, hb2, HT.out⟩
/-- a row's numbers -/
def heldNs (x : Held) : List Int := [x.token, x.node, x.boot, x.serial, x.stamp]
def lastNs (x : LastR) : List Int := [x.node, x.boot, x.seq, x.code, x.token, x.serial]
def heldsNs (l : List Held) : List Int := l.flatMap heldNs
def lastsNs (l : List LastR) : List Int := l.flatMap lastNs
theorem heldsNs_snoc (l : List Held) (x : Held) : heldsNs (l ++ [x]) = heldsNs l ++ heldNs x := by simp [heldsNs]
theorem lastsNs_snoc (l : List LastR) (x : LastR) : lastsNs (l ++ [x]) = lastsNs l ++ lastNs x := by simp [lastsNs]
/-- a snapshot's numbers, as far as each part goes -/
def ns1 (s : Sho) : List Int := [s.index, s.term, (s.nodes.length : Int)]
def ns3 (s : Sho) : List Int := [s.led.limit, s.led.next, (s.led.held.length : Int)]
def shotNs (s : Sho) : List Int := ns1 s ++ s.nodes ++ ns3 s ++ heldsNs s.led.held ++ [(s.led.last.length : Int)] ++ lastsNs s.led.last
def shotB (s : Sho) : List Int := 83 :: encN (shotNs s)
theorem encN_app (a b : List Int) : encN (a ++ b) = encN a ++ encN b := by simp [encN]
theorem heldsNs_len (l : List Held) : (heldsNs l).length = 5 * l.length := by
  induction l with
  | nil => rfl
  | cons x l ih => simp only [heldsNs, List.flatMap_cons, List.length_append, List.length_cons] at ih ⊢; rw [ih]; simp [heldNs]; omega
theorem lastsNs_len (l : List LastR) : (lastsNs l).length = 6 * l.length := by
  induction l with
  | nil => rfl
  | cons x l ih => simp only [lastsNs, List.flatMap_cons, List.length_append, List.length_cons] at ih ⊢; rw [ih]; simp [lastNs]; omega
theorem held_pos {l : Led} (h : Ld.heldUp l l.held.length) : ∀ (j : Nat) (y : Held), l.held[j]? = some y → 1 ≤ y.token
  | 0, y, hy => by
    have hl := (List.getElem?_eq_some_iff.1 hy).1
    have := (h 0 y hl hy).1
    simp [Ld.bef_nil] at this
    omega
  | j + 1, y, hy => by
    have hl := (List.getElem?_eq_some_iff.1 hy).1
    have hx := List.getElem?_eq_getElem (show j < l.held.length by omega)
    have ih := held_pos h j _ hx
    have := (h (j + 1) y hl hy).1
    rw [List.take_add_one, hx] at this
    simp only [Option.toList_some] at this
    rw [Ld.bef_snoc] at this
    omega
theorem last_idx {l : Led} (h : Ld.lastUp l l.last.length) : ∀ (j : Nat) (y : LastR), l.last[j]? = some y → (j : Int) + 1 ≤ y.node
  | 0, y, hy => by
    have hl := (List.getElem?_eq_some_iff.1 hy).1
    have := (h 0 y hl hy).2.1
    omega
  | j + 1, y, hy => by
    have hl := (List.getElem?_eq_some_iff.1 hy).1
    have hx := List.getElem?_eq_getElem (show j < l.last.length by omega)
    have ih := last_idx h j _ hx
    have := (h (j + 1) y hl hy).1
    rw [List.take_add_one, hx] at this
    simp only [Option.toList_some] at this
    rw [Ld.befL_snoc] at this
    push_cast
    omega
theorem last_len {l : Led} (h : Ld.lastUp l l.last.length) : l.last.length ≤ 7 := by
  rcases Nat.lt_or_ge 7 l.last.length with g | g
  · have hx := List.getElem?_eq_getElem g
    have h1 := last_idx h 7 _ hx
    have h2 := (h 7 _ g hx).2.2.1
    omega
  · exact g
/-- what is known of the numbers of a snapshot that may be -/
structure Nums (s : Sho) : Prop where
  index : 0 ≤ s.index ∧ s.index ≤ 18446744073709551615
  term : 0 ≤ s.term ∧ s.term ≤ 18446744073709551615
  nodes : s.nodes.length ≤ 7 ∧ ∀ n ∈ s.nodes, 1 ≤ n ∧ n ≤ 7
  limit : 1 ≤ s.led.limit ∧ s.led.limit ≤ 65535
  next : 0 ≤ s.led.next ∧ s.led.next ≤ 18446744073709551615
  heldl : s.led.held.length ≤ 64
  held : ∀ x ∈ s.led.held, (1 ≤ x.token ∧ x.token ≤ 65535) ∧ (1 ≤ x.node ∧ x.node ≤ 7) ∧ (0 ≤ x.boot ∧ x.boot ≤ 18446744073709551615) ∧ (0 ≤ x.serial ∧ x.serial ≤ 18446744073709551615) ∧ (0 ≤ x.stamp ∧ x.stamp ≤ 18446744073709551615)
  lastl : s.led.last.length ≤ 7
  last : ∀ x ∈ s.led.last, (1 ≤ x.node ∧ x.node ≤ 7) ∧ (0 ≤ x.boot ∧ x.boot ≤ 18446744073709551615) ∧ (0 ≤ x.seq ∧ x.seq ≤ 18446744073709551615) ∧ (0 ≤ x.code ∧ x.code ≤ 65535) ∧ (0 ≤ x.token ∧ x.token ≤ 65535) ∧ (0 ≤ x.serial ∧ x.serial ≤ 18446744073709551615)
theorem u64_bd {n : Int} (h : (Lit.int .u64 n).wf = true) : 0 ≤ n ∧ n ≤ 18446744073709551615 := by
  simp [Lit.wf, IntKind.min, IntKind.max, IntKind.signed, IntKind.bits] at h
  omega
theorem nums_of {s : Sho} (hw : s.wf) (ok : Sh.shotOk s) : Nums s := by
  obtain ⟨w1, w2, w3, w4, w5, w6⟩ := hw
  obtain ⟨o1, ⟨o2, o3, o4, ⟨o5, o6⟩, o7⟩, o8, o9⟩ := ok
  have hc : s.nodes.isEmpty = false ∧ Nd.okFrom 0 s.nodes = true := by
    unfold Nd.chk at o1
    cases h : s.nodes.isEmpty
    · rw [h] at o1; exact ⟨rfl, by simpa using o1⟩
    · rw [h] at o1; simp at o1
  have hnl := okFrom_len s.nodes 0 hc.2 (by omega) (by omega)
  refine ⟨u64_bd w1, u64_bd w2, ⟨by omega, okFrom_nodes _ _ hc.2⟩, ⟨o2, o3⟩, u64_bd w4, o5, fun x hx => ?_, last_len o7, fun x hx => ?_⟩
  · obtain ⟨j, hj, e⟩ := List.mem_iff_getElem.1 hx
    have hy : s.led.held[j]? = some x := by rw [List.getElem?_eq_getElem hj, e]
    have q := o6 j x hj hy
    have p := held_pos o6 j x hy
    obtain ⟨v1, v2, v3, v4, v5⟩ := w5 x hx
    exact ⟨⟨p, by have := q.2.1; omega⟩, ⟨q.2.2.1, q.2.2.2.1⟩, u64_bd v3, u64_bd v4, u64_bd v5⟩
  · obtain ⟨j, hj, e⟩ := List.mem_iff_getElem.1 hx
    have hy : s.led.last[j]? = some x := by rw [List.getElem?_eq_getElem hj, e]
    have q := o7 j x hj hy
    obtain ⟨v1, v2, v3, v4, v5, v6⟩ := w6 x hx
    have qa := q.2.2.2.2.2
    unfold Ld.ansOk at qa
    exact ⟨⟨q.2.1, q.2.2.1⟩, u64_bd v2, u64_bd v3, by omega, by omega, u64_bd v6⟩
theorem sl_row {k : IntKind} {w : World} {g : Nat} {cs : Array Value} {t : TypeId} {fr : Nat × Nat} {ns : List Int} {n : Nat} (h : w.heap[g]? = some (.cells cs t fr)) (hc : cs = (ns.map (Value.int k)).toArray) (hn : n = ns.length) (hm : n ≤ maxLen) (hw : ∀ x ∈ ns, (Lit.int k x).wf = true) : Sl k w (.slice (some ⟨g, 0, none⟩) n n) ns := by
  subst hn
  refine ⟨_, ns.length, rfl, Nat.le_refl _, hm, hw, .inr ⟨g, 0, none, rfl, .inr ⟨rfl, row_lt h, fun i hi => ?_⟩⟩⟩
  rw [Nat.zero_add, cell_of_row w g i _ _ _ h, hc]
  simp [hi]
theorem u64_wf {n : Int} (h : 0 ≤ n ∧ n ≤ 18446744073709551615) : (Lit.int .u64 n).wf = true := by
  simp [Lit.wf, IntKind.min, IntKind.max, IntKind.signed, IntKind.bits]
  omega
/-- some numbers, laid for the call, behind the bytes -/
theorem put_lit (B : Nat) (vb : Value) (bs ns : List Int) (w : World) (g n : Nat) (cs : Array Value) (hown : Own w B vb bs) (hB : B ≤ w.heap.size) (hg : w.heap.size = g) (hc : cs = (ns.map (Value.int .u64)).toArray) (hn : n = ns.length)
    (hz : ∀ n ∈ ns, 0 ≤ n ∧ n ≤ 18446744073709551615) (hb : bs.length ≤ 100000000) (hl : ns.length ≤ 1000) :
    Calls Tryz.prog 98 #[vb, .slice (some ⟨g, 0, none⟩) n n] (w.alloc (.cells cs 23)) (Longr B (bs ++ encN ns) w) := by
  subst hg
  have hr : (w.alloc (.cells cs 23)).heap[w.heap.size]? = some (.cells cs 23 (0, 0)) := heap_alloc_new _ _
  have hb0 : Below w.heap.size w (w.alloc (.cells cs 23)) := (Below.refl _ _).alloc (Nat.le_refl _) _
  have hw : ∀ x ∈ ns, (Lit.int .u64 x).wf = true := fun x hx => u64_wf (hz x hx)
  have hm : n ≤ maxLen := by unfold maxLen; omega
  refine (put_any B vb _ bs ns _ (hown.alloc _) (by have := hb0.size; omega) (sl_row hr hc hn hm hw) (fun w' ht _ => sl_row (ht _ _ _ _ hr (by decide)) hc hn hm hw) hz hb hl).mono ?_
  rintro e w' ⟨v, he, h1, h2, h3⟩
  exact ⟨v, he, h1, (hb0.mono hB).trans h2, (ByT.of hb0).trans h3⟩
end Sc
end Go.Proofs.YtlfaiemebfkajaaGreatDoor
namespace Go.Proofs.YtlfaiemebfkajaaGreatDoor
open Go.ChangeShapes Go.WideShapes Go.ChangeAt Go.RowKit Go.Deep
set_option linter.unusedVariables false
set_option maxRecDepth 100000
namespace Sc
open Cm Nm Sh
abbrev zLE : Array Value := #[.int .i64 0, .int .u64 0, .slice none 0 0, .slice none 0 0]
abbrev zHE : Array Value := #[.int .i64 0, .int .i64 0, .int .u64 0, .int .u64 0, .int .u64 0]
abbrev zLA : Array Value := #[.int .i64 0, .int .u64 0, .int .u64 0, .int .i64 0, .int .i64 0, .int .u64 0]
theorem heldA_one (x : Held) : (heldC x).toArray.all (·.oneCell') = true := by simp [heldC, Value.oneCell']
theorem lastA_one (x : LastR) : (lastC x).toArray.all (·.oneCell') = true := by simp [lastC, Value.oneCell']
theorem lArr_one (l : Led) (a : Option Addr) (i j : Nat) (b : Option Addr) (k m : Nat) : (lArr l (.slice a i j) (.slice b k m)).all (·.oneCell') = true := by simp [Value.oneCell']
theorem heldsNs_take {l : List Held} {k : Nat} {n : Int} (h : n ∈ heldsNs (l.take k)) : n ∈ heldsNs l := by
  obtain ⟨x, hx, hm⟩ := List.mem_flatMap.1 h
  exact List.mem_flatMap.2 ⟨x, List.mem_of_mem_take hx, hm⟩
theorem lastsNs_take {l : List LastR} {k : Nat} {n : Int} (h : n ∈ lastsNs (l.take k)) : n ∈ lastsNs l := by
  obtain ⟨x, hx, hm⟩ := List.mem_flatMap.1 h
  exact List.mem_flatMap.2 ⟨x, List.mem_of_mem_take hx, hm⟩
theorem led_range {w : World} {g : Nat} {s : Sho} {vn vh vl : Value} (h : w.heap[g]? = some (.cells (sArr s vn vh vl) 31 (0, 0))) : w.rangeAt g 3 (lArr s.led vh vl).toList := fun j v hv => by
  rw [cell_of_row w g (3 + j) _ _ _ h, ← hv]
  match j with
  | 0 => rfl
  | 1 => rfl
  | 2 => rfl
  | 3 => rfl
  | j + 4 => simp; omega
/-- what Encode answers: bytes of the call's own, or none -/
def GivesB (s : Sho) (w : World) (e : Ending) (w' : World) : Prop := ∃ v z bs, e = .returned (.tuple #[v, .int .i64 z]) ∧ ((z = 0 ∧ shotOk s ∧ bs = shotB s) ∨ (z = 60 ∧ ¬ shotOk s ∧ bs = [])) ∧ Own w' w.heap.size v bs ∧ Below w.heap.size w w'
set_option maxHeartbeats 8000000 in
theorem enc_any (s : Sho) (v : Value) (w : World) (h : IsShot w v s) : Calls Tryz.prog 83 #[v] w (GivesB s w) := by
  obtain ⟨vn, vh, vl, rfl, hn, hh, hl, hwf⟩ := id h
  obtain ⟨a1, b1, rfl, -⟩ := id hn
  obtain ⟨a2, b2, rfl, h21, h22, h23⟩ := id hh
  obtain ⟨a3, b3, rfl, h31, h32, h33⟩ := id hl
  unfold maxLen at h22 h32
  obtain ⟨W0, hW0⟩ : ∃ q, w.alloc (.cells (sArr s (.slice a1 s.nodes.length b1) (.slice a2 s.led.held.length b2) (.slice a3 s.led.last.length b3)) 31) = q := ⟨_, rfl⟩
  have hb0 : Below w.heap.size w W0 := by rw [← hW0]; exact (Below.refl _ _).alloc (Nat.le_refl _) _
  have HS0 : Hid (W0.heap[w.heap.size]? = some (.cells (sArr s (.slice a1 s.nodes.length b1) (.slice a2 s.led.held.length b2) (.slice a3 s.led.last.length b3)) 31 (0, 0))) := Lib.hid (by rw [← hW0]; exact heap_alloc_new _ _)
  have HB0 := Lib.hid hb0
  have HI0 := Lib.hid (h.below hb0 (Nat.le_refl _))
  have HWF := Lib.hid hwf
  have HN := Lib.hid hn
  have HH := Lib.hid h23
  have HL := Lib.hid h33
  have HWH := Lib.hid hwf.2.2
  clear h hn hh hl hwf hb0 h23 h33
  go_enter Tryz.func83, Tryz.ntmps83
  go_wp2_with (first | (with_reducible refine wpList_load_row rfl 31 (.tmp 1) rfl w.heap.size rfl 31 (sArr s (.slice a1 s.nodes.length b1) (.slice a2 s.led.held.length b2) (.slice a3 s.led.last.length b3)) (0, 0) _ HS0.out Tryz.underlying31 rfl (by kernel_rfl) ?_) | fail)
  refine (Sh.check_any s _ _ HI0.out).mono ?_
  rintro e w1 ⟨z, rfl, hz, hb1⟩
  have HB1 := Lib.hid (HB0.out.trans (hb1.mono HB0.out.size))
  have HT1 : Hid (ByT W0 w1) := Lib.hid (ByT.of hb1)
  clear hb1
  rcases hz with ⟨rfl, ok⟩ | ⟨rfl, no⟩
  case inr =>
    have NO := Lib.hid no
    clear no
    go_wp2_with fail
    go_ret2
    exact ⟨_, 60, [], rfl, .inr ⟨rfl, NO.out, rfl⟩, Own.nil _ _, HB1.out⟩
  obtain ⟨q1, q2, ⟨q3, q4⟩, q5, q6, q7, q8, q9, q10⟩ := nums_of HWF.out ok
  have OK := Lib.hid ok
  have Q4 := Lib.hid q4
  have Q8 := Lib.hid q8
  have Q10 := Lib.hid q10
  clear ok q4 q8 q10
  have p1 : IntKind.u64.wrap (s.nodes.length : Int) = (s.nodes.length : Int) := by (unfold IntKind.wrap; simp [IntKind.signed, IntKind.bits]; omega)
  have p2 : IntKind.u64.wrap s.led.limit = s.led.limit := by (unfold IntKind.wrap; simp [IntKind.signed, IntKind.bits]; omega)
  have p3 : IntKind.u64.wrap (s.led.held.length : Int) = (s.led.held.length : Int) := by (unfold IntKind.wrap; simp [IntKind.signed, IntKind.bits]; omega)
  have p4 : IntKind.u64.wrap (s.led.last.length : Int) = (s.led.last.length : Int) := by (unfold IntKind.wrap; simp [IntKind.signed, IntKind.bits]; omega)
  have HO1 : Hid (Own (w1.alloc (.cells #[.int .u8 83] 5)) w.heap.size (.slice (some ⟨w1.heap.size, 0, none⟩) 1 1) [83]) := Lib.hid (Own.lit w1 [83] HB1.out.size (by decide))
  have HB2 : Hid (Below w.heap.size w (w1.alloc (.cells #[.int .u8 83] 5))) := Lib.hid (HB1.out.alloc HB1.out.size _)
  have HT2 : Hid (ByT W0 (w1.alloc (.cells #[.int .u8 83] 5))) := Lib.hid (HT1.out.trans (ByT.alloc _ _))
  have hS2 := HT2.out _ _ _ _ HS0.out (by decide)
  have s0 := (cell_of_row _ _ 0 _ _ _ hS2).trans rfl
  have s1 := (cell_of_row _ _ 1 _ _ _ hS2).trans rfl
  have s2 := (cell_of_row _ _ 2 _ _ _ hS2).trans rfl
  have s3 := (cell_of_row _ _ 3 _ _ _ hS2).trans rfl
  have s4 := (cell_of_row _ _ 4 _ _ _ hS2).trans rfl
  have s5 := (cell_of_row _ _ 5 _ _ _ hS2).trans rfl
  have s6 := (cell_of_row _ _ 6 _ _ _ hS2).trans rfl
  clear hS2
  have hg1 : (w1.alloc (.cells #[.int .u8 83] 5)).heap.size = w1.heap.size + 1 := by simp
  go_wp2_with fail
  refine (put_lit w.heap.size _ [83] (ns1 s) _ _ _ _ HO1.out HB2.out.size hg1 rfl rfl (fun n hn => ?_) (by decide) (by simp [ns1])).mono ?_
  · simp only [ns1, List.mem_cons, List.not_mem_nil, or_false] at hn
    rcases hn with rfl | rfl | rfl
    · exact q1
    · exact q2
    · omega
  rintro e w3 ⟨v3, rfl, ho3, hb3, ht3⟩
  have HB3 := Lib.hid (HB2.out.trans (hb3.mono (Nat.le_refl _)))
  have HT3 := Lib.hid (HT2.out.trans ht3)
  have HO3 := Lib.hid ho3
  clear ho3 hb3 ht3 HO1 HB2 HT2
  clear s0 s1 s2 s3 s4 s5 s6
  have hS3 := HT3.out _ _ _ _ HS0.out (by decide)
  have s0 := (cell_of_row _ _ 0 _ _ _ hS3).trans rfl
  have s1 := (cell_of_row _ _ 1 _ _ _ hS3).trans rfl
  have s2 := (cell_of_row _ _ 2 _ _ _ hS3).trans rfl
  have s3 := (cell_of_row _ _ 3 _ _ _ hS3).trans rfl
  have s4 := (cell_of_row _ _ 4 _ _ _ hS3).trans rfl
  have s5 := (cell_of_row _ _ 5 _ _ _ hS3).trans rfl
  have s6 := (cell_of_row _ _ 6 _ _ _ hS3).trans rfl
  clear hS3
  go_wp2_with fail
  clear s0 s1 s2 s3 s4 s5 s6
  go_loopw [5, 32] (fun sv i wr => ∃ (k : Nat) (bv : Value), bv = sv ∧ k ≤ s.nodes.length ∧ i = .int .i64 k ∧ Hid (Own wr w.heap.size bv ([83] ++ encN (ns1 s) ++ encN (s.nodes.take k))) ∧ Hid (Below w.heap.size w wr) ∧ Hid (ByT W0 wr)) (fun _ i _ => s.nodes.length - (intOf i).toNat)
  case atStart => exact ⟨0, _, rfl, Nat.zero_le _, rfl, Lib.hid (by rw [show encN (s.nodes.take 0) = [] from rfl, List.append_nil]; exact HO3.out), HB3, HT3⟩
  case round =>
    clear HO3 HB3 HT3
    obtain ⟨k, bv, rfl, hk, rfl, HO, HB, HT⟩ := hrel
    by_cases hlt : k < s.nodes.length
    · have hS := HN.out.below HB.out (Nat.le_refl _)
      obtain ⟨b, off, rfl, -, hcx⟩ := Sl.at hS hlt
      have HTK := Lib.hid (Nd.take_get hlt)
      obtain ⟨hv0, hv1⟩ := Q4.out _ (Nd.mem_get hlt)
      have hl3 := (encN_len (s.nodes.take k) fun n hn => by have := Q4.out n (List.mem_of_mem_take hn); omega).1
      rw [List.length_take, Nat.min_eq_left hk] at hl3
      generalize s.nodes.getD k 0 = z at *
      have p5 : IntKind.u64.wrap z = z := by (unfold IntKind.wrap; simp [IntKind.signed, IntKind.bits]; omega)
      have hl1 := (encN_len (ns1 s) fun n hn => by
        simp only [ns1, List.mem_cons, List.not_mem_nil, or_false] at hn
        rcases hn with rfl | rfl | rfl <;> omega).1
      have hl1' : (ns1 s).length = 3 := rfl
      have hle : ([83] ++ encN (ns1 s) ++ encN (s.nodes.take k)).length ≤ 100000000 := by
        simp only [List.length_append, List.length_cons, List.length_nil]
        omega
      clear hS hl3 hl1 hl1'
      go_wp2_with fail
      refine (put_lit w.heap.size _ ([83] ++ encN (ns1 s) ++ encN (s.nodes.take k)) [z] _ _ _ _ HO.out HB.out.size rfl rfl rfl (fun n hn => by simp only [List.mem_cons, List.not_mem_nil, or_false] at hn; subst hn; omega) hle (by simp)).mono ?_
      rintro e w7 ⟨v7, rfl, ho7, hb7, ht7⟩
      have HB7 := Lib.hid (HB.out.trans hb7)
      have HT7 := Lib.hid (HT.out.trans ht7)
      have HO7 := Lib.hid ho7
      clear ho7 hb7 ht7
      have HO8 : Hid (Own w7 w.heap.size v7 ([83] ++ encN (ns1 s) ++ encN (s.nodes.take (k + 1)))) := Lib.hid (by rw [HTK.out, encN_app, ← List.append_assoc]; exact HO7.out)
      go_wp2_with fail
      go_roundw
      case rel => exact ⟨k + 1, _, rfl, by omega, by go_num, HO8, HB7, HT7⟩
      case measure => simp [intOf]; omega
    · obtain rfl : k = s.nodes.length := by omega
      have HO4 : Hid (Own wr w.heap.size bv ([83] ++ encN (ns1 s) ++ encN s.nodes)) := Lib.hid (by have q := HO.out; rwa [List.take_length] at q)
      obtain ⟨w4, hw4⟩ : ∃ q, q = wr := ⟨_, rfl⟩
      rw [← hw4] at HO4 HB HT ⊢
      have HB4 := HB
      have HT4 := HT
      clear HO HB HT hw4 hlt
      have hS4 := HT4.out _ _ _ _ HS0.out (by decide)
      have hrgl : w4.rangeAt w.heap.size 3 (lArr s.led (.slice a2 s.led.held.length b2) (.slice a3 s.led.last.length b3)).toList := led_range hS4
      have hsL : (w4.alloc (.cells zLE 29)).heap[w4.heap.size]? = some (.cells zLE 29 (0, 0)) := heap_alloc_new _ _
      obtain ⟨W5, hW5⟩ : ∃ q, (w4.alloc (.cells zLE 29)).setRow w4.heap.size (lArr s.led (.slice a2 s.led.held.length b2) (.slice a3 s.led.last.length b3)) = q := ⟨_, rfl⟩
      have hb5 : Below w4.heap.size w4 W5 := by rw [← hW5]; exact Ld.below_row ((Below.refl _ _).alloc (Nat.le_refl _) _) (Nat.le_refl _) _
      have HL5 : Hid (W5.heap[w4.heap.size]? = some (.cells (lArr s.led (.slice a2 s.led.held.length b2) (.slice a3 s.led.last.length b3)) 29 (0, 0))) := Lib.hid (by rw [← hW5]; exact setRow_heap _ _ _ _ _ _ hsL)
      have HB5 := Lib.hid (HB4.out.trans (hb5.mono HB4.out.size))
      have HT5 := Lib.hid (HT4.out.trans (ByT.of hb5))
      have HO5 : Hid (Own W5 w.heap.size _ _) := Lib.hid (HO4.out.below hb5 (Nat.le_refl _))
      have l0 := (cell_of_row _ _ 0 _ _ _ HL5.out).trans rfl
      have l1 := (cell_of_row _ _ 1 _ _ _ HL5.out).trans rfl
      have l2 := (cell_of_row _ _ 2 _ _ _ HL5.out).trans rfl
      have l3 := (cell_of_row _ _ 3 _ _ _ HL5.out).trans rfl
      have HNS : Hid (∀ n ∈ heldsNs s.led.held, 0 ≤ n ∧ n ≤ 18446744073709551615) := Lib.hid (fun n hn => by
        obtain ⟨x, hx, hm⟩ := List.mem_flatMap.1 hn
        obtain ⟨q1, q2, q3, q4, q5⟩ := Q8.out x hx
        simp only [heldNs, List.mem_cons, List.not_mem_nil, or_false] at hm
        rcases hm with rfl | rfl | rfl | rfl | rfl <;> omega)
      have LNS : Hid (∀ n ∈ lastsNs s.led.last, 0 ≤ n ∧ n ≤ 18446744073709551615) := Lib.hid (fun n hn => by
        obtain ⟨x, hx, hm⟩ := List.mem_flatMap.1 hn
        obtain ⟨q1, q2, q3, q4, q5, q6⟩ := Q10.out x hx
        simp only [lastNs, List.mem_cons, List.not_mem_nil, or_false] at hm
        rcases hm with rfl | rfl | rfl | rfl | rfl | rfl <;> omega)
      have hl1 := (encN_len (ns1 s) fun n hn => by
        simp only [ns1, List.mem_cons, List.not_mem_nil, or_false] at hn
        rcases hn with rfl | rfl | rfl <;> omega).1
      have hl1' : (ns1 s).length = 3 := rfl
      have hlhd := (encN_len s.nodes fun n hn => by have := Q4.out n hn; omega).1
      have hle : ([83] ++ encN (ns1 s) ++ encN s.nodes).length ≤ 100000000 := by
        simp only [List.length_append, List.length_cons, List.length_nil]
        omega
      clear hS4 hl1 hl1' hlhd hb5 HO4
      go_wp2_with (first
        | (with_reducible refine wpList_load_mid rfl 29 (.tmp 42) rfl w.heap.size 3 rfl (lArr s.led (.slice a2 s.led.held.length b2) (.slice a3 s.led.last.length b3)).toList _ hrgl Tryz.underlying29 rfl (by kernel_rfl) ?_)
        | (with_reducible refine wpList_store_row rfl 29 (.tmp 8) (.tmp 43) rfl w4.heap.size (lArr s.led (.slice a2 s.led.held.length b2) (.slice a3 s.led.last.length b3)) rfl rfl 29 _ hsL (by kernel_rfl) rfl (lArr_one _ _ _ _ _ _ _) ?_; rw [hW5]; clear hW5 hsL))
      obtain ⟨gl, hgl⟩ : ∃ q, q = w4.heap.size := ⟨_, rfl⟩
      refine (put_lit w.heap.size _ ([83] ++ encN (ns1 s) ++ encN s.nodes) (ns3 s) W5 _ _ _ HO5.out HB5.out.size rfl rfl rfl (fun n hn => by simp only [ns3, List.mem_cons, List.not_mem_nil, or_false] at hn; rcases hn with rfl | rfl | rfl <;> omega) hle (by simp [ns3])).mono ?_
      rintro e w6 ⟨v6, rfl, ho6, hb6, ht6⟩
      have HB6 := Lib.hid (HB5.out.trans hb6)
      have HT6 := Lib.hid (HT5.out.trans ht6)
      have HO6 := Lib.hid ho6
      have HL6 := Lib.hid (ht6 _ _ _ _ HL5.out (by decide))
      rw [← hgl] at HL6 ⊢
      clear ho6 hb6 ht6 hle hgl l0 l1 l2 l3 HL5 HB4 HT4 HB5 HT5 HO5
      have l0 := (cell_of_row _ _ 0 _ _ _ HL6.out).trans rfl
      have l1 := (cell_of_row _ _ 1 _ _ _ HL6.out).trans rfl
      have l2 := (cell_of_row _ _ 2 _ _ _ HL6.out).trans rfl
      have l3 := (cell_of_row _ _ 3 _ _ _ HL6.out).trans rfl
      go_wp2_with fail
      clear l0 l1 l2 l3
      go_loopw [5, 59] (fun sv i wr => ∃ (k : Nat) (bv : Value), bv = sv ∧ k ≤ s.led.held.length ∧ i = .int .i64 k ∧ Hid (Own wr w.heap.size bv ([83] ++ encN (ns1 s) ++ encN s.nodes ++ encN (ns3 s) ++ encN (heldsNs (s.led.held.take k)))) ∧ Hid (Below w.heap.size w wr) ∧ Hid (ByT w6 wr)) (fun _ i _ => s.led.held.length - (intOf i).toNat)
      case atStart => exact ⟨0, _, rfl, Nat.zero_le _, rfl, Lib.hid (by rw [show encN (heldsNs (s.led.held.take 0)) = [] from rfl, List.append_nil]; exact HO6.out), HB6, Lib.hid (ByT.refl _)⟩
      case round =>
        clear HO6 HB6
        obtain ⟨k, bv, rfl, hk, rfl, HO, HB, HT⟩ := hrel
        by_cases hlt : k < s.led.held.length
        · obtain ⟨b, off, hab, hbl, hcc⟩ := Ld.rows_open hlt HH.out
          subst hab
          have hrg : wr.rangeAt b (off + k * 5) (heldC s.led.held[k]) := fun jj u hu => by
            have q := (HB.out.cell (p := ⟨b, off + (k * 5 + jj), none⟩) hbl).trans (hcc k _ (List.getElem?_eq_getElem hlt) jj u hu)
            rw [Nat.add_assoc]
            exact q
          have HMEM := Lib.hid (List.getElem_mem hlt)
          have HTK : Hid (s.led.held.take (k + 1) = s.led.held.take k ++ [s.led.held[k]]) := Lib.hid (by rw [List.take_add_one, List.getElem?_eq_getElem hlt]; rfl)
          clear hcc hbl
          generalize s.led.held[k] = x at hrg HMEM HTK
          have hsE : (wr.alloc (.cells zHE 110)).heap[wr.heap.size]? = some (.cells zHE 110 (0, 0)) := heap_alloc_new _ _
          obtain ⟨W1, hW1⟩ : ∃ q, (wr.alloc (.cells zHE 110)).setRow wr.heap.size (heldC x).toArray = q := ⟨_, rfl⟩
          have hbE : Below wr.heap.size wr W1 := by rw [← hW1]; exact Ld.below_row ((Below.refl _ _).alloc (Nat.le_refl _) _) (Nat.le_refl _) _
          have HE1 : Hid (W1.heap[wr.heap.size]? = some (.cells (heldC x).toArray 110 (0, 0))) := Lib.hid (by rw [← hW1]; exact setRow_heap _ _ _ _ _ _ hsE)
          have HB1 := Lib.hid (HB.out.trans (hbE.mono HB.out.size))
          have HT1 := Lib.hid (HT.out.trans (ByT.of hbE))
          have HO1 : Hid (Own W1 w.heap.size bv _) := Lib.hid (HO.out.below hbE (Nat.le_refl _))
          obtain ⟨⟨t1, t2⟩, ⟨t3, t4⟩, ⟨t5, t6⟩, ⟨t7, t8⟩, ⟨t9, t10⟩⟩ := Q8.out x HMEM.out
          have x0 : W1.cell? ⟨wr.heap.size, 0, none⟩ = some (.int .i64 x.token) := (cell_of_row _ _ 0 _ _ _ HE1.out).trans rfl
          have x1 : W1.cell? ⟨wr.heap.size, 1, none⟩ = some (.int .i64 x.node) := (cell_of_row _ _ 1 _ _ _ HE1.out).trans rfl
          have x2 : W1.cell? ⟨wr.heap.size, 2, none⟩ = some (.int .u64 x.boot) := (cell_of_row _ _ 2 _ _ _ HE1.out).trans rfl
          have x3 : W1.cell? ⟨wr.heap.size, 3, none⟩ = some (.int .u64 x.serial) := (cell_of_row _ _ 3 _ _ _ HE1.out).trans rfl
          have x4 : W1.cell? ⟨wr.heap.size, 4, none⟩ = some (.int .u64 x.stamp) := (cell_of_row _ _ 4 _ _ _ HE1.out).trans rfl
          have p5 : IntKind.u64.wrap x.token = x.token := by (unfold IntKind.wrap; simp [IntKind.signed, IntKind.bits]; omega)
          have p6 : IntKind.u64.wrap x.node = x.node := by (unfold IntKind.wrap; simp [IntKind.signed, IntKind.bits]; omega)
          have hl1 := (encN_len (ns1 s) fun n hn => by
            simp only [ns1, List.mem_cons, List.not_mem_nil, or_false] at hn
            rcases hn with rfl | rfl | rfl <;> omega).1
          have hl1' : (ns1 s).length = 3 := rfl
          have hlhd := (encN_len s.nodes fun n hn => by have := Q4.out n hn; omega).1
          have hl3 := (encN_len (ns3 s) fun n hn => by
            simp only [ns3, List.mem_cons, List.not_mem_nil, or_false] at hn
            rcases hn with rfl | rfl | rfl <;> omega).1
          have hl3' : (ns3 s).length = 3 := rfl
          have hl4 := (encN_len (heldsNs (s.led.held.take k)) fun n hn => HNS.out n (heldsNs_take hn)).1
          rw [heldsNs_len, List.length_take, Nat.min_eq_left hk] at hl4
          have hle : ([83] ++ encN (ns1 s) ++ encN s.nodes ++ encN (ns3 s) ++ encN (heldsNs (s.led.held.take k))).length ≤ 100000000 := by
            simp only [List.length_append, List.length_cons, List.length_nil]
            omega
          have hkz : (k : Int) < (s.led.held.length : Int) := by omega
          clear hbE hl1 hl1' hlhd hl3 hl3' hl4
          go_wp2_with (first
            | (with_reducible refine wpList_load_mid rfl 110 (.tmp 61) rfl b (off + k * 5) rfl (heldC x) _ hrg Tryz.underlying110 rfl (by kernel_rfl) ?_)
            | (with_reducible refine wpList_store_row rfl 110 (.tmp 10) (.tmp 62) rfl wr.heap.size (heldC x).toArray rfl rfl 110 _ hsE (by kernel_rfl) rfl (heldA_one _) ?_; rw [hW1]; clear hW1 hsE))
          refine (put_lit w.heap.size _ ([83] ++ encN (ns1 s) ++ encN s.nodes ++ encN (ns3 s) ++ encN (heldsNs (s.led.held.take k))) (heldNs x) W1 _ _ _ HO1.out HB1.out.size rfl rfl rfl (fun n hn => by simp only [heldNs, List.mem_cons, List.not_mem_nil, or_false] at hn; rcases hn with rfl | rfl | rfl | rfl | rfl <;> omega) hle (by simp [heldNs])).mono ?_
          rintro e w7 ⟨v7, rfl, ho7, hb7, ht7⟩
          have HB7 := Lib.hid (HB1.out.trans hb7)
          have HT7 := Lib.hid (HT1.out.trans ht7)
          have HO7 := Lib.hid ho7
          clear ho7 hb7 ht7
          have HO8 : Hid (Own w7 w.heap.size v7 ([83] ++ encN (ns1 s) ++ encN s.nodes ++ encN (ns3 s) ++ encN (heldsNs (s.led.held.take (k + 1))))) := Lib.hid (by rw [HTK.out, heldsNs_snoc, encN_app, ← List.append_assoc]; exact HO7.out)
          clear hrg
          go_wp2_with fail
          go_roundw
          case rel => exact ⟨k + 1, _, rfl, by omega, by go_num, HO8, HB7, HT7⟩
          case measure => simp [intOf]; omega
        · obtain rfl : k = s.led.held.length := by omega
          have HO9 : Hid (Own wr w.heap.size bv ([83] ++ encN (ns1 s) ++ encN s.nodes ++ encN (ns3 s) ++ encN (heldsNs s.led.held))) := Lib.hid (by have q := HO.out; rwa [List.take_length] at q)
          obtain ⟨w9, hw9⟩ : ∃ q, q = wr := ⟨_, rfl⟩
          rw [← hw9] at HO9 HB HT ⊢
          have HB9 := HB
          have HL9 := Lib.hid (HT.out _ _ _ _ HL6.out (by decide))
          clear HO HB HT hw9 hlt HL6
          have l0 := (cell_of_row _ _ 0 _ _ _ HL9.out).trans rfl
          have l1 := (cell_of_row _ _ 1 _ _ _ HL9.out).trans rfl
          have l2 := (cell_of_row _ _ 2 _ _ _ HL9.out).trans rfl
          have l3 := (cell_of_row _ _ 3 _ _ _ HL9.out).trans rfl
          have hl1 := (encN_len (ns1 s) fun n hn => by
            simp only [ns1, List.mem_cons, List.not_mem_nil, or_false] at hn
            rcases hn with rfl | rfl | rfl <;> omega).1
          have hl1' : (ns1 s).length = 3 := rfl
          have hlhd := (encN_len s.nodes fun n hn => by have := Q4.out n hn; omega).1
          have hl3 := (encN_len (ns3 s) fun n hn => by
            simp only [ns3, List.mem_cons, List.not_mem_nil, or_false] at hn
            rcases hn with rfl | rfl | rfl <;> omega).1
          have hl3' : (ns3 s).length = 3 := rfl
          have hl4 := (encN_len (heldsNs s.led.held) fun n hn => HNS.out n hn).1
          rw [heldsNs_len] at hl4
          have hle : ([83] ++ encN (ns1 s) ++ encN s.nodes ++ encN (ns3 s) ++ encN (heldsNs s.led.held)).length ≤ 100000000 := by
            simp only [List.length_append, List.length_cons, List.length_nil]
            omega
          clear hl1 hl1' hlhd hl3 hl3' hl4
          go_wp2_with fail
          refine (put_lit w.heap.size _ ([83] ++ encN (ns1 s) ++ encN s.nodes ++ encN (ns3 s) ++ encN (heldsNs s.led.held)) [(s.led.last.length : Int)] w9 _ _ _ HO9.out HB9.out.size rfl rfl rfl (fun n hn => by simp only [List.mem_cons, List.not_mem_nil, or_false] at hn; subst hn; omega) hle (by simp)).mono ?_
          rintro e w10 ⟨v10, rfl, ho10, hb10, ht10⟩
          have HB10 := Lib.hid (HB9.out.trans hb10)
          have HO10 := Lib.hid ho10
          have HL10 := Lib.hid (ht10 _ _ _ _ HL9.out (by decide))
          clear ho10 hb10 ht10 hle l0 l1 l2 l3 HL9 HB9 HO9
          have l0 := (cell_of_row _ _ 0 _ _ _ HL10.out).trans rfl
          have l1 := (cell_of_row _ _ 1 _ _ _ HL10.out).trans rfl
          have l2 := (cell_of_row _ _ 2 _ _ _ HL10.out).trans rfl
          have l3 := (cell_of_row _ _ 3 _ _ _ HL10.out).trans rfl
          go_wp2_with fail
          clear l0 l1 l2 l3
          go_loopw [5, 89] (fun sv i wr => ∃ (k : Nat) (bv : Value), bv = sv ∧ k ≤ s.led.last.length ∧ i = .int .i64 k ∧ Hid (Own wr w.heap.size bv ([83] ++ encN (ns1 s) ++ encN s.nodes ++ encN (ns3 s) ++ encN (heldsNs s.led.held) ++ encN [(s.led.last.length : Int)] ++ encN (lastsNs (s.led.last.take k)))) ∧ Hid (Below w.heap.size w wr) ∧ Hid (ByT w10 wr)) (fun _ i _ => s.led.last.length - (intOf i).toNat)
          case atStart => exact ⟨0, _, rfl, Nat.zero_le _, rfl, Lib.hid (by rw [show encN (lastsNs (s.led.last.take 0)) = [] from rfl, List.append_nil]; exact HO10.out), HB10, Lib.hid (ByT.refl _)⟩
          case round =>
            clear HO10 HB10
            obtain ⟨k, bv, rfl, hk, rfl, HO, HB, HT⟩ := hrel
            by_cases hlt : k < s.led.last.length
            · obtain ⟨b, off, hab, hbl, hcc⟩ := Ld.rows_open hlt HL.out
              subst hab
              have hrg : wr.rangeAt b (off + k * 6) (lastC s.led.last[k]) := fun jj u hu => by
                have q := (HB.out.cell (p := ⟨b, off + (k * 6 + jj), none⟩) hbl).trans (hcc k _ (List.getElem?_eq_getElem hlt) jj u hu)
                rw [Nat.add_assoc]
                exact q
              have HMEM := Lib.hid (List.getElem_mem hlt)
              have HTK : Hid (s.led.last.take (k + 1) = s.led.last.take k ++ [s.led.last[k]]) := Lib.hid (by rw [List.take_add_one, List.getElem?_eq_getElem hlt]; rfl)
              clear hcc hbl
              generalize s.led.last[k] = x at hrg HMEM HTK
              have hsE : (wr.alloc (.cells zLA 114)).heap[wr.heap.size]? = some (.cells zLA 114 (0, 0)) := heap_alloc_new _ _
              obtain ⟨W1, hW1⟩ : ∃ q, (wr.alloc (.cells zLA 114)).setRow wr.heap.size (lastC x).toArray = q := ⟨_, rfl⟩
              have hbE : Below wr.heap.size wr W1 := by rw [← hW1]; exact Ld.below_row ((Below.refl _ _).alloc (Nat.le_refl _) _) (Nat.le_refl _) _
              have HE1 : Hid (W1.heap[wr.heap.size]? = some (.cells (lastC x).toArray 114 (0, 0))) := Lib.hid (by rw [← hW1]; exact setRow_heap _ _ _ _ _ _ hsE)
              have HB1 := Lib.hid (HB.out.trans (hbE.mono HB.out.size))
              have HT1 := Lib.hid (HT.out.trans (ByT.of hbE))
              have HO1 : Hid (Own W1 w.heap.size bv _) := Lib.hid (HO.out.below hbE (Nat.le_refl _))
              obtain ⟨⟨t1, t2⟩, ⟨t3, t4⟩, ⟨t5, t6⟩, ⟨t7, t8⟩, ⟨t9, t10⟩, ⟨t11, t12⟩⟩ := Q10.out x HMEM.out
              have x0 : W1.cell? ⟨wr.heap.size, 0, none⟩ = some (.int .i64 x.node) := (cell_of_row _ _ 0 _ _ _ HE1.out).trans rfl
              have x1 : W1.cell? ⟨wr.heap.size, 1, none⟩ = some (.int .u64 x.boot) := (cell_of_row _ _ 1 _ _ _ HE1.out).trans rfl
              have x2 : W1.cell? ⟨wr.heap.size, 2, none⟩ = some (.int .u64 x.seq) := (cell_of_row _ _ 2 _ _ _ HE1.out).trans rfl
              have x3 : W1.cell? ⟨wr.heap.size, 3, none⟩ = some (.int .i64 x.code) := (cell_of_row _ _ 3 _ _ _ HE1.out).trans rfl
              have x4 : W1.cell? ⟨wr.heap.size, 4, none⟩ = some (.int .i64 x.token) := (cell_of_row _ _ 4 _ _ _ HE1.out).trans rfl
              have x5 : W1.cell? ⟨wr.heap.size, 5, none⟩ = some (.int .u64 x.serial) := (cell_of_row _ _ 5 _ _ _ HE1.out).trans rfl
              have p5 : IntKind.u64.wrap x.node = x.node := by (unfold IntKind.wrap; simp [IntKind.signed, IntKind.bits]; omega)
              have p6 : IntKind.u64.wrap x.code = x.code := by (unfold IntKind.wrap; simp [IntKind.signed, IntKind.bits]; omega)
              have p7 : IntKind.u64.wrap x.token = x.token := by (unfold IntKind.wrap; simp [IntKind.signed, IntKind.bits]; omega)
              have hl1 := (encN_len (ns1 s) fun n hn => by
                simp only [ns1, List.mem_cons, List.not_mem_nil, or_false] at hn
                rcases hn with rfl | rfl | rfl <;> omega).1
              have hl1' : (ns1 s).length = 3 := rfl
              have hlhd := (encN_len s.nodes fun n hn => by have := Q4.out n hn; omega).1
              have hl3 := (encN_len (ns3 s) fun n hn => by
                simp only [ns3, List.mem_cons, List.not_mem_nil, or_false] at hn
                rcases hn with rfl | rfl | rfl <;> omega).1
              have hl3' : (ns3 s).length = 3 := rfl
              have hl4 := (encN_len (heldsNs s.led.held) fun n hn => HNS.out n hn).1
              rw [heldsNs_len] at hl4
              have hl45 := (encN_len [(s.led.last.length : Int)] fun n hn => by simp only [List.mem_cons, List.not_mem_nil, or_false] at hn; subst hn; omega).1
              rw [show [(s.led.last.length : Int)].length = 1 from rfl] at hl45
              have hl5 := (encN_len (lastsNs (s.led.last.take k)) fun n hn => LNS.out n (lastsNs_take hn)).1
              rw [lastsNs_len, List.length_take, Nat.min_eq_left hk] at hl5
              have hle : ([83] ++ encN (ns1 s) ++ encN s.nodes ++ encN (ns3 s) ++ encN (heldsNs s.led.held) ++ encN [(s.led.last.length : Int)] ++ encN (lastsNs (s.led.last.take k))).length ≤ 100000000 := by
                simp only [List.length_append, List.length_cons, List.length_nil]
                omega
              have hl6 := (encN_len [x.node, x.boot, x.seq] fun n hn => by simp only [List.mem_cons, List.not_mem_nil, or_false] at hn; rcases hn with rfl | rfl | rfl <;> omega).1
              rw [show [x.node, x.boot, x.seq].length = 3 from rfl] at hl6
              have hle2 : ([83] ++ encN (ns1 s) ++ encN s.nodes ++ encN (ns3 s) ++ encN (heldsNs s.led.held) ++ encN [(s.led.last.length : Int)] ++ encN (lastsNs (s.led.last.take k)) ++ encN [x.node, x.boot, x.seq]).length ≤ 100000000 := by
                simp only [List.length_append, List.length_cons, List.length_nil]
                omega
              have hkz : (k : Int) < (s.led.last.length : Int) := by omega
              clear hbE hl1 hl1' hlhd hl3 hl3' hl4 hl45 hl5 hl6
              go_wp2_with (first
                | (with_reducible refine wpList_load_mid rfl 114 (.tmp 91) rfl b (off + k * 6) rfl (lastC x) _ hrg Tryz.underlying114 rfl (by kernel_rfl) ?_)
                | (with_reducible refine wpList_store_row rfl 114 (.tmp 12) (.tmp 92) rfl wr.heap.size (lastC x).toArray rfl rfl 114 _ hsE (by kernel_rfl) rfl (lastA_one _) ?_; rw [hW1]; clear hW1 hsE))
              refine (put_lit w.heap.size _ ([83] ++ encN (ns1 s) ++ encN s.nodes ++ encN (ns3 s) ++ encN (heldsNs s.led.held) ++ encN [(s.led.last.length : Int)] ++ encN (lastsNs (s.led.last.take k))) [x.node, x.boot, x.seq] W1 _ _ _ HO1.out HB1.out.size rfl rfl rfl (fun n hn => by simp only [List.mem_cons, List.not_mem_nil, or_false] at hn; rcases hn with rfl | rfl | rfl <;> omega) hle (by simp)).mono ?_
              rintro e w7 ⟨v7, rfl, ho7, hb7, ht7⟩
              have HB7 := Lib.hid (HB1.out.trans hb7)
              have HT7 := Lib.hid (HT1.out.trans ht7)
              have HO7 := Lib.hid ho7
              have HE7 := Lib.hid (ht7 _ _ _ _ HE1.out (by decide))
              clear ho7 hb7 ht7 x0 x1 x2 x3 x4 x5 hrg HO1 HE1
              have x0 : w7.cell? ⟨wr.heap.size, 0, none⟩ = some (.int .i64 x.node) := (cell_of_row _ _ 0 _ _ _ HE7.out).trans rfl
              have x1 : w7.cell? ⟨wr.heap.size, 1, none⟩ = some (.int .u64 x.boot) := (cell_of_row _ _ 1 _ _ _ HE7.out).trans rfl
              have x2 : w7.cell? ⟨wr.heap.size, 2, none⟩ = some (.int .u64 x.seq) := (cell_of_row _ _ 2 _ _ _ HE7.out).trans rfl
              have x3 : w7.cell? ⟨wr.heap.size, 3, none⟩ = some (.int .i64 x.code) := (cell_of_row _ _ 3 _ _ _ HE7.out).trans rfl
              have x4 : w7.cell? ⟨wr.heap.size, 4, none⟩ = some (.int .i64 x.token) := (cell_of_row _ _ 4 _ _ _ HE7.out).trans rfl
              have x5 : w7.cell? ⟨wr.heap.size, 5, none⟩ = some (.int .u64 x.serial) := (cell_of_row _ _ 5 _ _ _ HE7.out).trans rfl
              go_wp2_with fail
              refine (put_lit w.heap.size _ ([83] ++ encN (ns1 s) ++ encN s.nodes ++ encN (ns3 s) ++ encN (heldsNs s.led.held) ++ encN [(s.led.last.length : Int)] ++ encN (lastsNs (s.led.last.take k)) ++ encN [x.node, x.boot, x.seq]) [x.code, x.token, x.serial] w7 _ _ _ HO7.out HB7.out.size rfl rfl rfl (fun n hn => by simp only [List.mem_cons, List.not_mem_nil, or_false] at hn; rcases hn with rfl | rfl | rfl <;> omega) hle2 (by simp)).mono ?_
              rintro e w8 ⟨v8, rfl, ho8, hb8, ht8⟩
              have HB8 := Lib.hid (HB7.out.trans hb8)
              have HT8 := Lib.hid (HT7.out.trans ht8)
              have HO8 : Hid (Own w8 w.heap.size v8 ([83] ++ encN (ns1 s) ++ encN s.nodes ++ encN (ns3 s) ++ encN (heldsNs s.led.held) ++ encN [(s.led.last.length : Int)] ++ encN (lastsNs (s.led.last.take (k + 1))))) := Lib.hid (by
                rw [HTK.out, lastsNs_snoc, encN_app, ← List.append_assoc, show lastNs x = [x.node, x.boot, x.seq] ++ [x.code, x.token, x.serial] from rfl, encN_app, ← List.append_assoc]
                exact ho8)
              clear ho8 hb8 ht8 x0 x1 x2 x3 x4 x5 HO7 HE7
              go_wp2_with fail
              go_roundw
              case rel => exact ⟨k + 1, _, rfl, by omega, by go_num, HO8, HB8, HT8⟩
              case measure => simp [intOf]; omega
            · obtain rfl : k = s.led.last.length := by omega
              have HOE : Hid (Own wr w.heap.size bv (shotB s)) := Lib.hid (by
                have q := HO.out
                rw [List.take_length] at q
                have e : [83] ++ encN (ns1 s) ++ encN s.nodes ++ encN (ns3 s) ++ encN (heldsNs s.led.held) ++ encN [(s.led.last.length : Int)] ++ encN (lastsNs s.led.last) = shotB s := by
                  unfold shotB shotNs
                  rw [encN_app, encN_app, encN_app, encN_app, encN_app]
                  simp only [List.append_assoc, List.singleton_append]
                  rfl
                rw [e] at q
                exact q)
              have HBE := Lib.hid HB.out
              have hkz : ¬ ((s.led.last.length : Int) < (s.led.last.length : Int)) := by omega
              clear HO HB HT
              go_wp2_with fail
              go_ret2
              exact ⟨_, 0, _, rfl, .inl ⟨rfl, OK.out, rfl⟩, HOE.out, HBE.out⟩
end Sc
end Go.Proofs.YtlfaiemebfkajaaGreatDoor
