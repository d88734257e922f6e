/- A snapshot and the empty one: the document's Same, either way round. No condition. -/
import Derived.Test.YteapccniloednaaRcZ
import Derived.Test.YteapccniloednaaSmE
import Derived.Deep.MidRow
import Derived.Deep.RegionHeld3
namespace Go.Proofs.Yteapccniloednaa
open Go.ChangeShapes Go.WideShapes Go.ChangeAt Go.RowKit Go.Deep
set_option linter.unusedVariables false
set_option maxRecDepth 100000
theorem wpList_load_midG {P : Program} {ops : Array Oper} {rest : List Oper} {op : Oper} {a : Act} {w : World} {Q : Exit → Act → World → Prop} (hw : Region.wanted op (yielded ops a.tmps) = true) (ty : TypeId) (x : Operand) (ho : op.op = .load ty x)
    (b o : Nat) (hx : a.eval x = .pointer (some ⟨b, o, none⟩)) (cs : List Value) (d : TypeDesc) (hc : w.rangeAt b o cs)
    (hu : P.underlying ty = some d) (hd : d.isRow = true) (hi : (P.info? ty).map (·.size) = some cs.length)
    (h : wpList P ops Q rest (a.put op.dst (.agg cs.toArray)) w) : wpList P ops Q (op :: rest) a w :=
  BigFrame.wpList_want hw fun _ hK => wp_load_mid ty x ho b o hx cs d hc hu hd hi (hK _ _ h)
namespace Rc
open Hd Nv
theorem ret_bool {b c : Bool} (h : b = c) : Ending.returned (.bool b) = .returned (.bool c) := by rw [h]
def SaysNo (w : World) (e : Ending) (w' : World) : Prop := e = .returned (.bool false) ∧ Below w.heap.size w w'
theorem ne_true {a b : Int} (h : a ≠ b) : (a == b) = false := beq_eq_false_iff_ne.2 h
theorem lt_of_row8 {w : World} {g : Nat} {o : Obj} (h : w.heap[g]? = some o) : g < w.heap.size := (Array.getElem?_eq_some_iff.1 h).1
theorem nodes_noR (zs : List Int) (v u : Value) (w : World) (h2 : Sl .i64 w v zs) (h1 : Sl .i64 w u []) (hz : zs.length ≠ 0) : Calls Try.prog 37 #[v, u] w (SaysNo w) := by
  refine (Nd.same_any v u zs [] w h2 h1).mono ?_
  rintro e w2 ⟨rfl, hb⟩
  exact ⟨ret_bool (decide_eq_false (fun q => hz (by rw [q]; rfl))), hb⟩
set_option maxHeartbeats 8000000 in
theorem led_noR (a l : Led) (v u : Value) (w : World) (h : IsLed w v l) (g : IsLed w u a) (ha : a.held.length = 0) (hb : a.last.length = 0) (hne : ¬ (a.limit = l.limit ∧ a.next = l.next ∧ l.held.length = 0 ∧ l.last.length = 0)) : Calls Try.prog 38 #[v, u] w (SaysNo w) := by
  obtain ⟨vh, vl, rfl, h1, h2, -⟩ := h
  obtain ⟨uh, ul, rfl, g1, g2, -⟩ := g
  obtain ⟨a1, c1, rfl, -⟩ := h1
  obtain ⟨a2, c2, rfl, -⟩ := h2
  obtain ⟨a3, c3, rfl, -⟩ := g1
  obtain ⟨a4, c4, rfl, -⟩ := g2
  rw [ha, hb]
  obtain ⟨W1, hW1⟩ : ∃ q, (w.alloc (.cells (lArr l (.slice a1 l.held.length c1) (.slice a2 l.last.length c2)) 28)).alloc (.cells (lArr a (.slice a3 0 c3) (.slice a4 0 c4)) 28) = q := ⟨_, rfl⟩
  have hA : W1.heap[w.heap.size]? = some (.cells (lArr l (.slice a1 l.held.length c1) (.slice a2 l.last.length c2)) 28 (0, 0)) := by rw [← hW1]; exact heap_alloc2_old _ _ _
  have hB : W1.heap[w.heap.size + 1]? = some (.cells (lArr a (.slice a3 0 c3) (.slice a4 0 c4)) 28 (0, 0)) := by rw [← hW1]; exact heap_alloc2_new _ _ _
  have hbw : Below w.heap.size w W1 := by rw [← hW1]; exact ((Below.refl _ _).alloc (Nat.le_refl _) _).alloc (by simp) _
  have c0 := (cell_of_row W1 _ 0 _ _ _ hA).trans rfl
  have d0 := (cell_of_row W1 _ 0 _ _ _ hB).trans rfl
  have c1 := (cell_of_row W1 _ 1 _ _ _ hA).trans rfl
  have d1 := (cell_of_row W1 _ 1 _ _ _ hB).trans rfl
  have c2 := (cell_of_row W1 _ 2 _ _ _ hA).trans rfl
  have d2 := (cell_of_row W1 _ 2 _ _ _ hB).trans rfl
  have c3 := (cell_of_row W1 _ 3 _ _ _ hA).trans rfl
  have d3 := (cell_of_row W1 _ 3 _ _ _ hB).trans rfl
  have HB := Lib.hid hbw
  clear hbw hA hB
  by_cases k0 : a.limit = l.limit
  · have m0 : (l.limit != a.limit) = false := by rw [bne, beq_iff_eq.2 k0.symm]; rfl
    by_cases k1 : a.next = l.next
    · have m1 : (l.next != a.next) = false := by rw [bne, beq_iff_eq.2 k1.symm]; rfl
      by_cases k2 : l.held.length = 0
      · have m2 : ((l.held.length : Int) != (0 : Int)) = false := by rw [k2]; rfl
        have k3 : l.last.length ≠ 0 := fun q => hne ⟨k0, k1, k2, q⟩
        have m3 : ((l.last.length : Int) != (0 : Int)) = true := by rw [bne, ne_true (by omega)]; rfl
        clear hne k0 k1 k2 k3
        go_enter Try.func38, Try.ntmps38
        go_wp2
        go_ret
        exact ⟨rfl, HB.out⟩
      · have m2 : ((l.held.length : Int) != (0 : Int)) = true := by rw [bne, ne_true (by omega)]; rfl
        clear hne k0 k1 k2
        go_enter Try.func38, Try.ntmps38
        go_wp2
        go_ret
        exact ⟨rfl, HB.out⟩
    · have m1 : (l.next != a.next) = true := by rw [bne, ne_true (Ne.symm k1)]; rfl
      clear hne k0 k1
      go_enter Try.func38, Try.ntmps38
      go_wp2
      go_ret
      exact ⟨rfl, HB.out⟩
  · have m0 : (l.limit != a.limit) = true := by rw [bne, ne_true (Ne.symm k0)]; rfl
    clear hne k0
    go_enter Try.func38, Try.ntmps38
    go_wp2
    go_ret
    exact ⟨rfl, HB.out⟩
theorem led_range {w : World} {g : Nat} {s : Sho} {vn vh vl : Value} (h : w.heap[g]? = some (.cells (sArr s vn vh vl) 30 (0, 0))) : w.rangeAt g 3 (lArr s.led vh vl).toList := fun j v hv => by
  have hj : j < 4 := by have := (List.getElem?_eq_some_iff.1 hv).1; simpa using this
  rw [cell_of_row w g (3 + j) _ _ _ h, ← hv]
  match j, hj with
  | 0, _ => rfl
  | 1, _ => rfl
  | 2, _ => rfl
  | 3, _ => rfl
set_option maxHeartbeats 8000000 in
theorem sho_noR (a s : Sho) (v u : Value) (w : World) (h : IsShot w v s) (g : IsShot w u a) (hz : zSho a) (hne : ¬ zSho s) : Calls Try.prog 23 #[v, u] w (SaysNo w) := by
  obtain ⟨z0, z1, z2, z3, z4, z5, z6⟩ := hz
  obtain ⟨vn, vh, vl, rfl, hn, hh, hl, hw⟩ := h
  obtain ⟨un, uh, ul, rfl, gn, gh, gl, gw⟩ := g
  obtain ⟨W1, hW1⟩ : ∃ q, (w.alloc (.cells (sArr s vn vh vl) 30)).alloc (.cells (sArr a un uh ul) 30) = q := ⟨_, rfl⟩
  have hA : W1.heap[w.heap.size]? = some (.cells (sArr s vn vh vl) 30 (0, 0)) := by rw [← hW1]; exact heap_alloc2_old _ _ _
  have hB : W1.heap[w.heap.size + 1]? = some (.cells (sArr a un uh ul) 30 (0, 0)) := by rw [← hW1]; exact heap_alloc2_new _ _ _
  have hb : Below w.heap.size w W1 := by rw [← hW1]; exact ((Below.refl _ _).alloc (Nat.le_refl _) _).alloc (by simp) _
  have c0 := (cell_of_row W1 _ 0 _ _ _ hA).trans rfl
  have d0 := (cell_of_row W1 _ 0 _ _ _ hB).trans rfl
  have c1 := (cell_of_row W1 _ 1 _ _ _ hA).trans rfl
  have d1 := (cell_of_row W1 _ 1 _ _ _ hB).trans rfl
  have c2 := (cell_of_row W1 _ 2 _ _ _ hA).trans rfl
  have d2 := (cell_of_row W1 _ 2 _ _ _ hB).trans rfl
  have c3 := (cell_of_row W1 _ 3 _ _ _ hA).trans rfl
  have d3 := (cell_of_row W1 _ 3 _ _ _ hB).trans rfl
  have c4 := (cell_of_row W1 _ 4 _ _ _ hA).trans rfl
  have d4 := (cell_of_row W1 _ 4 _ _ _ hB).trans rfl
  have c5 := (cell_of_row W1 _ 5 _ _ _ hA).trans rfl
  have d5 := (cell_of_row W1 _ 5 _ _ _ hB).trans rfl
  have c6 := (cell_of_row W1 _ 6 _ _ _ hA).trans rfl
  have d6 := (cell_of_row W1 _ 6 _ _ _ hB).trans rfl
  have HB := Lib.hid hb
  have hn0 : a.nodes = [] := List.eq_nil_of_length_eq_zero z2
  have HN := Lib.hid (hn.below hb (Nat.le_refl _))
  have GN : Hid (Sl .i64 W1 un []) := Lib.hid (by have q := gn.below hb (Nat.le_refl _); rw [hn0] at q; exact q)
  have HL : Hid (IsLed W1 (.agg (lArr s.led vh vl)) s.led) := Lib.hid ⟨_, _, rfl, hh.below hb (Nat.le_refl _), hl.below hb (Nat.le_refl _), hw.2.2⟩
  have GL : Hid (IsLed W1 (.agg (lArr a.led uh ul)) a.led) := Lib.hid ⟨_, _, rfl, gh.below hb (Nat.le_refl _), gl.below hb (Nat.le_refl _), gw.2.2⟩
  have HAR := Lib.hid hA
  have HBR := Lib.hid hB
  have HZ5 := Lib.hid z5
  have HZ6 := Lib.hid z6
  have HZ3 := Lib.hid z3
  have HZ4 := Lib.hid z4
  clear hn gn hh hl gh gl hw gw hb hA hB
  by_cases k0 : s.index = 0
  · have m0 : (s.index == a.index) = true := beq_iff_eq.2 (by rw [z0, k0])
    by_cases k1 : s.term = 0
    · have m1 : (s.term == a.term) = true := beq_iff_eq.2 (by rw [z1, k1])
      by_cases k2 : s.nodes.length = 0
      · have hs0 : s.nodes = [] := List.eq_nil_of_length_eq_zero k2
        have HN2 : Hid (Sl .i64 W1 vn []) := Lib.hid (by have q := HN.out; rw [hs0] at q; exact q)
        have HNL : Hid (¬ (a.led.limit = s.led.limit ∧ a.led.next = s.led.next ∧ s.led.held.length = 0 ∧ s.led.last.length = 0)) := Lib.hid (fun q => hne ⟨k0, k1, k2, by have := HZ3.out; omega, by have := HZ4.out; omega, q.2.2.1, q.2.2.2⟩)
        clear hne k0 k1 k2 hs0 hn0 z0 z1 z2 z3 z4 z5 z6
        go_enter Try.func23, Try.ntmps23
        go_wp2_with fail
        refine (Sh.nodes_same _ _ [] _ HN2.out GN.out).mono ?_
        rintro e w2 ⟨rfl, hb2⟩
        have ra := led_range ((hb2.block _ (lt_of_row8 HAR.out)).trans HAR.out)
        have rb := led_range ((hb2.block _ (lt_of_row8 HBR.out)).trans HBR.out)
        have HL2 := Lib.hid (HL.out.below hb2 (Nat.le_refl _))
        have GL2 := Lib.hid (GL.out.below hb2 (Nat.le_refl _))
        have HB2 := Lib.hid (HB.out.trans (hb2.mono HB.out.size))
        clear hb2 c0 c1 c2 c3 c4 c5 c6 d0 d1 d2 d3 d4 d5 d6
        go_wp2_with (first
          | (refine wpList_load_midG rfl 28 (.tmp 25) rfl w.heap.size 3 rfl (lArr s.led vh vl).toList _ ra Try.underlying28 rfl (by kernel_rfl) ?_)
          | (refine wpList_load_midG rfl 28 (.tmp 27) rfl (w.heap.size + 1) 3 rfl (lArr a.led uh ul).toList _ rb Try.underlying28 rfl (by kernel_rfl) ?_))
        refine (led_noR a.led s.led _ _ _ HL2.out GL2.out HZ5.out HZ6.out HNL.out).mono ?_
        rintro e w3 ⟨rfl, hb3⟩
        go_wp2
        go_ret
        exact ⟨rfl, HB2.out.trans (hb3.mono HB2.out.size)⟩
      · have HK2 := Lib.hid k2
        clear hne k0 k1 k2 hn0 z0 z1 z2 z3 z4 z5 z6
        go_enter Try.func23, Try.ntmps23
        go_wp2_with fail
        refine (nodes_noR s.nodes _ _ _ HN.out GN.out HK2.out).mono ?_
        rintro e w2 ⟨rfl, hb2⟩
        go_wp2
        go_ret
        exact ⟨rfl, HB.out.trans (hb2.mono HB.out.size)⟩
    · have m1 : (s.term == a.term) = false := ne_true (by omega)
      clear hne k0 k1 hn0 z0 z1 z2 z3 z4 z5 z6
      go_enter Try.func23, Try.ntmps23
      go_wp2
      go_ret
      exact ⟨rfl, HB.out⟩
  · have m0 : (s.index == a.index) = false := ne_true (by omega)
    clear hne k0 hn0 z0 z1 z2 z3 z4 z5 z6
    go_enter Try.func23, Try.ntmps23
    go_wp2
    go_ret
    exact ⟨rfl, HB.out⟩
theorem sho_eq_of {a s : Sho} (ha : zSho a) (hs : zSho s) : a = s := by
  obtain ⟨a1, a2, a3, ⟨a4, a5, a6, a7⟩⟩ := a
  obtain ⟨c1, c2, c3, ⟨c4, c5, c6, c7⟩⟩ := s
  obtain ⟨h1, h2, h3, h4, h5, h6, h7⟩ := ha
  obtain ⟨g1, g2, g3, g4, g5, g6, g7⟩ := hs
  have i3 := List.eq_nil_of_length_eq_zero h3
  have i6 := List.eq_nil_of_length_eq_zero h6
  have i7 := List.eq_nil_of_length_eq_zero h7
  have j3 := List.eq_nil_of_length_eq_zero g3
  have j6 := List.eq_nil_of_length_eq_zero g6
  have j7 := List.eq_nil_of_length_eq_zero g7
  dsimp only at *
  subst h1 h2 h4 h5 i3 i6 i7 g1 g2 g4 g5 j3 j6 j7
  rfl
end Rc
end Go.Proofs.Yteapccniloednaa
