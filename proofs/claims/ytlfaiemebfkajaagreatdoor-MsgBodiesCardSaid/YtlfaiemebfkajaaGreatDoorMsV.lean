/- A message, read as an argument. No condition. A snapshot and the empty one: the document's Same, either way round. No condition. Package msg: which fields a kind has, what is in a field. No condition. Package msg: empty. No condition. Package msg: logTermFits, feedFits, putFits. No condition. Package msg: fits, Check. No condition. -/
import Derived.Test.YtlfaiemebfkajaaGreatDoorHdT
import Derived.Test.YtlfaiemebfkajaaGreatDoorRcZ
import Derived.Test.YtlfaiemebfkajaaGreatDoorSmE
import Derived.Deep.MidRow
import Derived.Deep.RegionHeld3
import Derived.Test.YtlfaiemebfkajaaGreatDoorHdC
import Derived.Test.YtlfaiemebfkajaaGreatDoorShC
namespace Go.Proofs.YtlfaiemebfkajaaGreatDoor
open Go.ChangeShapes Go.WideShapes Go.ChangeAt Go.RowKit Go.Deep
set_option linter.unusedVariables false
set_option maxRecDepth 100000
structure Mes where
  kind : Int
  src : Int
  dst : Int
  term : Int
  index : Int
  lterm : Int
  commit : Int
  flag : Bool
  ents : List Ent
  shot : Sho
abbrev mArr (m : Mes) (ve vn vh vl : Value) : Array Value := #[.int .i64 m.kind, .int .i64 m.src, .int .i64 m.dst, .int .u64 m.term, .int .u64 m.index, .int .u64 m.lterm, .int .u64 m.commit, .bool m.flag, ve, .int .u64 m.shot.index, .int .u64 m.shot.term, vn, .int .i64 m.shot.led.limit, .int .u64 m.shot.led.next, vh, vl]
def Mes.wf (m : Mes) : Prop := (Lit.int .i64 m.kind).wf = true ∧ (Lit.int .i64 m.src).wf = true ∧ (Lit.int .i64 m.dst).wf = true ∧ (Lit.int .u64 m.term).wf = true ∧ (Lit.int .u64 m.index).wf = true ∧ (Lit.int .u64 m.lterm).wf = true ∧ (Lit.int .u64 m.commit).wf = true ∧ m.shot.wf
def IsMsg (w : World) (v : Value) (m : Mes) : Prop := ∃ ve vn vh vl, v = .agg (mArr m ve vn vh vl) ∧ IsLog w ve m.ents ∧ Sl .i64 w vn m.shot.nodes ∧ SlR 5 heldC w vh m.shot.led.held ∧ SlR 6 lastC w vl m.shot.led.last ∧ m.wf
def IsMsg.size (m : Mes) : Nat := 0
def IsMsg.fits (m : Mes) : Prop := IsShot.fits m.shot ∧ m.ents.length * 88 ≤ 140737488351232 ∧ ∀ x ∈ m.ents, IsCmd.fits x.cmd
theorem IsMsg.below {w w' : World} {v : Value} {m : Mes} {B : Nat} (h : IsMsg w v m) (hb : Below B w w') (hB : w.heap.size ≤ B) : IsMsg w' v m := by
  obtain ⟨ve, vn, vh, vl, e, h0, h1, h2, h3, h4⟩ := h
  exact ⟨ve, vn, vh, vl, e, h0.below hb hB, h1.below hb hB, h2.below hb hB, h3.below hb hB, h4⟩
section
variable {H : Type} {enc : TypeId × Value → H} {P : Program} {W : World}
theorem bool_cell {t : TypeId} {n : Nat} {v : Value} {y : DataW H × List MemPlace} (ht : P.underlying t = some .bool) (h : DataW.trod enc P W 0 (fun _ => true) true n t [v] = some y) :
    ∃ z, v = .bool z := by
  obtain ⟨z, h1, _⟩ := DataW.trod_bool ht h
  simp only [List.cons.injEq, and_true] at h1
  exact ⟨z, h1⟩
theorem trod_msg {n : Nat} {cs : List Value} {y : DataW H × List MemPlace} (h : DataW.trod enc Tryz.prog W 0 (fun _ => true) true n 33 cs = some y) :
    ∃ m ve vn vh vl, cs = (mArr m ve vn vh vl).toList ∧ (IsLog W ve m.ents ∧ Sl .i64 W vn m.shot.nodes ∧ SlR 5 heldC W vh m.shot.led.held ∧ SlR 6 lastC W vl m.shot.led.last ∧ m.wf) ∧ (Wt Tryz.prog 33 y.1 → IsMsg.fits m) := by
  obtain ⟨xs, m, _, rfl, hlen, hxl, hf⟩ := DataW.trod_struct Tryz.underlying33 h
  have hl : cs.length = 16 := hlen.trans (by kernel_rfl)
  match cs, hl, xs, hxl with
  | [c0, c1, c2, c3, c4, c5, c6, c7, c8, c9, c10, c11, c12, c13, c14, c15], _, [y0, y1, y2, y3, y4, y5, y6, y7, y8, y9], _ =>
    have k1 : Tryz.prog.cellsOf 3 = 1 := by kernel_rfl
    have k2 : Tryz.prog.cellsOf 4 = 1 := by kernel_rfl
    have k3 : Tryz.prog.cellsOf 23 = 1 := by kernel_rfl
    have k7 : Tryz.prog.cellsOf 31 = 7 := by kernel_rfl
    have ke : Tryz.prog.cellsOf 24 = 1 := by kernel_rfl
    obtain ⟨z0, rfl, w0⟩ := int_cell (P := Tryz.prog) Tryz.underlying3 (by simpa [k1] using hf 0 _ rfl)
    obtain ⟨z1, rfl, w1⟩ := int_cell (P := Tryz.prog) Tryz.underlying3 (by simpa [k1] using hf 1 _ rfl)
    obtain ⟨z2, rfl, w2⟩ := int_cell (P := Tryz.prog) Tryz.underlying3 (by simpa [k1] using hf 2 _ rfl)
    obtain ⟨z3, rfl, w3⟩ := int_cell (P := Tryz.prog) Tryz.underlying23 (by simpa [k3] using hf 3 _ rfl)
    obtain ⟨z4, rfl, w4⟩ := int_cell (P := Tryz.prog) Tryz.underlying23 (by simpa [k3] using hf 4 _ rfl)
    obtain ⟨z5, rfl, w5⟩ := int_cell (P := Tryz.prog) Tryz.underlying23 (by simpa [k3] using hf 5 _ rfl)
    obtain ⟨z6, rfl, w6⟩ := int_cell (P := Tryz.prog) Tryz.underlying23 (by simpa [k3] using hf 6 _ rfl)
    obtain ⟨z7, rfl⟩ := bool_cell (P := Tryz.prog) Tryz.underlying4 (by simpa [k2] using hf 7 _ rfl)
    obtain ⟨rows, g1, g2, g3⟩ := rows_cell2 (P := Tryz.prog) (C := entC) (Q := fun r => Sl .i64 W r.2 r.1.cmd.nodes ∧ r.1.wf) (F := fun r => IsCmd.fits r.1.cmd) Tryz.underlying24 (sz := 9) (by kernel_rfl) (by omega) (fun m cs y h => trod_entry h) (by simpa [ke] using hf 8 _ rfl)
    obtain ⟨s, vn, vh, vl, hcs, ⟨h1, h2, h3, h4⟩, h5⟩ := trod_shot (by simpa [k7] using hf 9 _ rfl)
    simp only [List.cons.injEq, and_true] at hcs
    obtain ⟨rfl, rfl, rfl, rfl, rfl, rfl, rfl⟩ := hcs
    refine ⟨⟨z0, z1, z2, z3, z4, z5, z6, z7, rows.map Prod.fst, s⟩, c8, _, _, _, rfl, ⟨⟨rows, g1, g2, rfl⟩, h1, h2, h3, w0, w1, w2, w3, w4, w5, w6, h4⟩, fun hw => ⟨h5 (wt_field Tryz.underlying33 hw (j := 9) rfl rfl), ?_⟩⟩
    obtain ⟨q1, q2⟩ := g3 (wt_field Tryz.underlying33 hw (j := 8) rfl rfl)
    rw [show Tryz.prog.bytesOf 88 = 88 from by kernel_rfl] at q1
    unfold reachBytes at q1
    refine ⟨by simp; omega, fun x hx => ?_⟩
    obtain ⟨r, hr, rfl⟩ := List.mem_map.1 hx
    exact q2 r hr
theorem open_msg {base : Nat} {v : Value} {d : DataW H} {ps : List MemPlace}
    (hok : Value.okWide Tryz.prog W .any base 33 v) (h : DataW.Trod enc Tryz.prog W 0 (fun _ => true) true 33 v d ps) : ∃ m, IsMsg W v m ∧ IsMsg.size m ≤ Rows.uptoBulk d ∧ (Wt Tryz.prog 33 d → IsMsg.fits m) := by
  obtain ⟨cs, rfl, hsz⟩ := okWide_struct Tryz.underlying33 hok
  obtain ⟨fuel, hf⟩ := h
  obtain ⟨m, ve, vn, vh, vl, hcs, h1, h4⟩ := trod_msg hf
  refine ⟨m, ⟨ve, vn, vh, vl, ?_, h1⟩, Nat.zero_le _, h4⟩
  obtain ⟨q⟩ := cs
  simp only [Value.cells] at hcs
  subst hcs
  rfl
end
namespace Ms
theorem cells16 {w : World} {g : Nat} {m : Mes} {ve vn vh vl : Value} (h : w.heap[g]? = some (.cells (mArr m ve vn vh vl) 33 (0, 0))) :
    w.cell? ⟨g, 0, none⟩ = some (.int .i64 m.kind) ∧ w.cell? ⟨g, 1, none⟩ = some (.int .i64 m.src) ∧ w.cell? ⟨g, 2, none⟩ = some (.int .i64 m.dst) ∧ w.cell? ⟨g, 3, none⟩ = some (.int .u64 m.term) ∧ w.cell? ⟨g, 4, none⟩ = some (.int .u64 m.index) ∧ w.cell? ⟨g, 5, none⟩ = some (.int .u64 m.lterm) ∧ w.cell? ⟨g, 6, none⟩ = some (.int .u64 m.commit) ∧ w.cell? ⟨g, 7, none⟩ = some (.bool m.flag) ∧ w.cell? ⟨g, 8, none⟩ = some ve ∧ w.cell? ⟨g, 9, none⟩ = some (.int .u64 m.shot.index) ∧ w.cell? ⟨g, 10, none⟩ = some (.int .u64 m.shot.term) ∧ w.cell? ⟨g, 11, none⟩ = some vn ∧ w.cell? ⟨g, 12, none⟩ = some (.int .i64 m.shot.led.limit) ∧ w.cell? ⟨g, 13, none⟩ = some (.int .u64 m.shot.led.next) ∧ w.cell? ⟨g, 14, none⟩ = some vh ∧ w.cell? ⟨g, 15, none⟩ = some vl :=
  ⟨(cell_of_row w _ 0 _ _ _ h).trans rfl, (cell_of_row w _ 1 _ _ _ h).trans rfl, (cell_of_row w _ 2 _ _ _ h).trans rfl, (cell_of_row w _ 3 _ _ _ h).trans rfl, (cell_of_row w _ 4 _ _ _ h).trans rfl, (cell_of_row w _ 5 _ _ _ h).trans rfl, (cell_of_row w _ 6 _ _ _ h).trans rfl, (cell_of_row w _ 7 _ _ _ h).trans rfl, (cell_of_row w _ 8 _ _ _ h).trans rfl, (cell_of_row w _ 9 _ _ _ h).trans rfl, (cell_of_row w _ 10 _ _ _ h).trans rfl, (cell_of_row w _ 11 _ _ _ h).trans rfl, (cell_of_row w _ 12 _ _ _ h).trans rfl, (cell_of_row w _ 13 _ _ _ h).trans rfl, (cell_of_row w _ 14 _ _ _ h).trans rfl, (cell_of_row w _ 15 _ _ _ h).trans rfl⟩
theorem IsMsg_shot {w : World} {m : Mes} {ve vn vh vl : Value} (h : IsMsg w (.agg (mArr m ve vn vh vl)) m) : IsShot w (.agg (sArr m.shot vn vh vl)) m.shot := by
  obtain ⟨ve', vn', vh', vl', e, h0, h1, h2, h3, h4⟩ := h
  simp only [Value.agg.injEq, Array.mk.injEq, List.cons.injEq, and_true, true_and] at e
  obtain ⟨rfl, rfl, rfl, rfl⟩ := e
  exact ⟨_, _, _, rfl, h1, h2, h3, h4.2.2.2.2.2.2.2⟩
theorem IsMsg_log {w : World} {m : Mes} {ve vn vh vl : Value} (h : IsMsg w (.agg (mArr m ve vn vh vl)) m) : IsLog w ve m.ents := by
  obtain ⟨ve', vn', vh', vl', e, h0, h1, h2, h3, h4⟩ := h
  simp only [Value.agg.injEq, Array.mk.injEq, List.cons.injEq, and_true, true_and] at e
  obtain ⟨rfl, rfl, rfl, rfl⟩ := e
  exact h0
end Ms
end Go.Proofs.YtlfaiemebfkajaaGreatDoor
namespace Go.Proofs.YtlfaiemebfkajaaGreatDoor
open Go.ChangeShapes Go.WideShapes Go.ChangeAt Go.RowKit Go.Deep
set_option linter.unusedVariables false
set_option maxRecDepth 100000
theorem wpList_load_midG {P : Program} {ops : Array Oper} {rest : List Oper} {op : Oper} {a : Act} {w : World} {Q : Exit → Act → World → Prop} (hw : Region.wanted op (yielded ops a.tmps) = true) (ty : TypeId) (x : Operand) (ho : op.op = .load ty x)
    (b o : Nat) (hx : a.eval x = .pointer (some ⟨b, o, none⟩)) (cs : List Value) (d : TypeDesc) (hc : w.rangeAt b o cs)
    (hu : P.underlying ty = some d) (hd : d.isRow = true) (hi : (P.info? ty).map (·.size) = some cs.length)
    (h : wpList P ops Q rest (a.put op.dst (.agg cs.toArray)) w) : wpList P ops Q (op :: rest) a w :=
  BigFrame.wpList_want hw fun _ hK => wp_load_mid ty x ho b o hx cs d hc hu hd hi (hK _ _ h)
namespace Rc
open Hd Nv
theorem ret_bool {b c : Bool} (h : b = c) : Ending.returned (.bool b) = .returned (.bool c) := by rw [h]
def SaysNo (w : World) (e : Ending) (w' : World) : Prop := e = .returned (.bool false) ∧ Below w.heap.size w w'
theorem ne_true {a b : Int} (h : a ≠ b) : (a == b) = false := beq_eq_false_iff_ne.2 h
theorem lt_of_row8 {w : World} {g : Nat} {o : Obj} (h : w.heap[g]? = some o) : g < w.heap.size := (Array.getElem?_eq_some_iff.1 h).1
theorem nodes_noR (zs : List Int) (v u : Value) (w : World) (h2 : Sl .i64 w v zs) (h1 : Sl .i64 w u []) (hz : zs.length ≠ 0) : Calls Tryz.prog 55 #[v, u] w (SaysNo w) := by
  refine (Nd.same_any v u zs [] w h2 h1).mono ?_
  rintro e w2 ⟨rfl, hb⟩
  exact ⟨ret_bool (decide_eq_false (fun q => hz (by rw [q]; rfl))), hb⟩
set_option maxHeartbeats 8000000 in
theorem led_noR (a l : Led) (v u : Value) (w : World) (h : IsLed w v l) (g : IsLed w u a) (ha : a.held.length = 0) (hb : a.last.length = 0) (hne : ¬ (a.limit = l.limit ∧ a.next = l.next ∧ l.held.length = 0 ∧ l.last.length = 0)) : Calls Tryz.prog 56 #[v, u] w (SaysNo w) := by
  obtain ⟨vh, vl, rfl, h1, h2, -⟩ := h
  obtain ⟨uh, ul, rfl, g1, g2, -⟩ := g
  obtain ⟨a1, c1, rfl, -⟩ := h1
  obtain ⟨a2, c2, rfl, -⟩ := h2
  obtain ⟨a3, c3, rfl, -⟩ := g1
  obtain ⟨a4, c4, rfl, -⟩ := g2
  rw [ha, hb]
  obtain ⟨W1, hW1⟩ : ∃ q, (w.alloc (.cells (lArr l (.slice a1 l.held.length c1) (.slice a2 l.last.length c2)) 29)).alloc (.cells (lArr a (.slice a3 0 c3) (.slice a4 0 c4)) 29) = q := ⟨_, rfl⟩
  have hA : W1.heap[w.heap.size]? = some (.cells (lArr l (.slice a1 l.held.length c1) (.slice a2 l.last.length c2)) 29 (0, 0)) := by rw [← hW1]; exact heap_alloc2_old _ _ _
  have hB : W1.heap[w.heap.size + 1]? = some (.cells (lArr a (.slice a3 0 c3) (.slice a4 0 c4)) 29 (0, 0)) := by rw [← hW1]; exact heap_alloc2_new _ _ _
  have hbw : Below w.heap.size w W1 := by rw [← hW1]; exact ((Below.refl _ _).alloc (Nat.le_refl _) _).alloc (by simp) _
  have c0 := (cell_of_row W1 _ 0 _ _ _ hA).trans rfl
  have d0 := (cell_of_row W1 _ 0 _ _ _ hB).trans rfl
  have c1 := (cell_of_row W1 _ 1 _ _ _ hA).trans rfl
  have d1 := (cell_of_row W1 _ 1 _ _ _ hB).trans rfl
  have c2 := (cell_of_row W1 _ 2 _ _ _ hA).trans rfl
  have d2 := (cell_of_row W1 _ 2 _ _ _ hB).trans rfl
  have c3 := (cell_of_row W1 _ 3 _ _ _ hA).trans rfl
  have d3 := (cell_of_row W1 _ 3 _ _ _ hB).trans rfl
  have HB := Lib.hid hbw
  clear hbw hA hB
  by_cases k0 : a.limit = l.limit
  · have m0 : (l.limit != a.limit) = false := by rw [bne, beq_iff_eq.2 k0.symm]; rfl
    by_cases k1 : a.next = l.next
    · have m1 : (l.next != a.next) = false := by rw [bne, beq_iff_eq.2 k1.symm]; rfl
      by_cases k2 : l.held.length = 0
      · have m2 : ((l.held.length : Int) != (0 : Int)) = false := by rw [k2]; rfl
        have k3 : l.last.length ≠ 0 := fun q => hne ⟨k0, k1, k2, q⟩
        have m3 : ((l.last.length : Int) != (0 : Int)) = true := by rw [bne, ne_true (by omega)]; rfl
        clear hne k0 k1 k2 k3
        go_enter Tryz.func56, Tryz.ntmps56
        go_wp2
        go_ret
        exact ⟨rfl, HB.out⟩
      · have m2 : ((l.held.length : Int) != (0 : Int)) = true := by rw [bne, ne_true (by omega)]; rfl
        clear hne k0 k1 k2
        go_enter Tryz.func56, Tryz.ntmps56
        go_wp2
        go_ret
        exact ⟨rfl, HB.out⟩
    · have m1 : (l.next != a.next) = true := by rw [bne, ne_true (Ne.symm k1)]; rfl
      clear hne k0 k1
      go_enter Tryz.func56, Tryz.ntmps56
      go_wp2
      go_ret
      exact ⟨rfl, HB.out⟩
  · have m0 : (l.limit != a.limit) = true := by rw [bne, ne_true (Ne.symm k0)]; rfl
    clear hne k0
    go_enter Tryz.func56, Tryz.ntmps56
    go_wp2
    go_ret
    exact ⟨rfl, HB.out⟩
theorem led_range {w : World} {g : Nat} {s : Sho} {vn vh vl : Value} (h : w.heap[g]? = some (.cells (sArr s vn vh vl) 31 (0, 0))) : w.rangeAt g 3 (lArr s.led vh vl).toList := fun j v hv => by
  have hj : j < 4 := by have := (List.getElem?_eq_some_iff.1 hv).1; simpa using this
  rw [cell_of_row w g (3 + j) _ _ _ h, ← hv]
  match j, hj with
  | 0, _ => rfl
  | 1, _ => rfl
  | 2, _ => rfl
  | 3, _ => rfl
set_option maxHeartbeats 8000000 in
theorem sho_noR (a s : Sho) (v u : Value) (w : World) (h : IsShot w v s) (g : IsShot w u a) (hz : zSho a) (hne : ¬ zSho s) : Calls Tryz.prog 20 #[v, u] w (SaysNo w) := by
  obtain ⟨z0, z1, z2, z3, z4, z5, z6⟩ := hz
  obtain ⟨vn, vh, vl, rfl, hn, hh, hl, hw⟩ := h
  obtain ⟨un, uh, ul, rfl, gn, gh, gl, gw⟩ := g
  obtain ⟨W1, hW1⟩ : ∃ q, (w.alloc (.cells (sArr s vn vh vl) 31)).alloc (.cells (sArr a un uh ul) 31) = q := ⟨_, rfl⟩
  have hA : W1.heap[w.heap.size]? = some (.cells (sArr s vn vh vl) 31 (0, 0)) := by rw [← hW1]; exact heap_alloc2_old _ _ _
  have hB : W1.heap[w.heap.size + 1]? = some (.cells (sArr a un uh ul) 31 (0, 0)) := by rw [← hW1]; exact heap_alloc2_new _ _ _
  have hb : Below w.heap.size w W1 := by rw [← hW1]; exact ((Below.refl _ _).alloc (Nat.le_refl _) _).alloc (by simp) _
  have c0 := (cell_of_row W1 _ 0 _ _ _ hA).trans rfl
  have d0 := (cell_of_row W1 _ 0 _ _ _ hB).trans rfl
  have c1 := (cell_of_row W1 _ 1 _ _ _ hA).trans rfl
  have d1 := (cell_of_row W1 _ 1 _ _ _ hB).trans rfl
  have c2 := (cell_of_row W1 _ 2 _ _ _ hA).trans rfl
  have d2 := (cell_of_row W1 _ 2 _ _ _ hB).trans rfl
  have c3 := (cell_of_row W1 _ 3 _ _ _ hA).trans rfl
  have d3 := (cell_of_row W1 _ 3 _ _ _ hB).trans rfl
  have c4 := (cell_of_row W1 _ 4 _ _ _ hA).trans rfl
  have d4 := (cell_of_row W1 _ 4 _ _ _ hB).trans rfl
  have c5 := (cell_of_row W1 _ 5 _ _ _ hA).trans rfl
  have d5 := (cell_of_row W1 _ 5 _ _ _ hB).trans rfl
  have c6 := (cell_of_row W1 _ 6 _ _ _ hA).trans rfl
  have d6 := (cell_of_row W1 _ 6 _ _ _ hB).trans rfl
  have HB := Lib.hid hb
  have hn0 : a.nodes = [] := List.eq_nil_of_length_eq_zero z2
  have HN := Lib.hid (hn.below hb (Nat.le_refl _))
  have GN : Hid (Sl .i64 W1 un []) := Lib.hid (by have q := gn.below hb (Nat.le_refl _); rw [hn0] at q; exact q)
  have HL : Hid (IsLed W1 (.agg (lArr s.led vh vl)) s.led) := Lib.hid ⟨_, _, rfl, hh.below hb (Nat.le_refl _), hl.below hb (Nat.le_refl _), hw.2.2⟩
  have GL : Hid (IsLed W1 (.agg (lArr a.led uh ul)) a.led) := Lib.hid ⟨_, _, rfl, gh.below hb (Nat.le_refl _), gl.below hb (Nat.le_refl _), gw.2.2⟩
  have HAR := Lib.hid hA
  have HBR := Lib.hid hB
  have HZ5 := Lib.hid z5
  have HZ6 := Lib.hid z6
  have HZ3 := Lib.hid z3
  have HZ4 := Lib.hid z4
  clear hn gn hh hl gh gl hw gw hb hA hB
  by_cases k0 : s.index = 0
  · have m0 : (s.index == a.index) = true := beq_iff_eq.2 (by rw [z0, k0])
    by_cases k1 : s.term = 0
    · have m1 : (s.term == a.term) = true := beq_iff_eq.2 (by rw [z1, k1])
      by_cases k2 : s.nodes.length = 0
      · have hs0 : s.nodes = [] := List.eq_nil_of_length_eq_zero k2
        have HN2 : Hid (Sl .i64 W1 vn []) := Lib.hid (by have q := HN.out; rw [hs0] at q; exact q)
        have HNL : Hid (¬ (a.led.limit = s.led.limit ∧ a.led.next = s.led.next ∧ s.led.held.length = 0 ∧ s.led.last.length = 0)) := Lib.hid (fun q => hne ⟨k0, k1, k2, by have := HZ3.out; omega, by have := HZ4.out; omega, q.2.2.1, q.2.2.2⟩)
        clear hne k0 k1 k2 hs0 hn0 z0 z1 z2 z3 z4 z5 z6
        go_enter Tryz.func20, Tryz.ntmps20
        go_wp2_with fail
        refine (Sh.nodes_same _ _ [] _ HN2.out GN.out).mono ?_
        rintro e w2 ⟨rfl, hb2⟩
        have ra := led_range ((hb2.block _ (lt_of_row8 HAR.out)).trans HAR.out)
        have rb := led_range ((hb2.block _ (lt_of_row8 HBR.out)).trans HBR.out)
        have HL2 := Lib.hid (HL.out.below hb2 (Nat.le_refl _))
        have GL2 := Lib.hid (GL.out.below hb2 (Nat.le_refl _))
        have HB2 := Lib.hid (HB.out.trans (hb2.mono HB.out.size))
        clear hb2 c0 c1 c2 c3 c4 c5 c6 d0 d1 d2 d3 d4 d5 d6
        go_wp2_with (first
          | (refine wpList_load_midG rfl 29 (.tmp 25) rfl w.heap.size 3 rfl (lArr s.led vh vl).toList _ ra Tryz.underlying29 rfl (by kernel_rfl) ?_)
          | (refine wpList_load_midG rfl 29 (.tmp 27) rfl (w.heap.size + 1) 3 rfl (lArr a.led uh ul).toList _ rb Tryz.underlying29 rfl (by kernel_rfl) ?_))
        refine (led_noR a.led s.led _ _ _ HL2.out GL2.out HZ5.out HZ6.out HNL.out).mono ?_
        rintro e w3 ⟨rfl, hb3⟩
        go_wp2
        go_ret
        exact ⟨rfl, HB2.out.trans (hb3.mono HB2.out.size)⟩
      · have HK2 := Lib.hid k2
        clear hne k0 k1 k2 hn0 z0 z1 z2 z3 z4 z5 z6
        go_enter Tryz.func20, Tryz.ntmps20
        go_wp2_with fail
        refine (nodes_noR s.nodes _ _ _ HN.out GN.out HK2.out).mono ?_
        rintro e w2 ⟨rfl, hb2⟩
        go_wp2
        go_ret
        exact ⟨rfl, HB.out.trans (hb2.mono HB.out.size)⟩
    · have m1 : (s.term == a.term) = false := ne_true (by omega)
      clear hne k0 k1 hn0 z0 z1 z2 z3 z4 z5 z6
      go_enter Tryz.func20, Tryz.ntmps20
      go_wp2
      go_ret
      exact ⟨rfl, HB.out⟩
  · have m0 : (s.index == a.index) = false := ne_true (by omega)
    clear hne k0 hn0 z0 z1 z2 z3 z4 z5 z6
    go_enter Tryz.func20, Tryz.ntmps20
    go_wp2
    go_ret
    exact ⟨rfl, HB.out⟩
theorem sho_eq_of {a s : Sho} (ha : zSho a) (hs : zSho s) : a = s := by
  obtain ⟨a1, a2, a3, ⟨a4, a5, a6, a7⟩⟩ := a
  obtain ⟨c1, c2, c3, ⟨c4, c5, c6, c7⟩⟩ := s
  obtain ⟨h1, h2, h3, h4, h5, h6, h7⟩ := ha
  obtain ⟨g1, g2, g3, g4, g5, g6, g7⟩ := hs
  have i3 := List.eq_nil_of_length_eq_zero h3
  have i6 := List.eq_nil_of_length_eq_zero h6
  have i7 := List.eq_nil_of_length_eq_zero h7
  have j3 := List.eq_nil_of_length_eq_zero g3
  have j6 := List.eq_nil_of_length_eq_zero g6
  have j7 := List.eq_nil_of_length_eq_zero g7
  dsimp only at *
  subst h1 h2 h4 h5 i3 i6 i7 g1 g2 g4 g5 j3 j6 j7
  rfl
end Rc
end Go.Proofs.YtlfaiemebfkajaaGreatDoor
namespace Go.Proofs.YtlfaiemebfkajaaGreatDoor
open Go.ChangeShapes Go.WideShapes Go.ChangeAt Go.RowKit
set_option linter.unusedVariables false
set_option maxRecDepth 100000
namespace Ms
open Nv
theorem isNode_any (n : Int) (w : World) : Calls Tryz.prog 36 #[.int .i64 n] w fun e w' => e = .returned (.bool (decide (1 ≤ n ∧ n ≤ 7))) ∧ w = w' := by
  go_enter Tryz.func36, Tryz.ntmps36
  go_wp2
  all_goals (go_ret; exact ⟨ret_bool (by first | (exact decide_eq_decide.2 (by omega)) | (simp; omega)), rfl⟩)
def fieldsM (k : Int) : List Int := if k = 1 then [0, 1, 2] else if k = 2 then [0, 4] else if k = 3 then [0, 1, 2, 3, 5] else if k = 4 then [0, 4, 1] else if k = 5 then [0, 6] else if k = 6 then [5] else []
def kindM (k : Int) : Prop := 1 ≤ k ∧ k ≤ 6
def GivesF (k : Int) (w : World) (e : Ending) (w' : World) : Prop := ∃ ad c, e = .returned (.slice (some ad) (fieldsM k).length c) ∧ Sl .i64 w' (.slice (some ad) (fieldsM k).length c) (fieldsM k) ∧ Below w.heap.size w w'
set_option maxHeartbeats 800000 in
theorem fields_any (k : Int) (w : World) (h : kindM k) : Calls Tryz.prog 29 #[.int .i64 k] w (GivesF k w) := by
  unfold kindM at h
  rcases (show k = 1 ∨ k = 2 ∨ k = 3 ∨ k = 4 ∨ k = 5 ∨ k = 6 by omega) with rfl | rfl | rfl | rfl | rfl | rfl
  all_goals
    clear h
    go_enter Tryz.func29, Tryz.ntmps29
    go_wp2
    go_ret
    exact ⟨_, _, rfl, Sl.new (fr := (0, 0)) w _ (fieldsM _) rfl rfl (Nat.le_refl _) (by decide) (by decide), (Below.refl _ _).alloc (Nat.le_refl _) _⟩
set_option maxHeartbeats 800000 in
theorem fields_no (k : Int) (w : World) (h : ¬ kindM k) : Calls Tryz.prog 29 #[.int .i64 k] w fun e w' => e = .returned (.slice none 0 0) ∧ w = w' := by
  unfold kindM at h
  have h1 : (k == 1) = false := beq_eq_false_iff_ne.2 (by omega)
  have h2 : (k == 2) = false := beq_eq_false_iff_ne.2 (by omega)
  have h3 : (k == 3) = false := beq_eq_false_iff_ne.2 (by omega)
  have h4 : (k == 4) = false := beq_eq_false_iff_ne.2 (by omega)
  have h5 : (k == 5) = false := beq_eq_false_iff_ne.2 (by omega)
  have h6 : (k == 6) = false := beq_eq_false_iff_ne.2 (by omega)
  clear h
  go_enter Tryz.func29, Tryz.ntmps29
  go_wp2
  go_ret
  exact ⟨rfl, rfl⟩
def IdxOf (zs : List Int) (n : Int) (w : World) (e : Ending) (w' : World) : Prop := (∃ i : Int, e = .returned (.int .i64 i) ∧ decide (0 ≤ i) = decide (n ∈ zs)) ∧ w = w'
set_option maxHeartbeats 400000 in
theorem findex_any (v : Value) (zs : List Int) (n : Int) (w : World) (hs : Sl .i64 w v zs) :
    Calls Tryz.prog 68 #[v, .int .i64 n] w (IdxOf zs n w) := by
  rcases Nd.Sl.cases hs with ⟨a, cap, rfl, rfl⟩ | ⟨b, off, cap, rfl, h0, hlc, hcm, hlt, hc⟩
  · clear hs
    go_enter Tryz.func68, Tryz.ntmps68
    go_wp2
    refine wp_loop_rounds 1 ?_
    rw [rounds_succ]
    go_wp2
    go_ret
    exact ⟨⟨-1, rfl, by simp⟩, rfl⟩
  · have HC := Lib.hid hc
    clear hs hc
    go_enter Tryz.func68, Tryz.ntmps68
    go_wp2
    go_loop [8] (fun i => ∃ k : Nat, k ≤ zs.length ∧ i = .int .i64 k ∧ Hid (n ∉ zs.take k)) (fun i => zs.length - (intOf i).toNat)
    case atStart => exact ⟨0, Nat.zero_le _, rfl, Lib.hid (by simp)⟩
    case round =>
      obtain ⟨k, hk, rfl, HO⟩ := hrel
      by_cases hlt2 : k < zs.length
      · have hcx := HC.out k hlt2
        have HM := Lib.hid (Nd.mem_get hlt2)
        have HT := Lib.hid (Nd.take_get hlt2)
        generalize zs.getD k 0 = z at *
        by_cases hz : z = n
        · subst hz
          have HB := Lib.hid (decide_eq_true HM.out)
          go_wp2
          go_ret
          exact ⟨⟨k, rfl, by rw [HB.out]; simp⟩, rfl⟩
        · have hz2 : (n == z) = false := by rw [beq_eq_false_iff_ne]; exact fun h => hz h.symm
          have HO2 : Hid (n ∉ zs.take (k + 1)) := by
            refine Lib.hid ?_
            rw [HT.out, List.mem_append, List.mem_singleton]
            rintro (h | h)
            · exact HO.out h
            · exact hz h.symm
          clear hz
          go_wp2
          go_round
          case rel => exact ⟨k + 1, by omega, by go_num, HO2⟩
          case measure => simp [intOf]; omega
      · obtain rfl : k = zs.length := by omega
        have HO2 := HO.out
        rw [List.take_length] at HO2
        have HB := Lib.hid (decide_eq_false HO2)
        clear HO2
        go_wp2
        go_ret
        exact ⟨⟨-1, rfl, by rw [HB.out]; simp⟩, rfl⟩

set_option maxHeartbeats 400000 in
theorem fcontains_any (v : Value) (zs : List Int) (n : Int) (w : World) (hs : Sl .i64 w v zs) :
    Calls Tryz.prog 37 #[v, .int .i64 n] w fun e w' => e = .returned (.bool (decide (n ∈ zs))) ∧ w = w' := by
  go_enter Tryz.func37, Tryz.ntmps37
  go_wp2_with fail
  refine (findex_any _ _ _ _ hs).mono ?_
  rintro e w' ⟨⟨i, rfl, hi⟩, rfl⟩
  have HI := Lib.hid hi
  clear hi
  go_wp2
  all_goals (go_ret; exact ⟨ret_bool HI.out, rfl⟩)



def numM (m : Mes) : Nat → Int
  | 0 => m.term
  | 1 => m.index
  | 2 => m.lterm
  | _ => m.commit
set_option maxHeartbeats 800000 in
theorem number_any (m : Mes) (f : Nat) (hf : f ≤ 3) (v : Value) (w : World) (h : IsMsg w v m) :
    Calls Tryz.prog 70 #[v, .int .i64 f] w fun e w' => e = .returned (.int .u64 (numM m f)) ∧ Below w.heap.size w w' := by
  obtain ⟨ve, vn, vh, vl, rfl, hl, hn, hh, hla, hwf⟩ := h
  obtain ⟨q0, q1, q2, q3, q4, q5, q6, -⟩ := cells16 (heap_alloc_new w (.cells (mArr m ve vn vh vl) 33 (0, 0)))
  clear hl hn hh hla hwf
  rcases (show f = 0 ∨ f = 1 ∨ f = 2 ∨ f = 3 by omega) with rfl | rfl | rfl | rfl
  all_goals
    clear hf
    go_enter Tryz.func70, Tryz.ntmps70
    go_wp2
    go_ret
    exact ⟨rfl, (Below.refl _ _).alloc (Nat.le_refl _) _⟩
/-- a field is zero -/
def zF (m : Mes) (f : Nat) : Prop := if f = 4 then m.flag = false else if f = 5 then m.ents.length = 0 else if f = 6 then zSho m.shot else numM m f = 0
end Ms
end Go.Proofs.YtlfaiemebfkajaaGreatDoor
namespace Go.Proofs.YtlfaiemebfkajaaGreatDoor
open Go.ChangeShapes Go.WideShapes Go.ChangeAt Go.RowKit Go.Deep
set_option linter.unusedVariables false
set_option maxRecDepth 100000
namespace Ms
open Nv
theorem shot_range {w : World} {g : Nat} {m : Mes} {ve vn vh vl : Value} (h : w.heap[g]? = some (.cells (mArr m ve vn vh vl) 33 (0, 0))) : w.rangeAt g 9 (sArr m.shot vn vh vl).toList := fun j v hv => by
  have hj : j < 7 := by have := (List.getElem?_eq_some_iff.1 hv).1; simpa using this
  rw [cell_of_row w g (9 + j) _ _ _ h, ← hv]
  match j, hj with
  | 0, _ => rfl
  | 1, _ => rfl
  | 2, _ => rfl
  | 3, _ => rfl
  | 4, _ => rfl
  | 5, _ => rfl
  | 6, _ => rfl
set_option maxHeartbeats 2000000 in
theorem empty_any (m : Mes) (f : Nat) (hf : f ≤ 6) (v : Value) (w : World) (h : IsMsg w v m) :
    Calls Tryz.prog 38 #[v, .int .i64 f] w (Tells (zF m f) w) := by
  have h' := h
  obtain ⟨ve, vn, vh, vl, rfl, hl, hn, hh, hla, hwf⟩ := h'
  obtain ⟨ae, ce, rfl, hle, -⟩ := Hd.IsLog.len hl
  have hb0 : Below w.heap.size w (w.alloc (.cells (mArr m (.slice ae m.ents.length ce) vn vh vl) 33)) := (Below.refl _ _).alloc (Nat.le_refl _) _
  have hr0 := heap_alloc_new w (.cells (mArr m (.slice ae m.ents.length ce) vn vh vl) 33 (0, 0))
  obtain ⟨q0, q1, q2, q3, q4, q5, q6, q7, q8, -⟩ := cells16 hr0
  have HS : Hid (IsShot (w.alloc (.cells (mArr m (.slice ae m.ents.length ce) vn vh vl) 33)) (.agg (sArr m.shot vn vh vl)) m.shot) := Lib.hid (IsMsg_shot (h.below hb0 (Nat.le_refl _)))
  have HM := Lib.hid (h.below hb0 (Nat.le_refl _))
  have HB := Lib.hid hb0
  have HR := Lib.hid hr0
  clear h hl hn hh hla hwf hb0 hr0
  by_cases h4 : f = 4
  · subst h4
    have HP : Hid ((!m.flag) = true ↔ zF m 4) := Lib.hid (by show _ ↔ m.flag = false; cases m.flag <;> simp)
    clear hf
    go_enter Tryz.func38, Tryz.ntmps38
    go_wp2
    go_ret
    exact ⟨_, rfl, HP.out, HB.out⟩
  by_cases h5 : f = 5
  · subst h5
    have HP : Hid (zF m 5 ↔ m.ents.length = 0) := Lib.hid Iff.rfl
    by_cases hz : m.ents.length = 0
    · have HY := Lib.hid (HP.out.2 hz)
      have e0 : ((m.ents.length : Int) == 0) = true := beq_iff_eq.2 (by omega)
      clear hf hz h4
      go_enter Tryz.func38, Tryz.ntmps38
      go_wp2
      go_ret
      exact tells_yes HY.out HB.out
    · have HY : Hid (¬ zF m 5) := Lib.hid (fun g => hz (HP.out.1 g))
      have e0 : ((m.ents.length : Int) == 0) = false := beq_eq_false_iff_ne.2 (by omega)
      clear hf hz h4
      go_enter Tryz.func38, Tryz.ntmps38
      go_wp2
      go_ret
      exact tells_no HY.out HB.out
  by_cases h6 : f = 6
  · subst h6
    clear hf h4 h5
    have ra := shot_range HR.out
    go_enter Tryz.func38, Tryz.ntmps38
    go_wp2_with (refine wpList_load_midG rfl 31 (.tmp 19) rfl w.heap.size 9 rfl (sArr m.shot vn vh vl).toList _ ra Tryz.underlying31 rfl (by kernel_rfl) ?_)
    refine (noShot_any _ _ _ HS.out).mono ?_
    rintro e w1 ⟨bb, rfl, hbb, hb1⟩
    have HBB := Lib.hid hbb
    clear hbb
    go_wp2
    go_ret
    exact ⟨bb, rfl, HBB.out, HB.out.trans (hb1.mono HB.out.size)⟩
  have HP : Hid (zF m f ↔ numM m f = 0) := Lib.hid (by unfold zF; rw [if_neg h4, if_neg h5, if_neg h6])
  have hf3 : f ≤ 3 := by omega
  have HN := Lib.hid (number_any m f hf3 _ _ HM.out)
  have g4 : (((f : Nat) : Int) == 4) = false := beq_eq_false_iff_ne.2 (by omega)
  have g5 : (((f : Nat) : Int) == 5) = false := beq_eq_false_iff_ne.2 (by omega)
  have g6 : (((f : Nat) : Int) == 6) = false := beq_eq_false_iff_ne.2 (by omega)
  have hr := HR.out
  by_cases hz : numM m f = 0
  · have HY := Lib.hid (HP.out.2 hz)
    rw [hz] at HN
    clear hf h4 h5 h6 hz hf3
    go_enter Tryz.func38, Tryz.ntmps38
    go_wp2_with (refine wpList_load_row rfl 33 (.tmp 2) rfl w.heap.size rfl 33 (mArr m (.slice ae m.ents.length ce) vn vh vl) (0, 0) _ hr Tryz.underlying33 rfl (by kernel_rfl) ?_)
    refine HN.out.mono ?_
    rintro e w1 ⟨rfl, hb1⟩
    go_wp2
    go_ret
    exact tells_yes HY.out (HB.out.trans (hb1.mono HB.out.size))
  · have HY : Hid (¬ zF m f) := Lib.hid (fun g => hz (HP.out.1 g))
    have e0 : (numM m f == 0) = false := beq_eq_false_iff_ne.2 hz
    clear hf h4 h5 h6 hz hf3
    go_enter Tryz.func38, Tryz.ntmps38
    go_wp2_with (refine wpList_load_row rfl 33 (.tmp 2) rfl w.heap.size rfl 33 (mArr m (.slice ae m.ents.length ce) vn vh vl) (0, 0) _ hr Tryz.underlying33 rfl (by kernel_rfl) ?_)
    refine HN.out.mono ?_
    rintro e w1 ⟨rfl, hb1⟩
    go_wp2
    go_ret
    exact tells_no HY.out (HB.out.trans (hb1.mono HB.out.size))
end Ms
end Go.Proofs.YtlfaiemebfkajaaGreatDoor
namespace Go.Proofs.YtlfaiemebfkajaaGreatDoor
open Go.ChangeShapes Go.WideShapes Go.ChangeAt Go.RowKit Go.Deep
set_option linter.unusedVariables false
set_option maxRecDepth 100000
namespace Ms
open Nv
/-- a message's box in a call -/
def BoxM (w W : World) (m : Mes) (ae : Option Addr) (ce : Nat) (vn vh vl : Value) : Prop :=
  Below w.heap.size w W ∧ W.heap[w.heap.size]? = some (.cells (mArr m (.slice ae m.ents.length ce) vn vh vl) 33 (0, 0)) ∧ IsMsg W (.agg (mArr m (.slice ae m.ents.length ce) vn vh vl)) m ∧ w.heap.size < W.heap.size
theorem BoxM.of {w : World} {v : Value} {m : Mes} (h : IsMsg w v m) : ∃ ae ce vn vh vl, v = .agg (mArr m (.slice ae m.ents.length ce) vn vh vl) ∧ m.ents.length ≤ ce ∧ ce ≤ 9223372036854775807 ∧
    BoxM w (w.alloc (.cells (mArr m (.slice ae m.ents.length ce) vn vh vl) 33)) m ae ce vn vh vl := by
  have h' := h
  obtain ⟨ve, vn, vh, vl, rfl, hl, hn, hh, hla, hwf⟩ := h'
  obtain ⟨ae, ce, rfl, h1, h2⟩ := Hd.IsLog.len hl
  have hb : Below w.heap.size w (w.alloc (.cells (mArr m (.slice ae m.ents.length ce) vn vh vl) 33)) := (Below.refl _ _).alloc (Nat.le_refl _) _
  exact ⟨ae, ce, vn, vh, vl, rfl, h1, h2, hb, heap_alloc_new _ _, h.below hb (Nat.le_refl _), by simp⟩
theorem BoxM.on {w W W' : World} {m : Mes} {ae : Option Addr} {ce : Nat} {vn vh vl : Value} (h : BoxM w W m ae ce vn vh vl) (hb : Below W.heap.size W W') : BoxM w W' m ae ce vn vh vl :=
  ⟨h.1.trans (hb.mono h.1.size), (hb.block _ h.2.2.2).trans h.2.1, h.2.2.1.below hb (Nat.le_refl _), Nat.lt_of_lt_of_le h.2.2.2 hb.size⟩
theorem IsMsg.wf {w : World} {v : Value} {m : Mes} (h : IsMsg w v m) : m.wf := by
  obtain ⟨_, _, _, _, _, _, _, _, _, h⟩ := h
  exact h
def ltOk (m : Mes) : Prop := (m.lterm = 0 ↔ m.index = 0) ∧ m.lterm ≤ m.term
set_option maxHeartbeats 2000000 in
theorem lt_any (m : Mes) (v : Value) (w : World) (h : IsMsg w v m) : Calls Tryz.prog 72 #[v] w (Tells (ltOk m) w) := by
  obtain ⟨ae, ce, vn, vh, vl, rfl, -, -, hx⟩ := BoxM.of h
  obtain ⟨q0, q1, q2, q3, q4, q5, q6, q7, q8, -⟩ := cells16 hx.2.1
  have HB := Lib.hid hx.1
  clear hx h
  obtain ⟨x, hx⟩ : ∃ x, (m.lterm == 0) = x := ⟨_, rfl⟩
  obtain ⟨y, hy⟩ : ∃ y, (m.index == 0) = y := ⟨_, rfl⟩
  have hP : ltOk m ↔ (x = y ∧ m.lterm ≤ m.term) := by
    unfold ltOk
    rw [← hx, ← hy]
    constructor
    · rintro ⟨a, b⟩
      exact ⟨by rw [Bool.eq_iff_iff, beq_iff_eq, beq_iff_eq]; exact a, b⟩
    · rintro ⟨a, b⟩
      exact ⟨by rw [Bool.eq_iff_iff, beq_iff_eq, beq_iff_eq] at a; exact a, b⟩
  have HP := Lib.hid hP
  clear hP
  by_cases c : m.lterm ≤ m.term
  · cases x <;> cases y
    all_goals
      first
        | (have HE : Hid (ltOk m) := Lib.hid (HP.out.2 ⟨rfl, c⟩)
           go_enter Tryz.func72, Tryz.ntmps72
           go_wp2
           go_ret
           exact tells_yes HE.out HB.out)
        | (have HE : Hid (¬ ltOk m) := Lib.hid (fun g => Bool.noConfusion (HP.out.1 g).1)
           go_enter Tryz.func72, Tryz.ntmps72
           go_wp2
           go_ret
           exact tells_no HE.out HB.out)
  · have c' : m.term < m.lterm := by omega
    have HE : Hid (¬ ltOk m) := Lib.hid (fun g => c g.2)
    clear c
    cases x <;> cases y
    all_goals
      go_enter Tryz.func72, Tryz.ntmps72
      go_wp2
      go_ret
      first
        | exact tells_no HE.out HB.out
        | exact ⟨_, rfl, ⟨fun g => absurd (of_decide_eq_true g) (by omega), fun g => absurd g HE.out⟩, HB.out⟩
def feedUp (m : Mes) (k : Nat) : Prop := ∀ j y, j < k → m.ents[j]? = some y → Hd.entOk (Hd.befE m.lterm (m.ents.take j)) y ∧ y.term ≤ m.term
def feedOk (m : Mes) : Prop := m.index ≤ 4611686018427387904 ∧ m.ents.length ≤ 4 ∧ feedUp m m.ents.length
theorem feed_zero (m : Mes) : feedUp m 0 := fun j y hj => absurd hj (Nat.not_lt_zero _)
theorem feed_succ {m : Mes} {k : Nat} {x : Ent} (h : feedUp m k) (hx : m.ents[k]? = some x) (hr : Hd.entOk (Hd.befE m.lterm (m.ents.take k)) x) (ht : x.term ≤ m.term) : feedUp m (k + 1) := by
  intro j y hj hy
  rcases Nat.lt_or_ge j k with h1 | h1
  · exact h j y h1 hy
  · obtain rfl : j = k := by omega
    rw [hx] at hy
    cases hy
    exact ⟨hr, ht⟩
theorem feed_bad {m : Mes} {k : Nat} {x : Ent} (hx : m.ents[k]? = some x) (hlt : k < m.ents.length) (hr : ¬ (Hd.entOk (Hd.befE m.lterm (m.ents.take k)) x ∧ x.term ≤ m.term)) : ¬ feedOk m := fun h => hr (h.2.2 k x hlt hx)
set_option maxHeartbeats 8000000 in
theorem feed_any (m : Mes) (v : Value) (w : World) (h : IsMsg w v m) : Calls Tryz.prog 73 #[v] w (Tells (feedOk m) w) := by
  obtain ⟨ae, ce, vn, vh, vl, rfl, hlc, hcm, hx⟩ := BoxM.of h
  obtain ⟨q0, q1, q2, q3, q4, q5, q6, q7, q8, -⟩ := cells16 hx.2.1
  have HX := Lib.hid hx
  have hG : IsLog (w.alloc (.cells (mArr m (.slice ae m.ents.length ce) vn vh vl) 33)) (.slice ae m.ents.length ce) m.ents := IsMsg_log hx.2.2.1
  clear hx h
  by_cases c1 : 4611686018427387904 < m.index
  · have HE : Hid (¬ feedOk m) := Lib.hid (fun g => by have := g.1; omega)
    go_enter Tryz.func73, Tryz.ntmps73
    go_wp2
    go_ret
    exact tells_no HE.out HX.out.1
  have c1' : m.index ≤ 4611686018427387904 := by omega
  clear c1
  by_cases c2 : 4 < m.ents.length
  · have HE : Hid (¬ feedOk m) := Lib.hid (fun g => by have := g.2.1; omega)
    have c3 : (4 : Int) < (m.ents.length : Int) := by omega
    go_enter Tryz.func73, Tryz.ntmps73
    go_wp2
    go_ret
    exact tells_no HE.out HX.out.1
  have c2' : m.ents.length ≤ 4 := by omega
  have c3' : (m.ents.length : Int) ≤ 4 := by omega
  clear c2
  obtain ⟨rows, hrows, hents, hmap⟩ := hG
  have hrl : rows.length = m.ents.length := by rw [← hmap, List.length_map]
  have HENT := Lib.hid hents
  have HRL := Lib.hid hrl
  have HGET : Hid (∀ k (hk : k < rows.length), m.ents[k]? = some rows[k].1) := Lib.hid (fun k hk => by rw [← hmap, List.getElem?_map, List.getElem?_eq_getElem hk]; rfl)
  have HTK : Hid (∀ k (hk : k < rows.length), m.ents.take (k + 1) = m.ents.take k ++ [rows[k].1]) := Lib.hid (fun k hk => by rw [← hmap, ← List.map_take, ← List.map_take, List.take_succ_eq_append_getElem hk, List.map_append]; rfl)
  obtain ⟨a', cap', hv, hl1, hl2, hrc⟩ := hrows
  simp only [Value.slice.injEq] at hv
  obtain ⟨rfl, -, rfl⟩ := hv
  have HRC := Lib.hid hrc
  clear hrc hmap hents hl1 hl2 hrl
  go_enter Tryz.func73, Tryz.ntmps73
  go_wp2
  go_loopw [3, 20] (fun bf i wr => ∃ k : Nat, k ≤ m.ents.length ∧ i = .int .i64 k ∧ bf = .int .u64 (Hd.befE m.lterm (m.ents.take k)) ∧ Hid (feedUp m k) ∧ Below (w.alloc (.cells (mArr m (.slice ae m.ents.length ce) vn vh vl) 33)).heap.size (w.alloc (.cells (mArr m (.slice ae m.ents.length ce) vn vh vl) 33)) wr) (fun _ i _ => m.ents.length - (intOf i).toNat)
  case atStart => exact ⟨0, Nat.zero_le _, rfl, rfl, Lib.hid (feed_zero _), Below.refl _ _⟩
  case round =>
    clear q0 q1 q2 q3 q4 q5 q6 q7 q8
    obtain ⟨k, hk, rfl, rfl, HU, hb⟩ := hrel
    have HXR := Lib.hid (HX.out.on hb)
    by_cases hlt2 : k < m.ents.length
    · have hlt3 : k < rows.length := by have := HRL.out; omega
      obtain ⟨b, off, rfl, hlt, hc⟩ := Ld.rows_open hlt3 HRC.out
      have hce := fun j u hu => (hb.cell (p := ⟨b, off + (k * 9 + j), none⟩) hlt).trans (hc k _ (Ld.rgetD hlt3) j u hu)
      have hes := HENT.out _ (List.getElem_mem hlt3)
      have HEN : Hid (Hd.IsEnt wr (.agg (entC rows[k]).toArray) rows[k].1) := Lib.hid ⟨rows[k].2, rfl, hes.1.below hb (Nat.le_refl _), hes.2⟩
      have HG := Lib.hid (HGET.out k hlt3)
      have HT := Lib.hid (HTK.out k hlt3)
      have HBB := Lib.hid hb
      have hsl := hes.1
      have hwf := hes.2
      clear hc hb hes
      generalize rows[k] = r at *
      obtain ⟨x, vr⟩ := r
      simp only [] at HEN HG HT hsl hwf
      obtain ⟨ar, cr, hvr, -⟩ := id hsl
      subst hvr
      obtain ⟨e0, e1, e2, e3, e4, e5, e6, e7, e8⟩ := Hd.ent_cells hce
      have hx0 := Ld.u64_nonneg hwf.1
      have hb4 : Below wr.heap.size wr (wr.alloc (.cells (entC (x, .slice ar x.cmd.nodes.length cr)).toArray 88)) := (Below.refl _ _).alloc (Nat.le_refl _) _
      have HEN4 := Lib.hid (Hd.IsEnt.below HEN.out hb4 (Nat.le_refl _))
      have HB4 := Lib.hid hb4
      have HK4 := Lib.hid (heap_alloc_new wr (.cells (entC (x, .slice ar x.cmd.nodes.length cr)).toArray 88 (0, 0)))
      clear hce hsl hwf hb4
      go_wp2_with fail
      refine (Hd.fits_any x _ _ HEN4.out).mono ?_
      rintro e w5 ⟨rfl, hb5⟩
      have hb45 := HB4.out.trans (hb5.mono (by simp))
      have HY5 := Lib.hid (HBB.out.trans (hb45.mono HBB.out.size))
      have HX5 := Lib.hid (HXR.out.on hb45)
      obtain ⟨d0, d1, d2, d3, d4, d5, d6, d7, d8⟩ := Hd.ent9 ((hb5.block wr.heap.size (by simp)).trans HK4.out)
      obtain ⟨q0, q1, q2, q3, q4, q5, q6, q7, q8, -⟩ := cells16 HX5.out.2.1
      clear hb5 hb45 e0 e1 e2 e3 e4 e5 e6 e7 e8
      cases hf : Hd.fitsB x with
      | false =>
        have HE : Hid (¬ feedOk m) := Lib.hid (feed_bad HG.out (by omega) (fun q => by
          have : Hd.fitsB x = true := by unfold Hd.fitsB; rw [decide_eq_true q.1.1, q.1.2.2]; rfl
          rw [hf] at this; cases this))
        clear hf
        go_wp2
        go_ret
        exact tells_no HE.out HX5.out.1
      | true =>
        have hf2 : 1 ≤ x.term ∧ Cm.chkC x.cmd = true := by
          unfold Hd.fitsB at hf
          rw [Bool.and_eq_true] at hf
          exact ⟨of_decide_eq_true hf.1, hf.2⟩
        have HF := Lib.hid hf2
        clear hf hf2
        by_cases hlo : x.term < Hd.befE m.lterm (m.ents.take k)
        · have HE : Hid (¬ feedOk m) := Lib.hid (feed_bad HG.out (by omega) (fun q => by have := q.1.2.1; omega))
          go_wp2
          go_ret
          exact tells_no HE.out HX5.out.1
        · have hlo2 : Hd.befE m.lterm (m.ents.take k) ≤ x.term := by omega
          clear hlo
          by_cases hhi : m.term < x.term
          · have HE : Hid (¬ feedOk m) := Lib.hid (feed_bad HG.out (by omega) (fun q => by have := q.2; omega))
            go_wp2
            go_ret
            exact tells_no HE.out HX5.out.1
          · have hhi2 : x.term ≤ m.term := by omega
            have HU2 := Lib.hid (feed_succ HU.out HG.out ⟨HF.out.1, hlo2, HF.out.2⟩ hhi2)
            have HBE : Hid (Hd.befE m.lterm (m.ents.take (k + 1)) = x.term) := Lib.hid (by rw [HT.out, Hd.befE_snoc])
            clear hhi
            go_wp2
            go_roundw
            case rel => exact ⟨k + 1, by omega, by go_num, by rw [HBE.out], HU2, HY5.out⟩
            case measure => simp [intOf]; omega
    · obtain rfl : k = m.ents.length := by omega
      have HE : Hid (feedOk m) := Lib.hid ⟨c1', c2', HU.out⟩
      go_wp2
      go_ret
      exact tells_yes HE.out HXR.out.1
def putOk (m : Mes) : Prop := ∃ x, m.ents = [x] ∧ x.term = 0 ∧ (x.cmd.kind = 3 ∨ x.cmd.kind = 4 ∨ x.cmd.kind = 5) ∧ Cm.chkC x.cmd = true ∧ x.cmd.node = m.src
theorem put_not {m : Mes} {x : Ent} (he : m.ents = [x]) (h : ¬ (x.term = 0 ∧ (x.cmd.kind = 3 ∨ x.cmd.kind = 4 ∨ x.cmd.kind = 5) ∧ Cm.chkC x.cmd = true ∧ x.cmd.node = m.src)) : ¬ putOk m := by
  rintro ⟨y, hy, g⟩
  rw [he] at hy
  cases hy
  exact h g
/-- the only entry's cells -/
theorem one_cells {w : World} {ae : Option Addr} {m : Mes} {ce : Nat} (h : IsLog w (.slice ae m.ents.length ce) m.ents) (h1 : m.ents.length = 1) :
    ∃ x b off ar cr, m.ents = [x] ∧ ae = some ⟨b, off, none⟩ ∧ b < w.heap.size ∧ Sl .i64 w (.slice ar x.cmd.nodes.length cr) x.cmd.nodes ∧ x.wf ∧
      ∀ j u, (entC (x, .slice ar x.cmd.nodes.length cr))[j]? = some u → w.cell? ⟨b, off + j, none⟩ = some u := by
  obtain ⟨rows, hrows, hents, hmap⟩ := h
  obtain ⟨a', cap', hv, hl1, hl2, hrc⟩ := hrows
  simp only [Value.slice.injEq] at hv
  obtain ⟨rfl, -, rfl⟩ := hv
  have hrl : rows.length = 1 := by rw [← h1, ← hmap, List.length_map]
  match rows, hrl with
  | [r], _ =>
    obtain ⟨b, off, rfl, hlt, hc⟩ := Ld.rows_open (k := 0) (by simp) hrc
    obtain ⟨x, vr⟩ := r
    have hs := hents _ (List.mem_singleton.2 rfl)
    obtain ⟨ar, cr, hvr, -⟩ := id hs.1
    simp only [] at hvr
    subst hvr
    refine ⟨x, b, off, ar, cr, hmap.symm, rfl, hlt, hs.1, hs.2, fun j u hu => ?_⟩
    have := hc 0 _ rfl j u hu
    simpa using this
theorem beq_t {a b : Int} (h : a = b) : (a == b) = true := beq_iff_eq.2 h
theorem beq_f {a b : Int} (h : a ≠ b) : (a == b) = false := beq_eq_false_iff_ne.2 h
theorem bne_t {a b : Int} (h : a ≠ b) : (a != b) = true := by rw [bne, beq_f h]; rfl
theorem bne_f {a b : Int} (h : a = b) : (a != b) = false := by rw [bne, beq_t h]; rfl
set_option maxHeartbeats 8000000 in
theorem put_any (m : Mes) (v : Value) (w : World) (h : IsMsg w v m) : Calls Tryz.prog 71 #[v] w (Tells (putOk m) w) := by
  obtain ⟨ae, ce, vn, vh, vl, rfl, hlc, hcm, hx⟩ := BoxM.of h
  obtain ⟨q0, q1, q2, q3, q4, q5, q6, q7, q8, -⟩ := cells16 hx.2.1
  have HX := Lib.hid hx
  have hG : IsLog (w.alloc (.cells (mArr m (.slice ae m.ents.length ce) vn vh vl) 33)) (.slice ae m.ents.length ce) m.ents := IsMsg_log hx.2.2.1
  clear hx h
  by_cases c1 : m.ents.length = 1
  · obtain ⟨x, b, off, ar, cr, he, rfl, hlt, hsl, hwf, hc⟩ := one_cells hG c1
    have HNO : Hid (¬ (x.term = 0 ∧ (x.cmd.kind = 3 ∨ x.cmd.kind = 4 ∨ x.cmd.kind = 5) ∧ Cm.chkC x.cmd = true ∧ x.cmd.node = m.src) → ¬ putOk m) := Lib.hid (put_not he)
    have HYE : Hid ((x.term = 0 ∧ (x.cmd.kind = 3 ∨ x.cmd.kind = 4 ∨ x.cmd.kind = 5) ∧ Cm.chkC x.cmd = true ∧ x.cmd.node = m.src) → putOk m) := Lib.hid (fun g => ⟨x, he, g⟩)
    clear he hG
    have e0 := hc 0 _ rfl
    have e1 := hc 1 _ rfl
    have e2 := hc 2 _ rfl
    have e3 := hc 3 _ rfl
    have e4 := hc 4 _ rfl
    have e5 := hc 5 _ rfl
    have e6 := hc 6 _ rfl
    have e7 := hc 7 _ rfl
    have e8 := hc 8 _ rfl
    rw [Nat.add_zero] at e0
    clear hc
    unfold BoxM at HX
    generalize m.ents.length = n at *
    subst c1
    have hx := HX.out
    have hb1 : Below (w.alloc (.cells (mArr m (.slice (some ⟨b, off, none⟩) 1 ce) vn vh vl) 33)).heap.size (w.alloc (.cells (mArr m (.slice (some ⟨b, off, none⟩) 1 ce) vn vh vl) 33)) ((w.alloc (.cells (mArr m (.slice (some ⟨b, off, none⟩) 1 ce) vn vh vl) 33)).alloc (.cells (Cm.cArr x.cmd (.slice ar x.cmd.nodes.length cr)) 86)) := (Below.refl _ _).alloc (Nat.le_refl _) _
    have HC : Hid (IsCmd ((w.alloc (.cells (mArr m (.slice (some ⟨b, off, none⟩) 1 ce) vn vh vl) 33)).alloc (.cells (Cm.cArr x.cmd (.slice ar x.cmd.nodes.length cr)) 86)) (.agg (Cm.cArr x.cmd (.slice ar x.cmd.nodes.length cr))) x.cmd) := Lib.hid ⟨_, rfl, hsl.below hb1 (Nat.le_refl _), hwf.2⟩
    have HA1 := Lib.hid ((hb1.block _ hx.2.2.2).trans hx.2.1)
    have HB0 := Lib.hid hx.1
    have HB1 := Lib.hid (hx.1.trans (hb1.mono hx.1.size))
    have HK1 : Hid (((w.alloc (.cells (mArr m (.slice (some ⟨b, off, none⟩) 1 ce) vn vh vl) 33)).alloc (.cells (Cm.cArr x.cmd (.slice ar x.cmd.nodes.length cr)) 86)).heap[w.heap.size + 1]? = some (.cells (Cm.cArr x.cmd (.slice ar x.cmd.nodes.length cr)) 86 (0, 0))) := Lib.hid (heap_alloc2_new _ _ _)
    clear hx HX hb1 hsl hwf
    by_cases ht : x.term = 0
    · have t0 : (x.term != 0) = false := bne_f ht
      have HTT := Lib.hid ht
      clear ht
      obtain ⟨y3, hy3⟩ : ∃ y, (x.cmd.kind == 3) = y := ⟨_, rfl⟩
      obtain ⟨y4, hy4⟩ : ∃ y, (x.cmd.kind == 4) = y := ⟨_, rfl⟩
      obtain ⟨y5, hy5⟩ : ∃ y, (x.cmd.kind == 5) = y := ⟨_, rfl⟩
      have HP : Hid ((x.cmd.kind = 3 ∨ x.cmd.kind = 4 ∨ x.cmd.kind = 5) ↔ (y3 = true ∨ y4 = true ∨ y5 = true)) := Lib.hid (by rw [← hy3, ← hy4, ← hy5, beq_iff_eq, beq_iff_eq, beq_iff_eq])
      obtain ⟨yc, hyc⟩ : ∃ y, (Cm.cErr (Cm.chkC x.cmd) == 0) = y := ⟨_, rfl⟩
      have HPC : Hid (Cm.chkC x.cmd = yc) := Lib.hid ((Hd.cErr_eq _).symm.trans hyc)
      obtain ⟨yn, hyn⟩ : ∃ y, (x.cmd.node == m.src) = y := ⟨_, rfl⟩
      have HPN : Hid (x.cmd.node = m.src ↔ yn = true) := Lib.hid (by rw [← hyn, beq_iff_eq])
      by_cases hno : y3 = false ∧ y4 = false ∧ y5 = false
      · obtain ⟨rfl, rfl, rfl⟩ := hno
        have HE : Hid (¬ putOk m) := Lib.hid (HNO.out fun g => by rcases HP.out.1 g.2.1 with h | h | h <;> cases h)
        go_enter Tryz.func71, Tryz.ntmps71
        go_wp2
        go_ret
        exact tells_no HE.out HB1.out
      · have hyes : y3 = true ∨ (y3 = false ∧ y4 = true) ∨ (y3 = false ∧ y4 = false ∧ y5 = true) := by
          cases y3 <;> cases y4 <;> cases y5 <;> simp at hno ⊢
        have HQ : Hid (x.cmd.kind = 3 ∨ x.cmd.kind = 4 ∨ x.cmd.kind = 5) := Lib.hid (HP.out.2 (by rcases hyes with h | h | h <;> simp [h]))
        clear hno HP
        rcases hyes with rfl | ⟨rfl, rfl⟩ | ⟨rfl, rfl, rfl⟩ <;> cases yc <;> cases yn
        all_goals
          first
            | have HE : Hid (putOk m) := Lib.hid (HYE.out ⟨HTT.out, HQ.out, HPC.out, HPN.out.2 rfl⟩)
            | have HE : Hid (¬ putOk m) := Lib.hid (HNO.out fun g => Bool.noConfusion (HPC.out.symm.trans g.2.2.1))
            | have HE : Hid (¬ putOk m) := Lib.hid (HNO.out fun g => Bool.noConfusion (HPN.out.1 g.2.2.2))
          go_enter Tryz.func71, Tryz.ntmps71
          go_wp2_with fail
          refine (Cm.check_any x.cmd _ _ HC.out).mono ?_
          rintro e w2 ⟨rfl, hb2⟩
          obtain ⟨p0, p1, -⟩ := cells16 ((hb2.block _ (Rc.lt_of_row8 HA1.out)).trans HA1.out)
          have r1 := (cell_of_row w2 _ 1 _ _ _ ((hb2.block _ (Rc.lt_of_row8 HK1.out)).trans HK1.out)).trans rfl
          have HB2 := Lib.hid (HB1.out.trans (hb2.mono HB1.out.size))
          clear hb2 q0 q1 q2 q3 q4 q5 q6 q7 q8 e0 e1 e2 e3 e4 e5 e6 e7 e8
          go_wp2
          go_ret
          first
            | exact tells_yes HE.out HB2.out
            | exact tells_no HE.out HB2.out
    · have t0 : (x.term != 0) = true := bne_t ht
      have HE : Hid (¬ putOk m) := Lib.hid (HNO.out fun g => ht g.1)
      clear ht
      go_enter Tryz.func71, Tryz.ntmps71
      go_wp2
      go_ret
      exact tells_no HE.out HB0.out
  · have HE : Hid (¬ putOk m) := Lib.hid (fun ⟨x, g, _⟩ => c1 (by rw [g]; rfl))
    have c2 : ((m.ents.length : Int) != 1) = true := bne_t (by omega)
    clear c1
    go_enter Tryz.func71, Tryz.ntmps71
    go_wp2
    go_ret
    exact tells_no HE.out HX.out.1
end Ms
end Go.Proofs.YtlfaiemebfkajaaGreatDoor
namespace Go.Proofs.YtlfaiemebfkajaaGreatDoor
open Go.ChangeShapes Go.WideShapes Go.ChangeAt Go.RowKit Go.Deep
set_option linter.unusedVariables false
set_option maxRecDepth 100000
namespace Ms
open Nv
def shipOk (m : Mes) : Prop := Sh.shotOk m.shot ∧ 1 ≤ m.shot.index ∧ m.shot.term ≤ m.term
def fitsM (m : Mes) : Prop := (m.kind = 6 → putOk m) ∧ (m.kind ≠ 6 → 1 ≤ m.term) ∧ (m.kind = 1 → ltOk m) ∧ (m.kind = 3 → ltOk m ∧ feedOk m) ∧ (m.kind = 5 → shipOk m)
set_option maxHeartbeats 16000000 in
theorem mfits_any (m : Mes) (v : Value) (w : World) (h : IsMsg w v m) : Calls Tryz.prog 39 #[v] w (Tells (fitsM m) w) := by
  obtain ⟨ae, ce, vn, vh, vl, rfl, hlc, hcm, hx⟩ := BoxM.of h
  obtain ⟨q0, q1, q2, q3, q4, q5, q6, q7, q8, q9, q10, -⟩ := cells16 hx.2.1
  have hr := hx.2.1
  have ra := shot_range hx.2.1
  have HX := Lib.hid hx
  have HM := Lib.hid hx.2.2.1
  have HSH : Hid (IsShot (w.alloc (.cells (mArr m (.slice ae m.ents.length ce) vn vh vl) 33)) (.agg (sArr m.shot vn vh vl)) m.shot) := Lib.hid (IsMsg_shot hx.2.2.1)
  clear hx h
  by_cases k6 : m.kind = 6
  · have HP : Hid (fitsM m ↔ putOk m) := Lib.hid ⟨fun g => g.1 k6, fun g => ⟨fun _ => g, fun q => absurd k6 q, fun q => by omega, fun q => by omega, fun q => by omega⟩⟩
    have g6 : (m.kind == 6) = true := beq_t k6
    clear k6
    go_enter Tryz.func39, Tryz.ntmps39
    go_wp2_with (refine wpList_load_row rfl 33 (.tmp 1) rfl w.heap.size rfl 33 (mArr m (.slice ae m.ents.length ce) vn vh vl) (0, 0) _ hr Tryz.underlying33 rfl (by kernel_rfl) ?_)
    refine (put_any m _ _ HM.out).mono ?_
    rintro e w1 ⟨bb, rfl, hbb, hb1⟩
    have HBB := Lib.hid hbb
    clear hbb
    go_wp2
    go_ret
    exact ⟨bb, rfl, HBB.out.trans HP.out.symm, HX.out.1.trans (hb1.mono HX.out.1.size)⟩
  have g6 : (m.kind == 6) = false := beq_f k6
  have HK6 := Lib.hid k6
  clear k6
  by_cases ht : 1 ≤ m.term
  rotate_left
  · have ht2 : m.term < 1 := by omega
    have HE : Hid (¬ fitsM m) := Lib.hid (fun g => ht (g.2.1 HK6.out))
    obtain ⟨y1, hy1⟩ : ∃ y, (m.kind == 1) = y := ⟨_, rfl⟩
    obtain ⟨y3, hy3⟩ : ∃ y, (m.kind == 3) = y := ⟨_, rfl⟩
    obtain ⟨y5, hy5⟩ : ∃ y, (m.kind == 5) = y := ⟨_, rfl⟩
    clear ht
    cases y1
    · cases y3
      · cases y5
        all_goals
          go_enter Tryz.func39, Tryz.ntmps39
          go_wp2
          go_ret
          first
            | exact tells_no HE.out HX.out.1
            | exact ⟨_, rfl, ⟨fun g => absurd (of_decide_eq_true g) (by omega), fun g => absurd g HE.out⟩, HX.out.1⟩
      · go_enter Tryz.func39, Tryz.ntmps39
        go_wp2
        go_ret
        exact tells_no HE.out HX.out.1
    · go_enter Tryz.func39, Tryz.ntmps39
      go_wp2
      go_ret
      exact tells_no HE.out HX.out.1
  by_cases k1 : m.kind = 1
  · have HP : Hid (fitsM m ↔ ltOk m) := Lib.hid ⟨fun g => g.2.2.1 k1, fun g => ⟨fun q => absurd q HK6.out, fun _ => ht, fun _ => g, fun q => by omega, fun q => by omega⟩⟩
    have g1 : (m.kind == 1) = true := beq_t k1
    clear k1
    go_enter Tryz.func39, Tryz.ntmps39
    go_wp2_with (refine wpList_load_rowG rfl 33 (.tmp 1) rfl w.heap.size rfl 33 (mArr m (.slice ae m.ents.length ce) vn vh vl) (0, 0) _ hr Tryz.underlying33 rfl (by kernel_rfl) ?_)
    refine (lt_any m _ _ HM.out).mono ?_
    rintro e w1 ⟨bb, rfl, hbb, hb1⟩
    have HBB := Lib.hid hbb
    clear hbb
    go_wp2
    go_ret
    exact ⟨bb, rfl, HBB.out.trans HP.out.symm, HX.out.1.trans (hb1.mono HX.out.1.size)⟩
  have g1 : (m.kind == 1) = false := beq_f k1
  have HK1 := Lib.hid k1
  clear k1
  by_cases k3 : m.kind = 3
  · have HP : Hid (fitsM m ↔ ltOk m ∧ feedOk m) := Lib.hid ⟨fun g => g.2.2.2.1 k3, fun g => ⟨fun q => absurd q HK6.out, fun _ => ht, fun q => absurd q HK1.out, fun _ => g, fun q => by omega⟩⟩
    have g3 : (m.kind == 3) = true := beq_t k3
    clear k3
    go_enter Tryz.func39, Tryz.ntmps39
    go_wp2_with (refine wpList_load_rowG rfl 33 (.tmp 1) rfl w.heap.size rfl 33 (mArr m (.slice ae m.ents.length ce) vn vh vl) (0, 0) _ hr Tryz.underlying33 rfl (by kernel_rfl) ?_)
    refine (lt_any m _ _ HM.out).mono ?_
    rintro e w1 ⟨bb, rfl, hbb, hb1⟩
    have HX1 := Lib.hid (HX.out.on hb1)
    clear hr ra q0 q1 q2 q3 q4 q5 q6 q7 q8 q9 q10
    cases bb
    · have HE : Hid (¬ fitsM m) := Lib.hid (fun g => Bool.noConfusion (hbb.2 (HP.out.1 g).1))
      clear hbb
      go_wp2
      go_ret
      exact tells_no HE.out HX1.out.1
    · have HLT := Lib.hid (hbb.1 rfl)
      have hr := HX1.out.2.1
      clear hbb
      go_wp2_with (refine wpList_load_rowG rfl 33 (.tmp 1) rfl w.heap.size rfl 33 (mArr m (.slice ae m.ents.length ce) vn vh vl) (0, 0) _ hr Tryz.underlying33 rfl (by kernel_rfl) ?_)
      refine (feed_any m _ _ HX1.out.2.2.1).mono ?_
      rintro e w2 ⟨b2, rfl, hb2, hbb2⟩
      have HBB := Lib.hid hb2
      clear hb2
      go_wp2
      go_ret
      exact ⟨b2, rfl, HBB.out.trans ⟨fun g => HP.out.2 ⟨HLT.out, g⟩, fun g => (HP.out.1 g).2⟩, (HX1.out.on hbb2).1⟩
  have g3 : (m.kind == 3) = false := beq_f k3
  have HK3 := Lib.hid k3
  clear k3
  by_cases k5 : m.kind = 5
  · have HP : Hid (fitsM m ↔ shipOk m) := Lib.hid ⟨fun g => g.2.2.2.2 k5, fun g => ⟨fun q => absurd q HK6.out, fun _ => ht, fun q => absurd q HK1.out, fun q => absurd q HK3.out, fun _ => g⟩⟩
    have g5 : (m.kind == 5) = true := beq_t k5
    clear k5
    go_enter Tryz.func39, Tryz.ntmps39
    go_wp2_with (refine Rc.wpList_load_midG rfl 31 (.tmp 37) rfl w.heap.size 9 rfl (sArr m.shot vn vh vl).toList _ ra Tryz.underlying31 rfl (by kernel_rfl) ?_)
    refine (Sh.check_any m.shot _ _ HSH.out).mono ?_
    rintro e w1 ⟨z, rfl, hz, hb1⟩
    have HX1 := Lib.hid (HX.out.on hb1)
    clear hr ra q0 q1 q2 q3 q4 q5 q6 q7 q8 q9 q10 hb1
    rcases hz with ⟨rfl, hok⟩ | ⟨rfl, hno⟩
    · have HOK := Lib.hid hok
      obtain ⟨q0, q1, q2, q3, q4, q5, q6, q7, q8, q9, q10, -⟩ := cells16 HX1.out.2.1
      clear hok
      by_cases c1 : 1 ≤ m.shot.index
      · by_cases c2 : m.shot.term ≤ m.term
        · have HE : Hid (fitsM m) := Lib.hid (HP.out.2 ⟨HOK.out, c1, c2⟩)
          go_wp2
          go_ret
          exact tells_yes HE.out HX1.out.1
        · have HE : Hid (¬ fitsM m) := Lib.hid (fun g => c2 (HP.out.1 g).2.2)
          have c3 : m.term < m.shot.term := by omega
          clear c2
          go_wp2
          go_ret
          first
            | exact tells_no HE.out HX1.out.1
            | exact ⟨_, rfl, ⟨fun g => absurd (of_decide_eq_true g) (by omega), fun g => absurd g HE.out⟩, HX1.out.1⟩
      · have HE : Hid (¬ fitsM m) := Lib.hid (fun g => c1 (HP.out.1 g).2.1)
        have c3 : m.shot.index < 1 := by omega
        clear c1
        go_wp2
        go_ret
        exact tells_no HE.out HX1.out.1
    · have HE : Hid (¬ fitsM m) := Lib.hid (fun g => hno (HP.out.1 g).1)
      clear hno
      go_wp2
      go_ret
      exact tells_no HE.out HX1.out.1
  have HE : Hid (fitsM m) := Lib.hid ⟨fun q => absurd q HK6.out, fun _ => ht, fun q => absurd q HK1.out, fun q => absurd q HK3.out, fun q => absurd q k5⟩
  have g5 : (m.kind == 5) = false := beq_f k5
  clear k5
  go_enter Tryz.func39, Tryz.ntmps39
  go_wp2
  go_ret
  first
    | exact tells_yes HE.out HX.out.1
    | exact ⟨_, rfl, ⟨fun _ => HE.out, fun _ => decide_eq_true ht⟩, HX.out.1⟩
def zUp (m : Mes) (k : Nat) : Prop := ∀ f : Nat, f < k → (f : Int) ∉ fieldsM m.kind → zF m f
def nodeP (n : Int) : Prop := 1 ≤ n ∧ n ≤ 7
def msgOk (m : Mes) : Prop := kindM m.kind ∧ nodeP m.src ∧ nodeP m.dst ∧ m.src ≠ m.dst ∧ zUp m 7 ∧ fitsM m
def SaysM (m : Mes) (w : World) (e : Ending) (w' : World) : Prop := ∃ z : Int, e = .returned (.int .i64 z) ∧ ((z = 0 ∧ msgOk m) ∨ (z = 80 ∧ ¬ msgOk m)) ∧ Below w.heap.size w w'
theorem says_no {m : Mes} (g : ¬ msgOk m) {w w' : World} (hb : Below w.heap.size w w') : SaysM m w (.returned (.int .i64 80)) w' := ⟨_, rfl, .inr ⟨rfl, g⟩, hb⟩
theorem says_yes {m : Mes} (g : msgOk m) {w w' : World} (hb : Below w.heap.size w w') : SaysM m w (.returned (.int .i64 0)) w' := ⟨_, rfl, .inl ⟨rfl, g⟩, hb⟩
theorem node_b {n : Int} {b : Bool} (h : decide (1 ≤ n ∧ n ≤ 7) = b) : nodeP n ↔ b = true := by subst h; exact (decide_eq_true_iff (p := 1 ≤ n ∧ n ≤ 7)).symm
set_option maxHeartbeats 16000000 in
theorem check_any (m : Mes) (v : Value) (w : World) (h : IsMsg w v m) : Calls Tryz.prog 12 #[v] w (SaysM m w) := by
  obtain ⟨ae, ce, vn, vh, vl, rfl, hlc, hcm, hx⟩ := BoxM.of h
  obtain ⟨q0, q1, q2, q3, q4, q5, q6, q7, q8, q9, q10, -⟩ := cells16 hx.2.1
  have HX := Lib.hid hx
  clear hx h
  have hn0 : ∀ w' : World, (binOp BinOp.eql 66 (.slice none 0 0) (.slice none 0 0)).run Tryz.prog w' = .ok (.bool true) w' := fun _ => by first | kernel_rfl | rfl
  by_cases hk : kindM m.kind
  rotate_left
  · have HE : Hid (¬ msgOk m) := Lib.hid (fun g => hk g.1)
    have HK := Lib.hid hk
    clear hk
    go_enter Tryz.func12, Tryz.ntmps12
    go_wp2_with fail
    refine (fields_no m.kind _ HK.out).mono ?_
    rintro e w1 ⟨rfl, rfl⟩
    go_wp2
    go_ret
    exact says_no HE.out HX.out.1
  have HK := Lib.hid hk
  clear hk
  go_enter Tryz.func12, Tryz.ntmps12
  go_wp2_with fail
  refine (fields_any m.kind _ HK.out).mono ?_
  rintro e w1 ⟨⟨fb, fo, fs⟩, fc, rfl, hs1, hb1⟩
  have HX1 := Lib.hid (HX.out.on hb1)
  have HS1 := Lib.hid hs1
  clear q0 q1 q2 q3 q4 q5 q6 q7 q8 q9 q10 hb1 hs1 hn0
  obtain ⟨q0, q1, q2, q3, q4, q5, q6, q7, q8, q9, q10, -⟩ := cells16 HX1.out.2.1
  have hn1 : ∀ w' : World, (binOp BinOp.eql 66 (.slice (some ⟨fb, fo, fs⟩) (fieldsM m.kind).length fc) (.slice none 0 0)).run Tryz.prog w' = .ok (.bool false) w' := fun _ => by first | kernel_rfl | rfl
  obtain ⟨y1, hy1⟩ : ∃ y, decide (1 ≤ m.src ∧ m.src ≤ 7) = y := ⟨_, rfl⟩
  obtain ⟨y2, hy2⟩ : ∃ y, decide (1 ≤ m.dst ∧ m.dst ≤ 7) = y := ⟨_, rfl⟩
  obtain ⟨y3, hy3⟩ : ∃ y, (m.src == m.dst) = y := ⟨_, rfl⟩
  have HY1 := Lib.hid hy1
  have HY2 := Lib.hid hy2
  have HY3 := Lib.hid hy3
  clear hy1 hy2
  by_cases hg : y1 = true ∧ y2 = true ∧ y3 = false
  rotate_left
  · have HE : Hid (¬ msgOk m) := Lib.hid (fun g => hg ⟨(node_b HY1.out).1 g.2.1, (node_b HY2.out).1 g.2.2.1, HY3.out.symm.trans (beq_f g.2.2.2.1)⟩)
    cases y1
    · clear hg
      go_wp2_with (go_at_call 36; refine (isNode_any _ _).mono ?_; rintro e w2 ⟨rfl, rfl⟩; rw [HY1.out])
      go_ret
      exact says_no HE.out HX1.out.1
    · cases y2
      · clear hg
        go_wp2_with (go_at_call 36; refine (isNode_any _ _).mono ?_; rintro e w2 ⟨rfl, rfl⟩; first | rw [HY1.out] | rw [HY2.out])
        go_ret
        exact says_no HE.out HX1.out.1
      · cases y3
        · exact absurd ⟨rfl, rfl, rfl⟩ hg
        · clear hg
          go_wp2_with (go_at_call 36; refine (isNode_any _ _).mono ?_; rintro e w2 ⟨rfl, rfl⟩; first | rw [HY1.out] | rw [HY2.out])
          go_ret
          exact says_no HE.out HX1.out.1
  obtain ⟨rfl, rfl, rfl⟩ := hg
  have HN1 := Lib.hid ((node_b HY1.out).2 rfl)
  have HN2 := Lib.hid ((node_b HY2.out).2 rfl)
  have HN3 : Hid (m.src ≠ m.dst) := Lib.hid (beq_eq_false_iff_ne.1 HY3.out)
  go_wp2_with (go_at_call 36; refine (isNode_any _ _).mono ?_; rintro e w2 ⟨rfl, rfl⟩; first | rw [HY1.out] | rw [HY2.out])
  clear hn1 hy3
  go_loopw [4] (fun f wr => ∃ k : Nat, k ≤ 7 ∧ f = .int .i64 k ∧ Below w1.heap.size w1 wr ∧ Hid (zUp m k)) (fun f _ => 7 - (intOf f).toNat)
  case atStart => exact ⟨0, by omega, rfl, Below.refl _ _, Lib.hid (fun g hg => absurd hg (by omega))⟩
  case round =>
    clear q0 q1 q2 q3 q4 q5 q6 q7 q8 q9 q10
    obtain ⟨k, hk, rfl, hb, HO⟩ := hrel
    have HXR := Lib.hid (HX1.out.on hb)
    have HSR := Lib.hid (HS1.out.below hb (Nat.le_refl _))
    have HBR := Lib.hid hb
    have hr := HXR.out.2.1
    clear hb
    by_cases hk6 : k ≤ 6
    · have hk6' : (k : Int) ≤ 6 := by omega
      by_cases hin : (k : Int) ∈ fieldsM m.kind
      · have HIN := Lib.hid (decide_eq_true hin)
        have HO2 : Hid (zUp m (k + 1)) := Lib.hid (fun f hf hfn => by
          rcases Nat.lt_or_ge f k with h | h
          · exact HO.out f h hfn
          · obtain rfl : f = k := by omega
            exact absurd hin hfn)
        clear hin
        go_wp2_with (go_at_call 37; refine (fcontains_any _ _ _ _ HSR.out).mono ?_; rintro e w2 ⟨rfl, rfl⟩; rw [HIN.out])
        go_roundw
        case rel => exact ⟨k + 1, by omega, by go_num, HBR.out, HO2⟩
        case measure => simp [intOf]; omega
      · have HIN := Lib.hid (decide_eq_false hin)
        have HNI := Lib.hid hin
        clear hin
        go_wp2_with (first
          | (go_at_call 37; refine (fcontains_any _ _ _ _ HSR.out).mono ?_; rintro e w2 ⟨rfl, rfl⟩; rw [HIN.out])
          | (refine wpList_load_rowG rfl 33 (.tmp 1) rfl w.heap.size rfl 33 (mArr m (.slice ae m.ents.length ce) vn vh vl) (0, 0) _ hr Tryz.underlying33 rfl (by kernel_rfl) ?_))
        refine (empty_any m k hk6 _ _ HXR.out.2.2.1).mono ?_
        rintro e w3 ⟨bb, rfl, hbb, hb3⟩
        have HX3 := Lib.hid (HXR.out.on hb3)
        have HB3 := Lib.hid (HBR.out.trans (hb3.mono HBR.out.size))
        clear hb3 hr
        cases bb
        · have HE : Hid (¬ msgOk m) := Lib.hid (fun g => Bool.noConfusion (hbb.2 (g.2.2.2.2.1 k (by omega) HNI.out)))
          clear hbb
          go_wp2
          go_ret
          exact says_no HE.out HX3.out.1
        · have hz := hbb.1 rfl
          have HO2 : Hid (zUp m (k + 1)) := Lib.hid (fun f hf hfn => by
            rcases Nat.lt_or_ge f k with h | h
            · exact HO.out f h hfn
            · obtain rfl : f = k := by omega
              exact hz)
          clear hbb hz
          go_wp2
          go_roundw
          case rel => exact ⟨k + 1, by omega, by go_num, HB3.out, HO2⟩
          case measure => simp [intOf]; omega
    · obtain rfl : k = 7 := by omega
      go_wp2_with (refine wpList_load_row rfl 33 (.tmp 1) rfl w.heap.size rfl 33 (mArr m (.slice ae m.ents.length ce) vn vh vl) (0, 0) _ hr Tryz.underlying33 rfl (by kernel_rfl) ?_)
      refine (mfits_any m _ _ HXR.out.2.2.1).mono ?_
      rintro e w3 ⟨bb, rfl, hbb, hb3⟩
      have HX3 := Lib.hid (HXR.out.on hb3)
      clear hb3 hr
      cases bb
      · have HE : Hid (¬ msgOk m) := Lib.hid (fun g => Bool.noConfusion (hbb.2 g.2.2.2.2.2))
        clear hbb
        go_wp2
        go_ret
        exact says_no HE.out HX3.out.1
      · have HE : Hid (msgOk m) := Lib.hid ⟨HK.out, HN1.out, HN2.out, HN3.out, HO.out, hbb.1 rfl⟩
        clear hbb
        go_wp2
        go_ret
        exact says_yes HE.out HX3.out.1
end Ms
end Go.Proofs.YtlfaiemebfkajaaGreatDoor
