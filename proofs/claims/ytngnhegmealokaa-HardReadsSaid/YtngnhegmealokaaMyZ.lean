/- Two that differ, one of them zero: the document's Same of lists, commands, ledgers, snapshots. No condition. A record with its kind's fields alone: the document's only; SameRec of it and the record. No condition. The document's SameRec of a record and what only leaves of it. No condition. -/
import Derived.Test.YtngnhegmealokaaCmR
namespace Go.Proofs.Ytngnhegmealokaa
open Go.ChangeShapes Go.WideShapes Go.ChangeAt Go.RowKit Go.Deep
set_option linter.unusedVariables false
set_option maxRecDepth 100000
namespace Rc
open Hd Nv
theorem ret_bool {b c : Bool} (h : b = c) : Ending.returned (.bool b) = .returned (.bool c) := by rw [h]
def SaysNo (w : World) (e : Ending) (w' : World) : Prop := e = .returned (.bool false) ∧ Below w.heap.size w w'
theorem ne_true {a b : Int} (h : a ≠ b) : (a == b) = false := beq_eq_false_iff_ne.2 h
theorem nodes_no (zs : List Int) (v u : Value) (w : World) (h1 : Sl .i64 w v []) (h2 : Sl .i64 w u zs) (hz : zs.length ≠ 0) : Calls Try.prog 50 #[v, u] w (SaysNo w) := by
  refine (Nd.same_any v u [] zs w h1 h2).mono ?_
  rintro e w2 ⟨rfl, hb⟩
  exact ⟨ret_bool (decide_eq_false (fun q => hz (by rw [← q]; rfl))), hb⟩
set_option maxHeartbeats 8000000 in
theorem cmd_no (a c : Cmd) (v u : Value) (w : World) (h : IsCmd w v a) (g : IsCmd w u c) (ha : a.nodes = []) (hne : ¬ (a.kind = c.kind ∧ a.node = c.node ∧ a.token = c.token ∧ a.boot = c.boot ∧ a.seq = c.seq ∧ a.serial = c.serial ∧ a.stamp = c.stamp ∧ c.nodes.length = 0)) : Calls Try.prog 27 #[v, u] w (SaysNo w) := by
  obtain ⟨vn, rfl, hn, -⟩ := h
  obtain ⟨un, rfl, gn, -⟩ := g
  rw [ha] at hn
  obtain ⟨W1, hW1⟩ : ∃ q, (w.alloc (.cells (Cm.cArr a vn) 25)).alloc (.cells (Cm.cArr c un) 25) = q := ⟨_, rfl⟩
  have hA : W1.heap[w.heap.size]? = some (.cells (Cm.cArr a vn) 25 (0, 0)) := by rw [← hW1]; exact heap_alloc2_old _ _ _
  have hB : W1.heap[w.heap.size + 1]? = some (.cells (Cm.cArr c un) 25 (0, 0)) := by rw [← hW1]; exact heap_alloc2_new _ _ _
  have hb : Below w.heap.size w W1 := by rw [← hW1]; exact ((Below.refl _ _).alloc (Nat.le_refl _) _).alloc (by simp) _
  have c0 := (cell_of_row W1 _ 0 _ _ _ hA).trans rfl
  have d0 := (cell_of_row W1 _ 0 _ _ _ hB).trans rfl
  have c1 := (cell_of_row W1 _ 1 _ _ _ hA).trans rfl
  have d1 := (cell_of_row W1 _ 1 _ _ _ hB).trans rfl
  have c2 := (cell_of_row W1 _ 2 _ _ _ hA).trans rfl
  have d2 := (cell_of_row W1 _ 2 _ _ _ hB).trans rfl
  have c3 := (cell_of_row W1 _ 3 _ _ _ hA).trans rfl
  have d3 := (cell_of_row W1 _ 3 _ _ _ hB).trans rfl
  have c4 := (cell_of_row W1 _ 4 _ _ _ hA).trans rfl
  have d4 := (cell_of_row W1 _ 4 _ _ _ hB).trans rfl
  have c5 := (cell_of_row W1 _ 5 _ _ _ hA).trans rfl
  have d5 := (cell_of_row W1 _ 5 _ _ _ hB).trans rfl
  have c6 := (cell_of_row W1 _ 6 _ _ _ hA).trans rfl
  have d6 := (cell_of_row W1 _ 6 _ _ _ hB).trans rfl
  have c7 := (cell_of_row W1 _ 7 _ _ _ hA).trans rfl
  have d7 := (cell_of_row W1 _ 7 _ _ _ hB).trans rfl
  have HB := Lib.hid hb
  have HN := Lib.hid (hn.below hb (Nat.le_refl _))
  have GN := Lib.hid (gn.below hb (Nat.le_refl _))
  clear hn gn hb hA hB ha
  by_cases k0 : a.kind = c.kind
  · have m0 : (a.kind == c.kind) = true := beq_iff_eq.2 k0
    by_cases k1 : a.node = c.node
    · have m1 : (a.node == c.node) = true := beq_iff_eq.2 k1
      by_cases k2 : a.token = c.token
      · have m2 : (a.token == c.token) = true := beq_iff_eq.2 k2
        by_cases k3 : a.boot = c.boot
        · have m3 : (a.boot == c.boot) = true := beq_iff_eq.2 k3
          by_cases k4 : a.seq = c.seq
          · have m4 : (a.seq == c.seq) = true := beq_iff_eq.2 k4
            by_cases k5 : a.serial = c.serial
            · have m5 : (a.serial == c.serial) = true := beq_iff_eq.2 k5
              by_cases k6 : a.stamp = c.stamp
              · have m6 : (a.stamp == c.stamp) = true := beq_iff_eq.2 k6
                have hz : c.nodes.length ≠ 0 := fun q => hne ⟨k0, k1, k2, k3, k4, k5, k6, q⟩
                have HZ := Lib.hid hz
                clear hz hne k0 k1 k2 k3 k4 k5 k6
                go_enter Try.func27, Try.ntmps27
                go_wp2_with fail
                refine (nodes_no c.nodes _ _ _ HN.out GN.out HZ.out).mono ?_
                rintro e w2 ⟨rfl, hb2⟩
                go_wp2
                go_ret
                exact ⟨rfl, HB.out.trans (hb2.mono HB.out.size)⟩
              · have m6 : (a.stamp == c.stamp) = false := ne_true k6
                clear hne k6 k0 k1 k2 k3 k4 k5
                go_enter Try.func27, Try.ntmps27
                go_wp2
                go_ret
                exact ⟨rfl, HB.out⟩
            · have m5 : (a.serial == c.serial) = false := ne_true k5
              clear hne k5 k0 k1 k2 k3 k4
              go_enter Try.func27, Try.ntmps27
              go_wp2
              go_ret
              exact ⟨rfl, HB.out⟩
          · have m4 : (a.seq == c.seq) = false := ne_true k4
            clear hne k4 k0 k1 k2 k3
            go_enter Try.func27, Try.ntmps27
            go_wp2
            go_ret
            exact ⟨rfl, HB.out⟩
        · have m3 : (a.boot == c.boot) = false := ne_true k3
          clear hne k3 k0 k1 k2
          go_enter Try.func27, Try.ntmps27
          go_wp2
          go_ret
          exact ⟨rfl, HB.out⟩
      · have m2 : (a.token == c.token) = false := ne_true k2
        clear hne k2 k0 k1
        go_enter Try.func27, Try.ntmps27
        go_wp2
        go_ret
        exact ⟨rfl, HB.out⟩
    · have m1 : (a.node == c.node) = false := ne_true k1
      clear hne k1 k0
      go_enter Try.func27, Try.ntmps27
      go_wp2
      go_ret
      exact ⟨rfl, HB.out⟩
  · have m0 : (a.kind == c.kind) = false := ne_true k0
    clear hne k0
    go_enter Try.func27, Try.ntmps27
    go_wp2
    go_ret
    exact ⟨rfl, HB.out⟩
set_option maxHeartbeats 8000000 in
theorem led_no (a l : Led) (v u : Value) (w : World) (h : IsLed w v a) (g : IsLed w u l) (ha : a.held.length = 0) (hb : a.last.length = 0) (hne : ¬ (a.limit = l.limit ∧ a.next = l.next ∧ l.held.length = 0 ∧ l.last.length = 0)) : Calls Try.prog 51 #[v, u] w (SaysNo w) := by
  obtain ⟨vh, vl, rfl, h1, h2, -⟩ := h
  obtain ⟨uh, ul, rfl, g1, g2, -⟩ := g
  obtain ⟨a1, c1, rfl, -⟩ := h1
  obtain ⟨a2, c2, rfl, -⟩ := h2
  obtain ⟨a3, c3, rfl, -⟩ := g1
  obtain ⟨a4, c4, rfl, -⟩ := g2
  rw [ha, hb]
  obtain ⟨W1, hW1⟩ : ∃ q, (w.alloc (.cells (lArr a (.slice a1 0 c1) (.slice a2 0 c2)) 31)).alloc (.cells (lArr l (.slice a3 l.held.length c3) (.slice a4 l.last.length c4)) 31) = q := ⟨_, rfl⟩
  have hA : W1.heap[w.heap.size]? = some (.cells (lArr a (.slice a1 0 c1) (.slice a2 0 c2)) 31 (0, 0)) := by rw [← hW1]; exact heap_alloc2_old _ _ _
  have hB : W1.heap[w.heap.size + 1]? = some (.cells (lArr l (.slice a3 l.held.length c3) (.slice a4 l.last.length c4)) 31 (0, 0)) := by rw [← hW1]; exact heap_alloc2_new _ _ _
  have hbw : Below w.heap.size w W1 := by rw [← hW1]; exact ((Below.refl _ _).alloc (Nat.le_refl _) _).alloc (by simp) _
  have c0 := (cell_of_row W1 _ 0 _ _ _ hA).trans rfl
  have d0 := (cell_of_row W1 _ 0 _ _ _ hB).trans rfl
  have c1 := (cell_of_row W1 _ 1 _ _ _ hA).trans rfl
  have d1 := (cell_of_row W1 _ 1 _ _ _ hB).trans rfl
  have c2 := (cell_of_row W1 _ 2 _ _ _ hA).trans rfl
  have d2 := (cell_of_row W1 _ 2 _ _ _ hB).trans rfl
  have c3 := (cell_of_row W1 _ 3 _ _ _ hA).trans rfl
  have d3 := (cell_of_row W1 _ 3 _ _ _ hB).trans rfl
  have HB := Lib.hid hbw
  clear hbw hA hB
  by_cases k0 : a.limit = l.limit
  · have m0 : (a.limit != l.limit) = false := by rw [bne, beq_iff_eq.2 k0]; rfl
    by_cases k1 : a.next = l.next
    · have m1 : (a.next != l.next) = false := by rw [bne, beq_iff_eq.2 k1]; rfl
      by_cases k2 : l.held.length = 0
      · have m2 : ((0 : Int) != (l.held.length : Int)) = false := by rw [k2]; rfl
        have k3 : l.last.length ≠ 0 := fun q => hne ⟨k0, k1, k2, q⟩
        have m3 : ((0 : Int) != (l.last.length : Int)) = true := by rw [bne, ne_true (by omega)]; rfl
        clear hne k0 k1 k2 k3
        go_enter Try.func51, Try.ntmps51
        go_wp2
        go_ret
        exact ⟨rfl, HB.out⟩
      · have m2 : ((0 : Int) != (l.held.length : Int)) = true := by rw [bne, ne_true (by omega)]; rfl
        clear hne k0 k1 k2
        go_enter Try.func51, Try.ntmps51
        go_wp2
        go_ret
        exact ⟨rfl, HB.out⟩
    · have m1 : (a.next != l.next) = true := by rw [bne, ne_true k1]; rfl
      clear hne k0 k1
      go_enter Try.func51, Try.ntmps51
      go_wp2
      go_ret
      exact ⟨rfl, HB.out⟩
  · have m0 : (a.limit != l.limit) = true := by rw [bne, ne_true k0]; rfl
    clear hne k0
    go_enter Try.func51, Try.ntmps51
    go_wp2
    go_ret
    exact ⟨rfl, HB.out⟩
theorem led_range {w : World} {g : Nat} {s : Sho} {vn vh vl : Value} (h : w.heap[g]? = some (.cells (sArr s vn vh vl) 33 (0, 0))) : w.rangeAt g 3 (lArr s.led vh vl).toList := fun j v hv => by
  have hj : j < 4 := by have := (List.getElem?_eq_some_iff.1 hv).1; simpa using this
  rw [cell_of_row w g (3 + j) _ _ _ h, ← hv]
  match j, hj with
  | 0, _ => rfl
  | 1, _ => rfl
  | 2, _ => rfl
  | 3, _ => rfl
set_option maxHeartbeats 8000000 in
theorem sho_no (a s : Sho) (v u : Value) (w : World) (h : IsShot w v a) (g : IsShot w u s) (hz : zSho a) (hne : ¬ zSho s) : Calls Try.prog 28 #[v, u] w (SaysNo w) := by
  obtain ⟨z0, z1, z2, z3, z4, z5, z6⟩ := hz
  obtain ⟨vn, vh, vl, rfl, hn, hh, hl, hw⟩ := h
  obtain ⟨un, uh, ul, rfl, gn, gh, gl, gw⟩ := g
  obtain ⟨W1, hW1⟩ : ∃ q, (w.alloc (.cells (sArr a vn vh vl) 33)).alloc (.cells (sArr s un uh ul) 33) = q := ⟨_, rfl⟩
  have hA : W1.heap[w.heap.size]? = some (.cells (sArr a vn vh vl) 33 (0, 0)) := by rw [← hW1]; exact heap_alloc2_old _ _ _
  have hB : W1.heap[w.heap.size + 1]? = some (.cells (sArr s un uh ul) 33 (0, 0)) := by rw [← hW1]; exact heap_alloc2_new _ _ _
  have hb : Below w.heap.size w W1 := by rw [← hW1]; exact ((Below.refl _ _).alloc (Nat.le_refl _) _).alloc (by simp) _
  have c0 := (cell_of_row W1 _ 0 _ _ _ hA).trans rfl
  have d0 := (cell_of_row W1 _ 0 _ _ _ hB).trans rfl
  have c1 := (cell_of_row W1 _ 1 _ _ _ hA).trans rfl
  have d1 := (cell_of_row W1 _ 1 _ _ _ hB).trans rfl
  have c2 := (cell_of_row W1 _ 2 _ _ _ hA).trans rfl
  have d2 := (cell_of_row W1 _ 2 _ _ _ hB).trans rfl
  have c3 := (cell_of_row W1 _ 3 _ _ _ hA).trans rfl
  have d3 := (cell_of_row W1 _ 3 _ _ _ hB).trans rfl
  have c4 := (cell_of_row W1 _ 4 _ _ _ hA).trans rfl
  have d4 := (cell_of_row W1 _ 4 _ _ _ hB).trans rfl
  have c5 := (cell_of_row W1 _ 5 _ _ _ hA).trans rfl
  have d5 := (cell_of_row W1 _ 5 _ _ _ hB).trans rfl
  have c6 := (cell_of_row W1 _ 6 _ _ _ hA).trans rfl
  have d6 := (cell_of_row W1 _ 6 _ _ _ hB).trans rfl
  have HB := Lib.hid hb
  have hn0 : a.nodes = [] := List.eq_nil_of_length_eq_zero z2
  have HN : Hid (Sl .i64 W1 vn []) := Lib.hid (by have q := hn.below hb (Nat.le_refl _); rw [hn0] at q; exact q)
  have GN := Lib.hid (gn.below hb (Nat.le_refl _))
  have HL : Hid (IsLed W1 (.agg (lArr a.led vh vl)) a.led) := Lib.hid ⟨_, _, rfl, hh.below hb (Nat.le_refl _), hl.below hb (Nat.le_refl _), hw.2.2⟩
  have GL : Hid (IsLed W1 (.agg (lArr s.led uh ul)) s.led) := Lib.hid ⟨_, _, rfl, gh.below hb (Nat.le_refl _), gl.below hb (Nat.le_refl _), gw.2.2⟩
  have HAR := Lib.hid hA
  have HBR := Lib.hid hB
  have HZ5 := Lib.hid z5
  have HZ6 := Lib.hid z6
  have HZ3 := Lib.hid z3
  have HZ4 := Lib.hid z4
  clear hn gn hh hl gh gl hw gw hb hA hB
  by_cases k0 : s.index = 0
  · have m0 : (a.index == s.index) = true := beq_iff_eq.2 (by rw [z0, k0])
    by_cases k1 : s.term = 0
    · have m1 : (a.term == s.term) = true := beq_iff_eq.2 (by rw [z1, k1])
      by_cases k2 : s.nodes.length = 0
      · have hs0 : s.nodes = [] := List.eq_nil_of_length_eq_zero k2
        have GN2 : Hid (Sl .i64 W1 un []) := Lib.hid (by have q := GN.out; rw [hs0] at q; exact q)
        have HNL : Hid (¬ (a.led.limit = s.led.limit ∧ a.led.next = s.led.next ∧ s.led.held.length = 0 ∧ s.led.last.length = 0)) := Lib.hid (fun q => hne ⟨k0, k1, k2, by have := HZ3.out; omega, by have := HZ4.out; omega, q.2.2.1, q.2.2.2⟩)
        clear hne k0 k1 k2 hs0 hn0 z0 z1 z2 z3 z4 z5 z6
        go_enter Try.func28, Try.ntmps28
        go_wp2_with fail
        refine (Sh.nodes_same _ _ [] _ HN.out GN2.out).mono ?_
        rintro e w2 ⟨rfl, hb2⟩
        have ra := led_range ((hb2.block _ (Hd.lt_of_row HAR.out)).trans HAR.out)
        have rb := led_range ((hb2.block _ (Hd.lt_of_row HBR.out)).trans HBR.out)
        have HL2 := Lib.hid (HL.out.below hb2 (Nat.le_refl _))
        have GL2 := Lib.hid (GL.out.below hb2 (Nat.le_refl _))
        have HB2 := Lib.hid (HB.out.trans (hb2.mono HB.out.size))
        clear hb2 c0 c1 c2 c3 c4 c5 c6 d0 d1 d2 d3 d4 d5 d6
        go_wp2_with (first
          | (refine wpList_load_midG rfl 31 (.tmp 25) rfl w.heap.size 3 rfl (lArr a.led vh vl).toList _ ra Try.underlying31 rfl (by kernel_rfl) ?_)
          | (refine wpList_load_midG rfl 31 (.tmp 27) rfl (w.heap.size + 1) 3 rfl (lArr s.led uh ul).toList _ rb Try.underlying31 rfl (by kernel_rfl) ?_))
        refine (led_no a.led s.led _ _ _ HL2.out GL2.out HZ5.out HZ6.out HNL.out).mono ?_
        rintro e w3 ⟨rfl, hb3⟩
        go_wp2
        go_ret
        exact ⟨rfl, HB2.out.trans (hb3.mono HB2.out.size)⟩
      · have HK2 := Lib.hid k2
        clear hne k0 k1 k2 hn0 z0 z1 z2 z3 z4 z5 z6
        go_enter Try.func28, Try.ntmps28
        go_wp2_with fail
        refine (nodes_no s.nodes _ _ _ HN.out GN.out HK2.out).mono ?_
        rintro e w2 ⟨rfl, hb2⟩
        go_wp2
        go_ret
        exact ⟨rfl, HB.out.trans (hb2.mono HB.out.size)⟩
    · have m1 : (a.term == s.term) = false := ne_true (by omega)
      clear hne k0 k1 hn0 z0 z1 z2 z3 z4 z5 z6
      go_enter Try.func28, Try.ntmps28
      go_wp2
      go_ret
      exact ⟨rfl, HB.out⟩
  · have m0 : (a.index == s.index) = false := ne_true (by omega)
    clear hne k0 hn0 z0 z1 z2 z3 z4 z5 z6
    go_enter Try.func28, Try.ntmps28
    go_wp2
    go_ret
    exact ⟨rfl, HB.out⟩
end Rc
end Go.Proofs.Ytngnhegmealokaa
namespace Go.Proofs.Ytngnhegmealokaa
open Go.ChangeShapes Go.WideShapes Go.ChangeAt Go.RowKit Go.Deep
set_option linter.unusedVariables false
set_option maxRecDepth 100000
namespace Rc
open Hd Nv
abbrev kR (k : Int) : Array Value := #[.int .i64 k, .int .i64 0, .int .u64 0, .int .u64 0, .int .u64 0, .int .u64 0, .int .i64 0, .int .i64 0, .int .i64 0, .slice none 0 0, .int .u64 0, .int .u64 0, .int .u64 0, .int .u64 0, .int .u64 0, .int .u64 0, .slice none 0 0, .int .i64 0, .int .u64 0, .slice none 0 0, .slice none 0 0]
def zRec (k : Int) : RecR := ⟨k, 0, 0, 0, 0, zEntV, zShoV⟩
def onlyR (r : RecR) : RecR :=
  if r.kind = 1 then { zRec r.kind with boot := r.boot } else if r.kind = 2 then { zRec r.kind with term := r.term, vote := r.vote } else if r.kind = 3 then { zRec r.kind with index := r.index, ent := r.ent } else if r.kind = 4 then { zRec r.kind with index := r.index } else if r.kind = 5 then { zRec r.kind with shot := r.shot } else zRec r.kind
theorem ent_range {w : World} {g : Nat} {r : RecR} {vc vn vh vl : Value} (h : w.heap[g]? = some (.cells (rArr r vc vn vh vl) 35 (0, 0))) : w.rangeAt g 5 (entC (r.ent, vc)) := fun j v hv => by
  have hj : j < 9 := by have := (List.getElem?_eq_some_iff.1 hv).1; simpa using this
  rw [cell_of_row w g (5 + j) _ _ _ h, ← hv]
  match j, hj with
  | 0, _ => rfl
  | 1, _ => rfl
  | 2, _ => rfl
  | 3, _ => rfl
  | 4, _ => rfl
  | 5, _ => rfl
  | 6, _ => rfl
  | 7, _ => rfl
  | 8, _ => rfl
theorem ent_putV {w : World} {g : Nat} {r : RecR} {vc vn vh vl : Value} (h : w.heap[g]? = some (.cells (rArr r vc vn vh vl) 35 (0, 0))) (x : Ent) (u : Value) : (w.setCells g 5 (entC (x, u)).toArray.toList).heap[g]? = some (.cells (rArr { r with ent := x } u vn vh vl) 35 (0, 0)) := by
  rw [heap_setCells g _ _ h]
  simp [setsA]
theorem sho_putV {w : World} {g : Nat} {r : RecR} {vc vn vh vl : Value} (h : w.heap[g]? = some (.cells (rArr r vc vn vh vl) 35 (0, 0))) (s : Sho) (un uh ul : Value) : (w.setCells g 14 (sArr s un uh ul).toList).heap[g]? = some (.cells (rArr { r with shot := s } vc un uh ul) 35 (0, 0)) := by
  rw [heap_setCells g _ _ h]
  simp [setsA]
theorem kR_one (k : Int) : (kR k).all (·.oneCell') = true := by simp [Value.oneCell']
theorem entA_one (x : Ent) (a : Option Addr) (i j : Nat) : (entC (x, .slice a i j)).toArray.all (·.oneCell') = true := by simp [Value.oneCell']
set_option maxHeartbeats 4000000 in
theorem only_any (r : RecR) (v : Value) (w : World) (h : IsRec w v r) : Calls Try.prog 36 #[v] w (GivesRec (onlyR r) w) := by
  obtain ⟨vc, vn, vh, vl, rfl, ⟨hc, hn, hh, hl⟩, hwf⟩ := id h
  obtain ⟨a1, b1, rfl, -⟩ := id hc
  obtain ⟨a2, b2, rfl, -⟩ := id hn
  obtain ⟨a3, b3, rfl, -⟩ := id hh
  obtain ⟨a4, b4, rfl, -⟩ := id hl
  obtain ⟨W1, hW1, hb1, hz1, hA1, hB1⟩ := boxR w (rArr r (.slice a1 r.ent.cmd.nodes.length b1) (.slice a2 r.shot.nodes.length b2) (.slice a3 r.shot.led.held.length b3) (.slice a4 r.shot.led.last.length b4))
  have hs2 : (W1.alloc (.cells zR 35)).heap[W1.heap.size]? = some (.cells zR 35 (0, 0)) := heap_alloc_new _ _
  obtain ⟨W2, hW2⟩ : ∃ q, (W1.alloc (.cells zR 35)).setRow W1.heap.size (kR r.kind) = q := ⟨_, rfl⟩
  have hX2 : W2.heap[W1.heap.size]? = some (.cells (rArr (zRec r.kind) (.slice none 0 0) (.slice none 0 0) (.slice none 0 0) (.slice none 0 0)) 35 (0, 0)) := by rw [← hW2]; exact setRow_heap _ _ _ _ _ _ hs2
  have hq2 : Below W1.heap.size W1 W2 := by rw [← hW2]; exact Ld.below_row ((Below.refl _ _).alloc (Nat.le_refl _) _) (Nat.le_refl _) _
  have hA2 : W2.heap[w.heap.size]? = some (.cells (rArr r (.slice a1 r.ent.cmd.nodes.length b1) (.slice a2 r.shot.nodes.length b2) (.slice a3 r.shot.led.held.length b3) (.slice a4 r.shot.led.last.length b4)) 35 (0, 0)) := (hq2.block _ (by omega)).trans hA1
  have hB2 : W2.heap[w.heap.size + 1]? = some (.cells zR 35 (0, 0)) := (hq2.block _ (by omega)).trans hB1
  have hb2 : Below w.heap.size w W2 := hb1.trans (hq2.mono hb1.size)
  have HL := Lib.hid (⟨hc, hn, hh, hl⟩ : RecL w r (.slice a1 r.ent.cmd.nodes.length b1) (.slice a2 r.shot.nodes.length b2) (.slice a3 r.shot.led.held.length b3) (.slice a4 r.shot.led.last.length b4))
  have HWF := Lib.hid hwf
  have HA2 := Lib.hid hA2
  have HB2 := Lib.hid hB2
  have HX2 := Lib.hid hX2
  have HBW2 := Lib.hid hb2
  have HS2 := Lib.hid hs2
  have HZ := Lib.hid hz1
  have q0 := (cells21 hA1).1
  have q2 := (cells21 hA2).1
  clear h hc hn hh hl hwf hb1 hz1 hA1 hB1 hs2 hX2 hq2 hA2 hB2 hb2
  by_cases hk1 : r.kind = 1
  · have HK := Lib.hid hk1
    have n1 : (r.kind == 1) = true := beq_iff_eq.2 hk1
    clear hk1
    have d3 := (cell_of_row W2 _ 2 _ _ _ HA2.out).trans rfl
    have x3 := (cell_of_row W2 _ 2 _ _ _ HX2.out).trans rfl
    have f3 := La.frozen_of (o := 2) HX2.out
    obtain ⟨W3, hW3⟩ : ∃ q, W2.setCell ⟨W1.heap.size, 2, none⟩ (.int .u64 r.boot) = q := ⟨_, rfl⟩
    have HX3 : Hid (W3.heap[W1.heap.size]? = some (.cells (rArr { zRec r.kind with boot := r.boot } (.slice none 0 0) (.slice none 0 0) (.slice none 0 0) (.slice none 0 0)) 35 (0, 0))) := Lib.hid (by rw [← hW3, heap_setCell_same W2 W1.heap.size 2 _ _ _ HX2.out]; rfl)
    have HA3 : Hid (W3.heap[w.heap.size]? = some (.cells (rArr r (.slice a1 r.ent.cmd.nodes.length b1) (.slice a2 r.shot.nodes.length b2) (.slice a3 r.shot.led.held.length b3) (.slice a4 r.shot.led.last.length b4)) 35 (0, 0))) := Lib.hid (by rw [← hW3]; exact (heap_setCell_other _ _ _ _ (by show w.heap.size ≠ W1.heap.size; have := HZ.out; omega)).trans HA2.out)
    have HB3 : Hid (W3.heap[w.heap.size + 1]? = some (.cells zR 35 (0, 0))) := Lib.hid (by rw [← hW3]; exact (heap_setCell_other _ _ _ _ (by show w.heap.size + 1 ≠ W1.heap.size; have := HZ.out; omega)).trans HB2.out)
    have HBW3 : Hid (Below w.heap.size w W3) := Lib.hid (by rw [← hW3]; exact HBW2.out.setCell (by show w.heap.size ≤ W1.heap.size; have := HZ.out; omega) _)
    have HFIN : Hid (GivesRec (onlyR r) w (.returned (.agg (rArr { zRec r.kind with boot := r.boot } (.slice none 0 0) (.slice none 0 0) (.slice none 0 0) (.slice none 0 0)))) (W3.setRow (w.heap.size + 1) (rArr { zRec r.kind with boot := r.boot } (.slice none 0 0) (.slice none 0 0) (.slice none 0 0) (.slice none 0 0)))) := Lib.hid (by
      have hb3 := Ld.below_row HBW3.out (show w.heap.size ≤ w.heap.size + 1 by omega) (rArr { zRec r.kind with boot := r.boot } (.slice none 0 0) (.slice none 0 0) (.slice none 0 0) (.slice none 0 0))
      have he : onlyR r = { zRec r.kind with boot := r.boot } := by unfold onlyR; rw [if_pos HK.out]
      rw [he]
      exact ⟨_, rfl, ⟨_, _, _, _, rfl, ⟨Cm.sl_nil _ _, Cm.sl_nil _ _, SlR.nil _, SlR.nil _⟩, ⟨HWF.out.1, (show (Lit.int .i64 0).wf = true by decide), HWF.out.2.2.1, (show (Lit.int .u64 0).wf = true by decide), (show (Lit.int .u64 0).wf = true by decide), zEnt_wf, zSho_wf⟩⟩, hb3⟩)
    go_enter Try.func36, Try.ntmps36
    go_wp2_with (first
      | (with_reducible refine wpList_store_row rfl 35 (.tmp 3) (.tmp 6) rfl W1.heap.size (kR r.kind) rfl rfl 35 _ HS2.out (by kernel_rfl) rfl (kR_one _) ?_; rw [hW2])
      | (with_reducible refine wpList_load_row rfl 35 (.tmp 3) rfl W1.heap.size rfl 35 (rArr { zRec r.kind with boot := r.boot } (.slice none 0 0) (.slice none 0 0) (.slice none 0 0) (.slice none 0 0)) (0, 0) _ HX3.out Try.underlying35 rfl (by kernel_rfl) ?_)
      | (with_reducible refine wpList_store_row rfl 35 (.tmp 2) (.tmp 40) rfl (w.heap.size + 1) (rArr { zRec r.kind with boot := r.boot } (.slice none 0 0) (.slice none 0 0) (.slice none 0 0) (.slice none 0 0)) rfl rfl 35 _ HB3.out (by kernel_rfl) rfl (rArr_one _ _ _ _ _ _ _ _ _ _ _ _ _) ?_))
    exact bodyPost_ret (v := .agg (rArr { zRec r.kind with boot := r.boot } (.slice none 0 0) (.slice none 0 0) (.slice none 0 0) (.slice none 0 0))) (results_cell_row rfl _ _ (w.heap.size + 1) 35 _ (0, 0) _ rfl (setRow_heap _ _ _ _ _ _ HB3.out) Try.underlying35 rfl (by kernel_rfl)) rfl HFIN.out
  by_cases hk2 : r.kind = 2
  · have HK := Lib.hid hk2
    have n1 : (r.kind == 1) = false := beq_eq_false_iff_ne.2 (by omega)
    have n2 : (r.kind == 2) = true := beq_iff_eq.2 hk2
    have HN1 := Lib.hid hk1
    clear hk1 hk2
    have d3 := (cell_of_row W2 _ 3 _ _ _ HA2.out).trans rfl
    have x3 := (cell_of_row W2 _ 3 _ _ _ HX2.out).trans rfl
    have f3 := La.frozen_of (o := 3) HX2.out
    obtain ⟨W3, hW3⟩ : ∃ q, W2.setCell ⟨W1.heap.size, 3, none⟩ (.int .u64 r.term) = q := ⟨_, rfl⟩
    have HX3 : Hid (W3.heap[W1.heap.size]? = some (.cells (rArr { zRec r.kind with term := r.term } (.slice none 0 0) (.slice none 0 0) (.slice none 0 0) (.slice none 0 0)) 35 (0, 0))) := Lib.hid (by rw [← hW3, heap_setCell_same W2 W1.heap.size 3 _ _ _ HX2.out]; rfl)
    have HA3 : Hid (W3.heap[w.heap.size]? = some (.cells (rArr r (.slice a1 r.ent.cmd.nodes.length b1) (.slice a2 r.shot.nodes.length b2) (.slice a3 r.shot.led.held.length b3) (.slice a4 r.shot.led.last.length b4)) 35 (0, 0))) := Lib.hid (by rw [← hW3]; exact (heap_setCell_other _ _ _ _ (by show w.heap.size ≠ W1.heap.size; have := HZ.out; omega)).trans HA2.out)
    have HB3 : Hid (W3.heap[w.heap.size + 1]? = some (.cells zR 35 (0, 0))) := Lib.hid (by rw [← hW3]; exact (heap_setCell_other _ _ _ _ (by show w.heap.size + 1 ≠ W1.heap.size; have := HZ.out; omega)).trans HB2.out)
    have HBW3 : Hid (Below w.heap.size w W3) := Lib.hid (by rw [← hW3]; exact HBW2.out.setCell (by show w.heap.size ≤ W1.heap.size; have := HZ.out; omega) _)
    have d4 := (cell_of_row W3 _ 1 _ _ _ HA3.out).trans rfl
    have x4 := (cell_of_row W3 _ 1 _ _ _ HX3.out).trans rfl
    have f4 := La.frozen_of (o := 1) HX3.out
    obtain ⟨W4, hW4⟩ : ∃ q, W3.setCell ⟨W1.heap.size, 1, none⟩ (.int .i64 r.vote) = q := ⟨_, rfl⟩
    have HX4 : Hid (W4.heap[W1.heap.size]? = some (.cells (rArr { zRec r.kind with term := r.term, vote := r.vote } (.slice none 0 0) (.slice none 0 0) (.slice none 0 0) (.slice none 0 0)) 35 (0, 0))) := Lib.hid (by rw [← hW4, heap_setCell_same W3 W1.heap.size 1 _ _ _ HX3.out]; rfl)
    have HA4 : Hid (W4.heap[w.heap.size]? = some (.cells (rArr r (.slice a1 r.ent.cmd.nodes.length b1) (.slice a2 r.shot.nodes.length b2) (.slice a3 r.shot.led.held.length b3) (.slice a4 r.shot.led.last.length b4)) 35 (0, 0))) := Lib.hid (by rw [← hW4]; exact (heap_setCell_other _ _ _ _ (by show w.heap.size ≠ W1.heap.size; have := HZ.out; omega)).trans HA3.out)
    have HB4 : Hid (W4.heap[w.heap.size + 1]? = some (.cells zR 35 (0, 0))) := Lib.hid (by rw [← hW4]; exact (heap_setCell_other _ _ _ _ (by show w.heap.size + 1 ≠ W1.heap.size; have := HZ.out; omega)).trans HB3.out)
    have HBW4 : Hid (Below w.heap.size w W4) := Lib.hid (by rw [← hW4]; exact HBW3.out.setCell (by show w.heap.size ≤ W1.heap.size; have := HZ.out; omega) _)
    have HFIN : Hid (GivesRec (onlyR r) w (.returned (.agg (rArr { zRec r.kind with term := r.term, vote := r.vote } (.slice none 0 0) (.slice none 0 0) (.slice none 0 0) (.slice none 0 0)))) (W4.setRow (w.heap.size + 1) (rArr { zRec r.kind with term := r.term, vote := r.vote } (.slice none 0 0) (.slice none 0 0) (.slice none 0 0) (.slice none 0 0)))) := Lib.hid (by
      have hb3 := Ld.below_row HBW4.out (show w.heap.size ≤ w.heap.size + 1 by omega) (rArr { zRec r.kind with term := r.term, vote := r.vote } (.slice none 0 0) (.slice none 0 0) (.slice none 0 0) (.slice none 0 0))
      have he : onlyR r = { zRec r.kind with term := r.term, vote := r.vote } := by unfold onlyR; rw [if_neg HN1.out]; rw [if_pos HK.out]
      rw [he]
      exact ⟨_, rfl, ⟨_, _, _, _, rfl, ⟨Cm.sl_nil _ _, Cm.sl_nil _ _, SlR.nil _, SlR.nil _⟩, ⟨HWF.out.1, HWF.out.2.1, (show (Lit.int .u64 0).wf = true by decide), HWF.out.2.2.2.1, (show (Lit.int .u64 0).wf = true by decide), zEnt_wf, zSho_wf⟩⟩, hb3⟩)
    go_enter Try.func36, Try.ntmps36
    go_wp2_with (first
      | (with_reducible refine wpList_store_row rfl 35 (.tmp 3) (.tmp 6) rfl W1.heap.size (kR r.kind) rfl rfl 35 _ HS2.out (by kernel_rfl) rfl (kR_one _) ?_; rw [hW2])
      | (with_reducible refine wpList_load_row rfl 35 (.tmp 3) rfl W1.heap.size rfl 35 (rArr { zRec r.kind with term := r.term, vote := r.vote } (.slice none 0 0) (.slice none 0 0) (.slice none 0 0) (.slice none 0 0)) (0, 0) _ HX4.out Try.underlying35 rfl (by kernel_rfl) ?_)
      | (with_reducible refine wpList_store_row rfl 35 (.tmp 2) (.tmp 40) rfl (w.heap.size + 1) (rArr { zRec r.kind with term := r.term, vote := r.vote } (.slice none 0 0) (.slice none 0 0) (.slice none 0 0) (.slice none 0 0)) rfl rfl 35 _ HB4.out (by kernel_rfl) rfl (rArr_one _ _ _ _ _ _ _ _ _ _ _ _ _) ?_))
    exact bodyPost_ret (v := .agg (rArr { zRec r.kind with term := r.term, vote := r.vote } (.slice none 0 0) (.slice none 0 0) (.slice none 0 0) (.slice none 0 0))) (results_cell_row rfl _ _ (w.heap.size + 1) 35 _ (0, 0) _ rfl (setRow_heap _ _ _ _ _ _ HB4.out) Try.underlying35 rfl (by kernel_rfl)) rfl HFIN.out
  by_cases hk3 : r.kind = 3
  · have HK := Lib.hid hk3
    have n1 : (r.kind == 1) = false := beq_eq_false_iff_ne.2 (by omega)
    have n2 : (r.kind == 2) = false := beq_eq_false_iff_ne.2 (by omega)
    have n3 : (r.kind == 3) = true := beq_iff_eq.2 hk3
    have HN1 := Lib.hid hk1
    have HN2 := Lib.hid hk2
    clear hk1 hk2 hk3
    have d3 := (cell_of_row W2 _ 4 _ _ _ HA2.out).trans rfl
    have x3 := (cell_of_row W2 _ 4 _ _ _ HX2.out).trans rfl
    have f3 := La.frozen_of (o := 4) HX2.out
    obtain ⟨W3, hW3⟩ : ∃ q, W2.setCell ⟨W1.heap.size, 4, none⟩ (.int .u64 r.index) = q := ⟨_, rfl⟩
    have HX3 : Hid (W3.heap[W1.heap.size]? = some (.cells (rArr { zRec r.kind with index := r.index } (.slice none 0 0) (.slice none 0 0) (.slice none 0 0) (.slice none 0 0)) 35 (0, 0))) := Lib.hid (by rw [← hW3, heap_setCell_same W2 W1.heap.size 4 _ _ _ HX2.out]; rfl)
    have HA3 : Hid (W3.heap[w.heap.size]? = some (.cells (rArr r (.slice a1 r.ent.cmd.nodes.length b1) (.slice a2 r.shot.nodes.length b2) (.slice a3 r.shot.led.held.length b3) (.slice a4 r.shot.led.last.length b4)) 35 (0, 0))) := Lib.hid (by rw [← hW3]; exact (heap_setCell_other _ _ _ _ (by show w.heap.size ≠ W1.heap.size; have := HZ.out; omega)).trans HA2.out)
    have HB3 : Hid (W3.heap[w.heap.size + 1]? = some (.cells zR 35 (0, 0))) := Lib.hid (by rw [← hW3]; exact (heap_setCell_other _ _ _ _ (by show w.heap.size + 1 ≠ W1.heap.size; have := HZ.out; omega)).trans HB2.out)
    have HBW3 : Hid (Below w.heap.size w W3) := Lib.hid (by rw [← hW3]; exact HBW2.out.setCell (by show w.heap.size ≤ W1.heap.size; have := HZ.out; omega) _)
    have hrg4 := ent_range HA3.out
    have hth4 := there_row HX3.out 5 9 (by simp)
    obtain ⟨W4, hW4⟩ : ∃ q, W3.setCells W1.heap.size 5 (entC (r.ent, .slice a1 r.ent.cmd.nodes.length b1)).toArray.toList = q := ⟨_, rfl⟩
    have HX4 : Hid (W4.heap[W1.heap.size]? = some (.cells (rArr { zRec r.kind with index := r.index, ent := r.ent } (.slice a1 r.ent.cmd.nodes.length b1) (.slice none 0 0) (.slice none 0 0) (.slice none 0 0)) 35 (0, 0))) := Lib.hid (by rw [← hW4]; exact ent_putV HX3.out _ _)
    have HA4 : Hid (W4.heap[w.heap.size]? = some (.cells (rArr r (.slice a1 r.ent.cmd.nodes.length b1) (.slice a2 r.shot.nodes.length b2) (.slice a3 r.shot.led.held.length b3) (.slice a4 r.shot.led.last.length b4)) 35 (0, 0))) := Lib.hid (by rw [← hW4]; exact (setCells_other _ _ _ _ (by have := HZ.out; omega)).trans HA3.out)
    have HB4 : Hid (W4.heap[w.heap.size + 1]? = some (.cells zR 35 (0, 0))) := Lib.hid (by rw [← hW4]; exact (setCells_other _ _ _ _ (by have := HZ.out; omega)).trans HB3.out)
    have HBW4 : Hid (Below w.heap.size w W4) := Lib.hid (by rw [← hW4]; exact HBW3.out.trans (setCells_below _ (by have := HZ.out; omega) _ _ _))
    have HFIN : Hid (GivesRec (onlyR r) w (.returned (.agg (rArr { zRec r.kind with index := r.index, ent := r.ent } (.slice a1 r.ent.cmd.nodes.length b1) (.slice none 0 0) (.slice none 0 0) (.slice none 0 0)))) (W4.setRow (w.heap.size + 1) (rArr { zRec r.kind with index := r.index, ent := r.ent } (.slice a1 r.ent.cmd.nodes.length b1) (.slice none 0 0) (.slice none 0 0) (.slice none 0 0)))) := Lib.hid (by
      have hb3 := Ld.below_row HBW4.out (show w.heap.size ≤ w.heap.size + 1 by omega) (rArr { zRec r.kind with index := r.index, ent := r.ent } (.slice a1 r.ent.cmd.nodes.length b1) (.slice none 0 0) (.slice none 0 0) (.slice none 0 0))
      have he : onlyR r = { zRec r.kind with index := r.index, ent := r.ent } := by unfold onlyR; rw [if_neg HN1.out]; rw [if_neg HN2.out]; rw [if_pos HK.out]
      rw [he]
      exact ⟨_, rfl, ⟨_, _, _, _, rfl, ⟨HL.out.1.below hb3 (Nat.le_refl _), Cm.sl_nil _ _, SlR.nil _, SlR.nil _⟩, ⟨HWF.out.1, (show (Lit.int .i64 0).wf = true by decide), (show (Lit.int .u64 0).wf = true by decide), (show (Lit.int .u64 0).wf = true by decide), HWF.out.2.2.2.2.1, HWF.out.2.2.2.2.2.1, zSho_wf⟩⟩, hb3⟩)
    go_enter Try.func36, Try.ntmps36
    go_wp2_with (first
      | (with_reducible refine wpList_store_row rfl 35 (.tmp 3) (.tmp 6) rfl W1.heap.size (kR r.kind) rfl rfl 35 _ HS2.out (by kernel_rfl) rfl (kR_one _) ?_; rw [hW2])
      | (refine wpList_load_mid rfl 27 (.tmp 27) rfl w.heap.size 5 rfl (entC (r.ent, .slice a1 r.ent.cmd.nodes.length b1)) _ hrg4 Try.underlying27 rfl (by kernel_rfl) ?_)
      | (refine wpList_store_mid rfl 27 (.tmp 29) (.tmp 28) rfl W1.heap.size 5 (entC (r.ent, .slice a1 r.ent.cmd.nodes.length b1)).toArray rfl rfl hth4 (by kernel_rfl) (entA_one _ _ _ _) ?_; rw [hW4]; clear hW4 hth4 hrg4)
      | (with_reducible refine wpList_load_row rfl 35 (.tmp 3) rfl W1.heap.size rfl 35 (rArr { zRec r.kind with index := r.index, ent := r.ent } (.slice a1 r.ent.cmd.nodes.length b1) (.slice none 0 0) (.slice none 0 0) (.slice none 0 0)) (0, 0) _ HX4.out Try.underlying35 rfl (by kernel_rfl) ?_)
      | (with_reducible refine wpList_store_row rfl 35 (.tmp 2) (.tmp 40) rfl (w.heap.size + 1) (rArr { zRec r.kind with index := r.index, ent := r.ent } (.slice a1 r.ent.cmd.nodes.length b1) (.slice none 0 0) (.slice none 0 0) (.slice none 0 0)) rfl rfl 35 _ HB4.out (by kernel_rfl) rfl (rArr_one _ _ _ _ _ _ _ _ _ _ _ _ _) ?_))
    exact bodyPost_ret (v := .agg (rArr { zRec r.kind with index := r.index, ent := r.ent } (.slice a1 r.ent.cmd.nodes.length b1) (.slice none 0 0) (.slice none 0 0) (.slice none 0 0))) (results_cell_row rfl _ _ (w.heap.size + 1) 35 _ (0, 0) _ rfl (setRow_heap _ _ _ _ _ _ HB4.out) Try.underlying35 rfl (by kernel_rfl)) rfl HFIN.out
  by_cases hk4 : r.kind = 4
  · have HK := Lib.hid hk4
    have n1 : (r.kind == 1) = false := beq_eq_false_iff_ne.2 (by omega)
    have n2 : (r.kind == 2) = false := beq_eq_false_iff_ne.2 (by omega)
    have n3 : (r.kind == 3) = false := beq_eq_false_iff_ne.2 (by omega)
    have n4 : (r.kind == 4) = true := beq_iff_eq.2 hk4
    have HN1 := Lib.hid hk1
    have HN2 := Lib.hid hk2
    have HN3 := Lib.hid hk3
    clear hk1 hk2 hk3 hk4
    have d3 := (cell_of_row W2 _ 4 _ _ _ HA2.out).trans rfl
    have x3 := (cell_of_row W2 _ 4 _ _ _ HX2.out).trans rfl
    have f3 := La.frozen_of (o := 4) HX2.out
    obtain ⟨W3, hW3⟩ : ∃ q, W2.setCell ⟨W1.heap.size, 4, none⟩ (.int .u64 r.index) = q := ⟨_, rfl⟩
    have HX3 : Hid (W3.heap[W1.heap.size]? = some (.cells (rArr { zRec r.kind with index := r.index } (.slice none 0 0) (.slice none 0 0) (.slice none 0 0) (.slice none 0 0)) 35 (0, 0))) := Lib.hid (by rw [← hW3, heap_setCell_same W2 W1.heap.size 4 _ _ _ HX2.out]; rfl)
    have HA3 : Hid (W3.heap[w.heap.size]? = some (.cells (rArr r (.slice a1 r.ent.cmd.nodes.length b1) (.slice a2 r.shot.nodes.length b2) (.slice a3 r.shot.led.held.length b3) (.slice a4 r.shot.led.last.length b4)) 35 (0, 0))) := Lib.hid (by rw [← hW3]; exact (heap_setCell_other _ _ _ _ (by show w.heap.size ≠ W1.heap.size; have := HZ.out; omega)).trans HA2.out)
    have HB3 : Hid (W3.heap[w.heap.size + 1]? = some (.cells zR 35 (0, 0))) := Lib.hid (by rw [← hW3]; exact (heap_setCell_other _ _ _ _ (by show w.heap.size + 1 ≠ W1.heap.size; have := HZ.out; omega)).trans HB2.out)
    have HBW3 : Hid (Below w.heap.size w W3) := Lib.hid (by rw [← hW3]; exact HBW2.out.setCell (by show w.heap.size ≤ W1.heap.size; have := HZ.out; omega) _)
    have HFIN : Hid (GivesRec (onlyR r) w (.returned (.agg (rArr { zRec r.kind with index := r.index } (.slice none 0 0) (.slice none 0 0) (.slice none 0 0) (.slice none 0 0)))) (W3.setRow (w.heap.size + 1) (rArr { zRec r.kind with index := r.index } (.slice none 0 0) (.slice none 0 0) (.slice none 0 0) (.slice none 0 0)))) := Lib.hid (by
      have hb3 := Ld.below_row HBW3.out (show w.heap.size ≤ w.heap.size + 1 by omega) (rArr { zRec r.kind with index := r.index } (.slice none 0 0) (.slice none 0 0) (.slice none 0 0) (.slice none 0 0))
      have he : onlyR r = { zRec r.kind with index := r.index } := by unfold onlyR; rw [if_neg HN1.out]; rw [if_neg HN2.out]; rw [if_neg HN3.out]; rw [if_pos HK.out]
      rw [he]
      exact ⟨_, rfl, ⟨_, _, _, _, rfl, ⟨Cm.sl_nil _ _, Cm.sl_nil _ _, SlR.nil _, SlR.nil _⟩, ⟨HWF.out.1, (show (Lit.int .i64 0).wf = true by decide), (show (Lit.int .u64 0).wf = true by decide), (show (Lit.int .u64 0).wf = true by decide), HWF.out.2.2.2.2.1, zEnt_wf, zSho_wf⟩⟩, hb3⟩)
    go_enter Try.func36, Try.ntmps36
    go_wp2_with (first
      | (with_reducible refine wpList_store_row rfl 35 (.tmp 3) (.tmp 6) rfl W1.heap.size (kR r.kind) rfl rfl 35 _ HS2.out (by kernel_rfl) rfl (kR_one _) ?_; rw [hW2])
      | (with_reducible refine wpList_load_row rfl 35 (.tmp 3) rfl W1.heap.size rfl 35 (rArr { zRec r.kind with index := r.index } (.slice none 0 0) (.slice none 0 0) (.slice none 0 0) (.slice none 0 0)) (0, 0) _ HX3.out Try.underlying35 rfl (by kernel_rfl) ?_)
      | (with_reducible refine wpList_store_row rfl 35 (.tmp 2) (.tmp 40) rfl (w.heap.size + 1) (rArr { zRec r.kind with index := r.index } (.slice none 0 0) (.slice none 0 0) (.slice none 0 0) (.slice none 0 0)) rfl rfl 35 _ HB3.out (by kernel_rfl) rfl (rArr_one _ _ _ _ _ _ _ _ _ _ _ _ _) ?_))
    exact bodyPost_ret (v := .agg (rArr { zRec r.kind with index := r.index } (.slice none 0 0) (.slice none 0 0) (.slice none 0 0) (.slice none 0 0))) (results_cell_row rfl _ _ (w.heap.size + 1) 35 _ (0, 0) _ rfl (setRow_heap _ _ _ _ _ _ HB3.out) Try.underlying35 rfl (by kernel_rfl)) rfl HFIN.out
  by_cases hk5 : r.kind = 5
  · have HK := Lib.hid hk5
    have n1 : (r.kind == 1) = false := beq_eq_false_iff_ne.2 (by omega)
    have n2 : (r.kind == 2) = false := beq_eq_false_iff_ne.2 (by omega)
    have n3 : (r.kind == 3) = false := beq_eq_false_iff_ne.2 (by omega)
    have n4 : (r.kind == 4) = false := beq_eq_false_iff_ne.2 (by omega)
    have n5 : (r.kind == 5) = true := beq_iff_eq.2 hk5
    have HN1 := Lib.hid hk1
    have HN2 := Lib.hid hk2
    have HN3 := Lib.hid hk3
    have HN4 := Lib.hid hk4
    clear hk1 hk2 hk3 hk4 hk5
    have hrg3 := sho_range HA2.out
    have hth3 := there_row HX2.out 14 7 (by simp)
    obtain ⟨W3, hW3⟩ : ∃ q, W2.setCells W1.heap.size 14 (sArr r.shot (.slice a2 r.shot.nodes.length b2) (.slice a3 r.shot.led.held.length b3) (.slice a4 r.shot.led.last.length b4)).toList = q := ⟨_, rfl⟩
    have HX3 : Hid (W3.heap[W1.heap.size]? = some (.cells (rArr { zRec r.kind with shot := r.shot } (.slice none 0 0) (.slice a2 r.shot.nodes.length b2) (.slice a3 r.shot.led.held.length b3) (.slice a4 r.shot.led.last.length b4)) 35 (0, 0))) := Lib.hid (by rw [← hW3]; exact sho_putV HX2.out _ _ _ _)
    have HA3 : Hid (W3.heap[w.heap.size]? = some (.cells (rArr r (.slice a1 r.ent.cmd.nodes.length b1) (.slice a2 r.shot.nodes.length b2) (.slice a3 r.shot.led.held.length b3) (.slice a4 r.shot.led.last.length b4)) 35 (0, 0))) := Lib.hid (by rw [← hW3]; exact (setCells_other _ _ _ _ (by have := HZ.out; omega)).trans HA2.out)
    have HB3 : Hid (W3.heap[w.heap.size + 1]? = some (.cells zR 35 (0, 0))) := Lib.hid (by rw [← hW3]; exact (setCells_other _ _ _ _ (by have := HZ.out; omega)).trans HB2.out)
    have HBW3 : Hid (Below w.heap.size w W3) := Lib.hid (by rw [← hW3]; exact HBW2.out.trans (setCells_below _ (by have := HZ.out; omega) _ _ _))
    have HFIN : Hid (GivesRec (onlyR r) w (.returned (.agg (rArr { zRec r.kind with shot := r.shot } (.slice none 0 0) (.slice a2 r.shot.nodes.length b2) (.slice a3 r.shot.led.held.length b3) (.slice a4 r.shot.led.last.length b4)))) (W3.setRow (w.heap.size + 1) (rArr { zRec r.kind with shot := r.shot } (.slice none 0 0) (.slice a2 r.shot.nodes.length b2) (.slice a3 r.shot.led.held.length b3) (.slice a4 r.shot.led.last.length b4)))) := Lib.hid (by
      have hb3 := Ld.below_row HBW3.out (show w.heap.size ≤ w.heap.size + 1 by omega) (rArr { zRec r.kind with shot := r.shot } (.slice none 0 0) (.slice a2 r.shot.nodes.length b2) (.slice a3 r.shot.led.held.length b3) (.slice a4 r.shot.led.last.length b4))
      have he : onlyR r = { zRec r.kind with shot := r.shot } := by unfold onlyR; rw [if_neg HN1.out]; rw [if_neg HN2.out]; rw [if_neg HN3.out]; rw [if_neg HN4.out]; rw [if_pos HK.out]
      rw [he]
      exact ⟨_, rfl, ⟨_, _, _, _, rfl, ⟨Cm.sl_nil _ _, HL.out.2.1.below hb3 (Nat.le_refl _), HL.out.2.2.1.below hb3 (Nat.le_refl _), HL.out.2.2.2.below hb3 (Nat.le_refl _)⟩, ⟨HWF.out.1, (show (Lit.int .i64 0).wf = true by decide), (show (Lit.int .u64 0).wf = true by decide), (show (Lit.int .u64 0).wf = true by decide), (show (Lit.int .u64 0).wf = true by decide), zEnt_wf, HWF.out.2.2.2.2.2.2⟩⟩, hb3⟩)
    go_enter Try.func36, Try.ntmps36
    go_wp2_with (first
      | (with_reducible refine wpList_store_row rfl 35 (.tmp 3) (.tmp 6) rfl W1.heap.size (kR r.kind) rfl rfl 35 _ HS2.out (by kernel_rfl) rfl (kR_one _) ?_; rw [hW2])
      | (refine wpList_load_mid rfl 33 (.tmp 37) rfl w.heap.size 14 rfl (sArr r.shot (.slice a2 r.shot.nodes.length b2) (.slice a3 r.shot.led.held.length b3) (.slice a4 r.shot.led.last.length b4)).toList _ hrg3 Try.underlying33 rfl (by kernel_rfl) ?_)
      | (refine wpList_store_mid rfl 33 (.tmp 39) (.tmp 38) rfl W1.heap.size 14 (sArr r.shot (.slice a2 r.shot.nodes.length b2) (.slice a3 r.shot.led.held.length b3) (.slice a4 r.shot.led.last.length b4)) rfl rfl hth3 (by kernel_rfl) (Sh.sArr_one _ _ _ _ _ _ _ _ _ _) ?_; rw [hW3]; clear hW3 hth3 hrg3)
      | (with_reducible refine wpList_load_row rfl 35 (.tmp 3) rfl W1.heap.size rfl 35 (rArr { zRec r.kind with shot := r.shot } (.slice none 0 0) (.slice a2 r.shot.nodes.length b2) (.slice a3 r.shot.led.held.length b3) (.slice a4 r.shot.led.last.length b4)) (0, 0) _ HX3.out Try.underlying35 rfl (by kernel_rfl) ?_)
      | (with_reducible refine wpList_store_row rfl 35 (.tmp 2) (.tmp 40) rfl (w.heap.size + 1) (rArr { zRec r.kind with shot := r.shot } (.slice none 0 0) (.slice a2 r.shot.nodes.length b2) (.slice a3 r.shot.led.held.length b3) (.slice a4 r.shot.led.last.length b4)) rfl rfl 35 _ HB3.out (by kernel_rfl) rfl (rArr_one _ _ _ _ _ _ _ _ _ _ _ _ _) ?_))
    exact bodyPost_ret (v := .agg (rArr { zRec r.kind with shot := r.shot } (.slice none 0 0) (.slice a2 r.shot.nodes.length b2) (.slice a3 r.shot.led.held.length b3) (.slice a4 r.shot.led.last.length b4))) (results_cell_row rfl _ _ (w.heap.size + 1) 35 _ (0, 0) _ rfl (setRow_heap _ _ _ _ _ _ HB3.out) Try.underlying35 rfl (by kernel_rfl)) rfl HFIN.out
  · have n1 : (r.kind == 1) = false := beq_eq_false_iff_ne.2 (by omega)
    have n2 : (r.kind == 2) = false := beq_eq_false_iff_ne.2 (by omega)
    have n3 : (r.kind == 3) = false := beq_eq_false_iff_ne.2 (by omega)
    have n4 : (r.kind == 4) = false := beq_eq_false_iff_ne.2 (by omega)
    have n5 : (r.kind == 5) = false := beq_eq_false_iff_ne.2 (by omega)
    have HN1 := Lib.hid hk1
    have HN2 := Lib.hid hk2
    have HN3 := Lib.hid hk3
    have HN4 := Lib.hid hk4
    have HN5 := Lib.hid hk5
    clear hk1 hk2 hk3 hk4 hk5
    have HFIN : Hid (GivesRec (onlyR r) w (.returned (.agg (rArr (zRec r.kind) (.slice none 0 0) (.slice none 0 0) (.slice none 0 0) (.slice none 0 0)))) (W2.setRow (w.heap.size + 1) (rArr (zRec r.kind) (.slice none 0 0) (.slice none 0 0) (.slice none 0 0) (.slice none 0 0)))) := Lib.hid (by
      have hb3 := Ld.below_row HBW2.out (show w.heap.size ≤ w.heap.size + 1 by omega) (rArr (zRec r.kind) (.slice none 0 0) (.slice none 0 0) (.slice none 0 0) (.slice none 0 0))
      have he : onlyR r = (zRec r.kind) := by unfold onlyR; rw [if_neg HN1.out]; rw [if_neg HN2.out]; rw [if_neg HN3.out]; rw [if_neg HN4.out]; rw [if_neg HN5.out]
      rw [he]
      exact ⟨_, rfl, ⟨_, _, _, _, rfl, ⟨Cm.sl_nil _ _, Cm.sl_nil _ _, SlR.nil _, SlR.nil _⟩, ⟨HWF.out.1, (show (Lit.int .i64 0).wf = true by decide), (show (Lit.int .u64 0).wf = true by decide), (show (Lit.int .u64 0).wf = true by decide), (show (Lit.int .u64 0).wf = true by decide), zEnt_wf, zSho_wf⟩⟩, hb3⟩)
    go_enter Try.func36, Try.ntmps36
    go_wp2_with (first
      | (with_reducible refine wpList_store_row rfl 35 (.tmp 3) (.tmp 6) rfl W1.heap.size (kR r.kind) rfl rfl 35 _ HS2.out (by kernel_rfl) rfl (kR_one _) ?_; rw [hW2])
      | (with_reducible refine wpList_load_row rfl 35 (.tmp 3) rfl W1.heap.size rfl 35 (rArr (zRec r.kind) (.slice none 0 0) (.slice none 0 0) (.slice none 0 0) (.slice none 0 0)) (0, 0) _ HX2.out Try.underlying35 rfl (by kernel_rfl) ?_)
      | (with_reducible refine wpList_store_row rfl 35 (.tmp 2) (.tmp 40) rfl (w.heap.size + 1) (rArr (zRec r.kind) (.slice none 0 0) (.slice none 0 0) (.slice none 0 0) (.slice none 0 0)) rfl rfl 35 _ HB2.out (by kernel_rfl) rfl (rArr_one _ _ _ _ _ _ _ _ _ _ _ _ _) ?_))
    exact bodyPost_ret (v := .agg (rArr (zRec r.kind) (.slice none 0 0) (.slice none 0 0) (.slice none 0 0) (.slice none 0 0))) (results_cell_row rfl _ _ (w.heap.size + 1) 35 _ (0, 0) _ rfl (setRow_heap _ _ _ _ _ _ HB2.out) Try.underlying35 rfl (by kernel_rfl)) rfl HFIN.out
end Rc
end Go.Proofs.Ytngnhegmealokaa
namespace Go.Proofs.Ytngnhegmealokaa
open Go.ChangeShapes Go.WideShapes Go.ChangeAt Go.RowKit Go.Deep
set_option linter.unusedVariables false
set_option maxRecDepth 100000
namespace Rc
open Hd Nv
theorem cmd_eq_of {a c : Cmd} (ha : a.nodes = []) (h : a.kind = c.kind ∧ a.node = c.node ∧ a.token = c.token ∧ a.boot = c.boot ∧ a.seq = c.seq ∧ a.serial = c.serial ∧ a.stamp = c.stamp ∧ c.nodes.length = 0) : a = c := by
  obtain ⟨a1, a2, a3, a4, a5, a6, a7, a8⟩ := a
  obtain ⟨c1, c2, c3, c4, c5, c6, c7, c8⟩ := c
  obtain ⟨h1, h2, h3, h4, h5, h6, h7, h8⟩ := h
  have h9 := List.eq_nil_of_length_eq_zero h8
  dsimp only at *
  subst ha h1 h2 h3 h4 h5 h6 h7 h9
  rfl
theorem sho_eq_of {a s : Sho} (ha : zSho a) (hs : zSho s) : a = s := by
  obtain ⟨a1, a2, a3, ⟨a4, a5, a6, a7⟩⟩ := a
  obtain ⟨c1, c2, c3, ⟨c4, c5, c6, c7⟩⟩ := s
  obtain ⟨h1, h2, h3, h4, h5, h6, h7⟩ := ha
  obtain ⟨g1, g2, g3, g4, g5, g6, g7⟩ := hs
  have i3 := List.eq_nil_of_length_eq_zero h3
  have i6 := List.eq_nil_of_length_eq_zero h6
  have i7 := List.eq_nil_of_length_eq_zero h7
  have j3 := List.eq_nil_of_length_eq_zero g3
  have j6 := List.eq_nil_of_length_eq_zero g6
  have j7 := List.eq_nil_of_length_eq_zero g7
  dsimp only at *
  subst h1 h2 h4 h5 i3 i6 i7 g1 g2 g4 g5 j3 j6 j7
  rfl
theorem rec_eq_of {a r : RecR} (h0 : a.kind = r.kind) (h1 : a.vote = r.vote) (h2 : a.boot = r.boot) (h3 : a.term = r.term) (h4 : a.index = r.index) (h5 : a.ent.term = r.ent.term) (h6 : a.ent.cmd = r.ent.cmd) (h7 : a.shot = r.shot) : a = r := by
  obtain ⟨a0, a1, a2, a3, a4, ⟨a5, a6⟩, a7⟩ := a
  obtain ⟨c0, c1, c2, c3, c4, ⟨c5, c6⟩, c7⟩ := r
  dsimp only at *
  subst h0 h1 h2 h3 h4 h5 h6 h7
  rfl
set_option maxHeartbeats 8000000 in
theorem rec_cmp (a r : RecR) (v u : Value) (w : World) (h : IsRec w v a) (g : IsRec w u r) (k0 : a.kind = r.kind) (hc : a.ent.cmd = r.ent.cmd ∨ a.ent.cmd.nodes = []) (hs : a.shot = r.shot ∨ zSho a.shot) : Calls Try.prog 12 #[v, u] w (Tells (a = r) w) := by
  obtain ⟨vc, vn, vh, vl, rfl, hL, hwf⟩ := h
  obtain ⟨uc, un, uh, ul, rfl, gL, gwf⟩ := g
  obtain ⟨W1, hW1⟩ : ∃ q, (w.alloc (.cells (rArr a vc vn vh vl) 35)).alloc (.cells (rArr r uc un uh ul) 35) = q := ⟨_, rfl⟩
  have hA : W1.heap[w.heap.size]? = some (.cells (rArr a vc vn vh vl) 35 (0, 0)) := by rw [← hW1]; exact heap_alloc2_old _ _ _
  have hB : W1.heap[w.heap.size + 1]? = some (.cells (rArr r uc un uh ul) 35 (0, 0)) := by rw [← hW1]; exact heap_alloc2_new _ _ _
  have hb : Below w.heap.size w W1 := by rw [← hW1]; exact ((Below.refl _ _).alloc (Nat.le_refl _) _).alloc (by simp) _
  have HB := Lib.hid hb
  have HAR := Lib.hid hA
  have HBR := Lib.hid hB
  have HC1 : Hid (IsCmd W1 (.agg (Cm.cArr a.ent.cmd vc)) a.ent.cmd) := Lib.hid ⟨_, rfl, hL.1.below hb (Nat.le_refl _), hwf.2.2.2.2.2.1.2⟩
  have HC2 : Hid (IsCmd W1 (.agg (Cm.cArr r.ent.cmd uc)) r.ent.cmd) := Lib.hid ⟨_, rfl, gL.1.below hb (Nat.le_refl _), gwf.2.2.2.2.2.1.2⟩
  have HS1 := Lib.hid ((ent_led hL hwf hb).2)
  have HS2 := Lib.hid ((ent_led gL gwf hb).2)
  have HQC := Lib.hid hc
  have HQS := Lib.hid hs
  have e0 : (a.kind == r.kind) = true := beq_iff_eq.2 k0
  have HK0 := Lib.hid k0
  obtain ⟨c0, c1, c2, c3, c4, c5, -⟩ := cells21 hA
  obtain ⟨d0, d1, d2, d3, d4, d5, -⟩ := cells21 hB
  have ra := cmd_range hA
  have rb := cmd_range hB
  clear hA hB hb hL gL hwf gwf hc hs k0
  by_cases k1 : a.vote = r.vote
  · have e1 : (a.vote == r.vote) = true := beq_iff_eq.2 k1
    have H0 := Lib.hid k1
    clear k1
    by_cases k2 : a.boot = r.boot
    · have e2 : (a.boot == r.boot) = true := beq_iff_eq.2 k2
      have H1 := Lib.hid k2
      clear k2
      by_cases k3 : a.term = r.term
      · have e3 : (a.term == r.term) = true := beq_iff_eq.2 k3
        have H2 := Lib.hid k3
        clear k3
        by_cases k4 : a.index = r.index
        · have e4 : (a.index == r.index) = true := beq_iff_eq.2 k4
          have H3 := Lib.hid k4
          clear k4
          by_cases k5 : a.ent.term = r.ent.term
          · have e5 : (a.ent.term == r.ent.term) = true := beq_iff_eq.2 k5
            have H4 := Lib.hid k5
            clear k5
            by_cases kc : a.ent.cmd = r.ent.cmd
            · have HC3 : Hid (IsCmd W1 (.agg (Cm.cArr r.ent.cmd vc)) r.ent.cmd) := Lib.hid (by have q := HC1.out; rw [kc] at q; exact q)
              have ra : W1.rangeAt w.heap.size 6 (Cm.cArr r.ent.cmd vc).toList := by rw [kc] at ra; exact ra
              have HKC := Lib.hid kc
              clear kc
              go_enter Try.func12, Try.ntmps12
              go_wp2_with (first
                | (refine wpList_load_midG rfl 25 (.tmp 49) rfl w.heap.size 6 rfl (Cm.cArr r.ent.cmd vc).toList _ ra Try.underlying25 rfl (by kernel_rfl) ?_)
                | (refine wpList_load_midG rfl 25 (.tmp 52) rfl (w.heap.size + 1) 6 rfl (Cm.cArr r.ent.cmd uc).toList _ rb Try.underlying25 rfl (by kernel_rfl) ?_))
              refine (Cm.same_true r.ent.cmd _ _ _ HC3.out HC2.out).mono ?_
              rintro e w2 ⟨rfl, hb2⟩
              have ra := sho_range ((hb2.block _ (Hd.lt_of_row HAR.out)).trans HAR.out)
              have rb := sho_range ((hb2.block _ (Hd.lt_of_row HBR.out)).trans HBR.out)
              have HS3 := Lib.hid (HS1.out.below hb2 (Nat.le_refl _))
              have HS4 := Lib.hid (HS2.out.below hb2 (Nat.le_refl _))
              have HB2 := Lib.hid (HB.out.trans (hb2.mono HB.out.size))
              clear hb2 c0 c1 c2 c3 c4 c5 d0 d1 d2 d3 d4 d5
              by_cases ks : a.shot = r.shot
              · have HS5 : Hid (IsShot w2 (.agg (sArr r.shot vn vh vl)) r.shot) := Lib.hid (by have q := HS3.out; rw [ks] at q; exact q)
                have ra : w2.rangeAt w.heap.size 14 (sArr r.shot vn vh vl).toList := by rw [ks] at ra; exact ra
                have HY : Hid (a = r) := Lib.hid (rec_eq_of HK0.out H0.out H1.out H2.out H3.out H4.out HKC.out ks)
                clear ks
                go_wp2_with (first
                  | (refine wpList_load_midG rfl 33 (.tmp 57) rfl w.heap.size 14 rfl (sArr r.shot vn vh vl).toList _ ra Try.underlying33 rfl (by kernel_rfl) ?_)
                  | (refine wpList_load_midG rfl 33 (.tmp 59) rfl (w.heap.size + 1) 14 rfl (sArr r.shot un uh ul).toList _ rb Try.underlying33 rfl (by kernel_rfl) ?_))
                refine (Sh.same_any r.shot _ _ _ HS5.out HS4.out).mono ?_
                rintro e w3 ⟨rfl, hb3⟩
                go_wp2
                go_ret
                exact tells_yes HY.out (HB2.out.trans (hb3.mono HB2.out.size))
              · have HZ : Hid (zSho a.shot) := Lib.hid (HQS.out.resolve_left ks)
                have HNZ : Hid (¬ zSho r.shot) := Lib.hid (fun q => ks (sho_eq_of HZ.out q))
                have HN : Hid (¬ a = r) := Lib.hid (fun g => ks (by rw [g]))
                clear ks
                go_wp2_with (first
                  | (refine wpList_load_midG rfl 33 (.tmp 57) rfl w.heap.size 14 rfl (sArr a.shot vn vh vl).toList _ ra Try.underlying33 rfl (by kernel_rfl) ?_)
                  | (refine wpList_load_midG rfl 33 (.tmp 59) rfl (w.heap.size + 1) 14 rfl (sArr r.shot un uh ul).toList _ rb Try.underlying33 rfl (by kernel_rfl) ?_))
                refine (sho_no a.shot r.shot _ _ _ HS3.out HS4.out HZ.out HNZ.out).mono ?_
                rintro e w3 ⟨rfl, hb3⟩
                go_wp2
                go_ret
                exact tells_no HN.out (HB2.out.trans (hb3.mono HB2.out.size))
            · have HZ : Hid (a.ent.cmd.nodes = []) := Lib.hid (HQC.out.resolve_left kc)
              have HNZ := Lib.hid (fun q => kc (cmd_eq_of HZ.out q))
              have HN : Hid (¬ a = r) := Lib.hid (fun g => kc (by rw [g]))
              clear kc
              go_enter Try.func12, Try.ntmps12
              go_wp2_with (first
                | (refine wpList_load_midG rfl 25 (.tmp 49) rfl w.heap.size 6 rfl (Cm.cArr a.ent.cmd vc).toList _ ra Try.underlying25 rfl (by kernel_rfl) ?_)
                | (refine wpList_load_midG rfl 25 (.tmp 52) rfl (w.heap.size + 1) 6 rfl (Cm.cArr r.ent.cmd uc).toList _ rb Try.underlying25 rfl (by kernel_rfl) ?_))
              refine (cmd_no a.ent.cmd r.ent.cmd _ _ _ HC1.out HC2.out HZ.out HNZ.out).mono ?_
              rintro e w2 ⟨rfl, hb2⟩
              go_wp2
              go_ret
              exact tells_no HN.out (HB.out.trans (hb2.mono HB.out.size))
          · have e5 : (a.ent.term == r.ent.term) = false := ne_true k5
            have HN : Hid (¬ a = r) := Lib.hid (fun g => k5 (by rw [g]))
            clear k5
            go_enter Try.func12, Try.ntmps12
            go_wp2
            go_ret
            exact tells_no HN.out HB.out
        · have e4 : (a.index == r.index) = false := ne_true k4
          have HN : Hid (¬ a = r) := Lib.hid (fun g => k4 (by rw [g]))
          clear k4
          go_enter Try.func12, Try.ntmps12
          go_wp2
          go_ret
          exact tells_no HN.out HB.out
      · have e3 : (a.term == r.term) = false := ne_true k3
        have HN : Hid (¬ a = r) := Lib.hid (fun g => k3 (by rw [g]))
        clear k3
        go_enter Try.func12, Try.ntmps12
        go_wp2
        go_ret
        exact tells_no HN.out HB.out
    · have e2 : (a.boot == r.boot) = false := ne_true k2
      have HN : Hid (¬ a = r) := Lib.hid (fun g => k2 (by rw [g]))
      clear k2
      go_enter Try.func12, Try.ntmps12
      go_wp2
      go_ret
      exact tells_no HN.out HB.out
  · have e1 : (a.vote == r.vote) = false := ne_true k1
    have HN : Hid (¬ a = r) := Lib.hid (fun g => k1 (by rw [g]))
    clear k1
    go_enter Try.func12, Try.ntmps12
    go_wp2
    go_ret
    exact tells_no HN.out HB.out
end Rc
end Go.Proofs.Ytngnhegmealokaa
