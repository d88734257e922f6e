/- Two that differ, one of them zero: the document's Same of lists, commands, ledgers, snapshots. No condition. -/
import Derived.Test.YtlkgmjhejocobaaCmR
namespace Go.Proofs.Ytlkgmjhejocobaa
open Go.ChangeShapes Go.WideShapes Go.ChangeAt Go.RowKit Go.Deep
set_option linter.unusedVariables false
set_option maxRecDepth 100000
namespace Rc
open Hd Nv
theorem ret_bool {b c : Bool} (h : b = c) : Ending.returned (.bool b) = .returned (.bool c) := by rw [h]
def SaysNo (w : World) (e : Ending) (w' : World) : Prop := e = .returned (.bool false) ∧ Below w.heap.size w w'
theorem ne_true {a b : Int} (h : a ≠ b) : (a == b) = false := beq_eq_false_iff_ne.2 h
theorem nodes_no (zs : List Int) (v u : Value) (w : World) (h1 : Sl .i64 w v []) (h2 : Sl .i64 w u zs) (hz : zs.length ≠ 0) : Calls Try.prog 50 #[v, u] w (SaysNo w) := by
  refine (Nd.same_any v u [] zs w h1 h2).mono ?_
  rintro e w2 ⟨rfl, hb⟩
  exact ⟨ret_bool (decide_eq_false (fun q => hz (by rw [← q]; rfl))), hb⟩
set_option maxHeartbeats 8000000 in
theorem cmd_no (a c : Cmd) (v u : Value) (w : World) (h : IsCmd w v a) (g : IsCmd w u c) (ha : a.nodes = []) (hne : ¬ (a.kind = c.kind ∧ a.node = c.node ∧ a.token = c.token ∧ a.boot = c.boot ∧ a.seq = c.seq ∧ a.serial = c.serial ∧ a.stamp = c.stamp ∧ c.nodes.length = 0)) : Calls Try.prog 65 #[v, u] w (SaysNo w) := by
  obtain ⟨vn, rfl, hn, -⟩ := h
  obtain ⟨un, rfl, gn, -⟩ := g
  rw [ha] at hn
  obtain ⟨W1, hW1⟩ : ∃ q, (w.alloc (.cells (Cm.cArr a vn) 45)).alloc (.cells (Cm.cArr c un) 45) = q := ⟨_, rfl⟩
  have hA : W1.heap[w.heap.size]? = some (.cells (Cm.cArr a vn) 45 (0, 0)) := by rw [← hW1]; exact heap_alloc2_old _ _ _
  have hB : W1.heap[w.heap.size + 1]? = some (.cells (Cm.cArr c un) 45 (0, 0)) := by rw [← hW1]; exact heap_alloc2_new _ _ _
  have hb : Below w.heap.size w W1 := by rw [← hW1]; exact ((Below.refl _ _).alloc (Nat.le_refl _) _).alloc (by simp) _
  have c0 := (cell_of_row W1 _ 0 _ _ _ hA).trans rfl
  have d0 := (cell_of_row W1 _ 0 _ _ _ hB).trans rfl
  have c1 := (cell_of_row W1 _ 1 _ _ _ hA).trans rfl
  have d1 := (cell_of_row W1 _ 1 _ _ _ hB).trans rfl
  have c2 := (cell_of_row W1 _ 2 _ _ _ hA).trans rfl
  have d2 := (cell_of_row W1 _ 2 _ _ _ hB).trans rfl
  have c3 := (cell_of_row W1 _ 3 _ _ _ hA).trans rfl
  have d3 := (cell_of_row W1 _ 3 _ _ _ hB).trans rfl
  have c4 := (cell_of_row W1 _ 4 _ _ _ hA).trans rfl
  have d4 := (cell_of_row W1 _ 4 _ _ _ hB).trans rfl
  have c5 := (cell_of_row W1 _ 5 _ _ _ hA).trans rfl
  have d5 := (cell_of_row W1 _ 5 _ _ _ hB).trans rfl
  have c6 := (cell_of_row W1 _ 6 _ _ _ hA).trans rfl
  have d6 := (cell_of_row W1 _ 6 _ _ _ hB).trans rfl
  have c7 := (cell_of_row W1 _ 7 _ _ _ hA).trans rfl
  have d7 := (cell_of_row W1 _ 7 _ _ _ hB).trans rfl
  have HB := Lib.hid hb
  have HN := Lib.hid (hn.below hb (Nat.le_refl _))
  have GN := Lib.hid (gn.below hb (Nat.le_refl _))
  clear hn gn hb hA hB ha
  by_cases k0 : a.kind = c.kind
  · have m0 : (a.kind == c.kind) = true := beq_iff_eq.2 k0
    by_cases k1 : a.node = c.node
    · have m1 : (a.node == c.node) = true := beq_iff_eq.2 k1
      by_cases k2 : a.token = c.token
      · have m2 : (a.token == c.token) = true := beq_iff_eq.2 k2
        by_cases k3 : a.boot = c.boot
        · have m3 : (a.boot == c.boot) = true := beq_iff_eq.2 k3
          by_cases k4 : a.seq = c.seq
          · have m4 : (a.seq == c.seq) = true := beq_iff_eq.2 k4
            by_cases k5 : a.serial = c.serial
            · have m5 : (a.serial == c.serial) = true := beq_iff_eq.2 k5
              by_cases k6 : a.stamp = c.stamp
              · have m6 : (a.stamp == c.stamp) = true := beq_iff_eq.2 k6
                have hz : c.nodes.length ≠ 0 := fun q => hne ⟨k0, k1, k2, k3, k4, k5, k6, q⟩
                have HZ := Lib.hid hz
                clear hz hne k0 k1 k2 k3 k4 k5 k6
                go_enter Try.func65, Try.ntmps65
                go_wp2_with fail
                refine (nodes_no c.nodes _ _ _ HN.out GN.out HZ.out).mono ?_
                rintro e w2 ⟨rfl, hb2⟩
                go_wp2
                go_ret
                exact ⟨rfl, HB.out.trans (hb2.mono HB.out.size)⟩
              · have m6 : (a.stamp == c.stamp) = false := ne_true k6
                clear hne k6 k0 k1 k2 k3 k4 k5
                go_enter Try.func65, Try.ntmps65
                go_wp2
                go_ret
                exact ⟨rfl, HB.out⟩
            · have m5 : (a.serial == c.serial) = false := ne_true k5
              clear hne k5 k0 k1 k2 k3 k4
              go_enter Try.func65, Try.ntmps65
              go_wp2
              go_ret
              exact ⟨rfl, HB.out⟩
          · have m4 : (a.seq == c.seq) = false := ne_true k4
            clear hne k4 k0 k1 k2 k3
            go_enter Try.func65, Try.ntmps65
            go_wp2
            go_ret
            exact ⟨rfl, HB.out⟩
        · have m3 : (a.boot == c.boot) = false := ne_true k3
          clear hne k3 k0 k1 k2
          go_enter Try.func65, Try.ntmps65
          go_wp2
          go_ret
          exact ⟨rfl, HB.out⟩
      · have m2 : (a.token == c.token) = false := ne_true k2
        clear hne k2 k0 k1
        go_enter Try.func65, Try.ntmps65
        go_wp2
        go_ret
        exact ⟨rfl, HB.out⟩
    · have m1 : (a.node == c.node) = false := ne_true k1
      clear hne k1 k0
      go_enter Try.func65, Try.ntmps65
      go_wp2
      go_ret
      exact ⟨rfl, HB.out⟩
  · have m0 : (a.kind == c.kind) = false := ne_true k0
    clear hne k0
    go_enter Try.func65, Try.ntmps65
    go_wp2
    go_ret
    exact ⟨rfl, HB.out⟩
set_option maxHeartbeats 8000000 in
theorem led_no (a l : Led) (v u : Value) (w : World) (h : IsLed w v a) (g : IsLed w u l) (ha : a.held.length = 0) (hb : a.last.length = 0) (hne : ¬ (a.limit = l.limit ∧ a.next = l.next ∧ l.held.length = 0 ∧ l.last.length = 0)) : Calls Try.prog 51 #[v, u] w (SaysNo w) := by
  obtain ⟨vh, vl, rfl, h1, h2, -⟩ := h
  obtain ⟨uh, ul, rfl, g1, g2, -⟩ := g
  obtain ⟨a1, c1, rfl, -⟩ := h1
  obtain ⟨a2, c2, rfl, -⟩ := h2
  obtain ⟨a3, c3, rfl, -⟩ := g1
  obtain ⟨a4, c4, rfl, -⟩ := g2
  rw [ha, hb]
  obtain ⟨W1, hW1⟩ : ∃ q, (w.alloc (.cells (lArr a (.slice a1 0 c1) (.slice a2 0 c2)) 27)).alloc (.cells (lArr l (.slice a3 l.held.length c3) (.slice a4 l.last.length c4)) 27) = q := ⟨_, rfl⟩
  have hA : W1.heap[w.heap.size]? = some (.cells (lArr a (.slice a1 0 c1) (.slice a2 0 c2)) 27 (0, 0)) := by rw [← hW1]; exact heap_alloc2_old _ _ _
  have hB : W1.heap[w.heap.size + 1]? = some (.cells (lArr l (.slice a3 l.held.length c3) (.slice a4 l.last.length c4)) 27 (0, 0)) := by rw [← hW1]; exact heap_alloc2_new _ _ _
  have hbw : Below w.heap.size w W1 := by rw [← hW1]; exact ((Below.refl _ _).alloc (Nat.le_refl _) _).alloc (by simp) _
  have c0 := (cell_of_row W1 _ 0 _ _ _ hA).trans rfl
  have d0 := (cell_of_row W1 _ 0 _ _ _ hB).trans rfl
  have c1 := (cell_of_row W1 _ 1 _ _ _ hA).trans rfl
  have d1 := (cell_of_row W1 _ 1 _ _ _ hB).trans rfl
  have c2 := (cell_of_row W1 _ 2 _ _ _ hA).trans rfl
  have d2 := (cell_of_row W1 _ 2 _ _ _ hB).trans rfl
  have c3 := (cell_of_row W1 _ 3 _ _ _ hA).trans rfl
  have d3 := (cell_of_row W1 _ 3 _ _ _ hB).trans rfl
  have HB := Lib.hid hbw
  clear hbw hA hB
  by_cases k0 : a.limit = l.limit
  · have m0 : (a.limit != l.limit) = false := by rw [bne, beq_iff_eq.2 k0]; rfl
    by_cases k1 : a.next = l.next
    · have m1 : (a.next != l.next) = false := by rw [bne, beq_iff_eq.2 k1]; rfl
      by_cases k2 : l.held.length = 0
      · have m2 : ((0 : Int) != (l.held.length : Int)) = false := by rw [k2]; rfl
        have k3 : l.last.length ≠ 0 := fun q => hne ⟨k0, k1, k2, q⟩
        have m3 : ((0 : Int) != (l.last.length : Int)) = true := by rw [bne, ne_true (by omega)]; rfl
        clear hne k0 k1 k2 k3
        go_enter Try.func51, Try.ntmps51
        go_wp2
        go_ret
        exact ⟨rfl, HB.out⟩
      · have m2 : ((0 : Int) != (l.held.length : Int)) = true := by rw [bne, ne_true (by omega)]; rfl
        clear hne k0 k1 k2
        go_enter Try.func51, Try.ntmps51
        go_wp2
        go_ret
        exact ⟨rfl, HB.out⟩
    · have m1 : (a.next != l.next) = true := by rw [bne, ne_true k1]; rfl
      clear hne k0 k1
      go_enter Try.func51, Try.ntmps51
      go_wp2
      go_ret
      exact ⟨rfl, HB.out⟩
  · have m0 : (a.limit != l.limit) = true := by rw [bne, ne_true k0]; rfl
    clear hne k0
    go_enter Try.func51, Try.ntmps51
    go_wp2
    go_ret
    exact ⟨rfl, HB.out⟩
theorem led_range {w : World} {g : Nat} {s : Sho} {vn vh vl : Value} (h : w.heap[g]? = some (.cells (sArr s vn vh vl) 29 (0, 0))) : w.rangeAt g 3 (lArr s.led vh vl).toList := fun j v hv => by
  have hj : j < 4 := by have := (List.getElem?_eq_some_iff.1 hv).1; simpa using this
  rw [cell_of_row w g (3 + j) _ _ _ h, ← hv]
  match j, hj with
  | 0, _ => rfl
  | 1, _ => rfl
  | 2, _ => rfl
  | 3, _ => rfl
set_option maxHeartbeats 8000000 in
theorem sho_no (a s : Sho) (v u : Value) (w : World) (h : IsShot w v a) (g : IsShot w u s) (hz : zSho a) (hne : ¬ zSho s) : Calls Try.prog 20 #[v, u] w (SaysNo w) := by
  obtain ⟨z0, z1, z2, z3, z4, z5, z6⟩ := hz
  obtain ⟨vn, vh, vl, rfl, hn, hh, hl, hw⟩ := h
  obtain ⟨un, uh, ul, rfl, gn, gh, gl, gw⟩ := g
  obtain ⟨W1, hW1⟩ : ∃ q, (w.alloc (.cells (sArr a vn vh vl) 29)).alloc (.cells (sArr s un uh ul) 29) = q := ⟨_, rfl⟩
  have hA : W1.heap[w.heap.size]? = some (.cells (sArr a vn vh vl) 29 (0, 0)) := by rw [← hW1]; exact heap_alloc2_old _ _ _
  have hB : W1.heap[w.heap.size + 1]? = some (.cells (sArr s un uh ul) 29 (0, 0)) := by rw [← hW1]; exact heap_alloc2_new _ _ _
  have hb : Below w.heap.size w W1 := by rw [← hW1]; exact ((Below.refl _ _).alloc (Nat.le_refl _) _).alloc (by simp) _
  have c0 := (cell_of_row W1 _ 0 _ _ _ hA).trans rfl
  have d0 := (cell_of_row W1 _ 0 _ _ _ hB).trans rfl
  have c1 := (cell_of_row W1 _ 1 _ _ _ hA).trans rfl
  have d1 := (cell_of_row W1 _ 1 _ _ _ hB).trans rfl
  have c2 := (cell_of_row W1 _ 2 _ _ _ hA).trans rfl
  have d2 := (cell_of_row W1 _ 2 _ _ _ hB).trans rfl
  have c3 := (cell_of_row W1 _ 3 _ _ _ hA).trans rfl
  have d3 := (cell_of_row W1 _ 3 _ _ _ hB).trans rfl
  have c4 := (cell_of_row W1 _ 4 _ _ _ hA).trans rfl
  have d4 := (cell_of_row W1 _ 4 _ _ _ hB).trans rfl
  have c5 := (cell_of_row W1 _ 5 _ _ _ hA).trans rfl
  have d5 := (cell_of_row W1 _ 5 _ _ _ hB).trans rfl
  have c6 := (cell_of_row W1 _ 6 _ _ _ hA).trans rfl
  have d6 := (cell_of_row W1 _ 6 _ _ _ hB).trans rfl
  have HB := Lib.hid hb
  have hn0 : a.nodes = [] := List.eq_nil_of_length_eq_zero z2
  have HN : Hid (Sl .i64 W1 vn []) := Lib.hid (by have q := hn.below hb (Nat.le_refl _); rw [hn0] at q; exact q)
  have GN := Lib.hid (gn.below hb (Nat.le_refl _))
  have HL : Hid (IsLed W1 (.agg (lArr a.led vh vl)) a.led) := Lib.hid ⟨_, _, rfl, hh.below hb (Nat.le_refl _), hl.below hb (Nat.le_refl _), hw.2.2⟩
  have GL : Hid (IsLed W1 (.agg (lArr s.led uh ul)) s.led) := Lib.hid ⟨_, _, rfl, gh.below hb (Nat.le_refl _), gl.below hb (Nat.le_refl _), gw.2.2⟩
  have HAR := Lib.hid hA
  have HBR := Lib.hid hB
  have HZ5 := Lib.hid z5
  have HZ6 := Lib.hid z6
  have HZ3 := Lib.hid z3
  have HZ4 := Lib.hid z4
  clear hn gn hh hl gh gl hw gw hb hA hB
  by_cases k0 : s.index = 0
  · have m0 : (a.index == s.index) = true := beq_iff_eq.2 (by rw [z0, k0])
    by_cases k1 : s.term = 0
    · have m1 : (a.term == s.term) = true := beq_iff_eq.2 (by rw [z1, k1])
      by_cases k2 : s.nodes.length = 0
      · have hs0 : s.nodes = [] := List.eq_nil_of_length_eq_zero k2
        have GN2 : Hid (Sl .i64 W1 un []) := Lib.hid (by have q := GN.out; rw [hs0] at q; exact q)
        have HNL : Hid (¬ (a.led.limit = s.led.limit ∧ a.led.next = s.led.next ∧ s.led.held.length = 0 ∧ s.led.last.length = 0)) := Lib.hid (fun q => hne ⟨k0, k1, k2, by have := HZ3.out; omega, by have := HZ4.out; omega, q.2.2.1, q.2.2.2⟩)
        clear hne k0 k1 k2 hs0 hn0 z0 z1 z2 z3 z4 z5 z6
        go_enter Try.func20, Try.ntmps20
        go_wp2_with fail
        refine (Sh.nodes_same _ _ [] _ HN.out GN2.out).mono ?_
        rintro e w2 ⟨rfl, hb2⟩
        have ra := led_range ((hb2.block _ (Hd.lt_of_row HAR.out)).trans HAR.out)
        have rb := led_range ((hb2.block _ (Hd.lt_of_row HBR.out)).trans HBR.out)
        have HL2 := Lib.hid (HL.out.below hb2 (Nat.le_refl _))
        have GL2 := Lib.hid (GL.out.below hb2 (Nat.le_refl _))
        have HB2 := Lib.hid (HB.out.trans (hb2.mono HB.out.size))
        clear hb2 c0 c1 c2 c3 c4 c5 c6 d0 d1 d2 d3 d4 d5 d6
        go_wp2_with (first
          | (refine wpList_load_midG rfl 27 (.tmp 25) rfl w.heap.size 3 rfl (lArr a.led vh vl).toList _ ra Try.underlying27 rfl (by kernel_rfl) ?_)
          | (refine wpList_load_midG rfl 27 (.tmp 27) rfl (w.heap.size + 1) 3 rfl (lArr s.led uh ul).toList _ rb Try.underlying27 rfl (by kernel_rfl) ?_))
        refine (led_no a.led s.led _ _ _ HL2.out GL2.out HZ5.out HZ6.out HNL.out).mono ?_
        rintro e w3 ⟨rfl, hb3⟩
        go_wp2
        go_ret
        exact ⟨rfl, HB2.out.trans (hb3.mono HB2.out.size)⟩
      · have HK2 := Lib.hid k2
        clear hne k0 k1 k2 hn0 z0 z1 z2 z3 z4 z5 z6
        go_enter Try.func20, Try.ntmps20
        go_wp2_with fail
        refine (nodes_no s.nodes _ _ _ HN.out GN.out HK2.out).mono ?_
        rintro e w2 ⟨rfl, hb2⟩
        go_wp2
        go_ret
        exact ⟨rfl, HB.out.trans (hb2.mono HB.out.size)⟩
    · have m1 : (a.term == s.term) = false := ne_true (by omega)
      clear hne k0 k1 hn0 z0 z1 z2 z3 z4 z5 z6
      go_enter Try.func20, Try.ntmps20
      go_wp2
      go_ret
      exact ⟨rfl, HB.out⟩
  · have m0 : (a.index == s.index) = false := ne_true (by omega)
    clear hne k0 hn0 z0 z1 z2 z3 z4 z5 z6
    go_enter Try.func20, Try.ntmps20
    go_wp2
    go_ret
    exact ⟨rfl, HB.out⟩
end Rc
end Go.Proofs.Ytlkgmjhejocobaa
