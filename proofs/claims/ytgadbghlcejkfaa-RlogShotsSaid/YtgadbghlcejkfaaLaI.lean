/- A request: ledger.once. No condition but sizes. (Printed by wip/tools/laonce.py.) -/
import Derived.Test.YtgadbghlcejkfaaLaH
namespace Go.Proofs.Ytgadbghlcejkfaa
open Go.ChangeShapes Go.WideShapes Go.ChangeAt Go.RowKit Go.Lib
set_option linter.unusedVariables false
set_option maxRecDepth 100000
namespace La
open Ld Cm
theorem last_eql (x y : LastR) (w : World) : (binOp .eql 71 (.agg (lastA x)) (.agg (lastA y))).run Try.prog w = .ok (.bool (decide (x = y))) w := by
  obtain ⟨a1, a2, a3, a4, a5, a6⟩ := x
  obtain ⟨b1, b2, b3, b4, b5, b6⟩ := y
  go_simp
  by_cases h1 : a1 = b1 <;> by_cases h2 : a2 = b2 <;> by_cases h3 : a3 = b3 <;> by_cases h4 : a4 = b4 <;> by_cases h5 : a5 = b5 <;> by_cases h6 : a6 = b6 <;> simp [h1, h2, h3, h4, h5, h6]
theorem again_iff {c : Cmd} {r : LastR} (h : r.node = c.node) : again c r = decide (r = ⟨c.node, c.boot, c.seq, r.code, r.token, r.serial⟩) := by
  obtain ⟨a1, a2, a3, a4, a5, a6⟩ := r
  unfold again
  simp only [] at h
  subst h
  simp
theorem size_cells (g : Nat) : ∀ (vs : List Value) (o : Nat) (w : World), (w.setCells g o vs).heap.size = w.heap.size
  | [], _, _ => rfl
  | v :: r, o, w => (size_cells g r (o + 1) _).trans (by simp)
theorem other_cells (g q : Nat) : ∀ (vs : List Value) (o : Nat) {w : World}, q ≠ g → (w.setCells g o vs).heap[q]? = w.heap[q]?
  | [], _, _, _ => rfl
  | v :: r, o, w, h => (other_cells g q r (o + 1) h).trans (heap_setCell_other _ _ _ _ (by show q ≠ g; exact h))
theorem below_cells (p : Nat) {g : Nat} (hg : p ≤ g) : ∀ (vs : List Value) (o : Nat) (w : World), Below p w (w.setCells g o vs)
  | [], _, _ => Below.refl _ _
  | v :: r, o, w => ((Below.refl _ _).setCell hg _).trans (below_cells p hg r (o + 1) _)
theorem Wid.cells {p : Nat} {a b : Option Nat} {w w' : World} (h : Wid p a b w w') {g : Nat} (hg : b = some g ∨ w.heap.size ≤ g) (o : Nat) (vs : List Value) : Wid p a b w (w'.setCells g o vs) := by
  refine ⟨?_, ?_, ?_, by rw [size_cells]; exact h.size, fun k hk h1 h2 h3 => (other_cells _ _ _ _ (fun e => ?_)).trans (h.block k hk h1 h2 h3)⟩
  · exact (below_cells 0 (Nat.zero_le g) vs o w').os.trans h.os
  · exact (below_cells 0 (Nat.zero_le g) vs o w').tape.trans h.tape
  · exact (below_cells 0 (Nat.zero_le g) vs o w').output.trans h.output
  · subst e
    rcases hg with h4 | h4
    · exact h3 h4.symm
    · omega
theorem put_set {k : Nat} {l : List LastR} {x y : LastR} (hk : k ≤ l.length) : (putAt k x l).set k y = putAt k y l := by
  unfold putAt
  rw [List.set_append, if_neg (by rw [List.length_take]; omega), List.length_take, Nat.min_eq_left hk, Nat.sub_self, List.set_cons_zero]
theorem last_short {L N : Int} {xs : List LastR} (h : lastP L N xs) : xs.length ≤ 7 := by
  obtain ⟨hp, hb⟩ := h
  rcases Nat.eq_zero_or_pos xs.length with h0 | h0
  · omega
  · have hge : ∀ j (hj : j < xs.length), (j : Int) + 1 ≤ xs[j].node := by
      intro j hj
      induction j with
      | zero => have := (hb _ (List.getElem_mem hj)).1; omega
      | succ j ih => have := ih (by omega); have := List.pairwise_iff_getElem.1 hp j (j + 1) (by omega) hj (by omega); omega
    have h8 := hge (xs.length - 1) (by omega)
    have h9 := (hb _ (List.getElem_mem (by omega : xs.length - 1 < xs.length))).2.1
    omega
theorem below_of_grown {w w' : World} {r : Option Nat} {p : Nat} (h : w.grownBy w' r) (hr : ∀ q, r = some q → p ≤ q) (hp : p ≤ w.heap.size) : Below p w w' :=
  ⟨h.os, h.tape, h.output, h.size, fun k hk => h.block k (by omega) (fun e => by have := hr k e.symm; omega)⟩
theorem fit_of {l : Led} (hL : LedP l) (hw : l.wf) : Fit l := ⟨hL.1, hL.2.1, hL.2.2.2.1, hw.2.1⟩

set_option maxHeartbeats 4000000 in
theorem once_any (l : Led) (vh vl u : Value) (p : Nat) (i : Int) (c : Cmd) (w : World) (h : Box w p l vh vl) (hL : LedP l) (hw : l.wf) (hc : IsCmd w u c) (hn : c.nodes = []) (hr : 1 ≤ c.node ∧ c.node ≤ 7) :
    Calls Try.prog 130 #[.pointer (some ⟨p, 0, none⟩), .int .u64 i, u] w (Onced p vh vl (onceL l i c) w) := by
  obtain ⟨vn, rfl, -, -⟩ := id hc
  have hplt := h.lt
  have hb0 : Below w.heap.size w ((w.alloc (.cells (cA c vn) 34)).alloc (.cells #[.int .i64 0, .int .i64 0, .int .u64 0] 69)) := ((Below.refl _ _).alloc (Nat.le_refl _) _).alloc (by simp) _
  have HVH := Lib.hid (fun g hg => (own_block h.held g hg))
  have HVL := Lib.hid (fun g hg => (own_block h.last g hg))
  have HX2 := Lib.hid (h.below hb0)
  have HB0 := Lib.hid hb0
  have FIT := Lib.hid (fit_of hL hw)
  have HLP := Lib.hid hL.2.2.2.2.2
  have hans2 := new2 w (.cells (cA c vn) 34) (.cells #[.int .i64 0, .int .i64 0, .int .u64 0] 69)
  have hcb2 : ((w.alloc (.cells (cA c vn) 34)).alloc (.cells #[.int .i64 0, .int .i64 0, .int .u64 0] 69)).heap[w.heap.size]? = some (.cells (cA c vn) 34 (0, 0)) := (heap_alloc_old _ _ (by simp)).trans (heap_alloc_new _ _)
  have HA2 := Lib.hid hans2
  have HCB2 := Lib.hid hcb2
  clear hb0 hans2 hcb2 h hL hw
  obtain ⟨W2, hW2⟩ : ∃ q, (w.alloc (.cells (cA c vn) 34)).alloc (.cells #[.int .i64 0, .int .i64 0, .int .u64 0] 69) = q := ⟨_, rfl⟩
  rw [hW2] at HX2 HA2 HCB2 HB0
  have HSZ : Hid (w.heap.size + 2 ≤ W2.heap.size) := Lib.hid (by rw [← hW2]; simp)
  obtain ⟨k, hkk⟩ : ∃ k, k = posL c.node l.last := ⟨_, rfl⟩
  have hcall : ∀ d os, Calls Try.prog 144 #[vl, .int .i64 c.node, .func (.func 145) #[] #[]] (Go.Sort.grow (redrawn W2 d) os) fun e w'' => e = .returned (.tuple #[.int .i64 k, .bool (hasN c.node l.last)]) ∧ ∃ p : Regrown, w'' = Go.Sort.grow (redrawn W2 p.d) p.os := fun d os =>
    Calls.regrown_of ((search_any l.last vl c.node _ ((HX2.out.last.sl lastC_len).below (below_regrown W2 d os) (Nat.le_refl _)) HLP.out.1 (fun x hx => ⟨(HLP.out.2 x hx).1, (HLP.out.2 x hx).2.1⟩) hr).mono (fun e w' h => by rw [hkk]; exact h))
  obtain ⟨y0, y1, y2, y3⟩ := led_cells HX2.out.box
  have k3 : ∀ d os, (Go.Sort.grow (redrawn W2 d) os).cell? ⟨p, 3, none⟩ = some vl := cell_regrown y3
  have q1 : ∀ d os, (Go.Sort.grow (redrawn W2 d) os).cell? ⟨w.heap.size, 1, none⟩ = some (.int .i64 c.node) := cell_regrown ((cell_of_row W2 _ 1 _ _ _ HCB2.out).trans rfl)
  have HCA := Lib.hid hcall
  have HFAR : Hid (∀ d os, Box (Go.Sort.grow (redrawn W2 d) os) p l vh vl ∧ (Go.Sort.grow (redrawn W2 d) os).heap[w.heap.size + 1]? = some (.cells #[.int .i64 0, .int .i64 0, .int .u64 0] 69 (0, 0)) ∧ (Go.Sort.grow (redrawn W2 d) os).heap[w.heap.size]? = some (.cells (cA c vn) 34 (0, 0)) ∧ Wid p vh.ownBlock vl.ownBlock w (Go.Sort.grow (redrawn W2 d) os) ∧ w.heap.size + 2 ≤ (Go.Sort.grow (redrawn W2 d) os).heap.size) := Lib.hid (fun d os => by
    have hb := below_regrown W2 d os
    have hz := HSZ.out
    have hz0 := HB0.out.size
    exact ⟨HX2.out.below hb, (hb.block _ (by omega)).trans HA2.out, (hb.block _ (by omega)).trans HCB2.out, Wid.of_below (HB0.out.trans (hb.mono hz0)), Nat.le_trans hz hb.size⟩)
  have HKK := Lib.hid hkk
  have HPL : Hid (k ≤ l.last.length) := Lib.hid (by rw [hkk]; exact pos_le _ _)
  clear hcall y0 y1 y2 y3 hkk
  by_cases hf : ∃ r, l.last[k]? = some r ∧ r.node = c.node
  · obtain ⟨r, hx, hrn⟩ := hf
    have HE : Hid (onceL l i c = foundL l i c r) := Lib.hid (by
      unfold onceL
      rw [← HKK.out, hx]
      show (if r.node = c.node then _ else _) = _
      rw [if_pos hrn])
    have HH : Hid (hasN c.node l.last = true) := Lib.hid (decide_eq_true (by rw [← HKK.out, hx]; exact congrArg some hrn))
    rw [HH.out] at HCA
    obtain ⟨hlt, -⟩ := List.getElem?_eq_some_iff.1 hx
    have HG := Lib.hid hx
    have HRN := Lib.hid hrn
    rcases Il.Row.of HX2.out.last with ⟨-, hnil⟩ | ⟨g, cap, cur, rfl, hg, hrow⟩
    · rw [hnil] at hlt; simp at hlt
    have hcap : l.last.length ≤ cap := hrow.2.2.1
    have hcm : cap ≤ 9223372036854775807 := hrow.2.2.2.1
    rw [HE.out]
    clear hrow hx hrn hg
    by_cases ho : older c r = true
    · have HFO : Hid (foundL l i c r = (l, ⟨6, 0, 0⟩)) := Lib.hid (by unfold foundL; rw [if_pos ho])
      rw [HFO.out]
      have ho' : c.boot < r.boot ∨ r.boot = c.boot ∧ c.seq < r.seq := of_decide_eq_true ho
      rcases ho' with ho1 | ⟨ho1, ho2⟩
      · clear ho
        go_enter Try.func130, Try.ntmps130
        go_wp2_with fail
        refine wp_region_quiet_below (by kernel_rfl) (by kernel_rfl) ?_
        repeat (go_big_quiet_step ((go_at_call 144; exact HCA.out _ _)))
        refine wpQuiet_nil ?_
        intro _ hw'
        obtain ⟨⟨dq, osq⟩, hw''⟩ := hw'
        subst hw''
        obtain ⟨hX3, hA3, hC3, hB3, hs3⟩ := HFAR.out dq osq
        generalize Go.Sort.grow (redrawn W2 dq) osq = W3 at *
        have HX3 := Lib.hid hX3
        have HA3 := Lib.hid hA3
        have HC3 := Lib.hid hC3
        have HB3 := Lib.hid hB3
        have HS3 := Lib.hid hs3
        obtain ⟨y0, y1, y2, y3⟩ := led_cells hX3.box
        obtain ⟨b0, b1, b2, b4, b5, b6, b7⟩ := cmd_cells hC3
        have hp3 : p < W3.heap.size := hX3.lt
        have hcs3 : w.heap.size < W3.heap.size := by omega
        have hcs3b : w.heap.size + 1 < W3.heap.size := by omega
        obtain ⟨s0, s1, s2, s3, s4, s5⟩ := cells_own hX3.last HG.out
        have hg3 : g < W3.heap.size := (own_block hX3.last g rfl).2
        have hb4 : Below W3.heap.size W3 (W3.alloc (.cells (lastA r) 71)) := (Below.refl _ _).alloc (Nat.le_refl _) _
        have hr4 : (W3.alloc (.cells (lastA r) 71)).heap[W3.heap.size]? = some (.cells (lastA r) 71 (0, 0)) := heap_alloc_new _ _
        have hz4 : W3.heap.size + 1 ≤ (W3.alloc (.cells (lastA r) 71)).heap.size := by simp
        obtain ⟨W4, hW4⟩ : ∃ q, W3.alloc (.cells (lastA r) 71) = q := ⟨_, rfl⟩
        rw [hW4] at hb4 hr4 hz4
        have hC4 := (hb4.block w.heap.size hcs3).trans HC3.out
        obtain ⟨d0, d1, d2, d4, d5, d6, d7⟩ := cmd_cells hC4
        have d3 := (cell_of_row W4 _ 3 _ _ _ hC4).trans rfl
        have e0 := (cell_of_row W4 _ 0 _ _ _ hr4).trans rfl
        have e1 := (cell_of_row W4 _ 1 _ _ _ hr4).trans rfl
        have e2 := (cell_of_row W4 _ 2 _ _ _ hr4).trans rfl
        have e3 := (cell_of_row W4 _ 3 _ _ _ hr4).trans rfl
        have e4 := (cell_of_row W4 _ 4 _ _ _ hr4).trans rfl
        have e5 := (cell_of_row W4 _ 5 _ _ _ hr4).trans rfl
        have HX4 := Lib.hid (HX3.out.below hb4)
        have HA4 := Lib.hid ((hb4.block (w.heap.size + 1) hcs3b).trans HA3.out)
        have HC4 := Lib.hid hC4
        have HR4 := Lib.hid hr4
        have HZ4 := Lib.hid hz4
        have HB4 := Lib.hid (HB3.out.trans (Wid.of_below hb4))
        clear hX3 hA3 hC3 hB3 hs3 k3 q1 hb4 hr4 hz4 hC4
        have HFIN : Hid (Onced p vh (.slice (some ⟨g, 0, none⟩) l.last.length cap) (l, ⟨6, 0, 0⟩) w (.returned (.agg #[.int .i64 6, .int .i64 0, .int .u64 0])) (W4.setRow (w.heap.size + 1) #[.int .i64 6, .int .i64 0, .int .u64 0])) := Lib.hid
          ⟨_, _, rfl, HX4.out.row (by omega) (fun e => by have := (HVH.out _ e).2; omega) (fun e => by have := (HVL.out _ e).2; omega) _, HB4.out.row (by omega) _, fun g hg => .inl hg, fun g hg => .inl hg⟩
        go_wp2_with ((with_reducible refine wpList_store_row rfl 69 (.tmp 6) (.tmp 48) rfl (w.heap.size + 1) #[.int .i64 6, .int .i64 0, .int .u64 0] rfl rfl 69 _ HA4.out (by kernel_rfl) rfl (ans_one _ _ _) ?_))
        exact bodyPost_ret (v := .agg #[.int .i64 6, .int .i64 0, .int .u64 0]) (results_cell_row rfl _ _ (w.heap.size + 1) 69 _ (0, 0) _ rfl (setRow_heap _ _ _ _ _ _ HA4.out) Try.underlying69 rfl (by kernel_rfl)) rfl HFIN.out
      · have ho3 : ¬ (c.boot < r.boot) := by omega
        have ho4 : (r.boot == c.boot) = true := beq_iff_eq.2 ho1
        clear ho ho1
        go_enter Try.func130, Try.ntmps130
        go_wp2_with fail
        refine wp_region_quiet_below (by kernel_rfl) (by kernel_rfl) ?_
        repeat (go_big_quiet_step ((go_at_call 144; exact HCA.out _ _)))
        refine wpQuiet_nil ?_
        intro _ hw'
        obtain ⟨⟨dq, osq⟩, hw''⟩ := hw'
        subst hw''
        obtain ⟨hX3, hA3, hC3, hB3, hs3⟩ := HFAR.out dq osq
        generalize Go.Sort.grow (redrawn W2 dq) osq = W3 at *
        have HX3 := Lib.hid hX3
        have HA3 := Lib.hid hA3
        have HC3 := Lib.hid hC3
        have HB3 := Lib.hid hB3
        have HS3 := Lib.hid hs3
        obtain ⟨y0, y1, y2, y3⟩ := led_cells hX3.box
        obtain ⟨b0, b1, b2, b4, b5, b6, b7⟩ := cmd_cells hC3
        have hp3 : p < W3.heap.size := hX3.lt
        have hcs3 : w.heap.size < W3.heap.size := by omega
        have hcs3b : w.heap.size + 1 < W3.heap.size := by omega
        obtain ⟨s0, s1, s2, s3, s4, s5⟩ := cells_own hX3.last HG.out
        have hg3 : g < W3.heap.size := (own_block hX3.last g rfl).2
        have hb4 : Below W3.heap.size W3 (W3.alloc (.cells (lastA r) 71)) := (Below.refl _ _).alloc (Nat.le_refl _) _
        have hr4 : (W3.alloc (.cells (lastA r) 71)).heap[W3.heap.size]? = some (.cells (lastA r) 71 (0, 0)) := heap_alloc_new _ _
        have hz4 : W3.heap.size + 1 ≤ (W3.alloc (.cells (lastA r) 71)).heap.size := by simp
        obtain ⟨W4, hW4⟩ : ∃ q, W3.alloc (.cells (lastA r) 71) = q := ⟨_, rfl⟩
        rw [hW4] at hb4 hr4 hz4
        have hC4 := (hb4.block w.heap.size hcs3).trans HC3.out
        obtain ⟨d0, d1, d2, d4, d5, d6, d7⟩ := cmd_cells hC4
        have d3 := (cell_of_row W4 _ 3 _ _ _ hC4).trans rfl
        have e0 := (cell_of_row W4 _ 0 _ _ _ hr4).trans rfl
        have e1 := (cell_of_row W4 _ 1 _ _ _ hr4).trans rfl
        have e2 := (cell_of_row W4 _ 2 _ _ _ hr4).trans rfl
        have e3 := (cell_of_row W4 _ 3 _ _ _ hr4).trans rfl
        have e4 := (cell_of_row W4 _ 4 _ _ _ hr4).trans rfl
        have e5 := (cell_of_row W4 _ 5 _ _ _ hr4).trans rfl
        have HX4 := Lib.hid (HX3.out.below hb4)
        have HA4 := Lib.hid ((hb4.block (w.heap.size + 1) hcs3b).trans HA3.out)
        have HC4 := Lib.hid hC4
        have HR4 := Lib.hid hr4
        have HZ4 := Lib.hid hz4
        have HB4 := Lib.hid (HB3.out.trans (Wid.of_below hb4))
        clear hX3 hA3 hC3 hB3 hs3 k3 q1 hb4 hr4 hz4 hC4
        have HFIN : Hid (Onced p vh (.slice (some ⟨g, 0, none⟩) l.last.length cap) (l, ⟨6, 0, 0⟩) w (.returned (.agg #[.int .i64 6, .int .i64 0, .int .u64 0])) (W4.setRow (w.heap.size + 1) #[.int .i64 6, .int .i64 0, .int .u64 0])) := Lib.hid
          ⟨_, _, rfl, HX4.out.row (by omega) (fun e => by have := (HVH.out _ e).2; omega) (fun e => by have := (HVL.out _ e).2; omega) _, HB4.out.row (by omega) _, fun g hg => .inl hg, fun g hg => .inl hg⟩
        go_wp2_with ((with_reducible refine wpList_store_row rfl 69 (.tmp 6) (.tmp 48) rfl (w.heap.size + 1) #[.int .i64 6, .int .i64 0, .int .u64 0] rfl rfl 69 _ HA4.out (by kernel_rfl) rfl (ans_one _ _ _) ?_))
        exact bodyPost_ret (v := .agg #[.int .i64 6, .int .i64 0, .int .u64 0]) (results_cell_row rfl _ _ (w.heap.size + 1) 69 _ (0, 0) _ rfl (setRow_heap _ _ _ _ _ _ HA4.out) Try.underlying69 rfl (by kernel_rfl)) rfl HFIN.out
    · have hno : ¬ (c.boot < r.boot ∨ r.boot = c.boot ∧ c.seq < r.seq) := fun h => ho (decide_eq_true h)
      have ho3 : ¬ (c.boot < r.boot) := fun h => hno (.inl h)
      have HNO := Lib.hid hno
      have hq : ∀ w', (binOp .eql 71 (.agg (lastA r)) (.agg #[.int .i64 c.node, .int .u64 c.boot, .int .u64 c.seq, .int .i64 r.code, .int .i64 r.token, .int .u64 r.serial])).run Try.prog w' = .ok (.bool (again c r)) w' := fun w' => by
        rw [again_iff HRN.out]
        exact last_eql r ⟨c.node, c.boot, c.seq, r.code, r.token, r.serial⟩ w'
      cases hag : again c r
      · have HFO : Hid (foundL l i c r = repL l i c) := Lib.hid (by unfold foundL; rw [if_neg ho, hag]; rfl)
        rw [hag] at hq
        rw [HFO.out]
        have hag2 : r.boot = c.boot → ¬ (c.seq < r.seq) := fun h1 h2 => hno (.inr ⟨h1, h2⟩)
        have HAG2 := Lib.hid hag2
        clear ho hno hag hag2
        cases hb4 : (r.boot == c.boot)
        · have HFE : Hid (repL l i c = ({ (execL l i c).1 with last := l.last.set k (lastOf c (execL l i c).2) }, (execL l i c).2)) := Lib.hid (by unfold repL; rw [← HKK.out])
          rw [HFE.out]
          go_enter Try.func130, Try.ntmps130
          go_wp2_with fail
          refine wp_region_quiet_below (by kernel_rfl) (by kernel_rfl) ?_
          repeat (go_big_quiet_step ((go_at_call 144; exact HCA.out _ _)))
          refine wpQuiet_nil ?_
          intro _ hw'
          obtain ⟨⟨dq, osq⟩, hw''⟩ := hw'
          subst hw''
          obtain ⟨hX3, hA3, hC3, hB3, hs3⟩ := HFAR.out dq osq
          generalize Go.Sort.grow (redrawn W2 dq) osq = W3 at *
          have HX3 := Lib.hid hX3
          have HA3 := Lib.hid hA3
          have HC3 := Lib.hid hC3
          have HB3 := Lib.hid hB3
          have HS3 := Lib.hid hs3
          obtain ⟨y0, y1, y2, y3⟩ := led_cells hX3.box
          obtain ⟨b0, b1, b2, b4, b5, b6, b7⟩ := cmd_cells hC3
          have hp3 : p < W3.heap.size := hX3.lt
          have hcs3 : w.heap.size < W3.heap.size := by omega
          have hcs3b : w.heap.size + 1 < W3.heap.size := by omega
          obtain ⟨s0, s1, s2, s3, s4, s5⟩ := cells_own hX3.last HG.out
          have hg3 : g < W3.heap.size := (own_block hX3.last g rfl).2
          have hb4 : Below W3.heap.size W3 (W3.alloc (.cells (lastA r) 71)) := (Below.refl _ _).alloc (Nat.le_refl _) _
          have hr4 : (W3.alloc (.cells (lastA r) 71)).heap[W3.heap.size]? = some (.cells (lastA r) 71 (0, 0)) := heap_alloc_new _ _
          have hz4 : W3.heap.size + 1 ≤ (W3.alloc (.cells (lastA r) 71)).heap.size := by simp
          obtain ⟨W4, hW4⟩ : ∃ q, W3.alloc (.cells (lastA r) 71) = q := ⟨_, rfl⟩
          rw [hW4] at hb4 hr4 hz4
          have hC4 := (hb4.block w.heap.size hcs3).trans HC3.out
          obtain ⟨d0, d1, d2, d4, d5, d6, d7⟩ := cmd_cells hC4
          have d3 := (cell_of_row W4 _ 3 _ _ _ hC4).trans rfl
          have e0 := (cell_of_row W4 _ 0 _ _ _ hr4).trans rfl
          have e1 := (cell_of_row W4 _ 1 _ _ _ hr4).trans rfl
          have e2 := (cell_of_row W4 _ 2 _ _ _ hr4).trans rfl
          have e3 := (cell_of_row W4 _ 3 _ _ _ hr4).trans rfl
          have e4 := (cell_of_row W4 _ 4 _ _ _ hr4).trans rfl
          have e5 := (cell_of_row W4 _ 5 _ _ _ hr4).trans rfl
          have HX4 := Lib.hid (HX3.out.below hb4)
          have HA4 := Lib.hid ((hb4.block (w.heap.size + 1) hcs3b).trans HA3.out)
          have HC4 := Lib.hid hC4
          have HR4 := Lib.hid hr4
          have HZ4 := Lib.hid hz4
          have HB4 := Lib.hid (HB3.out.trans (Wid.of_below hb4))
          clear hX3 hA3 hC3 hB3 hs3 k3 q1 hb4 hr4 hz4 hC4
          have HXX := HX4
          have HCX := HC4
          have HAX := HA4
          have HBX := HB4
          have HSX : Hid (w.heap.size + 2 ≤ W4.heap.size) := Lib.hid (by have := HZ4.out; omega)
          have HVHX := Lib.hid (fun g hg => (HVH.out g hg).2)
          have HKX := Lib.hid hlt
          have HGX : Hid (w.heap.size + 1 ≠ g ∧ w.heap.size ≠ g) := Lib.hid (by have := (HVL.out g rfl).2; omega)
          have HGG : Hid ((Value.slice (some ⟨g, 0, none⟩) l.last.length cap).ownBlock = some g ∨ w.heap.size ≤ g) := Lib.hid (.inl rfl)
          go_wp2_with fail
          have HFITX : Hid (Fit { l with last := l.last }) := Lib.hid FIT.out
          have HCMDX := Lib.hid (fun W : World => cmd_any (W := W) hc hn)
          refine (execute_any { l with last := l.last } vh (.slice (some ⟨g, 0, none⟩) l.last.length cap) _ p i c _ HXX.out HFITX.out (HCMDX.out _)).mono ?_
          rintro e w5 ⟨vh5, rfl, hX5, hF5, hO5⟩
          rw [exec_with] at hX5
          rw [exec_with]
          have HC5 := Lib.hid ((hF5.block w.heap.size (by have := HSX.out; omega) (by omega) (fun e => by have := HVHX.out _ e.symm; omega)).trans HCX.out)
          have HA5 := Lib.hid ((hF5.block (w.heap.size + 1) (by have := HSX.out; omega) (by omega) (fun e => by have := HVHX.out _ e.symm; omega)).trans HAX.out)
          have HB5 := Lib.hid (HBX.out.trans (Wid.of_far hF5))
          have hs5 : w.heap.size + 2 ≤ w5.heap.size := Nat.le_trans HSX.out hF5.size
          have HX5 := Lib.hid hX5
          have HO5 := Lib.hid hO5
          obtain ⟨rr, hrr⟩ : ∃ rr, rr = execL l i c := ⟨_, rfl⟩
          rw [← hrr] at hX5 HX5 HFE ⊢
          have HRR := Lib.hid hrr
          obtain ⟨-, -, -, y3⟩ := led_cells hX5.box
          obtain ⟨q0, q1, q2, q4, q5, q6, q7⟩ := cmd_cells HC5.out
          have hg5 := own_block hX5.last g rfl
          obtain ⟨hg5a, hg5b⟩ := hg5
          obtain ⟨xr, hxr⟩ : ∃ xr, (l.last)[k]? = some xr := ⟨_, rgetD HKX.out⟩
          have hrow5 : OwnR 6 lastC 71 w5 (p + 1) (.slice (some ⟨g, 0, none⟩) (l.last).length cap) (l.last) := by have h := hX5.last; exact h
          obtain ⟨s0, s1, s2, s3, s4, s5⟩ := cells_own hrow5 hxr
          have f0 : w5.frozen? ⟨g, k * 6, none⟩ = false := frozen_own hrow5
          have f1 : w5.frozen? ⟨g, k * 6 + 1, none⟩ = false := frozen_own hrow5
          have f2 : w5.frozen? ⟨g, k * 6 + 2, none⟩ = false := frozen_own hrow5
          have f3 : w5.frozen? ⟨g, k * 6 + 3, none⟩ = false := frozen_own hrow5
          have f4 : w5.frozen? ⟨g, k * 6 + 4, none⟩ = false := frozen_own hrow5
          have f5 : w5.frozen? ⟨g, k * 6 + 5, none⟩ = false := frozen_own hrow5
          have hkn : k < l.last.length := by exact HKX.out
          have hcapn : l.last.length ≤ cap ∧ cap ≤ 9223372036854775807 := by
            obtain ⟨a9, c9, h9, h10, h11, -⟩ := hrow5.sl lastC_len
            simp only [Value.slice.injEq] at h9
            obtain ⟨-, -, rfl⟩ := h9
            exact ⟨by exact h10, by unfold maxLen at h11; exact h11⟩
          obtain ⟨hcn1, hcn2⟩ := hcapn
          have hp5 : p < w5.heap.size := hX5.lt
          have hcs5 : w.heap.size < w5.heap.size := by omega
          clear hX5 hF5 hO5 hrr hxr hrow5
          go_wp2_with fail
          go_region
          generalize hW7 : World.drew _ = W7
          have hW7e : W7 = ((w5.setCells g (k * 6) (lastC (lastOf c rr.2))).alloc (.cells #[.int .i64 rr.2.code, .int .i64 rr.2.token, .int .u64 rr.2.serial] 69)).drew := hW7.symm
          have hz6 : (w5.setCells g (k * 6) (lastC (lastOf c rr.2))).heap.size = w5.heap.size := size_cells _ _ _ _
          have hb7 : Below w5.heap.size (w5.setCells g (k * 6) (lastC (lastOf c rr.2))) W7 := by rw [hW7e]; exact ((Below.refl _ _).alloc (by rw [hz6]; exact Nat.le_refl _) _).drew
          have hX7 : Box W7 p { rr.1 with last := (l.last).set k (lastOf c rr.2) } vh5 (.slice (some ⟨g, 0, none⟩) l.last.length cap) := (HX5.out.lastset rfl HKX.out (lastOf c rr.2)).below (by rw [hz6]; exact hb7)
          have hA7 : W7.heap[w.heap.size + 1]? = some (.cells #[.int .i64 0, .int .i64 0, .int .u64 0] 69 (0, 0)) := (hb7.block _ (by omega)).trans ((other_cells _ _ _ _ HGX.out.1).trans HA5.out)
          have hT7 : W7.heap[w5.heap.size]? = some (.cells #[.int .i64 rr.2.code, .int .i64 rr.2.token, .int .u64 rr.2.serial] 69 (0, 0)) := by rw [hW7e, ← hz6]; exact heap_alloc_new _ _
          have hB7 : Wid p vh.ownBlock (.slice (some ⟨g, 0, none⟩) l.last.length cap : Value).ownBlock w W7 := (HB5.out.cells HGG.out (k * 6) (lastC (lastOf c rr.2))).trans (Wid.of_below (by rw [hz6]; exact hb7))
          have x0 := (cell_of_row W7 _ 0 _ _ _ hT7).trans rfl
          have x1 := (cell_of_row W7 _ 1 _ _ _ hT7).trans rfl
          have x2 := (cell_of_row W7 _ 2 _ _ _ hT7).trans rfl
          have HA7 := Lib.hid hA7
          have HFIN : Hid (Onced p vh (.slice (some ⟨g, 0, none⟩) l.last.length cap) ({ rr.1 with last := (l.last).set k (lastOf c rr.2) }, rr.2) w (.returned (.agg #[.int .i64 rr.2.code, .int .i64 rr.2.token, .int .u64 rr.2.serial])) (W7.setRow (w.heap.size + 1) #[.int .i64 rr.2.code, .int .i64 rr.2.token, .int .u64 rr.2.serial])) := Lib.hid
            ⟨_, _, rfl, hX7.row (by omega) (fun e => by
              rcases HO5.out _ e with h | h
              · have := HVHX.out _ h; omega
              · have := HSX.out; omega) (fun e => by simp only [Value.ownBlock, Option.some.injEq] at e; exact HGX.out.1 e.symm) _, hB7.row (by omega) _, fun g hg => (HO5.out g hg).imp id (fun h => by have := HSX.out; omega), fun g2 hg2 => by simp only [Value.ownBlock, Option.some.injEq] at hg2; subst hg2; exact HGG.out⟩
          have HFIN2 : Hid (Onced p vh (.slice (some ⟨g, 0, none⟩) l.last.length cap) ({ (execL l i c).1 with last := (l.last).set k (lastOf c (execL l i c).2) }, (execL l i c).2) w (.returned (.agg #[.int .i64 rr.2.code, .int .i64 rr.2.token, .int .u64 rr.2.serial])) (W7.setRow (w.heap.size + 1) #[.int .i64 rr.2.code, .int .i64 rr.2.token, .int .u64 rr.2.serial])) := by rw [← HRR.out]; exact HFIN
          clear hW7 hW7e hz6 hb7 hX7 hA7 hT7 hB7 y3 q0 q1 q2 q4 q5 q6 q7 s0 s1 s2 s3 s4 s5 f0 f1 f2 f3 f4 f5
          go_wp2_with ((with_reducible refine wpList_store_row rfl 69 (.tmp 6) (.tmp 91) rfl (w.heap.size + 1) #[.int .i64 rr.2.code, .int .i64 rr.2.token, .int .u64 rr.2.serial] rfl rfl 69 _ HA7.out (by kernel_rfl) rfl (ans_one _ _ _) ?_))
          exact bodyPost_ret (v := .agg #[.int .i64 rr.2.code, .int .i64 rr.2.token, .int .u64 rr.2.serial]) (results_cell_row rfl _ _ (w.heap.size + 1) 69 _ (0, 0) _ rfl (setRow_heap _ _ _ _ _ _ HA7.out) Try.underlying69 rfl (by kernel_rfl)) rfl HFIN2.out
        · have ho5 : ¬ (c.seq < r.seq) := HAG2.out (beq_iff_eq.1 hb4)
          have HFE : Hid (repL l i c = ({ (execL l i c).1 with last := l.last.set k (lastOf c (execL l i c).2) }, (execL l i c).2)) := Lib.hid (by unfold repL; rw [← HKK.out])
          rw [HFE.out]
          go_enter Try.func130, Try.ntmps130
          go_wp2_with fail
          refine wp_region_quiet_below (by kernel_rfl) (by kernel_rfl) ?_
          repeat (go_big_quiet_step ((go_at_call 144; exact HCA.out _ _)))
          refine wpQuiet_nil ?_
          intro _ hw'
          obtain ⟨⟨dq, osq⟩, hw''⟩ := hw'
          subst hw''
          obtain ⟨hX3, hA3, hC3, hB3, hs3⟩ := HFAR.out dq osq
          generalize Go.Sort.grow (redrawn W2 dq) osq = W3 at *
          have HX3 := Lib.hid hX3
          have HA3 := Lib.hid hA3
          have HC3 := Lib.hid hC3
          have HB3 := Lib.hid hB3
          have HS3 := Lib.hid hs3
          obtain ⟨y0, y1, y2, y3⟩ := led_cells hX3.box
          obtain ⟨b0, b1, b2, b4, b5, b6, b7⟩ := cmd_cells hC3
          have hp3 : p < W3.heap.size := hX3.lt
          have hcs3 : w.heap.size < W3.heap.size := by omega
          have hcs3b : w.heap.size + 1 < W3.heap.size := by omega
          obtain ⟨s0, s1, s2, s3, s4, s5⟩ := cells_own hX3.last HG.out
          have hg3 : g < W3.heap.size := (own_block hX3.last g rfl).2
          have hb4 : Below W3.heap.size W3 (W3.alloc (.cells (lastA r) 71)) := (Below.refl _ _).alloc (Nat.le_refl _) _
          have hr4 : (W3.alloc (.cells (lastA r) 71)).heap[W3.heap.size]? = some (.cells (lastA r) 71 (0, 0)) := heap_alloc_new _ _
          have hz4 : W3.heap.size + 1 ≤ (W3.alloc (.cells (lastA r) 71)).heap.size := by simp
          obtain ⟨W4, hW4⟩ : ∃ q, W3.alloc (.cells (lastA r) 71) = q := ⟨_, rfl⟩
          rw [hW4] at hb4 hr4 hz4
          have hC4 := (hb4.block w.heap.size hcs3).trans HC3.out
          obtain ⟨d0, d1, d2, d4, d5, d6, d7⟩ := cmd_cells hC4
          have d3 := (cell_of_row W4 _ 3 _ _ _ hC4).trans rfl
          have e0 := (cell_of_row W4 _ 0 _ _ _ hr4).trans rfl
          have e1 := (cell_of_row W4 _ 1 _ _ _ hr4).trans rfl
          have e2 := (cell_of_row W4 _ 2 _ _ _ hr4).trans rfl
          have e3 := (cell_of_row W4 _ 3 _ _ _ hr4).trans rfl
          have e4 := (cell_of_row W4 _ 4 _ _ _ hr4).trans rfl
          have e5 := (cell_of_row W4 _ 5 _ _ _ hr4).trans rfl
          have HX4 := Lib.hid (HX3.out.below hb4)
          have HA4 := Lib.hid ((hb4.block (w.heap.size + 1) hcs3b).trans HA3.out)
          have HC4 := Lib.hid hC4
          have HR4 := Lib.hid hr4
          have HZ4 := Lib.hid hz4
          have HB4 := Lib.hid (HB3.out.trans (Wid.of_below hb4))
          clear hX3 hA3 hC3 hB3 hs3 k3 q1 hb4 hr4 hz4 hC4
          have HXX := HX4
          have HCX := HC4
          have HAX := HA4
          have HBX := HB4
          have HSX : Hid (w.heap.size + 2 ≤ W4.heap.size) := Lib.hid (by have := HZ4.out; omega)
          have HVHX := Lib.hid (fun g hg => (HVH.out g hg).2)
          have HKX := Lib.hid hlt
          have HGX : Hid (w.heap.size + 1 ≠ g ∧ w.heap.size ≠ g) := Lib.hid (by have := (HVL.out g rfl).2; omega)
          have HGG : Hid ((Value.slice (some ⟨g, 0, none⟩) l.last.length cap).ownBlock = some g ∨ w.heap.size ≤ g) := Lib.hid (.inl rfl)
          go_wp2_with fail
          have HFITX : Hid (Fit { l with last := l.last }) := Lib.hid FIT.out
          have HCMDX := Lib.hid (fun W : World => cmd_any (W := W) hc hn)
          refine (execute_any { l with last := l.last } vh (.slice (some ⟨g, 0, none⟩) l.last.length cap) _ p i c _ HXX.out HFITX.out (HCMDX.out _)).mono ?_
          rintro e w5 ⟨vh5, rfl, hX5, hF5, hO5⟩
          rw [exec_with] at hX5
          rw [exec_with]
          have HC5 := Lib.hid ((hF5.block w.heap.size (by have := HSX.out; omega) (by omega) (fun e => by have := HVHX.out _ e.symm; omega)).trans HCX.out)
          have HA5 := Lib.hid ((hF5.block (w.heap.size + 1) (by have := HSX.out; omega) (by omega) (fun e => by have := HVHX.out _ e.symm; omega)).trans HAX.out)
          have HB5 := Lib.hid (HBX.out.trans (Wid.of_far hF5))
          have hs5 : w.heap.size + 2 ≤ w5.heap.size := Nat.le_trans HSX.out hF5.size
          have HX5 := Lib.hid hX5
          have HO5 := Lib.hid hO5
          obtain ⟨rr, hrr⟩ : ∃ rr, rr = execL l i c := ⟨_, rfl⟩
          rw [← hrr] at hX5 HX5 HFE ⊢
          have HRR := Lib.hid hrr
          obtain ⟨-, -, -, y3⟩ := led_cells hX5.box
          obtain ⟨q0, q1, q2, q4, q5, q6, q7⟩ := cmd_cells HC5.out
          have hg5 := own_block hX5.last g rfl
          obtain ⟨hg5a, hg5b⟩ := hg5
          obtain ⟨xr, hxr⟩ : ∃ xr, (l.last)[k]? = some xr := ⟨_, rgetD HKX.out⟩
          have hrow5 : OwnR 6 lastC 71 w5 (p + 1) (.slice (some ⟨g, 0, none⟩) (l.last).length cap) (l.last) := by have h := hX5.last; exact h
          obtain ⟨s0, s1, s2, s3, s4, s5⟩ := cells_own hrow5 hxr
          have f0 : w5.frozen? ⟨g, k * 6, none⟩ = false := frozen_own hrow5
          have f1 : w5.frozen? ⟨g, k * 6 + 1, none⟩ = false := frozen_own hrow5
          have f2 : w5.frozen? ⟨g, k * 6 + 2, none⟩ = false := frozen_own hrow5
          have f3 : w5.frozen? ⟨g, k * 6 + 3, none⟩ = false := frozen_own hrow5
          have f4 : w5.frozen? ⟨g, k * 6 + 4, none⟩ = false := frozen_own hrow5
          have f5 : w5.frozen? ⟨g, k * 6 + 5, none⟩ = false := frozen_own hrow5
          have hkn : k < l.last.length := by exact HKX.out
          have hcapn : l.last.length ≤ cap ∧ cap ≤ 9223372036854775807 := by
            obtain ⟨a9, c9, h9, h10, h11, -⟩ := hrow5.sl lastC_len
            simp only [Value.slice.injEq] at h9
            obtain ⟨-, -, rfl⟩ := h9
            exact ⟨by exact h10, by unfold maxLen at h11; exact h11⟩
          obtain ⟨hcn1, hcn2⟩ := hcapn
          have hp5 : p < w5.heap.size := hX5.lt
          have hcs5 : w.heap.size < w5.heap.size := by omega
          clear hX5 hF5 hO5 hrr hxr hrow5
          go_wp2_with fail
          go_region
          generalize hW7 : World.drew _ = W7
          have hW7e : W7 = ((w5.setCells g (k * 6) (lastC (lastOf c rr.2))).alloc (.cells #[.int .i64 rr.2.code, .int .i64 rr.2.token, .int .u64 rr.2.serial] 69)).drew := hW7.symm
          have hz6 : (w5.setCells g (k * 6) (lastC (lastOf c rr.2))).heap.size = w5.heap.size := size_cells _ _ _ _
          have hb7 : Below w5.heap.size (w5.setCells g (k * 6) (lastC (lastOf c rr.2))) W7 := by rw [hW7e]; exact ((Below.refl _ _).alloc (by rw [hz6]; exact Nat.le_refl _) _).drew
          have hX7 : Box W7 p { rr.1 with last := (l.last).set k (lastOf c rr.2) } vh5 (.slice (some ⟨g, 0, none⟩) l.last.length cap) := (HX5.out.lastset rfl HKX.out (lastOf c rr.2)).below (by rw [hz6]; exact hb7)
          have hA7 : W7.heap[w.heap.size + 1]? = some (.cells #[.int .i64 0, .int .i64 0, .int .u64 0] 69 (0, 0)) := (hb7.block _ (by omega)).trans ((other_cells _ _ _ _ HGX.out.1).trans HA5.out)
          have hT7 : W7.heap[w5.heap.size]? = some (.cells #[.int .i64 rr.2.code, .int .i64 rr.2.token, .int .u64 rr.2.serial] 69 (0, 0)) := by rw [hW7e, ← hz6]; exact heap_alloc_new _ _
          have hB7 : Wid p vh.ownBlock (.slice (some ⟨g, 0, none⟩) l.last.length cap : Value).ownBlock w W7 := (HB5.out.cells HGG.out (k * 6) (lastC (lastOf c rr.2))).trans (Wid.of_below (by rw [hz6]; exact hb7))
          have x0 := (cell_of_row W7 _ 0 _ _ _ hT7).trans rfl
          have x1 := (cell_of_row W7 _ 1 _ _ _ hT7).trans rfl
          have x2 := (cell_of_row W7 _ 2 _ _ _ hT7).trans rfl
          have HA7 := Lib.hid hA7
          have HFIN : Hid (Onced p vh (.slice (some ⟨g, 0, none⟩) l.last.length cap) ({ rr.1 with last := (l.last).set k (lastOf c rr.2) }, rr.2) w (.returned (.agg #[.int .i64 rr.2.code, .int .i64 rr.2.token, .int .u64 rr.2.serial])) (W7.setRow (w.heap.size + 1) #[.int .i64 rr.2.code, .int .i64 rr.2.token, .int .u64 rr.2.serial])) := Lib.hid
            ⟨_, _, rfl, hX7.row (by omega) (fun e => by
              rcases HO5.out _ e with h | h
              · have := HVHX.out _ h; omega
              · have := HSX.out; omega) (fun e => by simp only [Value.ownBlock, Option.some.injEq] at e; exact HGX.out.1 e.symm) _, hB7.row (by omega) _, fun g hg => (HO5.out g hg).imp id (fun h => by have := HSX.out; omega), fun g2 hg2 => by simp only [Value.ownBlock, Option.some.injEq] at hg2; subst hg2; exact HGG.out⟩
          have HFIN2 : Hid (Onced p vh (.slice (some ⟨g, 0, none⟩) l.last.length cap) ({ (execL l i c).1 with last := (l.last).set k (lastOf c (execL l i c).2) }, (execL l i c).2) w (.returned (.agg #[.int .i64 rr.2.code, .int .i64 rr.2.token, .int .u64 rr.2.serial])) (W7.setRow (w.heap.size + 1) #[.int .i64 rr.2.code, .int .i64 rr.2.token, .int .u64 rr.2.serial])) := by rw [← HRR.out]; exact HFIN
          clear hW7 hW7e hz6 hb7 hX7 hA7 hT7 hB7 y3 q0 q1 q2 q4 q5 q6 q7 s0 s1 s2 s3 s4 s5 f0 f1 f2 f3 f4 f5
          go_wp2_with ((with_reducible refine wpList_store_row rfl 69 (.tmp 6) (.tmp 91) rfl (w.heap.size + 1) #[.int .i64 rr.2.code, .int .i64 rr.2.token, .int .u64 rr.2.serial] rfl rfl 69 _ HA7.out (by kernel_rfl) rfl (ans_one _ _ _) ?_))
          exact bodyPost_ret (v := .agg #[.int .i64 rr.2.code, .int .i64 rr.2.token, .int .u64 rr.2.serial]) (results_cell_row rfl _ _ (w.heap.size + 1) 69 _ (0, 0) _ rfl (setRow_heap _ _ _ _ _ _ HA7.out) Try.underlying69 rfl (by kernel_rfl)) rfl HFIN2.out
      · have HFO : Hid (foundL l i c r = (l, ansOf r)) := Lib.hid (by unfold foundL; rw [if_neg ho, hag]; rfl)
        have hbs : r.boot = c.boot ∧ r.seq = c.seq := of_decide_eq_true hag
        rw [hag] at hq
        rw [HFO.out]
        have ho4 : (r.boot == c.boot) = true := beq_iff_eq.2 hbs.1
        have ho5 : ¬ (c.seq < r.seq) := by omega
        clear ho hno hag hbs
        go_enter Try.func130, Try.ntmps130
        go_wp2_with fail
        refine wp_region_quiet_below (by kernel_rfl) (by kernel_rfl) ?_
        repeat (go_big_quiet_step ((go_at_call 144; exact HCA.out _ _)))
        refine wpQuiet_nil ?_
        intro _ hw'
        obtain ⟨⟨dq, osq⟩, hw''⟩ := hw'
        subst hw''
        obtain ⟨hX3, hA3, hC3, hB3, hs3⟩ := HFAR.out dq osq
        generalize Go.Sort.grow (redrawn W2 dq) osq = W3 at *
        have HX3 := Lib.hid hX3
        have HA3 := Lib.hid hA3
        have HC3 := Lib.hid hC3
        have HB3 := Lib.hid hB3
        have HS3 := Lib.hid hs3
        obtain ⟨y0, y1, y2, y3⟩ := led_cells hX3.box
        obtain ⟨b0, b1, b2, b4, b5, b6, b7⟩ := cmd_cells hC3
        have hp3 : p < W3.heap.size := hX3.lt
        have hcs3 : w.heap.size < W3.heap.size := by omega
        have hcs3b : w.heap.size + 1 < W3.heap.size := by omega
        obtain ⟨s0, s1, s2, s3, s4, s5⟩ := cells_own hX3.last HG.out
        have hg3 : g < W3.heap.size := (own_block hX3.last g rfl).2
        have hb4 : Below W3.heap.size W3 (W3.alloc (.cells (lastA r) 71)) := (Below.refl _ _).alloc (Nat.le_refl _) _
        have hr4 : (W3.alloc (.cells (lastA r) 71)).heap[W3.heap.size]? = some (.cells (lastA r) 71 (0, 0)) := heap_alloc_new _ _
        have hz4 : W3.heap.size + 1 ≤ (W3.alloc (.cells (lastA r) 71)).heap.size := by simp
        obtain ⟨W4, hW4⟩ : ∃ q, W3.alloc (.cells (lastA r) 71) = q := ⟨_, rfl⟩
        rw [hW4] at hb4 hr4 hz4
        have hC4 := (hb4.block w.heap.size hcs3).trans HC3.out
        obtain ⟨d0, d1, d2, d4, d5, d6, d7⟩ := cmd_cells hC4
        have d3 := (cell_of_row W4 _ 3 _ _ _ hC4).trans rfl
        have e0 := (cell_of_row W4 _ 0 _ _ _ hr4).trans rfl
        have e1 := (cell_of_row W4 _ 1 _ _ _ hr4).trans rfl
        have e2 := (cell_of_row W4 _ 2 _ _ _ hr4).trans rfl
        have e3 := (cell_of_row W4 _ 3 _ _ _ hr4).trans rfl
        have e4 := (cell_of_row W4 _ 4 _ _ _ hr4).trans rfl
        have e5 := (cell_of_row W4 _ 5 _ _ _ hr4).trans rfl
        have HX4 := Lib.hid (HX3.out.below hb4)
        have HA4 := Lib.hid ((hb4.block (w.heap.size + 1) hcs3b).trans HA3.out)
        have HC4 := Lib.hid hC4
        have HR4 := Lib.hid hr4
        have HZ4 := Lib.hid hz4
        have HB4 := Lib.hid (HB3.out.trans (Wid.of_below hb4))
        clear hX3 hA3 hC3 hB3 hs3 k3 q1 hb4 hr4 hz4 hC4
        have HFIN : Hid (Onced p vh (.slice (some ⟨g, 0, none⟩) l.last.length cap) (l, ansOf r) w (.returned (.agg #[.int .i64 r.code, .int .i64 r.token, .int .u64 r.serial])) (W4.setRow (w.heap.size + 1) #[.int .i64 r.code, .int .i64 r.token, .int .u64 r.serial])) := Lib.hid
          ⟨_, _, rfl, HX4.out.row (by omega) (fun e => by have := (HVH.out _ e).2; omega) (fun e => by have := (HVL.out _ e).2; omega) _, HB4.out.row (by omega) _, fun g hg => .inl hg, fun g hg => .inl hg⟩
        go_wp2_with ((with_reducible refine wpList_store_row rfl 69 (.tmp 6) (.tmp 61) rfl (w.heap.size + 1) #[.int .i64 r.code, .int .i64 r.token, .int .u64 r.serial] rfl rfl 69 _ HA4.out (by kernel_rfl) rfl (ans_one _ _ _) ?_))
        exact bodyPost_ret (v := .agg #[.int .i64 r.code, .int .i64 r.token, .int .u64 r.serial]) (results_cell_row rfl _ _ (w.heap.size + 1) 69 _ (0, 0) _ rfl (setRow_heap _ _ _ _ _ _ HA4.out) Try.underlying69 rfl (by kernel_rfl)) rfl HFIN.out
  · have hno : ∀ r, l.last[k]? = some r → r.node ≠ c.node := fun r h1 h2 => hf ⟨r, h1, h2⟩
    have HE : Hid (onceL l i c = insL l i c) := Lib.hid (by
      unfold onceL
      rw [← HKK.out]
      cases hx : l.last[k]? with
      | none => rfl
      | some r =>
        show (if r.node = c.node then _ else _) = _
        rw [if_neg (hno r hx)])
    have HH : Hid (hasN c.node l.last = false) := Lib.hid (decide_eq_false (by
      rw [← HKK.out]
      cases hx : l.last[k]? with
      | none => simp
      | some r => simpa using hno r hx))
    have HFE : Hid (insL l i c = ({ (execL l i c).1 with last := (putAt k ⟨0, 0, 0, 0, 0, 0⟩ l.last).set k (lastOf c (execL l i c).2) }, (execL l i c).2)) := Lib.hid (by unfold insL; rw [← HKK.out, put_set HPL.out])
    have h7 := last_short HLP.out
    have HBY : Hid ((l.last.length + 1) * 48 ≤ 140737488355328) := Lib.hid (by omega)
    rw [HH.out] at HCA
    rw [HE.out, HFE.out]
    clear hf hno
    go_enter Try.func130, Try.ntmps130
    go_wp2_with fail
    refine wp_region_quiet_below (by kernel_rfl) (by kernel_rfl) ?_
    repeat (go_big_quiet_step ((go_at_call 144; exact HCA.out _ _)))
    refine wpQuiet_nil ?_
    intro _ hw'
    obtain ⟨⟨dq, osq⟩, hw''⟩ := hw'
    subst hw''
    obtain ⟨hX3, hA3, hC3, hB3, hs3⟩ := HFAR.out dq osq
    generalize Go.Sort.grow (redrawn W2 dq) osq = W3 at *
    have HX3 := Lib.hid hX3
    have HA3 := Lib.hid hA3
    have HC3 := Lib.hid hC3
    have HB3 := Lib.hid hB3
    have HS3 := Lib.hid hs3
    obtain ⟨y0, y1, y2, y3⟩ := led_cells hX3.box
    obtain ⟨b0, b1, b2, b4, b5, b6, b7⟩ := cmd_cells hC3
    have hp3 : p < W3.heap.size := hX3.lt
    have hcs3 : w.heap.size < W3.heap.size := by omega
    have hcs3b : w.heap.size + 1 < W3.heap.size := by omega
    have hb3a : Below W3.heap.size W3 (W3.alloc (.cells #[.int .i64 0, .int .u64 0, .int .u64 0, .int .i64 0, .int .i64 0, .int .u64 0] 71)) := (Below.refl _ _).alloc (Nat.le_refl _) _
    have HZR : Hid ((W3.alloc (.cells #[.int .i64 0, .int .u64 0, .int .u64 0, .int .i64 0, .int .i64 0, .int .u64 0] 71)).heap[W3.heap.size]? = some (.cells (lastC ⟨0, 0, 0, 0, 0, 0⟩).toArray 71 (0, 0))) := Lib.hid (heap_alloc_new _ _)
    have HX3a := Lib.hid (hX3.below hb3a)
    have HNE : Hid (vl.ownBlock ≠ some W3.heap.size) := Lib.hid (fun e => by have := (own_block hX3.last _ e).2; omega)
    have HZ3a : Hid (W3.heap.size + 1 ≤ (W3.alloc (.cells #[.int .i64 0, .int .u64 0, .int .u64 0, .int .i64 0, .int .i64 0, .int .u64 0] 71)).heap.size) := Lib.hid (by simp)
    have HC3a := Lib.hid ((hb3a.block w.heap.size hcs3).trans hC3)
    have HA3a := Lib.hid ((hb3a.block (w.heap.size + 1) hcs3b).trans hA3)
    have HB3a := Lib.hid (hB3.trans (Wid.of_below hb3a))
    have HVP : Hid (∀ g, vl.ownBlock = some g → p + 1 ≤ g ∧ g < w.heap.size) := HVL
    clear hX3 hA3 hC3 hB3 hs3 k3 q1 hb3a
    go_wp2_with ((go_at_call 146; refine (Il.insert_any l.last ⟨0, 0, 0, 0, 0, 0⟩ k vl W3.heap.size _ (p + 1) HX3a.out.last HPL.out HZR.out HNE.out (by have := HX3a.out.lt; omega) HBY.out).mono ?_; rintro e w4 ⟨g, cap, rfl, hown4, hgr4, hat4⟩; have hbox4 := (hgr4.block p HX3a.out.lt (fun e => by have := (HVP.out p e.symm).1; omega)).trans HX3a.out.box; have t3 := (led_cells hbox4).2.2.2; have u3 := frozen_of (o := 3) hbox4; obtain ⟨W4, hW4⟩ : ∃ q, w4.setCell ⟨p, 3, none⟩ (.slice (some ⟨g, 0, none⟩) (l.last.length + 1) cap) = q := ⟨_, rfl⟩; have hgb : ∀ q, q < (W3.alloc (.cells #[.int .i64 0, .int .u64 0, .int .u64 0, .int .i64 0, .int .i64 0, .int .u64 0] 71)).heap.size → q ≠ p → some q ≠ vl.ownBlock → W4.heap[q]? = (W3.alloc (.cells #[.int .i64 0, .int .u64 0, .int .u64 0, .int .i64 0, .int .i64 0, .int .u64 0] 71)).heap[q]? := (fun q h1 h2 h3 => by rw [← hW4]; exact (heap_setCell_other _ _ _ _ (by show q ≠ p; exact h2)).trans (hgr4.block q h1 h3)); have HXX : Hid (Box W4 p { l with last := putAt k ⟨0, 0, 0, 0, 0, 0⟩ l.last } vh (.slice (some ⟨g, 0, none⟩) (l.last.length + 1) cap)) := Lib.hid (by rw [← hW4]; exact HX3a.out.lastput (X := putAt k ⟨0, 0, 0, 0, 0, 0⟩ l.last) hown4 hgr4 (hat4.imp id (fun h => h))); have hC4 := (hgb w.heap.size (by have := HZ3a.out; omega) (by omega) (fun e => by have := (HVP.out _ e.symm).2; omega)).trans HC3a.out; have HAX := Lib.hid ((hgb (w.heap.size + 1) (by have := HZ3a.out; omega) (by omega) (fun e => by have := (HVP.out _ e.symm).2; omega)).trans HA3a.out); have hz4 : W3.heap.size + 1 ≤ W4.heap.size := (by rw [← hW4]; have := hgr4.size; have := HZ3a.out; simp; omega); have HBX : Hid (Wid p vh.ownBlock vl.ownBlock w W4) := Lib.hid (HB3a.out.trans (by rw [← hW4]; exact (Wid.of_grown hgr4).setCell _ _)); have HGG : Hid (vl.ownBlock = some g ∨ w.heap.size ≤ g) := Lib.hid (hat4.imp id (fun h => by have := HZ3a.out; omega)); have HGX : Hid (w.heap.size + 1 ≠ g ∧ w.heap.size ≠ g) := Lib.hid (by rcases hat4 with h | h; exact (by have := (HVP.out _ h).2; omega); exact (by have := HZ3a.out; omega)); have HSX : Hid (w.heap.size + 2 ≤ W4.heap.size) := Lib.hid (by have := HS3.out; omega); obtain ⟨d0, d1, d2, d4, d5, d6, d7⟩ := cmd_cells hC4; have d3 := (cell_of_row W4 _ 3 _ _ _ hC4).trans rfl; have HCX := Lib.hid hC4; clear hown4 hgr4 hat4 hbox4 hgb hC4 hz4))
    have HVHX := Lib.hid (fun g hg => (HVH.out g hg).2)
    have HKX : Hid (k < (putAt k ⟨0, 0, 0, 0, 0, 0⟩ l.last).length) := Lib.hid (by rw [len_put]; have := HPL.out; omega)
    have HNX : Hid (l.last.length + 1 = (putAt k ⟨0, 0, 0, 0, 0, 0⟩ l.last).length) := Lib.hid (len_put _ _ _).symm
    have HFITX : Hid (Fit { l with last := putAt k ⟨0, 0, 0, 0, 0, 0⟩ l.last }) := Lib.hid FIT.out
    have HCMDX := Lib.hid (fun W : World => cmd_any (W := W) hc hn)
    refine (execute_any { l with last := putAt k ⟨0, 0, 0, 0, 0, 0⟩ l.last } vh (.slice (some ⟨g, 0, none⟩) (l.last.length + 1) cap) _ p i c _ HXX.out HFITX.out (HCMDX.out _)).mono ?_
    rintro e w5 ⟨vh5, rfl, hX5, hF5, hO5⟩
    rw [exec_with] at hX5
    rw [exec_with]
    have HC5 := Lib.hid ((hF5.block w.heap.size (by have := HSX.out; omega) (by omega) (fun e => by have := HVHX.out _ e.symm; omega)).trans HCX.out)
    have HA5 := Lib.hid ((hF5.block (w.heap.size + 1) (by have := HSX.out; omega) (by omega) (fun e => by have := HVHX.out _ e.symm; omega)).trans HAX.out)
    have HB5 := Lib.hid (HBX.out.trans (Wid.of_far hF5))
    have hs5 : w.heap.size + 2 ≤ w5.heap.size := Nat.le_trans HSX.out hF5.size
    have HX5 := Lib.hid hX5
    have HO5 := Lib.hid hO5
    obtain ⟨rr, hrr⟩ : ∃ rr, rr = execL l i c := ⟨_, rfl⟩
    rw [← hrr] at hX5 HX5 HFE ⊢
    have HRR := Lib.hid hrr
    obtain ⟨-, -, -, y3⟩ := led_cells hX5.box
    obtain ⟨q0, q1, q2, q4, q5, q6, q7⟩ := cmd_cells HC5.out
    have hg5 := own_block hX5.last g rfl
    obtain ⟨hg5a, hg5b⟩ := hg5
    obtain ⟨xr, hxr⟩ : ∃ xr, (putAt k ⟨0, 0, 0, 0, 0, 0⟩ l.last)[k]? = some xr := ⟨_, rgetD HKX.out⟩
    have hrow5 : OwnR 6 lastC 71 w5 (p + 1) (.slice (some ⟨g, 0, none⟩) (putAt k ⟨0, 0, 0, 0, 0, 0⟩ l.last).length cap) (putAt k ⟨0, 0, 0, 0, 0, 0⟩ l.last) := by have h := hX5.last; rw [HNX.out] at h; exact h
    obtain ⟨s0, s1, s2, s3, s4, s5⟩ := cells_own hrow5 hxr
    have f0 : w5.frozen? ⟨g, k * 6, none⟩ = false := frozen_own hrow5
    have f1 : w5.frozen? ⟨g, k * 6 + 1, none⟩ = false := frozen_own hrow5
    have f2 : w5.frozen? ⟨g, k * 6 + 2, none⟩ = false := frozen_own hrow5
    have f3 : w5.frozen? ⟨g, k * 6 + 3, none⟩ = false := frozen_own hrow5
    have f4 : w5.frozen? ⟨g, k * 6 + 4, none⟩ = false := frozen_own hrow5
    have f5 : w5.frozen? ⟨g, k * 6 + 5, none⟩ = false := frozen_own hrow5
    have hkn : k < l.last.length + 1 := by rw [HNX.out]; exact HKX.out
    have hcapn : l.last.length + 1 ≤ cap ∧ cap ≤ 9223372036854775807 := by
      obtain ⟨a9, c9, h9, h10, h11, -⟩ := hrow5.sl lastC_len
      simp only [Value.slice.injEq] at h9
      obtain ⟨-, -, rfl⟩ := h9
      exact ⟨by rw [HNX.out]; exact h10, by unfold maxLen at h11; exact h11⟩
    obtain ⟨hcn1, hcn2⟩ := hcapn
    have hp5 : p < w5.heap.size := hX5.lt
    have hcs5 : w.heap.size < w5.heap.size := by omega
    clear hX5 hF5 hO5 hrr hxr hrow5
    go_wp2_with fail
    go_region
    generalize hW7 : World.drew _ = W7
    have hW7e : W7 = ((w5.setCells g (k * 6) (lastC (lastOf c rr.2))).alloc (.cells #[.int .i64 rr.2.code, .int .i64 rr.2.token, .int .u64 rr.2.serial] 69)).drew := hW7.symm
    have hz6 : (w5.setCells g (k * 6) (lastC (lastOf c rr.2))).heap.size = w5.heap.size := size_cells _ _ _ _
    have hb7 : Below w5.heap.size (w5.setCells g (k * 6) (lastC (lastOf c rr.2))) W7 := by rw [hW7e]; exact ((Below.refl _ _).alloc (by rw [hz6]; exact Nat.le_refl _) _).drew
    have hX7 : Box W7 p { rr.1 with last := (putAt k ⟨0, 0, 0, 0, 0, 0⟩ l.last).set k (lastOf c rr.2) } vh5 (.slice (some ⟨g, 0, none⟩) (l.last.length + 1) cap) := (HX5.out.lastset HNX.out HKX.out (lastOf c rr.2)).below (by rw [hz6]; exact hb7)
    have hA7 : W7.heap[w.heap.size + 1]? = some (.cells #[.int .i64 0, .int .i64 0, .int .u64 0] 69 (0, 0)) := (hb7.block _ (by omega)).trans ((other_cells _ _ _ _ HGX.out.1).trans HA5.out)
    have hT7 : W7.heap[w5.heap.size]? = some (.cells #[.int .i64 rr.2.code, .int .i64 rr.2.token, .int .u64 rr.2.serial] 69 (0, 0)) := by rw [hW7e, ← hz6]; exact heap_alloc_new _ _
    have hB7 : Wid p vh.ownBlock vl.ownBlock w W7 := (HB5.out.cells HGG.out (k * 6) (lastC (lastOf c rr.2))).trans (Wid.of_below (by rw [hz6]; exact hb7))
    have x0 := (cell_of_row W7 _ 0 _ _ _ hT7).trans rfl
    have x1 := (cell_of_row W7 _ 1 _ _ _ hT7).trans rfl
    have x2 := (cell_of_row W7 _ 2 _ _ _ hT7).trans rfl
    have HA7 := Lib.hid hA7
    have HFIN : Hid (Onced p vh vl ({ rr.1 with last := (putAt k ⟨0, 0, 0, 0, 0, 0⟩ l.last).set k (lastOf c rr.2) }, rr.2) w (.returned (.agg #[.int .i64 rr.2.code, .int .i64 rr.2.token, .int .u64 rr.2.serial])) (W7.setRow (w.heap.size + 1) #[.int .i64 rr.2.code, .int .i64 rr.2.token, .int .u64 rr.2.serial])) := Lib.hid
      ⟨_, _, rfl, hX7.row (by omega) (fun e => by
        rcases HO5.out _ e with h | h
        · have := HVHX.out _ h; omega
        · have := HSX.out; omega) (fun e => by simp only [Value.ownBlock, Option.some.injEq] at e; exact HGX.out.1 e.symm) _, hB7.row (by omega) _, fun g hg => (HO5.out g hg).imp id (fun h => by have := HSX.out; omega), fun g2 hg2 => by simp only [Value.ownBlock, Option.some.injEq] at hg2; subst hg2; exact HGG.out⟩
    have HFIN2 : Hid (Onced p vh vl ({ (execL l i c).1 with last := (putAt k ⟨0, 0, 0, 0, 0, 0⟩ l.last).set k (lastOf c (execL l i c).2) }, (execL l i c).2) w (.returned (.agg #[.int .i64 rr.2.code, .int .i64 rr.2.token, .int .u64 rr.2.serial])) (W7.setRow (w.heap.size + 1) #[.int .i64 rr.2.code, .int .i64 rr.2.token, .int .u64 rr.2.serial])) := by rw [← HRR.out]; exact HFIN
    clear hW7 hW7e hz6 hb7 hX7 hA7 hT7 hB7 y3 q0 q1 q2 q4 q5 q6 q7 s0 s1 s2 s3 s4 s5 f0 f1 f2 f3 f4 f5
    go_wp2_with ((with_reducible refine wpList_store_row rfl 69 (.tmp 6) (.tmp 91) rfl (w.heap.size + 1) #[.int .i64 rr.2.code, .int .i64 rr.2.token, .int .u64 rr.2.serial] rfl rfl 69 _ HA7.out (by kernel_rfl) rfl (ans_one _ _ _) ?_))
    exact bodyPost_ret (v := .agg #[.int .i64 rr.2.code, .int .i64 rr.2.token, .int .u64 rr.2.serial]) (results_cell_row rfl _ _ (w.heap.size + 1) 69 _ (0, 0) _ rfl (setRow_heap _ _ _ _ _ _ HA7.out) Try.underlying69 rfl (by kernel_rfl)) rfl HFIN2.out
end La
end Go.Proofs.Ytgadbghlcejkfaa
