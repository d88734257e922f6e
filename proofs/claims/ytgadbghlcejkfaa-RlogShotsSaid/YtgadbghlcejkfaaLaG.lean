/- What a command does to the rows of Held: ledger.execute. No condition but sizes. -/
import Derived.Test.YtgadbghlcejkfaaLaF
import Derived.Lib.QuietBelow
namespace Go.Proofs.Ytgadbghlcejkfaa
open Go.ChangeShapes Go.WideShapes Go.ChangeAt Go.RowKit Go.Lib
set_option linter.unusedVariables false
set_option maxRecDepth 100000
namespace La
open Ld Cm

theorem ans_store {w : World} {s : Nat} {p : Nat} {r : Led × Ans} {l : Led} {vh vh' vl : Value} {a : World} (hp : p ≠ s) (hX : Box w p r.1 vh' vl) (hF : Far p vh.ownBlock a w) (hs : a.heap.size ≤ s) (hO : ∀ g, vh'.ownBlock = some g → vh.ownBlock = some g ∨ s < g) (hvh : ∀ g, vh.ownBlock = some g → g < a.heap.size) (hvl : ∀ g, vl.ownBlock = some g → g < a.heap.size) :
    Execd p l r vh vl a (.returned (.agg #[.int .i64 r.2.code, .int .i64 r.2.token, .int .u64 r.2.serial])) (w.setRow s #[.int .i64 r.2.code, .int .i64 r.2.token, .int .u64 r.2.serial]) :=
  ⟨vh', rfl, hX.row hp (fun e => by
    rcases hO _ e with h | h
    · have := hvh _ h; omega
    · omega) (fun e => by have := hvl _ e; omega) _, hF.row hs _, fun g hg => (hO g hg).imp id (fun h => by omega)⟩
theorem exec_grant {l : Led} {i : Int} {c : Cmd} (h : c.kind = 3) : execL l i c = grantL l i c := by unfold execL; rw [if_pos h]
theorem exec_gone {l : Led} {i : Int} {c : Cmd} (h : c.kind ≠ 3) (hf : fitZ c l.held < 0) : execL l i c = (l, ⟨4, 0, 0⟩) := by
  unfold execL
  rw [if_neg h]
  unfold fitZ at hf
  split at hf
  · omega
  · rw [List.getElem?_eq_none (by omega)]
theorem exec_renew {l : Led} {i : Int} {c : Cmd} {x : Held} (h : c.kind = 4) (hx : l.held[fitAt c l.held]? = some x) : execL l i c = ({ l with held := l.held.set (fitAt c l.held) (restamp i x) }, ⟨3, 0, 0⟩) := by
  unfold execL
  rw [if_neg (by omega), hx]
  simp only [if_pos h]
theorem exec_free {l : Led} {i : Int} {c : Cmd} {x : Held} (h3 : c.kind ≠ 3) (h4 : c.kind ≠ 4) (hx : l.held[fitAt c l.held]? = some x) : execL l i c = ({ l with held := cutAt (fitAt c l.held) l.held }, ⟨5, 0, 0⟩) := by
  unfold execL
  rw [if_neg h3, hx]
  simp only [if_neg h4]
/-- one cell of a row's entry written: a Stamp -/
theorem stamped {w : World} {B g cap k : Nat} {xs : List Held} {x : Held} (h : OwnR 5 heldC 67 w B (.slice (some ⟨g, 0, none⟩) xs.length cap) xs) (hx : xs[k]? = some x) (i : Int) :
    OwnR 5 heldC 67 (w.setCell ⟨g, k * 5 + 4, none⟩ (.int .u64 i)) B (.slice (some ⟨g, 0, none⟩) xs.length cap) (xs.set k (restamp i x)) := by
  have hs := (World.ownsRow.stored h (k * 5 + 4) (.int .u64 i)).1
  have e : ∀ (l : List Held) (k : Nat) (x : Held), l[k]? = some x → (l.flatMap heldC).set (k * 5 + 4) (.int .u64 i) = (l.set k (restamp i x)).flatMap heldC := by
    intro l
    induction l with
    | nil => intro k x hx; simp at hx
    | cons y ys ih =>
      intro k x hx
      cases k with
      | zero =>
        simp only [List.getElem?_cons_zero, Option.some.injEq] at hx
        subst hx
        rw [List.flatMap_cons, List.set_append, if_pos (by rw [heldC_len]; omega), List.set_cons_zero, List.flatMap_cons]
        rfl
      | succ k =>
        rw [List.getElem?_cons_succ] at hx
        rw [List.flatMap_cons, List.set_append, if_neg (by rw [heldC_len]; omega), List.set_cons_succ, List.flatMap_cons, ← ih k x hx, heldC_len]
        congr 2
        omega
  unfold OwnR
  rw [List.length_set, ← e xs k x hx]
  exact hs
theorem fit_cases (c : Cmd) (xs : List Held) : (fitZ c xs = -1) ∨ ∃ x, xs[fitAt c xs]? = some x ∧ fitZ c xs = (fitAt c xs : Int) := by
  unfold fitZ
  split
  · exact .inr ⟨_, rgetD ‹_›, rfl⟩
  · exact .inl rfl

theorem Box.stamp {w : World} {p g cap k : Nat} {l : Led} {vl : Value} {x : Held} (h : Box w p l (.slice (some ⟨g, 0, none⟩) l.held.length cap) vl) (hx : l.held[k]? = some x) (i : Int) :
    Box (w.setCell ⟨g, k * 5 + 4, none⟩ (.int .u64 i)) p { l with held := l.held.set k (restamp i x) } (.slice (some ⟨g, 0, none⟩) l.held.length cap) vl := by
  have hg := (own_block h.held g rfl).1
  refine ⟨(heap_setCell_other _ _ _ _ (by show p ≠ g; omega)).trans h.box, ?_, own_keep h.last fun q hq => heap_setCell_other _ _ _ _ (fun e => h.apart g rfl (by rw [hq]; exact congrArg some e)), h.apart⟩
  exact stamped h.held hx i
theorem Far.cellR {p g : Nat} {r : Option Nat} {a w : World} (h : Far p r a w) (hr : r = some g) (j : Nat) (u : Value) : Far p r a (w.setCell ⟨g, j, none⟩ u) :=
  ⟨h.os, h.tape, h.output, by simpa using h.size, fun k hk h1 h2 => (heap_setCell_other w _ _ _ (fun e => h2 (by rw [hr]; exact congrArg some e))).trans (h.block k hk h1 h2)⟩
/-- behind a Delete, and its store -/
theorem Box.cut {W w4 : World} {p g cap k : Nat} {l : Led} {vl : Value} (h : Box W p l (.slice (some ⟨g, 0, none⟩) l.held.length cap) vl) (hk : k < l.held.length)
    (hown : OwnR 5 heldC 67 w4 (p + 1) (.slice (some ⟨g, 0, none⟩) (l.held.length - 1) cap) (cutAt k l.held)) (hgr : W.grownBy w4 (some g)) :
    Box (w4.setCell ⟨p, 2, none⟩ (.slice (some ⟨g, 0, none⟩) (l.held.length - 1) cap)) p { l with held := cutAt k l.held } (.slice (some ⟨g, 0, none⟩) (l.held.length - 1) cap) vl := by
  have hp := h.lt
  have hg := (own_block h.held g rfl).1
  have hbox := (hgr.block p hp (by simp; omega)).trans h.box
  refine ⟨store2 hbox _, own_keep hown fun q hq => ?_, own_keep h.last fun q hq => ?_, h.apart⟩
  · simp only [Value.ownBlock, Option.some.injEq] at hq
    subst hq
    exact heap_setCell_other _ _ _ _ (by show g ≠ p; omega)
  · have h1 := own_block h.last q hq
    exact (heap_setCell_other _ _ _ _ (by show q ≠ p; omega)).trans (hgr.block q h1.2 (fun e => h.apart g rfl (by rw [hq, e])))

set_option maxHeartbeats 4000000 in
theorem execute_any (l : Led) (vh vl u : Value) (p : Nat) (i : Int) (c : Cmd) (w : World) (h : Box w p l vh vl) (hL : Fit l) (hc : IsCmd w u c) :
    Calls Try.prog 129 #[.pointer (some ⟨p, 0, none⟩), .int .u64 i, u] w (Execd p l (execL l i c) vh vl w) := by
  obtain ⟨vn, rfl, hsn, hcw⟩ := id hc
  have hplt := h.lt
  have hb0 : Below w.heap.size w ((w.alloc (.cells (cA c vn) 34)).alloc (.cells #[.int .i64 0, .int .i64 0, .int .u64 0] 69)) := ((Below.refl _ _).alloc (Nat.le_refl _) _).alloc (by simp) _
  have HVH := Lib.hid (fun g hg => (own_block h.held g hg))
  have HVL := Lib.hid (fun g hg => (own_block h.last g hg))
  have HX2 := Lib.hid (h.below hb0)
  have HC2 := Lib.hid (hc.below hb0 (Nat.le_refl _))
  have HB0 := Lib.hid hb0
  have HL := Lib.hid hL
  have hans2 := new2 w (.cells (cA c vn) 34) (.cells #[.int .i64 0, .int .i64 0, .int .u64 0] 69)
  have hcb2 : ((w.alloc (.cells (cA c vn) 34)).alloc (.cells #[.int .i64 0, .int .i64 0, .int .u64 0] 69)).heap[w.heap.size]? = some (.cells (cA c vn) 34 (0, 0)) := (heap_alloc_old _ _ (by simp)).trans (heap_alloc_new _ _)
  have HA2 := Lib.hid hans2
  have HCB2 := Lib.hid hcb2
  clear hc hsn hcw hb0 hans2 hcb2 h hL
  by_cases hk : c.kind = 3
  · have HE := Lib.hid (exec_grant (l := l) (i := i) hk)
    have hk3 : (c.kind == 3) = true := beq_iff_eq.2 hk
    clear hk
    rw [HE.out]
    go_enter Try.func129, Try.ntmps129
    go_wp2_with fail
    refine (grant_any l vh vl _ p i c _ HX2.out HL.out HC2.out).mono ?_
    rintro e w5 ⟨vh5, rfl, hX5, hF5, hO5⟩
    have hA5 : Hid (w5.heap[w.heap.size + 1]? = some (.cells #[.int .i64 0, .int .i64 0, .int .u64 0] 69 (0, 0))) := Lib.hid ((hF5.block (w.heap.size + 1) (by simp) (by omega) (fun e => by have := (HVH.out _ e.symm).2; omega)).trans HA2.out)
    have HFIN := Lib.hid (ans_store (l := l) (s := w.heap.size + 1) (by omega) hX5 ((Far.of_below HB0.out).trans hF5) (by omega) (fun g hg => (hO5 g hg).imp id (fun h => by simp at h; omega)) (fun g hg => (HVH.out g hg).2) (fun g hg => (HVL.out g hg).2))
    clear hX5 hF5 hO5
    generalize grantL l i c = r at *
    go_wp2_with (refine wpList_store_row rfl 69 (.tmp 6) (.tmp 14) rfl (w.heap.size + 1) #[.int .i64 r.2.code, .int .i64 r.2.token, .int .u64 r.2.serial] rfl rfl 69 _ hA5.out (by kernel_rfl) rfl (ans_one _ _ _) ?_)
    exact bodyPost_ret (v := .agg #[.int .i64 r.2.code, .int .i64 r.2.token, .int .u64 r.2.serial]) (results_cell_row rfl _ _ (w.heap.size + 1) 69 _ (0, 0) _ rfl (setRow_heap _ _ _ _ _ _ hA5.out) Try.underlying69 rfl (by kernel_rfl)) rfl HFIN.out
  · obtain ⟨W2, hW2⟩ : ∃ q, (w.alloc (.cells (cA c vn) 34)).alloc (.cells #[.int .i64 0, .int .i64 0, .int .u64 0] 69) = q := ⟨_, rfl⟩
    have hk3 : (c.kind == 3) = false := beq_eq_false_iff_ne.2 hk
    have HK3 := Lib.hid hk
    rw [hW2] at HX2 HC2 HA2 HCB2 HB0
    have HSZ : Hid (w.heap.size + 2 ≤ W2.heap.size) := Lib.hid (by rw [← hW2]; simp)
    have hcall : ∀ d os, Calls Try.prog 142 #[vh, .agg (cA c vn)] (Go.Sort.grow (redrawn W2 d) os) fun e w'' => e = .returned (.int .i64 (fitZ c l.held)) ∧ ∃ p : Regrown, w'' = Go.Sort.grow (redrawn W2 p.d) p.os := fun d os =>
      Calls.regrown_of (fitting_any l.held vh _ c _ ((HX2.out.held.sl heldC_len).below (below_regrown W2 d os) (Nat.le_refl _)) (HC2.out.below (below_regrown W2 d os) (Nat.le_refl _)))
    obtain ⟨y0, y1, y2, y3⟩ := led_cells HX2.out.box
    have k2 : ∀ d os, (Go.Sort.grow (redrawn W2 d) os).cell? ⟨p, 2, none⟩ = some vh := cell_regrown y2
    have q0 : ∀ d os, (Go.Sort.grow (redrawn W2 d) os).cell? ⟨w.heap.size, 0, none⟩ = some (.int .i64 c.kind) := cell_regrown ((cell_of_row W2 _ 0 _ _ _ HCB2.out).trans rfl)
    have q1 : ∀ d os, (Go.Sort.grow (redrawn W2 d) os).cell? ⟨w.heap.size, 1, none⟩ = some (.int .i64 c.node) := cell_regrown ((cell_of_row W2 _ 1 _ _ _ HCB2.out).trans rfl)
    have q2 : ∀ d os, (Go.Sort.grow (redrawn W2 d) os).cell? ⟨w.heap.size, 2, none⟩ = some (.int .i64 c.token) := cell_regrown ((cell_of_row W2 _ 2 _ _ _ HCB2.out).trans rfl)
    have q3 : ∀ d os, (Go.Sort.grow (redrawn W2 d) os).cell? ⟨w.heap.size, 3, none⟩ = some vn := cell_regrown ((cell_of_row W2 _ 3 _ _ _ HCB2.out).trans rfl)
    have q4 : ∀ d os, (Go.Sort.grow (redrawn W2 d) os).cell? ⟨w.heap.size, 4, none⟩ = some (.int .u64 c.boot) := cell_regrown ((cell_of_row W2 _ 4 _ _ _ HCB2.out).trans rfl)
    have q5 : ∀ d os, (Go.Sort.grow (redrawn W2 d) os).cell? ⟨w.heap.size, 5, none⟩ = some (.int .u64 c.seq) := cell_regrown ((cell_of_row W2 _ 5 _ _ _ HCB2.out).trans rfl)
    have q6 : ∀ d os, (Go.Sort.grow (redrawn W2 d) os).cell? ⟨w.heap.size, 6, none⟩ = some (.int .u64 c.serial) := cell_regrown ((cell_of_row W2 _ 6 _ _ _ HCB2.out).trans rfl)
    have q7 : ∀ d os, (Go.Sort.grow (redrawn W2 d) os).cell? ⟨w.heap.size, 7, none⟩ = some (.int .u64 c.stamp) := cell_regrown ((cell_of_row W2 _ 7 _ _ _ HCB2.out).trans rfl)
    have c0 : W2.cell? ⟨w.heap.size, 0, none⟩ = some (.int .i64 c.kind) := (cell_of_row W2 _ 0 _ _ _ HCB2.out).trans rfl
    have HW2 := Lib.hid hW2
    have HCA := Lib.hid hcall
    have HFAR : Hid (∀ d os, Box (Go.Sort.grow (redrawn W2 d) os) p l vh vl ∧ (Go.Sort.grow (redrawn W2 d) os).heap[w.heap.size + 1]? = some (.cells #[.int .i64 0, .int .i64 0, .int .u64 0] 69 (0, 0)) ∧ (Go.Sort.grow (redrawn W2 d) os).heap[w.heap.size]? = some (.cells (cA c vn) 34 (0, 0)) ∧ Far p vh.ownBlock w (Go.Sort.grow (redrawn W2 d) os) ∧ w.heap.size + 2 ≤ (Go.Sort.grow (redrawn W2 d) os).heap.size) := Lib.hid (fun d os => by
      have hb := below_regrown W2 d os
      have hz := HSZ.out
      exact ⟨HX2.out.below hb, (hb.block _ (by omega)).trans HA2.out, (hb.block _ (by omega)).trans HCB2.out, (Far.of_below HB0.out).trans (Far.of_below hb), Nat.le_trans hz hb.size⟩)
    clear hcall hk y0 y1 y2 y3
    rcases fit_cases c l.held with hz | ⟨x, hx, hz⟩
    · have HE := Lib.hid (exec_gone (l := l) (i := i) HK3.out (by rw [hz]; omega))
      rw [hz] at HCA
      rw [HE.out]
      clear hz
      go_enter Try.func129, Try.ntmps129
      go_wp2_with fail
      refine wp_region_quiet_below (by kernel_rfl) (by kernel_rfl) ?_
      repeat (go_big_quiet_step ((go_at_call 142; exact HCA.out _ _)))
      refine wpQuiet_nil ?_
      intro _ hw'
      obtain ⟨⟨dq, osq⟩, hw''⟩ := hw'
      subst hw''
      obtain ⟨hX3, hA3, -, hF3, hs3⟩ := HFAR.out dq osq
      generalize Go.Sort.grow (redrawn W2 dq) osq = W3 at *
      have HA3 := Lib.hid hA3
      have HFIN := Lib.hid (ans_store (l := l) (r := (l, ⟨4, 0, 0⟩)) (s := w.heap.size + 1) (by omega) hX3 hF3 (by omega) (fun g hg => .inl hg) (fun g hg => (HVH.out g hg).2) (fun g hg => (HVL.out g hg).2))
      clear hX3 hA3 hF3 hs3 k2 q0 q1 q2 q3 q4 q5 q6 q7 c0
      go_wp2_with (refine wpList_store_row rfl 69 (.tmp 6) (.tmp 23) rfl (w.heap.size + 1) #[.int .i64 4, .int .i64 0, .int .u64 0] rfl rfl 69 _ HA3.out (by kernel_rfl) rfl (ans_one _ _ _) ?_)
      exact bodyPost_ret (v := .agg #[.int .i64 4, .int .i64 0, .int .u64 0]) (results_cell_row rfl _ _ (w.heap.size + 1) 69 _ (0, 0) _ rfl (setRow_heap _ _ _ _ _ _ HA3.out) Try.underlying69 rfl (by kernel_rfl)) rfl HFIN.out
    · obtain ⟨k, hkk⟩ : ∃ k, k = fitAt c l.held := ⟨_, rfl⟩
      rw [← hkk] at hx hz
      rw [hz] at HCA
      obtain ⟨hlt, -⟩ := List.getElem?_eq_some_iff.1 hx
      have HLT := Lib.hid hlt
      have HG := Lib.hid hx
      have HKK := Lib.hid hkk
      have hk0 : ¬ ((k : Int) < 0) := by omega
      rcases Ih.Row.of HX2.out.held with ⟨-, hnil⟩ | ⟨g, cap, cur, rfl, hg, hrow⟩
      · rw [hnil] at hlt; simp at hlt
      have HGP := Lib.hid hg
      have hcap : l.held.length ≤ cap := hrow.2.2.1
      have hcm : cap ≤ 9223372036854775807 := hrow.2.2.2.1
      have hlen : l.held.length ≤ 64 := HL.out.2.2.1
      clear hrow hx hz hkk hg
      by_cases hk4 : c.kind = 4
      · have e4 : (c.kind == 4) = true := beq_iff_eq.2 hk4
        have HE := Lib.hid (exec_renew (l := l) (i := i) hk4 (by rw [← HKK.out]; exact HG.out))
        rw [HE.out, ← HKK.out]
        clear hk4
        go_enter Try.func129, Try.ntmps129
        go_wp2_with fail
        refine wp_region_quiet_below (by kernel_rfl) (by kernel_rfl) ?_
        repeat (go_big_quiet_step ((go_at_call 142; exact HCA.out _ _)))
        refine wpQuiet_nil ?_
        intro _ hw'
        obtain ⟨⟨dq, osq⟩, hw''⟩ := hw'
        subst hw''
        obtain ⟨hX3, hA3, hC3, hF3, hs3⟩ := HFAR.out dq osq
        generalize Go.Sort.grow (redrawn W2 dq) osq = W3 at *
        have HX3 := Lib.hid hX3
        have HA3 := Lib.hid hA3
        have HF3 := Lib.hid hF3
        have hgv := HVH.out g rfl
        obtain ⟨y0, y1, y2, y3⟩ := led_cells hX3.box
        have c03 : W3.cell? ⟨w.heap.size, 0, none⟩ = some (.int .i64 c.kind) := (cell_of_row W3 _ 0 _ _ _ hC3).trans rfl
        have hr3 := (Ih.Row.of hX3.held)
        have hrg : ∃ cur3, Ih.Row W3 g cap cur3 l.held := by
          rcases hr3 with ⟨h, -⟩ | ⟨g', cap', cur', h, -, h3⟩
          · cases h
          · simp only [Value.slice.injEq, Option.some.injEq, Addr.mk.injEq, and_true, true_and] at h
            obtain ⟨rfl, rfl⟩ := h
            exact ⟨_, h3⟩
        obtain ⟨cur3, hr3'⟩ := hrg
        have f4 : W3.frozen? ⟨g, k * 5 + 4, none⟩ = false := frozen_of hr3'.1
        have s4 : W3.cell? ⟨g, k * 5 + 4, none⟩ = some (.int .u64 x.stamp) := by
          have := hr3'.cells k 4 (.int .u64 x.stamp) (by rw [La.drop_at HG.out, List.flatMap_cons, List.getElem?_append_left (by rw [heldC_len]; omega)]; rfl)
          rw [add_plain] at this
          exact this
        have HS3 := Lib.hid hs3
        have HHO := Lib.hid hX3.held
        clear hX3 hA3 hC3 hF3 hs3 hr3 hr3' k2 q0 q1 q2 q3 q4 q5 q6 q7 c0
        have HGN : Hid (w.heap.size + 1 ≠ g) := Lib.hid (by omega)
        have HFIN := Lib.hid (ans_store (l := l) (r := ({ l with held := l.held.set k (restamp i x) }, ⟨3, 0, 0⟩)) (s := w.heap.size + 1) (by omega) (HX3.out.stamp HG.out i) (HF3.out.cellR rfl (k * 5 + 4) (.int .u64 i)) (by omega) (fun g hg => .inl hg) (fun g hg => (HVH.out g hg).2) (fun g hg => (HVL.out g hg).2))
        clear hgv
        go_wp2_with (refine wpList_store_row rfl 69 (.tmp 6) (.tmp 35) rfl (w.heap.size + 1) #[.int .i64 3, .int .i64 0, .int .u64 0] rfl rfl 69 _ ((heap_setCell_other _ _ _ _ HGN.out).trans HA3.out) (by kernel_rfl) rfl (ans_one _ _ _) ?_)
        exact bodyPost_ret (v := .agg #[.int .i64 3, .int .i64 0, .int .u64 0]) (results_cell_row rfl _ _ (w.heap.size + 1) 69 _ (0, 0) _ rfl (setRow_heap _ _ _ _ _ _ ((heap_setCell_other _ _ _ _ HGN.out).trans HA3.out)) Try.underlying69 rfl (by kernel_rfl)) rfl HFIN.out
      · have e4 : (c.kind == 4) = false := beq_eq_false_iff_ne.2 hk4
        have HE := Lib.hid (exec_free (l := l) (i := i) HK3.out hk4 (by rw [← HKK.out]; exact HG.out))
        rw [HE.out, ← HKK.out]
        clear hk4
        go_enter Try.func129, Try.ntmps129
        go_wp2_with fail
        refine wp_region_quiet_below (by kernel_rfl) (by kernel_rfl) ?_
        repeat (go_big_quiet_step ((go_at_call 142; exact HCA.out _ _)))
        refine wpQuiet_nil ?_
        intro _ hw'
        obtain ⟨⟨dq, osq⟩, hw''⟩ := hw'
        subst hw''
        obtain ⟨hX3, hA3, hC3, hF3, hs3⟩ := HFAR.out dq osq
        generalize Go.Sort.grow (redrawn W2 dq) osq = W3 at *
        have HX3 := Lib.hid hX3
        have HA3 := Lib.hid hA3
        have HF3 := Lib.hid hF3
        have hgv := HVH.out g rfl
        obtain ⟨y0, y1, y2, y3⟩ := led_cells hX3.box
        have c03 : W3.cell? ⟨w.heap.size, 0, none⟩ = some (.int .i64 c.kind) := (cell_of_row W3 _ 0 _ _ _ hC3).trans rfl
        have hr3 := (Ih.Row.of hX3.held)
        have hrg : ∃ cur3, Ih.Row W3 g cap cur3 l.held := by
          rcases hr3 with ⟨h, -⟩ | ⟨g', cap', cur', h, -, h3⟩
          · cases h
          · simp only [Value.slice.injEq, Option.some.injEq, Addr.mk.injEq, and_true, true_and] at h
            obtain ⟨rfl, rfl⟩ := h
            exact ⟨_, h3⟩
        obtain ⟨cur3, hr3'⟩ := hrg
        have y2f := frozen_of (o := 2) hX3.box
        have HS3 := Lib.hid hs3
        have HHO := Lib.hid hX3.held
        clear hX3 hA3 hC3 hF3 hs3 hr3 k2 q0 q1 q2 q3 q4 q5 q6 q7 c0
        have HGN : Hid (w.heap.size + 1 ≠ g) := Lib.hid (by omega)
        have HGQ : Hid (w.heap.size + 1 ≠ p) := Lib.hid (by omega)
        have HROW3 := Lib.hid hr3'
        clear hgv hr3'
        go_wp2_with (first
          | (go_at_call 143; refine (Ih.delete_any l.held k g cap cur3 _ HLT.out HROW3.out (p + 1) HGP.out).mono ?_; rintro e w4 ⟨rfl, hown4, hgr4⟩; have hbox4 := (hgr4.block p HX3.out.lt (by simp; have := HGP.out; omega)).trans HX3.out.box; have t2 := (led_cells hbox4).2.2.1; have u2 := frozen_of (o := 2) hbox4; have HX4 := Lib.hid (HX3.out.cut HLT.out hown4 hgr4); have HF4 := Lib.hid ((HF3.out.trans (Far.of_grown hgr4)).setCell 2 (.slice (some ⟨g, 0, none⟩) (l.held.length - 1) cap)); have HA4 := Lib.hid ((hgr4.block (w.heap.size + 1) (by have := HS3.out; omega) (by simp; have := HGN.out; omega)).trans HA3.out); have HA5 : Hid ((w4.setCell ⟨p, 2, none⟩ (.slice (some ⟨g, 0, none⟩) (l.held.length - 1) cap)).heap[w.heap.size + 1]? = some (.cells #[.int .i64 0, .int .i64 0, .int .u64 0] 69 (0, 0))) := Lib.hid ((heap_setCell_other _ _ _ _ HGQ.out).trans HA4.out); clear hown4 hgr4 hbox4)
          | (refine wpList_store_row rfl 69 (.tmp 6) (.tmp 47) rfl (w.heap.size + 1) #[.int .i64 5, .int .i64 0, .int .u64 0] rfl rfl 69 _ (HA5.out) (by kernel_rfl) rfl (ans_one _ _ _) ?_))
        have HFIN := Lib.hid (ans_store (l := l) (r := ({ l with held := cutAt k l.held }, ⟨5, 0, 0⟩)) (s := w.heap.size + 1) (by omega) HX4.out HF4.out (by omega) (fun g hg => .inl hg) (fun g hg => (HVH.out g hg).2) (fun g hg => (HVL.out g hg).2))
        exact bodyPost_ret (v := .agg #[.int .i64 5, .int .i64 0, .int .u64 0]) (results_cell_row rfl _ _ (w.heap.size + 1) 69 _ (0, 0) _ rfl (setRow_heap _ _ _ _ _ _ ((heap_setCell_other _ _ _ _ HGQ.out).trans HA4.out)) Try.underlying69 rfl (by kernel_rfl)) rfl HFIN.out
end La
end Go.Proofs.Ytgadbghlcejkfaa
