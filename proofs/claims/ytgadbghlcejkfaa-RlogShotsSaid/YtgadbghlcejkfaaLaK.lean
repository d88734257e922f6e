/- What a command does to a ledger: ledger.change (on a ledger in a box) and ledger.Apply, whole. No condition but sizes. -/
import Derived.Test.YtgadbghlcejkfaaLaI
import Derived.Test.YtgadbghlcejkfaaLcM
import Derived.Test.YtgadbghlcejkfaaLedN
namespace Go.Proofs.Ytgadbghlcejkfaa
open Go.ChangeShapes Go.WideShapes Go.ChangeAt Go.RowKit Go.Lib
set_option linter.unusedVariables false
set_option maxRecDepth 100000
namespace La
open Ld Cm

theorem req_nodes {c : Cmd} (h : chkC c = true) (hk : c.kind = 3 ∨ c.kind = 4 ∨ c.kind = 5) : c.nodes = [] := by
  obtain ⟨h1, h2⟩ := chk_of h
  have f6 := h2 6 (by omega)
  have e6 : ¬ ((6 : Nat) : Int) ∈ fieldsL c.kind := by rcases hk with h | h | h <;> rw [h] <;> decide
  unfold okF at f6
  rw [if_neg e6] at f6
  have g : (c.nodes.length : Int) = 0 := beq_iff_eq.1 f6
  exact List.eq_nil_of_length_eq_zero (by omega)
theorem do_none {l : Led} {i : Int} {c : Cmd} (h : c.kind = 1 ∨ c.kind = 2) : doL l i c = (l, zAns) := by unfold doL; rw [if_pos h]
theorem do_reclaim {l : Led} {i : Int} {c : Cmd} (h : c.kind = 6) : doL l i c = execL l i c := by unfold doL; rw [if_neg (by omega), if_pos h]
theorem do_once {l : Led} {i : Int} {c : Cmd} (h : ¬ (c.kind = 1 ∨ c.kind = 2)) (h6 : c.kind ≠ 6) : doL l i c = onceL l i c := by unfold doL; rw [if_neg h, if_neg h6]

set_option maxHeartbeats 4000000 in
theorem change_any (l : Led) (vh vl u : Value) (p : Nat) (i : Int) (c : Cmd) (w : World) (h : Box w p l vh vl) (hL : LedP l) (hw : l.wf) (hc : IsCmd w u c) (hk : chkC c = true) :
    Calls Try.prog 97 #[.pointer (some ⟨p, 0, none⟩), .int .u64 i, u] w (Onced p vh vl (doL l i c) w) := by
  obtain ⟨vn, rfl, hsn, hcw⟩ := id hc
  have hplt := h.lt
  have hb0 : Below w.heap.size w ((w.alloc (.cells (cA c vn) 34)).alloc (.cells #[.int .i64 0, .int .i64 0, .int .u64 0] 69)) := ((Below.refl _ _).alloc (Nat.le_refl _) _).alloc (by simp) _
  have HVH := Lib.hid (fun g hg => (own_block h.held g hg))
  have HVL := Lib.hid (fun g hg => (own_block h.last g hg))
  have HX2 := Lib.hid (h.below hb0)
  have HC2 := Lib.hid (hc.below hb0 (Nat.le_refl _))
  have HB0 := Lib.hid hb0
  have HL := Lib.hid hL
  have HW := Lib.hid hw
  have HKC := Lib.hid hk
  have HCW := Lib.hid hcw
  have hans2 := new2 w (.cells (cA c vn) 34) (.cells #[.int .i64 0, .int .i64 0, .int .u64 0] 69)
  have HA2 := Lib.hid hans2
  have hkr := chk_kind hk
  clear hc hsn hcw hb0 hans2 h hL hw hk
  by_cases h12 : c.kind = 1 ∨ c.kind = 2
  · have HE := Lib.hid (do_none (l := l) (i := i) h12)
    rw [HE.out]
    have HFIN : Hid (Onced p vh vl (l, zAns) w (.returned (.agg #[.int .i64 0, .int .i64 0, .int .u64 0])) (((w.alloc (.cells (cA c vn) 34)).alloc (.cells #[.int .i64 0, .int .i64 0, .int .u64 0] 69)).setRow (w.heap.size + 1) #[.int .i64 0, .int .i64 0, .int .u64 0])) := Lib.hid
      ⟨vh, vl, rfl, HX2.out.row (by omega) (fun e => by have := HVH.out _ e; omega) (fun e => by have := HVL.out _ e; omega) _, (Wid.of_below HB0.out).row (by omega) _, fun g hg => .inl hg, fun g hg => .inl hg⟩
    have e1 : c.kind = 1 ∨ c.kind = 2 := h12
    rcases h12 with h1 | h1
    · have k1 : (c.kind == 1) = true := beq_iff_eq.2 h1
      clear h1 e1
      go_enter Try.func97, Try.ntmps97
      go_wp2_with ((with_reducible refine wpList_store_row rfl 69 (.tmp 6) (.tmp 12) rfl (w.heap.size + 1) #[.int .i64 0, .int .i64 0, .int .u64 0] rfl rfl 69 _ HA2.out (by kernel_rfl) rfl (ans_one _ _ _) ?_))
      exact bodyPost_ret (v := .agg #[.int .i64 0, .int .i64 0, .int .u64 0]) (results_cell_row rfl _ _ (w.heap.size + 1) 69 _ (0, 0) _ rfl (setRow_heap _ _ _ _ _ _ HA2.out) Try.underlying69 rfl (by kernel_rfl)) rfl HFIN.out
    · have k0 : (c.kind == 1) = false := beq_eq_false_iff_ne.2 (by omega)
      have k1 : (c.kind == 2) = true := beq_iff_eq.2 h1
      clear h1 e1
      go_enter Try.func97, Try.ntmps97
      go_wp2_with ((with_reducible refine wpList_store_row rfl 69 (.tmp 6) (.tmp 12) rfl (w.heap.size + 1) #[.int .i64 0, .int .i64 0, .int .u64 0] rfl rfl 69 _ HA2.out (by kernel_rfl) rfl (ans_one _ _ _) ?_))
      exact bodyPost_ret (v := .agg #[.int .i64 0, .int .i64 0, .int .u64 0]) (results_cell_row rfl _ _ (w.heap.size + 1) 69 _ (0, 0) _ rfl (setRow_heap _ _ _ _ _ _ HA2.out) Try.underlying69 rfl (by kernel_rfl)) rfl HFIN.out
  · have k1 : (c.kind == 1) = false := beq_eq_false_iff_ne.2 (by omega)
    have k2 : (c.kind == 2) = false := beq_eq_false_iff_ne.2 (by omega)
    by_cases h6 : c.kind = 6
    · have k6 : (c.kind == 6) = true := beq_iff_eq.2 h6
      have HE := Lib.hid (do_reclaim (l := l) (i := i) h6)
      rw [HE.out]
      clear h6 h12
      go_enter Try.func97, Try.ntmps97
      go_wp2_with fail
      refine (execute_any l vh vl _ p i c _ HX2.out (fit_of HL.out HW.out) HC2.out).mono ?_
      rintro e w5 ⟨vh5, rfl, hX5, hF5, hO5⟩
      have hA5 : Hid (w5.heap[w.heap.size + 1]? = some (.cells #[.int .i64 0, .int .i64 0, .int .u64 0] 69 (0, 0))) := Lib.hid ((hF5.block (w.heap.size + 1) (by simp) (by omega) (fun e => by have := (HVH.out _ e.symm).2; omega)).trans HA2.out)
      obtain ⟨vh6, hr6, hX6, hF6, hO6⟩ := ans_store (l := l) (s := w.heap.size + 1) (by omega) hX5 ((Far.of_below HB0.out).trans hF5) (by omega) (fun g hg => (hO5 g hg).imp id (fun h => by simp at h; omega)) (fun g hg => (HVH.out g hg).2) (fun g hg => (HVL.out g hg).2)
      generalize execL l i c = r at *
      have HFIN : Hid (Onced p vh vl r w (.returned (.agg #[.int .i64 r.2.code, .int .i64 r.2.token, .int .u64 r.2.serial])) (w5.setRow (w.heap.size + 1) #[.int .i64 r.2.code, .int .i64 r.2.token, .int .u64 r.2.serial])) := Lib.hid ⟨vh6, vl, rfl, hX6, Wid.of_far hF6, hO6, fun g hg => .inl hg⟩
      clear hX5 hF5 hO5 hr6 hX6 hF6 hO6
      go_wp2_with ((with_reducible refine wpList_store_row rfl 69 (.tmp 6) (.tmp 18) rfl (w.heap.size + 1) #[.int .i64 r.2.code, .int .i64 r.2.token, .int .u64 r.2.serial] rfl rfl 69 _ hA5.out (by kernel_rfl) rfl (ans_one _ _ _) ?_))
      exact bodyPost_ret (v := .agg #[.int .i64 r.2.code, .int .i64 r.2.token, .int .u64 r.2.serial]) (results_cell_row rfl _ _ (w.heap.size + 1) 69 _ (0, 0) _ rfl (setRow_heap _ _ _ _ _ _ hA5.out) Try.underlying69 rfl (by kernel_rfl)) rfl HFIN.out
    · have k6 : (c.kind == 6) = false := beq_eq_false_iff_ne.2 h6
      have HE := Lib.hid (do_once (l := l) (i := i) h12 h6)
      have HR := Lib.hid (chk_req HCW.out HKC.out (by omega))
      have HN := Lib.hid (req_nodes HKC.out (by omega))
      rw [HE.out]
      clear h6 h12
      go_enter Try.func97, Try.ntmps97
      go_wp2_with fail
      refine (once_any l vh vl _ p i c _ HX2.out HL.out HW.out HC2.out HN.out ⟨HR.out.1, HR.out.2.1⟩).mono ?_
      rintro e w5 ⟨vh5, vl5, rfl, hX5, hF5, hO5, hP5⟩
      have hA5 : Hid (w5.heap[w.heap.size + 1]? = some (.cells #[.int .i64 0, .int .i64 0, .int .u64 0] 69 (0, 0))) := Lib.hid ((hF5.block (w.heap.size + 1) (by simp) (by omega) (fun e => by have := (HVH.out _ e.symm).2; omega) (fun e => by have := (HVL.out _ e.symm).2; omega)).trans HA2.out)
      have hO6 : ∀ g, vh5.ownBlock = some g → vh.ownBlock = some g ∨ w.heap.size + 2 ≤ g := fun g hg => (hO5 g hg).imp id (fun h => by simpa using h)
      have hP6 : ∀ g, vl5.ownBlock = some g → vl.ownBlock = some g ∨ w.heap.size + 2 ≤ g := fun g hg => (hP5 g hg).imp id (fun h => by simpa using h)
      generalize onceL l i c = r at *
      have HFIN : Hid (Onced p vh vl r w (.returned (.agg #[.int .i64 r.2.code, .int .i64 r.2.token, .int .u64 r.2.serial])) (w5.setRow (w.heap.size + 1) #[.int .i64 r.2.code, .int .i64 r.2.token, .int .u64 r.2.serial])) := Lib.hid
        ⟨vh5, vl5, rfl, hX5.row (by omega) (fun e => by
          rcases hO6 _ e with h | h
          · have := (HVH.out _ h).2; omega
          · omega) (fun e => by
          rcases hP6 _ e with h | h
          · have := (HVL.out _ h).2; omega
          · omega) _, ((Wid.of_below HB0.out).trans hF5).row (by omega) _, fun g hg => (hO6 g hg).imp id (fun h => by omega), fun g hg => (hP6 g hg).imp id (fun h => by omega)⟩
      clear hX5 hF5 hO5 hP5 hO6 hP6
      go_wp2_with ((with_reducible refine wpList_store_row rfl 69 (.tmp 6) (.tmp 22) rfl (w.heap.size + 1) #[.int .i64 r.2.code, .int .i64 r.2.token, .int .u64 r.2.serial] rfl rfl 69 _ hA5.out (by kernel_rfl) rfl (ans_one _ _ _) ?_))
      exact bodyPost_ret (v := .agg #[.int .i64 r.2.code, .int .i64 r.2.token, .int .u64 r.2.serial]) (results_cell_row rfl _ _ (w.heap.size + 1) 69 _ (0, 0) _ rfl (setRow_heap _ _ _ _ _ _ hA5.out) Try.underlying69 rfl (by kernel_rfl)) rfl HFIN.out
end La
end Go.Proofs.Ytgadbghlcejkfaa
