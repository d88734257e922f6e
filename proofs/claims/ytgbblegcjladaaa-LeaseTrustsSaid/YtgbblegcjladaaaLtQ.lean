/- The document's wallet: Ask. No condition. -/
import Derived.Test.YtgbblegcjladaaaLtO
import Derived.Test.YtgbblegcjladaaaCmdKJ
import Derived.Test.YtgbblegcjladaaaCmdS
import Derived.Test.YtgbblegcjladaaaLaK
import Derived.Deep.Upon
namespace Go.Proofs.Ytgbblegcjladaaa
open Go.ChangeShapes Go.WideShapes Go.ChangeAt Go.RowKit Go.Deep Go.Maps Go.ChangeMaps Go.MapKept
set_option linter.unusedVariables false
set_option maxRecDepth 100000
set_option linter.unusedSimpArgs false
namespace Lt
open Mp Mc
variable {w w' w5 : World} {S : Nat → Prop} {q : Nat} {n now sent : Int} {s : Wa} {is : Bool} {vl v : Value} {L' : List Tr}
theorem rmid8 (c : Cmd) {d : Cmd} (h : w.heap[q]? = some (.cells (rwA n now sent is d vl) TX (0, 0))) : (w.setCells q 4 (cmA c).toList).heap[q]? = some (.cells (rwA n now sent is c vl) TX (0, 0)) := by
  have h0 : (w.setCell ⟨q, 4, none⟩ (.int .i64 c.kind)).heap[q]? = some (.cells #[.int .i64 n, .int .i64 now, .int .i64 sent, .bool is, .int .i64 c.kind, .int .i64 d.node, .int .i64 d.token, .slice none 0 0, .int .u64 d.boot, .int .u64 d.seq, .int .u64 d.serial, .int .u64 d.stamp, vl] TX (0, 0)) := (heap_setCell_same _ q 4 _ TX _ h).trans rfl
  have h1 : ((w.setCell ⟨q, 4, none⟩ (.int .i64 c.kind)).setCell ⟨q, 5, none⟩ (.int .i64 c.node)).heap[q]? = some (.cells #[.int .i64 n, .int .i64 now, .int .i64 sent, .bool is, .int .i64 c.kind, .int .i64 c.node, .int .i64 d.token, .slice none 0 0, .int .u64 d.boot, .int .u64 d.seq, .int .u64 d.serial, .int .u64 d.stamp, vl] TX (0, 0)) := (heap_setCell_same _ q 5 _ TX _ h0).trans rfl
  have h2 : (((w.setCell ⟨q, 4, none⟩ (.int .i64 c.kind)).setCell ⟨q, 5, none⟩ (.int .i64 c.node)).setCell ⟨q, 6, none⟩ (.int .i64 c.token)).heap[q]? = some (.cells #[.int .i64 n, .int .i64 now, .int .i64 sent, .bool is, .int .i64 c.kind, .int .i64 c.node, .int .i64 c.token, .slice none 0 0, .int .u64 d.boot, .int .u64 d.seq, .int .u64 d.serial, .int .u64 d.stamp, vl] TX (0, 0)) := (heap_setCell_same _ q 6 _ TX _ h1).trans rfl
  have h3 : ((((w.setCell ⟨q, 4, none⟩ (.int .i64 c.kind)).setCell ⟨q, 5, none⟩ (.int .i64 c.node)).setCell ⟨q, 6, none⟩ (.int .i64 c.token)).setCell ⟨q, 7, none⟩ (.slice none 0 0)).heap[q]? = some (.cells #[.int .i64 n, .int .i64 now, .int .i64 sent, .bool is, .int .i64 c.kind, .int .i64 c.node, .int .i64 c.token, .slice none 0 0, .int .u64 d.boot, .int .u64 d.seq, .int .u64 d.serial, .int .u64 d.stamp, vl] TX (0, 0)) := (heap_setCell_same _ q 7 _ TX _ h2).trans rfl
  have h4 : (((((w.setCell ⟨q, 4, none⟩ (.int .i64 c.kind)).setCell ⟨q, 5, none⟩ (.int .i64 c.node)).setCell ⟨q, 6, none⟩ (.int .i64 c.token)).setCell ⟨q, 7, none⟩ (.slice none 0 0)).setCell ⟨q, 8, none⟩ (.int .u64 c.boot)).heap[q]? = some (.cells #[.int .i64 n, .int .i64 now, .int .i64 sent, .bool is, .int .i64 c.kind, .int .i64 c.node, .int .i64 c.token, .slice none 0 0, .int .u64 c.boot, .int .u64 d.seq, .int .u64 d.serial, .int .u64 d.stamp, vl] TX (0, 0)) := (heap_setCell_same _ q 8 _ TX _ h3).trans rfl
  have h5 : ((((((w.setCell ⟨q, 4, none⟩ (.int .i64 c.kind)).setCell ⟨q, 5, none⟩ (.int .i64 c.node)).setCell ⟨q, 6, none⟩ (.int .i64 c.token)).setCell ⟨q, 7, none⟩ (.slice none 0 0)).setCell ⟨q, 8, none⟩ (.int .u64 c.boot)).setCell ⟨q, 9, none⟩ (.int .u64 c.seq)).heap[q]? = some (.cells #[.int .i64 n, .int .i64 now, .int .i64 sent, .bool is, .int .i64 c.kind, .int .i64 c.node, .int .i64 c.token, .slice none 0 0, .int .u64 c.boot, .int .u64 c.seq, .int .u64 d.serial, .int .u64 d.stamp, vl] TX (0, 0)) := (heap_setCell_same _ q 9 _ TX _ h4).trans rfl
  have h6 : (((((((w.setCell ⟨q, 4, none⟩ (.int .i64 c.kind)).setCell ⟨q, 5, none⟩ (.int .i64 c.node)).setCell ⟨q, 6, none⟩ (.int .i64 c.token)).setCell ⟨q, 7, none⟩ (.slice none 0 0)).setCell ⟨q, 8, none⟩ (.int .u64 c.boot)).setCell ⟨q, 9, none⟩ (.int .u64 c.seq)).setCell ⟨q, 10, none⟩ (.int .u64 c.serial)).heap[q]? = some (.cells #[.int .i64 n, .int .i64 now, .int .i64 sent, .bool is, .int .i64 c.kind, .int .i64 c.node, .int .i64 c.token, .slice none 0 0, .int .u64 c.boot, .int .u64 c.seq, .int .u64 c.serial, .int .u64 d.stamp, vl] TX (0, 0)) := (heap_setCell_same _ q 10 _ TX _ h5).trans rfl
  have h7 : ((((((((w.setCell ⟨q, 4, none⟩ (.int .i64 c.kind)).setCell ⟨q, 5, none⟩ (.int .i64 c.node)).setCell ⟨q, 6, none⟩ (.int .i64 c.token)).setCell ⟨q, 7, none⟩ (.slice none 0 0)).setCell ⟨q, 8, none⟩ (.int .u64 c.boot)).setCell ⟨q, 9, none⟩ (.int .u64 c.seq)).setCell ⟨q, 10, none⟩ (.int .u64 c.serial)).setCell ⟨q, 11, none⟩ (.int .u64 c.stamp)).heap[q]? = some (.cells #[.int .i64 n, .int .i64 now, .int .i64 sent, .bool is, .int .i64 c.kind, .int .i64 c.node, .int .i64 c.token, .slice none 0 0, .int .u64 c.boot, .int .u64 c.seq, .int .u64 c.serial, .int .u64 c.stamp, vl] TX (0, 0)) := (heap_setCell_same _ q 11 _ TX _ h6).trans rfl
  exact h7
theorem rmidO (c : Cmd) (hq : S q) : Only S w (w.setCells q 4 (cmA c).toList) := by
  have o0 : Only S w (w.setCell ⟨q, 4, none⟩ (.int .i64 c.kind)) := Only.setCell w ⟨q, 4, none⟩ _ hq
  have o1 : Only S w ((w.setCell ⟨q, 4, none⟩ (.int .i64 c.kind)).setCell ⟨q, 5, none⟩ (.int .i64 c.node)) := o0.trans (Only.setCell _ ⟨q, 5, none⟩ _ hq)
  have o2 : Only S w (((w.setCell ⟨q, 4, none⟩ (.int .i64 c.kind)).setCell ⟨q, 5, none⟩ (.int .i64 c.node)).setCell ⟨q, 6, none⟩ (.int .i64 c.token)) := o1.trans (Only.setCell _ ⟨q, 6, none⟩ _ hq)
  have o3 : Only S w ((((w.setCell ⟨q, 4, none⟩ (.int .i64 c.kind)).setCell ⟨q, 5, none⟩ (.int .i64 c.node)).setCell ⟨q, 6, none⟩ (.int .i64 c.token)).setCell ⟨q, 7, none⟩ (.slice none 0 0)) := o2.trans (Only.setCell _ ⟨q, 7, none⟩ _ hq)
  have o4 : Only S w (((((w.setCell ⟨q, 4, none⟩ (.int .i64 c.kind)).setCell ⟨q, 5, none⟩ (.int .i64 c.node)).setCell ⟨q, 6, none⟩ (.int .i64 c.token)).setCell ⟨q, 7, none⟩ (.slice none 0 0)).setCell ⟨q, 8, none⟩ (.int .u64 c.boot)) := o3.trans (Only.setCell _ ⟨q, 8, none⟩ _ hq)
  have o5 : Only S w ((((((w.setCell ⟨q, 4, none⟩ (.int .i64 c.kind)).setCell ⟨q, 5, none⟩ (.int .i64 c.node)).setCell ⟨q, 6, none⟩ (.int .i64 c.token)).setCell ⟨q, 7, none⟩ (.slice none 0 0)).setCell ⟨q, 8, none⟩ (.int .u64 c.boot)).setCell ⟨q, 9, none⟩ (.int .u64 c.seq)) := o4.trans (Only.setCell _ ⟨q, 9, none⟩ _ hq)
  have o6 : Only S w (((((((w.setCell ⟨q, 4, none⟩ (.int .i64 c.kind)).setCell ⟨q, 5, none⟩ (.int .i64 c.node)).setCell ⟨q, 6, none⟩ (.int .i64 c.token)).setCell ⟨q, 7, none⟩ (.slice none 0 0)).setCell ⟨q, 8, none⟩ (.int .u64 c.boot)).setCell ⟨q, 9, none⟩ (.int .u64 c.seq)).setCell ⟨q, 10, none⟩ (.int .u64 c.serial)) := o5.trans (Only.setCell _ ⟨q, 10, none⟩ _ hq)
  have o7 : Only S w ((((((((w.setCell ⟨q, 4, none⟩ (.int .i64 c.kind)).setCell ⟨q, 5, none⟩ (.int .i64 c.node)).setCell ⟨q, 6, none⟩ (.int .i64 c.token)).setCell ⟨q, 7, none⟩ (.slice none 0 0)).setCell ⟨q, 8, none⟩ (.int .u64 c.boot)).setCell ⟨q, 9, none⟩ (.int .u64 c.seq)).setCell ⟨q, 10, none⟩ (.int .u64 c.serial)).setCell ⟨q, 11, none⟩ (.int .u64 c.stamp)) := o6.trans (Only.setCell _ ⟨q, 11, none⟩ _ hq)
  exact o7
theorem rmidN (c : Cmd) {k : Nat} (hk : k ≠ q) : (w.setCells q 4 (cmA c).toList).heap[k]? = w.heap[k]? := by
  have o0 : (w.setCell ⟨q, 4, none⟩ (.int .i64 c.kind)).heap[k]? = w.heap[k]? := heap_setCell_other w ⟨q, 4, none⟩ k _ hk
  have o1 : ((w.setCell ⟨q, 4, none⟩ (.int .i64 c.kind)).setCell ⟨q, 5, none⟩ (.int .i64 c.node)).heap[k]? = w.heap[k]? := (heap_setCell_other _ ⟨q, 5, none⟩ k _ hk).trans o0
  have o2 : (((w.setCell ⟨q, 4, none⟩ (.int .i64 c.kind)).setCell ⟨q, 5, none⟩ (.int .i64 c.node)).setCell ⟨q, 6, none⟩ (.int .i64 c.token)).heap[k]? = w.heap[k]? := (heap_setCell_other _ ⟨q, 6, none⟩ k _ hk).trans o1
  have o3 : ((((w.setCell ⟨q, 4, none⟩ (.int .i64 c.kind)).setCell ⟨q, 5, none⟩ (.int .i64 c.node)).setCell ⟨q, 6, none⟩ (.int .i64 c.token)).setCell ⟨q, 7, none⟩ (.slice none 0 0)).heap[k]? = w.heap[k]? := (heap_setCell_other _ ⟨q, 7, none⟩ k _ hk).trans o2
  have o4 : (((((w.setCell ⟨q, 4, none⟩ (.int .i64 c.kind)).setCell ⟨q, 5, none⟩ (.int .i64 c.node)).setCell ⟨q, 6, none⟩ (.int .i64 c.token)).setCell ⟨q, 7, none⟩ (.slice none 0 0)).setCell ⟨q, 8, none⟩ (.int .u64 c.boot)).heap[k]? = w.heap[k]? := (heap_setCell_other _ ⟨q, 8, none⟩ k _ hk).trans o3
  have o5 : ((((((w.setCell ⟨q, 4, none⟩ (.int .i64 c.kind)).setCell ⟨q, 5, none⟩ (.int .i64 c.node)).setCell ⟨q, 6, none⟩ (.int .i64 c.token)).setCell ⟨q, 7, none⟩ (.slice none 0 0)).setCell ⟨q, 8, none⟩ (.int .u64 c.boot)).setCell ⟨q, 9, none⟩ (.int .u64 c.seq)).heap[k]? = w.heap[k]? := (heap_setCell_other _ ⟨q, 9, none⟩ k _ hk).trans o4
  have o6 : (((((((w.setCell ⟨q, 4, none⟩ (.int .i64 c.kind)).setCell ⟨q, 5, none⟩ (.int .i64 c.node)).setCell ⟨q, 6, none⟩ (.int .i64 c.token)).setCell ⟨q, 7, none⟩ (.slice none 0 0)).setCell ⟨q, 8, none⟩ (.int .u64 c.boot)).setCell ⟨q, 9, none⟩ (.int .u64 c.seq)).setCell ⟨q, 10, none⟩ (.int .u64 c.serial)).heap[k]? = w.heap[k]? := (heap_setCell_other _ ⟨q, 10, none⟩ k _ hk).trans o5
  have o7 : ((((((((w.setCell ⟨q, 4, none⟩ (.int .i64 c.kind)).setCell ⟨q, 5, none⟩ (.int .i64 c.node)).setCell ⟨q, 6, none⟩ (.int .i64 c.token)).setCell ⟨q, 7, none⟩ (.slice none 0 0)).setCell ⟨q, 8, none⟩ (.int .u64 c.boot)).setCell ⟨q, 9, none⟩ (.int .u64 c.seq)).setCell ⟨q, 10, none⟩ (.int .u64 c.serial)).setCell ⟨q, 11, none⟩ (.int .u64 c.stamp)).heap[k]? = w.heap[k]? := (heap_setCell_other _ ⟨q, 11, none⟩ k _ hk).trans o6
  exact o7
theorem rthereW {d : Cmd} (h : w.heap[q]? = some (.cells (rwA n now sent is d vl) TX (0, 0))) : w.there q 4 8 := fun j hj => by
  rcases (by omega : j = 0 ∨ j = 1 ∨ j = 2 ∨ j = 3 ∨ j = 4 ∨ j = 5 ∨ j = 6 ∨ j = 7) with rfl | rfl | rfl | rfl | rfl | rfl | rfl | rfl <;> exact ⟨by rw [cell_of_row _ _ _ _ _ _ h]; rfl, frozen_of_row _ _ _ _ _ h⟩
theorem wp_appOk {P : Program} {ops : Array Oper} {rest : List Oper} {o : Oper} {a : Act} {Q : Exit → Act → World → Prop} (hg : o.guard = none) (s x : Operand) (t : TypeId) (ho : o.op = .call { callee := .builtin .append, args := #[s, x], argTypes := #[t, t] }) (v u v' : Value) (hs : a.eval s = v) (hx : a.eval x = u)
    (hrun : (Builtin.append_ #[t, t] o.type #[v, u]).run P w = .ok v' w) (h : wpList P ops Q rest (a.put o.dst v') w) : wpList P ops Q (o :: rest) a w := by
  refine wpList_plain hg fun K' hK' => ?_
  unfold Oper.wp
  simp [execOp, ho, resolve, invoke, builtin, hs, hx, hrun, Result.andThen]
  exact hK' _ _ h
set_option maxHeartbeats 8000000 in
/-- a copy of a command that names no nodes names none -/
theorem rcopy_bare (c : Cmd) (vn : Value) (w : World) (hc : IsCmd w (.agg #[.int .i64 c.kind, .int .i64 c.node, .int .i64 c.token, vn, .int .u64 c.boot, .int .u64 c.seq, .int .u64 c.serial, .int .u64 c.stamp]) c) (hn : c.nodes = []) :
    Calls Try.prog 52 #[.agg #[.int .i64 c.kind, .int .i64 c.node, .int .i64 c.token, vn, .int .u64 c.boot, .int .u64 c.seq, .int .u64 c.serial, .int .u64 c.stamp]] w fun e w' => e = .returned (.agg (cmA c)) ∧ Below w.heap.size w w' := by
  obtain ⟨vn', hv, hsl, -⟩ := hc
  simp only [Value.agg.injEq, Array.mk.injEq, List.cons.injEq, and_true, true_and] at hv
  have hv : vn = vn' := by simpa using hv
  subst hv
  rw [hn] at hsl
  obtain ⟨a, cap, rfl, -, -, hd⟩ := id hsl
  have hap : ∀ W, (Builtin.append_ #[56, 56] 56 #[.slice none 0 0, .slice a 0 cap]).run Try.prog W = .ok (.slice none 0 0) W := fun W => by
    obtain ⟨i0, hi, hz0, hz1, hz2⟩ := info_parts (P := Try.prog) (e := 3) (z := .int .i64 0) (size := 1) (bytes := 8) (by kernel_rfl)
    refine run_append_nothing W _ _ _ 3 i0 Try.underlying56 hi none 0 0 (Nat.le_refl _) _ ?_
    cases a with
    | none => exact Src.ofNil W Try.underlying56 cap
    | some b => exact Src.ofSlice W Try.underlying56 b 0 cap [] (by simp) (fun j u h => by simp at h) (fun u h => by simp at h)
  simp only [List.length_nil]
  clear hsl hd hv
  obtain ⟨r, hr⟩ : ∃ z, w.heap.size = z := ⟨_, rfl⟩
  obtain ⟨W1, hW1⟩ : ∃ z, w.alloc (.cells #[.int .i64 c.kind, .int .i64 c.node, .int .i64 c.token, .slice a 0 cap, .int .u64 c.boot, .int .u64 c.seq, .int .u64 c.serial, .int .u64 c.stamp] 58) = z := ⟨_, rfl⟩
  have hb1 : Below w.heap.size w W1 := by rw [← hW1]; exact (Below.refl _ _).alloc (Nat.le_refl _) _
  have hr1 : W1.heap[r]? = some (.cells #[.int .i64 c.kind, .int .i64 c.node, .int .i64 c.token, .slice a 0 cap, .int .u64 c.boot, .int .u64 c.seq, .int .u64 c.serial, .int .u64 c.stamp] 58 (0, 0)) := by rw [← hW1, ← hr]; exact heap_alloc_new _ _
  obtain ⟨r2, hr2⟩ : ∃ z, W1.heap.size = z := ⟨_, rfl⟩
  obtain ⟨W2, hW2⟩ : ∃ z, W1.alloc (.cells (cmA zCm) 58) = z := ⟨_, rfl⟩
  have hb2 : Below W1.heap.size W1 W2 := by rw [← hW2]; exact (Below.refl _ _).alloc (Nat.le_refl _) _
  have hz2 : W2.heap[r2]? = some (.cells (cmA zCm) 58 (0, 0)) := by rw [← hW2, ← hr2]; exact heap_alloc_new _ _
  have hrr := (hb2.block r (row_lt hr1)).trans hr1
  have hne : r ≠ r2 := by have := row_lt hr1; omega
  have k3 : W2.cell? ⟨r, 3, none⟩ = some (.slice a 0 cap) := (cell_of_row _ _ 3 _ _ _ hrr).trans rfl
  have f3 : W2.frozen? ⟨r, 3, none⟩ = false := frozen_of_row W2 _ _ _ _ hrr
  obtain ⟨W3, hW3⟩ : ∃ z, W2.setCell ⟨r, 3, none⟩ (.slice none 0 0) = z := ⟨_, rfl⟩
  have hr3 : W3.heap[r]? = some (.cells (cmA c) 58 (0, 0)) := by rw [← hW3]; exact (heap_setCell_same W2 r 3 _ 58 _ hrr).trans rfl
  have hz3 : W3.heap[r2]? = some (.cells (cmA zCm) 58 (0, 0)) := by rw [← hW3]; exact (heap_setCell_other W2 ⟨r, 3, none⟩ r2 _ hne.symm).trans hz2
  have hb3 : Below w.heap.size w W3 := by rw [← hW3]; exact (hb1.trans (hb2.mono hb1.size)).setCell (p := ⟨r, 3, none⟩) (Nat.le_of_eq hr) _
  obtain ⟨W4, hW4⟩ : ∃ z, W3.setRow r2 (cmA c) = z := ⟨_, rfl⟩
  have H4 : Hid (W4.heap[r2]? = some (.cells (cmA c) 58 (0, 0)) ∧ Below w.heap.size w W4) := Lib.hid ⟨by rw [← hW4]; exact setRow_heap _ _ _ _ _ _ hz3, by rw [← hW4]; exact Cm.below_setRow hb3 (by have := hb1.size; omega) _⟩
  clear hb1 hr1 hb2 hz2 hrr hne hb3
  have HAP := Lib.hid hap
  clear hap
  go_enter Try.func52, Try.ntmps52
  go_wp2_with (first | rw [hW1, hr] | rw [hW2, hr2] | rw [hW3] | (at_builtin; refine wp_appOk rfl _ _ _ rfl _ _ _ rfl rfl (HAP.out _) ?_) | (refine wpList_load_row rfl 58 (.tmp 1) rfl r rfl 58 (cmA c) (0, 0) _ hr3 Try.underlying58 rfl (by kernel_rfl) ?_) | (refine wpList_store_row rfl 58 (.tmp 2) (.tmp 7) rfl r2 (cmA c) rfl rfl 58 _ hz3 (by kernel_rfl) rfl (cmA_one c) ?_; rw [hW4]))
  exact bodyPost_ret (v := .agg (cmA c)) (results_cell_row rfl _ _ r2 58 _ (0, 0) _ rfl H4.out.1 Try.underlying58 rfl (by kernel_rfl)) rfl ⟨rfl, H4.out.2⟩
/-! ### request -/
set_option maxRecDepth 100000 in
set_option maxHeartbeats 16000000 in
theorem request_any (c : Cmd) (vn : Value) (w : World) (hc : IsCmd w (.agg #[.int .i64 c.kind, .int .i64 c.node, .int .i64 c.token, vn, .int .u64 c.boot, .int .u64 c.seq, .int .u64 c.serial, .int .u64 c.stamp]) c) (hw : c.wf) :
    Calls Try.prog 51 #[.agg #[.int .i64 c.kind, .int .i64 c.node, .int .i64 c.token, vn, .int .u64 c.boot, .int .u64 c.seq, .int .u64 c.serial, .int .u64 c.stamp]] w fun e w' => e = .returned (.bool (reqB c)) ∧ Below w.heap.size w w' := by
  obtain ⟨r, hr⟩ : ∃ z, w.heap.size = z := ⟨_, rfl⟩
  obtain ⟨W1, hW1⟩ : ∃ z, w.alloc (.cells #[.int .i64 c.kind, .int .i64 c.node, .int .i64 c.token, vn, .int .u64 c.boot, .int .u64 c.seq, .int .u64 c.serial, .int .u64 c.stamp] 58) = z := ⟨_, rfl⟩
  have hb1 : Below w.heap.size w W1 := by rw [← hW1]; exact (Below.refl _ _).alloc (Nat.le_refl _) _
  have hr1 : W1.heap[r]? = some (.cells #[.int .i64 c.kind, .int .i64 c.node, .int .i64 c.token, vn, .int .u64 c.boot, .int .u64 c.seq, .int .u64 c.serial, .int .u64 c.stamp] 58 (0, 0)) := by rw [← hW1, ← hr]; exact heap_alloc_new _ _
  have k0 : W1.cell? ⟨r, 0, none⟩ = some (.int .i64 c.kind) := (cell_of_row _ _ 0 _ _ _ hr1).trans rfl
  have k1 : W1.cell? ⟨r, 1, none⟩ = some (.int .i64 c.node) := (cell_of_row _ _ 1 _ _ _ hr1).trans rfl
  have k2 : W1.cell? ⟨r, 2, none⟩ = some (.int .i64 c.token) := (cell_of_row _ _ 2 _ _ _ hr1).trans rfl
  have k3 : W1.cell? ⟨r, 3, none⟩ = some (vn) := (cell_of_row _ _ 3 _ _ _ hr1).trans rfl
  have k4 : W1.cell? ⟨r, 4, none⟩ = some (.int .u64 c.boot) := (cell_of_row _ _ 4 _ _ _ hr1).trans rfl
  have k5 : W1.cell? ⟨r, 5, none⟩ = some (.int .u64 c.seq) := (cell_of_row _ _ 5 _ _ _ hr1).trans rfl
  have k6 : W1.cell? ⟨r, 6, none⟩ = some (.int .u64 c.serial) := (cell_of_row _ _ 6 _ _ _ hr1).trans rfl
  have k7 : W1.cell? ⟨r, 7, none⟩ = some (.int .u64 c.stamp) := (cell_of_row _ _ 7 _ _ _ hr1).trans rfl
  have HC1 := Lib.hid (hc.below hb1 (Nat.le_refl _))
  have HB1 := Lib.hid hb1
  have HR1 := Lib.hid hr1
  have HRE := Lib.hid hr
  have hck := Cm.rcheck_any c _ W1 HC1.out
  rw [Cm.rchk_eq hw] at hck
  cases hch : Cm.chkC c
  · rw [hch] at hck
    have HCK := Lib.hid hck
    have HQB : Hid (reqB c = false) := Lib.hid (by unfold reqB; rw [hch, Bool.and_false])
    simp only [Cm.cErr, Bool.false_eq_true, if_false] at HCK
    clear hck hch hc hb1 hr1
    go_enter Try.func51, Try.ntmps51
    go_wp2_with (first | rw [hW1, hr] | ((with_reducible refine HCK.out.mono ?_); rintro e w2 ⟨rfl, hb2⟩; have HB2 := Lib.hid (HB1.out.trans (hb2.mono HB1.out.size)); clear hb2))
    go_ret
    exact ⟨by rw [HQB.out]; rfl, HB2.out⟩
  rw [hch] at hck
  have HCK := Lib.hid hck
  have HCH := Lib.hid hch
  simp only [Cm.cErr, if_true] at HCK
  clear hck hch
  by_cases hk3 : c.kind = 3
  · have e3 : (c.kind == 3) = true := beq_iff_eq.2 hk3
    have e4 : (c.kind == 4) = false := beq_eq_false_iff_ne.2 (by omega)
    have e5 : (c.kind == 5) = false := beq_eq_false_iff_ne.2 (by omega)
    have HQB : Hid (reqB c = true) := Lib.hid (by unfold reqB; rw [HCH.out, e3, e4, e5]; rfl)
    clear hc hb1 hr1 hk3
    go_enter Try.func51, Try.ntmps51
    go_wp2_with (first | rw [hW1, hr] | ((with_reducible refine HCK.out.mono ?_); rintro e w2 ⟨rfl, hb2⟩; have HB2 := Lib.hid (HB1.out.trans (hb2.mono HB1.out.size)); have hr2 := (hb2.block r (row_lt HR1.out)).trans HR1.out; clear hb2 k0 k1 k2 k3 k4 k5 k6 k7; have k0 : w2.cell? ⟨r, 0, none⟩ = some (.int .i64 c.kind) := (cell_of_row w2 _ 0 _ _ _ hr2).trans rfl; clear hr2))
    go_ret
    exact ⟨by rw [HQB.out]; rfl, HB2.out⟩
  by_cases hk4 : c.kind = 4
  · have e3 : (c.kind == 3) = false := beq_eq_false_iff_ne.2 (by omega)
    have e4 : (c.kind == 4) = true := beq_iff_eq.2 hk4
    have e5 : (c.kind == 5) = false := beq_eq_false_iff_ne.2 (by omega)
    have HQB : Hid (reqB c = true) := Lib.hid (by unfold reqB; rw [HCH.out, e3, e4, e5]; rfl)
    clear hc hb1 hr1 hk3 hk4
    go_enter Try.func51, Try.ntmps51
    go_wp2_with (first | rw [hW1, hr] | ((with_reducible refine HCK.out.mono ?_); rintro e w2 ⟨rfl, hb2⟩; have HB2 := Lib.hid (HB1.out.trans (hb2.mono HB1.out.size)); have hr2 := (hb2.block r (row_lt HR1.out)).trans HR1.out; clear hb2 k0 k1 k2 k3 k4 k5 k6 k7; have k0 : w2.cell? ⟨r, 0, none⟩ = some (.int .i64 c.kind) := (cell_of_row w2 _ 0 _ _ _ hr2).trans rfl; clear hr2))
    go_ret
    exact ⟨by rw [HQB.out]; rfl, HB2.out⟩
  by_cases hk5 : c.kind = 5
  · have e3 : (c.kind == 3) = false := beq_eq_false_iff_ne.2 (by omega)
    have e4 : (c.kind == 4) = false := beq_eq_false_iff_ne.2 (by omega)
    have e5 : (c.kind == 5) = true := beq_iff_eq.2 hk5
    have HQB : Hid (reqB c = true) := Lib.hid (by unfold reqB; rw [HCH.out, e3, e4, e5]; rfl)
    clear hc hb1 hr1 hk3 hk4 hk5
    go_enter Try.func51, Try.ntmps51
    go_wp2_with (first | rw [hW1, hr] | ((with_reducible refine HCK.out.mono ?_); rintro e w2 ⟨rfl, hb2⟩; have HB2 := Lib.hid (HB1.out.trans (hb2.mono HB1.out.size)); have hr2 := (hb2.block r (row_lt HR1.out)).trans HR1.out; clear hb2 k0 k1 k2 k3 k4 k5 k6 k7; have k0 : w2.cell? ⟨r, 0, none⟩ = some (.int .i64 c.kind) := (cell_of_row w2 _ 0 _ _ _ hr2).trans rfl; clear hr2))
    go_ret
    exact ⟨by rw [HQB.out]; rfl, HB2.out⟩
  · have e3 : (c.kind == 3) = false := beq_eq_false_iff_ne.2 (by omega)
    have e4 : (c.kind == 4) = false := beq_eq_false_iff_ne.2 (by omega)
    have e5 : (c.kind == 5) = false := beq_eq_false_iff_ne.2 (by omega)
    have HQB : Hid (reqB c = false) := Lib.hid (by unfold reqB; rw [HCH.out, e3, e4, e5]; rfl)
    clear hc hb1 hr1 hk3 hk4 hk5
    go_enter Try.func51, Try.ntmps51
    go_wp2_with (first | rw [hW1, hr] | ((with_reducible refine HCK.out.mono ?_); rintro e w2 ⟨rfl, hb2⟩; have HB2 := Lib.hid (HB1.out.trans (hb2.mono HB1.out.size)); have hr2 := (hb2.block r (row_lt HR1.out)).trans HR1.out; clear hb2 k0 k1 k2 k3 k4 k5 k6 k7; have k0 : w2.cell? ⟨r, 0, none⟩ = some (.int .i64 c.kind) := (cell_of_row w2 _ 0 _ _ _ hr2).trans rfl; clear hr2))
    go_ret
    exact ⟨by rw [HQB.out]; rfl, HB2.out⟩
/-! ### Ask -/
theorem req_kind {c : Cmd} (h : reqB c = true) : c.kind = 3 ∨ c.kind = 4 ∨ c.kind = 5 := by
  unfold reqB at h
  simp only [Bool.and_eq_true, Bool.or_eq_true, beq_iff_eq] at h
  omega
theorem req_nodes {c : Cmd} (h : reqB c = true) : c.nodes = [] := by
  have hk := req_kind h
  unfold reqB at h
  exact La.req_nodes (Bool.and_eq_true _ _ ▸ h).2 hk
set_option maxRecDepth 100000 in
set_option maxHeartbeats 16000000 in
theorem rask_any (c : Cmd) (vn : Value) (w : World) (h : RwX q n s w S) (hc : IsCmd w (.agg #[.int .i64 c.kind, .int .i64 c.node, .int .i64 c.token, vn, .int .u64 c.boot, .int .u64 c.seq, .int .u64 c.serial, .int .u64 c.stamp]) c) (hw : c.wf) :
    Calls Try.prog 29 #[.pointer (some ⟨q, 0, none⟩), .agg #[.int .i64 c.kind, .int .i64 c.node, .int .i64 c.token, vn, .int .u64 c.boot, .int .u64 c.seq, .int .u64 c.serial, .int .u64 c.stamp]] w fun e w' => e = .returned (.int .i64 (askE s c)) ∧ Mc.Left (RwX q n (askV s c)) S w w' := by
  have HX := Lib.hid h
  obtain ⟨sent, vl, h⟩ := h
  obtain ⟨r, hr⟩ : ∃ z, w.heap.size = z := ⟨_, rfl⟩
  obtain ⟨W1, hW1⟩ : ∃ z, w.alloc (.cells #[.int .i64 c.kind, .int .i64 c.node, .int .i64 c.token, vn, .int .u64 c.boot, .int .u64 c.seq, .int .u64 c.serial, .int .u64 c.stamp] 58) = z := ⟨_, rfl⟩
  have hb1 : Below w.heap.size w W1 := by rw [← hW1]; exact (Below.refl _ _).alloc (Nat.le_refl _) _
  have hr1 : W1.heap[r]? = some (.cells #[.int .i64 c.kind, .int .i64 c.node, .int .i64 c.token, vn, .int .u64 c.boot, .int .u64 c.seq, .int .u64 c.serial, .int .u64 c.stamp] 58 (0, 0)) := by rw [← hW1, ← hr]; exact heap_alloc_new _ _
  have k0 : W1.cell? ⟨r, 0, none⟩ = some (.int .i64 c.kind) := (cell_of_row _ _ 0 _ _ _ hr1).trans rfl
  have k1 : W1.cell? ⟨r, 1, none⟩ = some (.int .i64 c.node) := (cell_of_row _ _ 1 _ _ _ hr1).trans rfl
  have k2 : W1.cell? ⟨r, 2, none⟩ = some (.int .i64 c.token) := (cell_of_row _ _ 2 _ _ _ hr1).trans rfl
  have k3 : W1.cell? ⟨r, 3, none⟩ = some (vn) := (cell_of_row _ _ 3 _ _ _ hr1).trans rfl
  have k4 : W1.cell? ⟨r, 4, none⟩ = some (.int .u64 c.boot) := (cell_of_row _ _ 4 _ _ _ hr1).trans rfl
  have k5 : W1.cell? ⟨r, 5, none⟩ = some (.int .u64 c.seq) := (cell_of_row _ _ 5 _ _ _ hr1).trans rfl
  have k6 : W1.cell? ⟨r, 6, none⟩ = some (.int .u64 c.serial) := (cell_of_row _ _ 6 _ _ _ hr1).trans rfl
  have k7 : W1.cell? ⟨r, 7, none⟩ = some (.int .u64 c.stamp) := (cell_of_row _ _ 7 _ _ _ hr1).trans rfl
  have HC1 := Lib.hid (hc.below hb1 (Nat.le_refl _))
  have HB1 := Lib.hid hb1
  have HR1 := Lib.hid hr1
  have HRE := Lib.hid hr
  have HQ := Lib.hid (request_any c vn W1 HC1.out hw)
  have H := Lib.hid h
  obtain ⟨qb, hqb⟩ : ∃ z, reqB c = z := ⟨_, rfl⟩
  rw [hqb] at HQ
  have HQB := Lib.hid hqb
  have HW := Lib.hid hw
  clear hb1 hr1 hc h hqb hw
  cases qb
  · have HE : Hid (askE s c = 40 ∧ askV s c = s) := Lib.hid (by unfold askE askV; rw [HQB.out]; exact ⟨rfl, rfl⟩)
    go_enter Try.func29, Try.ntmps29
    go_wp2_with (first | rw [hW1, hr] | ((with_reducible refine HQ.out.mono ?_); rintro e w2 ⟨rfl, hb2⟩; have HB2 := Lib.hid (HB1.out.trans (hb2.mono HB1.out.size)); clear hb2))
    go_ret
    exact ⟨by rw [HE.out.1]; rfl, by rw [HE.out.2]; exact Mc.Left.same (goodR q n s) HX.out HB2.out⟩
  by_cases hk : s.c.kind = 0
  · have hkb : (s.c.kind != 0) = false := by rw [hk]; rfl
    have HE : Hid (askE s c = 0 ∧ askV s c = { s with c := bare c, made := s.now }) := Lib.hid (by unfold askE askV; rw [HQB.out, hk]; exact ⟨rfl, rfl⟩)
    have HKC : Hid ((c.kind != 0) = true ∧ c.nodes = []) := Lib.hid ⟨bne_iff_ne.2 (by have := req_kind HQB.out; omega), req_nodes HQB.out⟩
    clear hk
    go_enter Try.func29, Try.ntmps29
    go_wp2_with (first | rw [hW1, hr])
    refine HQ.out.mono ?_
    rintro e w2 ⟨rfl, hb2⟩
    have hb02 := HB1.out.trans (hb2.mono HB1.out.size)
    have hr2 := (hb2.block r (row_lt HR1.out)).trans HR1.out
    have h2 := H.out.keep (w' := w2) (fun k hk => hb02.block k (H.out.low k hk)) hb02.size
    have hrq : r ≠ q := by have := row_lt H.out.row; omega
    clear k0 k1 k2 k3 k4 k5 k6 k7
    have e3 : w2.cell? ⟨q, 3, none⟩ = some (.bool false) := by rw [← hkb]; exact (cell_of_row _ _ 3 _ _ _ h2.row).trans rfl
    have f3 : w2.frozen? ⟨q, 3, none⟩ = false := frozen_of_row w2 _ _ _ _ h2.row
    obtain ⟨W3, hW3⟩ : ∃ z, w2.setCell ⟨q, 3, none⟩ (.bool true) = z := ⟨_, rfl⟩
    have hq3 : W3.heap[q]? = some (.cells (rwA n s.now sent true s.c vl) TX (0, 0)) := by rw [← hW3]; exact (heap_setCell_same w2 q 3 _ TX _ h2.row).trans rfl
    have hr3 : W3.heap[r]? = some (.cells #[.int .i64 c.kind, .int .i64 c.node, .int .i64 c.token, vn, .int .u64 c.boot, .int .u64 c.seq, .int .u64 c.serial, .int .u64 c.stamp] 58 (0, 0)) := by rw [← hW3]; exact (heap_setCell_other w2 ⟨q, 3, none⟩ r _ hrq).trans hr2
    have ho3 : Only (fun k => k = q) w W3 := by rw [← hW3]; exact (Below.only hb02 _).trans (Only.setCell w2 ⟨q, 3, none⟩ _ rfl)
    have k0 : W3.cell? ⟨r, 0, none⟩ = some (.int .i64 c.kind) := (cell_of_row _ _ 0 _ _ _ hr3).trans rfl
    have k1 : W3.cell? ⟨r, 1, none⟩ = some (.int .i64 c.node) := (cell_of_row _ _ 1 _ _ _ hr3).trans rfl
    have k2 : W3.cell? ⟨r, 2, none⟩ = some (.int .i64 c.token) := (cell_of_row _ _ 2 _ _ _ hr3).trans rfl
    have k3 : W3.cell? ⟨r, 3, none⟩ = some (vn) := (cell_of_row _ _ 3 _ _ _ hr3).trans rfl
    have k4 : W3.cell? ⟨r, 4, none⟩ = some (.int .u64 c.boot) := (cell_of_row _ _ 4 _ _ _ hr3).trans rfl
    have k5 : W3.cell? ⟨r, 5, none⟩ = some (.int .u64 c.seq) := (cell_of_row _ _ 5 _ _ _ hr3).trans rfl
    have k6 : W3.cell? ⟨r, 6, none⟩ = some (.int .u64 c.serial) := (cell_of_row _ _ 6 _ _ _ hr3).trans rfl
    have k7 : W3.cell? ⟨r, 7, none⟩ = some (.int .u64 c.stamp) := (cell_of_row _ _ 7 _ _ _ hr3).trans rfl
    have hc3 : IsCmd W3 (.agg #[.int .i64 c.kind, .int .i64 c.node, .int .i64 c.token, vn, .int .u64 c.boot, .int .u64 c.seq, .int .u64 c.serial, .int .u64 c.stamp]) c := La.cmd_any HC1.out HKC.out.2
    have HCPY := Lib.hid (rcopy_bare c vn W3 hc3 HKC.out.2)
    have HQ3 : Hid (W3.heap[q]? = some (.cells (rwA n s.now sent true s.c vl) TX (0, 0)) ∧ Only (fun k => k = q) w W3) := Lib.hid ⟨hq3, ho3⟩
    clear hb2 hb02 hr2 h2 hrq hq3 hr3 ho3 hc3
    go_wp2_with (first | rw [hW3])
    refine HCPY.out.mono ?_
    rintro e w4 ⟨rfl, hb4⟩
    have hq4 := (hb4.block q (row_lt HQ3.out.1)).trans HQ3.out.1
    have hth := rthereW hq4
    obtain ⟨W5, hW5⟩ : ∃ z, w4.setCells q 4 (cmA c).toList = z := ⟨_, rfl⟩
    have hq5 : W5.heap[q]? = some (.cells (rwA n s.now sent true (bare c) vl) TX (0, 0)) := by rw [← hW5]; exact rmid8 (bare c) hq4
    have ho5 : Only (fun k => k = q) w W5 := by rw [← hW5]; exact (HQ3.out.2.trans (Below.only hb4 _)).trans (rmidO c rfl)
    have l1 : W5.cell? ⟨q, 1, none⟩ = some (.int .i64 s.now) := (cell_of_row _ _ 1 _ _ _ hq5).trans rfl
    have l2 : W5.cell? ⟨q, 2, none⟩ = some (.int .i64 sent) := (cell_of_row _ _ 2 _ _ _ hq5).trans rfl
    have f2 : W5.frozen? ⟨q, 2, none⟩ = false := frozen_of_row W5 _ _ _ _ hq5
    obtain ⟨W6, hW6⟩ : ∃ z, W5.setCell ⟨q, 2, none⟩ (.int .i64 s.now) = z := ⟨_, rfl⟩
    have hq6 : W6.heap[q]? = some (.cells (rwA n s.now s.now true (bare c) vl) TX (0, 0)) := by rw [← hW6]; exact (heap_setCell_same W5 q 2 _ TX _ hq5).trans rfl
    have ho6 : Only (fun k => k = q) w W6 := by rw [← hW6]; exact ho5.trans (Only.setCell W5 ⟨q, 2, none⟩ _ rfl)
    have hlq : ∀ k, vl.ownBlock = some k → k ≠ q := own_ty H.out.l H.out.row (by decide)
    have HF : Hid (RwX q n { s with c := bare c, made := s.now } W6 S ∧ Only S w W6) := Lib.hid ⟨⟨s.now, vl, by
      have e : (({ s with c := bare c, made := s.now } : Wa).c.kind != 0) = true := HKC.out.1
      exact ⟨by rw [e]; exact hq6, H.out.sq, fun _ => rfl, H.out.srt, H.out.wf, own_keep H.out.l (fun k hk hl => only_at ho6 hl (hlq k hk)), H.out.hs, fun k hk => Nat.lt_of_lt_of_le (H.out.low k hk) ho6.2.2.2.1⟩⟩, ho6.mono (fun k hk => hk ▸ H.out.sq)⟩
    clear hb4 hq4 hq5 ho5 hq6 ho6 hlq k0 k1 k2 k3 k4 k5 k6 k7
    go_wp2_with (first | (refine wpList_store_mid rfl 58 (.tmp 19) (.tmp 17) rfl q 4 (cmA c) rfl rfl hth (by kernel_rfl) (cmA_one c) ?_; rw [hW5]) | rw [hW6])
    go_ret
    exact ⟨by rw [HE.out.1]; rfl, by rw [HE.out.2]; exact Mc.Left.mk (goodR q n _) HF.out.1 HF.out.2⟩
  · have hkb : (s.c.kind != 0) = true := bne_iff_ne.2 hk
    have HE : Hid (askE s c = 3 ∧ askV s c = s) := Lib.hid (by unfold askE askV; rw [HQB.out, if_pos rfl, if_neg hk, if_neg (fun h => hk h.2)]; exact ⟨rfl, rfl⟩)
    clear hk
    go_enter Try.func29, Try.ntmps29
    go_wp2_with (first | rw [hW1, hr] | ((with_reducible refine HQ.out.mono ?_); rintro e w2 ⟨rfl, hb2⟩; have HB2 := Lib.hid (HB1.out.trans (hb2.mono HB1.out.size)); clear hb2; have e3 : w2.cell? ⟨q, 3, none⟩ = some (.bool true) := by rw [← hkb]; exact (cell_of_row _ _ 3 _ _ _ (H.out.keep (w' := w2) (fun k hk => HB2.out.block k (H.out.low k hk)) HB2.out.size).row).trans rfl))
    go_ret
    exact ⟨by rw [HE.out.1]; rfl, by rw [HE.out.2]; exact Mc.Left.same (goodR q n s) HX.out HB2.out⟩
end Lt
end Go.Proofs.Ytgbblegcjladaaa
