/- The reader of shot: rows of Held and of Last. No condition. -/
import Derived.Test.YtpdhndldfmhaeaaEdB
import Derived.Deep.MidRow
namespace Go.Proofs.Ytpdhndldfmhaeaa
open Go.ChangeShapes Go.WideShapes Go.ChangeAt Go.RowKit Go.Deep
set_option linter.unusedVariables false
set_option maxRecDepth 100000
namespace Sc
open Cm Nm Sh
theorem RdS.lt {w0 w : World} {g : Nat} {st : Pst} (h : RdS w0 g st w) : g < w.heap.size := by
  obtain ⟨a, cap, h1, -⟩ := h
  exact row_lt h1
theorem RdS.block {w0 w w' : World} {g : Nat} {st : Pst} (h : RdS w0 g st w) (hb : w'.heap[g]? = w.heap[g]?) : RdS w0 g st w' := by
  obtain ⟨a, cap, h1, h2⟩ := h
  exact ⟨a, cap, hb.trans h1, h2⟩
theorem only_row (w : World) (b : Nat) (cs : Array Value) : Only (· = b) w (w.setRow b cs) :=
  ⟨rfl, rfl, rfl, by simp [World.setRow], fun k hk hn => setRow_other w _ _ _ hn⟩
/-- what is stored into blocks that are new is not seen -/
theorem only_new {w a b c : World} {g q : Nat} (h1 : Only (· = g) w a) (h2 : Only (· = g) a b) (h3 : Only (· = q) b c) (hq : w.heap.size ≤ q) : Only (· = g) w c := by
  have h12 := h1.trans h2
  refine ⟨h3.1.trans h12.1, h3.2.1.trans h12.2.1, h3.2.2.1.trans h12.2.2.1, Nat.le_trans h12.2.2.2.1 h3.2.2.2.1, fun k hk hn => ?_⟩
  exact (h3.2.2.2.2 k (Nat.lt_of_lt_of_le hk h12.2.2.2.1) (by omega)).trans (h12.2.2.2.2 k hk hn)
def RowE (w0 : World) (g : Nat) (st : Pst) (v : Value) (w : World) (e : Ending) (w' : World) : Prop := e = .returned v ∧ RdS w0 g st w' ∧ Only (· = g) w w'
set_option maxHeartbeats 4000000 in
theorem held_any (w0 : World) (g : Nat) (st0 : Pst) (w : World) (hr : RdS w0 g st0 w) (hb : Below w0.heap.size w0 w) (hg : w0.heap.size ≤ g) :
    Calls Try.prog 18 #[.pointer (some ⟨g, 0, none⟩)] w (RowE w0 g (heldS st0).2 (.agg (heldC (heldS st0).1).toArray) w) := by
  have hgl : g < w.heap.size := hr.lt
  rcases hp0 : smallS st0 with ⟨n0, st1⟩
  rcases hp1 : smallS st1 with ⟨n1, st2⟩
  rcases hp2 : wideS st2 with ⟨n2, st3⟩
  rcases hp3 : wideS st3 with ⟨n3, st4⟩
  rcases hp4 : wideS st4 with ⟨n4, st5⟩
  have hsp : heldS st0 = (⟨n0, n1, n2, n3, n4⟩, st5) := by
    unfold heldS
    simp only [hp0, hp1, hp2, hp3, hp4]
  rw [hsp]
  have HP0 := Lib.hid hp0
  have HP1 := Lib.hid hp1
  have HP2 := Lib.hid hp2
  have HP3 := Lib.hid hp3
  have HP4 := Lib.hid hp4
  obtain ⟨W0, hW0⟩ : ∃ q, (w.alloc (.cells #[.int .i64 0, .int .i64 0, .int .u64 0, .int .u64 0, .int .u64 0] 51)).alloc (.cells #[.int .i64 0, .int .i64 0, .int .u64 0, .int .u64 0, .int .u64 0] 51) = q := ⟨_, rfl⟩
  have hbo : Below w.heap.size w W0 := by rw [← hW0]; exact ((Below.refl _ _).alloc (Nat.le_refl _) _).alloc (by simp) _
  have HQ0 : Hid (W0.heap[w.heap.size]? = some (.cells #[.int .i64 0, .int .i64 0, .int .u64 0, .int .u64 0, .int .u64 0] 51 (0, 0))) := Lib.hid (by rw [← hW0]; exact heap_alloc2_old _ _ _)
  have HX0 : Hid (W0.heap[w.heap.size + 1]? = some (.cells #[.int .i64 0, .int .i64 0, .int .u64 0, .int .u64 0, .int .u64 0] 51 (0, 0))) := Lib.hid (by rw [← hW0]; exact heap_alloc2_new _ _ _)
  have HO0 : Hid (Only (· = g) w W0) := Lib.hid (Below.only hbo _)
  have HR0 : Hid (RdS w0 g st0 W0) := Lib.hid (hr.block (hbo.block g hgl))
  have HBW := Lib.hid hb
  have HG := Lib.hid hg
  have hne : g ≠ w.heap.size := by omega
  have hne2 : g ≠ w.heap.size + 1 := by omega
  have HNE := Lib.hid hne
  have HNE2 := Lib.hid hne2
  clear hr hb hbo hsp hp0 hp1 hp2 hp3 hp4 hne hne2 hg
  go_enter Try.func18, Try.ntmps18
  have hn0 := small_any' w0 g st0 W0 HR0.out (HO0.out.below HBW.out HBW.out.size (fun q hq => hq ▸ HG.out))
  rw [HP0.out] at hn0
  have HN0 := Lib.hid hn0
  clear hn0
  go_wp2_with fail
  refine HN0.out.mono ?_
  rintro E u0 ⟨rfl, hr0, ho0, hs0⟩
  have hx0 := (ho0.2.2.2.2 _ (row_lt HX0.out) (fun e => HNE2.out e.symm)).trans HX0.out
  have HQu0 := Lib.hid ((ho0.2.2.2.2 _ (row_lt HQ0.out) (fun e => HNE.out e.symm)).trans HQ0.out)
  have c0 : u0.cell? ⟨w.heap.size + 1, 0, none⟩ = some (.int .i64 0) := (cell_of_row _ _ 0 _ _ _ hx0).trans rfl
  have f0 : u0.frozen? ⟨w.heap.size + 1, 0, none⟩ = false := frozen_of_row _ _ 0 _ _ hx0
  obtain ⟨W1, hW1⟩ : ∃ q, u0.setCell ⟨w.heap.size + 1, 0, none⟩ (.int .i64 n0) = q := ⟨_, rfl⟩
  have hoc0 : Only (· = w.heap.size + 1) u0 W1 := by rw [← hW1]; exact Only.setCell _ _ _ rfl
  have HX1 : Hid (W1.heap[w.heap.size + 1]? = some (.cells #[.int .i64 n0, .int .i64 0, .int .u64 0, .int .u64 0, .int .u64 0] 51 (0, 0))) := Lib.hid (by rw [← hW1, heap_setCell_same _ _ 0 _ _ _ hx0]; rfl)
  have HQ1 := Lib.hid ((hoc0.2.2.2.2 _ (row_lt HQu0.out) (by omega)).trans HQu0.out)
  have HR1 : Hid (RdS w0 g st1 W1) := Lib.hid (hr0.only hoc0 HNE2.out)
  have HO1 : Hid (Only (· = g) w W1) := Lib.hid (only_new HO0.out ho0 hoc0 (by omega))
  clear hr0 ho0 hs0 hx0 hoc0 HQu0 HN0 HR0 HX0 HQ0 HO0 hW0 HP0
  have hn1 := small_any' w0 g st1 W1 HR1.out (HO1.out.below HBW.out HBW.out.size (fun q hq => hq ▸ HG.out))
  rw [HP1.out] at hn1
  have HN1 := Lib.hid hn1
  clear hn1
  go_wp2_with fail
  refine HN1.out.mono ?_
  rintro E u1 ⟨rfl, hr1, ho1, hs1⟩
  have hx1 := (ho1.2.2.2.2 _ (row_lt HX1.out) (fun e => HNE2.out e.symm)).trans HX1.out
  have HQu1 := Lib.hid ((ho1.2.2.2.2 _ (row_lt HQ1.out) (fun e => HNE.out e.symm)).trans HQ1.out)
  have c1 : u1.cell? ⟨w.heap.size + 1, 1, none⟩ = some (.int .i64 0) := (cell_of_row _ _ 1 _ _ _ hx1).trans rfl
  have f1 : u1.frozen? ⟨w.heap.size + 1, 1, none⟩ = false := frozen_of_row _ _ 1 _ _ hx1
  obtain ⟨W2, hW2⟩ : ∃ q, u1.setCell ⟨w.heap.size + 1, 1, none⟩ (.int .i64 n1) = q := ⟨_, rfl⟩
  have hoc1 : Only (· = w.heap.size + 1) u1 W2 := by rw [← hW2]; exact Only.setCell _ _ _ rfl
  have HX2 : Hid (W2.heap[w.heap.size + 1]? = some (.cells #[.int .i64 n0, .int .i64 n1, .int .u64 0, .int .u64 0, .int .u64 0] 51 (0, 0))) := Lib.hid (by rw [← hW2, heap_setCell_same _ _ 1 _ _ _ hx1]; rfl)
  have HQ2 := Lib.hid ((hoc1.2.2.2.2 _ (row_lt HQu1.out) (by omega)).trans HQu1.out)
  have HR2 : Hid (RdS w0 g st2 W2) := Lib.hid (hr1.only hoc1 HNE2.out)
  have HO2 : Hid (Only (· = g) w W2) := Lib.hid (only_new HO1.out ho1 hoc1 (by omega))
  clear hr1 ho1 hs1 hx1 hoc1 HQu1 HN1 HR1 HX1 HQ1 HO1 hW1 HP1
  have hn2 := wide_any w0 g st2 W2 HR2.out (HO2.out.below HBW.out HBW.out.size (fun q hq => hq ▸ HG.out))
  rw [HP2.out] at hn2
  have HN2 := Lib.hid hn2
  clear hn2
  go_wp2_with fail
  refine HN2.out.mono ?_
  rintro E u2 ⟨rfl, hr2, ho2, hs2⟩
  have hx2 := (ho2.2.2.2.2 _ (row_lt HX2.out) (fun e => HNE2.out e.symm)).trans HX2.out
  have HQu2 := Lib.hid ((ho2.2.2.2.2 _ (row_lt HQ2.out) (fun e => HNE.out e.symm)).trans HQ2.out)
  have c2 : u2.cell? ⟨w.heap.size + 1, 2, none⟩ = some (.int .u64 0) := (cell_of_row _ _ 2 _ _ _ hx2).trans rfl
  have f2 : u2.frozen? ⟨w.heap.size + 1, 2, none⟩ = false := frozen_of_row _ _ 2 _ _ hx2
  obtain ⟨W3, hW3⟩ : ∃ q, u2.setCell ⟨w.heap.size + 1, 2, none⟩ (.int .u64 n2) = q := ⟨_, rfl⟩
  have hoc2 : Only (· = w.heap.size + 1) u2 W3 := by rw [← hW3]; exact Only.setCell _ _ _ rfl
  have HX3 : Hid (W3.heap[w.heap.size + 1]? = some (.cells #[.int .i64 n0, .int .i64 n1, .int .u64 n2, .int .u64 0, .int .u64 0] 51 (0, 0))) := Lib.hid (by rw [← hW3, heap_setCell_same _ _ 2 _ _ _ hx2]; rfl)
  have HQ3 := Lib.hid ((hoc2.2.2.2.2 _ (row_lt HQu2.out) (by omega)).trans HQu2.out)
  have HR3 : Hid (RdS w0 g st3 W3) := Lib.hid (hr2.only hoc2 HNE2.out)
  have HO3 : Hid (Only (· = g) w W3) := Lib.hid (only_new HO2.out ho2 hoc2 (by omega))
  clear hr2 ho2 hs2 hx2 hoc2 HQu2 HN2 HR2 HX2 HQ2 HO2 hW2 HP2
  have hn3 := wide_any w0 g st3 W3 HR3.out (HO3.out.below HBW.out HBW.out.size (fun q hq => hq ▸ HG.out))
  rw [HP3.out] at hn3
  have HN3 := Lib.hid hn3
  clear hn3
  go_wp2_with fail
  refine HN3.out.mono ?_
  rintro E u3 ⟨rfl, hr3, ho3, hs3⟩
  have hx3 := (ho3.2.2.2.2 _ (row_lt HX3.out) (fun e => HNE2.out e.symm)).trans HX3.out
  have HQu3 := Lib.hid ((ho3.2.2.2.2 _ (row_lt HQ3.out) (fun e => HNE.out e.symm)).trans HQ3.out)
  have c3 : u3.cell? ⟨w.heap.size + 1, 3, none⟩ = some (.int .u64 0) := (cell_of_row _ _ 3 _ _ _ hx3).trans rfl
  have f3 : u3.frozen? ⟨w.heap.size + 1, 3, none⟩ = false := frozen_of_row _ _ 3 _ _ hx3
  obtain ⟨W4, hW4⟩ : ∃ q, u3.setCell ⟨w.heap.size + 1, 3, none⟩ (.int .u64 n3) = q := ⟨_, rfl⟩
  have hoc3 : Only (· = w.heap.size + 1) u3 W4 := by rw [← hW4]; exact Only.setCell _ _ _ rfl
  have HX4 : Hid (W4.heap[w.heap.size + 1]? = some (.cells #[.int .i64 n0, .int .i64 n1, .int .u64 n2, .int .u64 n3, .int .u64 0] 51 (0, 0))) := Lib.hid (by rw [← hW4, heap_setCell_same _ _ 3 _ _ _ hx3]; rfl)
  have HQ4 := Lib.hid ((hoc3.2.2.2.2 _ (row_lt HQu3.out) (by omega)).trans HQu3.out)
  have HR4 : Hid (RdS w0 g st4 W4) := Lib.hid (hr3.only hoc3 HNE2.out)
  have HO4 : Hid (Only (· = g) w W4) := Lib.hid (only_new HO3.out ho3 hoc3 (by omega))
  clear hr3 ho3 hs3 hx3 hoc3 HQu3 HN3 HR3 HX3 HQ3 HO3 hW3 HP3
  have hn4 := wide_any w0 g st4 W4 HR4.out (HO4.out.below HBW.out HBW.out.size (fun q hq => hq ▸ HG.out))
  rw [HP4.out] at hn4
  have HN4 := Lib.hid hn4
  clear hn4
  go_wp2_with fail
  refine HN4.out.mono ?_
  rintro E u4 ⟨rfl, hr4, ho4, hs4⟩
  have hx4 := (ho4.2.2.2.2 _ (row_lt HX4.out) (fun e => HNE2.out e.symm)).trans HX4.out
  have HQu4 := Lib.hid ((ho4.2.2.2.2 _ (row_lt HQ4.out) (fun e => HNE.out e.symm)).trans HQ4.out)
  have c4 : u4.cell? ⟨w.heap.size + 1, 4, none⟩ = some (.int .u64 0) := (cell_of_row _ _ 4 _ _ _ hx4).trans rfl
  have f4 : u4.frozen? ⟨w.heap.size + 1, 4, none⟩ = false := frozen_of_row _ _ 4 _ _ hx4
  obtain ⟨W5, hW5⟩ : ∃ q, u4.setCell ⟨w.heap.size + 1, 4, none⟩ (.int .u64 n4) = q := ⟨_, rfl⟩
  have hoc4 : Only (· = w.heap.size + 1) u4 W5 := by rw [← hW5]; exact Only.setCell _ _ _ rfl
  have HX5 : Hid (W5.heap[w.heap.size + 1]? = some (.cells #[.int .i64 n0, .int .i64 n1, .int .u64 n2, .int .u64 n3, .int .u64 n4] 51 (0, 0))) := Lib.hid (by rw [← hW5, heap_setCell_same _ _ 4 _ _ _ hx4]; rfl)
  have HQ5 := Lib.hid ((hoc4.2.2.2.2 _ (row_lt HQu4.out) (by omega)).trans HQu4.out)
  have HR5 : Hid (RdS w0 g st5 W5) := Lib.hid (hr4.only hoc4 HNE2.out)
  have HO5 : Hid (Only (· = g) w W5) := Lib.hid (only_new HO4.out ho4 hoc4 (by omega))
  clear hr4 ho4 hs4 hx4 hoc4 HQu4 HN4 HR4 HX4 HQ4 HO4 hW4 HP4
  have hone : (#[.int .i64 n0, .int .i64 n1, .int .u64 n2, .int .u64 n3, .int .u64 n4] : Array Value).all (·.oneCell') = true := by simp [Value.oneCell']
  obtain ⟨WZ, hWZ⟩ : ∃ q, W5.setRow w.heap.size #[.int .i64 n0, .int .i64 n1, .int .u64 n2, .int .u64 n3, .int .u64 n4] = q := ⟨_, rfl⟩
  have HQZ : Hid (WZ.heap[w.heap.size]? = some (.cells #[.int .i64 n0, .int .i64 n1, .int .u64 n2, .int .u64 n3, .int .u64 n4] 51 (0, 0))) := Lib.hid (by rw [← hWZ]; exact setRow_heap _ _ _ _ _ _ HQ5.out)
  have hoz : Only (· = w.heap.size) W5 WZ := by rw [← hWZ]; exact only_row _ _ _
  have HRZ : Hid (RdS w0 g st5 WZ) := Lib.hid (HR5.out.only hoz HNE.out)
  have HOZ : Hid (Only (· = g) w WZ) := Lib.hid (only_new HO5.out (Only.refl _ _) hoz (by omega))
  clear hoz
  go_wp2_with (first
    | (with_reducible refine wpList_load_row rfl 51 (.tmp 3) rfl (w.heap.size + 1) rfl 51 #[.int .i64 n0, .int .i64 n1, .int .u64 n2, .int .u64 n3, .int .u64 n4] (0, 0) _ HX5.out Try.underlying51 rfl (by kernel_rfl) ?_)
    | (with_reducible refine wpList_store_row rfl 51 (.tmp 2) (.tmp 19) rfl w.heap.size #[.int .i64 n0, .int .i64 n1, .int .u64 n2, .int .u64 n3, .int .u64 n4] rfl rfl 51 _ HQ5.out (by kernel_rfl) rfl hone ?_; rw [hWZ]; clear hWZ))
  refine bodyPost_ret (v := .agg #[.int .i64 n0, .int .i64 n1, .int .u64 n2, .int .u64 n3, .int .u64 n4]) (results_cell_row rfl _ _ w.heap.size 51 _ (0, 0) _ rfl HQZ.out Try.underlying51 rfl (by kernel_rfl)) rfl ?_
  exact ⟨rfl, HRZ.out, HOZ.out⟩
set_option maxHeartbeats 4000000 in
theorem last_any (w0 : World) (g : Nat) (st0 : Pst) (w : World) (hr : RdS w0 g st0 w) (hb : Below w0.heap.size w0 w) (hg : w0.heap.size ≤ g) :
    Calls Try.prog 19 #[.pointer (some ⟨g, 0, none⟩)] w (RowE w0 g (lastS st0).2 (.agg (lastC (lastS st0).1).toArray) w) := by
  have hgl : g < w.heap.size := hr.lt
  rcases hp0 : smallS st0 with ⟨n0, st1⟩
  rcases hp1 : wideS st1 with ⟨n1, st2⟩
  rcases hp2 : wideS st2 with ⟨n2, st3⟩
  rcases hp3 : smallS st3 with ⟨n3, st4⟩
  rcases hp4 : smallS st4 with ⟨n4, st5⟩
  rcases hp5 : wideS st5 with ⟨n5, st6⟩
  have hsp : lastS st0 = (⟨n0, n1, n2, n3, n4, n5⟩, st6) := by
    unfold lastS
    simp only [hp0, hp1, hp2, hp3, hp4, hp5]
  rw [hsp]
  have HP0 := Lib.hid hp0
  have HP1 := Lib.hid hp1
  have HP2 := Lib.hid hp2
  have HP3 := Lib.hid hp3
  have HP4 := Lib.hid hp4
  have HP5 := Lib.hid hp5
  obtain ⟨W0, hW0⟩ : ∃ q, (w.alloc (.cells #[.int .i64 0, .int .u64 0, .int .u64 0, .int .i64 0, .int .i64 0, .int .u64 0] 56)).alloc (.cells #[.int .i64 0, .int .u64 0, .int .u64 0, .int .i64 0, .int .i64 0, .int .u64 0] 56) = q := ⟨_, rfl⟩
  have hbo : Below w.heap.size w W0 := by rw [← hW0]; exact ((Below.refl _ _).alloc (Nat.le_refl _) _).alloc (by simp) _
  have HQ0 : Hid (W0.heap[w.heap.size]? = some (.cells #[.int .i64 0, .int .u64 0, .int .u64 0, .int .i64 0, .int .i64 0, .int .u64 0] 56 (0, 0))) := Lib.hid (by rw [← hW0]; exact heap_alloc2_old _ _ _)
  have HX0 : Hid (W0.heap[w.heap.size + 1]? = some (.cells #[.int .i64 0, .int .u64 0, .int .u64 0, .int .i64 0, .int .i64 0, .int .u64 0] 56 (0, 0))) := Lib.hid (by rw [← hW0]; exact heap_alloc2_new _ _ _)
  have HO0 : Hid (Only (· = g) w W0) := Lib.hid (Below.only hbo _)
  have HR0 : Hid (RdS w0 g st0 W0) := Lib.hid (hr.block (hbo.block g hgl))
  have HBW := Lib.hid hb
  have HG := Lib.hid hg
  have hne : g ≠ w.heap.size := by omega
  have hne2 : g ≠ w.heap.size + 1 := by omega
  have HNE := Lib.hid hne
  have HNE2 := Lib.hid hne2
  clear hr hb hbo hsp hp0 hp1 hp2 hp3 hp4 hp5 hne hne2 hg
  go_enter Try.func19, Try.ntmps19
  have hn0 := small_any' w0 g st0 W0 HR0.out (HO0.out.below HBW.out HBW.out.size (fun q hq => hq ▸ HG.out))
  rw [HP0.out] at hn0
  have HN0 := Lib.hid hn0
  clear hn0
  go_wp2_with fail
  refine HN0.out.mono ?_
  rintro E u0 ⟨rfl, hr0, ho0, hs0⟩
  have hx0 := (ho0.2.2.2.2 _ (row_lt HX0.out) (fun e => HNE2.out e.symm)).trans HX0.out
  have HQu0 := Lib.hid ((ho0.2.2.2.2 _ (row_lt HQ0.out) (fun e => HNE.out e.symm)).trans HQ0.out)
  have c0 : u0.cell? ⟨w.heap.size + 1, 0, none⟩ = some (.int .i64 0) := (cell_of_row _ _ 0 _ _ _ hx0).trans rfl
  have f0 : u0.frozen? ⟨w.heap.size + 1, 0, none⟩ = false := frozen_of_row _ _ 0 _ _ hx0
  obtain ⟨W1, hW1⟩ : ∃ q, u0.setCell ⟨w.heap.size + 1, 0, none⟩ (.int .i64 n0) = q := ⟨_, rfl⟩
  have hoc0 : Only (· = w.heap.size + 1) u0 W1 := by rw [← hW1]; exact Only.setCell _ _ _ rfl
  have HX1 : Hid (W1.heap[w.heap.size + 1]? = some (.cells #[.int .i64 n0, .int .u64 0, .int .u64 0, .int .i64 0, .int .i64 0, .int .u64 0] 56 (0, 0))) := Lib.hid (by rw [← hW1, heap_setCell_same _ _ 0 _ _ _ hx0]; rfl)
  have HQ1 := Lib.hid ((hoc0.2.2.2.2 _ (row_lt HQu0.out) (by omega)).trans HQu0.out)
  have HR1 : Hid (RdS w0 g st1 W1) := Lib.hid (hr0.only hoc0 HNE2.out)
  have HO1 : Hid (Only (· = g) w W1) := Lib.hid (only_new HO0.out ho0 hoc0 (by omega))
  clear hr0 ho0 hs0 hx0 hoc0 HQu0 HN0 HR0 HX0 HQ0 HO0 hW0 HP0
  have hn1 := wide_any w0 g st1 W1 HR1.out (HO1.out.below HBW.out HBW.out.size (fun q hq => hq ▸ HG.out))
  rw [HP1.out] at hn1
  have HN1 := Lib.hid hn1
  clear hn1
  go_wp2_with fail
  refine HN1.out.mono ?_
  rintro E u1 ⟨rfl, hr1, ho1, hs1⟩
  have hx1 := (ho1.2.2.2.2 _ (row_lt HX1.out) (fun e => HNE2.out e.symm)).trans HX1.out
  have HQu1 := Lib.hid ((ho1.2.2.2.2 _ (row_lt HQ1.out) (fun e => HNE.out e.symm)).trans HQ1.out)
  have c1 : u1.cell? ⟨w.heap.size + 1, 1, none⟩ = some (.int .u64 0) := (cell_of_row _ _ 1 _ _ _ hx1).trans rfl
  have f1 : u1.frozen? ⟨w.heap.size + 1, 1, none⟩ = false := frozen_of_row _ _ 1 _ _ hx1
  obtain ⟨W2, hW2⟩ : ∃ q, u1.setCell ⟨w.heap.size + 1, 1, none⟩ (.int .u64 n1) = q := ⟨_, rfl⟩
  have hoc1 : Only (· = w.heap.size + 1) u1 W2 := by rw [← hW2]; exact Only.setCell _ _ _ rfl
  have HX2 : Hid (W2.heap[w.heap.size + 1]? = some (.cells #[.int .i64 n0, .int .u64 n1, .int .u64 0, .int .i64 0, .int .i64 0, .int .u64 0] 56 (0, 0))) := Lib.hid (by rw [← hW2, heap_setCell_same _ _ 1 _ _ _ hx1]; rfl)
  have HQ2 := Lib.hid ((hoc1.2.2.2.2 _ (row_lt HQu1.out) (by omega)).trans HQu1.out)
  have HR2 : Hid (RdS w0 g st2 W2) := Lib.hid (hr1.only hoc1 HNE2.out)
  have HO2 : Hid (Only (· = g) w W2) := Lib.hid (only_new HO1.out ho1 hoc1 (by omega))
  clear hr1 ho1 hs1 hx1 hoc1 HQu1 HN1 HR1 HX1 HQ1 HO1 hW1 HP1
  have hn2 := wide_any w0 g st2 W2 HR2.out (HO2.out.below HBW.out HBW.out.size (fun q hq => hq ▸ HG.out))
  rw [HP2.out] at hn2
  have HN2 := Lib.hid hn2
  clear hn2
  go_wp2_with fail
  refine HN2.out.mono ?_
  rintro E u2 ⟨rfl, hr2, ho2, hs2⟩
  have hx2 := (ho2.2.2.2.2 _ (row_lt HX2.out) (fun e => HNE2.out e.symm)).trans HX2.out
  have HQu2 := Lib.hid ((ho2.2.2.2.2 _ (row_lt HQ2.out) (fun e => HNE.out e.symm)).trans HQ2.out)
  have c2 : u2.cell? ⟨w.heap.size + 1, 2, none⟩ = some (.int .u64 0) := (cell_of_row _ _ 2 _ _ _ hx2).trans rfl
  have f2 : u2.frozen? ⟨w.heap.size + 1, 2, none⟩ = false := frozen_of_row _ _ 2 _ _ hx2
  obtain ⟨W3, hW3⟩ : ∃ q, u2.setCell ⟨w.heap.size + 1, 2, none⟩ (.int .u64 n2) = q := ⟨_, rfl⟩
  have hoc2 : Only (· = w.heap.size + 1) u2 W3 := by rw [← hW3]; exact Only.setCell _ _ _ rfl
  have HX3 : Hid (W3.heap[w.heap.size + 1]? = some (.cells #[.int .i64 n0, .int .u64 n1, .int .u64 n2, .int .i64 0, .int .i64 0, .int .u64 0] 56 (0, 0))) := Lib.hid (by rw [← hW3, heap_setCell_same _ _ 2 _ _ _ hx2]; rfl)
  have HQ3 := Lib.hid ((hoc2.2.2.2.2 _ (row_lt HQu2.out) (by omega)).trans HQu2.out)
  have HR3 : Hid (RdS w0 g st3 W3) := Lib.hid (hr2.only hoc2 HNE2.out)
  have HO3 : Hid (Only (· = g) w W3) := Lib.hid (only_new HO2.out ho2 hoc2 (by omega))
  clear hr2 ho2 hs2 hx2 hoc2 HQu2 HN2 HR2 HX2 HQ2 HO2 hW2 HP2
  have hn3 := small_any' w0 g st3 W3 HR3.out (HO3.out.below HBW.out HBW.out.size (fun q hq => hq ▸ HG.out))
  rw [HP3.out] at hn3
  have HN3 := Lib.hid hn3
  clear hn3
  go_wp2_with fail
  refine HN3.out.mono ?_
  rintro E u3 ⟨rfl, hr3, ho3, hs3⟩
  have hx3 := (ho3.2.2.2.2 _ (row_lt HX3.out) (fun e => HNE2.out e.symm)).trans HX3.out
  have HQu3 := Lib.hid ((ho3.2.2.2.2 _ (row_lt HQ3.out) (fun e => HNE.out e.symm)).trans HQ3.out)
  have c3 : u3.cell? ⟨w.heap.size + 1, 3, none⟩ = some (.int .i64 0) := (cell_of_row _ _ 3 _ _ _ hx3).trans rfl
  have f3 : u3.frozen? ⟨w.heap.size + 1, 3, none⟩ = false := frozen_of_row _ _ 3 _ _ hx3
  obtain ⟨W4, hW4⟩ : ∃ q, u3.setCell ⟨w.heap.size + 1, 3, none⟩ (.int .i64 n3) = q := ⟨_, rfl⟩
  have hoc3 : Only (· = w.heap.size + 1) u3 W4 := by rw [← hW4]; exact Only.setCell _ _ _ rfl
  have HX4 : Hid (W4.heap[w.heap.size + 1]? = some (.cells #[.int .i64 n0, .int .u64 n1, .int .u64 n2, .int .i64 n3, .int .i64 0, .int .u64 0] 56 (0, 0))) := Lib.hid (by rw [← hW4, heap_setCell_same _ _ 3 _ _ _ hx3]; rfl)
  have HQ4 := Lib.hid ((hoc3.2.2.2.2 _ (row_lt HQu3.out) (by omega)).trans HQu3.out)
  have HR4 : Hid (RdS w0 g st4 W4) := Lib.hid (hr3.only hoc3 HNE2.out)
  have HO4 : Hid (Only (· = g) w W4) := Lib.hid (only_new HO3.out ho3 hoc3 (by omega))
  clear hr3 ho3 hs3 hx3 hoc3 HQu3 HN3 HR3 HX3 HQ3 HO3 hW3 HP3
  have hn4 := small_any' w0 g st4 W4 HR4.out (HO4.out.below HBW.out HBW.out.size (fun q hq => hq ▸ HG.out))
  rw [HP4.out] at hn4
  have HN4 := Lib.hid hn4
  clear hn4
  go_wp2_with fail
  refine HN4.out.mono ?_
  rintro E u4 ⟨rfl, hr4, ho4, hs4⟩
  have hx4 := (ho4.2.2.2.2 _ (row_lt HX4.out) (fun e => HNE2.out e.symm)).trans HX4.out
  have HQu4 := Lib.hid ((ho4.2.2.2.2 _ (row_lt HQ4.out) (fun e => HNE.out e.symm)).trans HQ4.out)
  have c4 : u4.cell? ⟨w.heap.size + 1, 4, none⟩ = some (.int .i64 0) := (cell_of_row _ _ 4 _ _ _ hx4).trans rfl
  have f4 : u4.frozen? ⟨w.heap.size + 1, 4, none⟩ = false := frozen_of_row _ _ 4 _ _ hx4
  obtain ⟨W5, hW5⟩ : ∃ q, u4.setCell ⟨w.heap.size + 1, 4, none⟩ (.int .i64 n4) = q := ⟨_, rfl⟩
  have hoc4 : Only (· = w.heap.size + 1) u4 W5 := by rw [← hW5]; exact Only.setCell _ _ _ rfl
  have HX5 : Hid (W5.heap[w.heap.size + 1]? = some (.cells #[.int .i64 n0, .int .u64 n1, .int .u64 n2, .int .i64 n3, .int .i64 n4, .int .u64 0] 56 (0, 0))) := Lib.hid (by rw [← hW5, heap_setCell_same _ _ 4 _ _ _ hx4]; rfl)
  have HQ5 := Lib.hid ((hoc4.2.2.2.2 _ (row_lt HQu4.out) (by omega)).trans HQu4.out)
  have HR5 : Hid (RdS w0 g st5 W5) := Lib.hid (hr4.only hoc4 HNE2.out)
  have HO5 : Hid (Only (· = g) w W5) := Lib.hid (only_new HO4.out ho4 hoc4 (by omega))
  clear hr4 ho4 hs4 hx4 hoc4 HQu4 HN4 HR4 HX4 HQ4 HO4 hW4 HP4
  have hn5 := wide_any w0 g st5 W5 HR5.out (HO5.out.below HBW.out HBW.out.size (fun q hq => hq ▸ HG.out))
  rw [HP5.out] at hn5
  have HN5 := Lib.hid hn5
  clear hn5
  go_wp2_with fail
  refine HN5.out.mono ?_
  rintro E u5 ⟨rfl, hr5, ho5, hs5⟩
  have hx5 := (ho5.2.2.2.2 _ (row_lt HX5.out) (fun e => HNE2.out e.symm)).trans HX5.out
  have HQu5 := Lib.hid ((ho5.2.2.2.2 _ (row_lt HQ5.out) (fun e => HNE.out e.symm)).trans HQ5.out)
  have c5 : u5.cell? ⟨w.heap.size + 1, 5, none⟩ = some (.int .u64 0) := (cell_of_row _ _ 5 _ _ _ hx5).trans rfl
  have f5 : u5.frozen? ⟨w.heap.size + 1, 5, none⟩ = false := frozen_of_row _ _ 5 _ _ hx5
  obtain ⟨W6, hW6⟩ : ∃ q, u5.setCell ⟨w.heap.size + 1, 5, none⟩ (.int .u64 n5) = q := ⟨_, rfl⟩
  have hoc5 : Only (· = w.heap.size + 1) u5 W6 := by rw [← hW6]; exact Only.setCell _ _ _ rfl
  have HX6 : Hid (W6.heap[w.heap.size + 1]? = some (.cells #[.int .i64 n0, .int .u64 n1, .int .u64 n2, .int .i64 n3, .int .i64 n4, .int .u64 n5] 56 (0, 0))) := Lib.hid (by rw [← hW6, heap_setCell_same _ _ 5 _ _ _ hx5]; rfl)
  have HQ6 := Lib.hid ((hoc5.2.2.2.2 _ (row_lt HQu5.out) (by omega)).trans HQu5.out)
  have HR6 : Hid (RdS w0 g st6 W6) := Lib.hid (hr5.only hoc5 HNE2.out)
  have HO6 : Hid (Only (· = g) w W6) := Lib.hid (only_new HO5.out ho5 hoc5 (by omega))
  clear hr5 ho5 hs5 hx5 hoc5 HQu5 HN5 HR5 HX5 HQ5 HO5 hW5 HP5
  have hone : (#[.int .i64 n0, .int .u64 n1, .int .u64 n2, .int .i64 n3, .int .i64 n4, .int .u64 n5] : Array Value).all (·.oneCell') = true := by simp [Value.oneCell']
  obtain ⟨WZ, hWZ⟩ : ∃ q, W6.setRow w.heap.size #[.int .i64 n0, .int .u64 n1, .int .u64 n2, .int .i64 n3, .int .i64 n4, .int .u64 n5] = q := ⟨_, rfl⟩
  have HQZ : Hid (WZ.heap[w.heap.size]? = some (.cells #[.int .i64 n0, .int .u64 n1, .int .u64 n2, .int .i64 n3, .int .i64 n4, .int .u64 n5] 56 (0, 0))) := Lib.hid (by rw [← hWZ]; exact setRow_heap _ _ _ _ _ _ HQ6.out)
  have hoz : Only (· = w.heap.size) W6 WZ := by rw [← hWZ]; exact only_row _ _ _
  have HRZ : Hid (RdS w0 g st6 WZ) := Lib.hid (HR6.out.only hoz HNE.out)
  have HOZ : Hid (Only (· = g) w WZ) := Lib.hid (only_new HO6.out (Only.refl _ _) hoz (by omega))
  clear hoz
  go_wp2_with (first
    | (with_reducible refine wpList_load_row rfl 56 (.tmp 3) rfl (w.heap.size + 1) rfl 56 #[.int .i64 n0, .int .u64 n1, .int .u64 n2, .int .i64 n3, .int .i64 n4, .int .u64 n5] (0, 0) _ HX6.out Try.underlying56 rfl (by kernel_rfl) ?_)
    | (with_reducible refine wpList_store_row rfl 56 (.tmp 2) (.tmp 25) rfl w.heap.size #[.int .i64 n0, .int .u64 n1, .int .u64 n2, .int .i64 n3, .int .i64 n4, .int .u64 n5] rfl rfl 56 _ HQ6.out (by kernel_rfl) rfl hone ?_; rw [hWZ]; clear hWZ))
  refine bodyPost_ret (v := .agg #[.int .i64 n0, .int .u64 n1, .int .u64 n2, .int .i64 n3, .int .i64 n4, .int .u64 n5]) (results_cell_row rfl _ _ w.heap.size 56 _ (0, 0) _ rfl HQZ.out Try.underlying56 rfl (by kernel_rfl)) rfl ?_
  exact ⟨rfl, HRZ.out, HOZ.out⟩
end Sc
end Go.Proofs.Ytpdhndldfmhaeaa
