/- The law HardReads returns true for whatever bytes: hard.Decode reads them as a record, or refuses them, as the document's own Decode does. No condition. -/
import Derived.Test.YtngnhegmealokaaBse
import Derived.Test.YtngnhegmealokaaRkN
import Derived.Test.YtngnhegmealokaaCmR
import Derived.Deep.MidRow
namespace Go.Proofs.Ytngnhegmealokaa.hardReads
open Go.ChangeShapes Go.WideShapes Go.ChangeAt Go.RowKit
open Go.ChangeMaps (open_string shut_string)
set_option linter.unusedVariables false

theorem own : ownKnob Try.prog.godebug = none := by kernel_rfl
theorem laidOut : laidOutB Try.prog = true := by kernel_rfl

open Rk Rc Hd Nv Go.Deep
theorem ex_dec : Rk.decR (Cm.sbs (strOfNums [1, 1, 3])) = (Rk.exR, 0) := by
  have h := Rk.back Rk.exR_wf Rk.exR_fits
  rw [Rk.exR_enc] at h
  exact h
theorem ex_str : (⟨#[1, 1, 3]⟩ : ByteArray) = strOfNums [1, 1, 3] := by
  apply ByteArray.ext
  apply Array.toList_inj.1
  rw [strOfNums_data]
  rfl
set_option maxHeartbeats 4000000 in
theorem walk (s0 : ByteArray) (w : World) (w0 : s0.size ≤ 140737488351232) :
    Calls Try.prog 4 #[.string s0] w fun e w' => e = .returned (.bool true) ∧ Below w.heap.size w w' := by
  have HBW : Hid (Below w.heap.size w w) := Lib.hid (Below.refl _ _)
  have HDX := Lib.hid ex_dec
  have HSX := Lib.hid ex_str
  clear w0
  go_enter Try.func4, Try.ntmps4
  go_wp2_with fail
  refine (Rk.dec_any _ _).mono ?_
  rintro e w2 ⟨r, z, v1, v2, v3, v4, rfl, hd, hr, hb⟩
  obtain ⟨v1', v2', v3', v4', ev, ⟨k1, k2, k3, k4⟩, -⟩ := id hr
  obtain ⟨rfl, rfl, rfl, rfl⟩ : v1' = v1 ∧ v2' = v2 ∧ v3' = v3 ∧ v4' = v4 := by
    simp only [Value.agg.injEq, Array.mk.injEq, List.cons.injEq, true_and, and_true] at ev
    exact ⟨ev.1.symm, ev.2.1.symm, ev.2.2.1.symm, ev.2.2.2.symm⟩
  obtain ⟨a1, ap1, rfl, -⟩ := id k1
  obtain ⟨a2, ap2, rfl, -⟩ := id k2
  obtain ⟨a3, ap3, rfl, -⟩ := id k3
  obtain ⟨a4, ap4, rfl, -⟩ := id k4
  have hs3 : (w2.alloc (.cells zR 35)).heap[w2.heap.size]? = some (.cells zR 35 (0, 0)) := heap_alloc_new _ _
  obtain ⟨W3, hW3⟩ : ∃ q, (w2.alloc (.cells zR 35)).setRow w2.heap.size (rArr r (.slice a1 r.ent.cmd.nodes.length ap1) (.slice a2 r.shot.nodes.length ap2) (.slice a3 r.shot.led.held.length ap3) (.slice a4 r.shot.led.last.length ap4)) = q := ⟨_, rfl⟩
  have hc3 : Below w2.heap.size w2 W3 := by rw [← hW3]; exact Ld.below_row ((Below.refl _ _).alloc (Nat.le_refl _) _) (Nat.le_refl _) _
  have HX3 : Hid (W3.heap[w2.heap.size]? = some (.cells (rArr r (.slice a1 r.ent.cmd.nodes.length ap1) (.slice a2 r.shot.nodes.length ap2) (.slice a3 r.shot.led.held.length ap3) (.slice a4 r.shot.led.last.length ap4)) 35 (0, 0))) := Lib.hid (by rw [← hW3]; exact setRow_heap _ _ _ _ _ _ hs3)
  have HI3 := Lib.hid (hr.below hc3 (Nat.le_refl _))
  have hbw := hb.trans (hc3.mono hb.size)
  have HB3 := Lib.hid hbw
  have HD := Lib.hid hd
  clear hr hb hbw k1 k2 k3 k4 ev hd hc3
  go_wp2_with (first | (with_reducible refine wpList_store_row rfl 35 (.tmp 3) (.tmp 12) rfl w2.heap.size (rArr r (.slice a1 r.ent.cmd.nodes.length ap1) (.slice a2 r.shot.nodes.length ap2) (.slice a3 r.shot.led.held.length ap3) (.slice a4 r.shot.led.last.length ap4)) rfl rfl 35 _ hs3 (by kernel_rfl) rfl (rArr_one _ _ _ _ _ _ _ _ _ _ _ _ _) ?_; rw [hW3]; clear hW3 hs3) | fail)
  refine (Rk.rdec_any _ _).mono ?_
  rintro e w4 ⟨r', z', v1, v2, v3, v4, rfl, hd, hr, hb⟩
  rw [HD.out] at hd
  simp only [Prod.mk.injEq] at hd
  obtain ⟨rfl, rfl⟩ := hd
  obtain ⟨v1', v2', v3', v4', ev, ⟨k1, k2, k3, k4⟩, -⟩ := id hr
  obtain ⟨rfl, rfl, rfl, rfl⟩ : v1' = v1 ∧ v2' = v2 ∧ v3' = v3 ∧ v4' = v4 := by
    simp only [Value.agg.injEq, Array.mk.injEq, List.cons.injEq, true_and, and_true] at ev
    exact ⟨ev.1.symm, ev.2.1.symm, ev.2.2.1.symm, ev.2.2.2.symm⟩
  obtain ⟨b1, bp1, rfl, -⟩ := id k1
  obtain ⟨b2, bp2, rfl, -⟩ := id k2
  obtain ⟨b3, bp3, rfl, -⟩ := id k3
  obtain ⟨b4, bp4, rfl, -⟩ := id k4
  have hs5 : (w4.alloc (.cells zR 35)).heap[w4.heap.size]? = some (.cells zR 35 (0, 0)) := heap_alloc_new _ _
  obtain ⟨W5, hW5⟩ : ∃ q, (w4.alloc (.cells zR 35)).setRow w4.heap.size (rArr r (.slice b1 r.ent.cmd.nodes.length bp1) (.slice b2 r.shot.nodes.length bp2) (.slice b3 r.shot.led.held.length bp3) (.slice b4 r.shot.led.last.length bp4)) = q := ⟨_, rfl⟩
  have hc5 : Below w4.heap.size w4 W5 := by rw [← hW5]; exact Ld.below_row ((Below.refl _ _).alloc (Nat.le_refl _) _) (Nat.le_refl _) _
  have HX5 : Hid (W5.heap[w4.heap.size]? = some (.cells (rArr r (.slice b1 r.ent.cmd.nodes.length bp1) (.slice b2 r.shot.nodes.length bp2) (.slice b3 r.shot.led.held.length bp3) (.slice b4 r.shot.led.last.length bp4)) 35 (0, 0))) := Lib.hid (by rw [← hW5]; exact setRow_heap _ _ _ _ _ _ hs5)
  have HI5 := Lib.hid (hr.below hc5 (Nat.le_refl _))
  have hbw := hb.trans (hc5.mono hb.size)
  have HB5 := Lib.hid (HB3.out.trans (hbw.mono HB3.out.size))
  have HX35 := Lib.hid ((hbw.block _ (Rk.row_ltx HX3.out)).trans HX3.out)
  have HI35 := Lib.hid (HI3.out.below hbw (Nat.le_refl _))
  clear hr hb hbw k1 k2 k3 k4 ev hc5
  go_wp2_with (first | (with_reducible refine wpList_store_row rfl 35 (.tmp 5) (.tmp 17) rfl w4.heap.size (rArr r (.slice b1 r.ent.cmd.nodes.length bp1) (.slice b2 r.shot.nodes.length bp2) (.slice b3 r.shot.led.held.length bp3) (.slice b4 r.shot.led.last.length bp4)) rfl rfl 35 _ hs5 (by kernel_rfl) rfl (rArr_one _ _ _ _ _ _ _ _ _ _ _ _ _) ?_; rw [hW5]; clear hW5 hs5) | fail)
  rw [HSX.out]
  refine (Rk.dec_any _ _).mono ?_
  rintro e w6 ⟨x, zx, v1, v2, v3, v4, rfl, hd, hr, hb⟩
  rw [HDX.out] at hd
  simp only [Prod.mk.injEq] at hd
  obtain ⟨rfl, rfl⟩ := hd
  obtain ⟨v1', v2', v3', v4', ev, ⟨k1, k2, k3, k4⟩, -⟩ := id hr
  obtain ⟨rfl, rfl, rfl, rfl⟩ : v1' = v1 ∧ v2' = v2 ∧ v3' = v3 ∧ v4' = v4 := by
    simp only [Value.agg.injEq, Array.mk.injEq, List.cons.injEq, true_and, and_true] at ev
    exact ⟨ev.1.symm, ev.2.1.symm, ev.2.2.1.symm, ev.2.2.2.symm⟩
  obtain ⟨c1, cp1, rfl, -⟩ := id k1
  obtain ⟨c2, cp2, rfl, -⟩ := id k2
  obtain ⟨c3, cp3, rfl, -⟩ := id k3
  obtain ⟨c4, cp4, rfl, -⟩ := id k4
  have hs7 : (w6.alloc (.cells zR 35)).heap[w6.heap.size]? = some (.cells zR 35 (0, 0)) := heap_alloc_new _ _
  obtain ⟨W7, hW7⟩ : ∃ q, (w6.alloc (.cells zR 35)).setRow w6.heap.size (rArr Rk.exR (.slice c1 Rk.exR.ent.cmd.nodes.length cp1) (.slice c2 Rk.exR.shot.nodes.length cp2) (.slice c3 Rk.exR.shot.led.held.length cp3) (.slice c4 Rk.exR.shot.led.last.length cp4)) = q := ⟨_, rfl⟩
  have hc7 : Below w6.heap.size w6 W7 := by rw [← hW7]; exact Ld.below_row ((Below.refl _ _).alloc (Nat.le_refl _) _) (Nat.le_refl _) _
  have HX7 : Hid (W7.heap[w6.heap.size]? = some (.cells (rArr Rk.exR (.slice c1 Rk.exR.ent.cmd.nodes.length cp1) (.slice c2 Rk.exR.shot.nodes.length cp2) (.slice c3 Rk.exR.shot.led.held.length cp3) (.slice c4 Rk.exR.shot.led.last.length cp4)) 35 (0, 0))) := Lib.hid (by rw [← hW7]; exact setRow_heap _ _ _ _ _ _ hs7)
  have HI7 := Lib.hid (hr.below hc7 (Nat.le_refl _))
  have hbw := hb.trans (hc7.mono hb.size)
  have HB7 := Lib.hid (HB5.out.trans (hbw.mono HB5.out.size))
  have HX37 := Lib.hid ((hbw.block _ (Rk.row_ltx HX35.out)).trans HX35.out)
  have HI37 := Lib.hid (HI35.out.below hbw (Nat.le_refl _))
  have HX57 := Lib.hid ((hbw.block _ (Rk.row_ltx HX5.out)).trans HX5.out)
  have HI57 := Lib.hid (HI5.out.below hbw (Nat.le_refl _))
  have cc : W7.cell? ⟨w6.heap.size, 2, none⟩ = some (.int .u64 3) := (cell_of_row _ _ 2 _ _ _ HX7.out).trans rfl
  clear hr hb hbw k1 k2 k3 k4 ev hc7
  go_wp2_with (first
    | (with_reducible refine wpList_store_row rfl 35 (.tmp 7) (.tmp 21) rfl w6.heap.size (rArr Rk.exR (.slice c1 Rk.exR.ent.cmd.nodes.length cp1) (.slice c2 Rk.exR.shot.nodes.length cp2) (.slice c3 Rk.exR.shot.led.held.length cp3) (.slice c4 Rk.exR.shot.led.last.length cp4)) rfl rfl 35 _ hs7 (by kernel_rfl) rfl (rArr_one _ _ _ _ _ _ _ _ _ _ _ _ _) ?_; rw [hW7]; clear hW7 hs7)
    | (with_reducible refine wpList_load_rowG rfl 35 (.tmp 3) rfl w2.heap.size rfl 35 (rArr r (.slice a1 r.ent.cmd.nodes.length ap1) (.slice a2 r.shot.nodes.length ap2) (.slice a3 r.shot.led.held.length ap3) (.slice a4 r.shot.led.last.length ap4)) (0, 0) _ HX37.out Try.underlying35 rfl (by kernel_rfl) ?_)
    | (with_reducible refine wpList_load_rowG rfl 35 (.tmp 5) rfl w4.heap.size rfl 35 (rArr r (.slice b1 r.ent.cmd.nodes.length bp1) (.slice b2 r.shot.nodes.length bp2) (.slice b3 r.shot.led.held.length bp3) (.slice b4 r.shot.led.last.length bp4)) (0, 0) _ HX57.out Try.underlying35 rfl (by kernel_rfl) ?_))
  refine (Rc.rec_same r _ _ _ HI37.out HI57.out).mono ?_
  rintro e w8 ⟨rfl, hb8⟩
  have HB8 := Lib.hid (HB7.out.trans (hb8.mono HB7.out.size))
  clear hb8
  go_wp2
  go_ret
  exact ⟨rfl, HB8.out⟩

set_option maxRecDepth 100000 in
theorem contract (H : Type) (enc : TypeId × Value → H) (W : World) (base : Nat) (args : Array Value) (ds gs : List (DataW H)) (before : List MemPlace)
    (hval0 : ∀ (j : Nat) t v, Try.f4.params[j]? = some t → args[j]? = some v → Value.okWide Try.prog W .any base t v)
    (hW : DataW.Whole enc Try.prog Try.f4.params.toList Rows.hardReadsSpec.vars false W args.toList ds gs before)
    (hsz0 : (DataW.weightsEach Try.prog (Try.f4.params.toList ++ Rows.hardReadsSpec.plain.varTypes Try.prog) (ds ++ gs)).all (· ≤ reachBytes) = true) :
    Calls Try.prog 4 args W fun e W' => ∃ v, e = .returned v ∧ Rows.hardReadsSpec.post enc Try.prog Try.f4 false true false false W args v W' := by
  have hval : ∀ (j : Nat) t v, Try.f4.params[j]? = some t → args[j]? = some v → Value.okWide Try.prog W .any base t v := hval0
  have hW' := hW
  obtain ⟨p, q, hA0, hV, rfl, hfz, hnd⟩ := hW
  have hA : DataW.TrodAll enc Try.prog W 0 (fun _ => true) true Try.f4.params.toList args.toList ds p := hA0
  rw [Try.params4] at hA hval
  have hsz := hsz0
  rw [Try.params4] at hsz
  obtain ⟨v0, vs0, d0, ds0, p0, q0, hargs, rfl, rfl, h0, r0⟩ := trodAll_cons hA
  obtain ⟨rfl, rfl, rfl⟩ := trodAll_nil r0
  obtain rfl : args = #[v0] := by cases args; simp_all
  obtain ⟨rfl, rfl⟩ := trodVars_none hV
  clear hA0 hval0
  have k0 := h0
  have lt0 : ∀ x ∈ p0, x.block < W.heap.size := by obtain ⟨m, hm⟩ := k0; exact DataW.trod_lt m _ _ _ hm
  obtain ⟨s0, rfl, rfl, -, m0⟩ := open_string Try.underlying9 (hval 0 9 v0 rfl rfl) h0
  have w0 : s0.size ≤ 140737488351232 := str_sized (sized_string hsz (j := 0) rfl rfl)
  refine (walk s0 W w0).mono fun e W' ⟨he, bel⟩ => ?_
  subst he
  exact ⟨_, rfl, _, _, _, [], _, [], hW', trodAll_mk1 (shut_bool Try.underlying4 _), (trodAll_cons_mk (Below.trod laidOut (by kernel_rfl) (of_decide_eq_true (by kernel_rfl)) k0 bel lt0) trodAll_mk0), rfl, bel.frame _, fun h => by cases h⟩

set_option maxRecDepth 100000 in
theorem lifted (os : Os) (started : os.Started) (H : Type) (enc : TypeId × Value → H) :
    ReturnsInHanded {} Try.checked os 4 .any (Rows.hardReadsSpec.pre6 enc Try.prog Try.f4 Rows.hardReadsRow.domain false) (Rows.hardReadsSpec.post enc Try.prog Try.f4 false true false false) := by
  refine returnsInHanded_of_change_sized (C := Try.checked) own started (by kernel_rfl) Try.func4
    (ChangeSpec.witness6 (enc := enc) (C := Try.checked) false ⟨#[], #[.string ByteArray.empty], []⟩ 8 (by kernel_rfl) (by kernel_rfl) (by kernel_rfl) (by kernel_rfl)) ?_
  intro W base args ds gs before hval0 hW hcnd hsz _
  exact contract H enc W base args ds gs before hval0 hW hsz

theorem proved : Rows.HardReadsSaid :=
  OpenClaim.holds_of_wide 4 Try.f4 rfl rfl rfl rfl rfl rfl rfl ⟨rfl, rfl, rfl, rfl, rfl⟩ rfl rfl rfl rfl rfl (by kernel_rfl) Try.func4 (by kernel_rfl)
    (of_decide_eq_true (by kernel_rfl)) (by unfold Func.isWrapper; first | (rw [if_pos (by decide +kernel)]; kernel_rfl) | (rw [if_neg (by decide +kernel)]; exact ⟨rfl, rfl⟩))
    (fun os started H enc _ => lifted os started H enc)
end Go.Proofs.Ytngnhegmealokaa.hardReads
