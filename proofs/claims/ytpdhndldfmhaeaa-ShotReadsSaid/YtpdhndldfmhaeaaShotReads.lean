/- The law ShotReads returns true for whatever bytes: shot.Decode reads them as a snapshot, or refuses them, as the document's own answer does, and leaves them as they were. No condition. -/
import Derived.Test.YtpdhndldfmhaeaaBse
import Derived.Test.YtpdhndldfmhaeaaEdM
import Derived.Test.YtpdhndldfmhaeaaEdL
import Derived.Test.YtpdhndldfmhaeaaSmS
import Derived.Lib.SlBytesConst
import Derived.Deep.MidRow
namespace Go.Proofs.Ytpdhndldfmhaeaa.shotReads
open Go.ChangeShapes Go.WideShapes Go.ChangeAt Go.RowKit
open Go.ChangeMaps (open_string shut_string)
set_option linter.unusedVariables false

theorem own : ownKnob Try.prog.godebug = none := by kernel_rfl
theorem laidOut : laidOutB Try.prog = true := by kernel_rfl

open Sc Cm Nm Sh Go.Deep
theorem dec_ex : decV [83, 0, 0, 1, 2, 1, 1, 1, 3, 1, 2, 1, 1, 0, 0] = (exS, 0) := by rw [← exS_enc]; exact dec_enc ⟨by decide, by decide, by decide, by decide, by simp [exS], by simp [exS]⟩ exS_ok
set_option maxHeartbeats 4000000 in
theorem walk (v0 : Value) (z0 : List Int) (w : World) (w0 : Sl .u8 w v0 z0) (b0 : z0.length * 1 ≤ 140737488351232) :
    Calls Try.prog 3 #[v0] w fun e w' => e = .returned (.bool true) ∧ Below w.heap.size w w' := by
  have hb : z0.length ≤ 140737488355328 := by omega
  have h0 : ([] : List Int).length + z0.length ≤ 140737488355328 := by simp; omega
  have HDX := Lib.hid dec_ex
  clear b0
  go_enter Try.func3, Try.ntmps3
  go_wp2_with (first
    | (at_builtin; refine app8 rfl (.const (.slice none 0 0)) _ rfl w.heap.size _ _ rfl (Own.nil _ _) _ _ rfl w0 h0 (Nat.le_refl _) ?_; intro v2 u2 hown2 hb2; rw [List.nil_append] at hown2; have hs2 := hown2.sl w0.wf; have hw2 := w0.below hb2 (Nat.le_refl _)))
  have HS2 := Lib.hid (fun w' (hb : Below u2.heap.size u2 w') => hs2.below hb (Nat.le_refl _))
  have HW2 := Lib.hid (fun w' (hb : Below u2.heap.size u2 w') => hw2.below hb (Nat.le_refl _))
  have HBW := Lib.hid hb2
  have HB2 : Hid (Below u2.heap.size u2 u2) := Lib.hid (Below.refl _ _)
  obtain ⟨av2, cv2, rfl, -⟩ := id hs2
  obtain ⟨av0, cv0, rfl, -⟩ := id hw2
  clear hs2 hw2 hown2 w0 hb2 hb h0
  refine (dec_any z0 _ _ (HS2.out _ (Below.refl _ _))).mono ?_
  rintro e w3 ⟨s3, z3, vn, vh, vl, rfl, hd, o1, o2, o3, hw, hb⟩
  obtain ⟨d1, dm1, dq1, rfl⟩ := own_formx o1
  obtain ⟨d2, dm2, dq2, rfl⟩ := own_formx o2
  obtain ⟨d3, dm3, dq3, rfl⟩ := own_formx o3
  have hs3 : (w3.alloc (.cells zSA 30)).heap[w3.heap.size]? = some (.cells zSA 30 (0, 0)) := heap_alloc_new _ _
  obtain ⟨W3, hW3⟩ : ∃ q, (w3.alloc (.cells zSA 30)).setRow w3.heap.size (sArr s3 (.slice d1 dm1 dq1) (.slice d2 dm2 dq2) (.slice d3 dm3 dq3)) = q := ⟨_, rfl⟩
  have hc3 : Below w3.heap.size w3 W3 := by rw [← hW3]; exact Ld.below_row ((Below.refl _ _).alloc (Nat.le_refl _) _) (Nat.le_refl _) _
  have HX3 : Hid (W3.heap[w3.heap.size]? = some (.cells (sArr s3 (.slice d1 dm1 dq1) (.slice d2 dm2 dq2) (.slice d3 dm3 dq3)) 30 (0, 0))) := Lib.hid (by rw [← hW3]; exact setRow_heap _ _ _ _ _ _ hs3)
  have hbw3 := hb.trans (hc3.mono hb.size)
  have HB3 := Lib.hid (HB2.out.trans (hbw3.mono HB2.out.size))
  have HI3 := Lib.hid ((DecE.shot (zs := []) o1 o2 o3 hw).below hc3 (Nat.le_refl _))
  have HD3 := Lib.hid hd
  clear hb hbw3 hc3 o1 o2 o3 hw hd
  go_wp2_with (first | (with_reducible refine wpList_store_row rfl 30 (.tmp 4) (.tmp 15) rfl w3.heap.size (sArr s3 (.slice d1 dm1 dq1) (.slice d2 dm2 dq2) (.slice d3 dm3 dq3)) rfl rfl 30 _ hs3 (by kernel_rfl) rfl (sArr_one _ _ _ _ _ _ _ _ _ _) ?_; rw [hW3]; clear hW3 hs3) | fail)
  refine (rdec_any z0 _ _ (HW2.out _ HB3.out)).mono ?_
  rintro e w5 ⟨s5, z5, vn, vh, vl, rfl, hd, o1, o2, o3, hw, hb⟩
  rw [HD3.out] at hd
  simp only [Prod.mk.injEq] at hd
  obtain ⟨rfl, rfl⟩ := hd
  obtain ⟨f1, fm1, fq1, rfl⟩ := own_formx o1
  obtain ⟨f2, fm2, fq2, rfl⟩ := own_formx o2
  obtain ⟨f3, fm3, fq3, rfl⟩ := own_formx o3
  have hs5 : (w5.alloc (.cells zSA 30)).heap[w5.heap.size]? = some (.cells zSA 30 (0, 0)) := heap_alloc_new _ _
  obtain ⟨W5, hW5⟩ : ∃ q, (w5.alloc (.cells zSA 30)).setRow w5.heap.size (sArr s3 (.slice f1 fm1 fq1) (.slice f2 fm2 fq2) (.slice f3 fm3 fq3)) = q := ⟨_, rfl⟩
  have hc5 : Below w5.heap.size w5 W5 := by rw [← hW5]; exact Ld.below_row ((Below.refl _ _).alloc (Nat.le_refl _) _) (Nat.le_refl _) _
  have HX5 : Hid (W5.heap[w5.heap.size]? = some (.cells (sArr s3 (.slice f1 fm1 fq1) (.slice f2 fm2 fq2) (.slice f3 fm3 fq3)) 30 (0, 0))) := Lib.hid (by rw [← hW5]; exact setRow_heap _ _ _ _ _ _ hs5)
  have hbw5 := hb.trans (hc5.mono hb.size)
  have HB5 := Lib.hid (HB3.out.trans (hbw5.mono HB3.out.size))
  have HI5 := Lib.hid ((DecE.shot (zs := []) o1 o2 o3 hw).below hc5 (Nat.le_refl _))
  have HX35 := Lib.hid ((hbw5.block _ (row_lt HX3.out)).trans HX3.out)
  have HI35 := Lib.hid (HI3.out.below hbw5 (Nat.le_refl _))
  clear hb hbw5 hc5 o1 o2 o3 hw
  have kc := Lib.run_convert_bytes_const (P := Try.prog) W5 22 5 #[Value.int .u8 83, Value.int .u8 0, Value.int .u8 0, Value.int .u8 1, Value.int .u8 2, Value.int .u8 1, Value.int .u8 1, Value.int .u8 1, Value.int .u8 3, Value.int .u8 1, Value.int .u8 2, Value.int .u8 1, Value.int .u8 1, Value.int .u8 0, Value.int .u8 0] 15 15 Try.underlying22 Try.underlying5
  go_wp2_with (first | (with_reducible refine wpList_store_row rfl 30 (.tmp 6) (.tmp 20) rfl w5.heap.size (sArr s3 (.slice f1 fm1 fq1) (.slice f2 fm2 fq2) (.slice f3 fm3 fq3)) rfl rfl 30 _ hs5 (by kernel_rfl) rfl (sArr_one _ _ _ _ _ _ _ _ _ _) ?_; rw [hW5]; clear hW5 hs5) | fail)
  clear kc
  have hl6 := Sl.newAt (k := .u8) (e := 5) (fr := (15, 16)) (n := 15) (c := 15) W5 W5.heap.size rfl #[Value.int .u8 83, Value.int .u8 0, Value.int .u8 0, Value.int .u8 1, Value.int .u8 2, Value.int .u8 1, Value.int .u8 1, Value.int .u8 1, Value.int .u8 3, Value.int .u8 1, Value.int .u8 2, Value.int .u8 1, Value.int .u8 1, Value.int .u8 0, Value.int .u8 0] [83, 0, 0, 1, 2, 1, 1, 1, 3, 1, 2, 1, 1, 0, 0] rfl rfl (by decide) (by decide) (by decide)
  obtain ⟨w6, hw6⟩ : ∃ q, W5.alloc (.cells #[Value.int .u8 83, Value.int .u8 0, Value.int .u8 0, Value.int .u8 1, Value.int .u8 2, Value.int .u8 1, Value.int .u8 1, Value.int .u8 1, Value.int .u8 3, Value.int .u8 1, Value.int .u8 2, Value.int .u8 1, Value.int .u8 1, Value.int .u8 0, Value.int .u8 0] 5 (15, 16)) = q := ⟨_, rfl⟩
  have hb6 : Below W5.heap.size W5 w6 := by rw [← hw6]; exact (Below.refl _ _).alloc (Nat.le_refl _) _
  rw [hw6] at hl6
  have HX36 := Lib.hid ((hb6.block _ (row_lt HX35.out)).trans HX35.out)
  have HI36 := Lib.hid (HI35.out.below hb6 (Nat.le_refl _))
  have HX56 := Lib.hid ((hb6.block _ (row_lt HX5.out)).trans HX5.out)
  have HI56 := Lib.hid (HI5.out.below hb6 (Nat.le_refl _))
  have HB6 := Lib.hid (HB5.out.trans (hb6.mono HB5.out.size))
  refine Calls.mono (P := Try.prog) (by rw [show W5.alloc (.cells #[Value.int .u8 83, Value.int .u8 0, Value.int .u8 0, Value.int .u8 1, Value.int .u8 2, Value.int .u8 1, Value.int .u8 1, Value.int .u8 1, Value.int .u8 3, Value.int .u8 1, Value.int .u8 2, Value.int .u8 1, Value.int .u8 1, Value.int .u8 0, Value.int .u8 0] 5 (15, 16)) = w6 from hw6]; exact dec_any [83, 0, 0, 1, 2, 1, 1, 1, 3, 1, 2, 1, 1, 0, 0] _ _ hl6) ?_
  rintro e w7 ⟨s7, z7, vn, vh, vl, rfl, hd, o1, o2, o3, hw, hb⟩
  rw [HDX.out] at hd
  simp only [Prod.mk.injEq] at hd
  obtain ⟨rfl, rfl⟩ := hd
  obtain ⟨g1, gm1, gq1, rfl⟩ := own_formx o1
  obtain ⟨g2, gm2, gq2, rfl⟩ := own_formx o2
  obtain ⟨g3, gm3, gq3, rfl⟩ := own_formx o3
  have hs7 : (w7.alloc (.cells zSA 30)).heap[w7.heap.size]? = some (.cells zSA 30 (0, 0)) := heap_alloc_new _ _
  obtain ⟨W7, hW7⟩ : ∃ q, (w7.alloc (.cells zSA 30)).setRow w7.heap.size (sArr exS (.slice g1 gm1 gq1) (.slice g2 gm2 gq2) (.slice g3 gm3 gq3)) = q := ⟨_, rfl⟩
  have hc7 : Below w7.heap.size w7 W7 := by rw [← hW7]; exact Ld.below_row ((Below.refl _ _).alloc (Nat.le_refl _) _) (Nat.le_refl _) _
  have HX7 : Hid (W7.heap[w7.heap.size]? = some (.cells (sArr exS (.slice g1 gm1 gq1) (.slice g2 gm2 gq2) (.slice g3 gm3 gq3)) 30 (0, 0))) := Lib.hid (by rw [← hW7]; exact setRow_heap _ _ _ _ _ _ hs7)
  have hbw7 := hb.trans (hc7.mono hb.size)
  have HB7 := Lib.hid (HB6.out.trans (hbw7.mono HB6.out.size))
  have HI7 := Lib.hid ((DecE.shot (zs := []) o1 o2 o3 hw).below hc7 (Nat.le_refl _))
  have HX37 := Lib.hid ((hbw7.block _ (row_lt HX36.out)).trans HX36.out)
  have HI37 := Lib.hid (HI36.out.below hbw7 (Nat.le_refl _))
  have HX57 := Lib.hid ((hbw7.block _ (row_lt HX56.out)).trans HX56.out)
  have HI57 := Lib.hid (HI56.out.below hbw7 (Nat.le_refl _))
  have cc : W7.cell? ⟨w7.heap.size, 3, none⟩ = some (.int .i64 2) := (cell_of_row _ _ 3 _ _ _ HX7.out).trans rfl
  clear hb hbw7 hc7 o1 o2 o3 hw hl6 hw6 hb6
  have HQ1 := Lib.hid (fun w' (hb : Below u2.heap.size u2 w') => run_str (HS2.out w' hb))
  have HQ2 := Lib.hid (fun w' (hb : Below u2.heap.size u2 w') => run_str (HW2.out w' hb))
  go_wp2_with (first
    | (with_reducible refine wpList_store_row rfl 30 (.tmp 8) (.tmp 26) rfl w7.heap.size (sArr exS (.slice g1 gm1 gq1) (.slice g2 gm2 gq2) (.slice g3 gm3 gq3)) rfl rfl 30 _ hs7 (by kernel_rfl) rfl (sArr_one _ _ _ _ _ _ _ _ _ _) ?_; rw [hW7]; clear hW7 hs7)
    | (with_reducible refine wpList_load_rowG rfl 30 (.tmp 4) rfl w3.heap.size rfl 30 (sArr s3 (.slice d1 dm1 dq1) (.slice d2 dm2 dq2) (.slice d3 dm3 dq3)) (0, 0) _ HX37.out Try.underlying30 rfl (by kernel_rfl) ?_)
    | (with_reducible refine wpList_load_rowG rfl 30 (.tmp 6) rfl w5.heap.size rfl 30 (sArr s3 (.slice f1 fm1 fq1) (.slice f2 fm2 fq2) (.slice f3 fm3 fq3)) (0, 0) _ HX57.out Try.underlying30 rfl (by kernel_rfl) ?_)
    | (go_at_call 6; refine (Sh.same_any s3 _ _ _ HI37.out HI57.out).mono ?_; rintro e u9 ⟨rfl, hb9⟩; have hb09 := HB7.out.trans (hb9.mono HB7.out.size); have hs1 := HQ1.out _ hb09; have hs2 := HQ2.out _ hb09))
  go_ret
  exact ⟨rfl, HBW.out.trans (hb09.mono HBW.out.size)⟩

set_option maxRecDepth 100000 in
theorem contract (H : Type) (enc : TypeId × Value → H) (W : World) (base : Nat) (args : Array Value) (ds gs : List (DataW H)) (before : List MemPlace)
    (hval0 : ∀ (j : Nat) t v, Try.f3.params[j]? = some t → args[j]? = some v → Value.okWide Try.prog W .any base t v)
    (hW : DataW.Whole enc Try.prog Try.f3.params.toList Rows.shotReadsSpec.vars false W args.toList ds gs before)
    (hsz0 : (DataW.weightsEach Try.prog (Try.f3.params.toList ++ Rows.shotReadsSpec.plain.varTypes Try.prog) (ds ++ gs)).all (· ≤ reachBytes) = true) :
    Calls Try.prog 3 args W fun e W' => ∃ v, e = .returned v ∧ Rows.shotReadsSpec.post enc Try.prog Try.f3 false true false false W args v W' := by
  have hval : ∀ (j : Nat) t v, Try.f3.params[j]? = some t → args[j]? = some v → Value.okWide Try.prog W .any base t v := hval0
  have hW' := hW
  obtain ⟨p, q, hA0, hV, rfl, hfz, hnd⟩ := hW
  have hA : DataW.TrodAll enc Try.prog W 0 (fun _ => true) true Try.f3.params.toList args.toList ds p := hA0
  rw [Try.params3] at hA hval
  have hsz := hsz0
  rw [Try.params3] at hsz
  obtain ⟨v0, vs0, d0, ds0, p0, q0, hargs, rfl, rfl, h0, r0⟩ := trodAll_cons hA
  obtain ⟨rfl, rfl, rfl⟩ := trodAll_nil r0
  obtain rfl : args = #[v0] := by cases args; simp_all
  obtain ⟨rfl, rfl⟩ := trodVars_none hV
  clear hA0 hval0
  have k0 := h0
  have lt0 : ∀ x ∈ p0, x.block < W.heap.size := by obtain ⟨m, hm⟩ := k0; exact DataW.trod_lt m _ _ _ hm
  obtain ⟨z0, w0, u00, b00⟩ := open_sl Try.underlying22 Try.underlying5 (by kernel_rfl) (okWide_slice Try.underlying22 (hval 0 22 v0 rfl rfl)).choose_spec.choose_spec.choose_spec k0
  have b0 : z0.length * 1 ≤ 140737488351232 := by
    have := b00 hsz (j := 0) rfl rfl
    rw [show Try.prog.bytesOf 5 = 1 from by kernel_rfl] at this
    simpa [reachBytes] using this
  refine (walk v0 z0 W w0 b0).mono fun e W' ⟨he, bel⟩ => ?_
  subst he
  exact ⟨_, rfl, _, _, _, [], _, [], hW', trodAll_mk1 (shut_bool Try.underlying4 _), (trodAll_cons_mk (Below.trod laidOut (by kernel_rfl) (of_decide_eq_true (by kernel_rfl)) k0 bel lt0) trodAll_mk0), rfl, bel.frame _, fun h => by cases h⟩

set_option maxRecDepth 100000 in
theorem lifted (os : Os) (started : os.Started) (H : Type) (enc : TypeId × Value → H) :
    ReturnsInHanded {} Try.checked os 3 .any (Rows.shotReadsSpec.pre6 enc Try.prog Try.f3 Rows.shotReadsRow.domain false) (Rows.shotReadsSpec.post enc Try.prog Try.f3 false true false false) := by
  refine returnsInHanded_of_change_sized (C := Try.checked) own started (by kernel_rfl) Try.func3
    (ChangeSpec.witness6 (enc := enc) (C := Try.checked) false ⟨#[], #[.slice none 0 0], []⟩ 8 (by kernel_rfl) (by kernel_rfl) (by kernel_rfl) (by kernel_rfl)) ?_
  intro W base args ds gs before hval0 hW hcnd hsz _
  exact contract H enc W base args ds gs before hval0 hW hsz

theorem proved : Rows.ShotReadsSaid :=
  OpenClaim.holds_of_wide 3 Try.f3 rfl rfl rfl rfl rfl rfl rfl ⟨rfl, rfl, rfl, rfl, rfl⟩ rfl rfl rfl rfl rfl (by kernel_rfl) Try.func3 (by kernel_rfl)
    (of_decide_eq_true (by kernel_rfl)) (by unfold Func.isWrapper; first | (rw [if_pos (by decide +kernel)]; kernel_rfl) | (rw [if_neg (by decide +kernel)]; exact ⟨rfl, rfl⟩))
    (fun os started H enc _ => lifted os started H enc)
end Go.Proofs.Ytpdhndldfmhaeaa.shotReads
