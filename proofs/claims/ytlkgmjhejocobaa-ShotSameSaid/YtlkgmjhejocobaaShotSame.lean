/- The law ShotSame returns true for whatever bytes: what shot.Decode reads, written again, are the bytes that were read. No condition. -/
import Derived.Test.YtlkgmjhejocobaaBse
import Derived.Test.YtlkgmjhejocobaaEdL
import Derived.Deep.MidRow
namespace Go.Proofs.Ytlkgmjhejocobaa.shotSame
open Go.ChangeShapes Go.WideShapes Go.ChangeAt Go.RowKit
open Go.ChangeMaps (open_string shut_string)
set_option linter.unusedVariables false

theorem own : ownKnob Try.prog.godebug = none := by kernel_rfl
theorem laidOut : laidOutB Try.prog = true := by kernel_rfl

open Sc Cm Nm Sh Go.Deep
set_option maxHeartbeats 4000000 in
theorem walk (v0 : Value) (z0 : List Int) (w : World) (w0 : Sl .u8 w v0 z0) (b0 : z0.length * 1 ≤ 140737488351232) :
    Calls Try.prog 6 #[v0] w fun e w' => e = .returned (.bool true) ∧ Below w.heap.size w w' := by
  have HS := Lib.hid (fun w' (hb : Below w.heap.size w w') => w0.below hb (Nat.le_refl _))
  have HWF := Lib.hid w0.wf
  obtain ⟨a0, cap0, rfl, -⟩ := id w0
  clear w0
  go_enter Try.func6, Try.ntmps6
  go_wp2_with fail
  refine (Sc.live_any _).mono ?_
  rintro e w1 ⟨rfl, hb1⟩
  have HB1 := Lib.hid hb1
  clear hb1
  go_wp2_with fail
  refine (dec_any z0 _ _ (HS.out _ HB1.out)).mono ?_
  rintro e w3 ⟨s3, z3, vn, vh, vl, rfl, hd, o1, o2, o3, hw3, hb3⟩
  obtain ⟨d1, m1, q1, rfl⟩ := own_formx o1
  obtain ⟨d2, m2, q2, rfl⟩ := own_formx o2
  obtain ⟨d3, m3, q3, rfl⟩ := own_formx o3
  have HB3 := Lib.hid (HB1.out.trans (hb3.mono HB1.out.size))
  have hsS : (w3.alloc (.cells zSA 29)).heap[w3.heap.size]? = some (.cells zSA 29 (0, 0)) := heap_alloc_new _ _
  obtain ⟨W4, hW4⟩ : ∃ q, (w3.alloc (.cells zSA 29)).setRow w3.heap.size (sArr s3 (.slice d1 m1 q1) (.slice d2 m2 q2) (.slice d3 m3 q3)) = q := ⟨_, rfl⟩
  have hb4 : Below w3.heap.size w3 W4 := by rw [← hW4]; exact Ld.below_row ((Below.refl _ _).alloc (Nat.le_refl _) _) (Nat.le_refl _) _
  have HX4 : Hid (W4.heap[w3.heap.size]? = some (.cells (sArr s3 (.slice d1 m1 q1) (.slice d2 m2 q2) (.slice d3 m3 q3)) 29 (0, 0))) := Lib.hid (by rw [← hW4]; exact setRow_heap _ _ _ _ _ _ hsS)
  have HB4 := Lib.hid (HB3.out.trans (hb4.mono HB3.out.size))
  have HI4 := Lib.hid ((DecE.shot (zs := []) o1 o2 o3 hw3).below hb4 (Nat.le_refl _))
  have HD := Lib.hid hd
  have HWS := Lib.hid hw3
  clear hb3 hb4 o1 o2 o3 hw3 hd
  by_cases hz : z3 = 0
  · subst hz
    obtain ⟨ok, henc⟩ := dec_back HWF.out HD.out
    have OK := Lib.hid ok
    have HEN := Lib.hid henc
    clear ok henc
    go_wp2_with (first
      | (with_reducible refine wpList_store_row rfl 29 (.tmp 4) (.tmp 12) rfl w3.heap.size (sArr s3 (.slice d1 m1 q1) (.slice d2 m2 q2) (.slice d3 m3 q3)) rfl rfl 29 _ hsS (by kernel_rfl) rfl (sArr_one _ _ _ _ _ _ _ _ _ _) ?_; rw [hW4]; clear hW4 hsS)
      | (with_reducible refine wpList_load_row rfl 29 (.tmp 4) rfl w3.heap.size rfl 29 (sArr s3 (.slice d1 m1 q1) (.slice d2 m2 q2) (.slice d3 m3 q3)) (0, 0) _ HX4.out Try.underlying29 rfl (by kernel_rfl) ?_))
    refine (enc_any s3 _ _ HI4.out).mono ?_
    rintro e w5 ⟨v5, z5, l5, rfl, hz5, ho5, hb5⟩
    obtain ⟨rfl, rfl⟩ : z5 = 0 ∧ l5 = z0 := by
      rcases hz5 with ⟨h1, -, h3⟩ | ⟨-, h2, -⟩
      · exact ⟨h1, h3.trans HEN.out⟩
      · exact absurd OK.out h2
    have HB5 := Lib.hid (HB4.out.trans (hb5.mono HB4.out.size))
    have hq1 := run_str (ho5.sl HWF.out)
    have hq2 := run_str (HS.out _ HB5.out)
    clear hz5 ho5 hb5
    go_wp2
    go_ret
    exact ⟨rfl, HB5.out⟩
  · have hne : (z3 != 0) = true := by rw [bne, beq_eq_false_iff_ne.2 hz]; rfl
    clear hz
    go_wp2_with (first
      | (with_reducible refine wpList_store_row rfl 29 (.tmp 4) (.tmp 12) rfl w3.heap.size (sArr s3 (.slice d1 m1 q1) (.slice d2 m2 q2) (.slice d3 m3 q3)) rfl rfl 29 _ hsS (by kernel_rfl) rfl (sArr_one _ _ _ _ _ _ _ _ _ _) ?_; rw [hW4]; clear hW4 hsS) | fail)
    go_ret
    exact ⟨rfl, HB4.out⟩

set_option maxRecDepth 100000 in
theorem contract (H : Type) (enc : TypeId × Value → H) (W : World) (base : Nat) (args : Array Value) (ds gs : List (DataW H)) (before : List MemPlace)
    (hval0 : ∀ (j : Nat) t v, Try.f6.params[j]? = some t → args[j]? = some v → Value.okWide Try.prog W .any base t v)
    (hW : DataW.Whole enc Try.prog Try.f6.params.toList Rows.shotSameSpec.vars false W args.toList ds gs before)
    (hsz0 : (DataW.weightsEach Try.prog (Try.f6.params.toList ++ Rows.shotSameSpec.plain.varTypes Try.prog) (ds ++ gs)).all (· ≤ reachBytes) = true) :
    Calls Try.prog 6 args W fun e W' => ∃ v, e = .returned v ∧ Rows.shotSameSpec.post enc Try.prog Try.f6 false true false false W args v W' := by
  have hval : ∀ (j : Nat) t v, Try.f6.params[j]? = some t → args[j]? = some v → Value.okWide Try.prog W .any base t v := hval0
  have hW' := hW
  obtain ⟨p, q, hA0, hV, rfl, hfz, hnd⟩ := hW
  have hA : DataW.TrodAll enc Try.prog W 0 (fun _ => true) true Try.f6.params.toList args.toList ds p := hA0
  rw [Try.params6] at hA hval
  have hsz := hsz0
  rw [Try.params6] at hsz
  obtain ⟨v0, vs0, d0, ds0, p0, q0, hargs, rfl, rfl, h0, r0⟩ := trodAll_cons hA
  obtain ⟨rfl, rfl, rfl⟩ := trodAll_nil r0
  obtain rfl : args = #[v0] := by cases args; simp_all
  obtain ⟨rfl, rfl⟩ := trodVars_none hV
  clear hA0 hval0
  have k0 := h0
  have lt0 : ∀ x ∈ p0, x.block < W.heap.size := by obtain ⟨m, hm⟩ := k0; exact DataW.trod_lt m _ _ _ hm
  obtain ⟨z0, w0, u00, b00⟩ := open_sl Try.underlying30 Try.underlying5 (by kernel_rfl) (okWide_slice Try.underlying30 (hval 0 30 v0 rfl rfl)).choose_spec.choose_spec.choose_spec k0
  have b0 : z0.length * 1 ≤ 140737488351232 := by
    have := b00 hsz (j := 0) rfl rfl
    rw [show Try.prog.bytesOf 5 = 1 from by kernel_rfl] at this
    simpa [reachBytes] using this
  refine (walk v0 z0 W w0 b0).mono fun e W' ⟨he, bel⟩ => ?_
  subst he
  exact ⟨_, rfl, _, _, _, [], _, [], hW', trodAll_mk1 (shut_bool Try.underlying4 _), (trodAll_cons_mk (Below.trod laidOut (by kernel_rfl) (of_decide_eq_true (by kernel_rfl)) k0 bel lt0) trodAll_mk0), rfl, bel.frame _, fun h => by cases h⟩

set_option maxRecDepth 100000 in
theorem lifted (os : Os) (started : os.Started) (H : Type) (enc : TypeId × Value → H) :
    ReturnsInHanded {} Try.checked os 6 .any (Rows.shotSameSpec.pre6 enc Try.prog Try.f6 Rows.shotSameRow.domain false) (Rows.shotSameSpec.post enc Try.prog Try.f6 false true false false) := by
  refine returnsInHanded_of_change_sized (C := Try.checked) own started (by kernel_rfl) Try.func6
    (ChangeSpec.witness6 (enc := enc) (C := Try.checked) false ⟨#[], #[.slice none 0 0], []⟩ 8 (by kernel_rfl) (by kernel_rfl) (by kernel_rfl) (by kernel_rfl)) ?_
  intro W base args ds gs before hval0 hW hcnd hsz _
  exact contract H enc W base args ds gs before hval0 hW hsz

theorem proved : Rows.ShotSameSaid :=
  OpenClaim.holds_of_wide 6 Try.f6 rfl rfl rfl rfl rfl rfl rfl ⟨rfl, rfl, rfl, rfl, rfl⟩ rfl rfl rfl rfl rfl (by kernel_rfl) Try.func6 (by kernel_rfl)
    (of_decide_eq_true (by kernel_rfl)) (by unfold Func.isWrapper; first | (rw [if_pos (by decide +kernel)]; kernel_rfl) | (rw [if_neg (by decide +kernel)]; exact ⟨rfl, rfl⟩))
    (fun os started H enc _ => lifted os started H enc)
end Go.Proofs.Ytlkgmjhejocobaa.shotSame
