/- The law HardSame returns true for whatever bytes: what hard.Decode reads, written again by hard.Encode, are the bytes that were read. No condition. -/
import Derived.Test.YtngnhegmealokaaBse
import Derived.Test.YtngnhegmealokaaRkJ
import Derived.Deep.MidRow
namespace Go.Proofs.Ytngnhegmealokaa.hardSame
open Go.ChangeShapes Go.WideShapes Go.ChangeAt Go.RowKit
open Go.ChangeMaps (open_string shut_string)
set_option linter.unusedVariables false

theorem own : ownKnob Try.prog.godebug = none := by kernel_rfl
theorem laidOut : laidOutB Try.prog = true := by kernel_rfl

open Rk Rc Hd Nv Go.Deep
set_option maxHeartbeats 4000000 in
theorem walk (s0 : ByteArray) (w : World) (w0 : s0.size ≤ 140737488351232) :
    Calls Try.prog 6 #[.string s0] w fun e w' => e = .returned (.bool true) ∧ Below w.heap.size w w' := by
  have hbw : Below w.heap.size w w := Below.refl _ _
  have HBW := Lib.hid hbw
  clear hbw w0
  go_enter Try.func6, Try.ntmps6
  go_wp2_with fail
  refine (Rk.writes_any _).mono ?_
  rintro e w2 ⟨rfl, hb2⟩
  have HB2 := Lib.hid hb2
  clear hb2
  go_wp2_with fail
  refine (Rk.dec_any _ _).mono ?_
  rintro e w4 ⟨r4, z4, v1, v2, v3, v4, rfl, hd, hr4, hb4⟩
  obtain ⟨v1', v2', v3', v4', ev, ⟨k1, k2, k3, k4⟩, -⟩ := id hr4
  obtain ⟨rfl, rfl, rfl, rfl⟩ : v1' = v1 ∧ v2' = v2 ∧ v3' = v3 ∧ v4' = v4 := by
    simp only [Value.agg.injEq, Array.mk.injEq, List.cons.injEq, true_and, and_true] at ev
    exact ⟨ev.1.symm, ev.2.1.symm, ev.2.2.1.symm, ev.2.2.2.symm⟩
  obtain ⟨d1, p1, rfl, -⟩ := id k1
  obtain ⟨d2, p2, rfl, -⟩ := id k2
  obtain ⟨d3, p3, rfl, -⟩ := id k3
  obtain ⟨d4, p4, rfl, -⟩ := id k4
  have hsS : (w4.alloc (.cells zR 35)).heap[w4.heap.size]? = some (.cells zR 35 (0, 0)) := heap_alloc_new _ _
  obtain ⟨W5, hW5⟩ : ∃ q, (w4.alloc (.cells zR 35)).setRow w4.heap.size (rArr r4 (.slice d1 r4.ent.cmd.nodes.length p1) (.slice d2 r4.shot.nodes.length p2) (.slice d3 r4.shot.led.held.length p3) (.slice d4 r4.shot.led.last.length p4)) = q := ⟨_, rfl⟩
  have hb5 : Below w4.heap.size w4 W5 := by rw [← hW5]; exact Ld.below_row ((Below.refl _ _).alloc (Nat.le_refl _) _) (Nat.le_refl _) _
  have HX5 : Hid (W5.heap[w4.heap.size]? = some (.cells (rArr r4 (.slice d1 r4.ent.cmd.nodes.length p1) (.slice d2 r4.shot.nodes.length p2) (.slice d3 r4.shot.led.held.length p3) (.slice d4 r4.shot.led.last.length p4)) 35 (0, 0))) := Lib.hid (by rw [← hW5]; exact setRow_heap _ _ _ _ _ _ hsS)
  have HB5 := Lib.hid (HB2.out.trans ((hb4.trans (hb5.mono hb4.size)).mono HB2.out.size))
  have HY5 := Lib.hid (hr4.below hb5 (Nat.le_refl _))
  have HD := Lib.hid hd
  clear hr4 hb4 hb5 k1 k2 k3 k4 ev hd
  by_cases h0 : z4 = 0
  · subst h0
    obtain ⟨hf, he, -⟩ := Rk.dec_back (Rk.sbs_wf _) HD.out
    have HF := Lib.hid hf
    have HE := Lib.hid he
    clear hf he
    go_wp2_with (first
      | (with_reducible refine wpList_store_row rfl 35 (.tmp 4) (.tmp 12) rfl w4.heap.size (rArr r4 (.slice d1 r4.ent.cmd.nodes.length p1) (.slice d2 r4.shot.nodes.length p2) (.slice d3 r4.shot.led.held.length p3) (.slice d4 r4.shot.led.last.length p4)) rfl rfl 35 _ hsS (by kernel_rfl) rfl (rArr_one _ _ _ _ _ _ _ _ _ _ _ _ _) ?_; rw [hW5]; clear hW5 hsS)
      | (with_reducible refine wpList_load_row rfl 35 (.tmp 4) rfl w4.heap.size rfl 35 (rArr r4 (.slice d1 r4.ent.cmd.nodes.length p1) (.slice d2 r4.shot.nodes.length p2) (.slice d3 r4.shot.led.held.length p3) (.slice d4 r4.shot.led.last.length p4)) (0, 0) _ HX5.out Try.underlying35 rfl (by kernel_rfl) ?_))
    refine (Rk.enc_any r4 _ _ HY5.out).mono ?_
    rintro e w6 ⟨s6, z6, rfl, hz6, hb6⟩
    have HB6 := Lib.hid (HB5.out.trans (hb6.mono HB5.out.size))
    clear hb6
    obtain ⟨rfl, rfl⟩ : s6 = s0 ∧ z6 = 0 := by
      rcases hz6 with ⟨-, h1, h2⟩ | ⟨h, -⟩
      · exact ⟨by rw [h1, HE.out, Rk.str_sbs], h2⟩
      · exact absurd HF.out h
    clear hz6
    go_wp2
    go_ret
    exact ⟨rfl, HB6.out⟩
  · have hne : (z4 != 0) = true := by rw [bne, beq_eq_false_iff_ne.2 h0]; rfl
    clear h0
    go_wp2_with (first | (with_reducible refine wpList_store_row rfl 35 (.tmp 4) (.tmp 12) rfl w4.heap.size (rArr r4 (.slice d1 r4.ent.cmd.nodes.length p1) (.slice d2 r4.shot.nodes.length p2) (.slice d3 r4.shot.led.held.length p3) (.slice d4 r4.shot.led.last.length p4)) rfl rfl 35 _ hsS (by kernel_rfl) rfl (rArr_one _ _ _ _ _ _ _ _ _ _ _ _ _) ?_; rw [hW5]; clear hW5 hsS) | fail)
    go_ret
    exact ⟨rfl, HB5.out⟩

set_option maxRecDepth 100000 in
theorem contract (H : Type) (enc : TypeId × Value → H) (W : World) (base : Nat) (args : Array Value) (ds gs : List (DataW H)) (before : List MemPlace)
    (hval0 : ∀ (j : Nat) t v, Try.f6.params[j]? = some t → args[j]? = some v → Value.okWide Try.prog W .any base t v)
    (hW : DataW.Whole enc Try.prog Try.f6.params.toList Rows.hardSameSpec.vars false W args.toList ds gs before)
    (hsz0 : (DataW.weightsEach Try.prog (Try.f6.params.toList ++ Rows.hardSameSpec.plain.varTypes Try.prog) (ds ++ gs)).all (· ≤ reachBytes) = true) :
    Calls Try.prog 6 args W fun e W' => ∃ v, e = .returned v ∧ Rows.hardSameSpec.post enc Try.prog Try.f6 false true false false W args v W' := by
  have hval : ∀ (j : Nat) t v, Try.f6.params[j]? = some t → args[j]? = some v → Value.okWide Try.prog W .any base t v := hval0
  have hW' := hW
  obtain ⟨p, q, hA0, hV, rfl, hfz, hnd⟩ := hW
  have hA : DataW.TrodAll enc Try.prog W 0 (fun _ => true) true Try.f6.params.toList args.toList ds p := hA0
  rw [Try.params6] at hA hval
  have hsz := hsz0
  rw [Try.params6] at hsz
  obtain ⟨v0, vs0, d0, ds0, p0, q0, hargs, rfl, rfl, h0, r0⟩ := trodAll_cons hA
  obtain ⟨rfl, rfl, rfl⟩ := trodAll_nil r0
  obtain rfl : args = #[v0] := by cases args; simp_all
  obtain ⟨rfl, rfl⟩ := trodVars_none hV
  clear hA0 hval0
  have k0 := h0
  have lt0 : ∀ x ∈ p0, x.block < W.heap.size := by obtain ⟨m, hm⟩ := k0; exact DataW.trod_lt m _ _ _ hm
  obtain ⟨s0, rfl, rfl, -, m0⟩ := open_string Try.underlying9 (hval 0 9 v0 rfl rfl) h0
  have w0 : s0.size ≤ 140737488351232 := str_sized (sized_string hsz (j := 0) rfl rfl)
  refine (walk s0 W w0).mono fun e W' ⟨he, bel⟩ => ?_
  subst he
  exact ⟨_, rfl, _, _, _, [], _, [], hW', trodAll_mk1 (shut_bool Try.underlying4 _), (trodAll_cons_mk (Below.trod laidOut (by kernel_rfl) (of_decide_eq_true (by kernel_rfl)) k0 bel lt0) trodAll_mk0), rfl, bel.frame _, fun h => by cases h⟩

set_option maxRecDepth 100000 in
theorem lifted (os : Os) (started : os.Started) (H : Type) (enc : TypeId × Value → H) :
    ReturnsInHanded {} Try.checked os 6 .any (Rows.hardSameSpec.pre6 enc Try.prog Try.f6 Rows.hardSameRow.domain false) (Rows.hardSameSpec.post enc Try.prog Try.f6 false true false false) := by
  refine returnsInHanded_of_change_sized (C := Try.checked) own started (by kernel_rfl) Try.func6
    (ChangeSpec.witness6 (enc := enc) (C := Try.checked) false ⟨#[], #[.string ByteArray.empty], []⟩ 8 (by kernel_rfl) (by kernel_rfl) (by kernel_rfl) (by kernel_rfl)) ?_
  intro W base args ds gs before hval0 hW hcnd hsz _
  exact contract H enc W base args ds gs before hval0 hW hsz

theorem proved : Rows.HardSameSaid :=
  OpenClaim.holds_of_wide 6 Try.f6 rfl rfl rfl rfl rfl rfl rfl ⟨rfl, rfl, rfl, rfl, rfl⟩ rfl rfl rfl rfl rfl (by kernel_rfl) Try.func6 (by kernel_rfl)
    (of_decide_eq_true (by kernel_rfl)) (by unfold Func.isWrapper; first | (rw [if_pos (by decide +kernel)]; kernel_rfl) | (rw [if_neg (by decide +kernel)]; exact ⟨rfl, rfl⟩))
    (fun os started H enc _ => lifted os started H enc)
end Go.Proofs.Ytngnhegmealokaa.hardSame
