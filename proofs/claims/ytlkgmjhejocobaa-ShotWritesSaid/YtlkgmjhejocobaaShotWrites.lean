/- The law ShotWrites returns true for all that may be read as a snapshot: the bytes that shot.Encode writes are those that the document writes, with the same error, and are few enough. No condition. -/
import Derived.Test.YtlkgmjhejocobaaBse
import Derived.Test.YtlkgmjhejocobaaEdL
import Derived.Test.YtlkgmjhejocobaaEcC
import Derived.Deep.MidRow
namespace Go.Proofs.Ytlkgmjhejocobaa.shotWrites
open Go.ChangeShapes Go.WideShapes Go.ChangeAt Go.RowKit
open Go.ChangeMaps (open_string shut_string)
set_option linter.unusedVariables false

theorem own : ownKnob Try.prog.godebug = none := by kernel_rfl
theorem laidOut : laidOutB Try.prog = true := by kernel_rfl

open Sc Cm Nm Sh Go.Deep
set_option maxHeartbeats 4000000 in
theorem walk (v0 : Value) (x0 : Sho) (w : World) (w0 : IsShot w v0 x0) (b0 : IsShot.fits x0) :
    Calls Try.prog 3 #[v0] w fun e w' => e = .returned (.bool true) ∧ Below w.heap.size w w' := by
  obtain ⟨vn, vh, vl, rfl, hn, hh, hl, hwf⟩ := id w0
  obtain ⟨a1, b1, rfl, -⟩ := id hn
  obtain ⟨a2, b2, rfl, -⟩ := id hh
  obtain ⟨a3, b3, rfl, -⟩ := id hl
  obtain ⟨W0, hW0⟩ : ∃ q, w.alloc (.cells (sArr x0 (.slice a1 x0.nodes.length b1) (.slice a2 x0.led.held.length b2) (.slice a3 x0.led.last.length b3)) 29) = q := ⟨_, rfl⟩
  have hb0 : Below w.heap.size w W0 := by rw [← hW0]; exact (Below.refl _ _).alloc (Nat.le_refl _) _
  have HS0 : Hid (W0.heap[w.heap.size]? = some (.cells (sArr x0 (.slice a1 x0.nodes.length b1) (.slice a2 x0.led.held.length b2) (.slice a3 x0.led.last.length b3)) 29 (0, 0))) := Lib.hid (by rw [← hW0]; exact heap_alloc_new _ _)
  have HB0 := Lib.hid hb0
  have HI0 := Lib.hid (w0.below hb0 (Nat.le_refl _))
  have HWF := Lib.hid hwf
  clear w0 hn hh hl hwf hb0
  go_enter Try.func3, Try.ntmps3
  go_wp2_with (first | (with_reducible refine wpList_load_row rfl 29 (.tmp 1) rfl w.heap.size rfl 29 (sArr x0 (.slice a1 x0.nodes.length b1) (.slice a2 x0.led.held.length b2) (.slice a3 x0.led.last.length b3)) (0, 0) _ HS0.out Try.underlying29 rfl (by kernel_rfl) ?_) | fail)
  refine (enc_any x0 _ _ HI0.out).mono ?_
  rintro e w1 ⟨v1, z1, l1, rfl, hz1, ho1, hb1⟩
  have HB1 := Lib.hid (HB0.out.trans (hb1.mono HB0.out.size))
  have HS1 := Lib.hid ((hb1.block _ (row_lt HS0.out)).trans HS0.out)
  have HI1 := Lib.hid (HI0.out.below hb1 (Nat.le_refl _))
  have HO1 := Lib.hid ho1
  clear hb1 ho1
  go_wp2_with (first | (with_reducible refine wpList_load_row rfl 29 (.tmp 1) rfl w.heap.size rfl 29 (sArr x0 (.slice a1 x0.nodes.length b1) (.slice a2 x0.led.held.length b2) (.slice a3 x0.led.last.length b3)) (0, 0) _ HS1.out Try.underlying29 rfl (by kernel_rfl) ?_) | fail)
  refine (renc_any x0 _ _ HI1.out).mono ?_
  rintro e w2 ⟨v2, z2, l2, rfl, hz2, ho2, hb2⟩
  have HB2 := Lib.hid (HB1.out.trans (hb2.mono HB1.out.size))
  obtain ⟨rfl, rfl, hw, hlen⟩ : z2 = z1 ∧ l2 = l1 ∧ WfB l1 ∧ l1.length ≤ 3500 := by
    rcases hz1 with ⟨h1, h2, h3⟩ | ⟨h1, h2, h3⟩
    · rcases hz2 with ⟨g1, g2, g3⟩ | ⟨g1, g2, g3⟩
      · have q := shotB_len (nums_of HWF.out h2)
        rw [h1, g1, h3, g3]
        exact ⟨rfl, rfl, q.2, q.1⟩
      · exact absurd h2 g2
    · rcases hz2 with ⟨g1, g2, g3⟩ | ⟨g1, g2, g3⟩
      · exact absurd g2 h2
      · rw [h1, g1, h3, g3]
        exact ⟨rfl, rfl, fun n hn => by simp at hn, by simp⟩
  have HQ1 := Lib.hid ((HO1.out.sl hw).below hb2 (Nat.le_refl _))
  have HQ2 := Lib.hid (ho2.sl hw)
  clear hz1 hz2 ho2 hb2 hw HO1
  go_wp2_with fail
  refine (Sc.live_any _).mono ?_
  rintro e w3 ⟨rfl, hb3⟩
  have HB3 := Lib.hid (HB2.out.trans (hb3.mono HB2.out.size))
  have h1 := HQ1.out.below hb3 (Nat.le_refl _)
  have h2 := HQ2.out.below hb3 (Nat.le_refl _)
  obtain ⟨c1, d1, rfl, -⟩ := id h1
  have hq1 := run_str h1
  have hq2 := run_str h2
  have hlz : (l2.length : Int) ≤ 8092 := by omega
  clear h1 h2 hb3
  go_wp2
  go_ret
  exact ⟨rfl, HB3.out⟩

set_option maxRecDepth 100000 in
theorem contract (H : Type) (enc : TypeId × Value → H) (W : World) (base : Nat) (args : Array Value) (ds gs : List (DataW H)) (before : List MemPlace)
    (hval0 : ∀ (j : Nat) t v, Try.f3.params[j]? = some t → args[j]? = some v → Value.okWide Try.prog W .any base t v)
    (hW : DataW.Whole enc Try.prog Try.f3.params.toList Rows.shotWritesSpec.vars false W args.toList ds gs before)
    (hsz0 : (DataW.weightsEach Try.prog (Try.f3.params.toList ++ Rows.shotWritesSpec.plain.varTypes Try.prog) (ds ++ gs)).all (· ≤ reachBytes) = true) :
    Calls Try.prog 3 args W fun e W' => ∃ v, e = .returned v ∧ Rows.shotWritesSpec.post enc Try.prog Try.f3 false true false false W args v W' := by
  have hval : ∀ (j : Nat) t v, Try.f3.params[j]? = some t → args[j]? = some v → Value.okWide Try.prog W .any base t v := hval0
  have hW' := hW
  obtain ⟨p, q, hA0, hV, rfl, hfz, hnd⟩ := hW
  have hA : DataW.TrodAll enc Try.prog W 0 (fun _ => true) true Try.f3.params.toList args.toList ds p := hA0
  rw [Try.params3] at hA hval
  have hsz := hsz0
  rw [Try.params3] at hsz
  obtain ⟨v0, vs0, d0, ds0, p0, q0, hargs, rfl, rfl, h0, r0⟩ := trodAll_cons hA
  obtain ⟨rfl, rfl, rfl⟩ := trodAll_nil r0
  obtain rfl : args = #[v0] := by cases args; simp_all
  obtain ⟨rfl, rfl⟩ := trodVars_none hV
  clear hA0 hval0
  have k0 := h0
  have lt0 : ∀ x ∈ p0, x.block < W.heap.size := by obtain ⟨m, hm⟩ := k0; exact DataW.trod_lt m _ _ _ hm
  obtain ⟨x0, w0, -, s0⟩ := open_shot (hval 0 29 v0 rfl rfl) k0
  have b0 : IsShot.fits x0 := s0 (wt_arg hsz (j := 0) rfl rfl)
  refine (walk v0 x0 W w0 b0).mono fun e W' ⟨he, bel⟩ => ?_
  subst he
  exact ⟨_, rfl, _, _, _, [], _, [], hW', trodAll_mk1 (shut_bool Try.underlying4 _), (trodAll_cons_mk (Below.trod laidOut (by kernel_rfl) (of_decide_eq_true (by kernel_rfl)) k0 bel lt0) trodAll_mk0), rfl, bel.frame _, fun h => by cases h⟩

set_option maxRecDepth 100000 in
theorem lifted (os : Os) (started : os.Started) (H : Type) (enc : TypeId × Value → H) :
    ReturnsInHanded {} Try.checked os 3 .any (Rows.shotWritesSpec.pre6 enc Try.prog Try.f3 Rows.shotWritesRow.domain false) (Rows.shotWritesSpec.post enc Try.prog Try.f3 false true false false) := by
  refine returnsInHanded_of_change_sized (C := Try.checked) own started (by kernel_rfl) Try.func3
    (ChangeSpec.witness6 (enc := enc) (C := Try.checked) false ⟨#[], #[.agg #[.int .u64 0, .int .u64 0, .slice none 0 0, .int .i64 0, .int .u64 0, .slice none 0 0, .slice none 0 0]], []⟩ 8 (by kernel_rfl) (by kernel_rfl) (by kernel_rfl) (by kernel_rfl)) ?_
  intro W base args ds gs before hval0 hW hcnd hsz _
  exact contract H enc W base args ds gs before hval0 hW hsz

theorem proved : Rows.ShotWritesSaid :=
  OpenClaim.holds_of_wide 3 Try.f3 rfl rfl rfl rfl rfl rfl rfl ⟨rfl, rfl, rfl, rfl, rfl⟩ rfl rfl rfl rfl rfl (by kernel_rfl) Try.func3 (by kernel_rfl)
    (of_decide_eq_true (by kernel_rfl)) (by unfold Func.isWrapper; first | (rw [if_pos (by decide +kernel)]; kernel_rfl) | (rw [if_neg (by decide +kernel)]; exact ⟨rfl, rfl⟩))
    (fun os started H enc _ => lifted os started H enc)
end Go.Proofs.Ytlkgmjhejocobaa.shotWrites
