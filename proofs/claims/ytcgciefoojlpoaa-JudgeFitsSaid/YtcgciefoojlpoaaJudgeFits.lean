/- The law JudgeFits returns true for all frames, texts and replies: package judge's Fits answers what the document's own answer is, and the chapter's examples hold. No condition. -/
import Derived.Test.YtcgciefoojlpoaaSl
import Derived.Test.YtcgciefoojlpoaaJfG
namespace Go.Proofs.Ytcgciefoojlpoaa.judgeFits
open Go.ChangeShapes Go.WideShapes Go.ChangeAt Go.RowKit
open Go.ChangeMaps (open_string shut_string)
set_option linter.unusedVariables false

theorem own : ownKnob Try.prog.godebug = none := by kernel_rfl
theorem laidOut : laidOutB Try.prog = true := by kernel_rfl

set_option maxHeartbeats 8000000 in
theorem walk (v0 : Value) (x0 : (List Frm)) (v1 : Value) (x1 : (List ByteArray)) (v2 : Value) (x2 : (List Rep)) (w : World) (w0 : IsFrms w v0 x0) (w1 : IsStrs w v1 x1) (w2 : IsReps w v2 x2) :
    Calls Try.prog 3 #[v0, v1, v2] w fun e w' => e = .returned (.bool true) ∧ Below w.heap.size w w' := by
  have B0 := Lib.hid w0
  have B1 := Lib.hid w1
  have B2 := Lib.hid w2
  obtain ⟨a0, c0, rfl, hl0, hm0, -⟩ := id w0.1
  obtain ⟨a2, c2, rfl, hl2, hm2, -⟩ := id w2.1
  unfold maxLen at hm0 hm2
  clear w0 w1 w2
  by_cases h2 : 1000 < x2.length
  · have h2' : (1000 : Int) < (x2.length : Int) := by omega
    go_enter Try.func3, Try.ntmps3
    go_wp2_with fail
    refine (Jf.lfits_any _).mono ?_
    rintro e w1 ⟨rfl, hb⟩
    go_wp2
    go_ret
    exact ⟨rfl, hb⟩
  · have h2' : (x2.length : Int) ≤ 1000 := by omega
    by_cases h0 : 1000 < x0.length
    · have h0' : (1000 : Int) < (x0.length : Int) := by omega
      go_enter Try.func3, Try.ntmps3
      go_wp2_with fail
      refine (Jf.lfits_any _).mono ?_
      rintro e w1 ⟨rfl, hb⟩
      go_wp2
      go_ret
      exact ⟨rfl, hb⟩
    · have h0' : (x0.length : Int) ≤ 1000 := by omega
      go_enter Try.func3, Try.ntmps3
      go_wp2_with fail
      refine (Jf.fits_any x0 x1 x2 _ _ _ _ B0.out B1.out B2.out).mono ?_
      rintro e w1 ⟨i, n, rfl, hp, hb1⟩
      have HP := Lib.hid hp
      have HB1 := Lib.hid hb1
      clear hp hb1
      go_wp2_with fail
      refine (Jf.rfits_any x0 x1 x2 _ _ _ _ (B0.out.below HB1.out (Nat.le_refl _)) (B1.out.below HB1.out (Nat.le_refl _)) (B2.out.below HB1.out (Nat.le_refl _))).mono ?_
      rintro e w2 ⟨i2, n2, rfl, hp2, hb2⟩
      obtain ⟨rfl, rfl⟩ := Prod.mk.inj (hp2.trans HP.out.symm)
      have HB2 := Lib.hid (HB1.out.trans (hb2.mono HB1.out.size))
      clear hp2 hb2
      go_wp2_with fail
      refine (Jf.lfits_any _).mono ?_
      rintro e w3 ⟨rfl, hb3⟩
      have HB3 := Lib.hid (HB2.out.trans (hb3.mono HB2.out.size))
      clear hb3
      go_wp2
      go_ret
      exact ⟨rfl, HB3.out⟩

set_option maxRecDepth 100000 in
theorem contract (H : Type) (enc : TypeId × Value → H) (W : World) (base : Nat) (args : Array Value) (ds gs : List (DataW H)) (before : List MemPlace)
    (hval0 : ∀ (j : Nat) t v, Try.f3.params[j]? = some t → args[j]? = some v → Value.okWide Try.prog W .any base t v)
    (hW : DataW.Whole enc Try.prog Try.f3.params.toList Rows.judgeFitsSpec.vars false W args.toList ds gs before)
    (hsz0 : (DataW.weightsEach Try.prog (Try.f3.params.toList ++ Rows.judgeFitsSpec.plain.varTypes Try.prog) (ds ++ gs)).all (· ≤ reachBytes) = true) :
    Calls Try.prog 3 args W fun e W' => ∃ v, e = .returned v ∧ Rows.judgeFitsSpec.post enc Try.prog Try.f3 false true false false W args v W' := by
  have hval : ∀ (j : Nat) t v, Try.f3.params[j]? = some t → args[j]? = some v → Value.okWide Try.prog W .any base t v := hval0
  have hW' := hW
  obtain ⟨p, q, hA0, hV, rfl, hfz, hnd⟩ := hW
  have hA : DataW.TrodAll enc Try.prog W 0 (fun _ => true) true Try.f3.params.toList args.toList ds p := hA0
  rw [Try.params3] at hA hval
  have hsz := hsz0
  rw [Try.params3] at hsz
  obtain ⟨v0, vs0, d0, ds0, p0, q0, hargs, rfl, rfl, h0, r0⟩ := trodAll_cons hA
  obtain ⟨v1, vs1, d1, ds1, p1, q1, rfl, rfl, rfl, h1, r1⟩ := trodAll_cons r0
  obtain ⟨v2, vs2, d2, ds2, p2, q2, rfl, rfl, rfl, h2, r2⟩ := trodAll_cons r1
  obtain ⟨rfl, rfl, rfl⟩ := trodAll_nil r2
  obtain rfl : args = #[v0, v1, v2] := by cases args; simp_all
  obtain ⟨rfl, rfl⟩ := trodVars_none hV
  clear hA0 hval0
  have k0 := h0
  have lt0 : ∀ x ∈ p0, x.block < W.heap.size := by obtain ⟨m, hm⟩ := k0; exact DataW.trod_lt m _ _ _ hm
  have k1 := h1
  have lt1 : ∀ x ∈ p1, x.block < W.heap.size := by obtain ⟨m, hm⟩ := k1; exact DataW.trod_lt m _ _ _ hm
  have k2 := h2
  have lt2 : ∀ x ∈ p2, x.block < W.heap.size := by obtain ⟨m, hm⟩ := k2; exact DataW.trod_lt m _ _ _ hm
  obtain ⟨x0, w0, -⟩ := open_frms (hval 0 22 v0 rfl rfl) k0
  obtain ⟨x1, w1, -⟩ := open_strs (hval 1 23 v1 rfl rfl) k1
  obtain ⟨x2, w2, -⟩ := open_reps (hval 2 24 v2 rfl rfl) k2
  refine (walk v0 x0 v1 x1 v2 x2 W w0 w1 w2).mono fun e W' ⟨he, bel⟩ => ?_
  subst he
  exact ⟨_, rfl, _, _, _, [], _, [], hW', trodAll_mk1 (shut_bool Try.underlying4 _), (trodAll_cons_mk (Below.trod laidOut (by kernel_rfl) (of_decide_eq_true (by kernel_rfl)) k0 bel lt0) (trodAll_cons_mk (Below.trod laidOut (by kernel_rfl) (of_decide_eq_true (by kernel_rfl)) k1 bel lt1) (trodAll_cons_mk (Below.trod laidOut (by kernel_rfl) (of_decide_eq_true (by kernel_rfl)) k2 bel lt2) trodAll_mk0))), rfl, bel.frame _, fun h => by cases h⟩

set_option maxRecDepth 100000 in
theorem lifted (os : Os) (started : os.Started) (H : Type) (enc : TypeId × Value → H) :
    ReturnsInHanded {} Try.checked os 3 .any (Rows.judgeFitsSpec.pre6 enc Try.prog Try.f3 Rows.judgeFitsRow.domain false) (Rows.judgeFitsSpec.post enc Try.prog Try.f3 false true false false) := by
  refine returnsInHanded_of_change_sized (C := Try.checked) own started (by kernel_rfl) Try.func3
    (ChangeSpec.witness6 (enc := enc) (C := Try.checked) false ⟨#[], #[.slice none 0 0, .slice none 0 0, .slice none 0 0], []⟩ 8 (by kernel_rfl) (by kernel_rfl) (by kernel_rfl) (by kernel_rfl)) ?_
  intro W base args ds gs before hval0 hW hcnd hsz _
  exact contract H enc W base args ds gs before hval0 hW hsz

theorem proved : Rows.JudgeFitsSaid :=
  OpenClaim.holds_of_wide 3 Try.f3 rfl rfl rfl rfl rfl rfl rfl ⟨rfl, rfl, rfl, rfl, rfl⟩ rfl rfl rfl rfl rfl (by kernel_rfl) Try.func3 (by kernel_rfl)
    (of_decide_eq_true (by kernel_rfl)) (by unfold Func.isWrapper; first | (rw [if_pos (by decide +kernel)]; kernel_rfl) | (rw [if_neg (by decide +kernel)]; exact ⟨rfl, rfl⟩))
    (fun os started H enc _ => lifted os started H enc)
end Go.Proofs.Ytcgciefoojlpoaa.judgeFits
