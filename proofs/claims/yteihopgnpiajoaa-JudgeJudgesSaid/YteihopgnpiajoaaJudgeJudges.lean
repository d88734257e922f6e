/- The law JudgeJudges returns true for every limit and every list of observations: each is judged as the document says, the argument stays as it was, and the chapter's first examples hold. No condition. -/
import Derived.Test.YteihopgnpiajoaaRd
import Derived.Test.YteihopgnpiajoaaJjG
namespace Go.Proofs.Yteihopgnpiajoaa.judgeJudges
open Go.ChangeShapes Go.WideShapes Go.ChangeAt Go.RowKit
open Go.ChangeMaps (open_string shut_string)
set_option linter.unusedVariables false

theorem own : ownKnob Try.prog.godebug = none := by kernel_rfl
theorem laidOut : laidOutB Try.prog = true := by kernel_rfl

set_option linter.unusedSimpArgs false
open Jj Go.Deep
set_option maxRecDepth 100000 in
set_option maxHeartbeats 8000000 in
theorem walk (a0 : Int) (v1 : Value) (x1 : (List Sx)) (w : World) (w0 : (Lit.int .i64 a0).wf = true) (w1 : IsSeens w v1 x1) (b1 : IsSeens.fits x1) :
    Calls Try.prog 3 #[.int .i64 a0, v1] w fun e w' => e = .returned (.bool true) ∧ Below w.heap.size w w' := by
  have HV := Lib.hid w1.1
  have HWF := Lib.hid w1.2
  have HLM : Hid (Mp.okI a0) := Lib.hid w0
  obtain ⟨a, cap, e0, h1, h2, -⟩ := id w1.1
  unfold maxLen at h2
  subst e0
  clear w1 b1 w0
  go_enter Try.func3, Try.ntmps3
  by_cases hl : 300 < x1.length
  · have hli : (300 : Int) < (x1.length : Int) := by omega
    go_wp2_with (refine (judges_any _).mono ?_; rintro e w2 ⟨rfl, hb⟩; have HB2 := Lib.hid hb; clear hb)
    go_ret
    exact ⟨rfl, HB2.out⟩
  have hli : ¬ (300 : Int) < (x1.length : Int) := by omega
  have hl3 : x1.length ≤ 300 := by omega
  go_wp2_with (at_builtin; refine appR sxC_len sxC_one Try.underlying22 rfl (by decide) info_sx rfl _ _ rfl w.heap.size (.slice none 0 0) ([] : List Sx) rfl (OwnR.nil _ _ _) _ x1 rfl HV.out (by simp only [List.length_nil]; unfold maxLen; omega) (by simp only [List.length_nil]; omega) (Nat.le_refl _) ?_; intro v2 w2 own2 hb2; rw [List.nil_append] at own2; have HO2 := Lib.hid own2; have HB2 := Lib.hid hb2; clear own2 hb2)
  refine (judge_any _ (HO2.out.sl sxC_len) HWF.out HLM.out).mono ?_
  rintro e w3 ⟨i, ee, rfl, hj, hb⟩
  have HJ := Lib.hid hj
  have HB3 := Lib.hid (HB2.out.trans (hb.mono HB2.out.size))
  have HO3 := Lib.hid (HO2.out.below hb (Nat.le_refl _))
  clear hj hb HO2
  go_wp2_with fail
  refine (rjudge_any _ (HV.out.below HB3.out (Nat.le_refl _)) (by omega)).mono ?_
  rintro e w4 ⟨i2, ee2, rfl, hj, hb⟩
  obtain ⟨rfl, rfl⟩ := hj.uniq HJ.out
  have HB4 := Lib.hid (HB3.out.trans (hb.mono HB3.out.size))
  have HO4 := Lib.hid (HO3.out.below hb (Nat.le_refl _))
  clear hj hb HO3
  obtain ⟨ao, co, ho⟩ := own_slice HO4.out
  subst ho
  go_wp2_with fail
  go_loopw [31] (fun i wr => ∃ k : Nat, k ≤ x1.length ∧ i = .int .i64 (k : Int) ∧ Hid (Below w4.heap.size w4 wr)) (fun i _ => x1.length - (intOf i).toNat)
  case atStart => exact ⟨0, Nat.zero_le _, rfl, Lib.hid (Below.refl _ _)⟩
  case round =>
    obtain ⟨k, hk, rfl, HBD⟩ := hrel
    by_cases hlt : k < x1.length
    · have hlti : (k : Int) < (x1.length : Int) := by omega
      have hbw : Below w.heap.size w wr := HB4.out.trans (HBD.out.mono HB4.out.size)
      obtain ⟨b, off, cp, e1, -, hx1, hx2, hbl, hcs⟩ : ∃ b off cp, Value.slice a x1.length cap = .slice (some ⟨b, off, none⟩) x1.length cp ∧ 0 < x1.length ∧ x1.length ≤ cp ∧ cp ≤ 9223372036854775807 ∧ b < w.heap.size ∧ ∀ i x, x1[i]? = some x → ∀ j u, (sxC x)[j]? = some u → w.cell? ⟨b, off + (i * 3 + j), none⟩ = some u := by
        rcases SlR.cases HV.out with ⟨a2, c2, e, hnil⟩ | h
        · rw [hnil] at hlt; simp at hlt
        · exact h
      obtain ⟨b2, off2, cp2, e2, -, hy1, hy2, hbl2, hcs2⟩ : ∃ b off cp, Value.slice ao x1.length co = .slice (some ⟨b, off, none⟩) x1.length cp ∧ 0 < x1.length ∧ x1.length ≤ cp ∧ cp ≤ 9223372036854775807 ∧ b < w4.heap.size ∧ ∀ i x, x1[i]? = some x → ∀ j u, (sxC x)[j]? = some u → w4.cell? ⟨b, off + (i * 3 + j), none⟩ = some u := by
        rcases SlR.cases (HO4.out.sl sxC_len) with ⟨a2, c2, e, hnil⟩ | h
        · rw [hnil] at hlt; simp at hlt
        · exact h
      simp only [Value.slice.injEq] at e1 e2
      obtain ⟨rfl, -, rfl⟩ := e1
      obtain ⟨rfl, -, rfl⟩ := e2
      have HR1 : Hid (wr.drew.rangeAt b (off + k * 3) (sxC x1[k])) := Lib.hid (fun j v hv => by rw [Nat.add_assoc]; exact (hbw.cell (p := ⟨b, off + (k * 3 + j), none⟩) hbl).trans (hcs k _ (rgetD hlt) j v hv))
      have HR2 : Hid (wr.drew.rangeAt b2 (off2 + k * 3) (sxC x1[k])) := Lib.hid (fun j v hv => by rw [Nat.add_assoc]; exact (HBD.out.cell (p := ⟨b2, off2 + (k * 3 + j), none⟩) hbl2).trans (hcs2 k _ (rgetD hlt) j v hv))
      clear hcs hcs2 hbw
      generalize x1[k] = y at *
      have hk3 : k * 3 < 9223372036854775807 := by omega
      go_upto_region 9 with fail
      refine Wl.start 999 (fun _ => True) (fun u => u.rangeAt b (off + k * 3) (sxC y) ∧ u.rangeAt b2 (off2 + k * 3) (sxC y)) (by kernel_rfl) trivial ⟨HR1.out, HR2.out⟩ (fun hk => ?_)
      refine Wl.take0 (i := 0) (v := .slice (some ⟨b2, off2, none⟩) x1.length co) rfl (by kernel_rfl) (by kernel_rfl) (by kernel_rfl) (by kernel_rfl) (fun _ _ _ h => h) (.inl ⟨by kernel_rfl, ?_⟩) hk ?_
      · intro wx hSw
        clear hSw hk
        go_simp
        try first | with_reducible rfl | kernel_rfl
      simp only [Act.put, List.getElem_toArray, List.getElem_cons_succ, List.getElem_cons_zero, List.setIfInBounds_toArray, List.set_cons_succ, List.set_cons_zero]
      refine Wl.take0 (i := 1) (v := .int .i64 (k : Int)) rfl (by kernel_rfl) (by kernel_rfl) (by kernel_rfl) (by kernel_rfl) (fun _ _ _ h => h) (.inl ⟨by kernel_rfl, ?_⟩) hk ?_
      · intro wx hSw
        clear hSw hk
        go_simp
        try first | with_reducible rfl | kernel_rfl
      simp only [Act.put, List.getElem_toArray, List.getElem_cons_succ, List.getElem_cons_zero, List.setIfInBounds_toArray, List.set_cons_succ, List.set_cons_zero]
      refine Wl.take0 (i := 2) (v := .pointer (some ⟨b2, off2 + k * 3, none⟩)) rfl (by kernel_rfl) (by kernel_rfl) (by kernel_rfl) (by kernel_rfl) (fun _ _ _ h => h) (.inl ⟨by kernel_rfl, ?_⟩) hk ?_
      · intro wx hSw
        clear hSw hk
        go_simp
        try first | with_reducible rfl | kernel_rfl
      simp only [Act.put, List.getElem_toArray, List.getElem_cons_succ, List.getElem_cons_zero, List.setIfInBounds_toArray, List.set_cons_succ, List.set_cons_zero]
      refine Wl.take0 (i := 3) (v := .agg (sxC y).toArray) rfl (by kernel_rfl) (by kernel_rfl) (by kernel_rfl) (by kernel_rfl) (fun _ _ _ h => h) (yieldsIf_load_mid (by rfl) _ _ rfl _ _ rfl (sxC y) _ (fun w h => h.2) Try.underlying28 rfl (by kernel_rfl)) hk ?_
      simp only [Act.put, List.getElem_toArray, List.getElem_cons_succ, List.getElem_cons_zero, List.setIfInBounds_toArray, List.set_cons_succ, List.set_cons_zero]
      refine Wl.take0 (i := 4) (v := .slice (some ⟨b, off, none⟩) x1.length cap) rfl (by kernel_rfl) (by kernel_rfl) (by kernel_rfl) (by kernel_rfl) (fun _ _ _ h => h) (.inl ⟨by kernel_rfl, ?_⟩) hk ?_
      · intro wx hSw
        clear hSw hk
        go_simp
        try first | with_reducible rfl | kernel_rfl
      simp only [Act.put, List.getElem_toArray, List.getElem_cons_succ, List.getElem_cons_zero, List.setIfInBounds_toArray, List.set_cons_succ, List.set_cons_zero]
      refine Wl.take0 (i := 5) (v := .int .i64 (k : Int)) rfl (by kernel_rfl) (by kernel_rfl) (by kernel_rfl) (by kernel_rfl) (fun _ _ _ h => h) (.inl ⟨by kernel_rfl, ?_⟩) hk ?_
      · intro wx hSw
        clear hSw hk
        go_simp
        try first | with_reducible rfl | kernel_rfl
      simp only [Act.put, List.getElem_toArray, List.getElem_cons_succ, List.getElem_cons_zero, List.setIfInBounds_toArray, List.set_cons_succ, List.set_cons_zero]
      refine Wl.take0 (i := 6) (v := .pointer (some ⟨b, off + k * 3, none⟩)) rfl (by kernel_rfl) (by kernel_rfl) (by kernel_rfl) (by kernel_rfl) (fun _ _ _ h => h) (.inl ⟨by kernel_rfl, ?_⟩) hk ?_
      · intro wx hSw
        clear hSw hk
        go_simp
        try first | with_reducible rfl | kernel_rfl
      simp only [Act.put, List.getElem_toArray, List.getElem_cons_succ, List.getElem_cons_zero, List.setIfInBounds_toArray, List.set_cons_succ, List.set_cons_zero]
      refine Wl.take0 (i := 7) (v := .agg (sxC y).toArray) rfl (by kernel_rfl) (by kernel_rfl) (by kernel_rfl) (by kernel_rfl) (fun _ _ _ h => h) (yieldsIf_load_mid (by rfl) _ _ rfl _ _ rfl (sxC y) _ (fun w h => h.1) Try.underlying28 rfl (by kernel_rfl)) hk ?_
      simp only [Act.put, List.getElem_toArray, List.getElem_cons_succ, List.getElem_cons_zero, List.setIfInBounds_toArray, List.set_cons_succ, List.set_cons_zero]
      refine Wl.take0 (i := 8) (v := .bool false) rfl (by kernel_rfl) (by kernel_rfl) (by kernel_rfl) (by kernel_rfl) (fun _ _ _ h => h) (.inl ⟨by kernel_rfl, ?_⟩) hk ?_
      · intro wx hSw
        clear hSw hk
        go_simp
        try first | with_reducible rfl | kernel_rfl
      simp only [Act.put, List.getElem_toArray, List.getElem_cons_succ, List.getElem_cons_zero, List.setIfInBounds_toArray, List.set_cons_succ, List.set_cons_zero]
      refine Wl.done (by kernel_rfl) ?_ _
      clear hk
      go_wp2_with fail
      go_roundw
      case rel => exact ⟨k + 1, by omega, by go_num, Lib.hid HBD.out.drew⟩
      case measure => simp [intOf]; omega
    · obtain rfl : k = x1.length := by omega
      have HBF := Lib.hid (HB4.out.trans (HBD.out.mono HB4.out.size))
      go_wp2_with (refine (judges_any _).mono ?_; rintro e w5 ⟨rfl, hb⟩; have HB5 := Lib.hid (HBF.out.trans (hb.mono HBF.out.size)); clear hb)
      go_ret
      exact ⟨rfl, HB5.out⟩

set_option maxRecDepth 100000 in
theorem contract (H : Type) (enc : TypeId × Value → H) (W : World) (base : Nat) (args : Array Value) (ds gs : List (DataW H)) (before : List MemPlace)
    (hval0 : ∀ (j : Nat) t v, Try.f3.params[j]? = some t → args[j]? = some v → Value.okWide Try.prog W .any base t v)
    (hW : DataW.Whole enc Try.prog Try.f3.params.toList Rows.judgeJudgesSpec.vars false W args.toList ds gs before)
    (hsz0 : (DataW.weightsEach Try.prog (Try.f3.params.toList ++ Rows.judgeJudgesSpec.plain.varTypes Try.prog) (ds ++ gs)).all (· ≤ reachBytes) = true) :
    Calls Try.prog 3 args W fun e W' => ∃ v, e = .returned v ∧ Rows.judgeJudgesSpec.post enc Try.prog Try.f3 false true false false W args v W' := by
  have hval : ∀ (j : Nat) t v, Try.f3.params[j]? = some t → args[j]? = some v → Value.okWide Try.prog W .any base t v := hval0
  have hW' := hW
  obtain ⟨p, q, hA0, hV, rfl, hfz, hnd⟩ := hW
  have hA : DataW.TrodAll enc Try.prog W 0 (fun _ => true) true Try.f3.params.toList args.toList ds p := hA0
  rw [Try.params3] at hA hval
  have hsz := hsz0
  rw [Try.params3] at hsz
  obtain ⟨v0, vs0, d0, ds0, p0, q0, hargs, rfl, rfl, h0, r0⟩ := trodAll_cons hA
  obtain ⟨v1, vs1, d1, ds1, p1, q1, rfl, rfl, rfl, h1, r1⟩ := trodAll_cons r0
  obtain ⟨rfl, rfl, rfl⟩ := trodAll_nil r1
  obtain rfl : args = #[v0, v1] := by cases args; simp_all
  obtain ⟨rfl, rfl⟩ := trodVars_none hV
  clear hA0 hval0
  have k0 := h0
  have lt0 : ∀ x ∈ p0, x.block < W.heap.size := by obtain ⟨m, hm⟩ := k0; exact DataW.trod_lt m _ _ _ hm
  have k1 := h1
  have lt1 : ∀ x ∈ p1, x.block < W.heap.size := by obtain ⟨m, hm⟩ := k1; exact DataW.trod_lt m _ _ _ hm
  obtain ⟨a0, rfl, -, -, w0⟩ := open_int Try.underlying3 (hval 0 3 v0 rfl rfl) h0
  obtain ⟨x1, w1, -, s1⟩ := open_sxC (hval 1 22 v1 rfl rfl) k1
  have b1 : IsSeens.fits x1 := s1 (wt_arg hsz (j := 1) rfl rfl)
  refine (walk a0 v1 x1 W w0 w1 b1).mono fun e W' ⟨he, bel⟩ => ?_
  subst he
  exact ⟨_, rfl, _, _, _, [], _, [], hW', trodAll_mk1 (shut_bool Try.underlying4 _), (trodAll_cons_mk (Below.trod laidOut (by kernel_rfl) (of_decide_eq_true (by kernel_rfl)) k0 bel lt0) (trodAll_cons_mk (Below.trod laidOut (by kernel_rfl) (of_decide_eq_true (by kernel_rfl)) k1 bel lt1) trodAll_mk0)), rfl, bel.frame _, fun h => by cases h⟩

set_option maxRecDepth 100000 in
theorem lifted (os : Os) (started : os.Started) (H : Type) (enc : TypeId × Value → H) :
    ReturnsInHanded {} Try.checked os 3 .any (Rows.judgeJudgesSpec.pre6 enc Try.prog Try.f3 Rows.judgeJudgesRow.domain false) (Rows.judgeJudgesSpec.post enc Try.prog Try.f3 false true false false) := by
  refine returnsInHanded_of_change_sized (C := Try.checked) own started (by kernel_rfl) Try.func3
    (ChangeSpec.witness6 (enc := enc) (C := Try.checked) false ⟨#[], #[.int .i64 0, .slice none 0 0], []⟩ 8 (by kernel_rfl) (by kernel_rfl) (by kernel_rfl) (by kernel_rfl)) ?_
  intro W base args ds gs before hval0 hW hcnd hsz _
  exact contract H enc W base args ds gs before hval0 hW hsz

theorem proved : Rows.JudgeJudgesSaid :=
  OpenClaim.holds_of_wide 3 Try.f3 rfl rfl rfl rfl rfl rfl rfl ⟨rfl, rfl, rfl, rfl, rfl⟩ rfl rfl rfl rfl rfl (by kernel_rfl) Try.func3 (by kernel_rfl)
    (of_decide_eq_true (by kernel_rfl)) (by unfold Func.isWrapper; first | (rw [if_pos (by decide +kernel)]; kernel_rfl) | (rw [if_neg (by decide +kernel)]; exact ⟨rfl, rfl⟩))
    (fun os started H enc _ => lifted os started H enc)
end Go.Proofs.Yteihopgnpiajoaa.judgeJudges
