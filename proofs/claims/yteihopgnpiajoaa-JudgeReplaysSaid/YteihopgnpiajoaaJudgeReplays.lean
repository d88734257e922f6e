/- The law JudgeReplays returns true for every limit and every list of observations: what is open behind them is told as the document says. No condition. -/
import Derived.Test.YteihopgnpiajoaaRd
import Derived.Test.YteihopgnpiajoaaJjL
namespace Go.Proofs.Yteihopgnpiajoaa.judgeReplays
open Go.ChangeShapes Go.WideShapes Go.ChangeAt Go.RowKit
open Go.ChangeMaps (open_string shut_string)
set_option linter.unusedVariables false

theorem own : ownKnob Try.prog.godebug = none := by kernel_rfl
theorem laidOut : laidOutB Try.prog = true := by kernel_rfl

set_option linter.unusedSimpArgs false
open Jj Go.Deep
set_option maxRecDepth 100000 in
set_option maxHeartbeats 16000000 in
theorem walk (a0 : Int) (v1 : Value) (x1 : (List Sx)) (w : World) (w0 : (Lit.int .i64 a0).wf = true) (w1 : IsSeens w v1 x1) (b1 : IsSeens.fits x1) :
    Calls Try.prog 4 #[.int .i64 a0, v1] w fun e w' => e = .returned (.bool true) ∧ Below w.heap.size w w' := by
  have HV := Lib.hid w1.1
  have HWF := Lib.hid w1.2
  have HLM : Hid (Mp.okI a0) := Lib.hid w0
  obtain ⟨a, cap, e0, h1, h2, -⟩ := id w1.1
  unfold maxLen at h2
  subst e0
  clear w1 b1 w0
  go_enter Try.func4, Try.ntmps4
  by_cases hl : 300 < x1.length
  · have hli : (300 : Int) < (x1.length : Int) := by omega
    go_wp2_with (refine (judges_any _).mono ?_; rintro e w2 ⟨rfl, hb⟩; have HB2 := Lib.hid hb; clear hb)
    go_ret
    exact ⟨rfl, HB2.out⟩
  have hli : ¬ (300 : Int) < (x1.length : Int) := by omega
  have hl3 : x1.length ≤ 300 := by omega
  go_wp2_with fail
  refine (replay_any _ HV.out HWF.out HLM.out (by omega)).mono ?_
  rintro e w2 ⟨u, cs, i, ee, rfl, hj, ho, hb, hz, hs⟩
  have HJ := Lib.hid hj
  have HB2 := Lib.hid hb
  have HO2 := Lib.hid ho
  have HS := Lib.hid (And.intro hz hs)
  clear hj ho hb hz hs
  go_wp2_with fail
  refine (rreplay_any _ (HV.out.below HB2.out (Nat.le_refl _)) (by omega)).mono ?_
  rintro e w3 ⟨u', cs', i', ee', rfl, hj, ho, hb, hz, hs⟩
  obtain ⟨rfl, rfl⟩ := hj.uniq HJ.out
  have hcc : cs = cs' := by
    symm
    by_cases q : ee' = 0
    · exact (hs q).uniq (HS.out.2 q)
    · rw [hz q, HS.out.1 q]
  subst hcc
  have HB3 := Lib.hid (HB2.out.trans (hb.mono HB2.out.size))
  have HO3 := Lib.hid ho
  have HO23 := Lib.hid (HO2.out.below hb (Nat.le_refl _))
  have HLN : Hid (cs.length ≤ 1000) := Lib.hid (by
    by_cases q : ee' = 0
    · have h1 := hs q
      have h2 := Mp.length_sub (a := cs) (c := openL x1) (show cs.Nodup from h1.1.imp (fun {a b} h (q : a = b) => by subst q; exact lt_irrefl h)) (fun c hc => (h1.2 c).1 hc)
      have h3 := open_len x1
      omega
    · rw [hz q]; simp)
  clear hj ho hb hz hs HO2 HB2 HJ HS
  obtain ⟨a1, c1, ho1⟩ := own_slice HO23.out
  obtain ⟨a2, c2, ho2⟩ := own_slice HO3.out
  subst ho1
  subst ho2
  have hcl : cs.length ≤ 1000 := HLN.out
  go_wp2_with fail
  go_loopw [40] (fun i wr => ∃ k : Nat, k ≤ cs.length ∧ i = .int .i64 (k : Int) ∧ Hid (Below w3.heap.size w3 wr)) (fun i _ => cs.length - (intOf i).toNat)
  case atStart => exact ⟨0, Nat.zero_le _, rfl, Lib.hid (Below.refl _ _)⟩
  case round =>
    obtain ⟨k, hk, rfl, HBD⟩ := hrel
    by_cases hlt : k < cs.length
    · have hlti : (k : Int) < (cs.length : Int) := by omega
      obtain ⟨b, off, cap1, e_b, -, hx_b, hy_b, hl_b, hc_b⟩ : ∃ b off cp, Value.slice a1 cs.length c1 = .slice (some ⟨b, off, none⟩) cs.length cp ∧ 0 < cs.length ∧ cs.length ≤ cp ∧ cp ≤ 9223372036854775807 ∧ b < w3.heap.size ∧ ∀ i x, cs[i]? = some x → ∀ j u, (cxC x)[j]? = some u → w3.cell? ⟨b, off + (i * 2 + j), none⟩ = some u := by
        rcases SlR.cases (HO23.out.sl cxC_len) with ⟨a2, c2, e, hnil⟩ | h
        · rw [hnil] at hlt; simp at hlt
        · exact h
      simp only [Value.slice.injEq] at e_b
      obtain ⟨rfl, -, rfl⟩ := e_b
      obtain ⟨b2, off2, cap2, e_b2, -, hx_b2, hy_b2, hl_b2, hc_b2⟩ : ∃ b off cp, Value.slice a2 cs.length c2 = .slice (some ⟨b, off, none⟩) cs.length cp ∧ 0 < cs.length ∧ cs.length ≤ cp ∧ cp ≤ 9223372036854775807 ∧ b < w3.heap.size ∧ ∀ i x, cs[i]? = some x → ∀ j u, (cxC x)[j]? = some u → w3.cell? ⟨b, off + (i * 2 + j), none⟩ = some u := by
        rcases SlR.cases (HO3.out.sl cxC_len) with ⟨a2, c2, e, hnil⟩ | h
        · rw [hnil] at hlt; simp at hlt
        · exact h
      simp only [Value.slice.injEq] at e_b2
      obtain ⟨rfl, -, rfl⟩ := e_b2
      have HR1 : Hid (wr.drew.rangeAt b (off + k * 2) (cxC cs[k])) := Lib.hid (fun j v hv => by rw [Nat.add_assoc]; exact (HBD.out.cell (p := ⟨b, off + (k * 2 + j), none⟩) hl_b).trans (hc_b k _ (rgetD hlt) j v hv))
      have HR2 : Hid (wr.drew.rangeAt b2 (off2 + k * 2) (cxC cs[k])) := Lib.hid (fun j v hv => by rw [Nat.add_assoc]; exact (HBD.out.cell (p := ⟨b2, off2 + (k * 2 + j), none⟩) hl_b2).trans (hc_b2 k _ (rgetD hlt) j v hv))
      clear hc_b hc_b2
      generalize cs[k] = y at *
      have hk3 : k * 2 < 9223372036854775807 := by omega
      go_upto_region 10 with fail
      refine Wl.start 999 (fun _ => True) (fun u => u.rangeAt b (off + k * 2) (cxC y) ∧ u.rangeAt b2 (off2 + k * 2) (cxC y)) (by kernel_rfl) trivial ⟨HR1.out, HR2.out⟩ (fun hk => ?_)
      refine Wl.take0 (i := 0) (v := .slice (some ⟨b, off, none⟩) cs.length c1) rfl (by kernel_rfl) (by kernel_rfl) (by kernel_rfl) (by kernel_rfl) (fun _ _ _ h => h) (.inl ⟨by kernel_rfl, ?_⟩) hk ?_
      · intro wx hSw
        clear hSw hk
        go_simp
        try first | with_reducible rfl | kernel_rfl
      simp only [Act.put, List.getElem_toArray, List.getElem_cons_succ, List.getElem_cons_zero, List.setIfInBounds_toArray, List.set_cons_succ, List.set_cons_zero]
      refine Wl.take0 (i := 1) (v := .int .i64 (k : Int)) rfl (by kernel_rfl) (by kernel_rfl) (by kernel_rfl) (by kernel_rfl) (fun _ _ _ h => h) (.inl ⟨by kernel_rfl, ?_⟩) hk ?_
      · intro wx hSw
        clear hSw hk
        go_simp
        try first | with_reducible rfl | kernel_rfl
      simp only [Act.put, List.getElem_toArray, List.getElem_cons_succ, List.getElem_cons_zero, List.setIfInBounds_toArray, List.set_cons_succ, List.set_cons_zero]
      refine Wl.take0 (i := 2) (v := .pointer (some ⟨b, off + k * 2, none⟩)) rfl (by kernel_rfl) (by kernel_rfl) (by kernel_rfl) (by kernel_rfl) (fun _ _ _ h => h) (.inl ⟨by kernel_rfl, ?_⟩) hk ?_
      · intro wx hSw
        clear hSw hk
        go_simp
        try first | with_reducible rfl | kernel_rfl
      simp only [Act.put, List.getElem_toArray, List.getElem_cons_succ, List.getElem_cons_zero, List.setIfInBounds_toArray, List.set_cons_succ, List.set_cons_zero]
      refine Wl.take0 (i := 3) (v := .agg (cxC y).toArray) rfl (by kernel_rfl) (by kernel_rfl) (by kernel_rfl) (by kernel_rfl) (fun _ _ _ h => h) (yieldsIf_load_mid (by rfl) _ _ rfl _ _ rfl (cxC y) _ (fun w h => h.1) Try.underlying34 rfl (by kernel_rfl)) hk ?_
      simp only [Act.put, List.getElem_toArray, List.getElem_cons_succ, List.getElem_cons_zero, List.setIfInBounds_toArray, List.set_cons_succ, List.set_cons_zero]
      refine Wl.take0 (i := 4) (v := .slice (some ⟨b2, off2, none⟩) cs.length c2) rfl (by kernel_rfl) (by kernel_rfl) (by kernel_rfl) (by kernel_rfl) (fun _ _ _ h => h) (.inl ⟨by kernel_rfl, ?_⟩) hk ?_
      · intro wx hSw
        clear hSw hk
        go_simp
        try first | with_reducible rfl | kernel_rfl
      simp only [Act.put, List.getElem_toArray, List.getElem_cons_succ, List.getElem_cons_zero, List.setIfInBounds_toArray, List.set_cons_succ, List.set_cons_zero]
      refine Wl.take0 (i := 5) (v := .int .i64 (k : Int)) rfl (by kernel_rfl) (by kernel_rfl) (by kernel_rfl) (by kernel_rfl) (fun _ _ _ h => h) (.inl ⟨by kernel_rfl, ?_⟩) hk ?_
      · intro wx hSw
        clear hSw hk
        go_simp
        try first | with_reducible rfl | kernel_rfl
      simp only [Act.put, List.getElem_toArray, List.getElem_cons_succ, List.getElem_cons_zero, List.setIfInBounds_toArray, List.set_cons_succ, List.set_cons_zero]
      refine Wl.take0 (i := 6) (v := .pointer (some ⟨b2, off2 + k * 2, none⟩)) rfl (by kernel_rfl) (by kernel_rfl) (by kernel_rfl) (by kernel_rfl) (fun _ _ _ h => h) (.inl ⟨by kernel_rfl, ?_⟩) hk ?_
      · intro wx hSw
        clear hSw hk
        go_simp
        try first | with_reducible rfl | kernel_rfl
      simp only [Act.put, List.getElem_toArray, List.getElem_cons_succ, List.getElem_cons_zero, List.setIfInBounds_toArray, List.set_cons_succ, List.set_cons_zero]
      refine Wl.take0 (i := 7) (v := .agg (cxC y).toArray) rfl (by kernel_rfl) (by kernel_rfl) (by kernel_rfl) (by kernel_rfl) (fun _ _ _ h => h) (yieldsIf_load_mid (by rfl) _ _ rfl _ _ rfl (cxC y) _ (fun w h => h.2) Try.underlying34 rfl (by kernel_rfl)) hk ?_
      simp only [Act.put, List.getElem_toArray, List.getElem_cons_succ, List.getElem_cons_zero, List.setIfInBounds_toArray, List.set_cons_succ, List.set_cons_zero]
      refine Wl.take0 (i := 8) (v := .bool false) rfl (by kernel_rfl) (by kernel_rfl) (by kernel_rfl) (by kernel_rfl) (fun _ _ _ h => h) (.inl ⟨by kernel_rfl, ?_⟩) hk ?_
      · intro wx hSw
        clear hSw hk
        go_simp
        try first | with_reducible rfl | kernel_rfl
      simp only [Act.put, List.getElem_toArray, List.getElem_cons_succ, List.getElem_cons_zero, List.setIfInBounds_toArray, List.set_cons_succ, List.set_cons_zero]
      refine Wl.done (by kernel_rfl) ?_ _
      clear hk
      go_wp2_with fail
      go_roundw
      case rel => exact ⟨k + 1, by omega, by go_num, Lib.hid HBD.out.drew⟩
      case measure => simp [intOf]; omega
    · obtain rfl : k = cs.length := by omega
      have HBF := Lib.hid (HB3.out.trans (HBD.out.mono HB3.out.size))
      obtain ⟨W6, hW6⟩ : ∃ q, wr.alloc (.cells #[.int .i64 1, .int .i64 1, .int .i64 1] TS) = q := ⟨_, rfl⟩
      have HV6 : Hid (SlR 3 sxC W6 (.slice (some ⟨wr.heap.size, 0, none⟩) 1 1) [⟨1, 1, 1⟩]) := Lib.hid (by rw [← hW6]; exact SlR.lit sxC_len wr _ rfl _ _ 1 rfl (by decide) rfl)
      have HB6 : Hid (Below w.heap.size w W6) := Lib.hid (by rw [← hW6]; exact HBF.out.alloc HBF.out.size _)
      have h2o : Mp.okI 2 := by unfold Mp.okI; decide
      go_wp2_with fail
      clear hW6
      refine (replay_any _ HV6.out (fun x hx => wf_small x (by simp only [List.mem_cons, List.not_mem_nil, or_false] at hx; subst hx; decide)) h2o (by simp)).mono ?_
      rintro e w7 ⟨u7, cs7, i7, ee7, rfl, hj, ho, hb, hz, hs⟩
      obtain ⟨rfl, rfl⟩ := hj.uniq ex3
      have hc7 := (hs rfl).uniq ex3_open
      subst hc7
      have HB7 := Lib.hid (HB6.out.trans (hb.mono HB6.out.size))
      obtain ⟨a7, c7, ho7⟩ := own_slice ho
      subst ho7
      clear hj ho hb hz hs
      go_wp2_with fail
      go_ret
      exact ⟨rfl, HB7.out⟩

set_option maxRecDepth 100000 in
theorem contract (H : Type) (enc : TypeId × Value → H) (W : World) (base : Nat) (args : Array Value) (ds gs : List (DataW H)) (before : List MemPlace)
    (hval0 : ∀ (j : Nat) t v, Try.f4.params[j]? = some t → args[j]? = some v → Value.okWide Try.prog W .any base t v)
    (hW : DataW.Whole enc Try.prog Try.f4.params.toList Rows.judgeReplaysSpec.vars false W args.toList ds gs before)
    (hsz0 : (DataW.weightsEach Try.prog (Try.f4.params.toList ++ Rows.judgeReplaysSpec.plain.varTypes Try.prog) (ds ++ gs)).all (· ≤ reachBytes) = true) :
    Calls Try.prog 4 args W fun e W' => ∃ v, e = .returned v ∧ Rows.judgeReplaysSpec.post enc Try.prog Try.f4 false true false false W args v W' := by
  have hval : ∀ (j : Nat) t v, Try.f4.params[j]? = some t → args[j]? = some v → Value.okWide Try.prog W .any base t v := hval0
  have hW' := hW
  obtain ⟨p, q, hA0, hV, rfl, hfz, hnd⟩ := hW
  have hA : DataW.TrodAll enc Try.prog W 0 (fun _ => true) true Try.f4.params.toList args.toList ds p := hA0
  rw [Try.params4] at hA hval
  have hsz := hsz0
  rw [Try.params4] at hsz
  obtain ⟨v0, vs0, d0, ds0, p0, q0, hargs, rfl, rfl, h0, r0⟩ := trodAll_cons hA
  obtain ⟨v1, vs1, d1, ds1, p1, q1, rfl, rfl, rfl, h1, r1⟩ := trodAll_cons r0
  obtain ⟨rfl, rfl, rfl⟩ := trodAll_nil r1
  obtain rfl : args = #[v0, v1] := by cases args; simp_all
  obtain ⟨rfl, rfl⟩ := trodVars_none hV
  clear hA0 hval0
  have k0 := h0
  have lt0 : ∀ x ∈ p0, x.block < W.heap.size := by obtain ⟨m, hm⟩ := k0; exact DataW.trod_lt m _ _ _ hm
  have k1 := h1
  have lt1 : ∀ x ∈ p1, x.block < W.heap.size := by obtain ⟨m, hm⟩ := k1; exact DataW.trod_lt m _ _ _ hm
  obtain ⟨a0, rfl, -, -, w0⟩ := open_int Try.underlying3 (hval 0 3 v0 rfl rfl) h0
  obtain ⟨x1, w1, -, s1⟩ := open_sxC (hval 1 22 v1 rfl rfl) k1
  have b1 : IsSeens.fits x1 := s1 (wt_arg hsz (j := 1) rfl rfl)
  refine (walk a0 v1 x1 W w0 w1 b1).mono fun e W' ⟨he, bel⟩ => ?_
  subst he
  exact ⟨_, rfl, _, _, _, [], _, [], hW', trodAll_mk1 (shut_bool Try.underlying4 _), (trodAll_cons_mk (Below.trod laidOut (by kernel_rfl) (of_decide_eq_true (by kernel_rfl)) k0 bel lt0) (trodAll_cons_mk (Below.trod laidOut (by kernel_rfl) (of_decide_eq_true (by kernel_rfl)) k1 bel lt1) trodAll_mk0)), rfl, bel.frame _, fun h => by cases h⟩

set_option maxRecDepth 100000 in
theorem lifted (os : Os) (started : os.Started) (H : Type) (enc : TypeId × Value → H) :
    ReturnsInHanded {} Try.checked os 4 .any (Rows.judgeReplaysSpec.pre6 enc Try.prog Try.f4 Rows.judgeReplaysRow.domain false) (Rows.judgeReplaysSpec.post enc Try.prog Try.f4 false true false false) := by
  refine returnsInHanded_of_change_sized (C := Try.checked) own started (by kernel_rfl) Try.func4
    (ChangeSpec.witness6 (enc := enc) (C := Try.checked) false ⟨#[], #[.int .i64 0, .slice none 0 0], []⟩ 8 (by kernel_rfl) (by kernel_rfl) (by kernel_rfl) (by kernel_rfl)) ?_
  intro W base args ds gs before hval0 hW hcnd hsz _
  exact contract H enc W base args ds gs before hval0 hW hsz

theorem proved : Rows.JudgeReplaysSaid :=
  OpenClaim.holds_of_wide 4 Try.f4 rfl rfl rfl rfl rfl rfl rfl ⟨rfl, rfl, rfl, rfl, rfl⟩ rfl rfl rfl rfl rfl (by kernel_rfl) Try.func4 (by kernel_rfl)
    (of_decide_eq_true (by kernel_rfl)) (by unfold Func.isWrapper; first | (rw [if_pos (by decide +kernel)]; kernel_rfl) | (rw [if_neg (by decide +kernel)]; exact ⟨rfl, rfl⟩))
    (fun os started H enc _ => lifted os started H enc)
end Go.Proofs.Yteihopgnpiajoaa.judgeReplays
