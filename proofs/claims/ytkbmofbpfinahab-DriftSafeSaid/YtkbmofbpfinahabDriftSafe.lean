/- The law DriftSafe returns true for every rho, every lease and every two lists of goes: while one clock goes on by less than Short of a lease, and another by the lease or more, less real time goes by for the first. No condition. -/
import Derived.Test.YtkbmofbpfinahabSl
import Derived.Test.YtkbmofbpfinahabDriftG
namespace Go.Proofs.Ytkbmofbpfinahab.driftSafe
open Go.ChangeShapes Go.WideShapes Go.ChangeAt Go.RowKit
open Go.ChangeMaps (open_string shut_string)
set_option linter.unusedVariables false

theorem own : ownKnob Try.prog.godebug = none := by kernel_rfl
theorem laidOut : laidOutB Try.prog = true := by kernel_rfl

theorem short_ex (w : World) : Calls Try.prog 22 #[] w fun e w' => e = .returned (.bool true) ∧ w = w' := by
  have hk : (Dr.sh 100 1000 == 818) = true := by decide
  go_enter Try.func22, Try.ntmps22
  go_wp2_with fail
  refine (Dr.short_yes _ _ _ (by decide)).mono ?_
  rintro e w' ⟨rfl, rfl⟩
  go_wp2
  go_ret
  exact ⟨rfl, rfl⟩

theorem safe {r l : Int} (h0 : 0 ≤ r) (h1 : r ≤ 500) (h2 : 1 ≤ l) {p q : Int × Int} (hp : Dr.GoOk r p) (hq : Dr.GoOk r q) (hc : p.2 < Dr.sh r l) (hd : l ≤ q.2) : p.1 < q.1 := by
  obtain ⟨_, _, _, _, p5, _⟩ := hp
  obtain ⟨_, _, _, _, _, q6⟩ := hq
  have e1 : (p.2 + 1) * (1000 + r) ≤ l * (1000 - r) := (Int.le_ediv_iff_mul_le (by omega)).1 (show p.2 + 1 ≤ l * (1000 - r) / (1000 + r) from hc)
  rcases Int.lt_or_le p.1 q.1 with h | h
  · exact h
  · exfalso
    have a1 : (1000 - r) * q.1 ≤ (1000 - r) * p.1 := Int.mul_le_mul_of_nonneg_left h (by omega)
    have a2 : (1000 + r) * ((1000 - r) * q.1) ≤ (1000 + r) * (1000 * p.2) := Int.mul_le_mul_of_nonneg_left (by omega) (by omega)
    have a3 : (1000 - r) * (1000 * l) ≤ (1000 - r) * ((1000 + r) * q.1) := Int.mul_le_mul_of_nonneg_left (by omega) (by omega)
    have a4 : (1000 - r) * ((1000 + r) * q.1) = (1000 + r) * ((1000 - r) * q.1) := Int.mul_left_comm _ _ _
    have a5 : (1000 - r) * (1000 * l) = 1000 * (l * (1000 - r)) := by rw [Int.mul_left_comm, Int.mul_comm (1000 - r) l]
    have a6 : (1000 + r) * (1000 * p.2) = 1000 * (p.2 * (1000 + r)) := by rw [Int.mul_left_comm, Int.mul_comm (1000 + r) p.2]
    have a7 : (p.2 + 1) * (1000 + r) = p.2 * (1000 + r) + (1000 + r) := by rw [Int.add_mul, Int.one_mul]
    omega
set_option maxHeartbeats 400000 in
theorem walk (a0 : Int) (a1 : Int) (v2 : Value) (x2 : List (Int × Int)) (v3 : Value) (x3 : List (Int × Int)) (w : World) (w0 : (Lit.int .i64 a0).wf = true) (w1 : (Lit.int .i64 a1).wf = true) (w2 : Dr.IsGos w v2 x2) (w3 : Dr.IsGos w v3 x3) :
    Calls Try.prog 10 #[.int .i64 a0, .int .i64 a1, v2, v3] w fun e w' => e = .returned (.bool true) ∧ Below w.heap.size w w' := by
  obtain ⟨c2, cap2, hv2, -⟩ := id w2
  obtain ⟨c3, cap3, hv3, -⟩ := id w3
  have hl2 : x2.length ≤ 9223372036854775807 := by obtain ⟨_, _, _, h1, h2, _⟩ := w2; unfold maxLen at h2; omega
  have hl3 : x3.length ≤ 9223372036854775807 := by obtain ⟨_, _, _, h1, h2, _⟩ := w3; unfold maxLen at h2; omega
  subst hv2
  subst hv3
  by_cases h : 0 ≤ a0 ∧ a0 ≤ 500 ∧ 1 ≤ a1 ∧ a1 ≤ 1073741824
  · have HH := Lib.hid h
    have g2 := Dr.goF_ok a0 x2
    have g3 := Dr.goF_ok a0 x3
    have HS := Lib.hid (fun hc hd => safe (p := Dr.goF a0 x2) (q := Dr.goF a0 x3) h.1 h.2.1 h.2.2.1 g2 g3 hc hd)
    clear g2 g3 h
    by_cases hg : 1000 < wrap64 ((x2.length : Int) + (x3.length : Int))
    · go_enter Try.func10, Try.ntmps10
      go_wp2_with fail
      refine (Dr.short_yes _ _ _ HH.out).mono ?_
      rintro e w' ⟨rfl, rfl⟩
      go_wp2_with fail
      refine (short_ex _).mono ?_
      rintro e w' ⟨rfl, rfl⟩
      go_wp2
      go_ret
      exact ⟨rfl, Below.refl _ _⟩
    have hg2 : wrap64 ((x2.length : Int) + (x3.length : Int)) ≤ 1000 := by omega
    clear hg
    by_cases hc : (Dr.goF a0 x2).2 < Dr.sh a0 a1
    · by_cases hd : a1 ≤ (Dr.goF a0 x3).2
      · have hlt := HS.out hc hd
        clear HS
        go_enter Try.func10, Try.ntmps10
        go_wp2_with fail
        refine (Dr.short_yes _ _ _ HH.out).mono ?_
        rintro e w' ⟨rfl, rfl⟩
        go_wp2_with fail
        refine (Dr.gone_any _ _ _ _ w2).mono ?_
        rintro e u1 ⟨rfl, hb1⟩
        go_wp2_with fail
        refine (Dr.gone_any _ _ _ _ (w3.below hb1 (Nat.le_refl _))).mono ?_
        rintro e u2 ⟨rfl, hb2⟩
        go_wp2_with fail
        refine (short_ex _).mono ?_
        rintro e w' ⟨rfl, rfl⟩
        go_wp2
        go_ret
        exact ⟨rfl, hb1.trans (hb2.mono hb1.size)⟩
      · have hd2 : (Dr.goF a0 x3).2 < a1 := by omega
        clear hd HS
        go_enter Try.func10, Try.ntmps10
        go_wp2_with fail
        refine (Dr.short_yes _ _ _ HH.out).mono ?_
        rintro e w' ⟨rfl, rfl⟩
        go_wp2_with fail
        refine (Dr.gone_any _ _ _ _ w2).mono ?_
        rintro e u1 ⟨rfl, hb1⟩
        go_wp2_with fail
        refine (Dr.gone_any _ _ _ _ (w3.below hb1 (Nat.le_refl _))).mono ?_
        rintro e u2 ⟨rfl, hb2⟩
        go_wp2_with fail
        refine (short_ex _).mono ?_
        rintro e w' ⟨rfl, rfl⟩
        go_wp2
        go_ret
        exact ⟨rfl, hb1.trans (hb2.mono hb1.size)⟩
    · have hc2 : Dr.sh a0 a1 ≤ (Dr.goF a0 x2).2 := by omega
      clear hc HS
      go_enter Try.func10, Try.ntmps10
      go_wp2_with fail
      refine (Dr.short_yes _ _ _ HH.out).mono ?_
      rintro e w' ⟨rfl, rfl⟩
      go_wp2_with fail
      refine (Dr.gone_any _ _ _ _ w2).mono ?_
      rintro e u1 ⟨rfl, hb1⟩
      go_wp2_with fail
      refine (Dr.gone_any _ _ _ _ (w3.below hb1 (Nat.le_refl _))).mono ?_
      rintro e u2 ⟨rfl, hb2⟩
      go_wp2_with fail
      refine (short_ex _).mono ?_
      rintro e w' ⟨rfl, rfl⟩
      go_wp2
      go_ret
      exact ⟨rfl, hb1.trans (hb2.mono hb1.size)⟩
  · have HH := Lib.hid h
    clear h
    go_enter Try.func10, Try.ntmps10
    go_wp2_with fail
    refine (Dr.short_no _ _ _ HH.out).mono ?_
    rintro e w' ⟨rfl, rfl⟩
    go_wp2_with fail
    refine (short_ex _).mono ?_
    rintro e w' ⟨rfl, rfl⟩
    go_wp2
    go_ret
    exact ⟨rfl, Below.refl _ _⟩

set_option maxRecDepth 100000 in
theorem contract (H : Type) (enc : TypeId × Value → H) (W : World) (base : Nat) (args : Array Value) (ds gs : List (DataW H)) (before : List MemPlace)
    (hval0 : ∀ (j : Nat) t v, Try.f10.params[j]? = some t → args[j]? = some v → Value.okWide Try.prog W .any base t v)
    (hW : DataW.Whole enc Try.prog Try.f10.params.toList Rows.driftSafeSpec.vars false W args.toList ds gs before)
    (hsz0 : (DataW.weightsEach Try.prog (Try.f10.params.toList ++ Rows.driftSafeSpec.plain.varTypes Try.prog) (ds ++ gs)).all (· ≤ reachBytes) = true) :
    Calls Try.prog 10 args W fun e W' => ∃ v, e = .returned v ∧ Rows.driftSafeSpec.post enc Try.prog Try.f10 false true false false W args v W' := by
  have hval : ∀ (j : Nat) t v, Try.f10.params[j]? = some t → args[j]? = some v → Value.okWide Try.prog W .any base t v := hval0
  have hW' := hW
  obtain ⟨p, q, hA0, hV, rfl, hfz, hnd⟩ := hW
  have hA : DataW.TrodAll enc Try.prog W 0 (fun _ => true) true Try.f10.params.toList args.toList ds p := hA0
  rw [Try.params10] at hA hval
  have hsz := hsz0
  rw [Try.params10] at hsz
  obtain ⟨v0, vs0, d0, ds0, p0, q0, hargs, rfl, rfl, h0, r0⟩ := trodAll_cons hA
  obtain ⟨v1, vs1, d1, ds1, p1, q1, rfl, rfl, rfl, h1, r1⟩ := trodAll_cons r0
  obtain ⟨v2, vs2, d2, ds2, p2, q2, rfl, rfl, rfl, h2, r2⟩ := trodAll_cons r1
  obtain ⟨v3, vs3, d3, ds3, p3, q3, rfl, rfl, rfl, h3, r3⟩ := trodAll_cons r2
  obtain ⟨rfl, rfl, rfl⟩ := trodAll_nil r3
  obtain rfl : args = #[v0, v1, v2, v3] := by cases args; simp_all
  obtain ⟨rfl, rfl⟩ := trodVars_none hV
  clear hA0 hval0
  have k0 := h0
  have lt0 : ∀ x ∈ p0, x.block < W.heap.size := by obtain ⟨m, hm⟩ := k0; exact DataW.trod_lt m _ _ _ hm
  have k1 := h1
  have lt1 : ∀ x ∈ p1, x.block < W.heap.size := by obtain ⟨m, hm⟩ := k1; exact DataW.trod_lt m _ _ _ hm
  have k2 := h2
  have lt2 : ∀ x ∈ p2, x.block < W.heap.size := by obtain ⟨m, hm⟩ := k2; exact DataW.trod_lt m _ _ _ hm
  have k3 := h3
  have lt3 : ∀ x ∈ p3, x.block < W.heap.size := by obtain ⟨m, hm⟩ := k3; exact DataW.trod_lt m _ _ _ hm
  obtain ⟨a0, rfl, -, -, w0⟩ := open_int Try.underlying3 (hval 0 3 v0 rfl rfl) h0
  obtain ⟨a1, rfl, -, -, w1⟩ := open_int Try.underlying2 (hval 1 2 v1 rfl rfl) h1
  obtain ⟨x2, w2, -⟩ := Dr.open_gos (hval 2 29 v2 rfl rfl) k2
  obtain ⟨x3, w3, -⟩ := Dr.open_gos (hval 3 29 v3 rfl rfl) k3
  refine (walk a0 a1 v2 x2 v3 x3 W w0 w1 w2 w3).mono fun e W' ⟨he, bel⟩ => ?_
  subst he
  exact ⟨_, rfl, _, _, _, [], _, [], hW', trodAll_mk1 (shut_bool Try.underlying4 _), (trodAll_cons_mk (Below.trod laidOut (by kernel_rfl) (of_decide_eq_true (by kernel_rfl)) k0 bel lt0) (trodAll_cons_mk (Below.trod laidOut (by kernel_rfl) (of_decide_eq_true (by kernel_rfl)) k1 bel lt1) (trodAll_cons_mk (Below.trod laidOut (by kernel_rfl) (of_decide_eq_true (by kernel_rfl)) k2 bel lt2) (trodAll_cons_mk (Below.trod laidOut (by kernel_rfl) (of_decide_eq_true (by kernel_rfl)) k3 bel lt3) trodAll_mk0)))), rfl, bel.frame _, fun h => by cases h⟩

set_option maxRecDepth 100000 in
theorem lifted (os : Os) (started : os.Started) (H : Type) (enc : TypeId × Value → H) :
    ReturnsInHanded {} Try.checked os 10 .any (Rows.driftSafeSpec.pre6 enc Try.prog Try.f10 Rows.driftSafeRow.domain false) (Rows.driftSafeSpec.post enc Try.prog Try.f10 false true false false) := by
  refine returnsInHanded_of_change_sized (C := Try.checked) own started (by kernel_rfl) Try.func10
    (ChangeSpec.witness6 (enc := enc) (C := Try.checked) false ⟨#[], #[.int .i64 0, .int .i64 0, .slice none 0 0, .slice none 0 0], []⟩ 8 (by kernel_rfl) (by kernel_rfl) (by kernel_rfl) (by kernel_rfl)) ?_
  intro W base args ds gs before hval0 hW hcnd hsz _
  exact contract H enc W base args ds gs before hval0 hW hsz

theorem proved : Rows.DriftSafeSaid :=
  OpenClaim.holds_of_wide 10 Try.f10 rfl rfl rfl rfl rfl rfl rfl ⟨rfl, rfl, rfl, rfl, rfl⟩ rfl rfl rfl rfl rfl (by kernel_rfl) Try.func10 (by kernel_rfl)
    (of_decide_eq_true (by kernel_rfl)) (by unfold Func.isWrapper; first | (rw [if_pos (by decide +kernel)]; kernel_rfl) | (rw [if_neg (by decide +kernel)]; exact ⟨rfl, rfl⟩))
    (fun os started H enc _ => lifted os started H enc)
end Go.Proofs.Ytkbmofbpfinahab.driftSafe
