/- The law NodesMore returns true for every two lists and every number: a majority stays one when a vote more has come, and a set's own nodes are a majority of it just if it may be. No condition. -/
import Derived.Test.YtlbadhkdkbghbaaSl
import Derived.Test.YtlbadhkdkbghbaaNodV
import Derived.Test.YtlbadhkdkbghbaaNodI
namespace Go.Proofs.Ytlbadhkdkbghbaa.nodesMore
open Go.ChangeShapes Go.WideShapes Go.ChangeAt Go.RowKit
open Go.ChangeMaps (open_string shut_string)
set_option linter.unusedVariables false

theorem own : ownKnob Try.prog.godebug = none := by kernel_rfl
theorem laidOut : laidOutB Try.prog = true := by kernel_rfl

theorem maj_more {l v : List Int} (n : Int) (h : Nd.majB l v = true) : Nd.majB l (n :: v) = true := by
  unfold Nd.majB at *
  rw [Bool.and_eq_true, decide_eq_true_eq] at *
  refine ⟨h.1, ?_⟩
  have hle : (l.filter fun x => decide (x ∈ v)).length ≤ (l.filter fun x => decide (x ∈ n :: v)).length := by
    rw [← List.countP_eq_length_filter, ← List.countP_eq_length_filter]
    refine List.countP_mono_left fun x _ hx => ?_
    rw [decide_eq_true_eq] at *
    exact List.mem_cons_of_mem _ hx
  have := h.2
  omega
theorem maj_self (l : List Int) : Nd.majB l l = Nd.chk l := by
  unfold Nd.majB
  cases h : Nd.chk l with
  | false => rfl
  | true =>
    have h0 := (Nd.chk_set h).2.2
    rw [Bool.true_and, List.filter_eq_self.2 fun x hx => decide_eq_true hx]
    exact decide_eq_true (by omega)
theorem ck_eq (b : Bool) : (b == (Nd.errOf b == 0)) = true := by cases b <;> rfl
set_option maxHeartbeats 400000 in
theorem walk (v0 : Value) (z0 : List Int) (v1 : Value) (z1 : List Int) (a2 : Int) (w : World) (w0 : Sl .i64 w v0 z0) (b0 : z0.length * 8 ≤ 140737488351232) (w1 : Sl .i64 w v1 z1) (b1 : z1.length * 8 ≤ 140737488351232) (w2 : (Lit.int .i64 a2).wf = true) :
    Calls Try.prog 11 #[v0, v1, .int .i64 a2] w fun e w' => e = .returned (.bool true) ∧ Below w.heap.size w w' := by
  have k1 := Lib.hid Nd.maj123
  have HS := Lib.hid (maj_self z0)
  have HE := Lib.hid (ck_eq (Nd.chk z0))
  go_enter Try.func11, Try.ntmps11
  go_wp2_with fail
  have hl1 := (Sl.new (k := .i64) (e := 3) (fr := (0, 0)) (n := 3) (c := 3) w #[Value.int .i64 1, Value.int .i64 2, Value.int .i64 3] [1, 2, 3] rfl rfl (by decide) (by decide) (by decide)).below ((Below.refl _ _).alloc (Nat.le_refl _) (.cells #[Value.int .i64 3, Value.int .i64 1] 3)) (Nat.le_refl _)
  have hl2 := Sl.newAt (k := .i64) (e := 3) (fr := (0, 0)) (n := 2) (c := 2) (w.alloc (.cells #[Value.int .i64 1, Value.int .i64 2, Value.int .i64 3] 3)) (w.heap.size + 1) (by simp) #[Value.int .i64 3, Value.int .i64 1] [3, 1] rfl rfl (by decide) (by decide) (by decide)
  refine (Nd.majority_any _ _ _ _ _ hl1 hl2).mono ?_
  rintro e u1 ⟨rfl, hb1⟩
  rw [k1.out]
  have hb01 : Below w.heap.size w u1 := (((Below.refl _ _).alloc (Nat.le_refl _) _).alloc (by simp) _).trans (hb1.mono (by simp; omega))
  have h0 := w0.below hb01 (Nat.le_refl _)
  have h1 := w1.below hb01 (Nat.le_refl _)
  clear hl1 hl2 hb1
  go_wp2_with fail
  refine (Nd.majority_any _ _ _ _ _ h0 h1).mono ?_
  rintro e u2 ⟨rfl, hb2⟩
  have h02 := h0.below hb2 (Nat.le_refl _)
  have h12 := h1.below hb2 (Nat.le_refl _)
  have hb02 := hb01.trans (hb2.mono hb01.size)
  have hu2 := hb02.size
  clear h0 h1 hb01 hb2
  cases hm : Nd.majB z0 z1 with
  | false =>
    clear hm
    go_wp2_with fail
    refine (Nd.majority_any _ _ _ _ _ h02 h02).mono ?_
    rintro e u3 ⟨rfl, hb3⟩
    go_wp2_with fail
    refine (Nd.check_any _ _ _ (h02.below hb3 (Nat.le_refl _))).mono ?_
    rintro e u4 ⟨rfl, rfl⟩
    rw [HS.out]
    go_wp2
    go_ret
    exact ⟨ret_bool HE.out, hb02.trans (hb3.mono hu2)⟩
  | true =>
    have HM := Lib.hid (maj_more a2 hm)
    clear hm
    have hsg : (1 + z1.length) * 8 ≤ 140737488355328 := by omega
    go_wp2_with (at_builtin; (refine unguard rfl ?_; refine appI rfl _ _ rfl w.heap.size _ [a2] rfl (OwnK.new u2 _ [a2] rfl rfl (by decide) hu2) _ _ rfl (h12.below ((Below.refl _ _).alloc (Nat.le_refl _) _) (Nat.le_refl _)) hsg (by simp; omega) ?_); intro v3 u3 hown3 hb3)
    have hs3 := hown3.sl (wf_app (xs := [a2]) (by intro y hy; simp at hy; subst hy; exact w2) h12.wf)
    have hb03 : Below w.heap.size w u3 := (hb02.alloc hu2 _).trans hb3
    have h03 := w0.below hb03 (Nat.le_refl _)
    go_wp2_with fail
    refine (Nd.majority_any _ _ _ _ _ h03 hs3).mono ?_
    rintro e u4 ⟨rfl, hb4⟩
    have h04 := h03.below hb4 (Nat.le_refl _)
    have hb04 : Below w.heap.size w u4 := hb03.trans (hb4.mono hb03.size)
    rw [List.singleton_append, HM.out]
    go_wp2_with fail
    refine (Nd.majority_any _ _ _ _ _ h04 h04).mono ?_
    rintro e u5 ⟨rfl, hb5⟩
    go_wp2_with fail
    refine (Nd.check_any _ _ _ (h04.below hb5 (Nat.le_refl _))).mono ?_
    rintro e u6 ⟨rfl, rfl⟩
    rw [HS.out]
    go_wp2
    go_ret
    exact ⟨ret_bool HE.out, hb04.trans (hb5.mono hb04.size)⟩

set_option maxRecDepth 100000 in
theorem contract (H : Type) (enc : TypeId × Value → H) (W : World) (base : Nat) (args : Array Value) (ds gs : List (DataW H)) (before : List MemPlace)
    (hval0 : ∀ (j : Nat) t v, Try.f11.params[j]? = some t → args[j]? = some v → Value.okWide Try.prog W .any base t v)
    (hW : DataW.Whole enc Try.prog Try.f11.params.toList Rows.nodesMoreSpec.vars false W args.toList ds gs before)
    (hsz0 : (DataW.weightsEach Try.prog (Try.f11.params.toList ++ Rows.nodesMoreSpec.plain.varTypes Try.prog) (ds ++ gs)).all (· ≤ reachBytes) = true) :
    Calls Try.prog 11 args W fun e W' => ∃ v, e = .returned v ∧ Rows.nodesMoreSpec.post enc Try.prog Try.f11 false true false false W args v W' := by
  have hval : ∀ (j : Nat) t v, Try.f11.params[j]? = some t → args[j]? = some v → Value.okWide Try.prog W .any base t v := hval0
  have hW' := hW
  obtain ⟨p, q, hA0, hV, rfl, hfz, hnd⟩ := hW
  have hA : DataW.TrodAll enc Try.prog W 0 (fun _ => true) true Try.f11.params.toList args.toList ds p := hA0
  rw [Try.params11] at hA hval
  have hsz := hsz0
  rw [Try.params11] at hsz
  obtain ⟨v0, vs0, d0, ds0, p0, q0, hargs, rfl, rfl, h0, r0⟩ := trodAll_cons hA
  obtain ⟨v1, vs1, d1, ds1, p1, q1, rfl, rfl, rfl, h1, r1⟩ := trodAll_cons r0
  obtain ⟨v2, vs2, d2, ds2, p2, q2, rfl, rfl, rfl, h2, r2⟩ := trodAll_cons r1
  obtain ⟨rfl, rfl, rfl⟩ := trodAll_nil r2
  obtain rfl : args = #[v0, v1, v2] := by cases args; simp_all
  obtain ⟨rfl, rfl⟩ := trodVars_none hV
  clear hA0 hval0
  have k0 := h0
  have lt0 : ∀ x ∈ p0, x.block < W.heap.size := by obtain ⟨m, hm⟩ := k0; exact DataW.trod_lt m _ _ _ hm
  have k1 := h1
  have lt1 : ∀ x ∈ p1, x.block < W.heap.size := by obtain ⟨m, hm⟩ := k1; exact DataW.trod_lt m _ _ _ hm
  have k2 := h2
  have lt2 : ∀ x ∈ p2, x.block < W.heap.size := by obtain ⟨m, hm⟩ := k2; exact DataW.trod_lt m _ _ _ hm
  obtain ⟨z0, w0, u00, b00⟩ := open_sl Try.underlying22 Try.underlying3 (by kernel_rfl) (okWide_slice Try.underlying22 (hval 0 22 v0 rfl rfl)).choose_spec.choose_spec.choose_spec k0
  have b0 : z0.length * 8 ≤ 140737488351232 := by
    have := b00 hsz (j := 0) rfl rfl
    rw [show Try.prog.bytesOf 3 = 8 from by kernel_rfl] at this
    simpa [reachBytes] using this
  obtain ⟨z1, w1, u10, b10⟩ := open_sl Try.underlying22 Try.underlying3 (by kernel_rfl) (okWide_slice Try.underlying22 (hval 1 22 v1 rfl rfl)).choose_spec.choose_spec.choose_spec k1
  have b1 : z1.length * 8 ≤ 140737488351232 := by
    have := b10 hsz (j := 1) rfl rfl
    rw [show Try.prog.bytesOf 3 = 8 from by kernel_rfl] at this
    simpa [reachBytes] using this
  obtain ⟨a2, rfl, -, -, w2⟩ := open_int Try.underlying3 (hval 2 3 v2 rfl rfl) h2
  refine (walk v0 z0 v1 z1 a2 W w0 b0 w1 b1 w2).mono fun e W' ⟨he, bel⟩ => ?_
  subst he
  exact ⟨_, rfl, _, _, _, [], _, [], hW', trodAll_mk1 (shut_bool Try.underlying4 _), (trodAll_cons_mk (Below.trod laidOut (by kernel_rfl) (of_decide_eq_true (by kernel_rfl)) k0 bel lt0) (trodAll_cons_mk (Below.trod laidOut (by kernel_rfl) (of_decide_eq_true (by kernel_rfl)) k1 bel lt1) (trodAll_cons_mk (Below.trod laidOut (by kernel_rfl) (of_decide_eq_true (by kernel_rfl)) k2 bel lt2) trodAll_mk0))), rfl, bel.frame _, fun h => by cases h⟩

set_option maxRecDepth 100000 in
theorem lifted (os : Os) (started : os.Started) (H : Type) (enc : TypeId × Value → H) :
    ReturnsInHanded {} Try.checked os 11 .any (Rows.nodesMoreSpec.pre6 enc Try.prog Try.f11 Rows.nodesMoreRow.domain false) (Rows.nodesMoreSpec.post enc Try.prog Try.f11 false true false false) := by
  refine returnsInHanded_of_change_sized (C := Try.checked) own started (by kernel_rfl) Try.func11
    (ChangeSpec.witness6 (enc := enc) (C := Try.checked) false ⟨#[], #[.slice none 0 0, .slice none 0 0, .int .i64 0], []⟩ 8 (by kernel_rfl) (by kernel_rfl) (by kernel_rfl) (by kernel_rfl)) ?_
  intro W base args ds gs before hval0 hW hcnd hsz _
  exact contract H enc W base args ds gs before hval0 hW hsz

theorem proved : Rows.NodesMoreSaid :=
  OpenClaim.holds_of_wide 11 Try.f11 rfl rfl rfl rfl rfl rfl rfl ⟨rfl, rfl, rfl, rfl, rfl⟩ rfl rfl rfl rfl rfl (by kernel_rfl) Try.func11 (by kernel_rfl)
    (of_decide_eq_true (by kernel_rfl)) (by unfold Func.isWrapper; first | (rw [if_pos (by decide +kernel)]; kernel_rfl) | (rw [if_neg (by decide +kernel)]; exact ⟨rfl, rfl⟩))
    (fun os started H enc _ => lifted os started H enc)
end Go.Proofs.Ytlbadhkdkbghbaa.nodesMore
