/- The law NodesMid returns true for every two lists: package nodes' Mid answers what the document's own answers is, and leaves the map as it was. No condition. -/
import Derived.Test.YtogebbplfoainaaBse
import Derived.Test.YtogebbplfoainaaNmH
import Derived.Test.YtogebbplfoainaaBse
namespace Go.Proofs.Ytogebbplfoainaa.nodesMid
open Go.ChangeShapes Go.WideShapes Go.ChangeAt Go.RowKit
open Go.ChangeMaps (open_string shut_string)
set_option linter.unusedVariables false

theorem own : ownKnob Try.prog.godebug = none := by kernel_rfl
theorem laidOut : laidOutB Try.prog = true := by kernel_rfl

open Go.Maps
set_option maxHeartbeats 400000 in
theorem walk (v0 : Value) (z0 : List Int) (v1 : Value) (z1 : List Int) (w : World) (w0 : Sl .i64 w v0 z0) (b0 : z0.length * 8 ≤ 140737488351232) (w1 : Sl .u64 w v1 z1) (b1 : z1.length * 8 ≤ 140737488351232) :
    Calls Try.prog 3 #[v0, v1] w fun e w' => e = .returned (.bool true) ∧ Below w.heap.size w w' := by
  have hmm := @run_makeMap Try.prog
  have HM0 : Hid (Nm.OwnM (w.alloc (.map #[] 0)) w.heap.size 0 (.map [])) := Lib.hid (Nm.made_at _ _ rfl)
  have HB0 : Hid (Below w.heap.size w (w.alloc (.map #[] 0))) := Lib.hid ((Below.refl _ _).alloc (Nat.le_refl _) _)
  rcases Nd.Sl.cases w1 with ⟨a, cap, rfl, rfl⟩ | ⟨b2, off, cap, rfl, h0, hlc, hcm, hlt, hc⟩
  · go_enter Try.func3, Try.ntmps3
    go_wp2
    refine wp_loop_rounds 1 ?_
    rw [rounds_succ]
    obtain ⟨wr, hwr⟩ : ∃ q, w.alloc (.map #[] 0) = q := ⟨_, rfl⟩
    rw [hwr] at HM0 HB0
    rw [hwr]
    obtain ⟨k, D, HO⟩ : ∃ k D, Hid (Nm.OwnM wr w.heap.size k D) := ⟨_, _, HM0⟩
    have HB := HB0
    have HW0 := Lib.hid (w0.below HB.out (Nat.le_refl _))
    go_wp2_with (first | (at_len; refine wpList_len_own _ rfl _ 24 rfl 3 25 Try.underlying24 _ w.heap.size k D rfl HO.out ?_))
    refine (Nm.mid_any _ z0 _ HW0.out _ _ _ HO.out).mono ?_
    rintro e u1 ⟨⟨x, rfl, hx⟩, hb1⟩
    obtain rfl := Nm.mid_is HO.out w0.wf hx
    have HO1 := Lib.hid (HO.out.below hb1 (Nat.le_refl _))
    have HW1 := Lib.hid (HW0.out.below hb1 (Nat.le_refl _))
    have HB1 := Lib.hid (HB.out.trans (hb1.mono HB.out.size))
    generalize hmv : Nm.midV (Nm.farOf D) z0 = mv at *
    have HMV := Lib.hid hmv
    clear hx hb1 hmv
    go_wp2_with (first
      | (refine Nm.insert_own _ rfl _ _ _ 24 rfl 3 25 Nm.lawI Try.underlying24 _ (u1.heap.size + 1) 0 (.map []) rfl (Nm.made_at _ _ (by simp)) (by decide) (.int .i64 1) (.int .u64 9) (.int .i64 1) rfl rfl (keyOf_int_mk Try.underlying3 (by decide)) _ [] (plainElem_int Try.underlying25 (by decide)) ?_; intro u2 hown2 hgrow2)
      | (refine Nm.insert_own _ rfl _ _ _ 24 rfl 3 25 Nm.lawI Try.underlying24 _ (u1.heap.size + 1) 1 _ rfl hown2 (by decide) (.int .i64 3) (.int .u64 4) (.int .i64 3) rfl rfl (keyOf_int_mk Try.underlying3 (by decide)) _ [] (plainElem_int Try.underlying25 (by decide)) ?_; intro u3 hown3 hgrow3))
    have hbA : Below (u1.heap.size + 1) (u1.alloc (.cells #[Value.int .i64 1, Value.int .i64 2, Value.int .i64 3] 3)) u3 := by
      have h1 : Below (u1.heap.size + 1) (u1.alloc (.cells #[Value.int .i64 1, Value.int .i64 2, Value.int .i64 3] 3)) ((u1.alloc (.cells #[Value.int .i64 1, Value.int .i64 2, Value.int .i64 3] 3)).alloc (.map #[] 0)) := (Below.refl _ _).alloc (by simp) _
      have h2 := h1.grown hgrow2 (by simp) (fun j hj => by cases hj; exact Nat.le_refl _)
      exact h2.grown hgrow3 (by have := h2.size; simp at this; omega) (fun j hj => by cases hj; exact Nat.le_refl _)
    have hbB : Below u1.heap.size u1 u3 := ((Below.refl _ _).alloc (Nat.le_refl _) _).trans (hbA.mono (by simp))
    have hl1 := (Sl.new (k := .i64) (e := 3) (fr := (0, 0)) (n := 3) (c := 3) u1 #[Value.int .i64 1, Value.int .i64 2, Value.int .i64 3] [1, 2, 3] rfl rfl (by decide) (by decide) (by decide)).below hbA (by simp)
    refine (Nm.mid_any _ [1, 2, 3] _ hl1 _ _ _ hown3).mono ?_
    rintro e u4 ⟨⟨x4, rfl, hx4⟩, hb4⟩
    obtain rfl := (Nm.mid_is hown3 (by decide) hx4).trans Nm.mid9
    have hb14 : Below u1.heap.size u1 u4 := hbB.trans (hb4.mono hbB.size)
    have HO4 := Lib.hid (HO1.out.below hb14 (Nat.le_refl _))
    have HW4 := Lib.hid (HW1.out.below hb14 (Nat.le_refl _))
    have HB4 := Lib.hid (HB1.out.trans (hb14.mono HB1.out.size))
    clear hx4 hb4 hbA hbB hl1 hown2 hown3 hgrow2 hgrow3 hb14
    go_wp2_with fail
    refine (Nm.rmid_any _ z0 _ HW4.out _ _ _ HO4.out).mono ?_
    rintro e u5 ⟨rfl, rfl⟩
    rw [HMV.out]
    go_wp2_with (at_len; (refine unguard rfl ?_; refine wpList_len_own _ rfl _ 24 rfl 3 25 Try.underlying24 _ w.heap.size k D rfl HO4.out ?_))
    go_ret
    exact ⟨rfl, HB4.out⟩
  · have HCX := Lib.hid hc
    have HW1 := Lib.hid w1.wf
    clear hc
    go_enter Try.func3, Try.ntmps3
    go_wp2
    go_loopw [13] (fun i wr => ∃ (j k : Nat) (D : DataW Unit), j ≤ z1.length ∧ k ≤ j ∧ i = .int .i64 j ∧ Below w.heap.size w wr ∧ Nm.OwnM wr w.heap.size k D) (fun i _ => z1.length - (intOf i).toNat)
    case atStart => exact ⟨0, 0, _, Nat.zero_le _, Nat.le_refl _, rfl, HB0.out, HM0.out⟩
    case round =>
      obtain ⟨j, k, D, hj, hkj, rfl, hb, hown⟩ := hrel
      have HB := Lib.hid hb
      have HO := Lib.hid hown
      by_cases hlt2 : j < z1.length
      · have hcx := (hb.cell (p := ⟨b2, off + j, none⟩) hlt).trans (HCX.out j hlt2)
        have HU : Hid ((Lit.int .u64 (z1.getD j 0)).wf = true) := Lib.hid (HW1.out _ (by rw [Nd.getD_get hlt2]; exact List.getElem_mem _))
        clear hb hown
        generalize z1.getD j 0 = z at *
        by_cases hj12 : j < 12
        · have hj2 : (j : Int) < 12 := by omega
          go_wp2_with (first | (at_mapUpdate; refine wpList_mapUpdate_own _ rfl _ _ _ 24 rfl 3 25 Nm.lawI Try.underlying24 _ w.heap.size k D rfl HO.out (by unfold maxLen; omega) (.int .i64 j) (.int .u64 z) (.int .i64 j) rfl rfl (keyOf_int_mk Try.underlying3 (WalkArith.wf_i64 (by omega))) _ [] (plainElem_int Try.underlying25 HU.out) ?_; intro w2 hown2 hgrow2))
          go_roundw
          case rel => exact ⟨j + 1, k + 1, _, by omega, by omega, by go_num, HB.out.grown hgrow2 HB.out.size (fun j hj => by cases hj; exact Nat.le_refl _), hown2⟩
          case measure => simp [intOf]; omega
        · have hj2 : ¬ (j : Int) < 12 := by omega
          go_wp2
          go_roundw
          case rel => exact ⟨j + 1, k, D, by omega, by omega, by go_num, HB.out, HO.out⟩
          case measure => simp [intOf]; omega
      · obtain rfl : j = z1.length := by omega
        have HW0 := Lib.hid (w0.below HB.out (Nat.le_refl _))
        clear hb hown
        go_wp2_with (first | (at_len; refine wpList_len_own _ rfl _ 24 rfl 3 25 Try.underlying24 _ w.heap.size k D rfl HO.out ?_))
        refine (Nm.mid_any _ z0 _ HW0.out _ _ _ HO.out).mono ?_
        rintro e u1 ⟨⟨x, rfl, hx⟩, hb1⟩
        obtain rfl := Nm.mid_is HO.out w0.wf hx
        have HO1 := Lib.hid (HO.out.below hb1 (Nat.le_refl _))
        have HW1 := Lib.hid (HW0.out.below hb1 (Nat.le_refl _))
        have HB1 := Lib.hid (HB.out.trans (hb1.mono HB.out.size))
        generalize hmv : Nm.midV (Nm.farOf D) z0 = mv at *
        have HMV := Lib.hid hmv
        clear hx hb1 hmv
        go_wp2_with (first
          | (refine Nm.insert_own _ rfl _ _ _ 24 rfl 3 25 Nm.lawI Try.underlying24 _ (u1.heap.size + 1) 0 (.map []) rfl (Nm.made_at _ _ (by simp)) (by decide) (.int .i64 1) (.int .u64 9) (.int .i64 1) rfl rfl (keyOf_int_mk Try.underlying3 (by decide)) _ [] (plainElem_int Try.underlying25 (by decide)) ?_; intro u2 hown2 hgrow2)
          | (refine Nm.insert_own _ rfl _ _ _ 24 rfl 3 25 Nm.lawI Try.underlying24 _ (u1.heap.size + 1) 1 _ rfl hown2 (by decide) (.int .i64 3) (.int .u64 4) (.int .i64 3) rfl rfl (keyOf_int_mk Try.underlying3 (by decide)) _ [] (plainElem_int Try.underlying25 (by decide)) ?_; intro u3 hown3 hgrow3))
        have hbA : Below (u1.heap.size + 1) (u1.alloc (.cells #[Value.int .i64 1, Value.int .i64 2, Value.int .i64 3] 3)) u3 := by
          have h1 : Below (u1.heap.size + 1) (u1.alloc (.cells #[Value.int .i64 1, Value.int .i64 2, Value.int .i64 3] 3)) ((u1.alloc (.cells #[Value.int .i64 1, Value.int .i64 2, Value.int .i64 3] 3)).alloc (.map #[] 0)) := (Below.refl _ _).alloc (by simp) _
          have h2 := h1.grown hgrow2 (by simp) (fun j hj => by cases hj; exact Nat.le_refl _)
          exact h2.grown hgrow3 (by have := h2.size; simp at this; omega) (fun j hj => by cases hj; exact Nat.le_refl _)
        have hbB : Below u1.heap.size u1 u3 := ((Below.refl _ _).alloc (Nat.le_refl _) _).trans (hbA.mono (by simp))
        have hl1 := (Sl.new (k := .i64) (e := 3) (fr := (0, 0)) (n := 3) (c := 3) u1 #[Value.int .i64 1, Value.int .i64 2, Value.int .i64 3] [1, 2, 3] rfl rfl (by decide) (by decide) (by decide)).below hbA (by simp)
        refine (Nm.mid_any _ [1, 2, 3] _ hl1 _ _ _ hown3).mono ?_
        rintro e u4 ⟨⟨x4, rfl, hx4⟩, hb4⟩
        obtain rfl := (Nm.mid_is hown3 (by decide) hx4).trans Nm.mid9
        have hb14 : Below u1.heap.size u1 u4 := hbB.trans (hb4.mono hbB.size)
        have HO4 := Lib.hid (HO1.out.below hb14 (Nat.le_refl _))
        have HW4 := Lib.hid (HW1.out.below hb14 (Nat.le_refl _))
        have HB4 := Lib.hid (HB1.out.trans (hb14.mono HB1.out.size))
        clear hx4 hb4 hbA hbB hl1 hown2 hown3 hgrow2 hgrow3 hb14
        go_wp2_with fail
        refine (Nm.rmid_any _ z0 _ HW4.out _ _ _ HO4.out).mono ?_
        rintro e u5 ⟨rfl, rfl⟩
        rw [HMV.out]
        go_wp2_with (at_len; (refine unguard rfl ?_; refine wpList_len_own _ rfl _ 24 rfl 3 25 Try.underlying24 _ w.heap.size k D rfl HO4.out ?_))
        go_ret
        exact ⟨rfl, HB4.out⟩

set_option maxRecDepth 100000 in
theorem contract (H : Type) (enc : TypeId × Value → H) (W : World) (base : Nat) (args : Array Value) (ds gs : List (DataW H)) (before : List MemPlace)
    (hval0 : ∀ (j : Nat) t v, Try.f3.params[j]? = some t → args[j]? = some v → Value.okWide Try.prog W .any base t v)
    (hW : DataW.Whole enc Try.prog Try.f3.params.toList Rows.nodesMidSpec.vars false W args.toList ds gs before)
    (hsz0 : (DataW.weightsEach Try.prog (Try.f3.params.toList ++ Rows.nodesMidSpec.plain.varTypes Try.prog) (ds ++ gs)).all (· ≤ reachBytes) = true) :
    Calls Try.prog 3 args W fun e W' => ∃ v, e = .returned v ∧ Rows.nodesMidSpec.post enc Try.prog Try.f3 false true false false W args v W' := by
  have hval : ∀ (j : Nat) t v, Try.f3.params[j]? = some t → args[j]? = some v → Value.okWide Try.prog W .any base t v := hval0
  have hW' := hW
  obtain ⟨p, q, hA0, hV, rfl, hfz, hnd⟩ := hW
  have hA : DataW.TrodAll enc Try.prog W 0 (fun _ => true) true Try.f3.params.toList args.toList ds p := hA0
  rw [Try.params3] at hA hval
  have hsz := hsz0
  rw [Try.params3] at hsz
  obtain ⟨v0, vs0, d0, ds0, p0, q0, hargs, rfl, rfl, h0, r0⟩ := trodAll_cons hA
  obtain ⟨v1, vs1, d1, ds1, p1, q1, rfl, rfl, rfl, h1, r1⟩ := trodAll_cons r0
  obtain ⟨rfl, rfl, rfl⟩ := trodAll_nil r1
  obtain rfl : args = #[v0, v1] := by cases args; simp_all
  obtain ⟨rfl, rfl⟩ := trodVars_none hV
  clear hA0 hval0
  have k0 := h0
  have lt0 : ∀ x ∈ p0, x.block < W.heap.size := by obtain ⟨m, hm⟩ := k0; exact DataW.trod_lt m _ _ _ hm
  have k1 := h1
  have lt1 : ∀ x ∈ p1, x.block < W.heap.size := by obtain ⟨m, hm⟩ := k1; exact DataW.trod_lt m _ _ _ hm
  obtain ⟨z0, w0, u00, b00⟩ := open_sl Try.underlying22 Try.underlying3 (by kernel_rfl) (okWide_slice Try.underlying22 (hval 0 22 v0 rfl rfl)).choose_spec.choose_spec.choose_spec k0
  have b0 : z0.length * 8 ≤ 140737488351232 := by
    have := b00 hsz (j := 0) rfl rfl
    rw [show Try.prog.bytesOf 3 = 8 from by kernel_rfl] at this
    simpa [reachBytes] using this
  obtain ⟨z1, w1, u10, b10⟩ := open_sl Try.underlying23 Try.underlying25 (by kernel_rfl) (okWide_slice Try.underlying23 (hval 1 23 v1 rfl rfl)).choose_spec.choose_spec.choose_spec k1
  have b1 : z1.length * 8 ≤ 140737488351232 := by
    have := b10 hsz (j := 1) rfl rfl
    rw [show Try.prog.bytesOf 25 = 8 from by kernel_rfl] at this
    simpa [reachBytes] using this
  refine (walk v0 z0 v1 z1 W w0 b0 w1 b1).mono fun e W' ⟨he, bel⟩ => ?_
  subst he
  exact ⟨_, rfl, _, _, _, [], _, [], hW', trodAll_mk1 (shut_bool Try.underlying4 _), (trodAll_cons_mk (Below.trod laidOut (by kernel_rfl) (of_decide_eq_true (by kernel_rfl)) k0 bel lt0) (trodAll_cons_mk (Below.trod laidOut (by kernel_rfl) (of_decide_eq_true (by kernel_rfl)) k1 bel lt1) trodAll_mk0)), rfl, bel.frame _, fun h => by cases h⟩

set_option maxRecDepth 100000 in
theorem lifted (os : Os) (started : os.Started) (H : Type) (enc : TypeId × Value → H) :
    ReturnsInHanded {} Try.checked os 3 .any (Rows.nodesMidSpec.pre6 enc Try.prog Try.f3 Rows.nodesMidRow.domain false) (Rows.nodesMidSpec.post enc Try.prog Try.f3 false true false false) := by
  refine returnsInHanded_of_change_sized (C := Try.checked) own started (by kernel_rfl) Try.func3
    (ChangeSpec.witness6 (enc := enc) (C := Try.checked) false ⟨#[], #[.slice none 0 0, .slice none 0 0], []⟩ 8 (by kernel_rfl) (by kernel_rfl) (by kernel_rfl) (by kernel_rfl)) ?_
  intro W base args ds gs before hval0 hW hcnd hsz _
  exact contract H enc W base args ds gs before hval0 hW hsz

theorem proved : Rows.NodesMidSaid :=
  OpenClaim.holds_of_wide 3 Try.f3 rfl rfl rfl rfl rfl rfl rfl ⟨rfl, rfl, rfl, rfl, rfl⟩ rfl rfl rfl rfl rfl (by kernel_rfl) Try.func3 (by kernel_rfl)
    (of_decide_eq_true (by kernel_rfl)) (by unfold Func.isWrapper; first | (rw [if_pos (by decide +kernel)]; kernel_rfl) | (rw [if_neg (by decide +kernel)]; exact ⟨rfl, rfl⟩))
    (fun os started H enc _ => lifted os started H enc)
end Go.Proofs.Ytogebbplfoainaa.nodesMid
