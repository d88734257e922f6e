/- The law ShotMakes returns true for every limit and every list: package shot's New makes just what the document's own answer makes, or refuses as it does; the snapshot shares nothing with the list. No condition. -/
import Derived.Test.YtlkmdoddgfmnbaaSl
import Derived.Test.YtlkmdoddgfmnbaaShM
import Derived.Deep.QuietTactic
import Derived.BigQuiet
namespace Go.Proofs.Ytlkmdoddgfmnbaa.shotMakes
open Go.ChangeShapes Go.WideShapes Go.ChangeAt Go.RowKit
open Go.ChangeMaps (open_string shut_string)
set_option linter.unusedVariables false

theorem own : ownKnob Try.prog.godebug = none := by kernel_rfl
theorem laidOut : laidOutB Try.prog = true := by kernel_rfl

theorem Sh.cells7 {w : World} {g : Nat} {s : Sho} {vn vh vl : Value} (h : w.heap[g]? = some (.cells (sArr s vn vh vl) 58 (0, 0))) :
    w.cell? ⟨g, 0, none⟩ = some (.int .u64 s.index) ∧ w.cell? ⟨g, 1, none⟩ = some (.int .u64 s.term) ∧ w.cell? ⟨g, 2, none⟩ = some vn ∧ w.cell? ⟨g, 3, none⟩ = some (.int .i64 s.led.limit) ∧ w.cell? ⟨g, 4, none⟩ = some (.int .u64 s.led.next) ∧ w.cell? ⟨g, 5, none⟩ = some vh ∧ w.cell? ⟨g, 6, none⟩ = some vl :=
  ⟨(cell_of_row w _ 0 _ _ _ h).trans rfl, (cell_of_row w _ 1 _ _ _ h).trans rfl, (cell_of_row w _ 2 _ _ _ h).trans rfl, (cell_of_row w _ 3 _ _ _ h).trans rfl, (cell_of_row w _ 4 _ _ _ h).trans rfl, (cell_of_row w _ 5 _ _ _ h).trans rfl, (cell_of_row w _ 6 _ _ _ h).trans rfl⟩
set_option maxRecDepth 100000 in
set_option maxHeartbeats 8000000 in
theorem walk (a0 : Int) (v1 : Value) (z1 : List Int) (w : World) (w0 : (Lit.int .i64 a0).wf = true) (w1 : Sl .i64 w v1 z1) (b1 : z1.length * 8 ≤ 140737488351232) :
    Calls Try.prog 8 #[.int .i64 a0, v1] w fun e w' => e = .returned (.bool true) ∧ Below w.heap.size w w' := by
  have HZ1 := Lib.hid w1
  have HB8 := Lib.hid b1
  have hml := w1.len
  unfold maxLen at hml
  go_enter Try.func8, Try.ntmps8
  go_wp2_with (at_builtin; refine copyI rfl _ rfl w.heap.size _ _ rfl HZ1.out HB8.out (Nat.le_refl _) ?_; intro v2 u2 hown2 hs2 hb2)
  refine (Sh.new_all a0 _ z1 _ hs2 HB8.out).mono ?_
  rintro e U3 ⟨vn, rfl, hown3, hsw3, hb3⟩
  obtain ⟨s, hs⟩ : ∃ s, s = Sh.shotOf a0 z1 := ⟨_, rfl⟩
  obtain ⟨z, hz⟩ : ∃ z, z = Sh.errOf a0 z1 := ⟨_, rfl⟩
  rw [← hs] at hown3 hsw3 ⊢
  rw [← hz]
  obtain ⟨c1, k1, hv1, -⟩ := id (hown3.sl hsw3.1)
  subst hv1
  obtain ⟨U4, hU4, hb4, hR4, hz4, hs4⟩ := Sh.boxS U3 (sArr s (.slice c1 s.nodes.length k1) (.slice none 0 0) (.slice none 0 0))
  have HS4 := Lib.hid hs4
  have HSE := Lib.hid hs
  have HZE := Lib.hid hz
  have HSW := Lib.hid hsw3
  have HR4 := Lib.hid hR4
  have HOW2 := Lib.hid (hown2.below (hb3.trans (hb4.mono hb3.size)) (Nat.le_refl _))
  have HB24 := Lib.hid (hb3.trans (hb4.mono hb3.size))
  have HN4 := Lib.hid (hown3.below hb4 (Nat.le_refl _))
  have HB2 := Lib.hid hb2
  have HV4 := Lib.hid (HZ1.out.below (hb2.trans (HB24.out.mono hb2.size)) (Nat.le_refl _))
  have HGO : Hid (∀ q, v2.ownBlock = some q → w.heap.size ≤ q ∧ q < u2.heap.size) := Lib.hid (fun q hq => World.ownsRow.lt hown2 q hq)
  obtain ⟨oa, oc, hv2, hoc1, hoc2⟩ : ∃ oa oc, v2 = .slice oa z1.length oc ∧ z1.length ≤ oc ∧ oc ≤ 9223372036854775807 := by
    obtain ⟨oa, oc, h1, h2, h3, -⟩ := id hs2
    unfold maxLen at h3
    exact ⟨oa, oc, h1, h2, h3⟩
  subst hv2
  have HU23 := Lib.hid hb3.size
  clear hown2 hs2 hb2 hown3 hsw3 hb3 hb4 hR4 hz4 hs4 hs hz
  go_wp2_with ((with_reducible refine wpList_store_row rfl 58 (.tmp 6) (.tmp 19) rfl U3.heap.size (sArr s (.slice c1 s.nodes.length k1) (.slice none 0 0) (.slice none 0 0)) rfl rfl 58 _ HS4.out (by kernel_rfl) rfl (Sh.sArr1 _ _ _ _) ?_))
  refine (Sh.rnew_all a0 _ z1 _ HV4.out HB8.out).mono ?_
  rintro e U5 ⟨vm, rfl, hown5, hsw5, hb5⟩
  rw [← HSE.out] at hown5 hsw5 ⊢
  rw [← HZE.out]
  obtain ⟨c2, k2, hv1, -⟩ := id (hown5.sl hsw5.1)
  subst hv1
  obtain ⟨U6, hU6, hb6, hR6, hz6, hs6⟩ := Sh.boxS U5 (sArr s (.slice c2 s.nodes.length k2) (.slice none 0 0) (.slice none 0 0))
  have HS6 := Lib.hid hs6
  have HR6 := Lib.hid hR6
  have hb46 := hb5.trans (hb6.mono hb5.size)
  have HR46 := Lib.hid ((hb46.block _ ((Array.getElem?_eq_some_iff.1 HR4.out).1)).trans HR4.out)
  have HOW6 := Lib.hid (HOW2.out.below hb46 (Nat.le_refl _))
  have HN46 := Lib.hid (HN4.out.below hb46 (Nat.le_refl _))
  have HM6 := Lib.hid (hown5.below hb6 (Nat.le_refl _))
  have HB26 := Lib.hid (HB24.out.trans (hb46.mono HB24.out.size))
  have HB6 := Lib.hid (HB2.out.trans (HB26.out.mono HB2.out.size))
  have HZZ : Hid (u2.heap.size ≤ U3.heap.size ∧ U3.heap.size < U4.heap.size ∧ u2.heap.size ≤ U5.heap.size) := Lib.hid ⟨HU23.out, (Array.getElem?_eq_some_iff.1 HR4.out).1, Nat.le_trans HB24.out.size hb5.size⟩
  have HU4z := Lib.hid hb5.size
  clear hown5 hsw5 hb5 hb6 hR6 hz6 hs6 hb46
  go_wp2_with ((with_reducible refine wpList_store_row rfl 58 (.tmp 8) (.tmp 25) rfl U5.heap.size (sArr s (.slice c2 s.nodes.length k2) (.slice none 0 0) (.slice none 0 0)) rfl rfl 58 _ HS6.out (by kernel_rfl) rfl (Sh.sArr1 _ _ _ _) ?_))
  go_loopw [29] (fun i wr => ∃ (k : Nat) (cs : List Value), k ≤ z1.length ∧ i = .int .i64 k ∧ Hid (wr.ownsRow w.heap.size 3 1 (.slice oa z1.length oc) z1.length cs ∧ cs.length = z1.length) ∧ Hid (∀ q, u2.heap.size ≤ q → wr.heap[q]? = U6.heap[q]?) ∧ Hid (U6.heap.size ≤ wr.heap.size) ∧ Hid (Below w.heap.size w wr)) (fun i _ => z1.length - (intOf i).toNat)
  case atStart => exact ⟨0, z1.map (Value.int .i64), Nat.zero_le _, rfl, Lib.hid ⟨HOW6.out, by simp⟩, Lib.hid (fun _ _ => rfl), Lib.hid (Nat.le_refl _), HB6⟩
  case round =>
    obtain ⟨k, cs, hk, rfl, HOC, HEQ, HSZ, HBr⟩ := hrel
    by_cases hlt : k < z1.length
    · rcases HOC.out.1.2 with ⟨-, h0⟩ | ⟨g, cap, cur, hv, hg, -, hlc, hcm, -⟩
      · omega
      · simp only [Value.slice.injEq, true_and] at hv
        obtain ⟨rfl, rfl⟩ := hv
        have hjl : k < cs.length := by have := HOC.out.2; omega
        have hcell := World.ownsRow.cells HOC.out.1 (g := g) rfl k _ (List.getElem?_eq_getElem hjl)
        rw [add_plain, Nat.zero_add] at hcell
        have hfz := World.ownsRow.frozenAt HOC.out.1 k
        have HGG := Lib.hid (HGO.out g rfl)
        generalize cs[k] = cu at hcell
        clear hjl hg
        go_wp2
        go_roundw
        case rel => exact ⟨k + 1, _, by omega, by go_num, Lib.hid ⟨(World.ownsRow.stored HOC.out.1 k (.int .i64 99)).1, by rw [List.length_set]; exact HOC.out.2⟩, Lib.hid (fun q hq => (heap_setCell_other _ _ _ _ (by show q ≠ g; have := HGG.out; omega)).trans (HEQ.out q hq)), Lib.hid (by have := HSZ.out; simpa using this), Lib.hid (HBr.out.setCell (by show w.heap.size ≤ g; exact HGG.out.1) _)⟩
        case measure => simp [intOf]; omega
    · obtain rfl : k = z1.length := by omega
      have HR4r := Lib.hid ((HEQ.out U3.heap.size (by have := HZZ.out; omega)).trans HR46.out)
      have HR6r := Lib.hid ((HEQ.out U5.heap.size (by have := HZZ.out; omega)).trans HR6.out)
      have HNr : Hid (Sl .i64 wr (.slice c1 s.nodes.length k1) s.nodes) := Lib.hid ((Sh.keepI HN46.out fun q _ hq => HEQ.out q hq).sl HSW.out.1)
      have HMr : Hid (Sl .i64 wr (.slice c2 s.nodes.length k2) s.nodes) := Lib.hid ((Sh.keepI HM6.out fun q _ hq => HEQ.out q (by have := HZZ.out; have := HU4z.out; omega)).sl HSW.out.1)
      have hlit : Sl .i64 (wr.alloc (.cells #[.int .i64 1] 3)) (.slice (some ⟨wr.heap.size, 0, none⟩) 1 1) [1] := Sl.newAt _ _ rfl _ [1] rfl rfl (Nat.le_refl _) (by decide) (by decide)
      have HLIT := Lib.hid hlit
      have HRN := Lib.hid Sh.shot_one
      clear hlit
      go_wp2_with fail
      refine (Sh.new_all 2 _ [1] _ HLIT.out (by decide)).mono ?_
      rintro e U7 ⟨vn3, rfl, hown7, hsw7, hb7⟩
      rw [HRN.out.1] at hown7 hsw7 ⊢
      rw [HRN.out.2]
      obtain ⟨c3, k3, hv1, -⟩ := id (hown7.sl hsw7.1)
      have hv1 : vn3 = .slice c3 1 k3 := hv1
      subst hv1
      obtain ⟨U8, hU8, hb8, hR8, hz8, hs8⟩ := Sh.boxS U7 (sArr (Sh.newS 2 [1]) (.slice c3 1 k3) (.slice none 0 0) (.slice none 0 0))
      have HS8 := Lib.hid hs8
      have hbr : Below wr.heap.size wr U8 := ((Below.refl _ _).alloc (Nat.le_refl _) _).trans ((hb7.mono (by simp)).trans (hb8.mono (by have := hb7.size; simp at this; omega)))
      have HBr8 := Lib.hid hbr
      obtain ⟨x0, x1, x2, x3, x4, x5, x6⟩ := Sh.cells7 hR8
      have hr4 := (hbr.block _ ((Array.getElem?_eq_some_iff.1 HR4r.out).1)).trans HR4r.out
      have hr6 := (hbr.block _ ((Array.getElem?_eq_some_iff.1 HR6r.out).1)).trans HR6r.out
      obtain ⟨y0, y1, y2, y3, y4, y5, y6⟩ := Sh.cells7 hr4
      obtain ⟨t0, t1, t2, t3, t4, t5, t6⟩ := Sh.cells7 hr6
      have hlim : (Sh.newS 2 [1]).led.limit = 2 := rfl
      rw [hlim] at x3
      have HI1 : Hid (IsShot U8 (.agg (sArr s (.slice c1 s.nodes.length k1) (.slice none 0 0) (.slice none 0 0))) s) := Lib.hid ⟨_, _, _, rfl, HNr.out.below hbr (Nat.le_refl _), by rw [HSW.out.2.2.1]; exact SlR.nil _, by rw [HSW.out.2.2.2]; exact SlR.nil _, HSW.out.2.1⟩
      have HI2 : Hid (IsShot U8 (.agg (sArr s (.slice c2 s.nodes.length k2) (.slice none 0 0) (.slice none 0 0))) s) := Lib.hid ⟨_, _, _, rfl, HMr.out.below hbr (Nat.le_refl _), by rw [HSW.out.2.2.1]; exact SlR.nil _, by rw [HSW.out.2.2.2]; exact SlR.nil _, HSW.out.2.1⟩
      have HBF := Lib.hid (HBr.out.trans (hbr.mono HBr.out.size))
      have hzz : (z == z) = true := beq_iff_eq.2 rfl
      clear hown7 hsw7 hb7 hb8 hR8 hz8 hs8 hbr hr4 hr6 hlim
      go_wp2_with ((with_reducible refine wpList_store_row rfl 58 (.tmp 11) (.tmp 39) rfl U7.heap.size (sArr (Sh.newS 2 [1]) (.slice c3 1 k3) (.slice none 0 0) (.slice none 0 0)) rfl rfl 58 _ HS8.out (by kernel_rfl) rfl (Sh.sArr1 _ _ _ _) ?_))
      refine (Sh.same_any s _ _ _ HI1.out HI2.out).mono ?_
      rintro e U9 ⟨rfl, hb9⟩
      go_wp2
      go_ret
      exact ⟨rfl, HBF.out.trans (hb9.mono HBF.out.size)⟩

set_option maxRecDepth 100000 in
theorem contract (H : Type) (enc : TypeId × Value → H) (W : World) (base : Nat) (args : Array Value) (ds gs : List (DataW H)) (before : List MemPlace)
    (hval0 : ∀ (j : Nat) t v, Try.f8.params[j]? = some t → args[j]? = some v → Value.okWide Try.prog W .any base t v)
    (hW : DataW.Whole enc Try.prog Try.f8.params.toList Rows.shotMakesSpec.vars false W args.toList ds gs before)
    (hsz0 : (DataW.weightsEach Try.prog (Try.f8.params.toList ++ Rows.shotMakesSpec.plain.varTypes Try.prog) (ds ++ gs)).all (· ≤ reachBytes) = true) :
    Calls Try.prog 8 args W fun e W' => ∃ v, e = .returned v ∧ Rows.shotMakesSpec.post enc Try.prog Try.f8 false true false false W args v W' := by
  have hval : ∀ (j : Nat) t v, Try.f8.params[j]? = some t → args[j]? = some v → Value.okWide Try.prog W .any base t v := hval0
  have hW' := hW
  obtain ⟨p, q, hA0, hV, rfl, hfz, hnd⟩ := hW
  have hA : DataW.TrodAll enc Try.prog W 0 (fun _ => true) true Try.f8.params.toList args.toList ds p := hA0
  rw [Try.params8] at hA hval
  have hsz := hsz0
  rw [Try.params8] at hsz
  obtain ⟨v0, vs0, d0, ds0, p0, q0, hargs, rfl, rfl, h0, r0⟩ := trodAll_cons hA
  obtain ⟨v1, vs1, d1, ds1, p1, q1, rfl, rfl, rfl, h1, r1⟩ := trodAll_cons r0
  obtain ⟨rfl, rfl, rfl⟩ := trodAll_nil r1
  obtain rfl : args = #[v0, v1] := by cases args; simp_all
  obtain ⟨rfl, rfl⟩ := trodVars_none hV
  clear hA0 hval0
  have k0 := h0
  have lt0 : ∀ x ∈ p0, x.block < W.heap.size := by obtain ⟨m, hm⟩ := k0; exact DataW.trod_lt m _ _ _ hm
  have k1 := h1
  have lt1 : ∀ x ∈ p1, x.block < W.heap.size := by obtain ⟨m, hm⟩ := k1; exact DataW.trod_lt m _ _ _ hm
  obtain ⟨a0, rfl, -, -, w0⟩ := open_int Try.underlying3 (hval 0 3 v0 rfl rfl) h0
  obtain ⟨z1, w1, u10, b10⟩ := open_sl Try.underlying27 Try.underlying3 (by kernel_rfl) (okWide_slice Try.underlying27 (hval 1 27 v1 rfl rfl)).choose_spec.choose_spec.choose_spec k1
  have b1 : z1.length * 8 ≤ 140737488351232 := by
    have := b10 hsz (j := 1) rfl rfl
    rw [show Try.prog.bytesOf 3 = 8 from by kernel_rfl] at this
    simpa [reachBytes] using this
  refine (walk a0 v1 z1 W w0 w1 b1).mono fun e W' ⟨he, bel⟩ => ?_
  subst he
  exact ⟨_, rfl, _, _, _, [], _, [], hW', trodAll_mk1 (shut_bool Try.underlying4 _), (trodAll_cons_mk (Below.trod laidOut (by kernel_rfl) (of_decide_eq_true (by kernel_rfl)) k0 bel lt0) (trodAll_cons_mk (Below.trod laidOut (by kernel_rfl) (of_decide_eq_true (by kernel_rfl)) k1 bel lt1) trodAll_mk0)), rfl, bel.frame _, fun h => by cases h⟩

set_option maxRecDepth 100000 in
theorem lifted (os : Os) (started : os.Started) (H : Type) (enc : TypeId × Value → H) :
    ReturnsInHanded {} Try.checked os 8 .any (Rows.shotMakesSpec.pre6 enc Try.prog Try.f8 Rows.shotMakesRow.domain false) (Rows.shotMakesSpec.post enc Try.prog Try.f8 false true false false) := by
  refine returnsInHanded_of_change_sized (C := Try.checked) own started (by kernel_rfl) Try.func8
    (ChangeSpec.witness6 (enc := enc) (C := Try.checked) false ⟨#[], #[.int .i64 0, .slice none 0 0], []⟩ 8 (by kernel_rfl) (by kernel_rfl) (by kernel_rfl) (by kernel_rfl)) ?_
  intro W base args ds gs before hval0 hW hcnd hsz _
  exact contract H enc W base args ds gs before hval0 hW hsz

theorem proved : Rows.ShotMakesSaid :=
  OpenClaim.holds_of_wide 8 Try.f8 rfl rfl rfl rfl rfl rfl rfl ⟨rfl, rfl, rfl, rfl, rfl⟩ rfl rfl rfl rfl rfl (by kernel_rfl) Try.func8 (by kernel_rfl)
    (of_decide_eq_true (by kernel_rfl)) (by unfold Func.isWrapper; first | (rw [if_pos (by decide +kernel)]; kernel_rfl) | (rw [if_neg (by decide +kernel)]; exact ⟨rfl, rfl⟩))
    (fun os started H enc _ => lifted os started H enc)
end Go.Proofs.Ytlkmdoddgfmnbaa.shotMakes
