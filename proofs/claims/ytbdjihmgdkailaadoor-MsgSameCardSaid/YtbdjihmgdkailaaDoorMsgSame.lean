/- The law MsgSame returns true for any bytes: what package msg's Decode takes Encode writes as these bytes, and the chapter's example holds. Condition: the table octet.steps reads as the program's text lays it. -/
import Derived.Test.YtbdjihmgdkailaaDoorBse
import Derived.Test.YtbdjihmgdkailaaDoorCards
import Derived.Test.YtbdjihmgdkailaaDoorTie
import Derived.Deep.DeepHandedRow
import Derived.Test.YtbdjihmgdkailaaDoorMdF
import Derived.Test.YtbdjihmgdkailaaDoorMdH
import Derived.Test.YtbdjihmgdkailaaDoorFrG
import Derived.Test.YtbdjihmgdkailaaDoorMxD
import Derived.BigRegion
namespace Go.Proofs.YtbdjihmgdkailaaDoor.msgSame
open Go.ChangeShapes Go.WideShapes Go.ChangeAt Go.RowKit
open Go.ChangeMaps (open_string shut_string)
set_option linter.unusedVariables false

theorem own : ownKnob Tryd.prog.godebug = none := by kernel_rfl
theorem laidOut : laidOutB Tryd.prog = true := by kernel_rfl

theorem opens_wfb {zs xs : List Int} {k : Nat} {er : Int} (h : Fr.Opens zs xs k er) (hw : Sc.WfB zs) : Sc.WfB xs := by
  cases h
  all_goals first
    | exact fun n hn => hw n (List.mem_of_mem_drop (List.mem_of_mem_take hn))
    | exact fun n hn => absurd hn List.not_mem_nil
theorem same_tie {zs : List Int} {m : Mes} (hb : ∀ i, i < zs.length → 0 ≤ zs.getD i 0 ∧ zs.getD i 0 ≤ 255) (hw : Sc.WfB zs) (h : Ms.DecR zs m 0) : Ms.msgOk m ∧ Fr.sealL (Ms.msgB m) = zs := by
  obtain ⟨xs, k, er, hop, hc⟩ := h
  rcases hc with ⟨h1, -, h2⟩ | ⟨-, -, h⟩ | ⟨h1, h2, h3⟩
  · exact absurd h2.symm h1
  · exact absurd h.2 (by decide)
  · subst h1
    obtain ⟨f1, f2, f3, f4⟩ := Fr.opens_same hb hop
    obtain ⟨g1, g2⟩ := Ms.dec_bw (opens_wfb hop hw) h3.symm
    refine ⟨g2, ?_⟩
    rw [g1, f3, List.take_of_length_le h2]
set_option maxRecDepth 100000 in
set_option maxHeartbeats 4000000 in
theorem walk (v0 : Value) (z0 : List Int) (w : World) (w0 : Sl .u8 w v0 z0) (b0 : z0.length * 1 ≤ 140737488351232) (ht : Oc.Tab w) :
    Calls Tryd.prog 5 #[v0] w fun e w' => e = .returned (.bool true) ∧ Below w.heap.size w w' := by
  have HT := Lib.hid ht
  have HW0 := Lib.hid w0
  have HBD := Lib.hid (fun i hi => bounds_u8 (w0.wf _ (Oc.ugetD hi).1) : ∀ i, i < z0.length → 0 ≤ z0.getD i 0 ∧ z0.getD i 0 ≤ 255)
  have HWF := Lib.hid (w0.wf)
  obtain ⟨a, cap, hv, hlc, -⟩ := id w0
  subst hv
  clear ht b0 w0
  go_enter Tryd.func5, Tryd.ntmps5
  go_wp2_with fail
  refine (Ms.live_any _ HT.out).mono ?_
  rintro e w1 ⟨rfl, hb1⟩
  have HB1 := Lib.hid hb1
  have HW1 := Lib.hid (HW0.out.below hb1 (Nat.le_refl _))
  have HT1 := Lib.hid (HT.out.below hb1 (Nat.le_refl _))
  clear hb1
  go_wp2_with fail
  refine (Ms.dec_any _ _ _ HW1.out HT1.out).mono ?_
  rintro e w2 ⟨m, z, ve, vn, vh, vl, rows, rfl, hd, hom, hb2⟩
  have HB2 := Lib.hid (HB1.out.trans (hb2.mono HB1.out.size))
  have HT2 := Lib.hid (HT1.out.below hb2 (Nat.le_refl _))
  have HW2 := Lib.hid (HW1.out.below hb2 (Nat.le_refl _))
  have hst : (w2.alloc (.cells Ms.zMB 32)).heap[w2.heap.size]? = some (.cells Ms.zMB 32 (0, 0)) := heap_alloc_new _ _
  obtain ⟨a1, i1, j1, a2, i2, j2, a3, i3, j3, a4, i4, j4, rfl, rfl, rfl, rfl⟩ := hom.forms
  obtain ⟨W3, hW3⟩ : ∃ q, (w2.alloc (.cells Ms.zMB 32)).setRow w2.heap.size (mArr m (.slice a1 i1 j1) (.slice a2 i2 j2) (.slice a3 i3 j3) (.slice a4 i4 j4)) = q := ⟨_, rfl⟩
  have hb3 : Below w2.heap.size w2 W3 := by rw [← hW3]; exact Ld.below_row ((Below.refl _ _).alloc (Nat.le_refl _) _) (Nat.le_refl _) _
  have hq3 : W3.heap[w2.heap.size]? = some (.cells (mArr m (.slice a1 i1 j1) (.slice a2 i2 j2) (.slice a3 i3 j3) (.slice a4 i4 j4)) 32 (0, 0)) := by rw [← hW3]; exact setRow_heap _ _ _ _ _ _ hst
  have HM3 := Lib.hid (hom.msg.below hb3 (Nat.le_refl _))
  have HB3 := Lib.hid (HB2.out.trans (hb3.mono HB2.out.size))
  have HT3 := Lib.hid (HT2.out.below hb3 (Nat.le_refl _))
  have HW3 := Lib.hid (HW2.out.below hb3 (Nat.le_refl _))
  have hone := Ms.mArr_one m a1 a2 a3 a4 i1 j1 i2 j2 i3 j3 i4 j4
  cases hz : (z == 0)
  · clear hb2 hb3 hom hd
    go_wp2_with (refine wpList_store_row rfl 32 (.tmp 4) (.tmp 12) rfl w2.heap.size (mArr m (.slice a1 i1 j1) (.slice a2 i2 j2) (.slice a3 i3 j3) (.slice a4 i4 j4)) rfl rfl 32 _ hst (by kernel_rfl) rfl hone ?_; rw [hW3]; clear hW3 hst)
    go_ret
    exact ⟨rfl, HB3.out⟩
  · obtain rfl : z = 0 := eq_of_beq hz
    have HQ := Lib.hid (same_tie HBD.out HWF.out hd)
    clear hb2 hb3 hom hd hz
    go_wp2_with (first
      | (refine wpList_store_row rfl 32 (.tmp 4) (.tmp 12) rfl w2.heap.size (mArr m (.slice a1 i1 j1) (.slice a2 i2 j2) (.slice a3 i3 j3) (.slice a4 i4 j4)) rfl rfl 32 _ hst (by kernel_rfl) rfl hone ?_; rw [hW3]; clear hW3 hst)
      | (refine wpList_load_rowG (by kernel_rfl) 32 (.tmp 4) rfl w2.heap.size rfl 32 (mArr m (.slice a1 i1 j1) (.slice a2 i2 j2) (.slice a3 i3 j3) (.slice a4 i4 j4)) (0, 0) _ hq3 Tryd.underlying32 rfl (by kernel_rfl) ?_))
    refine (Ms.enc_any m _ _ HM3.out HT3.out).mono ?_
    rintro e w4 ⟨v4, z4, bs, rfl, hz4, hown4, hs4, hb4⟩
    rcases hz4 with ⟨rfl, -, rfl⟩ | ⟨-, hno, -⟩
    · have hw5 := HW3.out.below hb4 (Nat.le_refl _)
      have hr1 := run_str hs4
      rw [HQ.out.2] at hr1
      have hr2 := run_str hw5
      obtain ⟨a5, n5, c5, hv5⟩ := Fr.own_form8 hown4
      subst hv5
      have HB5 := Lib.hid (HB3.out.trans (hb4.mono HB3.out.size))
      clear hown4 hs4 hb4 hw5 HW3 HW2 HW1 HW0
      go_wp2
      go_ret
      exact ⟨rfl, HB5.out⟩
    · exact absurd HQ.out.1 hno

set_option maxRecDepth 100000 in
theorem contract (H : Type) (enc : TypeId × Value → H) (W : World) (base : Nat) (args : Array Value) (ds gs : List (DataW H)) (before : List MemPlace)
    (hval0 : ∀ (j : Nat) t v, Tryd.f5.params[j]? = some t → args[j]? = some v → Value.okWide Tryd.prog W .any base t v)
    (hW : DataW.Whole enc Tryd.prog Tryd.f5.params.toList Rows.msgSameSpec.vars false W args.toList ds gs before)
    (hsz0 : (DataW.weightsEach Tryd.prog (Tryd.f5.params.toList ++ Rows.msgSameSpec.plain.varTypes Tryd.prog) (ds ++ gs)).all (· ≤ reachBytes) = true) (hL : laidMetH Tryd.prog Rows.msgSameRow.laid W) :
    Calls Tryd.prog 5 args W fun e W' => ∃ v, e = .returned v ∧ Rows.msgSameSpec.post enc Tryd.prog Tryd.f5 false true false false W args v W' := by
  have hval : ∀ (j : Nat) t v, Tryd.f5.params[j]? = some t → args[j]? = some v → Value.okWide Tryd.prog W .any base t v := hval0
  have hW' := hW
  obtain ⟨p, q, hA0, hV, rfl, hfz, hnd⟩ := hW
  have hA : DataW.TrodAll enc Tryd.prog W 0 (fun _ => true) true Tryd.f5.params.toList args.toList ds p := hA0
  rw [Tryd.params5] at hA hval
  have hsz := hsz0
  rw [Tryd.params5] at hsz
  obtain ⟨v0, vs0, d0, ds0, p0, q0, hargs, rfl, rfl, h0, r0⟩ := trodAll_cons hA
  obtain ⟨rfl, rfl, rfl⟩ := trodAll_nil r0
  obtain rfl : args = #[v0] := by cases args; simp_all
  obtain ⟨rfl, rfl⟩ := trodVars_none hV
  clear hA0 hval0
  have k0 := h0
  have lt0 : ∀ x ∈ p0, x.block < W.heap.size := by obtain ⟨m, hm⟩ := k0; exact DataW.trod_lt m _ _ _ hm
  obtain ⟨z0, w0, u00, b00⟩ := open_sl Tryd.underlying33 Tryd.underlying5 (by kernel_rfl) (okWide_slice Tryd.underlying33 (hval 0 33 v0 rfl rfl)).choose_spec.choose_spec.choose_spec k0
  have b0 : z0.length * 1 ≤ 140737488351232 := by
    have := b00 hsz (j := 0) rfl rfl
    rw [show Tryd.prog.bytesOf 5 = 1 from by kernel_rfl] at this
    simpa [reachBytes] using this
  have ht : Oc.Tab W := Oc.tab_of hL
  refine (walk v0 z0 W w0 b0 ht).mono fun e W' ⟨he, bel⟩ => ?_
  subst he
  exact ⟨_, rfl, _, _, _, [], _, [], hW', trodAll_mk1 (shut_bool Tryd.underlying4 _), (trodAll_cons_mk (Below.trod laidOut (by kernel_rfl) (of_decide_eq_true (by kernel_rfl)) k0 bel lt0) trodAll_mk0), rfl, bel.frame _, fun h => by cases h⟩

noncomputable def laidWorld (os : Os) : World :=
  { World.holding Tryd.prog os ⟨#[], #[], []⟩ with heap := (World.holding Tryd.prog os ⟨#[], #[], []⟩).heap.modify 0 fun
      | .cells _ t frozen => .cells (Oc.tabI.map (Value.int .u32)).toArray t frozen
      | o => o }
abbrev wargs : Array Value := #[.slice none 0 0]
theorem laid_met (os : Os) : laidMet Tryd.prog Rows.msgSameRow.laid ((laidWorld os).forCall (fun _ _ => 0) ⟨#[], wargs, []⟩).memory :=
  laidMet_of_run' 8 (by kernel_rfl) (by kernel_rfl)
theorem reads (os : Os) {H : Type} (enc : TypeId × Value → H) : ∃ places, DataW.whole enc Tryd.prog ((laidWorld os).forCall (fun _ _ => 0) ⟨#[], wargs, []⟩).memory Tryd.f5.params.toList Rows.msgSameSpec.vars false wargs.toList 8 = some ([.nil], [], places) :=
  ⟨[], by kernel_rfl⟩
set_option maxRecDepth 100000 in
theorem lifted (os : Os) (started : os.Started) (H : Type) (enc : TypeId × Value → H) (F : Stop.Interp) :
    ReturnsInHanded {} Tryd.checked os 5 .any ((OpenSpec.ofChange Rows.msgSameSpec).preRow enc Tryd.prog Tryd.f5 Rows.msgSameRow.domain false Rows.msgSameRow.laid) (((OpenSpec.ofChange Rows.msgSameSpec).at F).post enc Tryd.prog Tryd.f5 false true false false) := by
  obtain ⟨places, hx⟩ := reads os enc
  refine returnsInHanded_of_row (C := Tryd.checked) (s := OpenSpec.ofChange Rows.msgSameSpec) own started (by kernel_rfl) Tryd.func5
    (witness_row_at (enc := enc) (C := Tryd.checked) false (laidWorld os) wargs rfl (by kernel_rfl) (by kernel_rfl) (by kernel_rfl)
      (OpenSpec.preRow_of_cond 8 hx (by kernel_rfl) (fun k hk => by cases hk) (by kernel_rfl) (laid_met os))) ?_
  intro W base args ds gs before hval hW _ hcond hsz hL _ _
  exact contract H enc W base args ds gs before hval hW hsz hL

theorem said : Rows.MsgSameSaid :=
  OpenClaim.holds_of_cond 5 Tryd.f5 rfl rfl rfl rfl rfl rfl rfl ⟨rfl, rfl, rfl, rfl, rfl⟩ rfl rfl rfl rfl rfl (by kernel_rfl) Tryd.func5 (by kernel_rfl)
    (of_decide_eq_true (by kernel_rfl)) (by unfold Func.isWrapper; first | (rw [if_pos (by decide +kernel)]; kernel_rfl) | (rw [if_neg (by decide +kernel)]; exact ⟨rfl, rfl⟩))
    (fun os started H enc _ F => by rw [OpenClaim.pre_eq_preRow]; exact lifted os started H enc F)
theorem plain (f : FuncId) (fn : Func) (hf : Tryd.pinned.checked.prog.funcNamed "stopcock/stopcocklaw08.MsgSame" = some f) (hfn : Tryd.pinned.checked.prog.funcs[f]? = some fn) :
    false = Tryd.pinned.checked.prog.looks [] ∧ ∀ (j : Nat) t, fn.params[j]? = some t → Tryd.pinned.checked.prog.wantsStandIn t = false := by
  obtain rfl : f = 5 := Option.some.inj ((show Tryd.prog.funcNamed "stopcock/stopcocklaw08.MsgSame" = some 5 by kernel_rfl).symm.trans hf) |>.symm
  obtain rfl : fn = Tryd.f5 := (Option.some.inj (Tryd.func5.symm.trans hfn)).symm
  refine ⟨by kernel_rfl, fun j t ht => ?_⟩
  rw [Tryd.params5] at ht
  have hm : t ∈ [33] := by simpa using Array.mem_of_getElem? ht
  have hall : ([33].all fun u => !Tryd.prog.wantsStandIn u) = true := by kernel_rfl
  exact (show Tryd.prog.wantsStandIn t = false by simpa using List.all_eq_true.1 hall t hm)
theorem proved : Rows.MsgSameCardSaid :=
  Claim7.holds_tied_plain_at .later [] _ _ _ _ said (fun _ h => by cases h) (by kernel_rfl) (fun _ h => by cases h) msgSame_row_tie rfl ⟨rfl, rfl⟩ (by kernel_rfl) rfl plain (by kernel_rfl)
end Go.Proofs.YtbdjihmgdkailaaDoor.msgSame
