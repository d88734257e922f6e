/- The law FrameBack returns true where the input holds together at most 1048576 values: what was sealed is opened as what it was, whatever stands behind it. Condition: the table octet.steps reads as the program's text lays it. -/
import Derived.Test.YtkncjmppilhdlaaDoorSl
import Derived.Test.YtkncjmppilhdlaaDoorCards
import Derived.Test.YtkncjmppilhdlaaDoorTie
import Derived.Deep.DeepHandedRow
import Derived.Test.YtkncjmppilhdlaaDoorFrG
import Derived.Test.YtkncjmppilhdlaaDoorSt8
namespace Go.Proofs.YtkncjmppilhdlaaDoor.frameBack
open Go.ChangeShapes Go.WideShapes Go.ChangeAt Go.RowKit
open Go.ChangeMaps (open_string shut_string)
set_option linter.unusedVariables false

theorem own : ownKnob Tryd.prog.godebug = none := by kernel_rfl
theorem laidOut : laidOutB Tryd.prog = true := by kernel_rfl

set_option maxHeartbeats 1000000 in
theorem walk (v0 : Value) (z0 : List Int) (v1 : Value) (z1 : List Int) (w : World) (w0 : Sl .u8 w v0 z0) (b0 : z0.length ≤ 1048576) (w1 : Sl .u8 w v1 z1) (b1 : z1.length ≤ 1048576) (ht : Oc.Tab w) :
    Calls Tryd.prog 5 #[v0, v1] w fun e w' => e = .returned (.bool true) ∧ Below w.heap.size w w' := by
  have HT := Lib.hid ht
  have HW0 := Lib.hid w0
  have HX0 := Lib.hid w1
  obtain ⟨a, cap, hv, hlc, -⟩ := id w0
  subst hv
  obtain ⟨ax, capx, hvx, hlcx, -⟩ := id w1
  subst hvx
  clear ht w0 w1
  go_enter Tryd.func5, Tryd.ntmps5
  go_wp2_with fail
  refine (Fr.live_any _ HT.out).mono ?_
  rintro e u1 ⟨rfl, hb1⟩
  have HB1 := Lib.hid hb1
  have HW1 := Lib.hid (HW0.out.below hb1 (Nat.le_refl _))
  have HX1 := Lib.hid (HX0.out.below hb1 (Nat.le_refl _))
  have HT1 := Lib.hid (HT.out.below hb1 (Nat.le_refl _))
  clear hb1
  by_cases hl : z0.length ≤ 8192
  · go_wp2_with fail
    refine (Fr.seal_any _ _ _ HW1.out HT1.out hl).mono ?_
    rintro e u2 ⟨v2, rfl, hown2, hs2, hb2⟩
    have HB2 := Lib.hid (HB1.out.trans (hb2.mono HB1.out.size))
    have HT2 := Lib.hid (HT1.out.below hb2 (Nat.le_refl _))
    have HW2 := Lib.hid (HW1.out.below hb2 (Nat.le_refl _))
    have HX2 := Lib.hid (HX1.out.below hb2 (Nat.le_refl _))
    have HL := Lib.hid (Fr.seal_len z0)
    have HS2 := Lib.hid hs2
    have HOP := Lib.hid (Fr.opens_seal z1 hl)
    have HBW := Lib.hid (wf_app hs2.wf HX2.out.wf)
    obtain ⟨a2, c2, hv2, -⟩ := id hs2
    subst hv2
    clear hown2 hs2 hb2
    go_wp2_with (first
      | (at_builtin; refine app8 rfl (.const (.slice none 0 0)) _ rfl u2.heap.size _ [] rfl (Own.nil _ _) _ (Fr.sealL z0) rfl HS2.out (by rw [HL.out]; simp; omega) (Nat.le_refl _) ?_; intro v3 u3 hown3 hb3; rw [List.nil_append] at hown3; have HOW3 := Lib.hid hown3; have HB3 := Lib.hid hb3; have HX3 := Lib.hid (HX2.out.below hb3 (Nat.le_refl _)); obtain ⟨a3, n3, c3, hv3⟩ := Fr.own_form8 hown3; subst hv3; clear hown3 hb3)
      | (at_builtin; refine app8 rfl _ _ rfl u2.heap.size _ (Fr.sealL z0) rfl HOW3.out _ z1 rfl HX3.out (by rw [HL.out]; omega) HB3.out.size ?_; intro v4 u4 hown4 hb4; have HS4 := Lib.hid (hown4.sl HBW.out); have HB4 := Lib.hid (HB3.out.trans hb4); obtain ⟨a4, n4, c4, hv4⟩ := Fr.own_form8 hown4; subst hv4; clear hown4 hb4))
    refine (Fr.open_any _ _ _ HS4.out (HT2.out.below HB4.out (Nat.le_refl _))).mono ?_
    rintro e u5 ⟨v5, xs, k, er, rfl, hop, hown5, hs5, hb5⟩
    obtain ⟨rfl, rfl, rfl⟩ := HOP.out.eq hop
    have hr1 := run_str hs5
    have hr2 := run_str (HW2.out.below (HB4.out.trans (hb5.mono HB4.out.size)) (Nat.le_refl _))
    have hk : ((((z0.length + 8 : Nat) : Int)) == (((Fr.sealL z0).length : Nat) : Int)) = true := beq_iff_eq.2 (by rw [HL.out])
    have hk2 : (((z0.length : Int) + 8) == (((Fr.sealL z0).length : Nat) : Int)) = true := beq_iff_eq.2 (by rw [HL.out]; omega)
    have HB5 := Lib.hid (HB2.out.trans ((HB4.out.trans (hb5.mono HB4.out.size)).mono HB2.out.size))
    obtain ⟨a5, n5, c5, hv5⟩ := Fr.own_form8 hown5
    subst hv5
    clear hop hown5 hs5 hb5
    go_wp2
    go_ret
    exact ⟨rfl, HB5.out⟩
  · have d1 : decide ((8192 : Int) < (z0.length : Int)) = true := decide_eq_true (by omega)
    go_wp2_with fail
    refine (Fr.seal_long _ _ _ HW1.out (by omega)).mono ?_
    rintro e w2 ⟨rfl, rfl⟩
    go_wp2
    go_ret
    exact ⟨rfl, HB1.out⟩

set_option maxRecDepth 100000 in
theorem contract (H : Type) (enc : TypeId × Value → H) (W : World) (base : Nat) (args : Array Value) (ds gs : List (DataW H)) (before : List MemPlace)
    (hval0 : ∀ (j : Nat) t v, Tryd.f5.params[j]? = some t → args[j]? = some v → Value.okWide Tryd.prog W .any base t v)
    (hW : DataW.Whole enc Tryd.prog Tryd.f5.params.toList Rows.frameBackSpec.vars false W args.toList ds gs before)
    (hk : Rows.uptoSmall H (ds ++ gs) = true) (hL : laidMetH Tryd.prog Rows.frameBackRow.laid W) :
    Calls Tryd.prog 5 args W fun e W' => ∃ v, e = .returned v ∧ Rows.frameBackSpec.post enc Tryd.prog Tryd.f5 false true false false W args v W' := by
  have hval : ∀ (j : Nat) t v, Tryd.f5.params[j]? = some t → args[j]? = some v → Value.okWide Tryd.prog W .any base t v := hval0
  have hW' := hW
  obtain ⟨p, q, hA0, hV, rfl, hfz, hnd⟩ := hW
  have hA : DataW.TrodAll enc Tryd.prog W 0 (fun _ => true) true Tryd.f5.params.toList args.toList ds p := hA0
  rw [Tryd.params5] at hA hval
  obtain ⟨v0, vs0, d0, ds0, p0, q0, hargs, rfl, rfl, h0, r0⟩ := trodAll_cons hA
  obtain ⟨v1, vs1, d1, ds1, p1, q1, rfl, rfl, rfl, h1, r1⟩ := trodAll_cons r0
  obtain ⟨rfl, rfl, rfl⟩ := trodAll_nil r1
  obtain rfl : args = #[v0, v1] := by cases args; simp_all
  obtain ⟨rfl, rfl⟩ := trodVars_none hV
  clear hA0 hval0
  simp only [List.append_nil] at hk
  have ub := of_decide_eq_true hk
  have u0 : Rows.uptoBulk d0 ≤ 1048576 := Nat.le_trans (bulk_mem (l := [d0, d1]) (by simp)) ub
  have u1 : Rows.uptoBulk d1 ≤ 1048576 := Nat.le_trans (bulk_mem (l := [d0, d1]) (by simp)) ub
  clear hk ub
  have k0 := h0
  have lt0 : ∀ x ∈ p0, x.block < W.heap.size := by obtain ⟨m, hm⟩ := k0; exact DataW.trod_lt m _ _ _ hm
  have k1 := h1
  have lt1 : ∀ x ∈ p1, x.block < W.heap.size := by obtain ⟨m, hm⟩ := k1; exact DataW.trod_lt m _ _ _ hm
  obtain ⟨z0, w0, u00, b00⟩ := open_sl Tryd.underlying22 Tryd.underlying5 (by kernel_rfl) (okWide_slice Tryd.underlying22 (hval 0 22 v0 rfl rfl)).choose_spec.choose_spec.choose_spec k0
  have b0 : z0.length ≤ 1048576 := Nat.le_trans u00 u0
  obtain ⟨z1, w1, u10, b10⟩ := open_sl Tryd.underlying22 Tryd.underlying5 (by kernel_rfl) (okWide_slice Tryd.underlying22 (hval 1 22 v1 rfl rfl)).choose_spec.choose_spec.choose_spec k1
  have b1 : z1.length ≤ 1048576 := Nat.le_trans u10 u1
  have ht : Oc.Tab W := Oc.tab_of hL
  refine (walk v0 z0 v1 z1 W w0 b0 w1 b1 ht).mono fun e W' ⟨he, bel⟩ => ?_
  subst he
  exact ⟨_, rfl, _, _, _, [], _, [], hW', trodAll_mk1 (shut_bool Tryd.underlying4 _), (trodAll_cons_mk (Below.trod laidOut (by kernel_rfl) (of_decide_eq_true (by kernel_rfl)) k0 bel lt0) (trodAll_cons_mk (Below.trod laidOut (by kernel_rfl) (of_decide_eq_true (by kernel_rfl)) k1 bel lt1) trodAll_mk0)), rfl, bel.frame _, fun h => by cases h⟩

noncomputable def laidWorld (os : Os) : World :=
  { World.holding Tryd.prog os ⟨#[], #[], []⟩ with heap := (World.holding Tryd.prog os ⟨#[], #[], []⟩).heap.modify 0 fun
      | .cells _ t frozen => .cells (Oc.tabI.map (Value.int .u32)).toArray t frozen
      | o => o }
abbrev wargs : Array Value := #[.slice none 0 0, .slice none 0 0]
theorem laid_met (os : Os) : laidMet Tryd.prog Rows.frameBackRow.laid ((laidWorld os).forCall (fun _ _ => 0) ⟨#[], wargs, []⟩).memory :=
  laidMet_of_run' 8 (by kernel_rfl) (by kernel_rfl)
theorem reads (os : Os) {H : Type} (enc : TypeId × Value → H) : ∃ places, DataW.whole enc Tryd.prog ((laidWorld os).forCall (fun _ _ => 0) ⟨#[], wargs, []⟩).memory Tryd.f5.params.toList Rows.frameBackSpec.vars false wargs.toList 8 = some ([.nil, .nil], [], places) :=
  ⟨[], by kernel_rfl⟩
set_option maxRecDepth 100000 in
theorem lifted (os : Os) (started : os.Started) (H : Type) (enc : TypeId × Value → H) (F : Stop.Interp) :
    ReturnsInHanded {} Tryd.checked os 5 .any ((Rows.OpenSpec.upto Rows.frameBackSpec).preRow enc Tryd.prog Tryd.f5 Rows.frameBackUptoRow.domain false Rows.frameBackUptoRow.laid) (((Rows.OpenSpec.upto Rows.frameBackSpec).at F).post enc Tryd.prog Tryd.f5 false true false false) := by
  obtain ⟨places, hx⟩ := reads os enc
  refine returnsInHanded_of_row (C := Tryd.checked) (s := Rows.OpenSpec.upto Rows.frameBackSpec) own started (by kernel_rfl) Tryd.func5
    (witness_row_at (enc := enc) (C := Tryd.checked) false (laidWorld os) wargs rfl (by kernel_rfl) (by kernel_rfl) (by kernel_rfl)
      (OpenSpec.preRow_of_cond 8 hx (by kernel_rfl) (fun k hk => by cases hk; kernel_rfl) (by kernel_rfl) (laid_met os))) ?_
  intro W base args ds gs before hval hW _ hcond hsz hL _ _
  exact contract H enc W base args ds gs before hval hW (hcond _ rfl) hL

theorem said : Rows.FrameBackUptoSaid :=
  OpenClaim.holds_of_cond 5 Tryd.f5 rfl rfl rfl rfl rfl rfl rfl ⟨rfl, rfl, rfl, rfl, rfl⟩ rfl rfl rfl rfl rfl (by kernel_rfl) Tryd.func5 (by kernel_rfl)
    (of_decide_eq_true (by kernel_rfl)) (by unfold Func.isWrapper; first | (rw [if_pos (by decide +kernel)]; kernel_rfl) | (rw [if_neg (by decide +kernel)]; exact ⟨rfl, rfl⟩))
    (fun os started H enc _ F => by rw [OpenClaim.pre_eq_preRow]; exact lifted os started H enc F)
theorem plain (f : FuncId) (fn : Func) (hf : Tryd.pinned.checked.prog.funcNamed "stopcock/stopcocklaw07.FrameBack" = some f) (hfn : Tryd.pinned.checked.prog.funcs[f]? = some fn) :
    false = Tryd.pinned.checked.prog.looks [] ∧ ∀ (j : Nat) t, fn.params[j]? = some t → Tryd.pinned.checked.prog.wantsStandIn t = false := by
  obtain rfl : f = 5 := Option.some.inj ((show Tryd.prog.funcNamed "stopcock/stopcocklaw07.FrameBack" = some 5 by kernel_rfl).symm.trans hf) |>.symm
  obtain rfl : fn = Tryd.f5 := (Option.some.inj (Tryd.func5.symm.trans hfn)).symm
  refine ⟨by kernel_rfl, fun j t ht => ?_⟩
  rw [Tryd.params5] at ht
  have hm : t ∈ [22, 22] := by simpa using Array.mem_of_getElem? ht
  have hall : ([22, 22].all fun u => !Tryd.prog.wantsStandIn u) = true := by kernel_rfl
  exact (show Tryd.prog.wantsStandIn t = false by simpa using List.all_eq_true.1 hall t hm)
theorem proved : Rows.FrameBackUptoCardSaid :=
  Claim7.holds_tied_plain_at .later [] _ _ _ _ said (fun _ h => by cases h) (by kernel_rfl) (fun _ h => by cases h) frameBackUpto_row_tie rfl ⟨rfl, rfl⟩ (by kernel_rfl) rfl plain (by kernel_rfl)
end Go.Proofs.YtkncjmppilhdlaaDoor.frameBack
