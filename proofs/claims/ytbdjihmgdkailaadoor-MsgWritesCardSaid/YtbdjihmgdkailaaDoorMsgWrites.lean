/- The law MsgWrites returns true for every message: package msg's Encode answers what the document's own Encode answers, the bytes and the error, and the chapter's example holds. Condition: the table octet.steps reads as the program's text lays it. -/
import Derived.Test.YtbdjihmgdkailaaDoorBse
import Derived.Test.YtbdjihmgdkailaaDoorCards
import Derived.Test.YtbdjihmgdkailaaDoorTie
import Derived.Deep.DeepHandedRow
import Derived.Test.YtbdjihmgdkailaaDoorMxC
import Derived.Test.YtbdjihmgdkailaaDoorMxD
namespace Go.Proofs.YtbdjihmgdkailaaDoor.msgWrites
open Go.ChangeShapes Go.WideShapes Go.ChangeAt Go.RowKit
open Go.ChangeMaps (open_string shut_string)
set_option linter.unusedVariables false

theorem own : ownKnob Tryd.prog.godebug = none := by kernel_rfl
theorem laidOut : laidOutB Tryd.prog = true := by kernel_rfl

theorem Ms.enc_same {m : Mes} {z y : Int} {bs cs : List Int} (h : (z = 0 ∧ Ms.msgOk m ∧ bs = Fr.sealL (Ms.msgB m)) ∨ (z = 80 ∧ ¬ Ms.msgOk m ∧ bs = [])) (g : (y = 0 ∧ Ms.msgOk m ∧ cs = Fr.sealL (Ms.msgB m)) ∨ (y = 80 ∧ ¬ Ms.msgOk m ∧ cs = [])) : z = y ∧ bs = cs := by
  rcases h with ⟨h1, h2, h3⟩ | ⟨h1, h2, h3⟩ <;> rcases g with ⟨g1, g2, g3⟩ | ⟨g1, g2, g3⟩
  · exact ⟨by rw [h1, g1], by rw [h3, g3]⟩
  · exact absurd h2 g2
  · exact absurd g2 h2
  · exact ⟨by rw [h1, g1], by rw [h3, g3]⟩
set_option maxHeartbeats 4000000 in
theorem walk (v0 : Value) (x0 : Mes) (w : World) (w0 : IsMsg w v0 x0) (ht : Oc.Tab w) :
    Calls Tryd.prog 3 #[v0] w fun e w' => e = .returned (.bool true) ∧ Below w.heap.size w w' := by
  have HT := Lib.hid ht
  obtain ⟨ae, ce, vn, vh, vl, rfl, hlc, hcm, hx⟩ := Ms.BoxM.of w0
  have hr := hx.2.1
  have HX := Lib.hid hx
  clear hx w0 ht
  go_enter Tryd.func3, Tryd.ntmps3
  go_wp2_with (refine wpList_load_row rfl 32 (.tmp 1) rfl w.heap.size rfl 32 (mArr x0 (.slice ae x0.ents.length ce) vn vh vl) (0, 0) _ hr Tryd.underlying32 rfl (by kernel_rfl) ?_)
  refine (Ms.enc_any x0 _ _ HX.out.2.2.1 (HT.out.below HX.out.1 (Nat.le_refl _))).mono ?_
  rintro e w1 ⟨v1, z1, b1, rfl, hz1, -, hs1, hb1⟩
  have HZ1 := Lib.hid hz1
  have HS1 := Lib.hid hs1
  have HX1 := Lib.hid (HX.out.on hb1)
  have hr1 := HX1.out.2.1
  clear hz1 hs1 hb1 hr
  go_wp2_with (refine wpList_load_row rfl 32 (.tmp 1) rfl w.heap.size rfl 32 (mArr x0 (.slice ae x0.ents.length ce) vn vh vl) (0, 0) _ hr1 Tryd.underlying32 rfl (by kernel_rfl) ?_)
  refine (Ms.renc_any x0 _ _ HX1.out.2.2.1).mono ?_
  rintro e w2 ⟨v2, z2, b2, rfl, hz2, -, hs2, hb2⟩
  obtain ⟨rfl, rfl⟩ := Ms.enc_same HZ1.out hz2
  have HS2 := Lib.hid hs2
  have HS12 := Lib.hid (HS1.out.below hb2 (Nat.le_refl _))
  have HX2 := Lib.hid (HX1.out.on hb2)
  clear hz2 hs2 hb2 hr1
  go_wp2_with fail
  refine (Ms.live_any _ (HT.out.below HX2.out.1 (Nat.le_refl _))).mono ?_
  rintro e w3 ⟨rfl, hb3⟩
  have hq1 := run_str (HS12.out.below hb3 (Nat.le_refl _))
  have hq2 := run_str (HS2.out.below hb3 (Nat.le_refl _))
  have HB3 := Lib.hid (HX2.out.1.trans (hb3.mono HX2.out.1.size))
  clear hb3
  go_wp2
  go_ret
  exact ⟨rfl, HB3.out⟩

set_option maxRecDepth 100000 in
theorem contract (H : Type) (enc : TypeId × Value → H) (W : World) (base : Nat) (args : Array Value) (ds gs : List (DataW H)) (before : List MemPlace)
    (hval0 : ∀ (j : Nat) t v, Tryd.f3.params[j]? = some t → args[j]? = some v → Value.okWide Tryd.prog W .any base t v)
    (hW : DataW.Whole enc Tryd.prog Tryd.f3.params.toList Rows.msgWritesSpec.vars false W args.toList ds gs before)
    (hsz0 : (DataW.weightsEach Tryd.prog (Tryd.f3.params.toList ++ Rows.msgWritesSpec.plain.varTypes Tryd.prog) (ds ++ gs)).all (· ≤ reachBytes) = true) (hL : laidMetH Tryd.prog Rows.msgWritesRow.laid W) :
    Calls Tryd.prog 3 args W fun e W' => ∃ v, e = .returned v ∧ Rows.msgWritesSpec.post enc Tryd.prog Tryd.f3 false true false false W args v W' := by
  have hval : ∀ (j : Nat) t v, Tryd.f3.params[j]? = some t → args[j]? = some v → Value.okWide Tryd.prog W .any base t v := hval0
  have hW' := hW
  obtain ⟨p, q, hA0, hV, rfl, hfz, hnd⟩ := hW
  have hA : DataW.TrodAll enc Tryd.prog W 0 (fun _ => true) true Tryd.f3.params.toList args.toList ds p := hA0
  rw [Tryd.params3] at hA hval
  have hsz := hsz0
  rw [Tryd.params3] at hsz
  obtain ⟨v0, vs0, d0, ds0, p0, q0, hargs, rfl, rfl, h0, r0⟩ := trodAll_cons hA
  obtain ⟨rfl, rfl, rfl⟩ := trodAll_nil r0
  obtain rfl : args = #[v0] := by cases args; simp_all
  obtain ⟨rfl, rfl⟩ := trodVars_none hV
  clear hA0 hval0
  have k0 := h0
  have lt0 : ∀ x ∈ p0, x.block < W.heap.size := by obtain ⟨m, hm⟩ := k0; exact DataW.trod_lt m _ _ _ hm
  obtain ⟨x0, w0, -⟩ := open_msg (hval 0 32 v0 rfl rfl) k0
  have ht : Oc.Tab W := Oc.tab_of hL
  refine (walk v0 x0 W w0 ht).mono fun e W' ⟨he, bel⟩ => ?_
  subst he
  exact ⟨_, rfl, _, _, _, [], _, [], hW', trodAll_mk1 (shut_bool Tryd.underlying4 _), (trodAll_cons_mk (Below.trod laidOut (by kernel_rfl) (of_decide_eq_true (by kernel_rfl)) k0 bel lt0) trodAll_mk0), rfl, bel.frame _, fun h => by cases h⟩

noncomputable def laidWorld (os : Os) : World :=
  { World.holding Tryd.prog os ⟨#[], #[], []⟩ with heap := (World.holding Tryd.prog os ⟨#[], #[], []⟩).heap.modify 0 fun
      | .cells _ t frozen => .cells (Oc.tabI.map (Value.int .u32)).toArray t frozen
      | o => o }
abbrev wargs : Array Value := #[.agg #[.int .i64 0, .int .i64 0, .int .i64 0, .int .u64 0, .int .u64 0, .int .u64 0, .int .u64 0, .bool false, .slice none 0 0, .int .u64 0, .int .u64 0, .slice none 0 0, .int .i64 0, .int .u64 0, .slice none 0 0, .slice none 0 0]]
theorem laid_met (os : Os) : laidMet Tryd.prog Rows.msgWritesRow.laid ((laidWorld os).forCall (fun _ _ => 0) ⟨#[], wargs, []⟩).memory :=
  laidMet_of_run' 8 (by kernel_rfl) (by kernel_rfl)
theorem reads (os : Os) {H : Type} (enc : TypeId × Value → H) : ∃ places, DataW.whole enc Tryd.prog ((laidWorld os).forCall (fun _ _ => 0) ⟨#[], wargs, []⟩).memory Tryd.f3.params.toList Rows.msgWritesSpec.vars false wargs.toList 8 = some ([.agg [.lit (.int .i64 0), .lit (.int .i64 0), .lit (.int .i64 0), .lit (.int .u64 0), .lit (.int .u64 0), .lit (.int .u64 0), .lit (.int .u64 0), .lit (.bool false), .nil, .agg [.lit (.int .u64 0), .lit (.int .u64 0), .nil, .agg [.lit (.int .i64 0), .lit (.int .u64 0), .nil, .nil]]]], [], places) :=
  ⟨[], by kernel_rfl⟩
set_option maxRecDepth 100000 in
theorem lifted (os : Os) (started : os.Started) (H : Type) (enc : TypeId × Value → H) (F : Stop.Interp) :
    ReturnsInHanded {} Tryd.checked os 3 .any ((OpenSpec.ofChange Rows.msgWritesSpec).preRow enc Tryd.prog Tryd.f3 Rows.msgWritesRow.domain false Rows.msgWritesRow.laid) (((OpenSpec.ofChange Rows.msgWritesSpec).at F).post enc Tryd.prog Tryd.f3 false true false false) := by
  obtain ⟨places, hx⟩ := reads os enc
  refine returnsInHanded_of_row (C := Tryd.checked) (s := OpenSpec.ofChange Rows.msgWritesSpec) own started (by kernel_rfl) Tryd.func3
    (witness_row_at (enc := enc) (C := Tryd.checked) false (laidWorld os) wargs rfl (by kernel_rfl) (by kernel_rfl) (by kernel_rfl)
      (OpenSpec.preRow_of_cond 8 hx (by kernel_rfl) (fun k hk => by cases hk) (by kernel_rfl) (laid_met os))) ?_
  intro W base args ds gs before hval hW _ hcond hsz hL _ _
  exact contract H enc W base args ds gs before hval hW hsz hL

theorem said : Rows.MsgWritesSaid :=
  OpenClaim.holds_of_cond 3 Tryd.f3 rfl rfl rfl rfl rfl rfl rfl ⟨rfl, rfl, rfl, rfl, rfl⟩ rfl rfl rfl rfl rfl (by kernel_rfl) Tryd.func3 (by kernel_rfl)
    (of_decide_eq_true (by kernel_rfl)) (by unfold Func.isWrapper; first | (rw [if_pos (by decide +kernel)]; kernel_rfl) | (rw [if_neg (by decide +kernel)]; exact ⟨rfl, rfl⟩))
    (fun os started H enc _ F => by rw [OpenClaim.pre_eq_preRow]; exact lifted os started H enc F)
theorem plain (f : FuncId) (fn : Func) (hf : Tryd.pinned.checked.prog.funcNamed "stopcock/stopcocklaw08.MsgWrites" = some f) (hfn : Tryd.pinned.checked.prog.funcs[f]? = some fn) :
    false = Tryd.pinned.checked.prog.looks [] ∧ ∀ (j : Nat) t, fn.params[j]? = some t → Tryd.pinned.checked.prog.wantsStandIn t = false := by
  obtain rfl : f = 3 := Option.some.inj ((show Tryd.prog.funcNamed "stopcock/stopcocklaw08.MsgWrites" = some 3 by kernel_rfl).symm.trans hf) |>.symm
  obtain rfl : fn = Tryd.f3 := (Option.some.inj (Tryd.func3.symm.trans hfn)).symm
  refine ⟨by kernel_rfl, fun j t ht => ?_⟩
  rw [Tryd.params3] at ht
  have hm : t ∈ [32] := by simpa using Array.mem_of_getElem? ht
  have hall : ([32].all fun u => !Tryd.prog.wantsStandIn u) = true := by kernel_rfl
  exact (show Tryd.prog.wantsStandIn t = false by simpa using List.all_eq_true.1 hall t hm)
theorem proved : Rows.MsgWritesCardSaid :=
  Claim7.holds_tied_plain_at .later [] _ _ _ _ said (fun _ h => by cases h) (by kernel_rfl) (fun _ h => by cases h) msgWrites_row_tie rfl ⟨rfl, rfl⟩ (by kernel_rfl) rfl plain (by kernel_rfl)
end Go.Proofs.YtbdjihmgdkailaaDoor.msgWrites
