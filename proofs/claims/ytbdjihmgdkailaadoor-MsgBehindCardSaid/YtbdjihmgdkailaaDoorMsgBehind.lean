/- The law MsgBehind returns true for every message and every byte: a message's frame with a byte behind it is refused as ErrForm, and the chapter's example holds. Condition: the table octet.steps reads as the program's text lays it. -/
import Derived.Test.YtbdjihmgdkailaaDoorBse
import Derived.Test.YtbdjihmgdkailaaDoorCards
import Derived.Test.YtbdjihmgdkailaaDoorTie
import Derived.Deep.DeepHandedRow
import Derived.Test.YtbdjihmgdkailaaDoorMxE
namespace Go.Proofs.YtbdjihmgdkailaaDoor.msgBehind
open Go.ChangeShapes Go.WideShapes Go.ChangeAt Go.RowKit
open Go.ChangeMaps (open_string shut_string)
set_option linter.unusedVariables false

theorem own : ownKnob Tryd.prog.godebug = none := by kernel_rfl
theorem laidOut : laidOutB Tryd.prog = true := by kernel_rfl

set_option maxHeartbeats 4000000 in
theorem walk (v0 : Value) (x0 : Mes) (a1 : Int) (w : World) (w0 : IsMsg w v0 x0) (w1 : (Lit.int .u8 a1).wf = true) (ht : Oc.Tab w) :
    Calls Tryd.prog 6 #[v0, .int .u8 a1] w fun e w' => e = .returned (.bool true) ∧ Below w.heap.size w w' := by
  have HT := Lib.hid ht
  have HA := Lib.hid w1
  obtain ⟨ae, ce, vn, vh, vl, rfl, hlc, hcm, hx⟩ := Ms.BoxM.of w0
  have HX := Lib.hid hx
  have HML := Lib.hid (fun ok => Ms.msg_len w0 ok)
  clear hx w0 ht w1
  go_enter Tryd.func6, Tryd.ntmps6
  go_wp2_with fail
  refine (Ms.live_any _ (HT.out.below HX.out.1 (Nat.le_refl _))).mono ?_
  rintro e u1 ⟨rfl, hb1⟩
  have HX1 := Lib.hid (HX.out.on hb1)
  have hr1 := HX1.out.2.1
  clear hb1
  go_wp2_with (refine wpList_load_row rfl 32 (.tmp 2) rfl w.heap.size rfl 32 (mArr x0 (.slice ae x0.ents.length ce) vn vh vl) (0, 0) _ hr1 Tryd.underlying32 rfl (by kernel_rfl) ?_)
  refine (Ms.enc_any x0 _ _ HX1.out.2.2.1 (HT.out.below HX1.out.1 (Nat.le_refl _))).mono ?_
  rintro e u2 ⟨v2, z2, bs, rfl, hz2, -, hs2, hb2⟩
  have HX2 := Lib.hid (HX1.out.on hb2)
  clear hr1 hb2
  rcases hz2 with ⟨rfl, hok, rfl⟩ | ⟨rfl, hno, rfl⟩
  · have HS2 := Lib.hid hs2
    have HL := Lib.hid (Fr.seal_len (Ms.msgB x0))
    have HM := Lib.hid (HML.out hok)
    have HOP := Lib.hid (Fr.opens_seal (zs := Ms.msgB x0) [a1] (HML.out hok).1)
    have hlr : Sl .u8 (u2.alloc (.cells #[.int .u8 a1] 5)) (.slice (some ⟨u2.heap.size, 0, none⟩) 1 1) [a1] := Sl.new (fr := (0, 0)) u2 _ [a1] rfl rfl (Nat.le_refl _) (by decide) (by intro x hx; rw [List.mem_singleton] at hx; subst hx; exact HA.out)
    obtain ⟨s2, c2, hv2, -⟩ := id hs2
    subst hv2
    clear hs2 hok
    have hlb : ([] : List Int).length + (Fr.sealL (Ms.msgB x0)).length ≤ 140737488355328 := by rw [HL.out]; have := HM.out.1; simp; omega
    have hlb2 : (Fr.sealL (Ms.msgB x0)).length + ([a1] : List Int).length ≤ 140737488355328 := by rw [HL.out]; have := HM.out.1; simp; omega
    clear hlr
    go_wp2_with (first
      | (at_builtin; refine app8 rfl (.const (.slice none 0 0)) _ rfl u2.heap.size _ [] rfl (Own.nil _ _) _ (Fr.sealL (Ms.msgB x0)) rfl HS2.out hlb (Nat.le_refl _) ?_; intro v3 u3 hown3 hb3; rw [List.nil_append] at hown3; have HO3 := Lib.hid hown3; have HX3 := Lib.hid (HX2.out.on hb3); have HB3 := Lib.hid hb3; clear hown3 hb3)
      | (at_builtin; refine app8 rfl _ _ rfl u2.heap.size _ (Fr.sealL (Ms.msgB x0)) rfl (HO3.out.below ((Below.refl _ _).alloc (Nat.le_refl _) _) (Nat.le_refl _)) _ [a1] rfl (Sl.new (fr := (0, 0)) u3 _ [a1] rfl rfl (Nat.le_refl _) (by decide) (by intro x hx; rw [List.mem_singleton] at hx; subst hx; exact HA.out)) hlb2 (Nat.le_trans HB3.out.size (by simp)) ?_; intro v4 u4 hown4 hb4; have HO4 := Lib.hid hown4; have HB4 := Lib.hid ((HB3.out.alloc HB3.out.size _).trans hb4); clear hown4 hb4))
    have HX4 := Lib.hid (HX2.out.on HB4.out)
    have HS4 : Hid (Sl .u8 u4 v4 (Fr.sealL (Ms.msgB x0) ++ [a1])) := Lib.hid (HO4.out.sl (wf_app HS2.out.wf (by intro x hx; rw [List.mem_singleton] at hx; subst hx; exact HA.out)))
    have HKL : Hid ((Ms.msgB x0).length + 8 < (Fr.sealL (Ms.msgB x0) ++ [a1]).length) := Lib.hid (by rw [List.length_append, HL.out]; simp)
    refine (Ms.dec_behind _ _ _ _ _ HS4.out (HT.out.below HX4.out.1 (Nat.le_refl _)) HOP.out HKL.out).mono ?_
    rintro e u5 ⟨rfl, hb5⟩
    have HB5 := Lib.hid (HX4.out.1.trans (hb5.mono HX4.out.1.size))
    have hrz : (u5.alloc (.cells Ms.zMA 32)).heap[u5.heap.size]? = some (.cells Ms.zMA 32 (0, 0)) := heap_alloc_new _ _
    have HFIN : Hid (Below w.heap.size w ((u5.alloc (.cells Ms.zMA 32)).setRow u5.heap.size Ms.zMA)) := Lib.hid (Ld.below_row (HB5.out.alloc HB5.out.size _) HB5.out.size _)
    clear hb5
    go_wp2_with (refine wpList_store_row rfl 32 (.tmp 8) (.tmp 26) rfl u5.heap.size Ms.zMA rfl rfl 32 _ hrz (by kernel_rfl) rfl (by kernel_rfl) ?_)
    go_ret
    exact ⟨rfl, HFIN.out⟩
  · clear hs2
    go_wp2
    go_ret
    exact ⟨rfl, HX2.out.1⟩

set_option maxRecDepth 100000 in
theorem contract (H : Type) (enc : TypeId × Value → H) (W : World) (base : Nat) (args : Array Value) (ds gs : List (DataW H)) (before : List MemPlace)
    (hval0 : ∀ (j : Nat) t v, Tryd.f6.params[j]? = some t → args[j]? = some v → Value.okWide Tryd.prog W .any base t v)
    (hW : DataW.Whole enc Tryd.prog Tryd.f6.params.toList Rows.msgBehindSpec.vars false W args.toList ds gs before)
    (hsz0 : (DataW.weightsEach Tryd.prog (Tryd.f6.params.toList ++ Rows.msgBehindSpec.plain.varTypes Tryd.prog) (ds ++ gs)).all (· ≤ reachBytes) = true) (hL : laidMetH Tryd.prog Rows.msgBehindRow.laid W) :
    Calls Tryd.prog 6 args W fun e W' => ∃ v, e = .returned v ∧ Rows.msgBehindSpec.post enc Tryd.prog Tryd.f6 false true false false W args v W' := by
  have hval : ∀ (j : Nat) t v, Tryd.f6.params[j]? = some t → args[j]? = some v → Value.okWide Tryd.prog W .any base t v := hval0
  have hW' := hW
  obtain ⟨p, q, hA0, hV, rfl, hfz, hnd⟩ := hW
  have hA : DataW.TrodAll enc Tryd.prog W 0 (fun _ => true) true Tryd.f6.params.toList args.toList ds p := hA0
  rw [Tryd.params6] at hA hval
  have hsz := hsz0
  rw [Tryd.params6] at hsz
  obtain ⟨v0, vs0, d0, ds0, p0, q0, hargs, rfl, rfl, h0, r0⟩ := trodAll_cons hA
  obtain ⟨v1, vs1, d1, ds1, p1, q1, rfl, rfl, rfl, h1, r1⟩ := trodAll_cons r0
  obtain ⟨rfl, rfl, rfl⟩ := trodAll_nil r1
  obtain rfl : args = #[v0, v1] := by cases args; simp_all
  obtain ⟨rfl, rfl⟩ := trodVars_none hV
  clear hA0 hval0
  have k0 := h0
  have lt0 : ∀ x ∈ p0, x.block < W.heap.size := by obtain ⟨m, hm⟩ := k0; exact DataW.trod_lt m _ _ _ hm
  have k1 := h1
  have lt1 : ∀ x ∈ p1, x.block < W.heap.size := by obtain ⟨m, hm⟩ := k1; exact DataW.trod_lt m _ _ _ hm
  obtain ⟨x0, w0, -⟩ := open_msg (hval 0 32 v0 rfl rfl) k0
  obtain ⟨a1, rfl, -, -, w1⟩ := open_int Tryd.underlying5 (hval 1 5 v1 rfl rfl) h1
  have ht : Oc.Tab W := Oc.tab_of hL
  refine (walk v0 x0 a1 W w0 w1 ht).mono fun e W' ⟨he, bel⟩ => ?_
  subst he
  exact ⟨_, rfl, _, _, _, [], _, [], hW', trodAll_mk1 (shut_bool Tryd.underlying4 _), (trodAll_cons_mk (Below.trod laidOut (by kernel_rfl) (of_decide_eq_true (by kernel_rfl)) k0 bel lt0) (trodAll_cons_mk (Below.trod laidOut (by kernel_rfl) (of_decide_eq_true (by kernel_rfl)) k1 bel lt1) trodAll_mk0)), rfl, bel.frame _, fun h => by cases h⟩

noncomputable def laidWorld (os : Os) : World :=
  { World.holding Tryd.prog os ⟨#[], #[], []⟩ with heap := (World.holding Tryd.prog os ⟨#[], #[], []⟩).heap.modify 0 fun
      | .cells _ t frozen => .cells (Oc.tabI.map (Value.int .u32)).toArray t frozen
      | o => o }
abbrev wargs : Array Value := #[.agg #[.int .i64 0, .int .i64 0, .int .i64 0, .int .u64 0, .int .u64 0, .int .u64 0, .int .u64 0, .bool false, .slice none 0 0, .int .u64 0, .int .u64 0, .slice none 0 0, .int .i64 0, .int .u64 0, .slice none 0 0, .slice none 0 0], .int .u8 0]
theorem laid_met (os : Os) : laidMet Tryd.prog Rows.msgBehindRow.laid ((laidWorld os).forCall (fun _ _ => 0) ⟨#[], wargs, []⟩).memory :=
  laidMet_of_run' 8 (by kernel_rfl) (by kernel_rfl)
theorem reads (os : Os) {H : Type} (enc : TypeId × Value → H) : ∃ places, DataW.whole enc Tryd.prog ((laidWorld os).forCall (fun _ _ => 0) ⟨#[], wargs, []⟩).memory Tryd.f6.params.toList Rows.msgBehindSpec.vars false wargs.toList 8 = some ([.agg [.lit (.int .i64 0), .lit (.int .i64 0), .lit (.int .i64 0), .lit (.int .u64 0), .lit (.int .u64 0), .lit (.int .u64 0), .lit (.int .u64 0), .lit (.bool false), .nil, .agg [.lit (.int .u64 0), .lit (.int .u64 0), .nil, .agg [.lit (.int .i64 0), .lit (.int .u64 0), .nil, .nil]]], .lit (.int .u8 0)], [], places) :=
  ⟨[], by kernel_rfl⟩
set_option maxRecDepth 100000 in
theorem lifted (os : Os) (started : os.Started) (H : Type) (enc : TypeId × Value → H) (F : Stop.Interp) :
    ReturnsInHanded {} Tryd.checked os 6 .any ((OpenSpec.ofChange Rows.msgBehindSpec).preRow enc Tryd.prog Tryd.f6 Rows.msgBehindRow.domain false Rows.msgBehindRow.laid) (((OpenSpec.ofChange Rows.msgBehindSpec).at F).post enc Tryd.prog Tryd.f6 false true false false) := by
  obtain ⟨places, hx⟩ := reads os enc
  refine returnsInHanded_of_row (C := Tryd.checked) (s := OpenSpec.ofChange Rows.msgBehindSpec) own started (by kernel_rfl) Tryd.func6
    (witness_row_at (enc := enc) (C := Tryd.checked) false (laidWorld os) wargs rfl (by kernel_rfl) (by kernel_rfl) (by kernel_rfl)
      (OpenSpec.preRow_of_cond 8 hx (by kernel_rfl) (fun k hk => by cases hk) (by kernel_rfl) (laid_met os))) ?_
  intro W base args ds gs before hval hW _ hcond hsz hL _ _
  exact contract H enc W base args ds gs before hval hW hsz hL

theorem said : Rows.MsgBehindSaid :=
  OpenClaim.holds_of_cond 6 Tryd.f6 rfl rfl rfl rfl rfl rfl rfl ⟨rfl, rfl, rfl, rfl, rfl⟩ rfl rfl rfl rfl rfl (by kernel_rfl) Tryd.func6 (by kernel_rfl)
    (of_decide_eq_true (by kernel_rfl)) (by unfold Func.isWrapper; first | (rw [if_pos (by decide +kernel)]; kernel_rfl) | (rw [if_neg (by decide +kernel)]; exact ⟨rfl, rfl⟩))
    (fun os started H enc _ F => by rw [OpenClaim.pre_eq_preRow]; exact lifted os started H enc F)
theorem plain (f : FuncId) (fn : Func) (hf : Tryd.pinned.checked.prog.funcNamed "stopcock/stopcocklaw08.MsgBehind" = some f) (hfn : Tryd.pinned.checked.prog.funcs[f]? = some fn) :
    false = Tryd.pinned.checked.prog.looks [] ∧ ∀ (j : Nat) t, fn.params[j]? = some t → Tryd.pinned.checked.prog.wantsStandIn t = false := by
  obtain rfl : f = 6 := Option.some.inj ((show Tryd.prog.funcNamed "stopcock/stopcocklaw08.MsgBehind" = some 6 by kernel_rfl).symm.trans hf) |>.symm
  obtain rfl : fn = Tryd.f6 := (Option.some.inj (Tryd.func6.symm.trans hfn)).symm
  refine ⟨by kernel_rfl, fun j t ht => ?_⟩
  rw [Tryd.params6] at ht
  have hm : t ∈ [32, 5] := by simpa using Array.mem_of_getElem? ht
  have hall : ([32, 5].all fun u => !Tryd.prog.wantsStandIn u) = true := by kernel_rfl
  exact (show Tryd.prog.wantsStandIn t = false by simpa using List.all_eq_true.1 hall t hm)
theorem proved : Rows.MsgBehindCardSaid :=
  Claim7.holds_tied_plain_at .later [] _ _ _ _ said (fun _ h => by cases h) (by kernel_rfl) (fun _ h => by cases h) msgBehind_row_tie rfl ⟨rfl, rfl⟩ (by kernel_rfl) rfl plain (by kernel_rfl)
end Go.Proofs.YtbdjihmgdkailaaDoor.msgBehind
