/- The law MsgBack returns true for every message: what package msg's Encode writes Decode reads as the message, a message that is refused may not be, and the chapter's example holds. Condition: the table octet.steps reads as the program's text lays it. -/
import Derived.Test.YtbdjihmgdkailaaDoorBse
import Derived.Test.YtbdjihmgdkailaaDoorCards
import Derived.Test.YtbdjihmgdkailaaDoorTie
import Derived.Deep.DeepHandedRow
import Derived.Test.YtbdjihmgdkailaaDoorMdF
import Derived.Test.YtbdjihmgdkailaaDoorMdG
import Derived.Test.YtbdjihmgdkailaaDoorFrG
import Derived.Test.YtbdjihmgdkailaaDoorMsH
namespace Go.Proofs.YtbdjihmgdkailaaDoor.msgBack
open Go.ChangeShapes Go.WideShapes Go.ChangeAt Go.RowKit
open Go.ChangeMaps (open_string shut_string)
set_option linter.unusedVariables false

theorem own : ownKnob Tryd.prog.godebug = none := by kernel_rfl
theorem laidOut : laidOutB Tryd.prog = true := by kernel_rfl

set_option maxHeartbeats 4000000 in
theorem walk (v0 : Value) (x0 : Mes) (w : World) (w0 : IsMsg w v0 x0) (ht : Oc.Tab w) :
    Calls Tryd.prog 4 #[v0] w fun e w' => e = .returned (.bool true) ∧ Below w.heap.size w w' := by
  have HT := Lib.hid ht
  have HDF := Lib.hid (fun ok => Ms.dec_fw w0 ok)
  have HML := Lib.hid (fun ok => Ms.msg_len w0 ok)
  obtain ⟨ae, ce, vn, vh, vl, rfl, hlc, hcm, hx⟩ := Ms.BoxM.of w0
  have HX := Lib.hid hx
  clear hx w0 ht
  go_enter Tryd.func4, Tryd.ntmps4
  go_wp2_with fail
  refine (Ms.live_any _ (HT.out.below HX.out.1 (Nat.le_refl _))).mono ?_
  rintro e u1 ⟨rfl, hb1⟩
  have HX1 := Lib.hid (HX.out.on hb1)
  have hr1 := HX1.out.2.1
  clear hb1
  go_wp2_with (refine wpList_load_row rfl 32 (.tmp 1) rfl w.heap.size rfl 32 (mArr x0 (.slice ae x0.ents.length ce) vn vh vl) (0, 0) _ hr1 Tryd.underlying32 rfl (by kernel_rfl) ?_)
  refine (Ms.enc_any x0 _ _ HX1.out.2.2.1 (HT.out.below HX1.out.1 (Nat.le_refl _))).mono ?_
  rintro e u2 ⟨v2, z2, bs, rfl, hz2, hown2, hs2, hb2⟩
  have HX2 := Lib.hid (HX1.out.on hb2)
  have hr2 := HX2.out.2.1
  clear hr1 hb2
  rcases hz2 with ⟨rfl, hok, rfl⟩ | ⟨rfl, hno, rfl⟩
  · have HS2 := Lib.hid hs2
    have HOK := Lib.hid hok
    have HOP := Lib.hid (Fr.opens_seal (zs := Ms.msgB x0) [] (HML.out hok).1)
    have HL := Lib.hid (Fr.seal_len (Ms.msgB x0))
    clear hs2 hown2 hok
    go_wp2_with fail
    refine (Ms.dec_any _ _ _ HS2.out (HT.out.below HX2.out.1 (Nat.le_refl _))).mono ?_
    rintro e u3 ⟨m3, z3, e3, n3, h3, l3, rows, rfl, hd, hom, hb3⟩
    obtain ⟨rfl, rfl⟩ : x0 = m3 ∧ z3 = 0 := by
      obtain ⟨xs, k, er, hop, hc⟩ := hd
      have hop2 := HOP.out
      rw [List.append_nil] at hop2
      obtain ⟨rfl, rfl, rfl⟩ := hop2.eq hop
      rcases hc with ⟨h, -⟩ | ⟨-, h, -⟩ | ⟨-, -, h⟩
      · exact absurd rfl h
      · rw [HL.out] at h; omega
      · rw [HDF.out HOK.out] at h
        simp only [Prod.mk.injEq] at h
        exact ⟨h.1.symm, h.2⟩
    obtain ⟨a1, i1, j1, a2, i2, j2, a3, i3, j3, a4, i4, j4, rfl, rfl, rfl, rfl⟩ := hom.forms
    have HX3 := Lib.hid (HX2.out.on hb3)
    have hst : (u3.alloc (.cells Ms.zMB 32)).heap[u3.heap.size]? = some (.cells Ms.zMB 32 (0, 0)) := heap_alloc_new _ _
    obtain ⟨W4, hW4⟩ : ∃ q, (u3.alloc (.cells Ms.zMB 32)).setRow u3.heap.size (mArr x0 (.slice a1 i1 j1) (.slice a2 i2 j2) (.slice a3 i3 j3) (.slice a4 i4 j4)) = q := ⟨_, rfl⟩
    have hb4 : Below u3.heap.size u3 W4 := by rw [← hW4]; exact Ld.below_row ((Below.refl _ _).alloc (Nat.le_refl _) _) (Nat.le_refl _) _
    have hq4 : W4.heap[u3.heap.size]? = some (.cells (mArr x0 (.slice a1 i1 j1) (.slice a2 i2 j2) (.slice a3 i3 j3) (.slice a4 i4 j4)) 32 (0, 0)) := by rw [← hW4]; exact setRow_heap _ _ _ _ _ _ hst
    have HM4 := Lib.hid (hom.msg.below hb4 (Nat.le_refl _))
    have HX4 := Lib.hid (HX3.out.on hb4)
    have hr4 := HX4.out.2.1
    have hone := Ms.mArr_one x0 a1 a2 a3 a4 i1 j1 i2 j2 i3 j3 i4 j4
    clear hr2 hb3 hb4 hom hd
    go_wp2_with (first
      | (refine wpList_store_row rfl 32 (.tmp 6) (.tmp 30) rfl u3.heap.size (mArr x0 (.slice a1 i1 j1) (.slice a2 i2 j2) (.slice a3 i3 j3) (.slice a4 i4 j4)) rfl rfl 32 _ hst (by kernel_rfl) rfl hone ?_; rw [hW4]; clear hW4 hst)
      | (refine wpList_load_rowG (by kernel_rfl) 32 (.tmp 1) rfl w.heap.size rfl 32 (mArr x0 (.slice ae x0.ents.length ce) vn vh vl) (0, 0) _ hr4 Tryd.underlying32 rfl (by kernel_rfl) ?_)
      | (refine wpList_load_rowG (by kernel_rfl) 32 (.tmp 6) rfl u3.heap.size rfl 32 (mArr x0 (.slice a1 i1 j1) (.slice a2 i2 j2) (.slice a3 i3 j3) (.slice a4 i4 j4)) (0, 0) _ hq4 Tryd.underlying32 rfl (by kernel_rfl) ?_))
    refine (Ms.same_any x0 _ _ _ HX4.out.2.2.1 HM4.out).mono ?_
    rintro e u5 ⟨rfl, hb5⟩
    go_wp2
    go_ret
    exact ⟨rfl, HX4.out.1.trans (hb5.mono HX4.out.1.size)⟩
  · have hnil : v2 = .slice none 0 0 ∨ ∃ g c, v2 = .slice (some ⟨g, 0, none⟩) 0 c := by
      rcases hown2.2 with ⟨h, _⟩ | ⟨g, cap, cur, h, _⟩
      · exact .inl h
      · exact .inr ⟨g, cap, h⟩
    have HNO := Lib.hid hno
    clear hs2 hown2 hno
    rcases hnil with rfl | ⟨g, c, rfl⟩
    all_goals
      go_wp2_with (refine wpList_load_rowG (by kernel_rfl) 32 (.tmp 1) rfl w.heap.size rfl 32 (mArr x0 (.slice ae x0.ents.length ce) vn vh vl) (0, 0) _ hr2 Tryd.underlying32 rfl (by kernel_rfl) ?_)
      refine (Ms.check_any x0 _ _ HX2.out.2.2.1).mono ?_
      rintro e u3 ⟨z, rfl, hz, hb3⟩
      obtain rfl : z = 80 := by
        rcases hz with ⟨-, h⟩ | ⟨h, -⟩
        · exact absurd h HNO.out
        · exact h
      have HB3 := Lib.hid (HX2.out.on hb3).1
      clear hz hb3
      go_wp2
      go_ret
      exact ⟨rfl, HB3.out⟩

set_option maxRecDepth 100000 in
theorem contract (H : Type) (enc : TypeId × Value → H) (W : World) (base : Nat) (args : Array Value) (ds gs : List (DataW H)) (before : List MemPlace)
    (hval0 : ∀ (j : Nat) t v, Tryd.f4.params[j]? = some t → args[j]? = some v → Value.okWide Tryd.prog W .any base t v)
    (hW : DataW.Whole enc Tryd.prog Tryd.f4.params.toList Rows.msgBackSpec.vars false W args.toList ds gs before)
    (hsz0 : (DataW.weightsEach Tryd.prog (Tryd.f4.params.toList ++ Rows.msgBackSpec.plain.varTypes Tryd.prog) (ds ++ gs)).all (· ≤ reachBytes) = true) (hL : laidMetH Tryd.prog Rows.msgBackRow.laid W) :
    Calls Tryd.prog 4 args W fun e W' => ∃ v, e = .returned v ∧ Rows.msgBackSpec.post enc Tryd.prog Tryd.f4 false true false false W args v W' := by
  have hval : ∀ (j : Nat) t v, Tryd.f4.params[j]? = some t → args[j]? = some v → Value.okWide Tryd.prog W .any base t v := hval0
  have hW' := hW
  obtain ⟨p, q, hA0, hV, rfl, hfz, hnd⟩ := hW
  have hA : DataW.TrodAll enc Tryd.prog W 0 (fun _ => true) true Tryd.f4.params.toList args.toList ds p := hA0
  rw [Tryd.params4] at hA hval
  have hsz := hsz0
  rw [Tryd.params4] at hsz
  obtain ⟨v0, vs0, d0, ds0, p0, q0, hargs, rfl, rfl, h0, r0⟩ := trodAll_cons hA
  obtain ⟨rfl, rfl, rfl⟩ := trodAll_nil r0
  obtain rfl : args = #[v0] := by cases args; simp_all
  obtain ⟨rfl, rfl⟩ := trodVars_none hV
  clear hA0 hval0
  have k0 := h0
  have lt0 : ∀ x ∈ p0, x.block < W.heap.size := by obtain ⟨m, hm⟩ := k0; exact DataW.trod_lt m _ _ _ hm
  obtain ⟨x0, w0, -⟩ := open_msg (hval 0 32 v0 rfl rfl) k0
  have ht : Oc.Tab W := Oc.tab_of hL
  refine (walk v0 x0 W w0 ht).mono fun e W' ⟨he, bel⟩ => ?_
  subst he
  exact ⟨_, rfl, _, _, _, [], _, [], hW', trodAll_mk1 (shut_bool Tryd.underlying4 _), (trodAll_cons_mk (Below.trod laidOut (by kernel_rfl) (of_decide_eq_true (by kernel_rfl)) k0 bel lt0) trodAll_mk0), rfl, bel.frame _, fun h => by cases h⟩

noncomputable def laidWorld (os : Os) : World :=
  { World.holding Tryd.prog os ⟨#[], #[], []⟩ with heap := (World.holding Tryd.prog os ⟨#[], #[], []⟩).heap.modify 0 fun
      | .cells _ t frozen => .cells (Oc.tabI.map (Value.int .u32)).toArray t frozen
      | o => o }
abbrev wargs : Array Value := #[.agg #[.int .i64 0, .int .i64 0, .int .i64 0, .int .u64 0, .int .u64 0, .int .u64 0, .int .u64 0, .bool false, .slice none 0 0, .int .u64 0, .int .u64 0, .slice none 0 0, .int .i64 0, .int .u64 0, .slice none 0 0, .slice none 0 0]]
theorem laid_met (os : Os) : laidMet Tryd.prog Rows.msgBackRow.laid ((laidWorld os).forCall (fun _ _ => 0) ⟨#[], wargs, []⟩).memory :=
  laidMet_of_run' 8 (by kernel_rfl) (by kernel_rfl)
theorem reads (os : Os) {H : Type} (enc : TypeId × Value → H) : ∃ places, DataW.whole enc Tryd.prog ((laidWorld os).forCall (fun _ _ => 0) ⟨#[], wargs, []⟩).memory Tryd.f4.params.toList Rows.msgBackSpec.vars false wargs.toList 8 = some ([.agg [.lit (.int .i64 0), .lit (.int .i64 0), .lit (.int .i64 0), .lit (.int .u64 0), .lit (.int .u64 0), .lit (.int .u64 0), .lit (.int .u64 0), .lit (.bool false), .nil, .agg [.lit (.int .u64 0), .lit (.int .u64 0), .nil, .agg [.lit (.int .i64 0), .lit (.int .u64 0), .nil, .nil]]]], [], places) :=
  ⟨[], by kernel_rfl⟩
set_option maxRecDepth 100000 in
theorem lifted (os : Os) (started : os.Started) (H : Type) (enc : TypeId × Value → H) (F : Stop.Interp) :
    ReturnsInHanded {} Tryd.checked os 4 .any ((OpenSpec.ofChange Rows.msgBackSpec).preRow enc Tryd.prog Tryd.f4 Rows.msgBackRow.domain false Rows.msgBackRow.laid) (((OpenSpec.ofChange Rows.msgBackSpec).at F).post enc Tryd.prog Tryd.f4 false true false false) := by
  obtain ⟨places, hx⟩ := reads os enc
  refine returnsInHanded_of_row (C := Tryd.checked) (s := OpenSpec.ofChange Rows.msgBackSpec) own started (by kernel_rfl) Tryd.func4
    (witness_row_at (enc := enc) (C := Tryd.checked) false (laidWorld os) wargs rfl (by kernel_rfl) (by kernel_rfl) (by kernel_rfl)
      (OpenSpec.preRow_of_cond 8 hx (by kernel_rfl) (fun k hk => by cases hk) (by kernel_rfl) (laid_met os))) ?_
  intro W base args ds gs before hval hW _ hcond hsz hL _ _
  exact contract H enc W base args ds gs before hval hW hsz hL

theorem said : Rows.MsgBackSaid :=
  OpenClaim.holds_of_cond 4 Tryd.f4 rfl rfl rfl rfl rfl rfl rfl ⟨rfl, rfl, rfl, rfl, rfl⟩ rfl rfl rfl rfl rfl (by kernel_rfl) Tryd.func4 (by kernel_rfl)
    (of_decide_eq_true (by kernel_rfl)) (by unfold Func.isWrapper; first | (rw [if_pos (by decide +kernel)]; kernel_rfl) | (rw [if_neg (by decide +kernel)]; exact ⟨rfl, rfl⟩))
    (fun os started H enc _ F => by rw [OpenClaim.pre_eq_preRow]; exact lifted os started H enc F)
theorem plain (f : FuncId) (fn : Func) (hf : Tryd.pinned.checked.prog.funcNamed "stopcock/stopcocklaw08.MsgBack" = some f) (hfn : Tryd.pinned.checked.prog.funcs[f]? = some fn) :
    false = Tryd.pinned.checked.prog.looks [] ∧ ∀ (j : Nat) t, fn.params[j]? = some t → Tryd.pinned.checked.prog.wantsStandIn t = false := by
  obtain rfl : f = 4 := Option.some.inj ((show Tryd.prog.funcNamed "stopcock/stopcocklaw08.MsgBack" = some 4 by kernel_rfl).symm.trans hf) |>.symm
  obtain rfl : fn = Tryd.f4 := (Option.some.inj (Tryd.func4.symm.trans hfn)).symm
  refine ⟨by kernel_rfl, fun j t ht => ?_⟩
  rw [Tryd.params4] at ht
  have hm : t ∈ [32] := by simpa using Array.mem_of_getElem? ht
  have hall : ([32].all fun u => !Tryd.prog.wantsStandIn u) = true := by kernel_rfl
  exact (show Tryd.prog.wantsStandIn t = false by simpa using List.all_eq_true.1 hall t hm)
theorem proved : Rows.MsgBackCardSaid :=
  Claim7.holds_tied_plain_at .later [] _ _ _ _ said (fun _ h => by cases h) (by kernel_rfl) (fun _ h => by cases h) msgBack_row_tie rfl ⟨rfl, rfl⟩ (by kernel_rfl) rfl plain (by kernel_rfl)
end Go.Proofs.YtbdjihmgdkailaaDoor.msgBack
