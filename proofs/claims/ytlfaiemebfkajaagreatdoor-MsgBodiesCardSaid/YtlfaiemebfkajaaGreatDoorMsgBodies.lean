/- The law MsgBodies returns true for whatever bytes: in a frame's right form package msg's Decode reads them as a message, or refuses them, as the document says, and the chapter's example holds. Condition: the table octet.steps reads as the program's text lays it. -/
import Derived.Test.YtlfaiemebfkajaaGreatDoorBse
import Derived.Test.YtlfaiemebfkajaaGreatDoorCards
import Derived.Test.YtlfaiemebfkajaaGreatDoorTie
import Derived.Deep.DeepHandedRow
import Derived.Test.YtlfaiemebfkajaaGreatDoorMrN
import Derived.Test.YtlfaiemebfkajaaGreatDoorMxM
import Derived.Test.YtlfaiemebfkajaaGreatDoorFrO
import Derived.BigRegion
namespace Go.Proofs.YtlfaiemebfkajaaGreatDoor.msgBodies
open Go.ChangeShapes Go.WideShapes Go.ChangeAt Go.RowKit
open Go.ChangeMaps (open_string shut_string)
set_option linter.unusedVariables false

theorem own : ownKnob Tryz.prog.godebug = none := by kernel_rfl
theorem laidOut : laidOutB Tryz.prog = true := by kernel_rfl

theorem row_ltm {w : World} {q : Nat} {o : Obj} (h : w.heap[q]? = some o) : q < w.heap.size := (Array.getElem?_eq_some_iff.1 h).1
theorem decR_eq {zs : List Int} {m m' : Mes} {z z' : Int} (h : Ms.DecR zs m z) (g : Ms.DecR zs m' z') : m = m' ∧ z = z' := by
  obtain ⟨xs, k, er, h1, h2⟩ := h
  obtain ⟨ys, j, es, g1, g2⟩ := g
  obtain ⟨rfl, rfl, rfl⟩ := h1.eq g1
  rcases h2 with ⟨a1, a2, a3⟩ | ⟨a1, a2, a3, a4⟩ | ⟨a1, a2, a3⟩ <;> rcases g2 with ⟨b1, b2, b3⟩ | ⟨b1, b2, b3, b4⟩ | ⟨b1, b2, b3⟩ <;> first
    | exact absurd a1 b1
    | exact absurd b1 a1
    | (exfalso; omega)
    | exact ⟨a2.trans b2.symm, a3.trans b3.symm⟩
    | exact ⟨a3.trans b3.symm, a4.trans b4.symm⟩
    | exact ⟨congrArg Prod.fst (a3.trans b3.symm), congrArg Prod.snd (a3.trans b3.symm)⟩
set_option maxRecDepth 100000 in
set_option maxHeartbeats 4000000 in
theorem walk (v0 : Value) (z0 : List Int) (w : World) (w0 : Sl .u8 w v0 z0) (b0 : z0.length * 1 ≤ 140737488351232) (ht : Oc.Tab w) :
    Calls Tryz.prog 4 #[v0] w fun e w' => e = .returned (.bool true) ∧ Below w.heap.size w w' := by
  have HT0 := Lib.hid ht
  have HW0 := Lib.hid w0
  by_cases hl : z0.length ≤ 8192
  rotate_left
  · have HL := Lib.hid hl
    have hcal := Fr.rseal_long _ _ _ HW0.out (by have := HL.out; omega)
    clear b0 ht w0 hl
    go_enter Tryz.func4, Tryz.ntmps4
    go_wp2_with fail
    refine hcal.mono ?_
    clear hcal
    rintro e u2 ⟨rfl, rfl⟩
    have HB2 := Lib.hid (Below.refl w.heap.size w)
    have HT := HT0
    go_wp2_with fail
    refine (Ms.live_any _ HT.out).mono ?_
    rintro e w7 ⟨rfl, hb⟩
    have HB7 := Lib.hid (HB2.out.trans (hb.mono HB2.out.size))
    clear hb
    go_wp2_with fail
    go_ret
    exact ⟨rfl, HB7.out⟩
  have HLZ : Hid ((Fr.sealL z0).length ≤ 140737488351232) := Lib.hid (by rw [Fr.seal_len]; omega)
  have hcal := Fr.rseal_any _ _ _ HW0.out hl
  clear b0 ht w0
  go_enter Tryz.func4, Tryz.ntmps4
  go_wp2_with fail
  refine hcal.mono ?_
  clear hcal
  rintro e u2 ⟨v2, rfl, hown2, hs2, hb2⟩
  have HS2 := Lib.hid (fun w' (hb : Below u2.heap.size u2 w') => hs2.below hb (Nat.le_refl _))
  have HT := Lib.hid (HT0.out.below hb2 (Nat.le_refl _))
  have HBW := Lib.hid hb2
  have HB2 : Hid (Below u2.heap.size u2 u2) := Lib.hid (Below.refl _ _)
  obtain ⟨av2, cv2, rfl, -⟩ := id hs2
  clear hs2 hown2 hb2
  go_wp2_with fail
  refine (Ms.dec_any _ _ _ (HS2.out _ (Below.refl _ _)) HT.out).mono ?_
  rintro e w3 ⟨m, z, ve, vn, vh, vl, rows, rfl, hd, hom, hb⟩
  have HD := Lib.hid hd
  obtain ⟨pa1, pi1, pj1, pa2, pi2, pj2, pa3, pi3, pj3, pa4, pi4, pj4, rfl, rfl, rfl, rfl⟩ := hom.forms
  have hst : (w3.alloc (.cells Ms.zMB 33)).heap[w3.heap.size]? = some (.cells Ms.zMB 33 (0, 0)) := heap_alloc_new _ _
  obtain ⟨Wp, hW⟩ : ∃ q, (w3.alloc (.cells Ms.zMB 33)).setRow w3.heap.size (mArr m (.slice pa1 pi1 pj1) (.slice pa2 pi2 pj2) (.slice pa3 pi3 pj3) (.slice pa4 pi4 pj4)) = q := ⟨_, rfl⟩
  have hbx : Below w3.heap.size w3 Wp := by rw [← hW]; exact Ld.below_row ((Below.refl _ _).alloc (Nat.le_refl _) _) (Nat.le_refl _) _
  have HQp : Hid (Wp.heap[w3.heap.size]? = some (.cells (mArr m (.slice pa1 pi1 pj1) (.slice pa2 pi2 pj2) (.slice pa3 pi3 pj3) (.slice pa4 pi4 pj4)) 33 (0, 0))) := Lib.hid (by rw [← hW]; exact setRow_heap _ _ _ _ _ _ hst)
  have HMp := Lib.hid (hom.msg.below hbx (Nat.le_refl _))
  have hone := Ms.mArr_one m pa1 pa2 pa3 pa4 pi1 pj1 pi2 pj2 pi3 pj3 pi4 pj4
  have HBx := Lib.hid (HB2.out.trans ((hb.trans (hbx.mono hb.size)).mono HB2.out.size))
  clear hd hom hb hbx
  go_wp2_with (first | (refine wpList_store_row rfl 33 (.tmp 5) (.tmp 20) rfl w3.heap.size (mArr m (.slice pa1 pi1 pj1) (.slice pa2 pi2 pj2) (.slice pa3 pi3 pj3) (.slice pa4 pi4 pj4)) rfl rfl 33 _ hst (by kernel_rfl) rfl hone ?_; rw [hW]; clear hW hst) | fail)
  clear hone
  refine (Ms.rdec8 _ _ _ (HS2.out _ HBx.out) HLZ.out).mono ?_
  rintro e w5 ⟨m', z', ve, vn, vh, vl, rows', rfl, hd, hom, hb⟩
  obtain ⟨rfl, rfl⟩ := decR_eq HD.out hd
  obtain ⟨qa1, qi1, qj1, qa2, qi2, qj2, qa3, qi3, qj3, qa4, qi4, qj4, rfl, rfl, rfl, rfl⟩ := hom.forms
  have hst : (w5.alloc (.cells Ms.zMB 33)).heap[w5.heap.size]? = some (.cells Ms.zMB 33 (0, 0)) := heap_alloc_new _ _
  obtain ⟨Wq, hW⟩ : ∃ q, (w5.alloc (.cells Ms.zMB 33)).setRow w5.heap.size (mArr m (.slice qa1 qi1 qj1) (.slice qa2 qi2 qj2) (.slice qa3 qi3 qj3) (.slice qa4 qi4 qj4)) = q := ⟨_, rfl⟩
  have hbx : Below w5.heap.size w5 Wq := by rw [← hW]; exact Ld.below_row ((Below.refl _ _).alloc (Nat.le_refl _) _) (Nat.le_refl _) _
  have HQq : Hid (Wq.heap[w5.heap.size]? = some (.cells (mArr m (.slice qa1 qi1 qj1) (.slice qa2 qi2 qj2) (.slice qa3 qi3 qj3) (.slice qa4 qi4 qj4)) 33 (0, 0))) := Lib.hid (by rw [← hW]; exact setRow_heap _ _ _ _ _ _ hst)
  have HMq := Lib.hid (hom.msg.below hbx (Nat.le_refl _))
  have hone := Ms.mArr_one m qa1 qa2 qa3 qa4 qi1 qj1 qi2 qj2 qi3 qj3 qi4 qj4
  have hbw := hb.trans (hbx.mono hb.size)
  have HBy := Lib.hid (HBx.out.trans (hbw.mono HBx.out.size))
  have HQp5 := Lib.hid ((hbw.block _ (row_ltm HQp.out)).trans HQp.out)
  have HMp5 := Lib.hid (HMp.out.below hbw (Nat.le_refl _))
  clear hd hom hb hbx hbw HQp HMp
  go_wp2_with (first | (refine wpList_store_row rfl 33 (.tmp 7) (.tmp 25) rfl w5.heap.size (mArr m (.slice qa1 qi1 qj1) (.slice qa2 qi2 qj2) (.slice qa3 qi3 qj3) (.slice qa4 qi4 qj4)) rfl rfl 33 _ hst (by kernel_rfl) rfl hone ?_; rw [hW]; clear hW hst) | fail)
  clear hone
  refine (Ms.live_any _ (HT.out.below HBy.out (Nat.le_refl _))).mono ?_
  rintro e w7 ⟨rfl, hb⟩
  have HBz := Lib.hid (HBy.out.trans (hb.mono HBy.out.size))
  have hq1 := (hb.block _ (row_ltm HQp5.out)).trans HQp5.out
  have hq2 := (hb.block _ (row_ltm HQq.out)).trans HQq.out
  have HM1 := Lib.hid (HMp5.out.below hb (Nat.le_refl _))
  have HM2 := Lib.hid (HMq.out.below hb (Nat.le_refl _))
  clear hb
  go_wp2_with (first
    | (refine wpList_load_rowG (by kernel_rfl) 33 (.tmp 5) rfl w3.heap.size rfl 33 (mArr m (.slice pa1 pi1 pj1) (.slice pa2 pi2 pj2) (.slice pa3 pi3 pj3) (.slice pa4 pi4 pj4)) (0, 0) _ hq1 Tryz.underlying33 rfl (by kernel_rfl) ?_)
    | (refine wpList_load_rowG (by kernel_rfl) 33 (.tmp 7) rfl w5.heap.size rfl 33 (mArr m (.slice qa1 qi1 qj1) (.slice qa2 qi2 qj2) (.slice qa3 qi3 qj3) (.slice qa4 qi4 qj4)) (0, 0) _ hq2 Tryz.underlying33 rfl (by kernel_rfl) ?_)
    | (go_at_call 8; refine (Ms.same_any m _ _ _ HM1.out HM2.out).mono ?_; rintro e u9 ⟨rfl, hb9⟩; have hb09 := HBz.out.trans (hb9.mono HBz.out.size)))
  go_ret
  exact ⟨rfl, HBW.out.trans (hb09.mono HBW.out.size)⟩

set_option maxRecDepth 100000 in
theorem contract (H : Type) (enc : TypeId × Value → H) (W : World) (base : Nat) (args : Array Value) (ds gs : List (DataW H)) (before : List MemPlace)
    (hval0 : ∀ (j : Nat) t v, Tryz.f4.params[j]? = some t → args[j]? = some v → Value.okWide Tryz.prog W .any base t v)
    (hW : DataW.Whole enc Tryz.prog Tryz.f4.params.toList Rows.msgBodiesSpec.vars false W args.toList ds gs before)
    (hsz0 : (DataW.weightsEach Tryz.prog (Tryz.f4.params.toList ++ Rows.msgBodiesSpec.plain.varTypes Tryz.prog) (ds ++ gs)).all (· ≤ reachBytes) = true) (hL : laidMetH Tryz.prog Rows.msgBodiesRow.laid W) :
    Calls Tryz.prog 4 args W fun e W' => ∃ v, e = .returned v ∧ Rows.msgBodiesSpec.post enc Tryz.prog Tryz.f4 false true false false W args v W' := by
  have hval : ∀ (j : Nat) t v, Tryz.f4.params[j]? = some t → args[j]? = some v → Value.okWide Tryz.prog W .any base t v := hval0
  have hW' := hW
  obtain ⟨p, q, hA0, hV, rfl, hfz, hnd⟩ := hW
  have hA : DataW.TrodAll enc Tryz.prog W 0 (fun _ => true) true Tryz.f4.params.toList args.toList ds p := hA0
  rw [Tryz.params4] at hA hval
  have hsz := hsz0
  rw [Tryz.params4] at hsz
  obtain ⟨v0, vs0, d0, ds0, p0, q0, hargs, rfl, rfl, h0, r0⟩ := trodAll_cons hA
  obtain ⟨rfl, rfl, rfl⟩ := trodAll_nil r0
  obtain rfl : args = #[v0] := by cases args; simp_all
  obtain ⟨rfl, rfl⟩ := trodVars_none hV
  clear hA0 hval0
  have k0 := h0
  have lt0 : ∀ x ∈ p0, x.block < W.heap.size := by obtain ⟨m, hm⟩ := k0; exact DataW.trod_lt m _ _ _ hm
  obtain ⟨z0, w0, u00, b00⟩ := open_sl Tryz.underlying22 Tryz.underlying5 (by kernel_rfl) (okWide_slice Tryz.underlying22 (hval 0 22 v0 rfl rfl)).choose_spec.choose_spec.choose_spec k0
  have b0 : z0.length * 1 ≤ 140737488351232 := by
    have := b00 hsz (j := 0) rfl rfl
    rw [show Tryz.prog.bytesOf 5 = 1 from by kernel_rfl] at this
    simpa [reachBytes] using this
  have ht : Oc.Tab W := Oc.tab_of hL
  refine (walk v0 z0 W w0 b0 ht).mono fun e W' ⟨he, bel⟩ => ?_
  subst he
  exact ⟨_, rfl, _, _, _, [], _, [], hW', trodAll_mk1 (shut_bool Tryz.underlying4 _), (trodAll_cons_mk (Below.trod laidOut (by kernel_rfl) (of_decide_eq_true (by kernel_rfl)) k0 bel lt0) trodAll_mk0), rfl, bel.frame _, fun h => by cases h⟩

noncomputable def laidWorld (os : Os) : World :=
  { World.holding Tryz.prog os ⟨#[], #[], []⟩ with heap := (World.holding Tryz.prog os ⟨#[], #[], []⟩).heap.modify 0 fun
      | .cells _ t frozen => .cells (Oc.tabI.map (Value.int .u32)).toArray t frozen
      | o => o }
abbrev wargs : Array Value := #[.slice none 0 0]
theorem laid_met (os : Os) : laidMet Tryz.prog Rows.msgBodiesRow.laid ((laidWorld os).forCall (fun _ _ => 0) ⟨#[], wargs, []⟩).memory :=
  laidMet_of_run' 8 (by kernel_rfl) (by kernel_rfl)
theorem reads (os : Os) {H : Type} (enc : TypeId × Value → H) : ∃ places, DataW.whole enc Tryz.prog ((laidWorld os).forCall (fun _ _ => 0) ⟨#[], wargs, []⟩).memory Tryz.f4.params.toList Rows.msgBodiesSpec.vars false wargs.toList 8 = some ([.nil], [], places) :=
  ⟨[], by kernel_rfl⟩
set_option maxRecDepth 100000 in
theorem lifted (os : Os) (started : os.Started) (H : Type) (enc : TypeId × Value → H) (F : Stop.Interp) :
    ReturnsInHanded {} Tryz.checked os 4 .any ((OpenSpec.ofChange Rows.msgBodiesSpec).preRow enc Tryz.prog Tryz.f4 Rows.msgBodiesRow.domain false Rows.msgBodiesRow.laid) (((OpenSpec.ofChange Rows.msgBodiesSpec).at F).post enc Tryz.prog Tryz.f4 false true false false) := by
  obtain ⟨places, hx⟩ := reads os enc
  refine returnsInHanded_of_row (C := Tryz.checked) (s := OpenSpec.ofChange Rows.msgBodiesSpec) own started (by kernel_rfl) Tryz.func4
    (witness_row_at (enc := enc) (C := Tryz.checked) false (laidWorld os) wargs rfl (by kernel_rfl) (by kernel_rfl) (by kernel_rfl)
      (OpenSpec.preRow_of_cond 8 hx (by kernel_rfl) (fun k hk => by cases hk) (by kernel_rfl) (laid_met os))) ?_
  intro W base args ds gs before hval hW _ hcond hsz hL _ _
  exact contract H enc W base args ds gs before hval hW hsz hL

theorem said : Rows.MsgBodiesSaid :=
  OpenClaim.holds_of_cond 4 Tryz.f4 rfl rfl rfl rfl rfl rfl rfl ⟨rfl, rfl, rfl, rfl, rfl⟩ rfl rfl rfl rfl rfl (by kernel_rfl) Tryz.func4 (by kernel_rfl)
    (of_decide_eq_true (by kernel_rfl)) (by unfold Func.isWrapper; first | (rw [if_pos (by decide +kernel)]; kernel_rfl) | (rw [if_neg (by decide +kernel)]; exact ⟨rfl, rfl⟩))
    (fun os started H enc _ F => by rw [OpenClaim.pre_eq_preRow]; exact lifted os started H enc F)
theorem plain (f : FuncId) (fn : Func) (hf : Tryz.pinned.checked.prog.funcNamed "stopcock/stopcocklaw08.MsgBodies" = some f) (hfn : Tryz.pinned.checked.prog.funcs[f]? = some fn) :
    false = Tryz.pinned.checked.prog.looks [] ∧ ∀ (j : Nat) t, fn.params[j]? = some t → Tryz.pinned.checked.prog.wantsStandIn t = false := by
  obtain rfl : f = 4 := Option.some.inj ((show Tryz.prog.funcNamed "stopcock/stopcocklaw08.MsgBodies" = some 4 by kernel_rfl).symm.trans hf) |>.symm
  obtain rfl : fn = Tryz.f4 := (Option.some.inj (Tryz.func4.symm.trans hfn)).symm
  refine ⟨by kernel_rfl, fun j t ht => ?_⟩
  rw [Tryz.params4] at ht
  have hm : t ∈ [22] := by simpa using Array.mem_of_getElem? ht
  have hall : ([22].all fun u => !Tryz.prog.wantsStandIn u) = true := by kernel_rfl
  exact (show Tryz.prog.wantsStandIn t = false by simpa using List.all_eq_true.1 hall t hm)
theorem proved : Rows.MsgBodiesCardSaid :=
  Claim7.holds_tied_plain_at .later [] _ _ _ _ said (fun _ h => by cases h) (by kernel_rfl) (fun _ h => by cases h) msgBodies_row_tie rfl ⟨rfl, rfl⟩ (by kernel_rfl) rfl plain (by kernel_rfl)
end Go.Proofs.YtlfaiemebfkajaaGreatDoor.msgBodies
