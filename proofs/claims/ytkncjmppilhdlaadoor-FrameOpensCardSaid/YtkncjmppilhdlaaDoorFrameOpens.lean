/- The law FrameOpens returns true for any bytes: package frame's Open answers what the document's own answer is, what it tells is the caller's own, the bytes stay as they were, and the chapter's example holds. Condition: the table octet.steps reads as the program's text lays it. -/
import Derived.Test.YtkncjmppilhdlaaDoorSl
import Derived.Test.YtkncjmppilhdlaaDoorCards
import Derived.Test.YtkncjmppilhdlaaDoorTie
import Derived.Deep.DeepHandedRow
import Derived.Test.YtkncjmppilhdlaaDoorFrF
import Derived.Test.YtkncjmppilhdlaaDoorSt8
namespace Go.Proofs.YtkncjmppilhdlaaDoor.frameOpens
open Go.ChangeShapes Go.WideShapes Go.ChangeAt Go.RowKit
open Go.ChangeMaps (open_string shut_string)
set_option linter.unusedVariables false

theorem own : ownKnob Tryd.prog.godebug = none := by kernel_rfl
theorem laidOut : laidOutB Tryd.prog = true := by kernel_rfl

set_option maxHeartbeats 1000000 in
theorem walk (v0 : Value) (z0 : List Int) (w : World) (w0 : Sl .u8 w v0 z0) (b0 : z0.length * 1 ≤ 140737488351232) (ht : Oc.Tab w) :
    Calls Tryd.prog 4 #[v0] w fun e w' => e = .returned (.bool true) ∧ Below w.heap.size w w' := by
  have HT := Lib.hid ht
  have hl63 := w0.len
  unfold maxLen at hl63
  have hb : ([] : List Int).length + z0.length ≤ 140737488355328 := by simp; omega
  have hb2' : z0.length ≤ 140737488351232 := by omega
  clear ht b0
  by_cases hbig : 20000 < z0.length
  · obtain ⟨a, cap, hv, -⟩ := id w0
    subst hv
    clear w0
    go_enter Tryd.func4, Tryd.ntmps4
    go_wp2_with fail
    refine (Fr.live_any _ HT.out).mono ?_
    rintro e w5 ⟨rfl, hb5⟩
    go_wp2
    go_ret
    exact ⟨rfl, hb5⟩
  · obtain ⟨a, cap, hv, -⟩ := id w0
    subst hv
    have hsm : z0.length ≤ 20000 := by omega
    clear hbig
    go_enter Tryd.func4, Tryd.ntmps4
    go_wp2_with (first
      | (at_builtin; refine app8 rfl (.const (.slice none 0 0)) _ rfl w.heap.size _ _ rfl (Own.nil _ _) _ _ rfl w0 hb (Nat.le_refl _) ?_; intro v2 u2 hown2 hb2; rw [List.nil_append] at hown2; have hs2 := hown2.sl w0.wf; have hw2 := w0.below hb2 (Nat.le_refl _)))
    refine (Fr.open_any _ _ _ hs2 (HT.out.below hb2 (Nat.le_refl _))).mono ?_
    rintro e w3 ⟨v3, xs, k, er, rfl, hop, hown3, hs3, hb3⟩
    have HB2 := Lib.hid hb2
    have HO := Lib.hid hop
    have HS2 := Lib.hid hs2
    have HW2 := Lib.hid hw2
    have HW3 := Lib.hid (hw2.below hb3 (Nat.le_refl _))
    have HB23 := Lib.hid hb3
    clear hs2 hw2 hown2 hb2 hop hb3
    go_wp2_with fail
    refine (Fr.ropen_any _ _ _ HW3.out hb2').mono ?_
    rintro e w4 ⟨v4, ys, j, er2, rfl, hop2, -, hs4, hb4⟩
    obtain ⟨rfl, rfl, rfl⟩ := HO.out.eq hop2
    have HB24 := Lib.hid (HB23.out.trans (hb4.mono HB23.out.size))
    have HOW := Lib.hid (hown3.below hb4 (Nat.le_refl _))
    have hq1 := run_str (hs3.below hb4 (Nat.le_refl _))
    have hq2 := run_str hs4
    clear hop2 hb4 hs3 hs4 hown3
    rcases HOW.out.cases with ⟨rfl, rfl⟩ | ⟨g, cap3, rfl, hg, hle, hcm⟩
    · go_wp2
      refine wp_loop_rounds 1 ?_
      rw [rounds_succ]
      go_wp2_with fail
      refine (Fr.live_any _ ((HT.out.below HB2.out (Nat.le_refl _)).below HB24.out (Nat.le_refl _))).mono ?_
      rintro e w5 ⟨rfl, hb5⟩
      have hb25 := HB24.out.trans (hb5.mono HB24.out.size)
      have hq3 := run_str (HS2.out.below hb25 (Nat.le_refl _))
      have hq4 := run_str (HW2.out.below hb25 (Nat.le_refl _))
      go_wp2
      go_ret
      exact ⟨rfl, HB2.out.trans (hb25.mono HB2.out.size)⟩
    · unfold maxLen at hcm
      go_wp2
      go_loopw [47] (fun i wr => ∃ (k : Nat) (ys : List Int), k ≤ xs.length ∧ i = .int .i64 k ∧ ys.length = xs.length ∧ Own wr u2.heap.size (.slice (some ⟨g, 0, none⟩) xs.length cap3) ys ∧ Below u2.heap.size u2 wr) (fun i _ => xs.length - (intOf i).toNat)
      case atStart => exact ⟨0, xs, Nat.zero_le _, rfl, rfl, HOW.out, HB24.out⟩
      case round =>
        obtain ⟨k, ys, hk, rfl, hyl, hown, hb⟩ := hrel
        clear hq1 hq2
        by_cases hlt : k < xs.length
        · have hyk : k < ys.length := by omega
          have hcell := cell8 hown hyk
          have hfz := froz8 hown k
          have HST := Lib.hid (store8 hown k (bits BinOp.xor .u8 (ys.getD k 0) 255))
          have HBB := Lib.hid hb
          have HYL := Lib.hid hyl
          generalize ys.getD k 0 = z at *
          clear hown hb hyl
          go_wp2
          go_roundw
          case rel => exact ⟨k + 1, ys.set k (bits BinOp.xor .u8 z 255), by omega, by go_num, by rw [List.length_set]; exact HYL.out, HST.out, HBB.out.setCell (p := ⟨g, k, none⟩) hg _⟩
          case measure => simp [intOf]; omega
        · have HBB := Lib.hid hb
          clear hown hb hyl
          go_wp2_with fail
          refine (Fr.live_any _ ((HT.out.below HB2.out (Nat.le_refl _)).below HBB.out (Nat.le_refl _))).mono ?_
          rintro e w5 ⟨rfl, hb5⟩
          have hb25 := HBB.out.trans (hb5.mono HBB.out.size)
          have hq3 := run_str (HS2.out.below hb25 (Nat.le_refl _))
          have hq4 := run_str (HW2.out.below hb25 (Nat.le_refl _))
          go_wp2
          go_ret
          exact ⟨rfl, HB2.out.trans (hb25.mono HB2.out.size)⟩

set_option maxRecDepth 100000 in
theorem contract (H : Type) (enc : TypeId × Value → H) (W : World) (base : Nat) (args : Array Value) (ds gs : List (DataW H)) (before : List MemPlace)
    (hval0 : ∀ (j : Nat) t v, Tryd.f4.params[j]? = some t → args[j]? = some v → Value.okWide Tryd.prog W .any base t v)
    (hW : DataW.Whole enc Tryd.prog Tryd.f4.params.toList Rows.frameOpensSpec.vars false W args.toList ds gs before)
    (hsz0 : (DataW.weightsEach Tryd.prog (Tryd.f4.params.toList ++ Rows.frameOpensSpec.plain.varTypes Tryd.prog) (ds ++ gs)).all (· ≤ reachBytes) = true) (hL : laidMetH Tryd.prog Rows.frameOpensRow.laid W) :
    Calls Tryd.prog 4 args W fun e W' => ∃ v, e = .returned v ∧ Rows.frameOpensSpec.post enc Tryd.prog Tryd.f4 false true false false W args v W' := by
  have hval : ∀ (j : Nat) t v, Tryd.f4.params[j]? = some t → args[j]? = some v → Value.okWide Tryd.prog W .any base t v := hval0
  have hW' := hW
  obtain ⟨p, q, hA0, hV, rfl, hfz, hnd⟩ := hW
  have hA : DataW.TrodAll enc Tryd.prog W 0 (fun _ => true) true Tryd.f4.params.toList args.toList ds p := hA0
  rw [Tryd.params4] at hA hval
  have hsz := hsz0
  rw [Tryd.params4] at hsz
  obtain ⟨v0, vs0, d0, ds0, p0, q0, hargs, rfl, rfl, h0, r0⟩ := trodAll_cons hA
  obtain ⟨rfl, rfl, rfl⟩ := trodAll_nil r0
  obtain rfl : args = #[v0] := by cases args; simp_all
  obtain ⟨rfl, rfl⟩ := trodVars_none hV
  clear hA0 hval0
  have k0 := h0
  have lt0 : ∀ x ∈ p0, x.block < W.heap.size := by obtain ⟨m, hm⟩ := k0; exact DataW.trod_lt m _ _ _ hm
  obtain ⟨z0, w0, u00, b00⟩ := open_sl Tryd.underlying22 Tryd.underlying5 (by kernel_rfl) (okWide_slice Tryd.underlying22 (hval 0 22 v0 rfl rfl)).choose_spec.choose_spec.choose_spec k0
  have b0 : z0.length * 1 ≤ 140737488351232 := by
    have := b00 hsz (j := 0) rfl rfl
    rw [show Tryd.prog.bytesOf 5 = 1 from by kernel_rfl] at this
    simpa [reachBytes] using this
  have ht : Oc.Tab W := Oc.tab_of hL
  refine (walk v0 z0 W w0 b0 ht).mono fun e W' ⟨he, bel⟩ => ?_
  subst he
  exact ⟨_, rfl, _, _, _, [], _, [], hW', trodAll_mk1 (shut_bool Tryd.underlying4 _), (trodAll_cons_mk (Below.trod laidOut (by kernel_rfl) (of_decide_eq_true (by kernel_rfl)) k0 bel lt0) trodAll_mk0), rfl, bel.frame _, fun h => by cases h⟩

noncomputable def laidWorld (os : Os) : World :=
  { World.holding Tryd.prog os ⟨#[], #[], []⟩ with heap := (World.holding Tryd.prog os ⟨#[], #[], []⟩).heap.modify 0 fun
      | .cells _ t frozen => .cells (Oc.tabI.map (Value.int .u32)).toArray t frozen
      | o => o }
abbrev wargs : Array Value := #[.slice none 0 0]
theorem laid_met (os : Os) : laidMet Tryd.prog Rows.frameOpensRow.laid ((laidWorld os).forCall (fun _ _ => 0) ⟨#[], wargs, []⟩).memory :=
  laidMet_of_run' 8 (by kernel_rfl) (by kernel_rfl)
theorem reads (os : Os) {H : Type} (enc : TypeId × Value → H) : ∃ places, DataW.whole enc Tryd.prog ((laidWorld os).forCall (fun _ _ => 0) ⟨#[], wargs, []⟩).memory Tryd.f4.params.toList Rows.frameOpensSpec.vars false wargs.toList 8 = some ([.nil], [], places) :=
  ⟨[], by kernel_rfl⟩
set_option maxRecDepth 100000 in
theorem lifted (os : Os) (started : os.Started) (H : Type) (enc : TypeId × Value → H) (F : Stop.Interp) :
    ReturnsInHanded {} Tryd.checked os 4 .any ((OpenSpec.ofChange Rows.frameOpensSpec).preRow enc Tryd.prog Tryd.f4 Rows.frameOpensRow.domain false Rows.frameOpensRow.laid) (((OpenSpec.ofChange Rows.frameOpensSpec).at F).post enc Tryd.prog Tryd.f4 false true false false) := by
  obtain ⟨places, hx⟩ := reads os enc
  refine returnsInHanded_of_row (C := Tryd.checked) (s := OpenSpec.ofChange Rows.frameOpensSpec) own started (by kernel_rfl) Tryd.func4
    (witness_row_at (enc := enc) (C := Tryd.checked) false (laidWorld os) wargs rfl (by kernel_rfl) (by kernel_rfl) (by kernel_rfl)
      (OpenSpec.preRow_of_cond 8 hx (by kernel_rfl) (fun k hk => by cases hk) (by kernel_rfl) (laid_met os))) ?_
  intro W base args ds gs before hval hW _ hcond hsz hL _ _
  exact contract H enc W base args ds gs before hval hW hsz hL

theorem said : Rows.FrameOpensSaid :=
  OpenClaim.holds_of_cond 4 Tryd.f4 rfl rfl rfl rfl rfl rfl rfl ⟨rfl, rfl, rfl, rfl, rfl⟩ rfl rfl rfl rfl rfl (by kernel_rfl) Tryd.func4 (by kernel_rfl)
    (of_decide_eq_true (by kernel_rfl)) (by unfold Func.isWrapper; first | (rw [if_pos (by decide +kernel)]; kernel_rfl) | (rw [if_neg (by decide +kernel)]; exact ⟨rfl, rfl⟩))
    (fun os started H enc _ F => by rw [OpenClaim.pre_eq_preRow]; exact lifted os started H enc F)
theorem plain (f : FuncId) (fn : Func) (hf : Tryd.pinned.checked.prog.funcNamed "stopcock/stopcocklaw07.FrameOpens" = some f) (hfn : Tryd.pinned.checked.prog.funcs[f]? = some fn) :
    false = Tryd.pinned.checked.prog.looks [] ∧ ∀ (j : Nat) t, fn.params[j]? = some t → Tryd.pinned.checked.prog.wantsStandIn t = false := by
  obtain rfl : f = 4 := Option.some.inj ((show Tryd.prog.funcNamed "stopcock/stopcocklaw07.FrameOpens" = some 4 by kernel_rfl).symm.trans hf) |>.symm
  obtain rfl : fn = Tryd.f4 := (Option.some.inj (Tryd.func4.symm.trans hfn)).symm
  refine ⟨by kernel_rfl, fun j t ht => ?_⟩
  rw [Tryd.params4] at ht
  have hm : t ∈ [22] := by simpa using Array.mem_of_getElem? ht
  have hall : ([22].all fun u => !Tryd.prog.wantsStandIn u) = true := by kernel_rfl
  exact (show Tryd.prog.wantsStandIn t = false by simpa using List.all_eq_true.1 hall t hm)
theorem proved : Rows.FrameOpensCardSaid :=
  Claim7.holds_tied_plain_at .later [] _ _ _ _ said (fun _ h => by cases h) (by kernel_rfl) (fun _ h => by cases h) frameOpens_row_tie rfl ⟨rfl, rfl⟩ (by kernel_rfl) rfl plain (by kernel_rfl)
end Go.Proofs.YtkncjmppilhdlaaDoor.frameOpens
