/- The law CmdSame returns true for whatever bytes: what is read as a command, written again, are the bytes that were read. No condition. -/
import Derived.Test.YtlpoljknohiihaaSl
import Derived.Test.YtlpoljknohiihaaCmdO
import Derived.Deep.QuietTactic
import Derived.BigQuiet
namespace Go.Proofs.Ytlpoljknohiihaa.cmdSame
open Go.ChangeShapes Go.WideShapes Go.ChangeAt Go.RowKit
open Go.ChangeMaps (open_string shut_string)
set_option linter.unusedVariables false

theorem own : ownKnob Try.prog.godebug = none := by kernel_rfl
theorem laidOut : laidOutB Try.prog = true := by kernel_rfl

theorem dec_bd (zs : List Int) (hw : ∀ n ∈ zs, (Lit.int .u8 n).wf = true) : (Cm.decL zs).2.2 = 0 ∨ ((Cm.decL zs).2.2 == 0) = false := by
  by_cases h : (Cm.decL zs).2.2 = 0
  · exact .inl h
  · exact .inr (by simpa using h)
set_option maxHeartbeats 400000 in
theorem walk (v0 : Value) (z0 : List Int) (w : World) (w0 : Sl .u8 w v0 z0) (b0 : z0.length * 1 ≤ 140737488351232) :
    Calls Try.prog 7 #[v0] w fun e w' => e = .returned (.bool true) ∧ Below w.heap.size w w' := by
  have HS := Lib.hid (fun w' (hb : Below w.heap.size w w') => w0.below hb (Nat.le_refl _))
  have HWF := Lib.hid w0.wf
  clear w0
  go_enter Try.func7, Try.ntmps7
  go_wp2_with fail
  refine (Cm.live_any _).mono ?_
  rintro e u1 ⟨rfl, hb1⟩
  go_wp2_with fail
  refine (Cm.decode_any _ _ _ (HS.out _ hb1)).mono ?_
  rintro e u2 ⟨v2, rfl, hi2, hb2⟩
  have hB2 : Below w.heap.size w u2 := hb1.trans (hb2.mono hb1.size)
  rcases dec_bd z0 HWF.out with he | he
  · rcases hd : Cm.decL z0 with ⟨c, k, er⟩
    rw [hd] at he hi2
    have he' : er = 0 := he
    subst he'
    obtain ⟨hck, hkl, hek⟩ := Cm.dec_back HWF.out hd
    have henc : Cm.encB c = z0.take k := by unfold Cm.encB; rw [hck]; exact hek
    have HC : Hid (Cm.cErr (Cm.chkC c) = 0) := Lib.hid (by rw [hck]; rfl)
    have HE := Lib.hid henc
    obtain ⟨vn, rfl, hsl, hwf⟩ := id hi2
    obtain ⟨an, cp, rfl, -⟩ := id hsl
    clear hd hck hek henc he hb1 hb2
    have hb3 : Below u2.heap.size u2 (u2.alloc (.cells (Cm.cArr c (.slice an c.nodes.length cp)) 25)) := (Below.refl _ _).alloc (Nat.le_refl _) _
    have hB3 : Below w.heap.size w (u2.alloc (.cells (Cm.cArr c (.slice an c.nodes.length cp)) 25)) := hB2.trans (hb3.mono hB2.size)
    have hg3 : (u2.alloc (.cells (Cm.cArr c (.slice an c.nodes.length cp)) 25)).heap[u2.heap.size]? = some (.cells (Cm.cArr c (.slice an c.nodes.length cp)) 25 (0, 0)) := heap_alloc_new _ _
    have hi3 := hi2.below hb3 (Nat.le_refl _)
    clear hsl hwf hi2
    go_wp2_with (refine wpList_load_rowG rfl 25 (.tmp 4) rfl u2.heap.size rfl 25 (Cm.cArr c (.slice an c.nodes.length cp)) (0, 0) _ hg3 Try.underlying25 rfl (by kernel_rfl) ?_)
    refine (Cm.encode_all c _ _ hi3).mono ?_
    rintro e u4 ⟨v4, rfl, hs4, hb4⟩
    rw [HC.out]
    rw [HE.out] at hs4
    have hB4 : Below w.heap.size w u4 := hB3.trans (hb4.mono hB3.size)
    have hs0 := HS.out _ hB4
    obtain ⟨a0, cap0, hv0, hcl, hcm, -⟩ := id hs0
    subst hv0
    have hst := hs0.take k hkl
    unfold maxLen at hcm
    have hkl' : (k : Int) ≤ (z0.length : Int) := by omega
    have hk0 : (0 : Int) ≤ (k : Int) := by omega
    have hkc : (k : Int) ≤ (cap0 : Int) := by omega
    have hq1 := fun n => run_str (hs4.below (Nd.below_drewN u4 n) (Nat.le_refl _))
    have hq2 := fun n => run_str (hst.below (Nd.below_drewN u4 n) (Nat.le_refl _))
    go_wp2_with fail
    go_quiet (fail)
    go_wp2
    go_ret
    exact ⟨rfl, hB4.trans (Nd.below_drewN u4 _)⟩
  · have HE := Lib.hid he
    have hne : ((Cm.decL z0).2.2 != 0) = true := by rw [bne, he]; rfl
    obtain ⟨vn, rfl, hsl, hwf⟩ := id hi2
    obtain ⟨an, cp, rfl, -⟩ := id hsl
    generalize Cm.decL z0 = d at *
    clear hb1 hb2 hsl hwf hi2 he
    go_wp2
    go_ret
    exact ⟨rfl, hB2.alloc hB2.size _⟩

set_option maxRecDepth 100000 in
theorem contract (H : Type) (enc : TypeId × Value → H) (W : World) (base : Nat) (args : Array Value) (ds gs : List (DataW H)) (before : List MemPlace)
    (hval0 : ∀ (j : Nat) t v, Try.f7.params[j]? = some t → args[j]? = some v → Value.okWide Try.prog W .any base t v)
    (hW : DataW.Whole enc Try.prog Try.f7.params.toList Rows.cmdSameSpec.vars false W args.toList ds gs before)
    (hsz0 : (DataW.weightsEach Try.prog (Try.f7.params.toList ++ Rows.cmdSameSpec.plain.varTypes Try.prog) (ds ++ gs)).all (· ≤ reachBytes) = true) :
    Calls Try.prog 7 args W fun e W' => ∃ v, e = .returned v ∧ Rows.cmdSameSpec.post enc Try.prog Try.f7 false true false false W args v W' := by
  have hval : ∀ (j : Nat) t v, Try.f7.params[j]? = some t → args[j]? = some v → Value.okWide Try.prog W .any base t v := hval0
  have hW' := hW
  obtain ⟨p, q, hA0, hV, rfl, hfz, hnd⟩ := hW
  have hA : DataW.TrodAll enc Try.prog W 0 (fun _ => true) true Try.f7.params.toList args.toList ds p := hA0
  rw [Try.params7] at hA hval
  have hsz := hsz0
  rw [Try.params7] at hsz
  obtain ⟨v0, vs0, d0, ds0, p0, q0, hargs, rfl, rfl, h0, r0⟩ := trodAll_cons hA
  obtain ⟨rfl, rfl, rfl⟩ := trodAll_nil r0
  obtain rfl : args = #[v0] := by cases args; simp_all
  obtain ⟨rfl, rfl⟩ := trodVars_none hV
  clear hA0 hval0
  have k0 := h0
  have lt0 : ∀ x ∈ p0, x.block < W.heap.size := by obtain ⟨m, hm⟩ := k0; exact DataW.trod_lt m _ _ _ hm
  obtain ⟨z0, w0, u00, b00⟩ := open_sl Try.underlying31 Try.underlying5 (by kernel_rfl) (okWide_slice Try.underlying31 (hval 0 31 v0 rfl rfl)).choose_spec.choose_spec.choose_spec k0
  have b0 : z0.length * 1 ≤ 140737488351232 := by
    have := b00 hsz (j := 0) rfl rfl
    rw [show Try.prog.bytesOf 5 = 1 from by kernel_rfl] at this
    simpa [reachBytes] using this
  refine (walk v0 z0 W w0 b0).mono fun e W' ⟨he, bel⟩ => ?_
  subst he
  exact ⟨_, rfl, _, _, _, [], _, [], hW', trodAll_mk1 (shut_bool Try.underlying4 _), (trodAll_cons_mk (Below.trod laidOut (by kernel_rfl) (of_decide_eq_true (by kernel_rfl)) k0 bel lt0) trodAll_mk0), rfl, bel.frame _, fun h => by cases h⟩

set_option maxRecDepth 100000 in
theorem lifted (os : Os) (started : os.Started) (H : Type) (enc : TypeId × Value → H) :
    ReturnsInHanded {} Try.checked os 7 .any (Rows.cmdSameSpec.pre6 enc Try.prog Try.f7 Rows.cmdSameRow.domain false) (Rows.cmdSameSpec.post enc Try.prog Try.f7 false true false false) := by
  refine returnsInHanded_of_change_sized (C := Try.checked) own started (by kernel_rfl) Try.func7
    (ChangeSpec.witness6 (enc := enc) (C := Try.checked) false ⟨#[], #[.slice none 0 0], []⟩ 8 (by kernel_rfl) (by kernel_rfl) (by kernel_rfl) (by kernel_rfl)) ?_
  intro W base args ds gs before hval0 hW hcnd hsz _
  exact contract H enc W base args ds gs before hval0 hW hsz

theorem proved : Rows.CmdSameSaid :=
  OpenClaim.holds_of_wide 7 Try.f7 rfl rfl rfl rfl rfl rfl rfl ⟨rfl, rfl, rfl, rfl, rfl⟩ rfl rfl rfl rfl rfl (by kernel_rfl) Try.func7 (by kernel_rfl)
    (of_decide_eq_true (by kernel_rfl)) (by unfold Func.isWrapper; first | (rw [if_pos (by decide +kernel)]; kernel_rfl) | (rw [if_neg (by decide +kernel)]; exact ⟨rfl, rfl⟩))
    (fun os started H enc _ => lifted os started H enc)
end Go.Proofs.Ytlpoljknohiihaa.cmdSame
