/- The law CmdCuts returns true for every command: a command's bytes without the last one are short. No condition. -/
import Derived.Test.YtlpoljknohiihaaSl
import Derived.Test.YtlpoljknohiihaaCmdO
namespace Go.Proofs.Ytlpoljknohiihaa.cmdCuts
open Go.ChangeShapes Go.WideShapes Go.ChangeAt Go.RowKit
open Go.ChangeMaps (open_string shut_string)
set_option linter.unusedVariables false

theorem own : ownKnob Try.prog.godebug = none := by kernel_rfl
theorem laidOut : laidOutB Try.prog = true := by kernel_rfl

set_option maxHeartbeats 400000 in
theorem walk (v0 : Value) (x0 : Cmd) (w : World) (w0 : IsCmd w v0 x0) (b0 : IsCmd.fits x0) :
    Calls Try.prog 8 #[v0] w fun e w' => e = .returned (.bool true) ∧ Below w.heap.size w w' := by
  obtain ⟨vn, rfl, hsl, hwf⟩ := id w0
  have hb0 : Below w.heap.size w (w.alloc (.cells (Cm.cArr x0 vn) 25)) := (Below.refl _ _).alloc (Nat.le_refl _) _
  have hh0 : (w.alloc (.cells (Cm.cArr x0 vn) 25)).heap[w.heap.size]? = some (.cells (Cm.cArr x0 vn) 25 (0, 0)) := heap_alloc_new _ _
  have HH0 := Lib.hid hh0
  have HB0 := Lib.hid hb0
  have HI := Lib.hid (fun w' (hb : Below w.heap.size w w') => w0.below hb (Nat.le_refl _))
  have HW := Lib.hid hwf
  clear hh0 hb0 hsl hwf w0
  go_enter Try.func8, Try.ntmps8
  go_wp2_with fail
  refine (Cm.live_any _).mono ?_
  rintro e u1 ⟨rfl, hb1⟩
  have hB1 : Below w.heap.size w u1 := HB0.out.trans (hb1.mono HB0.out.size)
  have hh1 := (hb1.block w.heap.size (by simp)).trans HH0.out
  have hz1 : w.heap.size < u1.heap.size := by have := hb1.size; simp at this; omega
  go_wp2_with (refine wpList_load_rowG rfl 25 (.tmp 1) rfl w.heap.size rfl 25 (Cm.cArr x0 vn) (0, 0) _ hh1 Try.underlying25 rfl (by kernel_rfl) ?_)
  refine (Cm.encode_all x0 _ _ (HI.out _ hB1)).mono ?_
  rintro e u2 ⟨v2, rfl, hs2, hb2⟩
  have hB2 : Below w.heap.size w u2 := hB1.trans (hb2.mono hB1.size)
  clear hb1 hb2 hh1 hB1
  cases hc : Cm.chkC x0 with
  | false =>
    obtain ⟨a2, cap2, rfl, -⟩ := id hs2
    have HC : Hid (Cm.cErr false = 40) := Lib.hid rfl
    rw [HC.out]
    clear hc hs2
    go_wp2
    go_ret
    exact ⟨rfl, hB2⟩
  | true =>
    have henc : Cm.encB x0 = Cm.encL x0 := by unfold Cm.encB; rw [hc]; rfl
    rw [henc] at hs2
    have hlen := Cm.encL_len HW.out hc
    have HD := Lib.hid (Cm.dec_cut HW.out hc)
    have hl := hlen.1
    have hpos : 1 ≤ (Cm.encL x0).length := by unfold Cm.encL; have := Cm.numI_pos x0.kind; rw [List.length_append, List.length_append]; omega
    have HC : Hid (Cm.cErr true = 0) := Lib.hid rfl
    rw [HC.out]
    clear hc henc hlen
    obtain ⟨a2, cap2, hv2, hcl, hcm, -, hcs⟩ := id hs2
    subst hv2
    have hst := hs2.take ((Cm.encL x0).length - 1) (by omega)
    rcases hcs with ⟨_, _, h⟩ | ⟨b, off, sp, rfl, _⟩
    · rw [h] at hpos; simp at hpos
    generalize hxs : Cm.encL x0 = xs at *
    clear hxs
    unfold maxLen at hcm
    have hne : ((xs.length : Int) == 0) = false := beq_eq_false_iff_ne.2 (by omega)
    have hsub : (((xs.length : Int) - 1)).toNat = xs.length - 1 := by omega
    go_wp2_with fail
    refine (Cm.decode_any _ _ _ hst).mono ?_
    rintro e u5 ⟨v5, rfl, hi5, hb5⟩
    rw [HD.out] at hi5 ⊢
    obtain ⟨vn5, rfl, hsl5, hwf5⟩ := id hi5
    obtain ⟨an5, cp5, rfl, -⟩ := id hsl5
    have hB5 : Below w.heap.size w u5 := hB2.trans (hb5.mono hB2.size)
    clear hb5 hi5 hsl5 hwf5 hs2 hst
    go_wp2
    go_ret
    exact ⟨rfl, hB5.alloc hB5.size _⟩

set_option maxRecDepth 100000 in
theorem contract (H : Type) (enc : TypeId × Value → H) (W : World) (base : Nat) (args : Array Value) (ds gs : List (DataW H)) (before : List MemPlace)
    (hval0 : ∀ (j : Nat) t v, Try.f8.params[j]? = some t → args[j]? = some v → Value.okWide Try.prog W .any base t v)
    (hW : DataW.Whole enc Try.prog Try.f8.params.toList Rows.cmdCutsSpec.vars false W args.toList ds gs before)
    (hsz0 : (DataW.weightsEach Try.prog (Try.f8.params.toList ++ Rows.cmdCutsSpec.plain.varTypes Try.prog) (ds ++ gs)).all (· ≤ reachBytes) = true) :
    Calls Try.prog 8 args W fun e W' => ∃ v, e = .returned v ∧ Rows.cmdCutsSpec.post enc Try.prog Try.f8 false true false false W args v W' := by
  have hval : ∀ (j : Nat) t v, Try.f8.params[j]? = some t → args[j]? = some v → Value.okWide Try.prog W .any base t v := hval0
  have hW' := hW
  obtain ⟨p, q, hA0, hV, rfl, hfz, hnd⟩ := hW
  have hA : DataW.TrodAll enc Try.prog W 0 (fun _ => true) true Try.f8.params.toList args.toList ds p := hA0
  rw [Try.params8] at hA hval
  have hsz := hsz0
  rw [Try.params8] at hsz
  obtain ⟨v0, vs0, d0, ds0, p0, q0, hargs, rfl, rfl, h0, r0⟩ := trodAll_cons hA
  obtain ⟨rfl, rfl, rfl⟩ := trodAll_nil r0
  obtain rfl : args = #[v0] := by cases args; simp_all
  obtain ⟨rfl, rfl⟩ := trodVars_none hV
  clear hA0 hval0
  have k0 := h0
  have lt0 : ∀ x ∈ p0, x.block < W.heap.size := by obtain ⟨m, hm⟩ := k0; exact DataW.trod_lt m _ _ _ hm
  obtain ⟨x0, w0, -, s0⟩ := open_cmd (hval 0 25 v0 rfl rfl) k0
  have b0 : IsCmd.fits x0 := s0 (wt_arg hsz (j := 0) rfl rfl)
  refine (walk v0 x0 W w0 b0).mono fun e W' ⟨he, bel⟩ => ?_
  subst he
  exact ⟨_, rfl, _, _, _, [], _, [], hW', trodAll_mk1 (shut_bool Try.underlying4 _), (trodAll_cons_mk (Below.trod laidOut (by kernel_rfl) (of_decide_eq_true (by kernel_rfl)) k0 bel lt0) trodAll_mk0), rfl, bel.frame _, fun h => by cases h⟩

set_option maxRecDepth 100000 in
theorem lifted (os : Os) (started : os.Started) (H : Type) (enc : TypeId × Value → H) :
    ReturnsInHanded {} Try.checked os 8 .any (Rows.cmdCutsSpec.pre6 enc Try.prog Try.f8 Rows.cmdCutsRow.domain false) (Rows.cmdCutsSpec.post enc Try.prog Try.f8 false true false false) := by
  refine returnsInHanded_of_change_sized (C := Try.checked) own started (by kernel_rfl) Try.func8
    (ChangeSpec.witness6 (enc := enc) (C := Try.checked) false ⟨#[], #[.agg #[.int .i64 0, .int .i64 0, .int .i64 0, .slice none 0 0, .int .u64 0, .int .u64 0, .int .u64 0, .int .u64 0]], []⟩ 8 (by kernel_rfl) (by kernel_rfl) (by kernel_rfl) (by kernel_rfl)) ?_
  intro W base args ds gs before hval0 hW hcnd hsz _
  exact contract H enc W base args ds gs before hval0 hW hsz

theorem proved : Rows.CmdCutsSaid :=
  OpenClaim.holds_of_wide 8 Try.f8 rfl rfl rfl rfl rfl rfl rfl ⟨rfl, rfl, rfl, rfl, rfl⟩ rfl rfl rfl rfl rfl (by kernel_rfl) Try.func8 (by kernel_rfl)
    (of_decide_eq_true (by kernel_rfl)) (by unfold Func.isWrapper; first | (rw [if_pos (by decide +kernel)]; kernel_rfl) | (rw [if_neg (by decide +kernel)]; exact ⟨rfl, rfl⟩))
    (fun os started H enc _ => lifted os started H enc)
end Go.Proofs.Ytlpoljknohiihaa.cmdCuts
