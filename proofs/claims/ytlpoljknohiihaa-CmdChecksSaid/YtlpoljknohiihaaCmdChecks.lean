/- The law CmdChecks returns true for every command: package cmd's Check tells what the document's own answer tells, and leaves the command alone. No condition. -/
import Derived.Test.YtlpoljknohiihaaSl
import Derived.Test.YtlpoljknohiihaaCmdS
import Derived.Test.YtlpoljknohiihaaCmdKJ
namespace Go.Proofs.Ytlpoljknohiihaa.cmdChecks
open Go.ChangeShapes Go.WideShapes Go.ChangeAt Go.RowKit
open Go.ChangeMaps (open_string shut_string)
set_option linter.unusedVariables false

theorem own : ownKnob Try.prog.godebug = none := by kernel_rfl
theorem laidOut : laidOutB Try.prog = true := by kernel_rfl

theorem zero_no : (Cm.cErr (Cm.chkC ⟨0, 0, 0, [], 0, 0, 0, 0⟩) == 40) = true := by decide
theorem zero_is (w : World) : IsCmd w (.agg #[.int .i64 0, .int .i64 0, .int .i64 0, .slice none 0 0, .int .u64 0, .int .u64 0, .int .u64 0, .int .u64 0]) ⟨0, 0, 0, [], 0, 0, 0, 0⟩ :=
  ⟨.slice none 0 0, rfl, Cm.sl_nil _ _, by decide, by decide, by decide, by decide, by decide, by decide, by decide⟩
set_option maxHeartbeats 400000 in
theorem walk (v0 : Value) (x0 : Cmd) (w : World) (w0 : IsCmd w v0 x0) (b0 : IsCmd.fits x0) :
    Calls Try.prog 3 #[v0] w fun e w' => e = .returned (.bool true) ∧ Below w.heap.size w w' := by
  have k1 := zero_no
  obtain ⟨vn, rfl, hsl, hwf⟩ := id w0
  have hrk := Lib.hid (Cm.rchk_eq hwf)
  have hb0 : Below w.heap.size w (w.alloc (.cells (Cm.cArr x0 vn) 25)) := (Below.refl _ _).alloc (Nat.le_refl _) _
  have hi0 := Lib.hid (w0.below hb0 (Nat.le_refl _))
  have hh0 : (w.alloc (.cells (Cm.cArr x0 vn) 25)).heap[w.heap.size]? = some (.cells (Cm.cArr x0 vn) 25 (0, 0)) := heap_alloc_new _ _
  have HH0 := Lib.hid hh0
  clear hh0 hsl hwf w0
  go_enter Try.func3, Try.ntmps3
  go_wp2_with fail
  refine (Cm.copy_any x0 _ _ hi0.out b0).mono ?_
  rintro e w1 ⟨v1, rfl, h1, hb1⟩
  have hh1 := (hb1.block w.heap.size (by simp)).trans HH0.out
  have hi1 := hi0.out.below hb1 (Nat.le_refl _)
  have hB1 := hb0.trans (hb1.mono (by simp))
  obtain ⟨un, hv1, hu, -⟩ := id h1
  obtain ⟨ua, uc, hu1, -⟩ := id hu
  subst hu1
  subst hv1
  have hb2 : Below w1.heap.size w1 (w1.alloc (.cells (Cm.cArr x0 (.slice ua x0.nodes.length uc)) 25)) := (Below.refl _ _).alloc (Nat.le_refl _) _
  have h2 := h1.below hb2 (Nat.le_refl _)
  have hi2 := hi1.below hb2 (Nat.le_refl _)
  have hh2 := (hb2.block w.heap.size (by have := hb1.size; simp at this; omega)).trans hh1
  have hg2 : (w1.alloc (.cells (Cm.cArr x0 (.slice ua x0.nodes.length uc)) 25)).heap[w1.heap.size]? = some (.cells (Cm.cArr x0 (.slice ua x0.nodes.length uc)) 25 (0, 0)) := heap_alloc_new _ _
  have hlt : w.heap.size < w1.heap.size := by have := hb1.size; simp at this; omega
  have HH2 := Lib.hid hh2
  have HG2 := Lib.hid hg2
  have hB2 := hB1.trans (hb2.mono hB1.size)
  clear hh1 hh2 hg2 hb2 hb0 hb1 hi1 h1 hu
  go_wp2_with fail
  refine (Cm.check_any x0 _ _ h2).mono ?_
  rintro e w3 ⟨rfl, hb3⟩
  have hh3 := (hb3.block w.heap.size (by simp; omega)).trans HH2.out
  have hg3 := (hb3.block w1.heap.size (by simp)).trans HG2.out
  have hi3 := hi2.below hb3 (Nat.le_refl _)
  have h3 := h2.below hb3 (Nat.le_refl _)
  have hB3 := hB2.trans (hb3.mono hB2.size)
  have HH3 := Lib.hid hh3
  have HG3 := Lib.hid hg3
  clear hh3 hg3
  go_wp2_with fail
  refine (Cm.check_any _ _ _ (zero_is _)).mono ?_
  rintro e w4 ⟨rfl, hb4⟩
  have hh4 := (hb4.block w.heap.size (by have := hb3.size; simp at this; omega)).trans HH3.out
  have hg4 := (hb4.block w1.heap.size (by have := hb3.size; simp at this; omega)).trans HG3.out
  have hi4 := hi3.below hb4 (Nat.le_refl _)
  have h4 := h3.below hb4 (Nat.le_refl _)
  have hB4 := hB3.trans (hb4.mono hB3.size)
  go_wp2_with (first
    | (go_at_call 11; refine (Cm.rcheck_any x0 _ _ hi4).mono ?_; rintro e w5 ⟨rfl, hb5⟩; rw [hrk.out]; have hh5 := (hb5.block w.heap.size (by have := hb3.size; have := hb4.size; simp at *; omega)).trans hh4; have hg5 := (hb5.block w1.heap.size (by have := hb3.size; have := hb4.size; simp at *; omega)).trans hg4)
    | (go_at_call 12; refine (Cm.same_true x0 _ _ _ (h4.below hb5 (Nat.le_refl _)) (hi4.below hb5 (Nat.le_refl _))).mono ?_; rintro e w6 ⟨rfl, hb6⟩)
    | (refine wpList_load_rowG rfl 25 (.tmp 1) rfl w.heap.size rfl 25 (Cm.cArr x0 vn) (0, 0) _ hh4 Try.underlying25 rfl (by kernel_rfl) ?_)
    | (refine wpList_load_rowG rfl 25 (.tmp 1) rfl w.heap.size rfl 25 (Cm.cArr x0 vn) (0, 0) _ hh5 Try.underlying25 rfl (by kernel_rfl) ?_)
    | (refine wpList_load_rowG rfl 25 (.tmp 3) rfl w1.heap.size rfl 25 (Cm.cArr x0 (.slice ua x0.nodes.length uc)) (0, 0) _ hg5 Try.underlying25 rfl (by kernel_rfl) ?_))
  go_ret
  exact ⟨rfl, (hB4.trans (hb5.mono hB4.size)).trans (hb6.mono (Nat.le_trans hB4.size hb5.size))⟩

set_option maxRecDepth 100000 in
theorem contract (H : Type) (enc : TypeId × Value → H) (W : World) (base : Nat) (args : Array Value) (ds gs : List (DataW H)) (before : List MemPlace)
    (hval0 : ∀ (j : Nat) t v, Try.f3.params[j]? = some t → args[j]? = some v → Value.okWide Try.prog W .any base t v)
    (hW : DataW.Whole enc Try.prog Try.f3.params.toList Rows.cmdChecksSpec.vars false W args.toList ds gs before)
    (hsz0 : (DataW.weightsEach Try.prog (Try.f3.params.toList ++ Rows.cmdChecksSpec.plain.varTypes Try.prog) (ds ++ gs)).all (· ≤ reachBytes) = true) :
    Calls Try.prog 3 args W fun e W' => ∃ v, e = .returned v ∧ Rows.cmdChecksSpec.post enc Try.prog Try.f3 false true false false W args v W' := by
  have hval : ∀ (j : Nat) t v, Try.f3.params[j]? = some t → args[j]? = some v → Value.okWide Try.prog W .any base t v := hval0
  have hW' := hW
  obtain ⟨p, q, hA0, hV, rfl, hfz, hnd⟩ := hW
  have hA : DataW.TrodAll enc Try.prog W 0 (fun _ => true) true Try.f3.params.toList args.toList ds p := hA0
  rw [Try.params3] at hA hval
  have hsz := hsz0
  rw [Try.params3] at hsz
  obtain ⟨v0, vs0, d0, ds0, p0, q0, hargs, rfl, rfl, h0, r0⟩ := trodAll_cons hA
  obtain ⟨rfl, rfl, rfl⟩ := trodAll_nil r0
  obtain rfl : args = #[v0] := by cases args; simp_all
  obtain ⟨rfl, rfl⟩ := trodVars_none hV
  clear hA0 hval0
  have k0 := h0
  have lt0 : ∀ x ∈ p0, x.block < W.heap.size := by obtain ⟨m, hm⟩ := k0; exact DataW.trod_lt m _ _ _ hm
  obtain ⟨x0, w0, -, s0⟩ := open_cmd (hval 0 25 v0 rfl rfl) k0
  have b0 : IsCmd.fits x0 := s0 (wt_arg hsz (j := 0) rfl rfl)
  refine (walk v0 x0 W w0 b0).mono fun e W' ⟨he, bel⟩ => ?_
  subst he
  exact ⟨_, rfl, _, _, _, [], _, [], hW', trodAll_mk1 (shut_bool Try.underlying4 _), (trodAll_cons_mk (Below.trod laidOut (by kernel_rfl) (of_decide_eq_true (by kernel_rfl)) k0 bel lt0) trodAll_mk0), rfl, bel.frame _, fun h => by cases h⟩

set_option maxRecDepth 100000 in
theorem lifted (os : Os) (started : os.Started) (H : Type) (enc : TypeId × Value → H) :
    ReturnsInHanded {} Try.checked os 3 .any (Rows.cmdChecksSpec.pre6 enc Try.prog Try.f3 Rows.cmdChecksRow.domain false) (Rows.cmdChecksSpec.post enc Try.prog Try.f3 false true false false) := by
  refine returnsInHanded_of_change_sized (C := Try.checked) own started (by kernel_rfl) Try.func3
    (ChangeSpec.witness6 (enc := enc) (C := Try.checked) false ⟨#[], #[.agg #[.int .i64 0, .int .i64 0, .int .i64 0, .slice none 0 0, .int .u64 0, .int .u64 0, .int .u64 0, .int .u64 0]], []⟩ 8 (by kernel_rfl) (by kernel_rfl) (by kernel_rfl) (by kernel_rfl)) ?_
  intro W base args ds gs before hval0 hW hcnd hsz _
  exact contract H enc W base args ds gs before hval0 hW hsz

theorem proved : Rows.CmdChecksSaid :=
  OpenClaim.holds_of_wide 3 Try.f3 rfl rfl rfl rfl rfl rfl rfl ⟨rfl, rfl, rfl, rfl, rfl⟩ rfl rfl rfl rfl rfl (by kernel_rfl) Try.func3 (by kernel_rfl)
    (of_decide_eq_true (by kernel_rfl)) (by unfold Func.isWrapper; first | (rw [if_pos (by decide +kernel)]; kernel_rfl) | (rw [if_neg (by decide +kernel)]; exact ⟨rfl, rfl⟩))
    (fun os started H enc _ => lifted os started H enc)
end Go.Proofs.Ytlpoljknohiihaa.cmdChecks
