/- The law MsgChecks returns true for every message: package msg's Check of a copy answers what the document's own Check answers, an empty message is refused, and the copy stays what it was. No condition. -/
import Derived.Test.YteapccniloednaaBse
import Derived.Test.YteapccniloednaaMsG
import Derived.Test.YteapccniloednaaMsH
import Derived.Deep.QuietTactic
import Derived.BigQuiet
namespace Go.Proofs.Yteapccniloednaa.msgChecks
open Go.ChangeShapes Go.WideShapes Go.ChangeAt Go.RowKit
open Go.ChangeMaps (open_string shut_string)
set_option linter.unusedVariables false

theorem own : ownKnob Try.prog.godebug = none := by kernel_rfl
theorem laidOut : laidOutB Try.prog = true := by kernel_rfl

abbrev Ms.zArr : Array Value := #[.int .i64 0, .int .i64 0, .int .i64 0, .int .u64 0, .int .u64 0, .int .u64 0, .int .u64 0, .bool false, .slice none 0 0, .int .u64 0, .int .u64 0, .slice none 0 0, .int .i64 0, .int .u64 0, .slice none 0 0, .slice none 0 0]
abbrev Ms.nilM : Mes := ⟨0, 0, 0, 0, 0, 0, 0, false, [], ⟨0, 0, [], ⟨0, 0, [], []⟩⟩⟩
theorem Ms.nil_msg (w : World) : IsMsg w (.agg (mArr Ms.nilM (.slice none 0 0) (.slice none 0 0) (.slice none 0 0) (.slice none 0 0))) Ms.nilM :=
  ⟨_, _, _, _, rfl, ⟨[], SlR.nil _, fun r hr => by simp at hr, rfl⟩, (OwnK.nil .i64 3 w 0).sl (by simp), SlR.nil _, SlR.nil _, by decide, by decide, by decide, by decide, by decide, by decide, by decide, by decide, by decide, by decide, by decide, by simp, by simp⟩
theorem Ms.nil_not : ¬ Ms.msgOk Ms.nilM := fun h => absurd h.1.1 (by decide)
set_option maxHeartbeats 8000000 in
theorem walk (v0 : Value) (x0 : Mes) (w : World) (w0 : IsMsg w v0 x0) (b0 : IsMsg.fits x0) :
    Calls Try.prog 3 #[v0] w fun e w' => e = .returned (.bool true) ∧ Below w.heap.size w w' := by
  obtain ⟨ve, vn, vh, vl, rfl, hg, hn, hhe, hl, hwf⟩ := id w0
  have hb0 : Below w.heap.size w (w.alloc (.cells (mArr x0 ve vn vh vl) 32)) := (Below.refl _ _).alloc (Nat.le_refl _) _
  have hh0 : (w.alloc (.cells (mArr x0 ve vn vh vl) 32)).heap[w.heap.size]? = some (.cells (mArr x0 ve vn vh vl) 32 (0, 0)) := heap_alloc_new _ _
  have HI0 := Lib.hid (w0.below hb0 (Nat.le_refl _))
  have HB0 := Lib.hid hb0
  have HF := Lib.hid b0
  have HH0 := Lib.hid hh0
  clear w0 hn hhe hl hg hwf b0 hb0
  go_enter Try.func3, Try.ntmps3
  go_wp2_with (refine wpList_load_row rfl 32 (.tmp 1) rfl w.heap.size rfl 32 (mArr x0 ve vn vh vl) (0, 0) _ hh0 Try.underlying32 rfl (by kernel_rfl) ?_)
  refine (Ms.copy_any x0 _ _ HI0.out HF.out).mono ?_
  rintro e w1 ⟨v1, rfl, hi1, hb1⟩
  obtain ⟨ce, cn, ch, cl, rfl, hs3, hs0, hs1, hs2, -⟩ := id hi1
  obtain ⟨s0, k0, rfl, -⟩ := id hs0
  obtain ⟨s1, k1, rfl, -⟩ := id hs1
  obtain ⟨s2, k2, rfl, -⟩ := id hs2
  obtain ⟨s3, k3, rfl, -, -⟩ := Hd.IsLog.len hs3
  have hA1 := (hb1.block w.heap.size (by simp)).trans HH0.out
  have hz1 : w.heap.size < w1.heap.size := by have := hb1.size; simp at this; omega
  have hst : (w1.alloc (.cells Ms.zArr 32)).heap[w1.heap.size]? = some (.cells Ms.zArr 32 (0, 0)) := heap_alloc_new _ _
  have hq0 : Below w1.heap.size w1 (w1.alloc (.cells Ms.zArr 32)) := (Below.refl _ _).alloc (Nat.le_refl _) _
  have hq1 : Below w1.heap.size w1 ((w1.alloc (.cells Ms.zArr 32)).setRow w1.heap.size (mArr x0 (.slice s3 x0.ents.length k3) (.slice s0 x0.shot.nodes.length k0) (.slice s1 x0.shot.led.held.length k1) (.slice s2 x0.shot.led.last.length k2))) := Ld.below_row hq0 (Nat.le_refl _) _
  have HB1 := Lib.hid ((HB0.out.trans (hb1.mono HB0.out.size)).trans (hq1.mono (Nat.le_of_lt hz1)))
  have HO1 := Lib.hid (hi1.below hq1 (Nat.le_refl _))
  have HI1 := Lib.hid ((HI0.out.below hb1 (Nat.le_refl _)).below hq1 (Nat.le_refl _))
  have HA1 := Lib.hid ((hq1.block w.heap.size hz1).trans hA1)
  have hC1 := setRow_heap _ _ _ (mArr x0 (.slice s3 x0.ents.length k3) (.slice s0 x0.shot.nodes.length k0) (.slice s1 x0.shot.led.held.length k1) (.slice s2 x0.shot.led.last.length k2)) _ _ hst
  have HC1 := Lib.hid hC1
  clear hi1 hb1 hA1 hq0 hq1 hz1 hs0 hs1 hs2 hs3 hh0
  generalize hW2 : (w1.alloc (.cells Ms.zArr 32)).setRow w1.heap.size (mArr x0 (.slice s3 x0.ents.length k3) (.slice s0 x0.shot.nodes.length k0) (.slice s1 x0.shot.led.held.length k1) (.slice s2 x0.shot.led.last.length k2)) = W2 at HB1 HO1 HI1 HA1 HC1 hC1
  go_wp2_with (first
    | (refine wpList_store_row rfl 32 (.tmp 3) (.tmp 6) rfl w1.heap.size (mArr x0 (.slice s3 x0.ents.length k3) (.slice s0 x0.shot.nodes.length k0) (.slice s1 x0.shot.led.held.length k1) (.slice s2 x0.shot.led.last.length k2)) rfl rfl 32 _ hst (by kernel_rfl) rfl (Ms.mArr_one _ _ _ _ _ _ _ _ _ _ _ _ _) ?_; rw [hW2]; clear hW2 hst)
    | (refine wpList_load_row rfl 32 (.tmp 3) rfl w1.heap.size rfl 32 (mArr x0 (.slice s3 x0.ents.length k3) (.slice s0 x0.shot.nodes.length k0) (.slice s1 x0.shot.led.held.length k1) (.slice s2 x0.shot.led.last.length k2)) (0, 0) _ hC1 Try.underlying32 rfl (by kernel_rfl) ?_))
  refine (Ms.check_any x0 _ _ HO1.out).mono ?_
  rintro e w2 ⟨z1, rfl, hz1, hb2⟩
  have HR1 := Lib.hid hz1
  have HB2 := Lib.hid (HB1.out.trans (hb2.mono HB1.out.size))
  have HO2 := Lib.hid (HO1.out.below hb2 (Nat.le_refl _))
  have HI2 := Lib.hid (HI1.out.below hb2 (Nat.le_refl _))
  have HA2 := Lib.hid ((hb2.block w.heap.size (Rc.lt_of_row8 HA1.out)).trans HA1.out)
  have HC2 := Lib.hid ((hb2.block w1.heap.size (Rc.lt_of_row8 HC1.out)).trans HC1.out)
  clear hz1 hb2 hC1
  go_wp2_with fail
  refine (Ms.check_any Ms.nilM _ _ (Ms.nil_msg _)).mono ?_
  rintro e w3 ⟨z2, rfl, hz2, hb3⟩
  obtain rfl : z2 = 80 := by
    rcases hz2 with h | h
    · exact absurd h.2 Ms.nil_not
    · exact h.1
  have HB3 := Lib.hid (HB2.out.trans (hb3.mono HB2.out.size))
  have HO3 := Lib.hid (HO2.out.below hb3 (Nat.le_refl _))
  have HI3 := Lib.hid (HI2.out.below hb3 (Nat.le_refl _))
  have hA3 := (hb3.block w.heap.size (Rc.lt_of_row8 HA2.out)).trans HA2.out
  have HA3 := Lib.hid hA3
  have HC3 := Lib.hid ((hb3.block w1.heap.size (Rc.lt_of_row8 HC2.out)).trans HC2.out)
  clear hz2 hb3
  go_wp2_with (refine wpList_load_rowG (by kernel_rfl) 32 (.tmp 1) rfl w.heap.size rfl 32 (mArr x0 ve vn vh vl) (0, 0) _ hA3 Try.underlying32 rfl (by kernel_rfl) ?_)
  refine (Ms.rcheck_any x0 _ _ HI3.out).mono ?_
  rintro e w4 ⟨z3, rfl, hz3, hb4⟩
  obtain rfl : z1 = z3 := by
    rcases hz3 with h | h <;> rcases HR1.out with g | g
    · exact g.1.trans h.1.symm
    · exact absurd h.2 g.2
    · exact absurd g.2 h.2
    · exact g.1.trans h.1.symm
  have HB4 := Lib.hid (HB3.out.trans (hb4.mono HB3.out.size))
  have HO4 := Lib.hid (HO3.out.below hb4 (Nat.le_refl _))
  have HI4 := Lib.hid (HI3.out.below hb4 (Nat.le_refl _))
  have hA4 := (hb4.block w.heap.size (Rc.lt_of_row8 HA3.out)).trans HA3.out
  have hC4 := (hb4.block w1.heap.size (Rc.lt_of_row8 HC3.out)).trans HC3.out
  clear hz3 hb4 hA3
  go_wp2_with (first
    | (refine wpList_load_rowG (by kernel_rfl) 32 (.tmp 1) rfl w.heap.size rfl 32 (mArr x0 ve vn vh vl) (0, 0) _ hA4 Try.underlying32 rfl (by kernel_rfl) ?_)
    | (refine wpList_load_rowG (by kernel_rfl) 32 (.tmp 3) rfl w1.heap.size rfl 32 (mArr x0 (.slice s3 x0.ents.length k3) (.slice s0 x0.shot.nodes.length k0) (.slice s1 x0.shot.led.held.length k1) (.slice s2 x0.shot.led.last.length k2)) (0, 0) _ hC4 Try.underlying32 rfl (by kernel_rfl) ?_))
  refine (Ms.same_any x0 _ _ _ HO4.out HI4.out).mono ?_
  rintro e w5 ⟨rfl, hb5⟩
  go_wp2
  go_ret
  exact ⟨rfl, HB4.out.trans (hb5.mono HB4.out.size)⟩

set_option maxRecDepth 100000 in
theorem contract (H : Type) (enc : TypeId × Value → H) (W : World) (base : Nat) (args : Array Value) (ds gs : List (DataW H)) (before : List MemPlace)
    (hval0 : ∀ (j : Nat) t v, Try.f3.params[j]? = some t → args[j]? = some v → Value.okWide Try.prog W .any base t v)
    (hW : DataW.Whole enc Try.prog Try.f3.params.toList Rows.msgChecksSpec.vars false W args.toList ds gs before)
    (hsz0 : (DataW.weightsEach Try.prog (Try.f3.params.toList ++ Rows.msgChecksSpec.plain.varTypes Try.prog) (ds ++ gs)).all (· ≤ reachBytes) = true) :
    Calls Try.prog 3 args W fun e W' => ∃ v, e = .returned v ∧ Rows.msgChecksSpec.post enc Try.prog Try.f3 false true false false W args v W' := by
  have hval : ∀ (j : Nat) t v, Try.f3.params[j]? = some t → args[j]? = some v → Value.okWide Try.prog W .any base t v := hval0
  have hW' := hW
  obtain ⟨p, q, hA0, hV, rfl, hfz, hnd⟩ := hW
  have hA : DataW.TrodAll enc Try.prog W 0 (fun _ => true) true Try.f3.params.toList args.toList ds p := hA0
  rw [Try.params3] at hA hval
  have hsz := hsz0
  rw [Try.params3] at hsz
  obtain ⟨v0, vs0, d0, ds0, p0, q0, hargs, rfl, rfl, h0, r0⟩ := trodAll_cons hA
  obtain ⟨rfl, rfl, rfl⟩ := trodAll_nil r0
  obtain rfl : args = #[v0] := by cases args; simp_all
  obtain ⟨rfl, rfl⟩ := trodVars_none hV
  clear hA0 hval0
  have k0 := h0
  have lt0 : ∀ x ∈ p0, x.block < W.heap.size := by obtain ⟨m, hm⟩ := k0; exact DataW.trod_lt m _ _ _ hm
  obtain ⟨x0, w0, -, s0⟩ := open_msg (hval 0 32 v0 rfl rfl) k0
  have b0 : IsMsg.fits x0 := s0 (wt_arg hsz (j := 0) rfl rfl)
  refine (walk v0 x0 W w0 b0).mono fun e W' ⟨he, bel⟩ => ?_
  subst he
  exact ⟨_, rfl, _, _, _, [], _, [], hW', trodAll_mk1 (shut_bool Try.underlying4 _), (trodAll_cons_mk (Below.trod laidOut (by kernel_rfl) (of_decide_eq_true (by kernel_rfl)) k0 bel lt0) trodAll_mk0), rfl, bel.frame _, fun h => by cases h⟩

set_option maxRecDepth 100000 in
theorem lifted (os : Os) (started : os.Started) (H : Type) (enc : TypeId × Value → H) :
    ReturnsInHanded {} Try.checked os 3 .any (Rows.msgChecksSpec.pre6 enc Try.prog Try.f3 Rows.msgChecksRow.domain false) (Rows.msgChecksSpec.post enc Try.prog Try.f3 false true false false) := by
  refine returnsInHanded_of_change_sized (C := Try.checked) own started (by kernel_rfl) Try.func3
    (ChangeSpec.witness6 (enc := enc) (C := Try.checked) false ⟨#[], #[.agg #[.int .i64 0, .int .i64 0, .int .i64 0, .int .u64 0, .int .u64 0, .int .u64 0, .int .u64 0, .bool false, .slice none 0 0, .int .u64 0, .int .u64 0, .slice none 0 0, .int .i64 0, .int .u64 0, .slice none 0 0, .slice none 0 0]], []⟩ 8 (by kernel_rfl) (by kernel_rfl) (by kernel_rfl) (by kernel_rfl)) ?_
  intro W base args ds gs before hval0 hW hcnd hsz _
  exact contract H enc W base args ds gs before hval0 hW hsz

theorem proved : Rows.MsgChecksSaid :=
  OpenClaim.holds_of_wide 3 Try.f3 rfl rfl rfl rfl rfl rfl rfl ⟨rfl, rfl, rfl, rfl, rfl⟩ rfl rfl rfl rfl rfl (by kernel_rfl) Try.func3 (by kernel_rfl)
    (of_decide_eq_true (by kernel_rfl)) (by unfold Func.isWrapper; first | (rw [if_pos (by decide +kernel)]; kernel_rfl) | (rw [if_neg (by decide +kernel)]; exact ⟨rfl, rfl⟩))
    (fun os started H enc _ => lifted os started H enc)
end Go.Proofs.Yteapccniloednaa.msgChecks
