/- The law HardBase returns true for all that may be read as what lasts, of bulk at most 1048576: package hard's Base answers the records and the error that the document's own Base answers, and one record for a Boot alone. No condition else. -/
import Derived.Test.YtgadbghlcejkfaaBse
import Derived.Test.YtgadbghlcejkfaaBsC
import Derived.Test.YtgadbghlcejkfaaCmR
import Derived.Test.YtgadbghlcejkfaaHlA
namespace Go.Proofs.Ytgadbghlcejkfaa.hardBase
open Go.ChangeShapes Go.WideShapes Go.ChangeAt Go.RowKit
open Go.ChangeMaps (open_string shut_string)
set_option linter.unusedVariables false

theorem own : ownKnob Try.prog.godebug = none := by kernel_rfl
theorem laidOut : laidOutB Try.prog = true := by kernel_rfl

open Rc Hd Nv Go.Deep
theorem recs_form {w : World} {v : Value} {l : List RecR} (h : IsRecs w v l) : ∃ a c, v = .slice a l.length c := by
  obtain ⟨rows, ⟨a, cap, rfl, -⟩, -, rfl⟩ := h
  exact ⟨a, cap, by rw [List.length_map]⟩
theorem base_three : baseL zero3 = [begR 3] := rfl
theorem fits_three : IsHard.fits zero3 := ⟨⟨by decide, by decide, by decide⟩, by decide, fun x hx => by simp [zero3] at hx⟩
set_option maxRecDepth 100000 in
set_option maxHeartbeats 8000000 in
theorem walk (v0 : Value) (x0 : Har) (w : World) (w0 : IsHardU w v0 x0) (b0 : IsHardU.size x0 ≤ 1048576) (f0 : IsHardU.fits x0) :
    Calls Try.prog 4 #[v0] w fun e w' => e = .returned (.bool true) ∧ Below w.heap.size w w' := by
  obtain ⟨vn, vh, vl, vg, rfl, hn, hhe, hl, hg, hwf⟩ := id w0
  obtain ⟨g1, q1, rfl, -⟩ := id hn
  obtain ⟨g2, q2, rfl, -⟩ := id hhe
  obtain ⟨g3, q3, rfl, -⟩ := id hl
  obtain ⟨g4, q4, rfl, -⟩ := IsLog.len hg
  have HF := Lib.hid f0
  have HSZ : Hid (x0.log.length ≤ 4294967296) := Lib.hid (Nat.le_trans b0 (by decide))
  obtain ⟨W0, hW0⟩ : ∃ q, w.alloc (.cells (hArr x0 (.slice g1 x0.shot.nodes.length q1) (.slice g2 x0.shot.led.held.length q2) (.slice g3 x0.shot.led.last.length q3) (.slice g4 x0.log.length q4)) 32) = q := ⟨_, rfl⟩
  have HA0 : Hid (W0.heap[w.heap.size]? = some (.cells (hArr x0 (.slice g1 x0.shot.nodes.length q1) (.slice g2 x0.shot.led.held.length q2) (.slice g3 x0.shot.led.last.length q3) (.slice g4 x0.log.length q4)) 32 (0, 0))) := Lib.hid (by rw [← hW0]; exact heap_alloc_new _ _)
  have hb0 : Below w.heap.size w W0 := by rw [← hW0]; exact (Below.refl _ _).alloc (Nat.le_refl _) _
  have HB0 := Lib.hid hb0
  have HI0 := Lib.hid (w0.below hb0 (Nat.le_refl _))
  clear w0 b0 f0 hn hhe hl hg hwf hb0
  go_enter Try.func4, Try.ntmps4
  go_wp2_with ((with_reducible refine wpList_load_row rfl 32 (.tmp 1) rfl w.heap.size rfl 32 (hArr x0 (.slice g1 x0.shot.nodes.length q1) (.slice g2 x0.shot.led.held.length q2) (.slice g3 x0.shot.led.last.length q3) (.slice g4 x0.log.length q4)) (0, 0) _ HA0.out Try.underlying32 rfl (by kernel_rfl) ?_))
  refine (base_any x0 _ _ HI0.out HF.out HSZ.out).mono ?_
  rintro e w1 ⟨va, za, la, rfl, hza, hra, hb1⟩
  have HA1 := Lib.hid ((hb1.block _ (lt_of_row HA0.out)).trans HA0.out)
  have HB1 := Lib.hid (HB0.out.trans (hb1.mono HB0.out.size))
  have HI1 := Lib.hid (HI0.out.below hb1 (Nat.le_refl _))
  have HZA := Lib.hid hza
  have HRA := Lib.hid hra
  clear hb1 hW0 hza hra
  go_wp2_with ((with_reducible refine wpList_load_row rfl 32 (.tmp 1) rfl w.heap.size rfl 32 (hArr x0 (.slice g1 x0.shot.nodes.length q1) (.slice g2 x0.shot.led.held.length q2) (.slice g3 x0.shot.led.last.length q3) (.slice g4 x0.log.length q4)) (0, 0) _ HA1.out Try.underlying32 rfl (by kernel_rfl) ?_))
  refine (rbase_any x0 _ _ HI1.out HF.out HSZ.out).mono ?_
  rintro e w2 ⟨vb, zb, lb, rfl, hzb, hrb, hb2⟩
  obtain ⟨rfl, rfl⟩ : za = zb ∧ la = lb := by
    rcases HZA.out with ⟨p1, p2, p3⟩ | ⟨p1, p2, p3⟩ <;> rcases hzb with ⟨q1, q2, q3⟩ | ⟨q1, q2, q3⟩
    · exact ⟨p1.trans q1.symm, p3.trans q3.symm⟩
    · exact absurd p2 q2
    · exact absurd q2 p2
    · exact ⟨p1.trans q1.symm, p3.trans q3.symm⟩
  have HB2 := Lib.hid (HB1.out.trans (hb2.mono HB1.out.size))
  have HRA2 := Lib.hid (HRA.out.below hb2 (Nat.le_refl _))
  have HRB2 := Lib.hid hrb
  clear hb2 hzb hrb HRA HZA HI1 HA1 HA0
  go_wp2_with fail
  refine (zero_any _).mono ?_
  rintro e w3 ⟨v3, rfl, hh3, hb3⟩
  obtain ⟨un, uh, ul, ug, rfl, k1, k2, k3, k4, k5⟩ := id hh3
  have HB3 := Lib.hid (HB2.out.trans (hb3.mono HB2.out.size))
  have HRA3 := Lib.hid (HRA2.out.below hb3 (Nat.le_refl _))
  have HRB3 := Lib.hid (HRB2.out.below hb3 (Nat.le_refl _))
  have HI3 : Hid (IsHard w3 (.agg (hArr zero3 un uh ul (.slice none 0 0))) zero3) := Lib.hid ⟨_, _, _, _, rfl, k1, k2, k3, IsLog.nil _, ⟨by decide, k5.2.1, k5.2.2.1, k5.2.2.2⟩⟩
  clear hh3 hb3 k1 k2 k3 k4 k5
  have hfld : ∀ w' : World, (Instr.field 32 (.agg (hArr zeroH un uh ul ug)) 3).run Try.prog w' = .ok (.agg #[.int .u64 0, .int .u64 0, un, .int .i64 2, .int .u64 1, uh, ul]) w' := fun _ => by first | rfl | kernel_rfl
  go_wp2_with fail
  refine (base_any zero3 _ _ HI3.out fits_three (by decide)).mono ?_
  rintro e w4 ⟨vx, zx, lx, rfl, hzx, hrx, hb4⟩
  obtain ⟨rfl, rfl⟩ : zx = 0 ∧ lx = [begR 3] := by
    rcases hzx with ⟨p1, p2, p3⟩ | ⟨p1, p2, p3⟩
    · exact ⟨p1, p3.trans base_three⟩
    · exact absurd zero3_ok p2
  obtain ⟨ax, cx, rfl⟩ := recs_form hrx
  have HB4 := Lib.hid (HB3.out.trans (hb4.mono HB3.out.size))
  have HRA4 := Lib.hid (HRA3.out.below hb4 (Nat.le_refl _))
  have HRB4 := Lib.hid (HRB3.out.below hb4 (Nat.le_refl _))
  have e1 : ([begR 3] : List RecR).length = 1 := rfl
  rw [e1]
  clear hzx hrx hb4 e1
  go_wp2_with fail
  refine (recs_same la _ _ _ HRA4.out HRB4.out).mono ?_
  rintro e w5 ⟨rfl, hb5⟩
  have e2 : (za == za) = true := by simp
  go_wp2
  go_ret
  exact ⟨rfl, HB4.out.trans (hb5.mono HB4.out.size)⟩

set_option maxRecDepth 100000 in
theorem contract (H : Type) (enc : TypeId × Value → H) (W : World) (base : Nat) (args : Array Value) (ds gs : List (DataW H)) (before : List MemPlace)
    (hval0 : ∀ (j : Nat) t v, Try.f4.params[j]? = some t → args[j]? = some v → Value.okWide Try.prog W .any base t v)
    (hW : DataW.Whole enc Try.prog Try.f4.params.toList Rows.hardBaseSpec.vars false W args.toList ds gs before)
    (hk : Rows.uptoSmall H (ds ++ gs) = true) :
    Calls Try.prog 4 args W fun e W' => ∃ v, e = .returned v ∧ Rows.hardBaseSpec.post enc Try.prog Try.f4 false true false false W args v W' := by
  have hval : ∀ (j : Nat) t v, Try.f4.params[j]? = some t → args[j]? = some v → Value.okWide Try.prog W .any base t v := hval0
  have hW' := hW
  obtain ⟨p, q, hA0, hV, rfl, hfz, hnd⟩ := hW
  have hA : DataW.TrodAll enc Try.prog W 0 (fun _ => true) true Try.f4.params.toList args.toList ds p := hA0
  rw [Try.params4] at hA hval
  obtain ⟨v0, vs0, d0, ds0, p0, q0, hargs, rfl, rfl, h0, r0⟩ := trodAll_cons hA
  obtain ⟨rfl, rfl, rfl⟩ := trodAll_nil r0
  obtain rfl : args = #[v0] := by cases args; simp_all
  obtain ⟨rfl, rfl⟩ := trodVars_none hV
  clear hA0 hval0
  simp only [List.append_nil] at hk
  have ub := of_decide_eq_true hk
  have u0 : Rows.uptoBulk d0 ≤ 1048576 := Nat.le_trans (bulk_mem (l := [d0]) (by simp)) ub
  clear hk ub
  have k0 := h0
  have lt0 : ∀ x ∈ p0, x.block < W.heap.size := by obtain ⟨m, hm⟩ := k0; exact DataW.trod_lt m _ _ _ hm
  obtain ⟨x0, w0, b00, s0⟩ := open_hardU (hval 0 32 v0 rfl rfl) k0
  have b0 : IsHardU.size x0 ≤ 1048576 := Nat.le_trans b00 u0
  have f0 : IsHardU.fits x0 := s0 (wt_small u0 (by decide +kernel))
  refine (walk v0 x0 W w0 b0 f0).mono fun e W' ⟨he, bel⟩ => ?_
  subst he
  exact ⟨_, rfl, _, _, _, [], _, [], hW', trodAll_mk1 (shut_bool Try.underlying4 _), (trodAll_cons_mk (Below.trod laidOut (by kernel_rfl) (of_decide_eq_true (by kernel_rfl)) k0 bel lt0) trodAll_mk0), rfl, bel.frame _, fun h => by cases h⟩

set_option maxRecDepth 100000 in
theorem lifted (os : Os) (started : os.Started) (H : Type) (enc : TypeId × Value → H) (F : Stop.Interp) :
    ReturnsInHanded {} Try.checked os 4 .any ((Rows.OpenSpec.upto Rows.hardBaseSpec).pre6 enc Try.prog Try.f4 Rows.hardBaseUptoRow.domain false) (((Rows.OpenSpec.upto Rows.hardBaseSpec).at F).post enc Try.prog Try.f4 false true false false) := by
  refine returnsInHanded_of_cond (C := Try.checked) (s := Rows.OpenSpec.upto Rows.hardBaseSpec) (k := Rows.uptoSmall) rfl own started (by kernel_rfl) Try.func4
    (OpenSpec.witness (enc := enc) (C := Try.checked) (s := Rows.OpenSpec.upto Rows.hardBaseSpec) (k := Rows.uptoSmall) rfl false ⟨#[], #[.agg #[.int .u64 0, .int .u64 0, .int .i64 0, .int .u64 0, .int .u64 0, .slice none 0 0, .int .i64 0, .int .u64 0, .slice none 0 0, .slice none 0 0, .slice none 0 0]], []⟩ 8 (by kernel_rfl) (by kernel_rfl) (by kernel_rfl)
      (x := ([.agg [.lit (.int .u64 0), .lit (.int .u64 0), .lit (.int .i64 0), .agg [.lit (.int .u64 0), .lit (.int .u64 0), .nil, .agg [.lit (.int .i64 0), .lit (.int .u64 0), .nil, .nil]], .nil]], [], [])) (by kernel_rfl) rfl (by kernel_rfl)) ?_
  intro W base args ds gs before hval hW _ hk _
  exact contract H enc W base args ds gs before hval hW hk

theorem proved : Rows.HardBaseUptoSaid :=
  OpenClaim.holds_of_cond 4 Try.f4 rfl rfl rfl rfl rfl rfl rfl ⟨rfl, rfl, rfl, rfl, rfl⟩ rfl rfl rfl rfl rfl (by kernel_rfl) Try.func4 (by kernel_rfl)
    (of_decide_eq_true (by kernel_rfl)) (by unfold Func.isWrapper; first | (rw [if_pos (by decide +kernel)]; kernel_rfl) | (rw [if_neg (by decide +kernel)]; exact ⟨rfl, rfl⟩))
    (fun os started H enc _ F => lifted os started H enc F)
end Go.Proofs.Ytgadbghlcejkfaa.hardBase
