/- The law ShotCuts returns true for all that may be read as a snapshot and for every byte: the bytes that shot.Encode writes without the last one are short, with one more they are none. No condition. -/
import Derived.Test.YtiepnaifgdlnlaaBse
import Derived.Test.YtiepnaifgdlnlaaEdK
import Derived.Deep.MidRow
namespace Go.Proofs.Ytiepnaifgdlnlaa.shotCuts
open Go.ChangeShapes Go.WideShapes Go.ChangeAt Go.RowKit
open Go.ChangeMaps (open_string shut_string)
set_option linter.unusedVariables false

theorem own : ownKnob Try.prog.godebug = none := by kernel_rfl
theorem laidOut : laidOutB Try.prog = true := by kernel_rfl

open Sc Cm Nm Sh Go.Deep
set_option maxHeartbeats 4000000 in
theorem walk (v0 : Value) (x0 : Sho) (a1 : Int) (w : World) (w0 : IsShot w v0 x0) (b0 : IsShot.fits x0) (w1 : (Lit.int .u8 a1).wf = true) :
    Calls Try.prog 3 #[v0, .int .u8 a1] w fun e w' => e = .returned (.bool true) ∧ Below w.heap.size w w' := by
  obtain ⟨vn, vh, vl, rfl, hn, hh, hl, hwf⟩ := id w0
  obtain ⟨p1, k1, rfl, -⟩ := id hn
  obtain ⟨p2, k2, rfl, -⟩ := id hh
  obtain ⟨p3, k3, rfl, -⟩ := id hl
  obtain ⟨W0, hW0⟩ : ∃ q, w.alloc (.cells (sArr x0 (.slice p1 x0.nodes.length k1) (.slice p2 x0.led.held.length k2) (.slice p3 x0.led.last.length k3)) 29) = q := ⟨_, rfl⟩
  have hb0 : Below w.heap.size w W0 := by rw [← hW0]; exact (Below.refl _ _).alloc (Nat.le_refl _) _
  have HS0 : Hid (W0.heap[w.heap.size]? = some (.cells (sArr x0 (.slice p1 x0.nodes.length k1) (.slice p2 x0.led.held.length k2) (.slice p3 x0.led.last.length k3)) 29 (0, 0))) := Lib.hid (by rw [← hW0]; exact heap_alloc_new _ _)
  have HB0 := Lib.hid hb0
  have HI0 := Lib.hid (w0.below hb0 (Nat.le_refl _))
  have HWF := Lib.hid hwf
  clear w0 hn hh hl hwf hb0
  have HWC := Lib.hid w1
  clear w1
  go_enter Try.func3, Try.ntmps3
  go_wp2_with fail
  refine (Sc.live_any _).mono ?_
  rintro e w1 ⟨rfl, hb1⟩
  have HB1 := Lib.hid (HB0.out.trans (hb1.mono HB0.out.size))
  have HS1 := Lib.hid ((hb1.block _ (row_lt HS0.out)).trans HS0.out)
  have HI1 := Lib.hid (HI0.out.below hb1 (Nat.le_refl _))
  clear hb1
  go_wp2_with (first | (with_reducible refine wpList_load_row rfl 29 (.tmp 2) rfl w.heap.size rfl 29 (sArr x0 (.slice p1 x0.nodes.length k1) (.slice p2 x0.led.held.length k2) (.slice p3 x0.led.last.length k3)) (0, 0) _ HS1.out Try.underlying29 rfl (by kernel_rfl) ?_) | fail)
  refine (enc_any x0 _ _ HI1.out).mono ?_
  rintro e w2 ⟨v2, z2, l2, rfl, hz2, ho2, hb2⟩
  have HB2 := Lib.hid (HB1.out.trans (hb2.mono HB1.out.size))
  clear hb2
  rcases hz2 with ⟨rfl, ok, rfl⟩ | ⟨rfl, no, rfl⟩
  · have HD1 := Lib.hid (dec_cut HWF.out ok)
    have HDM := Lib.hid (dec_more HWF.out ok a1)
    obtain ⟨hlen, hwfb⟩ := shotB_len (nums_of HWF.out ok)
    have hpos : 1 ≤ (shotB x0).length := by unfold shotB; simp
    have hs2 := ho2.sl hwfb
    have HWB := Lib.hid hwfb
    have HDL : Hid ((shotB x0).dropLast = (shotB x0).take ((shotB x0).length - 1)) := Lib.hid (List.dropLast_eq_take)
    rw [HDL.out] at HD1
    clear ok ho2 hwfb HDL
    generalize shotB x0 = l at *
    obtain ⟨ag, cg, rfl, hlc, hcm, -, hcs⟩ := id hs2
    rcases hcs with ⟨_, _, h⟩ | ⟨b, off, sp, rfl, _⟩
    · rw [h] at hpos; simp at hpos
    have hst := hs2.take (l.length - 1) (by omega)
    have HQ := Lib.hid hs2
    have HST := Lib.hid hst
    unfold maxLen at hcm
    have hne : ((l.length : Int) == 0) = false := beq_eq_false_iff_ne.2 (by omega)
    have hsub : (((l.length : Int) - 1)).toNat = l.length - 1 := by omega
    have hlz : (1 : Int) ≤ (l.length : Int) := by omega
    have hlz2 : (l.length : Int) ≤ (cg : Int) := by omega
    clear hs2 hst
    go_wp2_with fail
    refine (dec_any _ _ _ HST.out).mono ?_
    rintro e w3 ⟨s3, z3, vn, vh, vl, rfl, hd, o1, o2, o3, hw3, hb3⟩
    rw [HD1.out] at hd
    simp only [Prod.mk.injEq] at hd
    obtain ⟨rfl, rfl⟩ := hd
    obtain ⟨d1, m1, q1, rfl⟩ := own_formx o1
    obtain ⟨d2, m2, q2, rfl⟩ := own_formx o2
    obtain ⟨d3, m3, q3, rfl⟩ := own_formx o3
    have hsS : (w3.alloc (.cells zSA 29)).heap[w3.heap.size]? = some (.cells zSA 29 (0, 0)) := heap_alloc_new _ _
    obtain ⟨W4, hW4⟩ : ∃ q, (w3.alloc (.cells zSA 29)).setRow w3.heap.size (sArr zS (.slice d1 m1 q1) (.slice d2 m2 q2) (.slice d3 m3 q3)) = q := ⟨_, rfl⟩
    have hbW : Below w3.heap.size w3 W4 := by rw [← hW4]; exact Ld.below_row ((Below.refl _ _).alloc (Nat.le_refl _) _) (Nat.le_refl _) _
    have HB4 := Lib.hid ((HB2.out.trans (hb3.mono HB2.out.size)).trans (hbW.mono (HB2.out.trans (hb3.mono HB2.out.size)).size))
    have HQ4 := Lib.hid ((HQ.out.below hb3 (Nat.le_refl _)).below hbW (Nat.le_refl _))
    have hl0 : ([] : List Int).length + l.length ≤ 140737488355328 := by simp; omega
    clear hb3 hbW o1 o2 o3 hw3 HST
    go_wp2_with (first
      | (with_reducible refine wpList_store_row rfl 29 (.tmp 8) (.tmp 37) rfl w3.heap.size (sArr zS (.slice d1 m1 q1) (.slice d2 m2 q2) (.slice d3 m3 q3)) rfl rfl 29 _ hsS (by kernel_rfl) rfl (sArr_one _ _ _ _ _ _ _ _ _ _) ?_; rw [hW4]; clear hW4 hsS)
      | (at_builtin; refine app8 rfl (.const (.slice none 0 0)) (.tmp 40) rfl W4.heap.size _ _ rfl (Own.nil _ _) _ _ rfl HQ4.out hl0 (Nat.le_refl _) ?_; intro v5 w5 hown5 hb5; rw [List.nil_append] at hown5)
      | (at_builtin; refine app8 rfl (.tmp 41) (.tmp 43) rfl W4.heap.size _ _ rfl (hown5.alloc _) _ [a1] rfl (Sl.newAt _ _ rfl _ _ rfl rfl (Nat.le_refl _) (by decide) (fun n hn => by simp only [List.mem_cons, List.not_mem_nil, or_false] at hn; subst hn; exact HWC.out)) (by simp; omega) (by have := hb5.size; simp; omega) ?_; intro v6 w6 hown6 hb6))
    have HB6 : Hid (Below w.heap.size w w6) := Lib.hid (HB4.out.trans (((hb5.trans ((Below.refl _ _).alloc hb5.size _)).trans hb6).mono HB4.out.size))
    have hs6 := hown6.sl (fun n hn => by
      rcases List.mem_append.1 hn with hn | hn
      · exact HWB.out n hn
      · simp only [List.mem_cons, List.not_mem_nil, or_false] at hn; subst hn; exact HWC.out)
    clear hown5 hown6 hb5 hb6
    refine (dec_any _ _ _ hs6).mono ?_
    rintro e w7 ⟨s3, z3, vn, vh, vl, rfl, hd, o1, o2, o3, hw3, hb7⟩
    rw [HDM.out] at hd
    simp only [Prod.mk.injEq] at hd
    obtain ⟨rfl, rfl⟩ := hd
    obtain ⟨g1, n1, r1, rfl⟩ := own_formx o1
    obtain ⟨g2, n2, r2, rfl⟩ := own_formx o2
    obtain ⟨g3, n3, r3, rfl⟩ := own_formx o3
    have hsS : (w7.alloc (.cells zSA 29)).heap[w7.heap.size]? = some (.cells zSA 29 (0, 0)) := heap_alloc_new _ _
    obtain ⟨W8, hW8⟩ : ∃ q, (w7.alloc (.cells zSA 29)).setRow w7.heap.size (sArr zS (.slice g1 n1 r1) (.slice g2 n2 r2) (.slice g3 n3 r3)) = q := ⟨_, rfl⟩
    have hbW : Below w7.heap.size w7 W8 := by rw [← hW8]; exact Ld.below_row ((Below.refl _ _).alloc (Nat.le_refl _) _) (Nat.le_refl _) _
    have HB8 := Lib.hid ((HB6.out.trans (hb7.mono HB6.out.size)).trans (hbW.mono (HB6.out.trans (hb7.mono HB6.out.size)).size))
    clear hb7 hbW o1 o2 o3 hw3 hs6
    go_wp2_with (first | (with_reducible refine wpList_store_row rfl 29 (.tmp 10) (.tmp 46) rfl w7.heap.size (sArr zS (.slice g1 n1 r1) (.slice g2 n2 r2) (.slice g3 n3 r3)) rfl rfl 29 _ hsS (by kernel_rfl) rfl (sArr_one _ _ _ _ _ _ _ _ _ _) ?_; rw [hW8]; clear hW8 hsS) | fail)
    go_ret
    exact ⟨rfl, HB8.out⟩
  · obtain ⟨a, cap, rfl, -⟩ := id (ho2.sl (fun n hn => by simp at hn))
    clear no ho2
    go_wp2
    go_ret
    exact ⟨rfl, HB2.out⟩

set_option maxRecDepth 100000 in
theorem contract (H : Type) (enc : TypeId × Value → H) (W : World) (base : Nat) (args : Array Value) (ds gs : List (DataW H)) (before : List MemPlace)
    (hval0 : ∀ (j : Nat) t v, Try.f3.params[j]? = some t → args[j]? = some v → Value.okWide Try.prog W .any base t v)
    (hW : DataW.Whole enc Try.prog Try.f3.params.toList Rows.shotCutsSpec.vars false W args.toList ds gs before)
    (hsz0 : (DataW.weightsEach Try.prog (Try.f3.params.toList ++ Rows.shotCutsSpec.plain.varTypes Try.prog) (ds ++ gs)).all (· ≤ reachBytes) = true) :
    Calls Try.prog 3 args W fun e W' => ∃ v, e = .returned v ∧ Rows.shotCutsSpec.post enc Try.prog Try.f3 false true false false W args v W' := by
  have hval : ∀ (j : Nat) t v, Try.f3.params[j]? = some t → args[j]? = some v → Value.okWide Try.prog W .any base t v := hval0
  have hW' := hW
  obtain ⟨p, q, hA0, hV, rfl, hfz, hnd⟩ := hW
  have hA : DataW.TrodAll enc Try.prog W 0 (fun _ => true) true Try.f3.params.toList args.toList ds p := hA0
  rw [Try.params3] at hA hval
  have hsz := hsz0
  rw [Try.params3] at hsz
  obtain ⟨v0, vs0, d0, ds0, p0, q0, hargs, rfl, rfl, h0, r0⟩ := trodAll_cons hA
  obtain ⟨v1, vs1, d1, ds1, p1, q1, rfl, rfl, rfl, h1, r1⟩ := trodAll_cons r0
  obtain ⟨rfl, rfl, rfl⟩ := trodAll_nil r1
  obtain rfl : args = #[v0, v1] := by cases args; simp_all
  obtain ⟨rfl, rfl⟩ := trodVars_none hV
  clear hA0 hval0
  have k0 := h0
  have lt0 : ∀ x ∈ p0, x.block < W.heap.size := by obtain ⟨m, hm⟩ := k0; exact DataW.trod_lt m _ _ _ hm
  have k1 := h1
  have lt1 : ∀ x ∈ p1, x.block < W.heap.size := by obtain ⟨m, hm⟩ := k1; exact DataW.trod_lt m _ _ _ hm
  obtain ⟨x0, w0, -, s0⟩ := open_shot (hval 0 29 v0 rfl rfl) k0
  have b0 : IsShot.fits x0 := s0 (wt_arg hsz (j := 0) rfl rfl)
  obtain ⟨a1, rfl, -, -, w1⟩ := open_int Try.underlying5 (hval 1 5 v1 rfl rfl) h1
  refine (walk v0 x0 a1 W w0 b0 w1).mono fun e W' ⟨he, bel⟩ => ?_
  subst he
  exact ⟨_, rfl, _, _, _, [], _, [], hW', trodAll_mk1 (shut_bool Try.underlying4 _), (trodAll_cons_mk (Below.trod laidOut (by kernel_rfl) (of_decide_eq_true (by kernel_rfl)) k0 bel lt0) (trodAll_cons_mk (Below.trod laidOut (by kernel_rfl) (of_decide_eq_true (by kernel_rfl)) k1 bel lt1) trodAll_mk0)), rfl, bel.frame _, fun h => by cases h⟩

set_option maxRecDepth 100000 in
theorem lifted (os : Os) (started : os.Started) (H : Type) (enc : TypeId × Value → H) :
    ReturnsInHanded {} Try.checked os 3 .any (Rows.shotCutsSpec.pre6 enc Try.prog Try.f3 Rows.shotCutsRow.domain false) (Rows.shotCutsSpec.post enc Try.prog Try.f3 false true false false) := by
  refine returnsInHanded_of_change_sized (C := Try.checked) own started (by kernel_rfl) Try.func3
    (ChangeSpec.witness6 (enc := enc) (C := Try.checked) false ⟨#[], #[.agg #[.int .u64 0, .int .u64 0, .slice none 0 0, .int .i64 0, .int .u64 0, .slice none 0 0, .slice none 0 0], .int .u8 0], []⟩ 8 (by kernel_rfl) (by kernel_rfl) (by kernel_rfl) (by kernel_rfl)) ?_
  intro W base args ds gs before hval0 hW hcnd hsz _
  exact contract H enc W base args ds gs before hval0 hW hsz

theorem proved : Rows.ShotCutsSaid :=
  OpenClaim.holds_of_wide 3 Try.f3 rfl rfl rfl rfl rfl rfl rfl ⟨rfl, rfl, rfl, rfl, rfl⟩ rfl rfl rfl rfl rfl (by kernel_rfl) Try.func3 (by kernel_rfl)
    (of_decide_eq_true (by kernel_rfl)) (by unfold Func.isWrapper; first | (rw [if_pos (by decide +kernel)]; kernel_rfl) | (rw [if_neg (by decide +kernel)]; exact ⟨rfl, rfl⟩))
    (fun os started H enc _ => lifted os started H enc)
end Go.Proofs.Ytiepnaifgdlnlaa.shotCuts
