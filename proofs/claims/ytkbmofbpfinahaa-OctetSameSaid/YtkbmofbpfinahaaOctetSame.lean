/- The law OctetSame returns true for any bytes: what is read as a number, written again, are the bytes that were read. No condition. -/
import Derived.Test.YtkbmofbpfinahaaSl
import Derived.Test.YtkbmofbpfinahaaOctL
import Derived.Test.YtkbmofbpfinahaaOctR
import Derived.Deep.RegionHeld
namespace Go.Proofs.Ytkbmofbpfinahaa.octetSame
open Go.ChangeShapes Go.WideShapes Go.ChangeAt Go.RowKit
open Go.ChangeMaps (open_string shut_string)
set_option linter.unusedVariables false

theorem own : ownKnob Try.prog.godebug = none := by kernel_rfl
theorem laidOut : laidOutB Try.prog = true := by kernel_rfl

set_option maxHeartbeats 2000000 in
theorem walk (v0 : Value) (z0 : List Int) (w : World) (w0 : Sl .u8 w v0 z0) (b0 : z0.length * 1 ≤ 140737488351232) :
    Calls Try.prog 8 #[v0] w fun e w' => e = .returned (.bool true) ∧ Below w.heap.size w w' := by
  rcases hr : Oc.rdL z0 with ⟨n, k, e⟩
  rcases Oc.rd_err hr with he | he
  · subst he
    obtain ⟨hk1, hk2, hn, hnum⟩ := Oc.rd_back w0.wf hr
    have HR := Lib.hid hr
    have HN := Lib.hid hnum
    obtain ⟨a, cap, hv, hc1, hc2, -, hcs⟩ := id w0
    subst hv
    unfold maxLen at hc2
    have hst := w0.take k hk2
    rw [← hnum] at hst
    have hk3 : (1 : Int) ≤ (k : Int) := by omega
    have hk7 : (k : Int) ≤ (cap : Int) := by omega
    have hk4 : (k : Int) ≤ (z0.length : Int) := by omega
    clear hr hnum b0 hc2 hc1
    rcases hcs with ⟨_, _, h⟩ | ⟨b, off, sp, rfl, _⟩
    · subst h; simp at hk2; omega
    have hkd : decide ((k : Int) ≤ (z0.length : Int)) = true := decide_eq_true hk4
    have hkd1 : decide ((1 : Int) ≤ (k : Int)) = true := decide_eq_true hk3
    have hkn : k ≤ z0.length := hk2
    go_enter Try.func8, Try.ntmps8
    go_wp2_with (go_at_call 16; refine (Oc.read_any _ _ _ w0).mono ?_; rintro e w' ⟨he, rfl⟩; unfold Oc.rdEnd at he; rw [HR.out] at he; subst he)
    have hs0 : Sl .u8 w.drew (.slice (some ⟨b, off, sp⟩) k cap) (Oc.numL n) := hst.below ((Below.refl _ _).drew : Below w.heap.size w w.drew) (Nat.le_refl _)
    clear hst
    go_wp2_with fail
    go_region_held (fun w' => (convert 24 9 (.slice (some ⟨b, off, sp⟩) k cap)).run Try.prog w' = .ok (.string (strOfNums (Oc.numL n))) w')
      (first
        | exact run_str hs0
        | exact run_str (hs0.below hb1 (Nat.le_refl _))
        | exact run_str ((hs0.below hb1 (Nat.le_refl _)).below hb2 (Nat.le_refl _))
        | go_keep)
      (first
        | (go_at_call 13; refine (Oc.one_ex _).mono ?_; rintro e u1 ⟨rfl, hb1⟩)
        | (go_at_call 14; refine (Oc.num_made n hn _).mono ?_; rintro e u2 ⟨v2, rfl, hown2, hs2, hb2⟩; have hq3 := run_str hs2))
    all_goals
      go_wp2
      go_ret
      exact ⟨rfl, ((Below.refl _ _).drew.trans hb1).trans (hb2.mono hb1.size)⟩
  · have HR := Lib.hid hr
    clear hr
    go_enter Try.func8, Try.ntmps8
    go_wp2_with (first
      | (go_at_call 16; refine (Oc.read_any _ _ _ w0).mono ?_; rintro e w' ⟨he, rfl⟩; unfold Oc.rdEnd at he; rw [HR.out] at he; subst he)
      | (go_at_call 13; refine (Oc.one_ex _).mono ?_; rintro e u1 ⟨rfl, hb1⟩))
    go_ret
    exact ⟨rfl, hb1⟩

set_option maxRecDepth 100000 in
theorem contract (H : Type) (enc : TypeId × Value → H) (W : World) (base : Nat) (args : Array Value) (ds gs : List (DataW H)) (before : List MemPlace)
    (hval0 : ∀ (j : Nat) t v, Try.f8.params[j]? = some t → args[j]? = some v → Value.okWide Try.prog W .any base t v)
    (hW : DataW.Whole enc Try.prog Try.f8.params.toList Rows.octetSameSpec.vars false W args.toList ds gs before)
    (hsz0 : (DataW.weightsEach Try.prog (Try.f8.params.toList ++ Rows.octetSameSpec.plain.varTypes Try.prog) (ds ++ gs)).all (· ≤ reachBytes) = true) :
    Calls Try.prog 8 args W fun e W' => ∃ v, e = .returned v ∧ Rows.octetSameSpec.post enc Try.prog Try.f8 false true false false W args v W' := by
  have hval : ∀ (j : Nat) t v, Try.f8.params[j]? = some t → args[j]? = some v → Value.okWide Try.prog W .any base t v := hval0
  have hW' := hW
  obtain ⟨p, q, hA0, hV, rfl, hfz, hnd⟩ := hW
  have hA : DataW.TrodAll enc Try.prog W 0 (fun _ => true) true Try.f8.params.toList args.toList ds p := hA0
  rw [Try.params8] at hA hval
  have hsz := hsz0
  rw [Try.params8] at hsz
  obtain ⟨v0, vs0, d0, ds0, p0, q0, hargs, rfl, rfl, h0, r0⟩ := trodAll_cons hA
  obtain ⟨rfl, rfl, rfl⟩ := trodAll_nil r0
  obtain rfl : args = #[v0] := by cases args; simp_all
  obtain ⟨rfl, rfl⟩ := trodVars_none hV
  clear hA0 hval0
  have k0 := h0
  have lt0 : ∀ x ∈ p0, x.block < W.heap.size := by obtain ⟨m, hm⟩ := k0; exact DataW.trod_lt m _ _ _ hm
  obtain ⟨z0, w0, u00, b00⟩ := open_sl Try.underlying24 Try.underlying5 (by kernel_rfl) (okWide_slice Try.underlying24 (hval 0 24 v0 rfl rfl)).choose_spec.choose_spec.choose_spec k0
  have b0 : z0.length * 1 ≤ 140737488351232 := by
    have := b00 hsz (j := 0) rfl rfl
    rw [show Try.prog.bytesOf 5 = 1 from by kernel_rfl] at this
    simpa [reachBytes] using this
  refine (walk v0 z0 W w0 b0).mono fun e W' ⟨he, bel⟩ => ?_
  subst he
  exact ⟨_, rfl, _, _, _, [], _, [], hW', trodAll_mk1 (shut_bool Try.underlying4 _), (trodAll_cons_mk (Below.trod laidOut (by kernel_rfl) (of_decide_eq_true (by kernel_rfl)) k0 bel lt0) trodAll_mk0), rfl, bel.frame _, fun h => by cases h⟩

set_option maxRecDepth 100000 in
theorem lifted (os : Os) (started : os.Started) (H : Type) (enc : TypeId × Value → H) :
    ReturnsInHanded {} Try.checked os 8 .any (Rows.octetSameSpec.pre6 enc Try.prog Try.f8 Rows.octetSameRow.domain false) (Rows.octetSameSpec.post enc Try.prog Try.f8 false true false false) := by
  refine returnsInHanded_of_change_sized (C := Try.checked) own started (by kernel_rfl) Try.func8
    (ChangeSpec.witness6 (enc := enc) (C := Try.checked) false ⟨#[], #[.slice none 0 0], []⟩ 8 (by kernel_rfl) (by kernel_rfl) (by kernel_rfl) (by kernel_rfl)) ?_
  intro W base args ds gs before hval0 hW hcnd hsz _
  exact contract H enc W base args ds gs before hval0 hW hsz

theorem proved : Rows.OctetSameSaid :=
  OpenClaim.holds_of_wide 8 Try.f8 rfl rfl rfl rfl rfl rfl rfl ⟨rfl, rfl, rfl, rfl, rfl⟩ rfl rfl rfl rfl rfl (by kernel_rfl) Try.func8 (by kernel_rfl)
    (of_decide_eq_true (by kernel_rfl)) (by unfold Func.isWrapper; first | (rw [if_pos (by decide +kernel)]; kernel_rfl) | (rw [if_neg (by decide +kernel)]; exact ⟨rfl, rfl⟩))
    (fun os started H enc _ => lifted os started H enc)
end Go.Proofs.Ytkbmofbpfinahaa.octetSame
