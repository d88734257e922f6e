/- The law OctetBack returns true for every number and whatever bytes stand behind it: a number is read as what it was, and so many bytes as were written. No condition. -/
import Derived.Test.YtkbmofbpfinahaaSl
import Derived.Test.YtkbmofbpfinahaaOctL
import Derived.Test.YtkbmofbpfinahaaOctR
import Derived.Deep.RegionWith
namespace Go.Proofs.Ytkbmofbpfinahaa.octetBack
open Go.ChangeShapes Go.WideShapes Go.ChangeAt Go.RowKit
open Go.ChangeMaps (open_string shut_string)
set_option linter.unusedVariables false

theorem own : ownKnob Try.prog.godebug = none := by kernel_rfl
theorem laidOut : laidOutB Try.prog = true := by kernel_rfl

set_option maxHeartbeats 400000 in
theorem walk (a0 : Int) (v1 : Value) (z1 : List Int) (w : World) (w0 : (Lit.int .u64 a0).wf = true) (w1 : Sl .u8 w v1 z1) (b1 : z1.length * 1 ≤ 140737488351232) :
    Calls Try.prog 7 #[.int .u64 a0, v1] w fun e w' => e = .returned (.bool true) ∧ Below w.heap.size w w' := by
  obtain ⟨n, rfl⟩ := Int.eq_ofNat_of_zero_le (bounds_u64 w0).1
  have hn : n < 18446744073709551616 := by have := (bounds_u64 w0).2; omega
  have h8 := Oc.bw_le8 hn
  have hrd := Lib.hid (Oc.rd_num hn z1)
  obtain ⟨i0, hi, hz0, hz1, hz2⟩ := info_parts info_u8
  go_enter Try.func7, Try.ntmps7
  go_wp2_with fail
  refine (Oc.num_made n hn _).mono ?_
  rintro e u1 ⟨v, rfl, hown1, hs1, hb1⟩
  have hl := Oc.numL_length n
  have hlb : (Oc.numL n).length ≤ 9 := by omega
  obtain ⟨a, cap, hv, -⟩ := id hs1
  rw [hl] at hv
  subst hv
  clear hl
  have hB := hb1.size
  go_wp2_with (first
    | (at_builtin; refine app8 rfl (.const (.slice none 0 0)) (.tmp 12) rfl w.heap.size _ _ rfl (Own.nil _ _) _ _ rfl hs1 (by simp; omega) hB ?_; intro v2 u2 hown2 hb2)
    | (at_builtin; refine app8 rfl (.tmp 13) (.tmp 14) rfl w.heap.size _ _ rfl hown2 _ _ rfl (w1.below (hb1.trans hb2) (Nat.le_refl _)) (by simp; omega) (Nat.le_trans hB hb2.size) ?_; intro v3 u3 hown3 hb3)
    | (go_at_call 16; refine (Oc.read_any _ _ _ (hown3.sl (wf_app (wf_app (by simp) (Oc.numL_wf hn)) w1.wf))).mono ?_; rintro e w' ⟨he, rfl⟩; rw [List.nil_append] at he; unfold Oc.rdEnd at he; rw [hrd.out] at he; subst he)
    | (go_at_call 13; refine (Oc.one_ex _).mono ?_; rintro e u4 ⟨rfl, hb4⟩))
  go_ret
  exact ⟨rfl, ((hb1.trans hb2).trans hb3).trans (hb4.mono (Nat.le_trans hB (Nat.le_trans hb2.size hb3.size)))⟩

set_option maxRecDepth 100000 in
theorem contract (H : Type) (enc : TypeId × Value → H) (W : World) (base : Nat) (args : Array Value) (ds gs : List (DataW H)) (before : List MemPlace)
    (hval0 : ∀ (j : Nat) t v, Try.f7.params[j]? = some t → args[j]? = some v → Value.okWide Try.prog W .any base t v)
    (hW : DataW.Whole enc Try.prog Try.f7.params.toList Rows.octetBackSpec.vars false W args.toList ds gs before)
    (hsz0 : (DataW.weightsEach Try.prog (Try.f7.params.toList ++ Rows.octetBackSpec.plain.varTypes Try.prog) (ds ++ gs)).all (· ≤ reachBytes) = true) :
    Calls Try.prog 7 args W fun e W' => ∃ v, e = .returned v ∧ Rows.octetBackSpec.post enc Try.prog Try.f7 false true false false W args v W' := by
  have hval : ∀ (j : Nat) t v, Try.f7.params[j]? = some t → args[j]? = some v → Value.okWide Try.prog W .any base t v := hval0
  have hW' := hW
  obtain ⟨p, q, hA0, hV, rfl, hfz, hnd⟩ := hW
  have hA : DataW.TrodAll enc Try.prog W 0 (fun _ => true) true Try.f7.params.toList args.toList ds p := hA0
  rw [Try.params7] at hA hval
  have hsz := hsz0
  rw [Try.params7] at hsz
  obtain ⟨v0, vs0, d0, ds0, p0, q0, hargs, rfl, rfl, h0, r0⟩ := trodAll_cons hA
  obtain ⟨v1, vs1, d1, ds1, p1, q1, rfl, rfl, rfl, h1, r1⟩ := trodAll_cons r0
  obtain ⟨rfl, rfl, rfl⟩ := trodAll_nil r1
  obtain rfl : args = #[v0, v1] := by cases args; simp_all
  obtain ⟨rfl, rfl⟩ := trodVars_none hV
  clear hA0 hval0
  have k0 := h0
  have lt0 : ∀ x ∈ p0, x.block < W.heap.size := by obtain ⟨m, hm⟩ := k0; exact DataW.trod_lt m _ _ _ hm
  have k1 := h1
  have lt1 : ∀ x ∈ p1, x.block < W.heap.size := by obtain ⟨m, hm⟩ := k1; exact DataW.trod_lt m _ _ _ hm
  obtain ⟨a0, rfl, -, -, w0⟩ := open_int Try.underlying22 (hval 0 22 v0 rfl rfl) h0
  obtain ⟨z1, w1, u10, b10⟩ := open_sl Try.underlying24 Try.underlying5 (by kernel_rfl) (okWide_slice Try.underlying24 (hval 1 24 v1 rfl rfl)).choose_spec.choose_spec.choose_spec k1
  have b1 : z1.length * 1 ≤ 140737488351232 := by
    have := b10 hsz (j := 1) rfl rfl
    rw [show Try.prog.bytesOf 5 = 1 from by kernel_rfl] at this
    simpa [reachBytes] using this
  refine (walk a0 v1 z1 W w0 w1 b1).mono fun e W' ⟨he, bel⟩ => ?_
  subst he
  exact ⟨_, rfl, _, _, _, [], _, [], hW', trodAll_mk1 (shut_bool Try.underlying4 _), (trodAll_cons_mk (Below.trod laidOut (by kernel_rfl) (of_decide_eq_true (by kernel_rfl)) k0 bel lt0) (trodAll_cons_mk (Below.trod laidOut (by kernel_rfl) (of_decide_eq_true (by kernel_rfl)) k1 bel lt1) trodAll_mk0)), rfl, bel.frame _, fun h => by cases h⟩

set_option maxRecDepth 100000 in
theorem lifted (os : Os) (started : os.Started) (H : Type) (enc : TypeId × Value → H) :
    ReturnsInHanded {} Try.checked os 7 .any (Rows.octetBackSpec.pre6 enc Try.prog Try.f7 Rows.octetBackRow.domain false) (Rows.octetBackSpec.post enc Try.prog Try.f7 false true false false) := by
  refine returnsInHanded_of_change_sized (C := Try.checked) own started (by kernel_rfl) Try.func7
    (ChangeSpec.witness6 (enc := enc) (C := Try.checked) false ⟨#[], #[.int .u64 0, .slice none 0 0], []⟩ 8 (by kernel_rfl) (by kernel_rfl) (by kernel_rfl) (by kernel_rfl)) ?_
  intro W base args ds gs before hval0 hW hcnd hsz _
  exact contract H enc W base args ds gs before hval0 hW hsz

theorem proved : Rows.OctetBackSaid :=
  OpenClaim.holds_of_wide 7 Try.f7 rfl rfl rfl rfl rfl rfl rfl ⟨rfl, rfl, rfl, rfl, rfl⟩ rfl rfl rfl rfl rfl (by kernel_rfl) Try.func7 (by kernel_rfl)
    (of_decide_eq_true (by kernel_rfl)) (by unfold Func.isWrapper; first | (rw [if_pos (by decide +kernel)]; kernel_rfl) | (rw [if_neg (by decide +kernel)]; exact ⟨rfl, rfl⟩))
    (fun os started H enc _ => lifted os started H enc)
end Go.Proofs.Ytkbmofbpfinahaa.octetBack
