/- The law OctetTextBack returns true for every text, whatever bytes stand behind it, and any bound, where the arguments hold together at most 1048576 values and letters: a text is read as what it was, or is too long. -/
import Derived.Test.YtkbmofbpfinahaaSl
import Derived.Test.YtkbmofbpfinahaaOctT
import Derived.Test.YtkbmofbpfinahaaOctL
import Derived.Deep.RegionWith
namespace Go.Proofs.Ytkbmofbpfinahaa.octetTextBack
open Go.ChangeShapes Go.WideShapes Go.ChangeAt Go.RowKit
open Go.ChangeMaps (open_string shut_string)
set_option linter.unusedVariables false

theorem own : ownKnob Try.prog.godebug = none := by kernel_rfl
theorem laidOut : laidOutB Try.prog = true := by kernel_rfl

set_option maxHeartbeats 400000 in
theorem walk (s0 : ByteArray) (v1 : Value) (z1 : List Int) (a2 : Int) (w : World) (w0 : s0.size ≤ 1048576) (w1 : Sl .u8 w v1 z1) (b1 : z1.length ≤ 1048576) (w2 : (Lit.int .i64 a2).wf = true) :
    Calls Try.prog 9 #[.string s0, v1, .int .i64 a2] w fun e w' => e = .returned (.bool true) ∧ Below w.heap.size w w' := by
  have hn : s0.size < 18446744073709551616 := by omega
  have h8 := Oc.bw_le8 hn
  have htl := Oc.txL_length (s := s0)
  have hlb : (Oc.txL s0).length ≤ 1100000 := by omega
  have hbm := bounds_i64 w2
  have k1 : ((strOfNums [1, 2, 97, 98]).toList == [1, 2, 97, 98]) = true := by kernel_rfl
  by_cases hm : (s0.size : Int) ≤ a2
  · have HR := Lib.hid (Oc.rt_text hn z1 a2 hm)
    have HL := Lib.hid htl
    have hkn : (s0.size : Int) < ((Oc.txL s0).length : Int) := by omega
    clear htl
    go_enter Try.func9, Try.ntmps9
    go_wp2_with fail
    refine (Oc.text_made s0 _ (by omega)).mono ?_
    rintro e u1 ⟨v, rfl, hown1, hs1, hb1⟩
    obtain ⟨a, cap, hv, -⟩ := id hs1
    subst hv
    have hB := hb1.size
    go_wp2_with (first
      | (at_builtin; refine app8 rfl (.const (.slice none 0 0)) _ rfl w.heap.size _ _ rfl (Own.nil _ _) _ _ rfl hs1 (by simp; omega) hB ?_; intro v2 u2 hown2 hb2)
      | (at_builtin; refine app8 rfl _ _ rfl w.heap.size _ _ rfl hown2 _ _ rfl (w1.below (hb1.trans hb2) (Nat.le_refl _)) (by simp; omega) (Nat.le_trans hB hb2.size) ?_; intro v3 u3 hown3 hb3)
      | (go_at_call 20; refine (Oc.readtext_any _ _ _ _ (hown3.sl (wf_app (wf_app (by simp) (Oc.txL_wf hn)) w1.wf)) w2).mono ?_; rintro e w' ⟨he, rfl⟩; rw [List.nil_append] at he; unfold Oc.rtEnd at he; rw [HR.out] at he; subst he))
    go_ret
    exact ⟨rfl, (hb1.trans hb2).trans hb3⟩
  · have HR := Lib.hid (Oc.rt_text_long hn z1 a2 (by omega))
    have hm2 : a2 < (s0.size : Int) := by omega
    clear hm htl
    go_enter Try.func9, Try.ntmps9
    go_wp2_with fail
    refine (Oc.text_made s0 _ (by omega)).mono ?_
    rintro e u1 ⟨v, rfl, hown1, hs1, hb1⟩
    have hB := hb1.size
    go_wp2_with (first
      | (at_builtin; refine app8 rfl (.const (.slice none 0 0)) _ rfl w.heap.size _ _ rfl (Own.nil _ _) _ _ rfl hs1 (by simp; omega) hB ?_; intro v2 u2 hown2 hb2)
      | (at_builtin; refine app8 rfl _ _ rfl w.heap.size _ _ rfl hown2 _ _ rfl (w1.below (hb1.trans hb2) (Nat.le_refl _)) (by simp; omega) (Nat.le_trans hB hb2.size) ?_; intro v3 u3 hown3 hb3)
      | (go_at_call 20; refine (Oc.readtext_any _ _ _ _ (hown3.sl (wf_app (wf_app (by simp) (Oc.txL_wf hn)) w1.wf)) w2).mono ?_; rintro e w' ⟨he, rfl⟩; rw [List.nil_append] at he; unfold Oc.rtEnd at he; rw [HR.out] at he; subst he))
    refine (Oc.text_made _ _ (by decide)).mono ?_
    rintro e u4 ⟨v4, rfl, hown4, hs4, hb4⟩
    rw [Oc.tx_ab] at hs4
    have hq4 := run_str hs4
    go_wp2
    go_ret
    exact ⟨rfl, ((hb1.trans hb2).trans hb3).trans (hb4.mono (Nat.le_trans hB (Nat.le_trans hb2.size hb3.size)))⟩

set_option maxRecDepth 100000 in
theorem contract (H : Type) (enc : TypeId × Value → H) (W : World) (base : Nat) (args : Array Value) (ds gs : List (DataW H)) (before : List MemPlace)
    (hval0 : ∀ (j : Nat) t v, Try.f9.params[j]? = some t → args[j]? = some v → Value.okWide Try.prog W .any base t v)
    (hW : DataW.Whole enc Try.prog Try.f9.params.toList Rows.octetTextBackSpec.vars false W args.toList ds gs before)
    (hk : Rows.uptoSmall H (ds ++ gs) = true) :
    Calls Try.prog 9 args W fun e W' => ∃ v, e = .returned v ∧ Rows.octetTextBackSpec.post enc Try.prog Try.f9 false true false false W args v W' := by
  have hval : ∀ (j : Nat) t v, Try.f9.params[j]? = some t → args[j]? = some v → Value.okWide Try.prog W .any base t v := hval0
  have hW' := hW
  obtain ⟨p, q, hA0, hV, rfl, hfz, hnd⟩ := hW
  have hA : DataW.TrodAll enc Try.prog W 0 (fun _ => true) true Try.f9.params.toList args.toList ds p := hA0
  rw [Try.params9] at hA hval
  obtain ⟨v0, vs0, d0, ds0, p0, q0, hargs, rfl, rfl, h0, r0⟩ := trodAll_cons hA
  obtain ⟨v1, vs1, d1, ds1, p1, q1, rfl, rfl, rfl, h1, r1⟩ := trodAll_cons r0
  obtain ⟨v2, vs2, d2, ds2, p2, q2, rfl, rfl, rfl, h2, r2⟩ := trodAll_cons r1
  obtain ⟨rfl, rfl, rfl⟩ := trodAll_nil r2
  obtain rfl : args = #[v0, v1, v2] := by cases args; simp_all
  obtain ⟨rfl, rfl⟩ := trodVars_none hV
  clear hA0 hval0
  simp only [List.append_nil] at hk
  have ub := of_decide_eq_true hk
  have u0 : Rows.uptoBulk d0 ≤ 1048576 := Nat.le_trans (bulk_mem (l := [d0, d1, d2]) (by simp)) ub
  have u1 : Rows.uptoBulk d1 ≤ 1048576 := Nat.le_trans (bulk_mem (l := [d0, d1, d2]) (by simp)) ub
  have u2 : Rows.uptoBulk d2 ≤ 1048576 := Nat.le_trans (bulk_mem (l := [d0, d1, d2]) (by simp)) ub
  clear hk ub
  have k0 := h0
  have lt0 : ∀ x ∈ p0, x.block < W.heap.size := by obtain ⟨m, hm⟩ := k0; exact DataW.trod_lt m _ _ _ hm
  have k1 := h1
  have lt1 : ∀ x ∈ p1, x.block < W.heap.size := by obtain ⟨m, hm⟩ := k1; exact DataW.trod_lt m _ _ _ hm
  have k2 := h2
  have lt2 : ∀ x ∈ p2, x.block < W.heap.size := by obtain ⟨m, hm⟩ := k2; exact DataW.trod_lt m _ _ _ hm
  obtain ⟨s0, rfl, rfl, -, m0⟩ := open_string Try.underlying9 (hval 0 9 v0 rfl rfl) h0
  have w0 : s0.size ≤ 1048576 := str_upto u0
  obtain ⟨z1, w1, u10, b10⟩ := open_sl Try.underlying24 Try.underlying5 (by kernel_rfl) (okWide_slice Try.underlying24 (hval 1 24 v1 rfl rfl)).choose_spec.choose_spec.choose_spec k1
  have b1 : z1.length ≤ 1048576 := Nat.le_trans u10 u1
  obtain ⟨a2, rfl, -, -, w2⟩ := open_int Try.underlying3 (hval 2 3 v2 rfl rfl) h2
  refine (walk s0 v1 z1 a2 W w0 w1 b1 w2).mono fun e W' ⟨he, bel⟩ => ?_
  subst he
  exact ⟨_, rfl, _, _, _, [], _, [], hW', trodAll_mk1 (shut_bool Try.underlying4 _), (trodAll_cons_mk (Below.trod laidOut (by kernel_rfl) (of_decide_eq_true (by kernel_rfl)) k0 bel lt0) (trodAll_cons_mk (Below.trod laidOut (by kernel_rfl) (of_decide_eq_true (by kernel_rfl)) k1 bel lt1) (trodAll_cons_mk (Below.trod laidOut (by kernel_rfl) (of_decide_eq_true (by kernel_rfl)) k2 bel lt2) trodAll_mk0))), rfl, bel.frame _, fun h => by cases h⟩

set_option maxRecDepth 100000 in
theorem lifted (os : Os) (started : os.Started) (H : Type) (enc : TypeId × Value → H) (F : Stop.Interp) :
    ReturnsInHanded {} Try.checked os 9 .any ((Rows.OpenSpec.upto Rows.octetTextBackSpec).pre6 enc Try.prog Try.f9 Rows.octetTextBackUptoRow.domain false) (((Rows.OpenSpec.upto Rows.octetTextBackSpec).at F).post enc Try.prog Try.f9 false true false false) := by
  refine returnsInHanded_of_cond (C := Try.checked) (s := Rows.OpenSpec.upto Rows.octetTextBackSpec) (k := Rows.uptoSmall) rfl own started (by kernel_rfl) Try.func9
    (OpenSpec.witness (enc := enc) (C := Try.checked) (s := Rows.OpenSpec.upto Rows.octetTextBackSpec) (k := Rows.uptoSmall) rfl false ⟨#[], #[.string ByteArray.empty, .slice none 0 0, .int .i64 0], []⟩ 8 (by kernel_rfl) (by kernel_rfl) (by kernel_rfl)
      (x := ([.lit (.string []), .nil, .lit (.int .i64 0)], [], [])) (by kernel_rfl) rfl (by kernel_rfl)) ?_
  intro W base args ds gs before hval hW _ hk _
  exact contract H enc W base args ds gs before hval hW hk

theorem proved : Rows.OctetTextBackUptoSaid :=
  OpenClaim.holds_of_cond 9 Try.f9 rfl rfl rfl rfl rfl rfl rfl ⟨rfl, rfl, rfl, rfl, rfl⟩ rfl rfl rfl rfl rfl (by kernel_rfl) Try.func9 (by kernel_rfl)
    (of_decide_eq_true (by kernel_rfl)) (by unfold Func.isWrapper; first | (rw [if_pos (by decide +kernel)]; kernel_rfl) | (rw [if_neg (by decide +kernel)]; exact ⟨rfl, rfl⟩))
    (fun os started H enc _ F => lifted os started H enc F)
end Go.Proofs.Ytkbmofbpfinahaa.octetTextBack
