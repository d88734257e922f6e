/- The law StreamBytes returns true for every list of frames: package stream's Bytes answers the bytes and the error that the document's own answer has, and the chapter's examples hold. No condition. -/
import Derived.Test.YtcgciefoojlpoaaSl
import Derived.Test.YtcgciefoojlpoaaStH
namespace Go.Proofs.Ytcgciefoojlpoaa.streamBytes
open Go.ChangeShapes Go.WideShapes Go.ChangeAt Go.RowKit
open Go.ChangeMaps (open_string shut_string)
set_option linter.unusedVariables false

theorem own : ownKnob Try.prog.godebug = none := by kernel_rfl
theorem laidOut : laidOutB Try.prog = true := by kernel_rfl

theorem hi_fit : ∀ f ∈ [(⟨81, ⟨#[104, 105]⟩⟩ : Frm)], St.fitF f := by
  intro f hf
  simp only [List.mem_cons, List.not_mem_nil, or_false] at hf
  subst hf
  exact .inr ⟨rfl, by decide⟩
theorem hi_bytes : [(⟨81, ⟨#[104, 105]⟩⟩ : Frm)].flatMap St.byteF = [81, 2, 104, 105] := by
  simp [St.byteF, St.sb]
  rfl
theorem hi_str : strOfNums [81, 2, 104, 105] = ⟨#[81, 2, 104, 105]⟩ := by kernel_rfl
theorem hi_frms (w : World) : IsFrms (w.alloc (.cells #[.int .u8 81, .string ⟨#[104, 105]⟩] 42)) (.slice (some ⟨w.heap.size, 0, none⟩) 1 1) [⟨81, ⟨#[104, 105]⟩⟩] :=
  ⟨SlR.one frmC_len w w.heap.size rfl _ ⟨81, ⟨#[104, 105]⟩⟩ rfl, by
    intro x hx
    simp only [List.mem_cons, List.not_mem_nil, or_false] at hx
    subst hx
    exact ⟨by decide, by decide⟩⟩
set_option maxHeartbeats 8000000 in
theorem walk (v0 : Value) (x0 : (List Frm)) (w : World) (w0 : IsFrms w v0 x0) :
    Calls Try.prog 5 #[v0] w fun e w' => e = .returned (.bool true) ∧ Below w.heap.size w w' := by
  have B0 := Lib.hid w0
  obtain ⟨a0, c0, rfl, hl0, hm0, -⟩ := id w0.1
  unfold maxLen at hm0
  clear w0
  by_cases h2 : 2000 < x0.length
  · have h2' : (2000 : Int) < (x0.length : Int) := by omega
    go_enter Try.func5, Try.ntmps5
    go_wp2_with fail
    refine (St.live_any _).mono ?_
    rintro e w1 ⟨rfl, hb1⟩
    go_wp2
    go_ret
    exact ⟨rfl, hb1⟩
  · have h2' : (x0.length : Int) ≤ 2000 := by omega
    have hl : x0.length ≤ 1048576 := by omega
    go_enter Try.func5, Try.ntmps5
    go_wp2_with fail
    refine (St.bytes_any x0 _ _ B0.out hl).mono ?_
    rintro e w2 (⟨hf, v2, rfl, own2, hb2⟩ | ⟨hf, rfl, hb2⟩)
    · have HF := Lib.hid hf
      have HB2 := Lib.hid hb2
      have HSL2 := Lib.hid (own2.sl (St.bytes_wf _ hf))
      clear hf own2 hb2
      generalize hz : x0.flatMap St.byteF = zs at HSL2
      have HZ := Lib.hid hz
      clear hz
      obtain ⟨a2, c2, rfl, -⟩ := id HSL2.out
      go_wp2_with fail
      refine (St.rbytes_any x0 _ _ (B0.out.below HB2.out (Nat.le_refl _)) hl).mono ?_
      rintro e w3 (⟨-, rfl, hb3⟩ | ⟨hn, -, -⟩)
      · have HB3 := Lib.hid (HB2.out.trans (hb3.mono HB2.out.size))
        have HSL3 := Lib.hid (HSL2.out.below hb3 (Nat.le_refl _))
        clear hb3
        rw [HZ.out]
        go_wp2_with fail
        refine (St.bytes_any [⟨81, ⟨#[104, 105]⟩⟩] _ _ (hi_frms w3) (by decide)).mono ?_
        rintro e w4 (⟨-, v4, rfl, own4, hb4⟩ | ⟨hn, -, -⟩)
        · rw [hi_bytes] at own4
          have hsl4 := own4.sl (by decide)
          have hb34 := ((Below.refl w3.heap.size w3).alloc (Nat.le_refl _) (.cells #[.int .u8 81, .string ⟨#[104, 105]⟩] 42)).trans (hb4.mono (by simp))
          have hc1 := run_str hsl4
          rw [hi_str] at hc1
          have hc2 := run_str (HSL3.out.below hb34 (Nat.le_refl _))
          obtain ⟨a4, c4, rfl, -⟩ := hsl4
          replace hc1 : (convert 37 9 (.slice a4 4 c4)).run Try.prog w4 = .ok (.string ⟨#[81, 2, 104, 105]⟩) w4 := hc1
          have HB4 := Lib.hid (HB3.out.trans (hb34.mono HB3.out.size))
          clear own4 hb4 hb34
          go_wp2
          go_ret
          exact ⟨rfl, HB4.out⟩
        · exact absurd hi_fit hn
      · exact absurd HF.out hn
    · have HF := Lib.hid hf
      have HB2 := Lib.hid hb2
      clear hf hb2
      go_wp2_with fail
      refine (St.rbytes_any x0 _ _ (B0.out.below HB2.out (Nat.le_refl _)) hl).mono ?_
      rintro e w3 (⟨hn, -, -⟩ | ⟨-, rfl, hb3⟩)
      · exact absurd hn HF.out
      · have HB3 := Lib.hid (HB2.out.trans (hb3.mono HB2.out.size))
        clear hb3
        go_wp2_with fail
        refine (St.bytes_any [⟨81, ⟨#[104, 105]⟩⟩] _ _ (hi_frms w3) (by decide)).mono ?_
        rintro e w4 (⟨-, v4, rfl, own4, hb4⟩ | ⟨hn, -, -⟩)
        · rw [hi_bytes] at own4
          have hsl4 := own4.sl (by decide)
          have hb34 := ((Below.refl w3.heap.size w3).alloc (Nat.le_refl _) (.cells #[.int .u8 81, .string ⟨#[104, 105]⟩] 42)).trans (hb4.mono (by simp))
          have hc1 := run_str hsl4
          rw [hi_str] at hc1
          have hc2 : (convert 37 9 (.slice none 0 0)).run Try.prog w4 = .ok (.string ⟨#[]⟩) w4 := run_str (zs := []) ⟨none, 0, rfl, Nat.le_refl _, Nat.zero_le _, by simp, .inl ⟨rfl, rfl, rfl⟩⟩
          obtain ⟨a4, c4, rfl, -⟩ := hsl4
          replace hc1 : (convert 37 9 (.slice a4 4 c4)).run Try.prog w4 = .ok (.string ⟨#[81, 2, 104, 105]⟩) w4 := hc1
          have HB4 := Lib.hid (HB3.out.trans (hb34.mono HB3.out.size))
          clear own4 hb4 hb34
          go_wp2
          go_ret
          exact ⟨rfl, HB4.out⟩
        · exact absurd hi_fit hn

set_option maxRecDepth 100000 in
theorem contract (H : Type) (enc : TypeId × Value → H) (W : World) (base : Nat) (args : Array Value) (ds gs : List (DataW H)) (before : List MemPlace)
    (hval0 : ∀ (j : Nat) t v, Try.f5.params[j]? = some t → args[j]? = some v → Value.okWide Try.prog W .any base t v)
    (hW : DataW.Whole enc Try.prog Try.f5.params.toList Rows.streamBytesSpec.vars false W args.toList ds gs before)
    (hsz0 : (DataW.weightsEach Try.prog (Try.f5.params.toList ++ Rows.streamBytesSpec.plain.varTypes Try.prog) (ds ++ gs)).all (· ≤ reachBytes) = true) :
    Calls Try.prog 5 args W fun e W' => ∃ v, e = .returned v ∧ Rows.streamBytesSpec.post enc Try.prog Try.f5 false true false false W args v W' := by
  have hval : ∀ (j : Nat) t v, Try.f5.params[j]? = some t → args[j]? = some v → Value.okWide Try.prog W .any base t v := hval0
  have hW' := hW
  obtain ⟨p, q, hA0, hV, rfl, hfz, hnd⟩ := hW
  have hA : DataW.TrodAll enc Try.prog W 0 (fun _ => true) true Try.f5.params.toList args.toList ds p := hA0
  rw [Try.params5] at hA hval
  have hsz := hsz0
  rw [Try.params5] at hsz
  obtain ⟨v0, vs0, d0, ds0, p0, q0, hargs, rfl, rfl, h0, r0⟩ := trodAll_cons hA
  obtain ⟨rfl, rfl, rfl⟩ := trodAll_nil r0
  obtain rfl : args = #[v0] := by cases args; simp_all
  obtain ⟨rfl, rfl⟩ := trodVars_none hV
  clear hA0 hval0
  have k0 := h0
  have lt0 : ∀ x ∈ p0, x.block < W.heap.size := by obtain ⟨m, hm⟩ := k0; exact DataW.trod_lt m _ _ _ hm
  obtain ⟨x0, w0, -⟩ := open_frms (hval 0 22 v0 rfl rfl) k0
  refine (walk v0 x0 W w0).mono fun e W' ⟨he, bel⟩ => ?_
  subst he
  exact ⟨_, rfl, _, _, _, [], _, [], hW', trodAll_mk1 (shut_bool Try.underlying4 _), (trodAll_cons_mk (Below.trod laidOut (by kernel_rfl) (of_decide_eq_true (by kernel_rfl)) k0 bel lt0) trodAll_mk0), rfl, bel.frame _, fun h => by cases h⟩

set_option maxRecDepth 100000 in
theorem lifted (os : Os) (started : os.Started) (H : Type) (enc : TypeId × Value → H) :
    ReturnsInHanded {} Try.checked os 5 .any (Rows.streamBytesSpec.pre6 enc Try.prog Try.f5 Rows.streamBytesRow.domain false) (Rows.streamBytesSpec.post enc Try.prog Try.f5 false true false false) := by
  refine returnsInHanded_of_change_sized (C := Try.checked) own started (by kernel_rfl) Try.func5
    (ChangeSpec.witness6 (enc := enc) (C := Try.checked) false ⟨#[], #[.slice none 0 0], []⟩ 8 (by kernel_rfl) (by kernel_rfl) (by kernel_rfl) (by kernel_rfl)) ?_
  intro W base args ds gs before hval0 hW hcnd hsz _
  exact contract H enc W base args ds gs before hval0 hW hsz

theorem proved : Rows.StreamBytesSaid :=
  OpenClaim.holds_of_wide 5 Try.f5 rfl rfl rfl rfl rfl rfl rfl ⟨rfl, rfl, rfl, rfl, rfl⟩ rfl rfl rfl rfl rfl (by kernel_rfl) Try.func5 (by kernel_rfl)
    (of_decide_eq_true (by kernel_rfl)) (by unfold Func.isWrapper; first | (rw [if_pos (by decide +kernel)]; kernel_rfl) | (rw [if_neg (by decide +kernel)]; exact ⟨rfl, rfl⟩))
    (fun os started H enc _ => lifted os started H enc)
end Go.Proofs.Ytcgciefoojlpoaa.streamBytes
