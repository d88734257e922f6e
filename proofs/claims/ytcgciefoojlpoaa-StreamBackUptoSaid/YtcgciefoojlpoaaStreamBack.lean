/- The law StreamBack returns true for every list of frames: what package stream's Bytes writes is told again by its Feed, with nothing left. Its condition is the form's own bound on how much an argument holds (upto). -/
import Derived.Test.YtcgciefoojlpoaaSl
import Derived.Test.YtcgciefoojlpoaaStG
namespace Go.Proofs.Ytcgciefoojlpoaa.streamBack
open Go.ChangeShapes Go.WideShapes Go.ChangeAt Go.RowKit
open Go.ChangeMaps (open_string shut_string)
set_option linter.unusedVariables false

theorem own : ownKnob Try.prog.godebug = none := by kernel_rfl
theorem laidOut : laidOutB Try.prog = true := by kernel_rfl

theorem open_frms_u {H : Type} {enc : TypeId × Value → H} {W : World} {base : Nat} {v : Value} {d : DataW H} {ps : List MemPlace}
    (hok : Value.okWide Try.prog W .any base 22 v) (h : DataW.Trod enc Try.prog W 0 (fun _ => true) true 22 v d ps) : ∃ l, IsFrms W v l ∧ IsFrms.size l ≤ Rows.uptoBulk d :=
  (open_frms hok h).imp fun _ q => ⟨q.1, q.2.1⟩
set_option maxHeartbeats 8000000 in
theorem walk (v0 : Value) (x0 : (List Frm)) (w : World) (w0 : IsFrms w v0 x0) (b0 : IsFrms.size x0 ≤ 1048576) :
    Calls Try.prog 7 #[v0] w fun e w' => e = .returned (.bool true) ∧ Below w.heap.size w w' := by
  have hl : x0.length ≤ 1048576 := b0
  have B0 := Lib.hid w0
  obtain ⟨a0, c0, rfl, hl0, hm0, -⟩ := id w0.1
  unfold maxLen at hm0
  clear w0 b0
  go_enter Try.func7, Try.ntmps7
  go_wp2_with fail
  refine (St.live_any _).mono ?_
  rintro e w1 ⟨rfl, hb1⟩
  have HB1 := Lib.hid hb1
  clear hb1
  go_wp2_with fail
  refine (St.bytes_any x0 _ _ (B0.out.below HB1.out (Nat.le_refl _)) hl).mono ?_
  rintro e w2 (⟨hf, v2, rfl, own2, hb2⟩ | ⟨hf, rfl, hb2⟩)
  · have HF := Lib.hid hf
    have HOW2 := Lib.hid own2
    have HB2 := Lib.hid (HB1.out.trans (hb2.mono HB1.out.size))
    clear hf own2 hb2
    obtain ⟨a2, c2, hv2, -⟩ := id (HOW2.out.sl (St.bytes_wf _ HF.out))
    have HLN := Lib.hid (St.bytes_len _ HF.out)
    have HWF := Lib.hid (St.bytes_wf _ HF.out)
    have HRB := Lib.hid (St.run_bytes _ HF.out)
    generalize x0.flatMap St.byteF = zs at *
    subst hv2
    go_wp2_with fail
    refine (St.new_any w2).mono ?_
    rintro e w3 ⟨rfl, rfl⟩
    have HR3 := Lib.hid (St.rdr_new (B := w.heap.size) w2 HB2.out.size)
    have HB3 := Lib.hid (HB2.out.alloc HB2.out.size (.cells #[.int .i64 0, .int .i64 0, .slice none 0 0] 61))
    have HOW3 := Lib.hid (HOW2.out.below ((Below.refl w2.heap.size w2).alloc (Nat.le_refl _) (.cells #[.int .i64 0, .int .i64 0, .slice none 0 0] 61)) (Nat.le_refl _))
    have HLT : Hid (∀ q, (Value.slice a2 zs.length c2).ownBlock = some q → q < w2.heap.size) := Lib.hid (fun q hq => (World.ownsRow.lt HOW2.out q hq).2)
    generalize hW3 : w2.alloc (.cells #[.int .i64 0, .int .i64 0, .slice none 0 0] 61) = W3 at HR3 HB3 HOW3
    clear hW3
    by_cases h2 : 2000 < x0.length
    · have h2' : (2000 : Int) < (x0.length : Int) := by omega
      go_wp2
      go_ret
      exact ⟨rfl, HB3.out⟩
    · have h2' : (x0.length : Int) ≤ 2000 := by omega
      go_wp2_with fail
      refine (St.feed_any w.heap.size w2.heap.size St.zero none zs _ W3 HR3.out St.ok_zero (fun w' hf => (St.own_same HOW3.out (fun q hq => hf.2 q (by have := HLT.out q hq; have := HR3.out.lt; omega) (by have := HLT.out q hq; omega) (by simp))).sl HWF.out) (by have := HLN.out; omega)).mono ?_
      rintro e w4 ⟨S4, v4, rfl, r4, n4, f4, o4, d4⟩
      rw [HRB.out] at r4 o4
      simp only [] at r4 o4
      have R4 := Lib.hid r4
      have O4 := Lib.hid (o4.sl frmC_len)
      have HB4 := Lib.hid (HB3.out.trans f4.1)
      clear r4 n4 f4 o4 d4
      obtain ⟨a4, c4, rfl, -⟩ := id O4.out
      go_wp2_with fail
      refine (St.same_any x0 _ _ _ O4.out (B0.out.1.below HB4.out (Nat.le_refl _))).mono ?_
      rintro e w5 ⟨rfl, hb5⟩
      have R5 := Lib.hid (R4.out.below hb5)
      have HB5 := Lib.hid (HB4.out.trans (hb5.mono HB4.out.size))
      clear hb5
      go_wp2_with fail
      refine (St.broken_any _ _ _ _ _ R5.out).mono ?_
      rintro e w6 ⟨rfl, rfl⟩
      go_wp2_with fail
      refine (St.left_any _ _ _ _ _ R5.out St.ok_zero).mono ?_
      rintro e w6 ⟨rfl, rfl⟩
      go_wp2
      go_ret
      exact ⟨rfl, HB5.out⟩
  · have HB2 := Lib.hid (HB1.out.trans (hb2.mono HB1.out.size))
    clear hf hb2
    go_wp2_with fail
    refine (St.new_any w2).mono ?_
    rintro e w3 ⟨rfl, rfl⟩
    go_wp2
    go_ret
    exact ⟨rfl, HB2.out.alloc HB2.out.size _⟩

set_option maxRecDepth 100000 in
theorem contract (H : Type) (enc : TypeId × Value → H) (W : World) (base : Nat) (args : Array Value) (ds gs : List (DataW H)) (before : List MemPlace)
    (hval0 : ∀ (j : Nat) t v, Try.f7.params[j]? = some t → args[j]? = some v → Value.okWide Try.prog W .any base t v)
    (hW : DataW.Whole enc Try.prog Try.f7.params.toList Rows.streamBackSpec.vars false W args.toList ds gs before)
    (hk : Rows.uptoSmall H (ds ++ gs) = true) :
    Calls Try.prog 7 args W fun e W' => ∃ v, e = .returned v ∧ Rows.streamBackSpec.post enc Try.prog Try.f7 false true false false W args v W' := by
  have hval : ∀ (j : Nat) t v, Try.f7.params[j]? = some t → args[j]? = some v → Value.okWide Try.prog W .any base t v := hval0
  have hW' := hW
  obtain ⟨p, q, hA0, hV, rfl, hfz, hnd⟩ := hW
  have hA : DataW.TrodAll enc Try.prog W 0 (fun _ => true) true Try.f7.params.toList args.toList ds p := hA0
  rw [Try.params7] at hA hval
  obtain ⟨v0, vs0, d0, ds0, p0, q0, hargs, rfl, rfl, h0, r0⟩ := trodAll_cons hA
  obtain ⟨rfl, rfl, rfl⟩ := trodAll_nil r0
  obtain rfl : args = #[v0] := by cases args; simp_all
  obtain ⟨rfl, rfl⟩ := trodVars_none hV
  clear hA0 hval0
  simp only [List.append_nil] at hk
  have ub := of_decide_eq_true hk
  have u0 : Rows.uptoBulk d0 ≤ 1048576 := Nat.le_trans (bulk_mem (l := [d0]) (by simp)) ub
  clear hk ub
  have k0 := h0
  have lt0 : ∀ x ∈ p0, x.block < W.heap.size := by obtain ⟨m, hm⟩ := k0; exact DataW.trod_lt m _ _ _ hm
  obtain ⟨x0, w0, b00⟩ := open_frms_u (hval 0 22 v0 rfl rfl) k0
  have b0 : IsFrms.size x0 ≤ 1048576 := Nat.le_trans b00 u0
  refine (walk v0 x0 W w0 b0).mono fun e W' ⟨he, bel⟩ => ?_
  subst he
  exact ⟨_, rfl, _, _, _, [], _, [], hW', trodAll_mk1 (shut_bool Try.underlying4 _), (trodAll_cons_mk (Below.trod laidOut (by kernel_rfl) (of_decide_eq_true (by kernel_rfl)) k0 bel lt0) trodAll_mk0), rfl, bel.frame _, fun h => by cases h⟩

set_option maxRecDepth 100000 in
theorem lifted (os : Os) (started : os.Started) (H : Type) (enc : TypeId × Value → H) (F : Stop.Interp) :
    ReturnsInHanded {} Try.checked os 7 .any ((Rows.OpenSpec.upto Rows.streamBackSpec).pre6 enc Try.prog Try.f7 Rows.streamBackUptoRow.domain false) (((Rows.OpenSpec.upto Rows.streamBackSpec).at F).post enc Try.prog Try.f7 false true false false) := by
  refine returnsInHanded_of_cond (C := Try.checked) (s := Rows.OpenSpec.upto Rows.streamBackSpec) (k := Rows.uptoSmall) rfl own started (by kernel_rfl) Try.func7
    (OpenSpec.witness (enc := enc) (C := Try.checked) (s := Rows.OpenSpec.upto Rows.streamBackSpec) (k := Rows.uptoSmall) rfl false ⟨#[], #[.slice none 0 0], []⟩ 8 (by kernel_rfl) (by kernel_rfl) (by kernel_rfl)
      (x := ([.nil], [], [])) (by kernel_rfl) rfl (by kernel_rfl)) ?_
  intro W base args ds gs before hval hW _ hk _
  exact contract H enc W base args ds gs before hval hW hk

theorem proved : Rows.StreamBackUptoSaid :=
  OpenClaim.holds_of_cond 7 Try.f7 rfl rfl rfl rfl rfl rfl rfl ⟨rfl, rfl, rfl, rfl, rfl⟩ rfl rfl rfl rfl rfl (by kernel_rfl) Try.func7 (by kernel_rfl)
    (of_decide_eq_true (by kernel_rfl)) (by unfold Func.isWrapper; first | (rw [if_pos (by decide +kernel)]; kernel_rfl) | (rw [if_neg (by decide +kernel)]; exact ⟨rfl, rfl⟩))
    (fun os started H enc _ F => lifted os started H enc F)
end Go.Proofs.Ytcgciefoojlpoaa.streamBack
