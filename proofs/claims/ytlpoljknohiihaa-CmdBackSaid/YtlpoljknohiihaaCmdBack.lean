/- The law CmdBack returns true for every command and whatever bytes stand behind it: what was written is read as what it was. No condition. -/
import Derived.Test.YtlpoljknohiihaaSl
import Derived.Test.YtlpoljknohiihaaCmdO
namespace Go.Proofs.Ytlpoljknohiihaa.cmdBack
open Go.ChangeShapes Go.WideShapes Go.ChangeAt Go.RowKit
open Go.ChangeMaps (open_string shut_string)
set_option linter.unusedVariables false

theorem own : ownKnob Try.prog.godebug = none := by kernel_rfl
theorem laidOut : laidOutB Try.prog = true := by kernel_rfl

theorem nil_u8 (w : World) : Sl .u8 w (.slice none 0 0) [] := ⟨none, 0, rfl, Nat.le_refl _, Nat.zero_le _, by simp, .inl ⟨rfl, rfl, rfl⟩⟩
set_option maxHeartbeats 400000 in
theorem walk (v0 : Value) (x0 : Cmd) (v1 : Value) (z1 : List Int) (w : World) (w0 : IsCmd w v0 x0) (b0 : IsCmd.fits x0) (w1 : Sl .u8 w v1 z1) (b1 : z1.length * 1 ≤ 140737488351232) :
    Calls Try.prog 6 #[v0, v1] w fun e w' => e = .returned (.bool true) ∧ Below w.heap.size w w' := by
  obtain ⟨vn, rfl, hsl, hwf⟩ := id w0
  have hb0 : Below w.heap.size w (w.alloc (.cells (Cm.cArr x0 vn) 25)) := (Below.refl _ _).alloc (Nat.le_refl _) _
  have hh0 : (w.alloc (.cells (Cm.cArr x0 vn) 25)).heap[w.heap.size]? = some (.cells (Cm.cArr x0 vn) 25 (0, 0)) := heap_alloc_new _ _
  have HH0 := Lib.hid hh0
  have HB0 := Lib.hid hb0
  have HI := Lib.hid (fun w' (hb : Below w.heap.size w w') => w0.below hb (Nat.le_refl _))
  have HZ := Lib.hid (fun w' (hb : Below w.heap.size w w') => w1.below hb (Nat.le_refl _))
  have HW := Lib.hid hwf
  clear hh0 hb0 hsl hwf w0 w1
  go_enter Try.func6, Try.ntmps6
  go_wp2_with fail
  refine (Cm.live_any _).mono ?_
  rintro e u1 ⟨rfl, hb1⟩
  have hB1 : Below w.heap.size w u1 := HB0.out.trans (hb1.mono HB0.out.size)
  have hh1 := (hb1.block w.heap.size (by simp)).trans HH0.out
  have hz1 : w.heap.size < u1.heap.size := by have := hb1.size; simp at this; omega
  go_wp2_with (refine wpList_load_rowG rfl 25 (.tmp 2) rfl w.heap.size rfl 25 (Cm.cArr x0 vn) (0, 0) _ hh1 Try.underlying25 rfl (by kernel_rfl) ?_)
  refine (Cm.encode_all x0 _ _ (HI.out _ hB1)).mono ?_
  rintro e u2 ⟨v2, rfl, hs2, hb2⟩
  have hB2 : Below w.heap.size w u2 := hB1.trans (hb2.mono hB1.size)
  have hh2 := (hb2.block w.heap.size hz1).trans hh1
  have hz2 : w.heap.size < u2.heap.size := by have := hb2.size; omega
  clear hb1 hb2 hh1 hB1
  cases hc : Cm.chkC x0 with
  | false =>
    have hnil : Cm.encB x0 = [] := by unfold Cm.encB; rw [hc]; rfl
    rw [hnil] at hs2
    have HC : Hid (Cm.cErr (Cm.chkC x0) = 40) := Lib.hid (by rw [hc]; rfl)
    obtain ⟨a2, cap2, rfl, -⟩ := id hs2
    clear hc hnil
    go_wp2_with (refine wpList_load_rowG rfl 25 (.tmp 2) rfl w.heap.size rfl 25 (Cm.cArr x0 vn) (0, 0) _ hh2 Try.underlying25 rfl (by kernel_rfl) ?_)
    refine (Cm.check_any x0 _ _ (HI.out _ hB2)).mono ?_
    rintro e u3 ⟨rfl, hb3⟩
    rw [HC.out]
    go_wp2
    go_ret
    exact ⟨rfl, hB2.trans (hb3.mono hB2.size)⟩
  | true =>
    have henc : Cm.encB x0 = Cm.encL x0 := by unfold Cm.encB; rw [hc]; rfl
    rw [henc] at hs2
    have hlen := Cm.encL_len HW.out hc
    have HD := Lib.hid (Cm.dec_enc HW.out hc z1)
    have HL := Lib.hid hlen.2
    have hl := hlen.1
    clear hc henc hlen
    obtain ⟨a2, cap2, rfl, -⟩ := id hs2
    generalize hxs : Cm.encL x0 = xs at *
    clear hxs
    have hl0 : ([] : List Int).length + xs.length ≤ 140737488355328 := by simp; omega
    have hl1 : ([] ++ xs).length + z1.length ≤ 140737488355328 := by simp; omega
    go_wp2_with (first
      | (at_builtin; refine app8 rfl (.const (.slice none 0 0)) (.tmp 31) rfl u2.heap.size _ _ rfl (Own.nil _ _) _ _ rfl hs2 hl0 (Nat.le_refl _) ?_; intro v3 u3 hown3 hb3)
      | (at_builtin; refine app8 rfl (.tmp 32) (.tmp 33) rfl u2.heap.size _ _ rfl hown3 _ _ rfl (HZ.out _ (hB2.trans (hb3.mono hB2.size))) hl1 hb3.size ?_; intro v4 u4 hown4 hb4))
    have hb24 : Below u2.heap.size u2 u4 := hb3.trans hb4
    have hB4 : Below w.heap.size w u4 := hB2.trans (hb24.mono hB2.size)
    have hh4 := (hb24.block w.heap.size hz2).trans hh2
    have hz4 := hb24.size
    rw [List.nil_append] at hown4
    have hs4 := hown4.sl (wf_app HL.out (HZ.out _ hB4).wf)
    clear hb3 hb4 hown3 hown4 hl0 hl1
    refine (Cm.decode_any _ _ _ hs4).mono ?_
    rintro e u5 ⟨v5, rfl, hi5, hb5⟩
    rw [HD.out] at hi5 ⊢
    obtain ⟨vn5, rfl, hsl5, hwf5⟩ := id hi5
    have hB5 : Below w.heap.size w u5 := hB4.trans (hb5.mono hB4.size)
    have hh5 := (hb5.block w.heap.size (by omega)).trans hh4
    have hz5 := hb5.size
    have hb6 : Below u5.heap.size u5 (u5.alloc (.cells (Cm.cArr x0 vn5) 25)) := (Below.refl _ _).alloc (Nat.le_refl _) _
    have hB6 : Below w.heap.size w (u5.alloc (.cells (Cm.cArr x0 vn5) 25)) := hB5.trans (hb6.mono hB5.size)
    have hh6 := (hb6.block w.heap.size (by omega)).trans hh5
    have hg6 : (u5.alloc (.cells (Cm.cArr x0 vn5) 25)).heap[u5.heap.size]? = some (.cells (Cm.cArr x0 vn5) 25 (0, 0)) := heap_alloc_new _ _
    have hi6 := hi5.below hb6 (Nat.le_refl _)
    have hi0 := HI.out _ hB6
    obtain ⟨an5, cp5, rfl, -⟩ := id hsl5
    clear hb5 hi5 hsl5 hwf5 hs4 hs2
    go_wp2_with (first
      | (refine wpList_load_rowG rfl 25 (.tmp 2) rfl w.heap.size rfl 25 (Cm.cArr x0 vn) (0, 0) _ hh6 Try.underlying25 rfl (by kernel_rfl) ?_)
      | (refine wpList_load_rowG rfl 25 (.tmp 8) rfl u5.heap.size rfl 25 (Cm.cArr x0 (.slice an5 x0.nodes.length cp5)) (0, 0) _ hg6 Try.underlying25 rfl (by kernel_rfl) ?_)
      | (go_at_call 12; refine (Cm.same_true x0 _ _ _ hi0 hi6).mono ?_; rintro e u7 ⟨rfl, hb7⟩))
    go_ret
    exact ⟨rfl, hB6.trans (hb7.mono hB6.size)⟩

set_option maxRecDepth 100000 in
theorem contract (H : Type) (enc : TypeId × Value → H) (W : World) (base : Nat) (args : Array Value) (ds gs : List (DataW H)) (before : List MemPlace)
    (hval0 : ∀ (j : Nat) t v, Try.f6.params[j]? = some t → args[j]? = some v → Value.okWide Try.prog W .any base t v)
    (hW : DataW.Whole enc Try.prog Try.f6.params.toList Rows.cmdBackSpec.vars false W args.toList ds gs before)
    (hsz0 : (DataW.weightsEach Try.prog (Try.f6.params.toList ++ Rows.cmdBackSpec.plain.varTypes Try.prog) (ds ++ gs)).all (· ≤ reachBytes) = true) :
    Calls Try.prog 6 args W fun e W' => ∃ v, e = .returned v ∧ Rows.cmdBackSpec.post enc Try.prog Try.f6 false true false false W args v W' := by
  have hval : ∀ (j : Nat) t v, Try.f6.params[j]? = some t → args[j]? = some v → Value.okWide Try.prog W .any base t v := hval0
  have hW' := hW
  obtain ⟨p, q, hA0, hV, rfl, hfz, hnd⟩ := hW
  have hA : DataW.TrodAll enc Try.prog W 0 (fun _ => true) true Try.f6.params.toList args.toList ds p := hA0
  rw [Try.params6] at hA hval
  have hsz := hsz0
  rw [Try.params6] at hsz
  obtain ⟨v0, vs0, d0, ds0, p0, q0, hargs, rfl, rfl, h0, r0⟩ := trodAll_cons hA
  obtain ⟨v1, vs1, d1, ds1, p1, q1, rfl, rfl, rfl, h1, r1⟩ := trodAll_cons r0
  obtain ⟨rfl, rfl, rfl⟩ := trodAll_nil r1
  obtain rfl : args = #[v0, v1] := by cases args; simp_all
  obtain ⟨rfl, rfl⟩ := trodVars_none hV
  clear hA0 hval0
  have k0 := h0
  have lt0 : ∀ x ∈ p0, x.block < W.heap.size := by obtain ⟨m, hm⟩ := k0; exact DataW.trod_lt m _ _ _ hm
  have k1 := h1
  have lt1 : ∀ x ∈ p1, x.block < W.heap.size := by obtain ⟨m, hm⟩ := k1; exact DataW.trod_lt m _ _ _ hm
  obtain ⟨x0, w0, -, s0⟩ := open_cmd (hval 0 25 v0 rfl rfl) k0
  have b0 : IsCmd.fits x0 := s0 (wt_arg hsz (j := 0) rfl rfl)
  obtain ⟨z1, w1, u10, b10⟩ := open_sl Try.underlying31 Try.underlying5 (by kernel_rfl) (okWide_slice Try.underlying31 (hval 1 31 v1 rfl rfl)).choose_spec.choose_spec.choose_spec k1
  have b1 : z1.length * 1 ≤ 140737488351232 := by
    have := b10 hsz (j := 1) rfl rfl
    rw [show Try.prog.bytesOf 5 = 1 from by kernel_rfl] at this
    simpa [reachBytes] using this
  refine (walk v0 x0 v1 z1 W w0 b0 w1 b1).mono fun e W' ⟨he, bel⟩ => ?_
  subst he
  exact ⟨_, rfl, _, _, _, [], _, [], hW', trodAll_mk1 (shut_bool Try.underlying4 _), (trodAll_cons_mk (Below.trod laidOut (by kernel_rfl) (of_decide_eq_true (by kernel_rfl)) k0 bel lt0) (trodAll_cons_mk (Below.trod laidOut (by kernel_rfl) (of_decide_eq_true (by kernel_rfl)) k1 bel lt1) trodAll_mk0)), rfl, bel.frame _, fun h => by cases h⟩

set_option maxRecDepth 100000 in
theorem lifted (os : Os) (started : os.Started) (H : Type) (enc : TypeId × Value → H) :
    ReturnsInHanded {} Try.checked os 6 .any (Rows.cmdBackSpec.pre6 enc Try.prog Try.f6 Rows.cmdBackRow.domain false) (Rows.cmdBackSpec.post enc Try.prog Try.f6 false true false false) := by
  refine returnsInHanded_of_change_sized (C := Try.checked) own started (by kernel_rfl) Try.func6
    (ChangeSpec.witness6 (enc := enc) (C := Try.checked) false ⟨#[], #[.agg #[.int .i64 0, .int .i64 0, .int .i64 0, .slice none 0 0, .int .u64 0, .int .u64 0, .int .u64 0, .int .u64 0], .slice none 0 0], []⟩ 8 (by kernel_rfl) (by kernel_rfl) (by kernel_rfl) (by kernel_rfl)) ?_
  intro W base args ds gs before hval0 hW hcnd hsz _
  exact contract H enc W base args ds gs before hval0 hW hsz

theorem proved : Rows.CmdBackSaid :=
  OpenClaim.holds_of_wide 6 Try.f6 rfl rfl rfl rfl rfl rfl rfl ⟨rfl, rfl, rfl, rfl, rfl⟩ rfl rfl rfl rfl rfl (by kernel_rfl) Try.func6 (by kernel_rfl)
    (of_decide_eq_true (by kernel_rfl)) (by unfold Func.isWrapper; first | (rw [if_pos (by decide +kernel)]; kernel_rfl) | (rw [if_neg (by decide +kernel)]; exact ⟨rfl, rfl⟩))
    (fun os started H enc _ => lifted os started H enc)
end Go.Proofs.Ytlpoljknohiihaa.cmdBack
