/- The law LedgerOf returns true for every ledger and every node: package ledger's Of answers the rows that the document's own answer has. No condition. -/
import Derived.Test.YtjggbiijglmleaaSl
import Derived.Test.YtjggbiijglmleaaLedO
import Derived.Deep.QuietTactic
import Derived.BigQuiet
namespace Go.Proofs.Ytjggbiijglmleaa.ledgerOf
open Go.ChangeShapes Go.WideShapes Go.ChangeAt Go.RowKit
open Go.ChangeMaps (open_string shut_string)
set_option linter.unusedVariables false

theorem own : ownKnob Try.prog.godebug = none := by kernel_rfl
theorem laidOut : laidOutB Try.prog = true := by kernel_rfl

set_option maxHeartbeats 400000 in
theorem walk (v0 : Value) (x0 : Led) (a1 : Int) (w : World) (w0 : IsLed w v0 x0) (b0 : IsLed.fits x0) (w1 : (Lit.int .i64 a1).wf = true) :
    Calls Try.prog 6 #[v0, .int .i64 a1] w fun e w' => e = .returned (.bool true) ∧ Below w.heap.size w w' := by
  obtain ⟨vh, vl, rfl, hh, hl, hwf⟩ := id w0
  have hb8 : x0.held.length * 40 ≤ 140737488351232 := b0.1
  have hb0 : Below w.heap.size w (w.alloc (.cells (lArr x0 vh vl) 26)) := (Below.refl _ _).alloc (Nat.le_refl _) _
  have hh0 : (w.alloc (.cells (lArr x0 vh vl) 26)).heap[w.heap.size]? = some (.cells (lArr x0 vh vl) 26 (0, 0)) := heap_alloc_new _ _
  have hi0 := w0.below hb0 (Nat.le_refl _)
  have hL := Ld.ofL_le a1 x0.held
  have hm := hh.len
  unfold maxLen at hm
  clear w0 hh hl hwf b0
  go_enter Try.func6, Try.ntmps6
  go_wp2_with (refine wpList_load_row rfl 26 (.tmp 2) rfl w.heap.size rfl 26 (lArr x0 vh vl) (0, 0) _ hh0 Try.underlying26 rfl (by kernel_rfl) ?_)
  refine (Ld.of_any x0 _ a1 _ hi0 hb8).mono ?_
  rintro e w1 ⟨v1, rfl, -, hs1, hb1⟩
  have hh1 := (hb1.block w.heap.size (by simp)).trans hh0
  have hB1 := hb0.trans (hb1.mono hb0.size)
  have hi1 := hi0.below hb1 (Nat.le_refl _)
  have hz1 : w.heap.size < w1.heap.size := by have := hb1.size; simp at this; omega
  clear hh0 hi0 hb1
  go_wp2_with (refine wpList_load_row rfl 26 (.tmp 2) rfl w.heap.size rfl 26 (lArr x0 vh vl) (0, 0) _ hh1 Try.underlying26 rfl (by kernel_rfl) ?_)
  refine (Ld.rof_any x0 _ a1 _ hi1 hb8).mono ?_
  rintro e w2 ⟨v2, rfl, -, hs2, hb2⟩
  have hs12 := hs1.below hb2 (Nat.le_refl _)
  have hB2 := hB1.trans (hb2.mono hB1.size)
  clear hh1 hi1 hb2 hs1
  have hex : ∀ wf : World, IsLed (wf.alloc (.cells #[Value.int .i64 3, Value.int .i64 2, Value.int .u64 0, Value.int .u64 0, Value.int .u64 0] 44)) (.agg (lArr ⟨0, 0, [⟨3, 2, 0, 0, 0⟩], []⟩ (.slice (some ⟨wf.heap.size, 0, none⟩) 1 1) (.slice none 0 0))) ⟨0, 0, [⟨3, 2, 0, 0, 0⟩], []⟩ := fun wf => ⟨_, _, rfl, SlR.one heldC_len wf wf.heap.size rfl _ ⟨3, 2, 0, 0, 0⟩ rfl, SlR.nil _, by decide, by decide, by intro x hx; simp at hx; subst hx; exact ⟨by decide, by decide, by decide, by decide, by decide⟩, by simp⟩
  have HEX := Lib.hid hex
  have HO1 : Hid (Ld.ofL 2 [⟨3, 2, 0, 0, 0⟩] = [⟨3, 2, 0, 0, 0⟩]) := Lib.hid (by decide)
  clear hex hb8 hz1
  generalize Ld.ofL a1 x0.held = l5 at *
  rcases hs12.cases with ⟨a, cap, rfl, hnil⟩ | ⟨b, off, cap, rfl, h0, hlc, hcm, hlt, hc⟩
  · subst hnil
    obtain ⟨a2, cap2, rfl, -⟩ := hs2
    clear hs12 hL
    go_wp2
    refine wp_loop_rounds 1 ?_
    rw [rounds_succ]
    go_wp2_with fail
    refine (Ld.of_any ⟨0, 0, [⟨3, 2, 0, 0, 0⟩], []⟩ _ 2 _ (HEX.out w2) (by decide)).mono ?_
    rintro e w4 ⟨v4, rfl, -, hs4, hb4⟩
    rw [HO1.out] at hs4
    obtain ⟨a4, cap4, rfl, -⟩ := hs4
    go_wp2
    go_ret
    exact ⟨rfl, (hB2.alloc (hB2).size _).trans (hb4.mono (Nat.le_trans (hB2).size (by simp)))⟩
  · rcases hs2.cases with ⟨a2, cap2, rfl, hnil⟩ | ⟨b2, off2, cap2, rfl, -, hlc2, hcm2, hlt2, hc2⟩
    · rw [hnil] at h0; simp at h0
    have HC := Lib.hid hc
    have HC2 := Lib.hid hc2
    clear hs12 hs2 hc hc2
    go_wp2
    go_loopw [21] (fun i wr => ∃ k : Nat, k ≤ l5.length ∧ i = .int .i64 k ∧ Below w2.heap.size w2 wr) (fun i _ => l5.length - (intOf i).toNat)
    case atStart => exact ⟨0, Nat.zero_le _, rfl, Below.refl _ _⟩
    case round =>
      obtain ⟨k, hk, rfl, hb⟩ := hrel
      by_cases hlt3 : k < l5.length
      · have hce := fun j u hu => (hb.cell (p := ⟨b, off + (k * 5 + j), none⟩) hlt).trans (HC.out k _ (Ld.rgetD hlt3) j u hu)
        have hcf := fun j u hu => (hb.cell (p := ⟨b2, off2 + (k * 5 + j), none⟩) hlt2).trans (HC2.out k _ (Ld.rgetD hlt3) j u hu)
        generalize l5[k] = x at *
        obtain ⟨x0, x1, x2, x3, x4⟩ := Ld.held_cells hce
        obtain ⟨y0, y1, y2, y3, y4⟩ := Ld.held_cells hcf
        clear hce hcf
        have hkz : (k : Int) < (l5.length : Int) := by omega
        go_wp2
        go_quiet (fail)
        go_wp2
        go_roundw
        case rel => exact ⟨k + 1, by omega, by go_num, hb.trans (Ld.below_drewN _ _)⟩
        case measure => simp [intOf]; omega
      · obtain rfl : k = l5.length := by omega
        have hBr := hB2.trans (hb.mono hB2.size)
        go_wp2_with fail
        refine (Ld.of_any ⟨0, 0, [⟨3, 2, 0, 0, 0⟩], []⟩ _ 2 _ (HEX.out wr) (by decide)).mono ?_
        rintro e w4 ⟨v4, rfl, -, hs4, hb4⟩
        rw [HO1.out] at hs4
        obtain ⟨a4, cap4, rfl, -⟩ := hs4
        go_wp2
        go_ret
        exact ⟨rfl, (hBr.alloc (hBr).size _).trans (hb4.mono (Nat.le_trans (hBr).size (by simp)))⟩

set_option maxRecDepth 100000 in
theorem contract (H : Type) (enc : TypeId × Value → H) (W : World) (base : Nat) (args : Array Value) (ds gs : List (DataW H)) (before : List MemPlace)
    (hval0 : ∀ (j : Nat) t v, Try.f6.params[j]? = some t → args[j]? = some v → Value.okWide Try.prog W .any base t v)
    (hW : DataW.Whole enc Try.prog Try.f6.params.toList Rows.ledgerOfSpec.vars false W args.toList ds gs before)
    (hsz0 : (DataW.weightsEach Try.prog (Try.f6.params.toList ++ Rows.ledgerOfSpec.plain.varTypes Try.prog) (ds ++ gs)).all (· ≤ reachBytes) = true) :
    Calls Try.prog 6 args W fun e W' => ∃ v, e = .returned v ∧ Rows.ledgerOfSpec.post enc Try.prog Try.f6 false true false false W args v W' := by
  have hval : ∀ (j : Nat) t v, Try.f6.params[j]? = some t → args[j]? = some v → Value.okWide Try.prog W .any base t v := hval0
  have hW' := hW
  obtain ⟨p, q, hA0, hV, rfl, hfz, hnd⟩ := hW
  have hA : DataW.TrodAll enc Try.prog W 0 (fun _ => true) true Try.f6.params.toList args.toList ds p := hA0
  rw [Try.params6] at hA hval
  have hsz := hsz0
  rw [Try.params6] at hsz
  obtain ⟨v0, vs0, d0, ds0, p0, q0, hargs, rfl, rfl, h0, r0⟩ := trodAll_cons hA
  obtain ⟨v1, vs1, d1, ds1, p1, q1, rfl, rfl, rfl, h1, r1⟩ := trodAll_cons r0
  obtain ⟨rfl, rfl, rfl⟩ := trodAll_nil r1
  obtain rfl : args = #[v0, v1] := by cases args; simp_all
  obtain ⟨rfl, rfl⟩ := trodVars_none hV
  clear hA0 hval0
  have k0 := h0
  have lt0 : ∀ x ∈ p0, x.block < W.heap.size := by obtain ⟨m, hm⟩ := k0; exact DataW.trod_lt m _ _ _ hm
  have k1 := h1
  have lt1 : ∀ x ∈ p1, x.block < W.heap.size := by obtain ⟨m, hm⟩ := k1; exact DataW.trod_lt m _ _ _ hm
  obtain ⟨x0, w0, -, s0⟩ := open_led (hval 0 26 v0 rfl rfl) k0
  have b0 : IsLed.fits x0 := s0 (wt_arg hsz (j := 0) rfl rfl)
  obtain ⟨a1, rfl, -, -, w1⟩ := open_int Try.underlying3 (hval 1 3 v1 rfl rfl) h1
  refine (walk v0 x0 a1 W w0 b0 w1).mono fun e W' ⟨he, bel⟩ => ?_
  subst he
  exact ⟨_, rfl, _, _, _, [], _, [], hW', trodAll_mk1 (shut_bool Try.underlying4 _), (trodAll_cons_mk (Below.trod laidOut (by kernel_rfl) (of_decide_eq_true (by kernel_rfl)) k0 bel lt0) (trodAll_cons_mk (Below.trod laidOut (by kernel_rfl) (of_decide_eq_true (by kernel_rfl)) k1 bel lt1) trodAll_mk0)), rfl, bel.frame _, fun h => by cases h⟩

set_option maxRecDepth 100000 in
theorem lifted (os : Os) (started : os.Started) (H : Type) (enc : TypeId × Value → H) :
    ReturnsInHanded {} Try.checked os 6 .any (Rows.ledgerOfSpec.pre6 enc Try.prog Try.f6 Rows.ledgerOfRow.domain false) (Rows.ledgerOfSpec.post enc Try.prog Try.f6 false true false false) := by
  refine returnsInHanded_of_change_sized (C := Try.checked) own started (by kernel_rfl) Try.func6
    (ChangeSpec.witness6 (enc := enc) (C := Try.checked) false ⟨#[], #[.agg #[.int .i64 0, .int .u64 0, .slice none 0 0, .slice none 0 0], .int .i64 0], []⟩ 8 (by kernel_rfl) (by kernel_rfl) (by kernel_rfl) (by kernel_rfl)) ?_
  intro W base args ds gs before hval0 hW hcnd hsz _
  exact contract H enc W base args ds gs before hval0 hW hsz

theorem proved : Rows.LedgerOfSaid :=
  OpenClaim.holds_of_wide 6 Try.f6 rfl rfl rfl rfl rfl rfl rfl ⟨rfl, rfl, rfl, rfl, rfl⟩ rfl rfl rfl rfl rfl (by kernel_rfl) Try.func6 (by kernel_rfl)
    (of_decide_eq_true (by kernel_rfl)) (by unfold Func.isWrapper; first | (rw [if_pos (by decide +kernel)]; kernel_rfl) | (rw [if_neg (by decide +kernel)]; exact ⟨rfl, rfl⟩))
    (fun os started H enc _ => lifted os started H enc)
end Go.Proofs.Ytjggbiijglmleaa.ledgerOf
