/- The law LedgerOthers returns true for every limit, every list of commands, every command and every node: a request of another node leaves a node's rows as they were. No condition. -/
import Derived.Test.YtlkmdoddgfmnbaaSl
import Derived.Test.YtlkmdoddgfmnbaaLwA
import Derived.Deep.QuietTactic
import Derived.BigQuiet
namespace Go.Proofs.Ytlkmdoddgfmnbaa.ledgerOthers
open Go.ChangeShapes Go.WideShapes Go.ChangeAt Go.RowKit
open Go.ChangeMaps (open_string shut_string)
set_option linter.unusedVariables false

theorem own : ownKnob Try.prog.godebug = none := by kernel_rfl
theorem laidOut : laidOutB Try.prog = true := by kernel_rfl

set_option maxHeartbeats 4000000 in
theorem walk (a0 : Int) (v1 : Value) (x1 : (List Ent)) (v2 : Value) (x2 : Ent) (a3 : Int) (w : World) (w0 : (Lit.int .i64 a0).wf = true) (w1 : IsLog w v1 x1) (w2 : Hd.IsEnt w v2 x2) (w3 : (Lit.int .i64 a3).wf = true) :
    Calls Try.prog 7 #[.int .i64 a0, v1, v2, .int .i64 a3] w fun e w' => e = .returned (.bool true) ∧ Below w.heap.size w w' := by
  obtain ⟨vn, rfl, hsl, hxw⟩ := id w2
  obtain ⟨ar, cr, hvn, -⟩ := id hsl
  subst hvn
  have HW1 := Lib.hid w1
  have HW0 := Lib.hid w0
  have HXW := Lib.hid hxw
  have hb0 : Below w.heap.size w (w.alloc (.cells (La.eA x2 (.slice ar x2.cmd.nodes.length cr)) 49)) := (Below.refl _ _).alloc (Nat.le_refl _) _
  have HC0 : Hid (IsCmd w (.agg (La.cA x2.cmd (.slice ar x2.cmd.nodes.length cr))) x2.cmd) := Lib.hid ⟨_, rfl, hsl, hxw.2⟩
  have hop0 : (w.alloc (.cells (La.eA x2 (.slice ar x2.cmd.nodes.length cr)) 49)).heap[w.heap.size]? = some (.cells (La.eA x2 (.slice ar x2.cmd.nodes.length cr)) 49 (0, 0)) := heap_alloc_new _ _
  have HB0 := Lib.hid hb0
  have HOP0 := Lib.hid hop0
  clear w0 w1 w2 hsl hxw hb0 hop0
  go_enter Try.func7, Try.ntmps7
  go_wp2_with fail
  refine (La.grants_any _).mono ?_
  rintro e U1 ⟨rfl, hb1⟩
  have HB1 := Lib.hid (HB0.out.trans (hb1.mono HB0.out.size))
  have HOP1 := Lib.hid ((hb1.block _ (La.heap_lt HOP0.out)).trans HOP0.out)
  clear hb1
  go_wp2_with fail
  refine (La.play_any a0 v1 x1 _ HW0.out (HW1.out.below HB1.out (Nat.le_refl _))).mono ?_
  rintro e U2 ⟨m, vh, vl, rfl, hi, hok, -, hb2⟩
  obtain ⟨c1, k1, c2, k2, rfl, rfl⟩ := La.led_forms hi
  obtain ⟨U3, hU3, hb3, hR3, hz3, hs3⟩ := La.boxL U2 m (.slice c1 m.held.length k1) (.slice c2 m.last.length k2)
  have HS3 := Lib.hid hs3
  have HR3 := Lib.hid hR3
  have HOK := Lib.hid hok
  have HI3 := Lib.hid (hi.below hb3 (Nat.le_refl _))
  have HB3 := Lib.hid (HB1.out.trans ((hb2.mono HB1.out.size).trans (hb3.mono (Nat.le_trans HB1.out.size hb2.size))))
  have HOP3 := Lib.hid ((hb3.block _ (Nat.lt_of_lt_of_le (La.heap_lt HOP1.out) hb2.size)).trans ((hb2.block _ (La.heap_lt HOP1.out)).trans HOP1.out))
  have HC3 := Lib.hid (HC0.out.below HB3.out (Nat.le_refl _))
  obtain ⟨d0, d1, d2, d3, d4, d5, d6, d7, d8⟩ := La.op_cells HOP3.out
  have HWF : Hid m.wf := Lib.hid (by obtain ⟨p1, p2, -, -, -, hwf⟩ := id hi; exact hwf)
  clear hi hok hb2 hb3 hR3 hz3 hs3
  go_wp2_with (first
    | (with_reducible refine wpList_store_row rfl 26 (.tmp 10) (.tmp 23) rfl U2.heap.size (lArr m (.slice c1 m.held.length k1) (.slice c2 m.last.length k2)) rfl rfl 26 _ HS3.out (by kernel_rfl) rfl (Ld.lArr_one _ _ _ _ _ _ _) ?_)
    | (with_reducible refine wpList_load_row rfl 26 (.tmp 10) rfl U2.heap.size rfl 26 (lArr m (.slice c1 m.held.length k1) (.slice c2 m.last.length k2)) (0, 0) _ HR3.out Try.underlying26 rfl (by kernel_rfl) ?_))
  refine (La.apply_any m _ _ x2.term x2.cmd _ HI3.out HC3.out HXW.out.1).mono ?_
  rintro e U4 ⟨vh5, vl5, rfl, h1, h2, -, hwf5, hb4⟩
  have hz := La.err_cases HOK.out x2.term x2.cmd
  have HOK5 : Hid (La.errL m x2.term x2.cmd = 0 → La.LedP (La.applyL m x2.term x2.cmd) ∧ (x2.cmd.kind ≠ 6 → x2.cmd.node ≠ a3 → Ld.ofL a3 (La.applyL m x2.term x2.cmd).held = Ld.ofL a3 m.held)) := Lib.hid (fun h0 => by
    obtain ⟨g1, g2, g3⟩ := La.err_zero.1 h0
    have := La.do_ok HOK.out HWF.out HXW.out.2 g2 g3
    unfold La.applyL
    rw [if_pos h0]
    exact ⟨this.1, fun p q => La.do_others p q⟩)
  generalize La.applyL m x2.term x2.cmd = m5 at *
  generalize La.answerL m x2.term x2.cmd = b5 at *
  generalize La.errL m x2.term x2.cmd = z5 at *
  obtain ⟨a4, c4, hv4, -⟩ := id (h2.sl lastC_len)
  subst hv4
  obtain ⟨ah, c3, hv3, -⟩ := id (h1.sl heldC_len)
  subst hv3
  obtain ⟨U5, hU5, hb5, hR5, hA5, hz5, hs1, hs2⟩ := La.boxed U4 m5 b5 (.slice ah m5.held.length c3) (.slice a4 m5.last.length c4)
  have HS1 := Lib.hid hs1
  have HS2 := Lib.hid hs2
  have HR5 := Lib.hid hR5
  have HB35 := Lib.hid (hb4.trans (hb5.mono hb4.size))
  have HB5 := Lib.hid (HB3.out.trans (HB35.out.mono HB3.out.size))
  have HI5 := Lib.hid (HI3.out.below HB35.out (Nat.le_refl _))
  have HJ5 : Hid (IsLed U5 (.agg (lArr m5 (.slice ah m5.held.length c3) (.slice a4 m5.last.length c4))) m5) := Lib.hid (La.applied_led (w := U3) ((h1.below hb5 (Nat.le_refl _))) ((h2.below hb5 (Nat.le_refl _))) hwf5)
  have HQ5 := Lib.hid ((HB35.out.block _ (La.heap_lt HR3.out)).trans HR3.out)
  have hop5 := (HB35.out.block _ (La.heap_lt HOP3.out)).trans HOP3.out
  clear d0 d1 d2 d3 d4 d5 d6 d7 d8
  obtain ⟨d0, d1, d2, d3, d4, d5, d6, d7, d8⟩ := La.op_cells hop5
  clear h1 h2 hwf5 hb4 hb5 hR5 hA5 hz5 hs1 hs2 hop5
  rcases hz with ⟨rfl, -, -⟩ | ⟨rfl, -⟩ | ⟨rfl, -⟩
  · obtain ⟨hok5, hof⟩ := HOK5.out rfl
    have HJK := Lib.hid hok5
    have HOF := Lib.hid hof
    clear hok5 hof
    by_cases h6 : x2.cmd.kind = 6
    · have e6 : (x2.cmd.kind == 6) = true := beq_iff_eq.2 h6
      clear h6
      go_wp2_with (first
        | (with_reducible refine wpList_store_row rfl 26 (.tmp 12) (.tmp 32) rfl U4.heap.size (lArr m5 (.slice ah m5.held.length c3) (.slice a4 m5.last.length c4)) rfl rfl 26 _ HS1.out (by kernel_rfl) rfl (Ld.lArr_one _ _ _ _ _ _ _) ?_)
        | (with_reducible refine wpList_store_row rfl 33 (.tmp 13) (.tmp 33) rfl (U4.heap.size + 1) (La.aA b5) rfl rfl 33 _ HS2.out (by kernel_rfl) rfl (La.ans_one _ _ _) ?_))
      go_ret
      exact ⟨rfl, HB5.out⟩
    · have e6 : (x2.cmd.kind == 6) = false := beq_eq_false_iff_ne.2 h6
      by_cases hn : x2.cmd.node = a3
      · have en : (x2.cmd.node == a3) = true := beq_iff_eq.2 hn
        clear h6 hn
        go_wp2_with (first
          | (with_reducible refine wpList_store_row rfl 26 (.tmp 12) (.tmp 32) rfl U4.heap.size (lArr m5 (.slice ah m5.held.length c3) (.slice a4 m5.last.length c4)) rfl rfl 26 _ HS1.out (by kernel_rfl) rfl (Ld.lArr_one _ _ _ _ _ _ _) ?_)
          | (with_reducible refine wpList_store_row rfl 33 (.tmp 13) (.tmp 33) rfl (U4.heap.size + 1) (La.aA b5) rfl rfl 33 _ HS2.out (by kernel_rfl) rfl (La.ans_one _ _ _) ?_))
        go_ret
        exact ⟨rfl, HB5.out⟩
      · have en : (x2.cmd.node == a3) = false := beq_eq_false_iff_ne.2 hn
        have HEQ := Lib.hid (HOF.out h6 hn)
        clear h6 hn
        go_wp2_with (first
          | (with_reducible refine wpList_store_row rfl 26 (.tmp 12) (.tmp 32) rfl U4.heap.size (lArr m5 (.slice ah m5.held.length c3) (.slice a4 m5.last.length c4)) rfl rfl 26 _ HS1.out (by kernel_rfl) rfl (Ld.lArr_one _ _ _ _ _ _ _) ?_)
          | (with_reducible refine wpList_store_row rfl 33 (.tmp 13) (.tmp 33) rfl (U4.heap.size + 1) (La.aA b5) rfl rfl 33 _ HS2.out (by kernel_rfl) rfl (La.ans_one _ _ _) ?_)
          | (with_reducible refine wpList_load_row rfl 26 (.tmp 10) rfl U2.heap.size rfl 26 (lArr m (.slice c1 m.held.length k1) (.slice c2 m.last.length k2)) (0, 0) _ HQ5.out Try.underlying26 rfl (by kernel_rfl) ?_))
        refine (Ld.of_any m _ a3 _ HI5.out (La.led_fits HOK.out).1).mono ?_
        rintro e U6 ⟨v6, rfl, -, hs6, hb6⟩
        have HR6 := Lib.hid ((hb6.block _ (La.heap_lt HR5.out)).trans HR5.out)
        have HJ6 := Lib.hid (HJ5.out.below hb6 (Nat.le_refl _))
        have HB6 := Lib.hid (HB5.out.trans (hb6.mono HB5.out.size))
        clear hb6 d0 d1 d2 d3 d4 d5 d6 d7 d8
        go_wp2_with ((with_reducible refine wpList_load_row rfl 26 (.tmp 12) rfl U4.heap.size rfl 26 (lArr m5 (.slice ah m5.held.length c3) (.slice a4 m5.last.length c4)) (0, 0) _ HR6.out Try.underlying26 rfl (by kernel_rfl) ?_))
        refine (Ld.of_any m5 _ a3 _ HJ6.out (La.led_fits HJK.out).1).mono ?_
        rintro e U7 ⟨v7, rfl, -, hs7, hb7⟩
        rw [HEQ.out] at hs7
        have hs67 := hs6.below hb7 (Nat.le_refl _)
        have hB7 := HB6.out.trans (hb7.mono HB6.out.size)
        have hm := hs67.len
        unfold maxLen at hm
        clear hs6 hb7 HEQ HOF HOK5
        generalize Ld.ofL a3 m.held = l5 at *
        rcases hs67.cases with ⟨a, cap, rfl, hnil⟩ | ⟨b, off, cap, rfl, h0, hlc, hcm, hlt, hc⟩
        · subst hnil
          obtain ⟨a2, cap2, rfl, -⟩ := hs7
          clear hs67
          go_wp2
          refine wp_loop_rounds 1 ?_
          rw [rounds_succ]
          go_wp2
          go_ret
          exact ⟨rfl, hB7⟩
        · rcases hs7.cases with ⟨a2, cap2, rfl, hnil⟩ | ⟨b2, off2, cap2, rfl, -, hlc2, hcm2, hlt2, hc2⟩
          · rw [hnil] at h0; simp at h0
          have HC := Lib.hid hc
          have HC2 := Lib.hid hc2
          clear hs67 hs7 hc hc2
          go_wp2
          go_loopw [67] (fun i wr => ∃ k : Nat, k ≤ l5.length ∧ i = .int .i64 k ∧ Below U7.heap.size U7 wr) (fun i _ => l5.length - (intOf i).toNat)
          case atStart => exact ⟨0, Nat.zero_le _, rfl, Below.refl _ _⟩
          case round =>
            obtain ⟨k, hk, rfl, hb⟩ := hrel
            by_cases hlt3 : k < l5.length
            · have hce := fun j u hu => (hb.cell (p := ⟨b, off + (k * 5 + j), none⟩) hlt).trans (HC.out k _ (Ld.rgetD hlt3) j u hu)
              have hcf := fun j u hu => (hb.cell (p := ⟨b2, off2 + (k * 5 + j), none⟩) hlt2).trans (HC2.out k _ (Ld.rgetD hlt3) j u hu)
              generalize l5[k] = x at *
              obtain ⟨x0, x1, x2, x3, x4⟩ := Ld.held_cells hce
              obtain ⟨y0, y1, y2, y3, y4⟩ := Ld.held_cells hcf
              clear hce hcf
              have hkz : (k : Int) < (l5.length : Int) := by omega
              go_wp2
              go_quiet (fail)
              go_wp2
              go_roundw
              case rel => exact ⟨k + 1, by omega, by go_num, hb.trans (Ld.below_drewN _ _)⟩
              case measure => simp [intOf]; omega
            · obtain rfl : k = l5.length := by omega
              have hBr := hB7.trans (hb.mono hB7.size)
              go_wp2
              go_ret
              exact ⟨rfl, hBr⟩
  · go_wp2_with (first
      | (with_reducible refine wpList_store_row rfl 26 (.tmp 12) (.tmp 32) rfl U4.heap.size (lArr m5 (.slice ah m5.held.length c3) (.slice a4 m5.last.length c4)) rfl rfl 26 _ HS1.out (by kernel_rfl) rfl (Ld.lArr_one _ _ _ _ _ _ _) ?_)
      | (with_reducible refine wpList_store_row rfl 33 (.tmp 13) (.tmp 33) rfl (U4.heap.size + 1) (La.aA b5) rfl rfl 33 _ HS2.out (by kernel_rfl) rfl (La.ans_one _ _ _) ?_))
    go_ret
    exact ⟨rfl, HB5.out⟩
  · go_wp2_with (first
      | (with_reducible refine wpList_store_row rfl 26 (.tmp 12) (.tmp 32) rfl U4.heap.size (lArr m5 (.slice ah m5.held.length c3) (.slice a4 m5.last.length c4)) rfl rfl 26 _ HS1.out (by kernel_rfl) rfl (Ld.lArr_one _ _ _ _ _ _ _) ?_)
      | (with_reducible refine wpList_store_row rfl 33 (.tmp 13) (.tmp 33) rfl (U4.heap.size + 1) (La.aA b5) rfl rfl 33 _ HS2.out (by kernel_rfl) rfl (La.ans_one _ _ _) ?_))
    go_ret
    exact ⟨rfl, HB5.out⟩

set_option maxRecDepth 100000 in
theorem contract (H : Type) (enc : TypeId × Value → H) (W : World) (base : Nat) (args : Array Value) (ds gs : List (DataW H)) (before : List MemPlace)
    (hval0 : ∀ (j : Nat) t v, Try.f7.params[j]? = some t → args[j]? = some v → Value.okWide Try.prog W .any base t v)
    (hW : DataW.Whole enc Try.prog Try.f7.params.toList Rows.ledgerOthersSpec.vars false W args.toList ds gs before)
    (hsz0 : (DataW.weightsEach Try.prog (Try.f7.params.toList ++ Rows.ledgerOthersSpec.plain.varTypes Try.prog) (ds ++ gs)).all (· ≤ reachBytes) = true) :
    Calls Try.prog 7 args W fun e W' => ∃ v, e = .returned v ∧ Rows.ledgerOthersSpec.post enc Try.prog Try.f7 false true false false W args v W' := by
  have hval : ∀ (j : Nat) t v, Try.f7.params[j]? = some t → args[j]? = some v → Value.okWide Try.prog W .any base t v := hval0
  have hW' := hW
  obtain ⟨p, q, hA0, hV, rfl, hfz, hnd⟩ := hW
  have hA : DataW.TrodAll enc Try.prog W 0 (fun _ => true) true Try.f7.params.toList args.toList ds p := hA0
  rw [Try.params7] at hA hval
  have hsz := hsz0
  rw [Try.params7] at hsz
  obtain ⟨v0, vs0, d0, ds0, p0, q0, hargs, rfl, rfl, h0, r0⟩ := trodAll_cons hA
  obtain ⟨v1, vs1, d1, ds1, p1, q1, rfl, rfl, rfl, h1, r1⟩ := trodAll_cons r0
  obtain ⟨v2, vs2, d2, ds2, p2, q2, rfl, rfl, rfl, h2, r2⟩ := trodAll_cons r1
  obtain ⟨v3, vs3, d3, ds3, p3, q3, rfl, rfl, rfl, h3, r3⟩ := trodAll_cons r2
  obtain ⟨rfl, rfl, rfl⟩ := trodAll_nil r3
  obtain rfl : args = #[v0, v1, v2, v3] := by cases args; simp_all
  obtain ⟨rfl, rfl⟩ := trodVars_none hV
  clear hA0 hval0
  have k0 := h0
  have lt0 : ∀ x ∈ p0, x.block < W.heap.size := by obtain ⟨m, hm⟩ := k0; exact DataW.trod_lt m _ _ _ hm
  have k1 := h1
  have lt1 : ∀ x ∈ p1, x.block < W.heap.size := by obtain ⟨m, hm⟩ := k1; exact DataW.trod_lt m _ _ _ hm
  have k2 := h2
  have lt2 : ∀ x ∈ p2, x.block < W.heap.size := by obtain ⟨m, hm⟩ := k2; exact DataW.trod_lt m _ _ _ hm
  have k3 := h3
  have lt3 : ∀ x ∈ p3, x.block < W.heap.size := by obtain ⟨m, hm⟩ := k3; exact DataW.trod_lt m _ _ _ hm
  obtain ⟨a0, rfl, -, -, w0⟩ := open_int Try.underlying3 (hval 0 3 v0 rfl rfl) h0
  obtain ⟨x1, w1, -⟩ := open_ops (hval 1 43 v1 rfl rfl) k1
  obtain ⟨x2, w2, -⟩ := open_op (hval 2 49 v2 rfl rfl) k2
  obtain ⟨a3, rfl, -, -, w3⟩ := open_int Try.underlying3 (hval 3 3 v3 rfl rfl) h3
  refine (walk a0 v1 x1 v2 x2 a3 W w0 w1 w2 w3).mono fun e W' ⟨he, bel⟩ => ?_
  subst he
  exact ⟨_, rfl, _, _, _, [], _, [], hW', trodAll_mk1 (shut_bool Try.underlying4 _), (trodAll_cons_mk (Below.trod laidOut (by kernel_rfl) (of_decide_eq_true (by kernel_rfl)) k0 bel lt0) (trodAll_cons_mk (Below.trod laidOut (by kernel_rfl) (of_decide_eq_true (by kernel_rfl)) k1 bel lt1) (trodAll_cons_mk (Below.trod laidOut (by kernel_rfl) (of_decide_eq_true (by kernel_rfl)) k2 bel lt2) (trodAll_cons_mk (Below.trod laidOut (by kernel_rfl) (of_decide_eq_true (by kernel_rfl)) k3 bel lt3) trodAll_mk0)))), rfl, bel.frame _, fun h => by cases h⟩

set_option maxRecDepth 100000 in
theorem lifted (os : Os) (started : os.Started) (H : Type) (enc : TypeId × Value → H) :
    ReturnsInHanded {} Try.checked os 7 .any (Rows.ledgerOthersSpec.pre6 enc Try.prog Try.f7 Rows.ledgerOthersRow.domain false) (Rows.ledgerOthersSpec.post enc Try.prog Try.f7 false true false false) := by
  refine returnsInHanded_of_change_sized (C := Try.checked) own started (by kernel_rfl) Try.func7
    (ChangeSpec.witness6 (enc := enc) (C := Try.checked) false ⟨#[], #[.int .i64 0, .slice none 0 0, .agg #[.int .u64 0, .int .i64 0, .int .i64 0, .int .i64 0, .slice none 0 0, .int .u64 0, .int .u64 0, .int .u64 0, .int .u64 0], .int .i64 0], []⟩ 8 (by kernel_rfl) (by kernel_rfl) (by kernel_rfl) (by kernel_rfl)) ?_
  intro W base args ds gs before hval0 hW hcnd hsz _
  exact contract H enc W base args ds gs before hval0 hW hsz

theorem proved : Rows.LedgerOthersSaid :=
  OpenClaim.holds_of_wide 7 Try.f7 rfl rfl rfl rfl rfl rfl rfl ⟨rfl, rfl, rfl, rfl, rfl⟩ rfl rfl rfl rfl rfl (by kernel_rfl) Try.func7 (by kernel_rfl)
    (of_decide_eq_true (by kernel_rfl)) (by unfold Func.isWrapper; first | (rw [if_pos (by decide +kernel)]; kernel_rfl) | (rw [if_neg (by decide +kernel)]; exact ⟨rfl, rfl⟩))
    (fun os started H enc _ => lifted os started H enc)
end Go.Proofs.Ytlkmdoddgfmnbaa.ledgerOthers
