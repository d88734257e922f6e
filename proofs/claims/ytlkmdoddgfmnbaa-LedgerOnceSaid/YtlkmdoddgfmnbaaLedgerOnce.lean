/- The law LedgerOnce returns true for every limit, all commands ahead, every command, all commands between and every index: a request that comes twice, whatever other nodes asked between, does nothing the second time and is answered the same. No condition. -/
import Derived.Test.YtlkmdoddgfmnbaaSl
import Derived.Test.YtlkmdoddgfmnbaaLwA
import Derived.Test.YtlkmdoddgfmnbaaLcE
import Derived.Deep.QuietTactic
import Derived.BigQuiet
namespace Go.Proofs.Ytlkmdoddgfmnbaa.ledgerOnce
open Go.ChangeShapes Go.WideShapes Go.ChangeAt Go.RowKit
open Go.ChangeMaps (open_string shut_string)
set_option linter.unusedVariables false

theorem own : ownKnob Try.prog.godebug = none := by kernel_rfl
theorem laidOut : laidOutB Try.prog = true := by kernel_rfl

set_option maxRecDepth 100000 in
set_option maxHeartbeats 16000000 in
theorem walk (a0 : Int) (v1 : Value) (x1 : (List Ent)) (v2 : Value) (x2 : Ent) (v3 : Value) (x3 : (List Ent)) (a4 : Int) (w : World) (w0 : (Lit.int .i64 a0).wf = true) (w1 : IsLog w v1 x1) (w2 : Hd.IsEnt w v2 x2) (w3 : IsLog w v3 x3) (w4 : (Lit.int .u64 a4).wf = true) :
    Calls Try.prog 5 #[.int .i64 a0, v1, v2, v3, .int .u64 a4] w fun e w' => e = .returned (.bool true) ∧ Below w.heap.size w w' := by
  obtain ⟨vn, rfl, hsl, hxw⟩ := id w2
  obtain ⟨ar, cr, hvn, -⟩ := id hsl
  subst hvn
  have HW1 := Lib.hid w1
  have HW0 := Lib.hid w0
  have HW3 := Lib.hid w3
  have HW4 := Lib.hid w4
  have HXW := Lib.hid hxw
  obtain ⟨av, capv, hv1, hlv, hcv⟩ := Hd.IsLog.len w3
  subst hv1
  have hb0 : Below w.heap.size w (w.alloc (.cells (La.eA x2 (.slice ar x2.cmd.nodes.length cr)) 49)) := (Below.refl _ _).alloc (Nat.le_refl _) _
  have HC0 : Hid (IsCmd w (.agg (La.cA x2.cmd (.slice ar x2.cmd.nodes.length cr))) x2.cmd) := Lib.hid ⟨_, rfl, hsl, hxw.2⟩
  have hop0 : (w.alloc (.cells (La.eA x2 (.slice ar x2.cmd.nodes.length cr)) 49)).heap[w.heap.size]? = some (.cells (La.eA x2 (.slice ar x2.cmd.nodes.length cr)) 49 (0, 0)) := heap_alloc_new _ _
  have HB0 := Lib.hid hb0
  have HOP0 := Lib.hid hop0
  clear w0 w1 w2 w3 w4 hsl hxw hb0 hop0
  go_enter Try.func5, Try.ntmps5
  go_wp2_with fail
  refine (La.grants_any _).mono ?_
  rintro e U1 ⟨rfl, hb1⟩
  have HB1 := Lib.hid (HB0.out.trans (hb1.mono HB0.out.size))
  have HOP1 := Lib.hid ((hb1.block _ (La.heap_lt HOP0.out)).trans HOP0.out)
  clear hb1
  go_wp2_with fail
  refine (La.play_any a0 v1 x1 _ HW0.out (HW1.out.below HB1.out (Nat.le_refl _))).mono ?_
  rintro e U2 ⟨m, vh, vl, rfl, hi, hok, -, hb2⟩
  obtain ⟨c1, k1, c2, k2, rfl, rfl⟩ := La.led_forms hi
  obtain ⟨U3, hU3, hb3, hR3, hz3, hs3⟩ := La.boxL U2 m (.slice c1 m.held.length k1) (.slice c2 m.last.length k2)
  have HS3 := Lib.hid hs3
  have HR3 := Lib.hid hR3
  have HOK := Lib.hid hok
  have HI3 := Lib.hid (hi.below hb3 (Nat.le_refl _))
  have HB3 := Lib.hid (HB1.out.trans ((hb2.mono HB1.out.size).trans (hb3.mono (Nat.le_trans HB1.out.size hb2.size))))
  have HOP3 := Lib.hid ((hb3.block _ (Nat.lt_of_lt_of_le (La.heap_lt HOP1.out) hb2.size)).trans ((hb2.block _ (La.heap_lt HOP1.out)).trans HOP1.out))
  have HC3 := Lib.hid (HC0.out.below HB3.out (Nat.le_refl _))
  obtain ⟨d0, d1, d2, d3, d4, d5, d6, d7, d8⟩ := La.op_cells HOP3.out
  have HWF : Hid m.wf := Lib.hid (by obtain ⟨p1, p2, -, -, -, hwf⟩ := id hi; exact hwf)
  clear hi hok hb2 hb3 hR3 hz3 hs3
  go_wp2_with (first
    | (with_reducible refine wpList_store_row rfl 26 (.tmp 12) (.tmp 30) rfl U2.heap.size (lArr m (.slice c1 m.held.length k1) (.slice c2 m.last.length k2)) rfl rfl 26 _ HS3.out (by kernel_rfl) rfl (Ld.lArr_one _ _ _ _ _ _ _) ?_)
    | (with_reducible refine wpList_load_row rfl 26 (.tmp 12) rfl U2.heap.size rfl 26 (lArr m (.slice c1 m.held.length k1) (.slice c2 m.last.length k2)) (0, 0) _ HR3.out Try.underlying26 rfl (by kernel_rfl) ?_))
  refine (La.apply_any m _ _ x2.term x2.cmd _ HI3.out HC3.out HXW.out.1).mono ?_
  rintro e U4 ⟨vh5, vl5, rfl, h1, h2, -, hwf5, hb4⟩
  have hz := La.err_cases HOK.out x2.term x2.cmd
  have HOK5 : Hid (La.errL m x2.term x2.cmd = 0 → La.LedP (La.applyL m x2.term x2.cmd) ∧ Cm.chkC x2.cmd = true ∧ ((x2.cmd.kind = 3 ∨ x2.cmd.kind = 4 ∨ x2.cmd.kind = 5) → La.Knows (La.applyL m x2.term x2.cmd) x2.cmd (La.answerL m x2.term x2.cmd))) := Lib.hid (fun h0 => by
    obtain ⟨g1, g2, g3⟩ := La.err_zero.1 h0
    have := La.do_ok HOK.out HWF.out HXW.out.2 g2 g3
    unfold La.applyL La.answerL
    rw [if_pos h0, if_pos h0]
    refine ⟨this.1, g2, fun hk => ?_⟩
    rw [La.do_once (by omega) (by omega)]
    exact La.knows_once)
  generalize La.applyL m x2.term x2.cmd = m5 at *
  generalize La.answerL m x2.term x2.cmd = b5 at *
  generalize La.errL m x2.term x2.cmd = z5 at *
  obtain ⟨c3, k3, c4, k4, rfl, rfl⟩ := La.led_forms (La.applied_led h1 h2 hwf5)
  obtain ⟨U5, hU5, hb5, hR5, hA5, hz5, hs1, hs2⟩ := La.boxed U4 m5 b5 (.slice c3 m5.held.length k3) (.slice c4 m5.last.length k4)
  have HS1 := Lib.hid hs1
  have HS2 := Lib.hid hs2
  have HB4 := Lib.hid (HB3.out.trans (hb4.mono HB3.out.size))
  have HB45 := Lib.hid hb5
  have HB5 := Lib.hid (HB4.out.trans (hb5.mono HB4.out.size))
  have HOP4 := Lib.hid ((hb4.block _ (La.heap_lt HOP3.out)).trans HOP3.out)
  have HA5 := Lib.hid hA5
  have HU34 := Lib.hid hb4.size
  have HG5' : Hid (La.LedP m5 → La.Good U5 U4.heap.size U3.heap.size m5 (.slice c3 m5.held.length k3) (.slice c4 m5.last.length k4)) := Lib.hid (fun q => ⟨hR5, h1.below hb5 (Nat.le_refl _), h2.below hb5 (Nat.le_refl _), fun k hk => by have := (La.own_block h1 k hk).2; omega, fun k hk => by have := (La.own_block h2 k hk).2; omega, hwf5, q⟩)
  have hop5 := (hb5.block _ (La.heap_lt HOP4.out)).trans HOP4.out
  clear d0 d1 d2 d3 d4 d5 d6 d7 d8
  obtain ⟨d0, d1, d2, d3, d4, d5, d6, d7, d8⟩ := La.op_cells hop5
  clear h1 h2 hwf5 hb4 hb5 hR5 hA5 hz5 hs1 hs2 hop5
  rcases hz with ⟨rfl, -, -⟩ | ⟨rfl, -⟩ | ⟨rfl, -⟩
  · obtain ⟨hok5, hck, hkn⟩ := HOK5.out rfl
    have HG5 := Lib.hid (HG5'.out hok5)
    by_cases hk345 : x2.cmd.kind = 3 ∨ x2.cmd.kind = 4 ∨ x2.cmd.kind = 5
    · have HKN5 := Lib.hid (hkn hk345)
      have HKIND := Lib.hid hk345
      by_cases hi0 : a4 = 0
      · have ei : (a4 == 0) = true := beq_iff_eq.2 hi0
        clear hok5 hck hkn hi0
        rcases hk345 with h | h | h
        · have n3 : (x2.cmd.kind != 3) = false := by rw [h]; rfl
          clear h
          go_wp2_with (first
            | (with_reducible refine wpList_store_row rfl 26 (.tmp 14) (.tmp 39) rfl U4.heap.size (lArr m5 (.slice c3 m5.held.length k3) (.slice c4 m5.last.length k4)) rfl rfl 26 _ HS1.out (by kernel_rfl) rfl (Ld.lArr_one _ _ _ _ _ _ _) ?_)
            | (with_reducible refine wpList_store_row rfl 33 (.tmp 15) (.tmp 40) rfl (U4.heap.size + 1) (La.aA b5) rfl rfl 33 _ HS2.out (by kernel_rfl) rfl (La.ans_one _ _ _) ?_))
          go_ret
          exact ⟨rfl, HB5.out⟩
        · have n3 : (x2.cmd.kind != 3) = true := by rw [h]; rfl
          have n4 : (x2.cmd.kind != 4) = false := by rw [h]; rfl
          clear h
          go_wp2_with (first
            | (with_reducible refine wpList_store_row rfl 26 (.tmp 14) (.tmp 39) rfl U4.heap.size (lArr m5 (.slice c3 m5.held.length k3) (.slice c4 m5.last.length k4)) rfl rfl 26 _ HS1.out (by kernel_rfl) rfl (Ld.lArr_one _ _ _ _ _ _ _) ?_)
            | (with_reducible refine wpList_store_row rfl 33 (.tmp 15) (.tmp 40) rfl (U4.heap.size + 1) (La.aA b5) rfl rfl 33 _ HS2.out (by kernel_rfl) rfl (La.ans_one _ _ _) ?_))
          go_ret
          exact ⟨rfl, HB5.out⟩
        · have n3 : (x2.cmd.kind != 3) = true := by rw [h]; rfl
          have n4 : (x2.cmd.kind != 4) = true := by rw [h]; rfl
          have n5 : (x2.cmd.kind != 5) = false := by rw [h]; rfl
          clear h
          go_wp2_with (first
            | (with_reducible refine wpList_store_row rfl 26 (.tmp 14) (.tmp 39) rfl U4.heap.size (lArr m5 (.slice c3 m5.held.length k3) (.slice c4 m5.last.length k4)) rfl rfl 26 _ HS1.out (by kernel_rfl) rfl (Ld.lArr_one _ _ _ _ _ _ _) ?_)
            | (with_reducible refine wpList_store_row rfl 33 (.tmp 15) (.tmp 40) rfl (U4.heap.size + 1) (La.aA b5) rfl rfl 33 _ HS2.out (by kernel_rfl) rfl (La.ans_one _ _ _) ?_))
          go_ret
          exact ⟨rfl, HB5.out⟩
      · have ei : (a4 == 0) = false := beq_eq_false_iff_ne.2 hi0
        have HCHK : Hid (Cm.chkC x2.cmd = true ∧ a4 ≠ 0) := Lib.hid ⟨hck, hi0⟩
        clear hok5 hck hkn hi0
        rcases hk345 with h | h | h
        · have n3 : (x2.cmd.kind != 3) = false := by rw [h]; rfl
          clear h
          go_wp2_with (first
            | (with_reducible refine wpList_store_row rfl 26 (.tmp 14) (.tmp 39) rfl U4.heap.size (lArr m5 (.slice c3 m5.held.length k3) (.slice c4 m5.last.length k4)) rfl rfl 26 _ HS1.out (by kernel_rfl) rfl (Ld.lArr_one _ _ _ _ _ _ _) ?_)
            | (with_reducible refine wpList_store_row rfl 33 (.tmp 15) (.tmp 40) rfl (U4.heap.size + 1) (La.aA b5) rfl rfl 33 _ HS2.out (by kernel_rfl) rfl (La.ans_one _ _ _) ?_))
          go_loopw [72] (fun i wr => ∃ (k : Nat) (mm : Led) (vh vl : Value), k ≤ x3.length ∧ i = .int .i64 k ∧ Hid (La.Knows mm x2.cmd b5) ∧ Hid (La.Good wr U4.heap.size U3.heap.size mm vh vl) ∧ Hid (Below U4.heap.size U4 wr) ∧ Hid (wr.heap[U4.heap.size + 1]? = some (.cells (La.aA b5) 33 (0, 0)))) (fun i _ => x3.length - (intOf i).toNat)
          case atStart => exact ⟨0, m5, _, _, Nat.zero_le _, rfl, HKN5, HG5, HB45, HA5⟩
          case round =>
            obtain ⟨k, mm, vh, vl, hk, rfl, HKN, HG, HB, HA⟩ := hrel
            obtain ⟨c5, k5, c6, k6, rfl, rfl⟩ := La.led_forms HG.out.led
            have HBW : Hid (Below w.heap.size w wr) := Lib.hid (HB4.out.trans (HB.out.mono HB4.out.size))
            have HOPR : Hid (wr.heap[w.heap.size]? = some (.cells (La.eA x2 (.slice ar x2.cmd.nodes.length cr)) 49 (0, 0))) := Lib.hid ((HB.out.block _ (La.heap_lt HOP4.out)).trans HOP4.out)
            by_cases hlt : k < x3.length
            · obtain ⟨bb, off, cap', x, ax, cx, hv, hx, hsx, hxx, hlb, hce⟩ := La.ops_get (HW3.out.below HBW.out (Nat.le_refl _)) hlt
              simp only [Value.slice.injEq] at hv
              obtain ⟨rfl, -, rfl⟩ := hv
              obtain ⟨e0, e1, e2, e3, e4, e5, e6, e7, e8⟩ := Hd.ent_cells hce
              have hb6 : Below wr.heap.size wr (wr.alloc (.cells (La.eA x (.slice ax x.cmd.nodes.length cx)) 49)) := (Below.refl _ _).alloc (Nat.le_refl _) _
              have HGX := Lib.hid (HG.out.below hb6)
              have HB6 := Lib.hid hb6
              have HBX := Lib.hid (HB.out.trans (hb6.mono (Nat.le_of_lt HG.out.lt)))
              have HAX := Lib.hid ((hb6.block _ (La.heap_lt HA.out)).trans HA.out)
              have hopx := (hb6.block _ (La.heap_lt HOPR.out)).trans HOPR.out
              obtain ⟨d0, d1, d2, d3, d4, d5, d6, d7, d8⟩ := La.op_cells hopx
              have HC6 : Hid (IsCmd (wr.alloc (.cells (La.eA x (.slice ax x.cmd.nodes.length cx)) 49)) (.agg (La.cA x.cmd (.slice ax x.cmd.nodes.length cx))) x.cmd) := Lib.hid ⟨_, rfl, hsx.below hb6 (Nat.le_refl _), hxx.2⟩
              have HXX := Lib.hid hxx
              clear hx hsx hxx hce hb6 hopx
              by_cases h50 : 50 ≤ k
              · go_wp2
                go_roundw
                case rel => exact ⟨k + 1, mm, _, _, by omega, by go_num, HKN, HGX, HBX, HAX⟩
                case measure => simp [intOf]; omega
              · by_cases hn : x.cmd.node = x2.cmd.node
                · have en : (x.cmd.node == x2.cmd.node) = true := beq_iff_eq.2 hn
                  clear hn
                  go_wp2
                  go_roundw
                  case rel => exact ⟨k + 1, mm, _, _, by omega, by go_num, HKN, HGX, HBX, HAX⟩
                  case measure => simp [intOf]; omega
                · have en : (x.cmd.node == x2.cmd.node) = false := beq_eq_false_iff_ne.2 hn
                  have HNE := Lib.hid hn
                  clear hn
                  go_wp2_with ((with_reducible refine wpList_load_row rfl 26 (.tmp 14) rfl U4.heap.size rfl 26 (lArr mm (.slice c5 mm.held.length k5) (.slice c6 mm.last.length k6)) (0, 0) _ HGX.out.row Try.underlying26 rfl (by kernel_rfl) ?_))
                  refine (La.apply_any mm _ _ x.term x.cmd _ HGX.out.led HC6.out HXX.out.1).mono ?_
                  rintro e w7 ⟨vh9, vl9, rfl, h1, h2, -, hwf9, hb7⟩
                  have hz := La.err_cases HG.out.ok x.term x.cmd
                  have HOK9 : Hid (La.errL mm x.term x.cmd = 0 → La.LedP (La.applyL mm x.term x.cmd) ∧ La.Knows (La.applyL mm x.term x.cmd) x2.cmd b5) := Lib.hid (fun h0 => by
                    obtain ⟨g1, g2, g3⟩ := La.err_zero.1 h0
                    have h3 := La.do_ok HG.out.ok HG.out.wf HXX.out.2 g2 g3
                    unfold La.applyL
                    rw [if_pos h0]
                    exact ⟨h3.1, La.knows_kept HKN.out HNE.out⟩)
                  generalize La.applyL mm x.term x.cmd = m9 at *
                  generalize La.answerL mm x.term x.cmd = b9 at *
                  generalize La.errL mm x.term x.cmd = z9 at *
                  obtain ⟨c7, k7, c8, k8, rfl, rfl⟩ := La.led_forms (La.applied_led h1 h2 hwf9)
                  obtain ⟨W8, hW8, hb8, hR8, hA8, hz8, hs1, hs2⟩ := La.boxed w7 m9 b9 (.slice c7 m9.held.length k7) (.slice c8 m9.last.length k8)
                  have HB8 := Lib.hid (hb7.trans (hb8.mono hb7.size))
                  have HT1 := Lib.hid hs1
                  have HT2 := Lib.hid hs2
                  have HR8 := Lib.hid hR8
                  have HG8 := Lib.hid (HGX.out.below HB8.out)
                  have HBX8 := Lib.hid (HBX.out.trans (HB8.out.mono (Nat.le_of_lt HGX.out.lt)))
                  have HAX8 := Lib.hid ((HB8.out.block _ (La.heap_lt HAX.out)).trans HAX.out)
                  have HN8 : Hid (La.LedP m9 → La.Good (W8.setRow U4.heap.size (lArr m9 (.slice c7 m9.held.length k7) (.slice c8 m9.last.length k8))) U4.heap.size U3.heap.size m9 (.slice c7 m9.held.length k7) (.slice c8 m9.last.length k8)) := Lib.hid (fun q => HG8.out.next h1 h2 HGX.out.lt (by have := HGX.out.lt; have := HU34.out; omega) hb8 hwf9 q)
                  have HBX9 := Lib.hid (Ld.below_row HBX8.out (Nat.le_refl _) (lArr m9 (.slice c7 m9.held.length k7) (.slice c8 m9.last.length k8)))
                  have HAX9 : Hid ((W8.setRow U4.heap.size (lArr m9 (.slice c7 m9.held.length k7) (.slice c8 m9.last.length k8))).heap[U4.heap.size + 1]? = some (.cells (La.aA b5) 33 (0, 0))) := Lib.hid ((setRow_other _ _ _ _ (by omega)).trans HAX8.out)
                  clear h1 h2 hwf9 hb7 hb8 hR8 hA8 hz8 hs1 hs2 e0 e1 e2 e3 e4 e5 e6 e7 e8 d0 d1 d2 d3 d4 d5 d6 d7 d8
                  rcases hz with ⟨rfl, -, -⟩ | ⟨rfl, -⟩ | ⟨rfl, -⟩
                  · have HG9 := Lib.hid (HN8.out (HOK9.out rfl).1)
                    have HKN9 := Lib.hid (HOK9.out rfl).2
                    go_wp2_with (first
                      | (with_reducible refine wpList_store_row rfl 26 (.tmp 19) (.tmp 95) rfl w7.heap.size (lArr m9 (.slice c7 m9.held.length k7) (.slice c8 m9.last.length k8)) rfl rfl 26 _ HT1.out (by kernel_rfl) rfl (Ld.lArr_one _ _ _ _ _ _ _) ?_)
                      | (with_reducible refine wpList_store_row rfl 33 (.tmp 20) (.tmp 96) rfl (w7.heap.size + 1) (La.aA b9) rfl rfl 33 _ HT2.out (by kernel_rfl) rfl (La.ans_one _ _ _) ?_)
                      | (with_reducible refine wpList_load_row rfl 26 (.tmp 19) rfl w7.heap.size rfl 26 (lArr m9 (.slice c7 m9.held.length k7) (.slice c8 m9.last.length k8)) (0, 0) _ HR8.out Try.underlying26 rfl (by kernel_rfl) ?_)
                      | (with_reducible refine wpList_store_row rfl 26 (.tmp 14) (.tmp 100) rfl U4.heap.size (lArr m9 (.slice c7 m9.held.length k7) (.slice c8 m9.last.length k8)) rfl rfl 26 _ HG8.out.row (by kernel_rfl) rfl (Ld.lArr_one _ _ _ _ _ _ _) ?_))
                    go_roundw
                    case rel => exact ⟨k + 1, m9, _, _, by omega, by go_num, HKN9, HG9, HBX9, HAX9⟩
                    case measure => simp [intOf]; omega
                  · go_wp2_with (first
                      | (with_reducible refine wpList_store_row rfl 26 (.tmp 19) (.tmp 95) rfl w7.heap.size (lArr m9 (.slice c7 m9.held.length k7) (.slice c8 m9.last.length k8)) rfl rfl 26 _ HT1.out (by kernel_rfl) rfl (Ld.lArr_one _ _ _ _ _ _ _) ?_)
                      | (with_reducible refine wpList_store_row rfl 33 (.tmp 20) (.tmp 96) rfl (w7.heap.size + 1) (La.aA b9) rfl rfl 33 _ HT2.out (by kernel_rfl) rfl (La.ans_one _ _ _) ?_))
                    go_roundw
                    case rel => exact ⟨k + 1, mm, _, _, by omega, by go_num, HKN, HG8, HBX8, HAX8⟩
                    case measure => simp [intOf]; omega
                  · go_wp2_with (first
                      | (with_reducible refine wpList_store_row rfl 26 (.tmp 19) (.tmp 95) rfl w7.heap.size (lArr m9 (.slice c7 m9.held.length k7) (.slice c8 m9.last.length k8)) rfl rfl 26 _ HT1.out (by kernel_rfl) rfl (Ld.lArr_one _ _ _ _ _ _ _) ?_)
                      | (with_reducible refine wpList_store_row rfl 33 (.tmp 20) (.tmp 96) rfl (w7.heap.size + 1) (La.aA b9) rfl rfl 33 _ HT2.out (by kernel_rfl) rfl (La.ans_one _ _ _) ?_))
                    go_roundw
                    case rel => exact ⟨k + 1, mm, _, _, by omega, by go_num, HKN, HG8, HBX8, HAX8⟩
                    case measure => simp [intOf]; omega
            · obtain rfl : k = x3.length := by omega
              obtain ⟨d0, d1, d2, d3, d4, d5, d6, d7, d8⟩ := La.op_cells HOPR.out
              have HCR := Lib.hid (HC0.out.below HBW.out (Nat.le_refl _))
              have HSAME : Hid (La.errL mm a4 x2.cmd = 0 ∧ La.applyL mm a4 x2.cmd = mm ∧ La.answerL mm a4 x2.cmd = b5) := Lib.hid (by
                have h0 := La.err_zero.2 ⟨La.led_iff.2 HG.out.ok, HCHK.out.1, HCHK.out.2⟩
                have h1 : La.doL mm a4 x2.cmd = (mm, b5) := by
                  rw [La.do_once (by have := HKIND.out; omega) (by have := HKIND.out; omega)]
                  exact La.knows_does HG.out.ok.2.2.2.2.2 HKN.out a4
                unfold La.applyL La.answerL
                rw [if_pos h0, if_pos h0, h1]
                exact ⟨h0, rfl, rfl⟩)
              go_wp2_with ((with_reducible refine wpList_load_row rfl 26 (.tmp 14) rfl U4.heap.size rfl 26 (lArr mm (.slice c5 mm.held.length k5) (.slice c6 mm.last.length k6)) (0, 0) _ HG.out.row Try.underlying26 rfl (by kernel_rfl) ?_))
              have hca := La.apply_any mm _ _ a4 x2.cmd _ HG.out.led HCR.out HW4.out
              rw [HSAME.out.1, HSAME.out.2.1, HSAME.out.2.2] at hca
              refine hca.mono ?_
              clear hca
              rintro e w7 ⟨vh9, vl9, rfl, h1, h2, -, hwf9, hb7⟩
              obtain ⟨c9, k9, c10, k10, rfl, rfl⟩ := La.led_forms (La.applied_led h1 h2 hwf9)
              obtain ⟨W8, hW8, hb8, hR8, hA8, hz8, hs1, hs2⟩ := La.boxed w7 mm b5 (.slice c9 mm.held.length k9) (.slice c10 mm.last.length k10)
              have HB8 := Lib.hid (hb7.trans (hb8.mono hb7.size))
              have HT1 := Lib.hid hs1
              have HT2 := Lib.hid hs2
              have HG8 := Lib.hid (HG.out.below HB8.out)
              have HN8 : Hid (IsLed W8 (.agg (lArr mm (.slice c9 mm.held.length k9) (.slice c10 mm.last.length k10))) mm) := Lib.hid (La.applied_led (h1.below hb8 (Nat.le_refl _)) (h2.below hb8 (Nat.le_refl _)) hwf9)
              have HBF := Lib.hid (HBW.out.trans (HB8.out.mono HBW.out.size))
              obtain ⟨y0, y1, y2, y3⟩ := La.led_cells HG8.out.row
              obtain ⟨z0, z1, z2, z3⟩ := La.led_cells hR8
              obtain ⟨p0, p1, p2⟩ := La.ans_cells hA8
              obtain ⟨q0, q1, q2⟩ := La.ans_cells ((HB8.out.block _ (La.heap_lt HA.out)).trans HA.out)
              have hq : ∀ w', (binOp .eql 33 (.agg (La.aA b5)) (.agg (La.aA b5))).run Try.prog w' = .ok (.bool true) w' := fun w' => by go_simp
              clear h1 h2 hwf9 hb7 hb8 hR8 hA8 hz8 hs1 hs2 d0 d1 d2 d3 d4 d5 d6 d7 d8
              go_wp2_with (first
                | (with_reducible refine wpList_store_row rfl 26 (.tmp 22) (.tmp 108) rfl w7.heap.size (lArr mm (.slice c9 mm.held.length k9) (.slice c10 mm.last.length k10)) rfl rfl 26 _ HT1.out (by kernel_rfl) rfl (Ld.lArr_one _ _ _ _ _ _ _) ?_)
                | (with_reducible refine wpList_store_row rfl 33 (.tmp 23) (.tmp 109) rfl (w7.heap.size + 1) (La.aA b5) rfl rfl 33 _ HT2.out (by kernel_rfl) rfl (La.ans_one _ _ _) ?_))
              refine (Ld.same_any mm _ _ _ HG8.out.led HN8.out).mono ?_
              rintro e w9 ⟨rfl, hb9⟩
              go_wp2
              go_ret
              exact ⟨rfl, HBF.out.trans (hb9.mono HBF.out.size)⟩
        · have n3 : (x2.cmd.kind != 3) = true := by rw [h]; rfl
          have n4 : (x2.cmd.kind != 4) = false := by rw [h]; rfl
          clear h
          go_wp2_with (first
            | (with_reducible refine wpList_store_row rfl 26 (.tmp 14) (.tmp 39) rfl U4.heap.size (lArr m5 (.slice c3 m5.held.length k3) (.slice c4 m5.last.length k4)) rfl rfl 26 _ HS1.out (by kernel_rfl) rfl (Ld.lArr_one _ _ _ _ _ _ _) ?_)
            | (with_reducible refine wpList_store_row rfl 33 (.tmp 15) (.tmp 40) rfl (U4.heap.size + 1) (La.aA b5) rfl rfl 33 _ HS2.out (by kernel_rfl) rfl (La.ans_one _ _ _) ?_))
          go_loopw [72] (fun i wr => ∃ (k : Nat) (mm : Led) (vh vl : Value), k ≤ x3.length ∧ i = .int .i64 k ∧ Hid (La.Knows mm x2.cmd b5) ∧ Hid (La.Good wr U4.heap.size U3.heap.size mm vh vl) ∧ Hid (Below U4.heap.size U4 wr) ∧ Hid (wr.heap[U4.heap.size + 1]? = some (.cells (La.aA b5) 33 (0, 0)))) (fun i _ => x3.length - (intOf i).toNat)
          case atStart => exact ⟨0, m5, _, _, Nat.zero_le _, rfl, HKN5, HG5, HB45, HA5⟩
          case round =>
            obtain ⟨k, mm, vh, vl, hk, rfl, HKN, HG, HB, HA⟩ := hrel
            obtain ⟨c5, k5, c6, k6, rfl, rfl⟩ := La.led_forms HG.out.led
            have HBW : Hid (Below w.heap.size w wr) := Lib.hid (HB4.out.trans (HB.out.mono HB4.out.size))
            have HOPR : Hid (wr.heap[w.heap.size]? = some (.cells (La.eA x2 (.slice ar x2.cmd.nodes.length cr)) 49 (0, 0))) := Lib.hid ((HB.out.block _ (La.heap_lt HOP4.out)).trans HOP4.out)
            by_cases hlt : k < x3.length
            · obtain ⟨bb, off, cap', x, ax, cx, hv, hx, hsx, hxx, hlb, hce⟩ := La.ops_get (HW3.out.below HBW.out (Nat.le_refl _)) hlt
              simp only [Value.slice.injEq] at hv
              obtain ⟨rfl, -, rfl⟩ := hv
              obtain ⟨e0, e1, e2, e3, e4, e5, e6, e7, e8⟩ := Hd.ent_cells hce
              have hb6 : Below wr.heap.size wr (wr.alloc (.cells (La.eA x (.slice ax x.cmd.nodes.length cx)) 49)) := (Below.refl _ _).alloc (Nat.le_refl _) _
              have HGX := Lib.hid (HG.out.below hb6)
              have HB6 := Lib.hid hb6
              have HBX := Lib.hid (HB.out.trans (hb6.mono (Nat.le_of_lt HG.out.lt)))
              have HAX := Lib.hid ((hb6.block _ (La.heap_lt HA.out)).trans HA.out)
              have hopx := (hb6.block _ (La.heap_lt HOPR.out)).trans HOPR.out
              obtain ⟨d0, d1, d2, d3, d4, d5, d6, d7, d8⟩ := La.op_cells hopx
              have HC6 : Hid (IsCmd (wr.alloc (.cells (La.eA x (.slice ax x.cmd.nodes.length cx)) 49)) (.agg (La.cA x.cmd (.slice ax x.cmd.nodes.length cx))) x.cmd) := Lib.hid ⟨_, rfl, hsx.below hb6 (Nat.le_refl _), hxx.2⟩
              have HXX := Lib.hid hxx
              clear hx hsx hxx hce hb6 hopx
              by_cases h50 : 50 ≤ k
              · go_wp2
                go_roundw
                case rel => exact ⟨k + 1, mm, _, _, by omega, by go_num, HKN, HGX, HBX, HAX⟩
                case measure => simp [intOf]; omega
              · by_cases hn : x.cmd.node = x2.cmd.node
                · have en : (x.cmd.node == x2.cmd.node) = true := beq_iff_eq.2 hn
                  clear hn
                  go_wp2
                  go_roundw
                  case rel => exact ⟨k + 1, mm, _, _, by omega, by go_num, HKN, HGX, HBX, HAX⟩
                  case measure => simp [intOf]; omega
                · have en : (x.cmd.node == x2.cmd.node) = false := beq_eq_false_iff_ne.2 hn
                  have HNE := Lib.hid hn
                  clear hn
                  go_wp2_with ((with_reducible refine wpList_load_row rfl 26 (.tmp 14) rfl U4.heap.size rfl 26 (lArr mm (.slice c5 mm.held.length k5) (.slice c6 mm.last.length k6)) (0, 0) _ HGX.out.row Try.underlying26 rfl (by kernel_rfl) ?_))
                  refine (La.apply_any mm _ _ x.term x.cmd _ HGX.out.led HC6.out HXX.out.1).mono ?_
                  rintro e w7 ⟨vh9, vl9, rfl, h1, h2, -, hwf9, hb7⟩
                  have hz := La.err_cases HG.out.ok x.term x.cmd
                  have HOK9 : Hid (La.errL mm x.term x.cmd = 0 → La.LedP (La.applyL mm x.term x.cmd) ∧ La.Knows (La.applyL mm x.term x.cmd) x2.cmd b5) := Lib.hid (fun h0 => by
                    obtain ⟨g1, g2, g3⟩ := La.err_zero.1 h0
                    have h3 := La.do_ok HG.out.ok HG.out.wf HXX.out.2 g2 g3
                    unfold La.applyL
                    rw [if_pos h0]
                    exact ⟨h3.1, La.knows_kept HKN.out HNE.out⟩)
                  generalize La.applyL mm x.term x.cmd = m9 at *
                  generalize La.answerL mm x.term x.cmd = b9 at *
                  generalize La.errL mm x.term x.cmd = z9 at *
                  obtain ⟨c7, k7, c8, k8, rfl, rfl⟩ := La.led_forms (La.applied_led h1 h2 hwf9)
                  obtain ⟨W8, hW8, hb8, hR8, hA8, hz8, hs1, hs2⟩ := La.boxed w7 m9 b9 (.slice c7 m9.held.length k7) (.slice c8 m9.last.length k8)
                  have HB8 := Lib.hid (hb7.trans (hb8.mono hb7.size))
                  have HT1 := Lib.hid hs1
                  have HT2 := Lib.hid hs2
                  have HR8 := Lib.hid hR8
                  have HG8 := Lib.hid (HGX.out.below HB8.out)
                  have HBX8 := Lib.hid (HBX.out.trans (HB8.out.mono (Nat.le_of_lt HGX.out.lt)))
                  have HAX8 := Lib.hid ((HB8.out.block _ (La.heap_lt HAX.out)).trans HAX.out)
                  have HN8 : Hid (La.LedP m9 → La.Good (W8.setRow U4.heap.size (lArr m9 (.slice c7 m9.held.length k7) (.slice c8 m9.last.length k8))) U4.heap.size U3.heap.size m9 (.slice c7 m9.held.length k7) (.slice c8 m9.last.length k8)) := Lib.hid (fun q => HG8.out.next h1 h2 HGX.out.lt (by have := HGX.out.lt; have := HU34.out; omega) hb8 hwf9 q)
                  have HBX9 := Lib.hid (Ld.below_row HBX8.out (Nat.le_refl _) (lArr m9 (.slice c7 m9.held.length k7) (.slice c8 m9.last.length k8)))
                  have HAX9 : Hid ((W8.setRow U4.heap.size (lArr m9 (.slice c7 m9.held.length k7) (.slice c8 m9.last.length k8))).heap[U4.heap.size + 1]? = some (.cells (La.aA b5) 33 (0, 0))) := Lib.hid ((setRow_other _ _ _ _ (by omega)).trans HAX8.out)
                  clear h1 h2 hwf9 hb7 hb8 hR8 hA8 hz8 hs1 hs2 e0 e1 e2 e3 e4 e5 e6 e7 e8 d0 d1 d2 d3 d4 d5 d6 d7 d8
                  rcases hz with ⟨rfl, -, -⟩ | ⟨rfl, -⟩ | ⟨rfl, -⟩
                  · have HG9 := Lib.hid (HN8.out (HOK9.out rfl).1)
                    have HKN9 := Lib.hid (HOK9.out rfl).2
                    go_wp2_with (first
                      | (with_reducible refine wpList_store_row rfl 26 (.tmp 19) (.tmp 95) rfl w7.heap.size (lArr m9 (.slice c7 m9.held.length k7) (.slice c8 m9.last.length k8)) rfl rfl 26 _ HT1.out (by kernel_rfl) rfl (Ld.lArr_one _ _ _ _ _ _ _) ?_)
                      | (with_reducible refine wpList_store_row rfl 33 (.tmp 20) (.tmp 96) rfl (w7.heap.size + 1) (La.aA b9) rfl rfl 33 _ HT2.out (by kernel_rfl) rfl (La.ans_one _ _ _) ?_)
                      | (with_reducible refine wpList_load_row rfl 26 (.tmp 19) rfl w7.heap.size rfl 26 (lArr m9 (.slice c7 m9.held.length k7) (.slice c8 m9.last.length k8)) (0, 0) _ HR8.out Try.underlying26 rfl (by kernel_rfl) ?_)
                      | (with_reducible refine wpList_store_row rfl 26 (.tmp 14) (.tmp 100) rfl U4.heap.size (lArr m9 (.slice c7 m9.held.length k7) (.slice c8 m9.last.length k8)) rfl rfl 26 _ HG8.out.row (by kernel_rfl) rfl (Ld.lArr_one _ _ _ _ _ _ _) ?_))
                    go_roundw
                    case rel => exact ⟨k + 1, m9, _, _, by omega, by go_num, HKN9, HG9, HBX9, HAX9⟩
                    case measure => simp [intOf]; omega
                  · go_wp2_with (first
                      | (with_reducible refine wpList_store_row rfl 26 (.tmp 19) (.tmp 95) rfl w7.heap.size (lArr m9 (.slice c7 m9.held.length k7) (.slice c8 m9.last.length k8)) rfl rfl 26 _ HT1.out (by kernel_rfl) rfl (Ld.lArr_one _ _ _ _ _ _ _) ?_)
                      | (with_reducible refine wpList_store_row rfl 33 (.tmp 20) (.tmp 96) rfl (w7.heap.size + 1) (La.aA b9) rfl rfl 33 _ HT2.out (by kernel_rfl) rfl (La.ans_one _ _ _) ?_))
                    go_roundw
                    case rel => exact ⟨k + 1, mm, _, _, by omega, by go_num, HKN, HG8, HBX8, HAX8⟩
                    case measure => simp [intOf]; omega
                  · go_wp2_with (first
                      | (with_reducible refine wpList_store_row rfl 26 (.tmp 19) (.tmp 95) rfl w7.heap.size (lArr m9 (.slice c7 m9.held.length k7) (.slice c8 m9.last.length k8)) rfl rfl 26 _ HT1.out (by kernel_rfl) rfl (Ld.lArr_one _ _ _ _ _ _ _) ?_)
                      | (with_reducible refine wpList_store_row rfl 33 (.tmp 20) (.tmp 96) rfl (w7.heap.size + 1) (La.aA b9) rfl rfl 33 _ HT2.out (by kernel_rfl) rfl (La.ans_one _ _ _) ?_))
                    go_roundw
                    case rel => exact ⟨k + 1, mm, _, _, by omega, by go_num, HKN, HG8, HBX8, HAX8⟩
                    case measure => simp [intOf]; omega
            · obtain rfl : k = x3.length := by omega
              obtain ⟨d0, d1, d2, d3, d4, d5, d6, d7, d8⟩ := La.op_cells HOPR.out
              have HCR := Lib.hid (HC0.out.below HBW.out (Nat.le_refl _))
              have HSAME : Hid (La.errL mm a4 x2.cmd = 0 ∧ La.applyL mm a4 x2.cmd = mm ∧ La.answerL mm a4 x2.cmd = b5) := Lib.hid (by
                have h0 := La.err_zero.2 ⟨La.led_iff.2 HG.out.ok, HCHK.out.1, HCHK.out.2⟩
                have h1 : La.doL mm a4 x2.cmd = (mm, b5) := by
                  rw [La.do_once (by have := HKIND.out; omega) (by have := HKIND.out; omega)]
                  exact La.knows_does HG.out.ok.2.2.2.2.2 HKN.out a4
                unfold La.applyL La.answerL
                rw [if_pos h0, if_pos h0, h1]
                exact ⟨h0, rfl, rfl⟩)
              go_wp2_with ((with_reducible refine wpList_load_row rfl 26 (.tmp 14) rfl U4.heap.size rfl 26 (lArr mm (.slice c5 mm.held.length k5) (.slice c6 mm.last.length k6)) (0, 0) _ HG.out.row Try.underlying26 rfl (by kernel_rfl) ?_))
              have hca := La.apply_any mm _ _ a4 x2.cmd _ HG.out.led HCR.out HW4.out
              rw [HSAME.out.1, HSAME.out.2.1, HSAME.out.2.2] at hca
              refine hca.mono ?_
              clear hca
              rintro e w7 ⟨vh9, vl9, rfl, h1, h2, -, hwf9, hb7⟩
              obtain ⟨c9, k9, c10, k10, rfl, rfl⟩ := La.led_forms (La.applied_led h1 h2 hwf9)
              obtain ⟨W8, hW8, hb8, hR8, hA8, hz8, hs1, hs2⟩ := La.boxed w7 mm b5 (.slice c9 mm.held.length k9) (.slice c10 mm.last.length k10)
              have HB8 := Lib.hid (hb7.trans (hb8.mono hb7.size))
              have HT1 := Lib.hid hs1
              have HT2 := Lib.hid hs2
              have HG8 := Lib.hid (HG.out.below HB8.out)
              have HN8 : Hid (IsLed W8 (.agg (lArr mm (.slice c9 mm.held.length k9) (.slice c10 mm.last.length k10))) mm) := Lib.hid (La.applied_led (h1.below hb8 (Nat.le_refl _)) (h2.below hb8 (Nat.le_refl _)) hwf9)
              have HBF := Lib.hid (HBW.out.trans (HB8.out.mono HBW.out.size))
              obtain ⟨y0, y1, y2, y3⟩ := La.led_cells HG8.out.row
              obtain ⟨z0, z1, z2, z3⟩ := La.led_cells hR8
              obtain ⟨p0, p1, p2⟩ := La.ans_cells hA8
              obtain ⟨q0, q1, q2⟩ := La.ans_cells ((HB8.out.block _ (La.heap_lt HA.out)).trans HA.out)
              have hq : ∀ w', (binOp .eql 33 (.agg (La.aA b5)) (.agg (La.aA b5))).run Try.prog w' = .ok (.bool true) w' := fun w' => by go_simp
              clear h1 h2 hwf9 hb7 hb8 hR8 hA8 hz8 hs1 hs2 d0 d1 d2 d3 d4 d5 d6 d7 d8
              go_wp2_with (first
                | (with_reducible refine wpList_store_row rfl 26 (.tmp 22) (.tmp 108) rfl w7.heap.size (lArr mm (.slice c9 mm.held.length k9) (.slice c10 mm.last.length k10)) rfl rfl 26 _ HT1.out (by kernel_rfl) rfl (Ld.lArr_one _ _ _ _ _ _ _) ?_)
                | (with_reducible refine wpList_store_row rfl 33 (.tmp 23) (.tmp 109) rfl (w7.heap.size + 1) (La.aA b5) rfl rfl 33 _ HT2.out (by kernel_rfl) rfl (La.ans_one _ _ _) ?_))
              refine (Ld.same_any mm _ _ _ HG8.out.led HN8.out).mono ?_
              rintro e w9 ⟨rfl, hb9⟩
              go_wp2
              go_ret
              exact ⟨rfl, HBF.out.trans (hb9.mono HBF.out.size)⟩
        · have n3 : (x2.cmd.kind != 3) = true := by rw [h]; rfl
          have n4 : (x2.cmd.kind != 4) = true := by rw [h]; rfl
          have n5 : (x2.cmd.kind != 5) = false := by rw [h]; rfl
          clear h
          go_wp2_with (first
            | (with_reducible refine wpList_store_row rfl 26 (.tmp 14) (.tmp 39) rfl U4.heap.size (lArr m5 (.slice c3 m5.held.length k3) (.slice c4 m5.last.length k4)) rfl rfl 26 _ HS1.out (by kernel_rfl) rfl (Ld.lArr_one _ _ _ _ _ _ _) ?_)
            | (with_reducible refine wpList_store_row rfl 33 (.tmp 15) (.tmp 40) rfl (U4.heap.size + 1) (La.aA b5) rfl rfl 33 _ HS2.out (by kernel_rfl) rfl (La.ans_one _ _ _) ?_))
          go_loopw [72] (fun i wr => ∃ (k : Nat) (mm : Led) (vh vl : Value), k ≤ x3.length ∧ i = .int .i64 k ∧ Hid (La.Knows mm x2.cmd b5) ∧ Hid (La.Good wr U4.heap.size U3.heap.size mm vh vl) ∧ Hid (Below U4.heap.size U4 wr) ∧ Hid (wr.heap[U4.heap.size + 1]? = some (.cells (La.aA b5) 33 (0, 0)))) (fun i _ => x3.length - (intOf i).toNat)
          case atStart => exact ⟨0, m5, _, _, Nat.zero_le _, rfl, HKN5, HG5, HB45, HA5⟩
          case round =>
            obtain ⟨k, mm, vh, vl, hk, rfl, HKN, HG, HB, HA⟩ := hrel
            obtain ⟨c5, k5, c6, k6, rfl, rfl⟩ := La.led_forms HG.out.led
            have HBW : Hid (Below w.heap.size w wr) := Lib.hid (HB4.out.trans (HB.out.mono HB4.out.size))
            have HOPR : Hid (wr.heap[w.heap.size]? = some (.cells (La.eA x2 (.slice ar x2.cmd.nodes.length cr)) 49 (0, 0))) := Lib.hid ((HB.out.block _ (La.heap_lt HOP4.out)).trans HOP4.out)
            by_cases hlt : k < x3.length
            · obtain ⟨bb, off, cap', x, ax, cx, hv, hx, hsx, hxx, hlb, hce⟩ := La.ops_get (HW3.out.below HBW.out (Nat.le_refl _)) hlt
              simp only [Value.slice.injEq] at hv
              obtain ⟨rfl, -, rfl⟩ := hv
              obtain ⟨e0, e1, e2, e3, e4, e5, e6, e7, e8⟩ := Hd.ent_cells hce
              have hb6 : Below wr.heap.size wr (wr.alloc (.cells (La.eA x (.slice ax x.cmd.nodes.length cx)) 49)) := (Below.refl _ _).alloc (Nat.le_refl _) _
              have HGX := Lib.hid (HG.out.below hb6)
              have HB6 := Lib.hid hb6
              have HBX := Lib.hid (HB.out.trans (hb6.mono (Nat.le_of_lt HG.out.lt)))
              have HAX := Lib.hid ((hb6.block _ (La.heap_lt HA.out)).trans HA.out)
              have hopx := (hb6.block _ (La.heap_lt HOPR.out)).trans HOPR.out
              obtain ⟨d0, d1, d2, d3, d4, d5, d6, d7, d8⟩ := La.op_cells hopx
              have HC6 : Hid (IsCmd (wr.alloc (.cells (La.eA x (.slice ax x.cmd.nodes.length cx)) 49)) (.agg (La.cA x.cmd (.slice ax x.cmd.nodes.length cx))) x.cmd) := Lib.hid ⟨_, rfl, hsx.below hb6 (Nat.le_refl _), hxx.2⟩
              have HXX := Lib.hid hxx
              clear hx hsx hxx hce hb6 hopx
              by_cases h50 : 50 ≤ k
              · go_wp2
                go_roundw
                case rel => exact ⟨k + 1, mm, _, _, by omega, by go_num, HKN, HGX, HBX, HAX⟩
                case measure => simp [intOf]; omega
              · by_cases hn : x.cmd.node = x2.cmd.node
                · have en : (x.cmd.node == x2.cmd.node) = true := beq_iff_eq.2 hn
                  clear hn
                  go_wp2
                  go_roundw
                  case rel => exact ⟨k + 1, mm, _, _, by omega, by go_num, HKN, HGX, HBX, HAX⟩
                  case measure => simp [intOf]; omega
                · have en : (x.cmd.node == x2.cmd.node) = false := beq_eq_false_iff_ne.2 hn
                  have HNE := Lib.hid hn
                  clear hn
                  go_wp2_with ((with_reducible refine wpList_load_row rfl 26 (.tmp 14) rfl U4.heap.size rfl 26 (lArr mm (.slice c5 mm.held.length k5) (.slice c6 mm.last.length k6)) (0, 0) _ HGX.out.row Try.underlying26 rfl (by kernel_rfl) ?_))
                  refine (La.apply_any mm _ _ x.term x.cmd _ HGX.out.led HC6.out HXX.out.1).mono ?_
                  rintro e w7 ⟨vh9, vl9, rfl, h1, h2, -, hwf9, hb7⟩
                  have hz := La.err_cases HG.out.ok x.term x.cmd
                  have HOK9 : Hid (La.errL mm x.term x.cmd = 0 → La.LedP (La.applyL mm x.term x.cmd) ∧ La.Knows (La.applyL mm x.term x.cmd) x2.cmd b5) := Lib.hid (fun h0 => by
                    obtain ⟨g1, g2, g3⟩ := La.err_zero.1 h0
                    have h3 := La.do_ok HG.out.ok HG.out.wf HXX.out.2 g2 g3
                    unfold La.applyL
                    rw [if_pos h0]
                    exact ⟨h3.1, La.knows_kept HKN.out HNE.out⟩)
                  generalize La.applyL mm x.term x.cmd = m9 at *
                  generalize La.answerL mm x.term x.cmd = b9 at *
                  generalize La.errL mm x.term x.cmd = z9 at *
                  obtain ⟨c7, k7, c8, k8, rfl, rfl⟩ := La.led_forms (La.applied_led h1 h2 hwf9)
                  obtain ⟨W8, hW8, hb8, hR8, hA8, hz8, hs1, hs2⟩ := La.boxed w7 m9 b9 (.slice c7 m9.held.length k7) (.slice c8 m9.last.length k8)
                  have HB8 := Lib.hid (hb7.trans (hb8.mono hb7.size))
                  have HT1 := Lib.hid hs1
                  have HT2 := Lib.hid hs2
                  have HR8 := Lib.hid hR8
                  have HG8 := Lib.hid (HGX.out.below HB8.out)
                  have HBX8 := Lib.hid (HBX.out.trans (HB8.out.mono (Nat.le_of_lt HGX.out.lt)))
                  have HAX8 := Lib.hid ((HB8.out.block _ (La.heap_lt HAX.out)).trans HAX.out)
                  have HN8 : Hid (La.LedP m9 → La.Good (W8.setRow U4.heap.size (lArr m9 (.slice c7 m9.held.length k7) (.slice c8 m9.last.length k8))) U4.heap.size U3.heap.size m9 (.slice c7 m9.held.length k7) (.slice c8 m9.last.length k8)) := Lib.hid (fun q => HG8.out.next h1 h2 HGX.out.lt (by have := HGX.out.lt; have := HU34.out; omega) hb8 hwf9 q)
                  have HBX9 := Lib.hid (Ld.below_row HBX8.out (Nat.le_refl _) (lArr m9 (.slice c7 m9.held.length k7) (.slice c8 m9.last.length k8)))
                  have HAX9 : Hid ((W8.setRow U4.heap.size (lArr m9 (.slice c7 m9.held.length k7) (.slice c8 m9.last.length k8))).heap[U4.heap.size + 1]? = some (.cells (La.aA b5) 33 (0, 0))) := Lib.hid ((setRow_other _ _ _ _ (by omega)).trans HAX8.out)
                  clear h1 h2 hwf9 hb7 hb8 hR8 hA8 hz8 hs1 hs2 e0 e1 e2 e3 e4 e5 e6 e7 e8 d0 d1 d2 d3 d4 d5 d6 d7 d8
                  rcases hz with ⟨rfl, -, -⟩ | ⟨rfl, -⟩ | ⟨rfl, -⟩
                  · have HG9 := Lib.hid (HN8.out (HOK9.out rfl).1)
                    have HKN9 := Lib.hid (HOK9.out rfl).2
                    go_wp2_with (first
                      | (with_reducible refine wpList_store_row rfl 26 (.tmp 19) (.tmp 95) rfl w7.heap.size (lArr m9 (.slice c7 m9.held.length k7) (.slice c8 m9.last.length k8)) rfl rfl 26 _ HT1.out (by kernel_rfl) rfl (Ld.lArr_one _ _ _ _ _ _ _) ?_)
                      | (with_reducible refine wpList_store_row rfl 33 (.tmp 20) (.tmp 96) rfl (w7.heap.size + 1) (La.aA b9) rfl rfl 33 _ HT2.out (by kernel_rfl) rfl (La.ans_one _ _ _) ?_)
                      | (with_reducible refine wpList_load_row rfl 26 (.tmp 19) rfl w7.heap.size rfl 26 (lArr m9 (.slice c7 m9.held.length k7) (.slice c8 m9.last.length k8)) (0, 0) _ HR8.out Try.underlying26 rfl (by kernel_rfl) ?_)
                      | (with_reducible refine wpList_store_row rfl 26 (.tmp 14) (.tmp 100) rfl U4.heap.size (lArr m9 (.slice c7 m9.held.length k7) (.slice c8 m9.last.length k8)) rfl rfl 26 _ HG8.out.row (by kernel_rfl) rfl (Ld.lArr_one _ _ _ _ _ _ _) ?_))
                    go_roundw
                    case rel => exact ⟨k + 1, m9, _, _, by omega, by go_num, HKN9, HG9, HBX9, HAX9⟩
                    case measure => simp [intOf]; omega
                  · go_wp2_with (first
                      | (with_reducible refine wpList_store_row rfl 26 (.tmp 19) (.tmp 95) rfl w7.heap.size (lArr m9 (.slice c7 m9.held.length k7) (.slice c8 m9.last.length k8)) rfl rfl 26 _ HT1.out (by kernel_rfl) rfl (Ld.lArr_one _ _ _ _ _ _ _) ?_)
                      | (with_reducible refine wpList_store_row rfl 33 (.tmp 20) (.tmp 96) rfl (w7.heap.size + 1) (La.aA b9) rfl rfl 33 _ HT2.out (by kernel_rfl) rfl (La.ans_one _ _ _) ?_))
                    go_roundw
                    case rel => exact ⟨k + 1, mm, _, _, by omega, by go_num, HKN, HG8, HBX8, HAX8⟩
                    case measure => simp [intOf]; omega
                  · go_wp2_with (first
                      | (with_reducible refine wpList_store_row rfl 26 (.tmp 19) (.tmp 95) rfl w7.heap.size (lArr m9 (.slice c7 m9.held.length k7) (.slice c8 m9.last.length k8)) rfl rfl 26 _ HT1.out (by kernel_rfl) rfl (Ld.lArr_one _ _ _ _ _ _ _) ?_)
                      | (with_reducible refine wpList_store_row rfl 33 (.tmp 20) (.tmp 96) rfl (w7.heap.size + 1) (La.aA b9) rfl rfl 33 _ HT2.out (by kernel_rfl) rfl (La.ans_one _ _ _) ?_))
                    go_roundw
                    case rel => exact ⟨k + 1, mm, _, _, by omega, by go_num, HKN, HG8, HBX8, HAX8⟩
                    case measure => simp [intOf]; omega
            · obtain rfl : k = x3.length := by omega
              obtain ⟨d0, d1, d2, d3, d4, d5, d6, d7, d8⟩ := La.op_cells HOPR.out
              have HCR := Lib.hid (HC0.out.below HBW.out (Nat.le_refl _))
              have HSAME : Hid (La.errL mm a4 x2.cmd = 0 ∧ La.applyL mm a4 x2.cmd = mm ∧ La.answerL mm a4 x2.cmd = b5) := Lib.hid (by
                have h0 := La.err_zero.2 ⟨La.led_iff.2 HG.out.ok, HCHK.out.1, HCHK.out.2⟩
                have h1 : La.doL mm a4 x2.cmd = (mm, b5) := by
                  rw [La.do_once (by have := HKIND.out; omega) (by have := HKIND.out; omega)]
                  exact La.knows_does HG.out.ok.2.2.2.2.2 HKN.out a4
                unfold La.applyL La.answerL
                rw [if_pos h0, if_pos h0, h1]
                exact ⟨h0, rfl, rfl⟩)
              go_wp2_with ((with_reducible refine wpList_load_row rfl 26 (.tmp 14) rfl U4.heap.size rfl 26 (lArr mm (.slice c5 mm.held.length k5) (.slice c6 mm.last.length k6)) (0, 0) _ HG.out.row Try.underlying26 rfl (by kernel_rfl) ?_))
              have hca := La.apply_any mm _ _ a4 x2.cmd _ HG.out.led HCR.out HW4.out
              rw [HSAME.out.1, HSAME.out.2.1, HSAME.out.2.2] at hca
              refine hca.mono ?_
              clear hca
              rintro e w7 ⟨vh9, vl9, rfl, h1, h2, -, hwf9, hb7⟩
              obtain ⟨c9, k9, c10, k10, rfl, rfl⟩ := La.led_forms (La.applied_led h1 h2 hwf9)
              obtain ⟨W8, hW8, hb8, hR8, hA8, hz8, hs1, hs2⟩ := La.boxed w7 mm b5 (.slice c9 mm.held.length k9) (.slice c10 mm.last.length k10)
              have HB8 := Lib.hid (hb7.trans (hb8.mono hb7.size))
              have HT1 := Lib.hid hs1
              have HT2 := Lib.hid hs2
              have HG8 := Lib.hid (HG.out.below HB8.out)
              have HN8 : Hid (IsLed W8 (.agg (lArr mm (.slice c9 mm.held.length k9) (.slice c10 mm.last.length k10))) mm) := Lib.hid (La.applied_led (h1.below hb8 (Nat.le_refl _)) (h2.below hb8 (Nat.le_refl _)) hwf9)
              have HBF := Lib.hid (HBW.out.trans (HB8.out.mono HBW.out.size))
              obtain ⟨y0, y1, y2, y3⟩ := La.led_cells HG8.out.row
              obtain ⟨z0, z1, z2, z3⟩ := La.led_cells hR8
              obtain ⟨p0, p1, p2⟩ := La.ans_cells hA8
              obtain ⟨q0, q1, q2⟩ := La.ans_cells ((HB8.out.block _ (La.heap_lt HA.out)).trans HA.out)
              have hq : ∀ w', (binOp .eql 33 (.agg (La.aA b5)) (.agg (La.aA b5))).run Try.prog w' = .ok (.bool true) w' := fun w' => by go_simp
              clear h1 h2 hwf9 hb7 hb8 hR8 hA8 hz8 hs1 hs2 d0 d1 d2 d3 d4 d5 d6 d7 d8
              go_wp2_with (first
                | (with_reducible refine wpList_store_row rfl 26 (.tmp 22) (.tmp 108) rfl w7.heap.size (lArr mm (.slice c9 mm.held.length k9) (.slice c10 mm.last.length k10)) rfl rfl 26 _ HT1.out (by kernel_rfl) rfl (Ld.lArr_one _ _ _ _ _ _ _) ?_)
                | (with_reducible refine wpList_store_row rfl 33 (.tmp 23) (.tmp 109) rfl (w7.heap.size + 1) (La.aA b5) rfl rfl 33 _ HT2.out (by kernel_rfl) rfl (La.ans_one _ _ _) ?_))
              refine (Ld.same_any mm _ _ _ HG8.out.led HN8.out).mono ?_
              rintro e w9 ⟨rfl, hb9⟩
              go_wp2
              go_ret
              exact ⟨rfl, HBF.out.trans (hb9.mono HBF.out.size)⟩
    · have n3 : (x2.cmd.kind != 3) = true := by simp; omega
      have n4 : (x2.cmd.kind != 4) = true := by simp; omega
      have n5 : (x2.cmd.kind != 5) = true := by simp; omega
      clear hok5 hck hkn hk345
      go_wp2_with (first
        | (with_reducible refine wpList_store_row rfl 26 (.tmp 14) (.tmp 39) rfl U4.heap.size (lArr m5 (.slice c3 m5.held.length k3) (.slice c4 m5.last.length k4)) rfl rfl 26 _ HS1.out (by kernel_rfl) rfl (Ld.lArr_one _ _ _ _ _ _ _) ?_)
        | (with_reducible refine wpList_store_row rfl 33 (.tmp 15) (.tmp 40) rfl (U4.heap.size + 1) (La.aA b5) rfl rfl 33 _ HS2.out (by kernel_rfl) rfl (La.ans_one _ _ _) ?_))
      go_ret
      exact ⟨rfl, HB5.out⟩
  · go_wp2_with (first
      | (with_reducible refine wpList_store_row rfl 26 (.tmp 14) (.tmp 39) rfl U4.heap.size (lArr m5 (.slice c3 m5.held.length k3) (.slice c4 m5.last.length k4)) rfl rfl 26 _ HS1.out (by kernel_rfl) rfl (Ld.lArr_one _ _ _ _ _ _ _) ?_)
      | (with_reducible refine wpList_store_row rfl 33 (.tmp 15) (.tmp 40) rfl (U4.heap.size + 1) (La.aA b5) rfl rfl 33 _ HS2.out (by kernel_rfl) rfl (La.ans_one _ _ _) ?_))
    go_ret
    exact ⟨rfl, HB5.out⟩
  · go_wp2_with (first
      | (with_reducible refine wpList_store_row rfl 26 (.tmp 14) (.tmp 39) rfl U4.heap.size (lArr m5 (.slice c3 m5.held.length k3) (.slice c4 m5.last.length k4)) rfl rfl 26 _ HS1.out (by kernel_rfl) rfl (Ld.lArr_one _ _ _ _ _ _ _) ?_)
      | (with_reducible refine wpList_store_row rfl 33 (.tmp 15) (.tmp 40) rfl (U4.heap.size + 1) (La.aA b5) rfl rfl 33 _ HS2.out (by kernel_rfl) rfl (La.ans_one _ _ _) ?_))
    go_ret
    exact ⟨rfl, HB5.out⟩

set_option maxRecDepth 100000 in
theorem contract (H : Type) (enc : TypeId × Value → H) (W : World) (base : Nat) (args : Array Value) (ds gs : List (DataW H)) (before : List MemPlace)
    (hval0 : ∀ (j : Nat) t v, Try.f5.params[j]? = some t → args[j]? = some v → Value.okWide Try.prog W .any base t v)
    (hW : DataW.Whole enc Try.prog Try.f5.params.toList Rows.ledgerOnceSpec.vars false W args.toList ds gs before)
    (hsz0 : (DataW.weightsEach Try.prog (Try.f5.params.toList ++ Rows.ledgerOnceSpec.plain.varTypes Try.prog) (ds ++ gs)).all (· ≤ reachBytes) = true) :
    Calls Try.prog 5 args W fun e W' => ∃ v, e = .returned v ∧ Rows.ledgerOnceSpec.post enc Try.prog Try.f5 false true false false W args v W' := by
  have hval : ∀ (j : Nat) t v, Try.f5.params[j]? = some t → args[j]? = some v → Value.okWide Try.prog W .any base t v := hval0
  have hW' := hW
  obtain ⟨p, q, hA0, hV, rfl, hfz, hnd⟩ := hW
  have hA : DataW.TrodAll enc Try.prog W 0 (fun _ => true) true Try.f5.params.toList args.toList ds p := hA0
  rw [Try.params5] at hA hval
  have hsz := hsz0
  rw [Try.params5] at hsz
  obtain ⟨v0, vs0, d0, ds0, p0, q0, hargs, rfl, rfl, h0, r0⟩ := trodAll_cons hA
  obtain ⟨v1, vs1, d1, ds1, p1, q1, rfl, rfl, rfl, h1, r1⟩ := trodAll_cons r0
  obtain ⟨v2, vs2, d2, ds2, p2, q2, rfl, rfl, rfl, h2, r2⟩ := trodAll_cons r1
  obtain ⟨v3, vs3, d3, ds3, p3, q3, rfl, rfl, rfl, h3, r3⟩ := trodAll_cons r2
  obtain ⟨v4, vs4, d4, ds4, p4, q4, rfl, rfl, rfl, h4, r4⟩ := trodAll_cons r3
  obtain ⟨rfl, rfl, rfl⟩ := trodAll_nil r4
  obtain rfl : args = #[v0, v1, v2, v3, v4] := by cases args; simp_all
  obtain ⟨rfl, rfl⟩ := trodVars_none hV
  clear hA0 hval0
  have k0 := h0
  have lt0 : ∀ x ∈ p0, x.block < W.heap.size := by obtain ⟨m, hm⟩ := k0; exact DataW.trod_lt m _ _ _ hm
  have k1 := h1
  have lt1 : ∀ x ∈ p1, x.block < W.heap.size := by obtain ⟨m, hm⟩ := k1; exact DataW.trod_lt m _ _ _ hm
  have k2 := h2
  have lt2 : ∀ x ∈ p2, x.block < W.heap.size := by obtain ⟨m, hm⟩ := k2; exact DataW.trod_lt m _ _ _ hm
  have k3 := h3
  have lt3 : ∀ x ∈ p3, x.block < W.heap.size := by obtain ⟨m, hm⟩ := k3; exact DataW.trod_lt m _ _ _ hm
  have k4 := h4
  have lt4 : ∀ x ∈ p4, x.block < W.heap.size := by obtain ⟨m, hm⟩ := k4; exact DataW.trod_lt m _ _ _ hm
  obtain ⟨a0, rfl, -, -, w0⟩ := open_int Try.underlying3 (hval 0 3 v0 rfl rfl) h0
  obtain ⟨x1, w1, -⟩ := open_ops (hval 1 43 v1 rfl rfl) k1
  obtain ⟨x2, w2, -⟩ := open_op (hval 2 49 v2 rfl rfl) k2
  obtain ⟨x3, w3, -⟩ := open_ops (hval 3 43 v3 rfl rfl) k3
  obtain ⟨a4, rfl, -, -, w4⟩ := open_int Try.underlying22 (hval 4 22 v4 rfl rfl) h4
  refine (walk a0 v1 x1 v2 x2 v3 x3 a4 W w0 w1 w2 w3 w4).mono fun e W' ⟨he, bel⟩ => ?_
  subst he
  exact ⟨_, rfl, _, _, _, [], _, [], hW', trodAll_mk1 (shut_bool Try.underlying4 _), (trodAll_cons_mk (Below.trod laidOut (by kernel_rfl) (of_decide_eq_true (by kernel_rfl)) k0 bel lt0) (trodAll_cons_mk (Below.trod laidOut (by kernel_rfl) (of_decide_eq_true (by kernel_rfl)) k1 bel lt1) (trodAll_cons_mk (Below.trod laidOut (by kernel_rfl) (of_decide_eq_true (by kernel_rfl)) k2 bel lt2) (trodAll_cons_mk (Below.trod laidOut (by kernel_rfl) (of_decide_eq_true (by kernel_rfl)) k3 bel lt3) (trodAll_cons_mk (Below.trod laidOut (by kernel_rfl) (of_decide_eq_true (by kernel_rfl)) k4 bel lt4) trodAll_mk0))))), rfl, bel.frame _, fun h => by cases h⟩

set_option maxRecDepth 100000 in
theorem lifted (os : Os) (started : os.Started) (H : Type) (enc : TypeId × Value → H) :
    ReturnsInHanded {} Try.checked os 5 .any (Rows.ledgerOnceSpec.pre6 enc Try.prog Try.f5 Rows.ledgerOnceRow.domain false) (Rows.ledgerOnceSpec.post enc Try.prog Try.f5 false true false false) := by
  refine returnsInHanded_of_change_sized (C := Try.checked) own started (by kernel_rfl) Try.func5
    (ChangeSpec.witness6 (enc := enc) (C := Try.checked) false ⟨#[], #[.int .i64 0, .slice none 0 0, .agg #[.int .u64 0, .int .i64 0, .int .i64 0, .int .i64 0, .slice none 0 0, .int .u64 0, .int .u64 0, .int .u64 0, .int .u64 0], .slice none 0 0, .int .u64 0], []⟩ 8 (by kernel_rfl) (by kernel_rfl) (by kernel_rfl) (by kernel_rfl)) ?_
  intro W base args ds gs before hval0 hW hcnd hsz _
  exact contract H enc W base args ds gs before hval0 hW hsz

theorem proved : Rows.LedgerOnceSaid :=
  OpenClaim.holds_of_wide 5 Try.f5 rfl rfl rfl rfl rfl rfl rfl ⟨rfl, rfl, rfl, rfl, rfl⟩ rfl rfl rfl rfl rfl (by kernel_rfl) Try.func5 (by kernel_rfl)
    (of_decide_eq_true (by kernel_rfl)) (by unfold Func.isWrapper; first | (rw [if_pos (by decide +kernel)]; kernel_rfl) | (rw [if_neg (by decide +kernel)]; exact ⟨rfl, rfl⟩))
    (fun os started H enc _ => lifted os started H enc)
end Go.Proofs.Ytlkmdoddgfmnbaa.ledgerOnce
