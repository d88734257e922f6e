/- The law LedgerSerials returns true for every limit and every list of commands: each grant has a Serial that is greater than all that were given ahead of it, and a token that was free. No condition. -/
import Derived.Test.YtlkmdoddgfmnbaaSl
import Derived.Test.YtlkmdoddgfmnbaaLwA
import Derived.Test.YtlkmdoddgfmnbaaLaJ
import Derived.Deep.QuietTactic
import Derived.BigQuiet
namespace Go.Proofs.Ytlkmdoddgfmnbaa.ledgerSerials
open Go.ChangeShapes Go.WideShapes Go.ChangeAt Go.RowKit
open Go.ChangeMaps (open_string shut_string)
set_option linter.unusedVariables false

theorem own : ownKnob Try.prog.godebug = none := by kernel_rfl
theorem laidOut : laidOutB Try.prog = true := by kernel_rfl

theorem La.hasT_no {t : Int} {xs : List Held} (h : ∀ x ∈ xs, x.token ≠ t) : La.hasT t xs = false :=
  List.any_eq_false.2 (fun x hx => by simpa using h x hx)
theorem La.len_of {l : Led} (h : La.LedP l) : (l.held.length : Int) ≤ l.limit := La.len_le h.2.2.2.2.1 (by have := h.1; omega)
set_option maxRecDepth 100000 in
set_option maxHeartbeats 8000000 in
theorem walk (a0 : Int) (v1 : Value) (x1 : (List Ent)) (w : World) (w0 : (Lit.int .i64 a0).wf = true) (w1 : IsLog w v1 x1) :
    Calls Try.prog 6 #[.int .i64 a0, v1] w fun e w' => e = .returned (.bool true) ∧ Below w.heap.size w w' := by
  have hnb := bounds_i64 w0
  have HW1 := Lib.hid w1
  have HNK := Lib.hid (La.norm_ok a0)
  obtain ⟨k0, hk0⟩ : ∃ k, k = La.norm a0 := ⟨_, rfl⟩
  rw [← hk0] at HNK
  unfold La.norm at hk0
  clear w0 w1
  go_enter Try.func6, Try.ntmps6
  go_wp2_with fail
  refine (La.grants_any _).mono ?_
  rintro e U0 ⟨rfl, hb0⟩
  have HB0 := Lib.hid hb0
  clear hb0
  go_wp2_with fail
  rw [← hk0]
  refine (Ld.new_any k0 _).mono ?_
  rintro e U1 ⟨rfl, hb1⟩
  have e1 : Ld.newL k0 = k0 := if_pos HNK.out
  have e2 : Ld.newN k0 = 1 := if_pos HNK.out
  have e3 : Ld.newE k0 = 0 := if_pos HNK.out
  rw [e1, e2, e3]
  obtain ⟨U2, hU2, hb2, hR2, hz2, hs2⟩ := La.boxL U1 ⟨k0, 1, [], []⟩ (.slice none 0 0) (.slice none 0 0)
  have HS2 := Lib.hid hs2
  have HB2 := Lib.hid hb2
  have HR2 := Lib.hid hR2
  have HB01 := Lib.hid (HB0.out.trans (hb1.mono HB0.out.size))
  obtain ⟨av, capv, hv1, hlv, hcv⟩ := Hd.IsLog.len HW1.out
  subst hv1
  clear e1 e2 e3 hb1 hb2 hR2 hz2 hs2 hk0
  have hkk := HNK.out
  go_wp2_with ((with_reducible refine wpList_store_row rfl 26 (.tmp 6) (.tmp 25) rfl U1.heap.size (Ld.nilA k0 1) rfl rfl 26 _ HS2.out (by kernel_rfl) rfl (La.nilA_one k0 1) ?_))
  go_loopw [8, 29] (fun tp i wr => ∃ (k : Nat) (m : Led) (vh vl : Value) (top : Int), k ≤ x1.length ∧ i = .int .i64 k ∧ tp = .int .u64 top ∧ Hid (m.limit = k0 ∧ top < m.next ∧ 0 ≤ top) ∧ Hid (La.Good wr U1.heap.size U1.heap.size m vh vl) ∧ Hid (Below U1.heap.size U1 wr)) (fun _ i _ => x1.length - (intOf i).toNat)
  case atStart => exact ⟨0, ⟨k0, 1, [], []⟩, .slice none 0 0, .slice none 0 0, 0, Nat.zero_le _, rfl, rfl, Lib.hid ⟨rfl, by show (0 : Int) < 1; decide, by decide⟩, Lib.hid ⟨HR2.out, OwnR.nil _ _ _, OwnR.nil _ _ _, fun k hk => by simp [Value.ownBlock] at hk, fun k hk => by simp [Value.ownBlock] at hk, ⟨La.wf_i64 (by show _ ≤ k0; have := HNK.out.1; omega) (by show k0 ≤ _; have := HNK.out.2; omega), by show (Lit.int .u64 1).wf = true; decide, by simp, by simp⟩, La.nil_ok HNK.out.1 HNK.out.2⟩, HB2⟩
  case round =>
    obtain ⟨k, m, vh, vl, top, hk, rfl, rfl, HM, HG, HB⟩ := hrel
    obtain ⟨c1, k1, c2, k2, rfl, rfl⟩ := La.led_forms HG.out.led
    have HZ := Lib.hid HG.out.lt
    have HBW := Lib.hid (HB01.out.trans (HB.out.mono (by have := HB01.out.size; omega)))
    have HFIN : Hid (∀ W : World, Below wr.heap.size wr W → Below w.heap.size w W) := Lib.hid (fun W hb => HBW.out.trans (hb.mono HBW.out.size))
    by_cases hlt : k < x1.length
    · obtain ⟨b, off, cap', x, ar, cr, hv, hx, hsl, hxw, hlb, hce⟩ := La.ops_get (HW1.out.below HBW.out (Nat.le_refl _)) hlt
      simp only [Value.slice.injEq] at hv
      obtain ⟨rfl, -, rfl⟩ := hv
      obtain ⟨e0, e1, e2, e3, e4, e5, e6, e7, e8⟩ := Hd.ent_cells hce
      have hb4 : Below wr.heap.size wr (wr.alloc (.cells (La.eA x (.slice ar x.cmd.nodes.length cr)) 49)) := (Below.refl _ _).alloc (Nat.le_refl _) _
      have HG4 := Lib.hid (HG.out.below hb4)
      have HB4 := Lib.hid hb4
      have HC4 : Hid (IsCmd (wr.alloc (.cells (La.eA x (.slice ar x.cmd.nodes.length cr)) 49)) (.agg (La.cA x.cmd (.slice ar x.cmd.nodes.length cr))) x.cmd) := Lib.hid ⟨_, rfl, hsl.below hb4 (Nat.le_refl _), hxw.2⟩
      have HXW := Lib.hid hxw
      clear hx hsl hxw hce hb4
      by_cases h200 : 200 ≤ k
      · go_wp2
        go_ret
        exact ⟨rfl, HFIN.out _ HB4.out⟩
      · go_wp2_with ((with_reducible refine wpList_load_row rfl 26 (.tmp 6) rfl U1.heap.size rfl 26 (lArr m (.slice c1 m.held.length k1) (.slice c2 m.last.length k2)) (0, 0) _ HG4.out.row Try.underlying26 rfl (by kernel_rfl) ?_))
        refine (La.apply_any m _ _ x.term x.cmd _ HG4.out.led HC4.out HXW.out.1).mono ?_
        rintro e w5 ⟨vh5, vl5, rfl, h1, h2, -, hwf5, hb5⟩
        have hz := La.err_cases HG.out.ok x.term x.cmd
        have HOK5 : Hid (La.errL m x.term x.cmd = 0 → (La.LedP (La.applyL m x.term x.cmd) ∧ m.next ≤ (La.applyL m x.term x.cmd).next ∧ (La.applyL m x.term x.cmd).limit = m.limit) ∧ ((La.applyL m x.term x.cmd).held.length ≤ m.held.length ∨ La.Fresh m (La.applyL m x.term x.cmd) (La.answerL m x.term x.cmd))) := Lib.hid (fun h0 => by
          obtain ⟨g1, g2, g3⟩ := La.err_zero.1 h0
          have h3 := La.do_ok HG.out.ok HG.out.wf HXW.out.2 g2 g3
          unfold La.applyL La.answerL
          rw [if_pos h0, if_pos h0]
          exact ⟨h3, La.do_len HG.out.ok⟩)
        generalize La.applyL m x.term x.cmd = m5 at *
        generalize La.answerL m x.term x.cmd = b5 at *
        generalize La.errL m x.term x.cmd = z5 at *
        obtain ⟨c3, k3, c4, k4, rfl, rfl⟩ := La.led_forms (La.applied_led h1 h2 hwf5)
        obtain ⟨W6, hW6, hb6, hR6, hA6, hz6, hs1, hs2⟩ := La.boxed w5 m5 b5 (.slice c3 m5.held.length k3) (.slice c4 m5.last.length k4)
        have HB6 := Lib.hid (HB4.out.trans ((hb5.mono HB4.out.size).trans (hb6.mono (Nat.le_trans HB4.out.size hb5.size))))
        have HS1 := Lib.hid hs1
        have HS2 := Lib.hid hs2
        have HR6 := Lib.hid hR6
        have HA6 := Lib.hid hA6
        have HZ6 := Lib.hid hz6
        have hbz : U1.heap.size < W6.heap.size := Nat.lt_of_lt_of_le HZ.out HB6.out.size
        have HN6 : Hid (∀ W : World, Below W6.heap.size W6 W → La.LedP m5 → La.Good (W.setRow U1.heap.size (lArr m5 (.slice c3 m5.held.length k3) (.slice c4 m5.last.length k4))) U1.heap.size U1.heap.size m5 (.slice c3 m5.held.length k3) (.slice c4 m5.last.length k4)) := Lib.hid (fun W hb q => La.Good.next ((HG.out.below HB6.out).below hb) h1 h2 HG4.out.lt (Nat.le_of_lt HG4.out.lt) (hb6.trans (hb.mono hb6.size)) hwf5 q)
        clear h1 h2 hwf5 hb5 hb6 hR6 hA6 hz6 hs1 hs2 e0 e1 e2 e3 e4 e5 e6 e7 e8
        have HG6 := Lib.hid (HG.out.below HB6.out)
        have HX6 := Lib.hid (HB.out.trans (HB6.out.mono (by have := HZ.out; omega)))
        rcases hz with ⟨rfl, -, -⟩ | ⟨rfl, -⟩ | ⟨rfl, -⟩
        · obtain ⟨⟨hok5, hnx, hlim⟩, hfr⟩ := HOK5.out rfl
          have HJK := Lib.hid hok5
          have hlen5 := La.len_of hok5
          have hml := HG.out.ok.2.2.2.1
          have hm5l := hok5.2.2.2.1
          have hlm : m5.limit = k0 := hlim.trans HM.out.1
          rw [hlm] at hlen5
          have hle1 : m5.held.length ≤ m.held.length + 1 := by rcases hfr with h | h; omega; exact Nat.le_of_eq h.2.2.2.2.2
          clear hok5
          have hmn := HM.out.2.1
          have hmn0 := HM.out.2.2
          obtain ⟨x0, x1, x2⟩ := La.ans_cells HA6.out
          have q3 : decide (k0 < (m5.held.length : Int)) = false := decide_eq_false (by omega)
          have q4 : decide ((m.held.length : Int) + 1 < (m5.held.length : Int)) = false := decide_eq_false (by omega)
          by_cases hc1 : b5.code = 1
          · have hcb : (b5.code == 1) = true := beq_iff_eq.2 hc1
            clear hc1
            rcases hfr with hfr | hfr
            · have q1 : decide ((m.held.length : Int) < (m5.held.length : Int)) = false := decide_eq_false (by omega)
              go_wp2_with (first
                | (with_reducible refine wpList_store_row rfl 26 (.tmp 11) (.tmp 43) rfl w5.heap.size (lArr m5 (.slice c3 m5.held.length k3) (.slice c4 m5.last.length k4)) rfl rfl 26 _ HS1.out (by kernel_rfl) rfl (Ld.lArr_one _ _ _ _ _ _ _) ?_)
                | (with_reducible refine wpList_store_row rfl 33 (.tmp 12) (.tmp 44) rfl (w5.heap.size + 1) (La.aA b5) rfl rfl 33 _ HS2.out (by kernel_rfl) rfl (La.ans_one _ _ _) ?_)
                | (with_reducible refine wpList_load_row rfl 26 (.tmp 6) rfl U1.heap.size rfl 26 (lArr m (.slice c1 m.held.length k1) (.slice c2 m.last.length k2)) (0, 0) _ HG6.out.row Try.underlying26 rfl (by kernel_rfl) ?_))
              refine (La.find_any m _ b5.token _ HG6.out.led).mono ?_
              rintro e w7 ⟨y, rfl, hb7⟩
              generalize La.hasT b5.token m.held = was
              have hs7 : (w7.alloc (.cells #[.int .i64 0, .int .i64 0, .int .u64 0, .int .u64 0, .int .u64 0] 39)).heap[w7.heap.size]? = some (.cells #[.int .i64 0, .int .i64 0, .int .u64 0, .int .u64 0, .int .u64 0] 39 (0, 0)) := heap_alloc_new _ _
              have hb8 : Below W6.heap.size W6 ((w7.alloc (.cells #[.int .i64 0, .int .i64 0, .int .u64 0, .int .u64 0, .int .u64 0] 39)).setRow w7.heap.size (La.hA y)) := hb7.trans ((Ld.below_row ((Below.refl _ _).alloc (Nat.le_refl _) _) (Nat.le_refl _) _ : Below w7.heap.size w7 _).mono hb7.size)
              obtain ⟨W8, hW8⟩ : ∃ q, (w7.alloc (.cells #[.int .i64 0, .int .i64 0, .int .u64 0, .int .u64 0, .int .u64 0] 39)).setRow w7.heap.size (La.hA y) = q := ⟨_, rfl⟩
              rw [hW8] at hb8
              have HS7 := Lib.hid hs7
              have HR8 := Lib.hid ((hb8.block _ (by have := HZ6.out; omega)).trans HR6.out)
              obtain ⟨z0, z1, z2, z3⟩ := La.led_cells HR8.out
              obtain ⟨v0, v1, v2⟩ := La.ans_cells ((hb8.block _ (by have := HZ6.out; omega)).trans HA6.out)
              have HG8 := Lib.hid (HG6.out.below hb8)
              obtain ⟨y0, y1, y2, y3⟩ := La.led_cells HG8.out.row
              have HG9 := Lib.hid (HN6.out W8 hb8 HJK.out)
              have HX9 := Lib.hid (Ld.below_row (HX6.out.trans (hb8.mono (by omega))) (Nat.le_refl _) (lArr m5 (.slice c3 m5.held.length k3) (.slice c4 m5.last.length k4)))
              have HM9 : Hid (m5.limit = k0 ∧ top < m5.next ∧ 0 ≤ top) := Lib.hid ⟨hlm, by omega, by omega⟩
              clear hb7 hb8 hs7 x0 x1 x2
              go_wp2_with (first
                | (with_reducible refine wpList_store_row rfl 39 (.tmp 14) (.tmp 53) rfl w7.heap.size (La.hA y) rfl rfl 39 _ HS7.out (by kernel_rfl) rfl (La.hA_one y) ?_)
                | (with_reducible refine wpList_load_row rfl 26 (.tmp 11) rfl w5.heap.size rfl 26 (lArr m5 (.slice c3 m5.held.length k3) (.slice c4 m5.last.length k4)) (0, 0) _ HR8.out Try.underlying26 rfl (by kernel_rfl) ?_)
                | (with_reducible refine wpList_store_row rfl 26 (.tmp 6) (.tmp 102) rfl U1.heap.size (lArr m5 (.slice c3 m5.held.length k3) (.slice c4 m5.last.length k4)) rfl rfl 26 _ HG8.out.row (by kernel_rfl) rfl (Ld.lArr_one _ _ _ _ _ _ _) ?_))
              go_roundw
              case rel => exact ⟨k + 1, m5, _, _, top, by omega, by go_num, rfl, HM9, HG9, HX9⟩
              case measure => simp [intOf]; omega
            · obtain ⟨f1, f2, f3, f4, f5, f6⟩ := hfr
              have q1 : decide ((m.held.length : Int) < (m5.held.length : Int)) = true := decide_eq_true (by omega)
              have hq1 : m.held.length < m5.held.length := by omega
              have q5 : decide (b5.serial ≤ top) = false := decide_eq_false (by omega)
              have q6 : decide (b5.token < 1) = false := decide_eq_false (by omega)
              have q7 : decide (k0 < b5.token) = false := decide_eq_false (by have := HM.out.1; omega)
              have hnt := La.hasT_no f5
              have HF1 : Hid (b5.serial < m5.next ∧ 0 ≤ b5.serial) := Lib.hid ⟨by omega, by omega⟩
              clear f1 f2 f3 f4 f5 f6
              go_wp2_with (first
                | (with_reducible refine wpList_store_row rfl 26 (.tmp 11) (.tmp 43) rfl w5.heap.size (lArr m5 (.slice c3 m5.held.length k3) (.slice c4 m5.last.length k4)) rfl rfl 26 _ HS1.out (by kernel_rfl) rfl (Ld.lArr_one _ _ _ _ _ _ _) ?_)
                | (with_reducible refine wpList_store_row rfl 33 (.tmp 12) (.tmp 44) rfl (w5.heap.size + 1) (La.aA b5) rfl rfl 33 _ HS2.out (by kernel_rfl) rfl (La.ans_one _ _ _) ?_)
                | (with_reducible refine wpList_load_row rfl 26 (.tmp 6) rfl U1.heap.size rfl 26 (lArr m (.slice c1 m.held.length k1) (.slice c2 m.last.length k2)) (0, 0) _ HG6.out.row Try.underlying26 rfl (by kernel_rfl) ?_))
              refine (La.find_any m _ b5.token _ HG6.out.led).mono ?_
              rintro e w7 ⟨y, rfl, hb7⟩
              rw [hnt]
              have hs7 : (w7.alloc (.cells #[.int .i64 0, .int .i64 0, .int .u64 0, .int .u64 0, .int .u64 0] 39)).heap[w7.heap.size]? = some (.cells #[.int .i64 0, .int .i64 0, .int .u64 0, .int .u64 0, .int .u64 0] 39 (0, 0)) := heap_alloc_new _ _
              have hb8 : Below W6.heap.size W6 ((w7.alloc (.cells #[.int .i64 0, .int .i64 0, .int .u64 0, .int .u64 0, .int .u64 0] 39)).setRow w7.heap.size (La.hA y)) := hb7.trans ((Ld.below_row ((Below.refl _ _).alloc (Nat.le_refl _) _) (Nat.le_refl _) _ : Below w7.heap.size w7 _).mono hb7.size)
              obtain ⟨W8, hW8⟩ : ∃ q, (w7.alloc (.cells #[.int .i64 0, .int .i64 0, .int .u64 0, .int .u64 0, .int .u64 0] 39)).setRow w7.heap.size (La.hA y) = q := ⟨_, rfl⟩
              rw [hW8] at hb8
              have HS7 := Lib.hid hs7
              have HR8 := Lib.hid ((hb8.block _ (by have := HZ6.out; omega)).trans HR6.out)
              obtain ⟨z0, z1, z2, z3⟩ := La.led_cells HR8.out
              obtain ⟨v0, v1, v2⟩ := La.ans_cells ((hb8.block _ (by have := HZ6.out; omega)).trans HA6.out)
              have HG8 := Lib.hid (HG6.out.below hb8)
              obtain ⟨y0, y1, y2, y3⟩ := La.led_cells HG8.out.row
              have HG9 := Lib.hid (HN6.out W8 hb8 HJK.out)
              have HX9 := Lib.hid (Ld.below_row (HX6.out.trans (hb8.mono (by omega))) (Nat.le_refl _) (lArr m5 (.slice c3 m5.held.length k3) (.slice c4 m5.last.length k4)))
              have HM9 : Hid (m5.limit = k0 ∧ b5.serial < m5.next ∧ 0 ≤ b5.serial) := Lib.hid ⟨hlm, HF1.out⟩
              clear hb7 hb8 hs7 x0 x1 x2
              go_wp2_with (first
                | (with_reducible refine wpList_store_row rfl 39 (.tmp 14) (.tmp 53) rfl w7.heap.size (La.hA y) rfl rfl 39 _ HS7.out (by kernel_rfl) rfl (La.hA_one y) ?_)
                | (with_reducible refine wpList_load_row rfl 26 (.tmp 11) rfl w5.heap.size rfl 26 (lArr m5 (.slice c3 m5.held.length k3) (.slice c4 m5.last.length k4)) (0, 0) _ HR8.out Try.underlying26 rfl (by kernel_rfl) ?_)
                | (with_reducible refine wpList_store_row rfl 26 (.tmp 6) (.tmp 102) rfl U1.heap.size (lArr m5 (.slice c3 m5.held.length k3) (.slice c4 m5.last.length k4)) rfl rfl 26 _ HG8.out.row (by kernel_rfl) rfl (Ld.lArr_one _ _ _ _ _ _ _) ?_))
              go_roundw
              case rel => exact ⟨k + 1, m5, _, _, b5.serial, by omega, by go_num, rfl, HM9, HG9, HX9⟩
              case measure => simp [intOf]; omega
          · have hcb : (b5.code == 1) = false := beq_eq_false_iff_ne.2 hc1
            clear hc1
            go_wp2_with (first
              | (with_reducible refine wpList_store_row rfl 26 (.tmp 11) (.tmp 43) rfl w5.heap.size (lArr m5 (.slice c3 m5.held.length k3) (.slice c4 m5.last.length k4)) rfl rfl 26 _ HS1.out (by kernel_rfl) rfl (Ld.lArr_one _ _ _ _ _ _ _) ?_)
              | (with_reducible refine wpList_store_row rfl 33 (.tmp 12) (.tmp 44) rfl (w5.heap.size + 1) (La.aA b5) rfl rfl 33 _ HS2.out (by kernel_rfl) rfl (La.ans_one _ _ _) ?_)
              | (with_reducible refine wpList_load_row rfl 26 (.tmp 6) rfl U1.heap.size rfl 26 (lArr m (.slice c1 m.held.length k1) (.slice c2 m.last.length k2)) (0, 0) _ HG6.out.row Try.underlying26 rfl (by kernel_rfl) ?_))
            refine (La.find_any m _ b5.token _ HG6.out.led).mono ?_
            rintro e w7 ⟨y, rfl, hb7⟩
            generalize La.hasT b5.token m.held = was
            have hs7 : (w7.alloc (.cells #[.int .i64 0, .int .i64 0, .int .u64 0, .int .u64 0, .int .u64 0] 39)).heap[w7.heap.size]? = some (.cells #[.int .i64 0, .int .i64 0, .int .u64 0, .int .u64 0, .int .u64 0] 39 (0, 0)) := heap_alloc_new _ _
            have hb8 : Below W6.heap.size W6 ((w7.alloc (.cells #[.int .i64 0, .int .i64 0, .int .u64 0, .int .u64 0, .int .u64 0] 39)).setRow w7.heap.size (La.hA y)) := hb7.trans ((Ld.below_row ((Below.refl _ _).alloc (Nat.le_refl _) _) (Nat.le_refl _) _ : Below w7.heap.size w7 _).mono hb7.size)
            obtain ⟨W8, hW8⟩ : ∃ q, (w7.alloc (.cells #[.int .i64 0, .int .i64 0, .int .u64 0, .int .u64 0, .int .u64 0] 39)).setRow w7.heap.size (La.hA y) = q := ⟨_, rfl⟩
            rw [hW8] at hb8
            have HS7 := Lib.hid hs7
            have HR8 := Lib.hid ((hb8.block _ (by have := HZ6.out; omega)).trans HR6.out)
            obtain ⟨z0, z1, z2, z3⟩ := La.led_cells HR8.out
            obtain ⟨v0, v1, v2⟩ := La.ans_cells ((hb8.block _ (by have := HZ6.out; omega)).trans HA6.out)
            have HG8 := Lib.hid (HG6.out.below hb8)
            obtain ⟨y0, y1, y2, y3⟩ := La.led_cells HG8.out.row
            have HG9 := Lib.hid (HN6.out W8 hb8 HJK.out)
            have HX9 := Lib.hid (Ld.below_row (HX6.out.trans (hb8.mono (by omega))) (Nat.le_refl _) (lArr m5 (.slice c3 m5.held.length k3) (.slice c4 m5.last.length k4)))
            have HM9 : Hid (m5.limit = k0 ∧ top < m5.next ∧ 0 ≤ top) := Lib.hid ⟨hlm, by omega, by omega⟩
            clear hb7 hb8 hs7 x0 x1 x2
            go_wp2_with (first
              | (with_reducible refine wpList_store_row rfl 39 (.tmp 14) (.tmp 53) rfl w7.heap.size (La.hA y) rfl rfl 39 _ HS7.out (by kernel_rfl) rfl (La.hA_one y) ?_)
              | (with_reducible refine wpList_load_row rfl 26 (.tmp 11) rfl w5.heap.size rfl 26 (lArr m5 (.slice c3 m5.held.length k3) (.slice c4 m5.last.length k4)) (0, 0) _ HR8.out Try.underlying26 rfl (by kernel_rfl) ?_)
              | (with_reducible refine wpList_store_row rfl 26 (.tmp 6) (.tmp 102) rfl U1.heap.size (lArr m5 (.slice c3 m5.held.length k3) (.slice c4 m5.last.length k4)) rfl rfl 26 _ HG8.out.row (by kernel_rfl) rfl (Ld.lArr_one _ _ _ _ _ _ _) ?_))
            go_roundw
            case rel => exact ⟨k + 1, m5, _, _, top, by omega, by go_num, rfl, HM9, HG9, HX9⟩
            case measure => simp [intOf]; omega
        · go_wp2_with (first
            | (with_reducible refine wpList_store_row rfl 26 (.tmp 11) (.tmp 43) rfl w5.heap.size (lArr m5 (.slice c3 m5.held.length k3) (.slice c4 m5.last.length k4)) rfl rfl 26 _ HS1.out (by kernel_rfl) rfl (Ld.lArr_one _ _ _ _ _ _ _) ?_)
            | (with_reducible refine wpList_store_row rfl 33 (.tmp 12) (.tmp 44) rfl (w5.heap.size + 1) (La.aA b5) rfl rfl 33 _ HS2.out (by kernel_rfl) rfl (La.ans_one _ _ _) ?_))
          go_roundw
          case rel => exact ⟨k + 1, m, _, _, top, by omega, by go_num, rfl, HM, HG6, HX6⟩
          case measure => simp [intOf]; omega
        · go_wp2_with (first
            | (with_reducible refine wpList_store_row rfl 26 (.tmp 11) (.tmp 43) rfl w5.heap.size (lArr m5 (.slice c3 m5.held.length k3) (.slice c4 m5.last.length k4)) rfl rfl 26 _ HS1.out (by kernel_rfl) rfl (Ld.lArr_one _ _ _ _ _ _ _) ?_)
            | (with_reducible refine wpList_store_row rfl 33 (.tmp 12) (.tmp 44) rfl (w5.heap.size + 1) (La.aA b5) rfl rfl 33 _ HS2.out (by kernel_rfl) rfl (La.ans_one _ _ _) ?_))
          go_roundw
          case rel => exact ⟨k + 1, m, _, _, top, by omega, by go_num, rfl, HM, HG6, HX6⟩
          case measure => simp [intOf]; omega
    · obtain rfl : k = x1.length := by omega
      go_wp2
      go_ret
      exact ⟨rfl, HFIN.out _ (Below.refl _ _)⟩

set_option maxRecDepth 100000 in
theorem contract (H : Type) (enc : TypeId × Value → H) (W : World) (base : Nat) (args : Array Value) (ds gs : List (DataW H)) (before : List MemPlace)
    (hval0 : ∀ (j : Nat) t v, Try.f6.params[j]? = some t → args[j]? = some v → Value.okWide Try.prog W .any base t v)
    (hW : DataW.Whole enc Try.prog Try.f6.params.toList Rows.ledgerSerialsSpec.vars false W args.toList ds gs before)
    (hsz0 : (DataW.weightsEach Try.prog (Try.f6.params.toList ++ Rows.ledgerSerialsSpec.plain.varTypes Try.prog) (ds ++ gs)).all (· ≤ reachBytes) = true) :
    Calls Try.prog 6 args W fun e W' => ∃ v, e = .returned v ∧ Rows.ledgerSerialsSpec.post enc Try.prog Try.f6 false true false false W args v W' := by
  have hval : ∀ (j : Nat) t v, Try.f6.params[j]? = some t → args[j]? = some v → Value.okWide Try.prog W .any base t v := hval0
  have hW' := hW
  obtain ⟨p, q, hA0, hV, rfl, hfz, hnd⟩ := hW
  have hA : DataW.TrodAll enc Try.prog W 0 (fun _ => true) true Try.f6.params.toList args.toList ds p := hA0
  rw [Try.params6] at hA hval
  have hsz := hsz0
  rw [Try.params6] at hsz
  obtain ⟨v0, vs0, d0, ds0, p0, q0, hargs, rfl, rfl, h0, r0⟩ := trodAll_cons hA
  obtain ⟨v1, vs1, d1, ds1, p1, q1, rfl, rfl, rfl, h1, r1⟩ := trodAll_cons r0
  obtain ⟨rfl, rfl, rfl⟩ := trodAll_nil r1
  obtain rfl : args = #[v0, v1] := by cases args; simp_all
  obtain ⟨rfl, rfl⟩ := trodVars_none hV
  clear hA0 hval0
  have k0 := h0
  have lt0 : ∀ x ∈ p0, x.block < W.heap.size := by obtain ⟨m, hm⟩ := k0; exact DataW.trod_lt m _ _ _ hm
  have k1 := h1
  have lt1 : ∀ x ∈ p1, x.block < W.heap.size := by obtain ⟨m, hm⟩ := k1; exact DataW.trod_lt m _ _ _ hm
  obtain ⟨a0, rfl, -, -, w0⟩ := open_int Try.underlying3 (hval 0 3 v0 rfl rfl) h0
  obtain ⟨x1, w1, -⟩ := open_ops (hval 1 43 v1 rfl rfl) k1
  refine (walk a0 v1 x1 W w0 w1).mono fun e W' ⟨he, bel⟩ => ?_
  subst he
  exact ⟨_, rfl, _, _, _, [], _, [], hW', trodAll_mk1 (shut_bool Try.underlying4 _), (trodAll_cons_mk (Below.trod laidOut (by kernel_rfl) (of_decide_eq_true (by kernel_rfl)) k0 bel lt0) (trodAll_cons_mk (Below.trod laidOut (by kernel_rfl) (of_decide_eq_true (by kernel_rfl)) k1 bel lt1) trodAll_mk0)), rfl, bel.frame _, fun h => by cases h⟩

set_option maxRecDepth 100000 in
theorem lifted (os : Os) (started : os.Started) (H : Type) (enc : TypeId × Value → H) :
    ReturnsInHanded {} Try.checked os 6 .any (Rows.ledgerSerialsSpec.pre6 enc Try.prog Try.f6 Rows.ledgerSerialsRow.domain false) (Rows.ledgerSerialsSpec.post enc Try.prog Try.f6 false true false false) := by
  refine returnsInHanded_of_change_sized (C := Try.checked) own started (by kernel_rfl) Try.func6
    (ChangeSpec.witness6 (enc := enc) (C := Try.checked) false ⟨#[], #[.int .i64 0, .slice none 0 0], []⟩ 8 (by kernel_rfl) (by kernel_rfl) (by kernel_rfl) (by kernel_rfl)) ?_
  intro W base args ds gs before hval0 hW hcnd hsz _
  exact contract H enc W base args ds gs before hval0 hW hsz

theorem proved : Rows.LedgerSerialsSaid :=
  OpenClaim.holds_of_wide 6 Try.f6 rfl rfl rfl rfl rfl rfl rfl ⟨rfl, rfl, rfl, rfl, rfl⟩ rfl rfl rfl rfl rfl (by kernel_rfl) Try.func6 (by kernel_rfl)
    (of_decide_eq_true (by kernel_rfl)) (by unfold Func.isWrapper; first | (rw [if_pos (by decide +kernel)]; kernel_rfl) | (rw [if_neg (by decide +kernel)]; exact ⟨rfl, rfl⟩))
    (fun os started H enc _ => lifted os started H enc)
end Go.Proofs.Ytlkmdoddgfmnbaa.ledgerSerials
