/- The law LedgerApplies returns true for every ledger, every index and every command: package ledger's Apply makes of a ledger what the document's own answer makes of it, tells the same, and leaves the ledger as it was. No condition. -/
import Derived.Test.YtlkmdoddgfmnbaaSl
import Derived.Test.YtlkmdoddgfmnbaaRpG
import Derived.Test.YtlkmdoddgfmnbaaLcE
import Derived.Deep.QuietTactic
import Derived.BigQuiet
namespace Go.Proofs.Ytlkmdoddgfmnbaa.ledgerApplies
open Go.ChangeShapes Go.WideShapes Go.ChangeAt Go.RowKit
open Go.ChangeMaps (open_string shut_string)
set_option linter.unusedVariables false

theorem own : ownKnob Try.prog.godebug = none := by kernel_rfl
theorem laidOut : laidOutB Try.prog = true := by kernel_rfl

set_option maxRecDepth 100000 in
set_option maxHeartbeats 16000000 in
theorem walk (v0 : Value) (x0 : Led) (a1 : Int) (v2 : Value) (x2 : Cmd) (w : World) (w0 : IsLed w v0 x0) (b0 : IsLed.fits x0) (w1 : (Lit.int .u64 a1).wf = true) (w2 : IsCmd w v2 x2) :
    Calls Try.prog 3 #[v0, .int .u64 a1, v2] w fun e w' => e = .returned (.bool true) ∧ Below w.heap.size w w' := by
  obtain ⟨vh, vl, rfl, hh, hl, hwf⟩ := id w0
  obtain ⟨vn, rfl, hsn, hcw⟩ := id w2
  have hb0 : Below w.heap.size w ((w.alloc (.cells (lArr x0 vh vl) 26)).alloc (.cells (La.cA x2 vn) 29)) := ((Below.refl _ _).alloc (Nat.le_refl _) _).alloc (by simp) _
  have HL0 : Hid (((w.alloc (.cells (lArr x0 vh vl) 26)).alloc (.cells (La.cA x2 vn) 29)).heap[w.heap.size]? = some (.cells (lArr x0 vh vl) 26 (0, 0))) := Lib.hid ((heap_alloc_old _ _ (by simp)).trans (heap_alloc_new _ _))
  have HC0 : Hid (((w.alloc (.cells (lArr x0 vh vl) 26)).alloc (.cells (La.cA x2 vn) 29)).heap[w.heap.size + 1]? = some (.cells (La.cA x2 vn) 29 (0, 0))) := Lib.hid (La.new2 _ _ _)
  have HZ0 : Hid (((w.alloc (.cells (lArr x0 vh vl) 26)).alloc (.cells (La.cA x2 vn) 29)).heap.size = w.heap.size + 2) := Lib.hid (by simp)
  have HB0 := Lib.hid hb0
  have HI := Lib.hid w0
  have HCM := Lib.hid w2
  have HF := Lib.hid b0
  have HIW := Lib.hid w1
  clear w0 w1 w2 b0 hb0 hh hl hwf hsn hcw
  go_enter Try.func3, Try.ntmps3
  go_wp2_with fail
  refine (La.grants_any _).mono ?_
  rintro e U1 ⟨rfl, hb1⟩
  have HL1 := Lib.hid ((hb1.block _ (La.heap_lt HL0.out)).trans HL0.out)
  have HC1 := Lib.hid ((hb1.block _ (La.heap_lt HC0.out)).trans HC0.out)
  have HB1 := Lib.hid (HB0.out.trans (hb1.mono HB0.out.size))
  clear hb1
  go_wp2_with ((with_reducible refine wpList_load_row rfl 26 (.tmp 3) rfl w.heap.size rfl 26 (lArr x0 vh vl) (0, 0) _ HL1.out Try.underlying26 rfl (by kernel_rfl) ?_))
  refine (Ld.copy_own x0 _ _ (HI.out.below HB1.out (Nat.le_refl _)) HF.out).mono ?_
  rintro e U2 ⟨wh, wl, rfl, ho1, ho2, hwf, hb2⟩
  obtain ⟨o1, p1, hv1⟩ := Lr.own_slice heldC_len ho1
  subst hv1
  obtain ⟨o2, p2, hv2⟩ := Lr.own_slice lastC_len ho2
  subst hv2
  obtain ⟨U3, hU3, hb3, hR3, hz3, hs3⟩ := La.boxL U2 x0 (.slice o1 x0.held.length p1) (.slice o2 x0.last.length p2)
  have HS3 := Lib.hid hs3
  have HR3 := Lib.hid hR3
  have hb13 := hb2.trans (hb3.mono hb2.size)
  have HL3 := Lib.hid ((hb13.block _ (La.heap_lt HL1.out)).trans HL1.out)
  have HC3 := Lib.hid ((hb13.block _ (La.heap_lt HC1.out)).trans HC1.out)
  have HB3 := Lib.hid (HB1.out.trans (hb13.mono HB1.out.size))
  obtain ⟨g0, g1, g2, g3⟩ := La.led_cells hR3
  have HO3 : Hid (IsLed U3 (.agg (lArr x0 (.slice o1 x0.held.length p1) (.slice o2 x0.last.length p2))) x0) := Lib.hid ⟨_, _, rfl, (ho1.sl heldC_len).below hb3 (Nat.le_refl _), (ho2.sl lastC_len).below hb3 (Nat.le_refl _), hwf⟩
  clear ho1 ho2 hwf hb2 hb3 hR3 hz3 hs3 hb13
  go_wp2_with (first
    | (with_reducible refine wpList_store_row rfl 26 (.tmp 8) (.tmp 20) rfl U2.heap.size (lArr x0 (.slice o1 x0.held.length p1) (.slice o2 x0.last.length p2)) rfl rfl 26 _ HS3.out (by kernel_rfl) rfl (Ld.lArr_one _ _ _ _ _ _ _) ?_)
    | (with_reducible refine wpList_load_row rfl 26 (.tmp 8) rfl U2.heap.size rfl 26 (lArr x0 (.slice o1 x0.held.length p1) (.slice o2 x0.last.length p2)) (0, 0) _ HR3.out Try.underlying26 rfl (by kernel_rfl) ?_)
    | (with_reducible refine wpList_load_row rfl 29 (.tmp 5) rfl (w.heap.size + 1) rfl 29 (La.cA x2 vn) (0, 0) _ HC3.out Try.underlying29 rfl (by kernel_rfl) ?_))
  refine (La.apply_any x0 _ _ a1 x2 _ HO3.out (HCM.out.below HB3.out (Nat.le_refl _)) HIW.out).mono ?_
  rintro e U4 ⟨mh, ml, rfl, h1, h2, hap, hwf5, hb4⟩
  obtain ⟨m, hm⟩ : ∃ m, m = La.applyL x0 a1 x2 := ⟨_, rfl⟩
  obtain ⟨a, ha⟩ : ∃ a, a = La.answerL x0 a1 x2 := ⟨_, rfl⟩
  obtain ⟨z, hz⟩ : ∃ z, z = La.errL x0 a1 x2 := ⟨_, rfl⟩
  rw [← hm] at h1 h2 hwf5 ⊢
  rw [← ha, ← hz]
  obtain ⟨c1, k1, hv1⟩ := Lr.own_slice heldC_len h1
  subst hv1
  obtain ⟨c2, k2, hv2⟩ := Lr.own_slice lastC_len h2
  subst hv2
  obtain ⟨U5, hU5, hb5, hR5, hA5, hz5, hs1, hs2⟩ := La.boxed U4 m a (.slice c1 m.held.length k1) (.slice c2 m.last.length k2)
  have HS1 := Lib.hid hs1
  have HS2 := Lib.hid hs2
  have HR5 := Lib.hid hR5
  have HA5 := Lib.hid hA5
  have HZ5 := Lib.hid hz5
  have hb35 := hb4.trans (hb5.mono hb4.size)
  have HB35 := Lib.hid hb35
  have HL5 := Lib.hid ((hb35.block _ (La.heap_lt HL3.out)).trans HL3.out)
  have HC5 := Lib.hid ((hb35.block _ (La.heap_lt HC3.out)).trans HC3.out)
  have HB5 := Lib.hid (HB3.out.trans (hb35.mono HB3.out.size))
  have HH5 : Hid (OwnR 5 heldC 39 U5 U3.heap.size (.slice c1 m.held.length k1) m.held) := Lib.hid (h1.below hb5 (Nat.le_refl _))
  have HLa5 : Hid (OwnR 6 lastC 41 U5 U3.heap.size (.slice c2 m.last.length k2) m.last) := Lib.hid (h2.below hb5 (Nat.le_refl _))
  have HGH : Hid (∀ q, (Value.slice c1 m.held.length k1).ownBlock = some q → U3.heap.size ≤ q ∧ q < U4.heap.size) := Lib.hid (fun q hq => La.own_block h1 q hq)
  have HGL : Hid (∀ q, (Value.slice c2 m.last.length k2).ownBlock = some q → U3.heap.size ≤ q ∧ q < U4.heap.size) := Lib.hid (fun q hq => La.own_block h2 q hq)
  have HAP := Lib.hid hap
  have HWF5 := Lib.hid hwf5
  have HM := Lib.hid hm
  have HAN := Lib.hid ha
  have HZZ := Lib.hid hz
  clear h1 h2 hap hwf5 hb4 hb5 hR5 hA5 hz5 hs1 hs2 hb35 hm ha hz
  go_wp2_with (first
    | (with_reducible refine wpList_store_row rfl 26 (.tmp 9) (.tmp 26) rfl U4.heap.size (lArr m (.slice c1 m.held.length k1) (.slice c2 m.last.length k2)) rfl rfl 26 _ HS1.out (by kernel_rfl) rfl (Ld.lArr_one _ _ _ _ _ _ _) ?_)
    | (with_reducible refine wpList_store_row rfl 33 (.tmp 10) (.tmp 27) rfl (U4.heap.size + 1) (La.aA a) rfl rfl 33 _ HS2.out (by kernel_rfl) rfl (La.ans_one _ _ _) ?_)
    | (with_reducible refine wpList_load_row rfl 26 (.tmp 3) rfl w.heap.size rfl 26 (lArr x0 vh vl) (0, 0) _ HL5.out Try.underlying26 rfl (by kernel_rfl) ?_)
    | (with_reducible refine wpList_load_row rfl 29 (.tmp 5) rfl (w.heap.size + 1) rfl 29 (La.cA x2 vn) (0, 0) _ HC5.out Try.underlying29 rfl (by kernel_rfl) ?_))
  refine (Lr.apply_any x0 _ _ a1 x2 _ (HI.out.below HB5.out (Nat.le_refl _)) HF.out (HCM.out.below HB5.out (Nat.le_refl _)) HIW.out).mono ?_
  rintro e U6 ⟨nh, nl, rfl, h1, h2, hwf6, hb6⟩
  rw [← HM.out] at h1 h2 hwf6 ⊢
  rw [← HAN.out, ← HZZ.out]
  obtain ⟨c3, k3, hv1⟩ := Lr.own_slice heldC_len h1
  subst hv1
  obtain ⟨c4, k4, hv2⟩ := Lr.own_slice lastC_len h2
  subst hv2
  obtain ⟨U7, hU7, hb7, hR7, hA7, hz7, hs1, hs2⟩ := La.boxed U6 m a (.slice c3 m.held.length k3) (.slice c4 m.last.length k4)
  have HT1 := Lib.hid hs1
  have HT2 := Lib.hid hs2
  have HR7 := Lib.hid hR7
  have hb57 := hb6.trans (hb7.mono hb6.size)
  have HR57 := Lib.hid ((hb57.block _ (La.heap_lt HR5.out)).trans HR5.out)
  have hA57 := (hb57.block _ (La.heap_lt HA5.out)).trans HA5.out
  have HB37 := Lib.hid (HB35.out.trans (hb57.mono HB35.out.size))
  have HB7 := Lib.hid (HB5.out.trans (hb57.mono HB5.out.size))
  have HH7 := Lib.hid (HH5.out.below hb57 (Nat.le_refl _))
  have HLa7 := Lib.hid (HLa5.out.below hb57 (Nat.le_refl _))
  have HIM : Hid (IsLed U7 (.agg (lArr m (.slice c1 m.held.length k1) (.slice c2 m.last.length k2))) m) := Lib.hid ⟨_, _, rfl, HH7.out.sl heldC_len, HLa7.out.sl lastC_len, HWF5.out⟩
  have HIN : Hid (IsLed U7 (.agg (lArr m (.slice c3 m.held.length k3) (.slice c4 m.last.length k4))) m) := Lib.hid ⟨_, _, rfl, (h1.sl heldC_len).below hb7 (Nat.le_refl _), (h2.sl lastC_len).below hb7 (Nat.le_refl _), hwf6⟩
  have HAA57 := Lib.hid hA57
  have HAA7 := Lib.hid hA7
  clear h1 h2 hwf6 hb6 hb7 hR7 hA7 hz7 hs1 hs2 hb57 hA57
  go_wp2_with (first
    | (with_reducible refine wpList_store_row rfl 26 (.tmp 12) (.tmp 34) rfl U6.heap.size (lArr m (.slice c3 m.held.length k3) (.slice c4 m.last.length k4)) rfl rfl 26 _ HT1.out (by kernel_rfl) rfl (Ld.lArr_one _ _ _ _ _ _ _) ?_)
    | (with_reducible refine wpList_store_row rfl 33 (.tmp 13) (.tmp 35) rfl (U6.heap.size + 1) (La.aA a) rfl rfl 33 _ HT2.out (by kernel_rfl) rfl (La.ans_one _ _ _) ?_)
    | (with_reducible refine wpList_load_row rfl 26 (.tmp 9) rfl U4.heap.size rfl 26 (lArr m (.slice c1 m.held.length k1) (.slice c2 m.last.length k2)) (0, 0) _ HR57.out Try.underlying26 rfl (by kernel_rfl) ?_)
    | (with_reducible refine wpList_load_row rfl 26 (.tmp 12) rfl U6.heap.size rfl 26 (lArr m (.slice c3 m.held.length k3) (.slice c4 m.last.length k4)) (0, 0) _ HR7.out Try.underlying26 rfl (by kernel_rfl) ?_))
  refine (Ld.same_any m _ _ _ HIM.out HIN.out).mono ?_
  rintro e U8 ⟨rfl, hb8⟩
  have HR8 := Lib.hid ((hb8.block _ (La.heap_lt HR57.out)).trans HR57.out)
  obtain ⟨y0, y1, y2⟩ := La.ans_cells ((hb8.block _ (La.heap_lt HAA57.out)).trans HAA57.out)
  obtain ⟨z0, z1, z2⟩ := La.ans_cells ((hb8.block _ (La.heap_lt HAA7.out)).trans HAA7.out)
  have HB38 := Lib.hid (HB37.out.trans (hb8.mono HB37.out.size))
  have HH8 := Lib.hid (HH7.out.below hb8 (Nat.le_refl _))
  have HLa8 := Lib.hid (HLa7.out.below hb8 (Nat.le_refl _))
  have hq : ∀ w', (binOp .eql 33 (.agg (La.aA a)) (.agg (La.aA a))).run Try.prog w' = .ok (.bool true) w' := fun w' => by go_simp
  have hzz : (z == z) = true := beq_iff_eq.2 rfl
  obtain ⟨x9, x10, x11, x12⟩ := La.led_cells HR8.out
  have hlm := (HH8.out.sl heldC_len).len
  have hll := (HLa8.out.sl lastC_len).len
  unfold maxLen at hlm hll
  clear hb8
  go_wp2_with fail
  clear y0 y1 y2 z0 z1 z2 g0 g1 g2 g3 x9 x10 x11 x12 hq hzz
  go_loopw [53] (fun i wr => ∃ (k : Nat) (cs : List Value), k ≤ m.held.length ∧ i = .int .i64 k ∧ Hid (wr.ownsRow U3.heap.size 39 5 (.slice c1 m.held.length k1) m.held.length cs ∧ cs.length = m.held.length * 5) ∧ Hid (wr.heap[U4.heap.size]? = some (.cells (lArr m (.slice c1 m.held.length k1) (.slice c2 m.last.length k2)) 26 (0, 0))) ∧ Hid (OwnR 6 lastC 41 wr U3.heap.size (.slice c2 m.last.length k2) m.last) ∧ Hid (Below U3.heap.size U3 wr)) (fun i _ => m.held.length - (intOf i).toNat)
  case atStart => exact ⟨0, m.held.flatMap heldC, Nat.zero_le _, rfl, Lib.hid ⟨HH8.out, flat_len heldC_len _⟩, HR8, HLa8, HB38⟩
  case round =>
    obtain ⟨k, cs, hk, rfl, HOC, HRr, HLr, HBr⟩ := hrel
    obtain ⟨x9, x10, x11, x12⟩ := La.led_cells HRr.out
    by_cases hlt : k < m.held.length
    · rcases HOC.out.1.2 with ⟨-, h0⟩ | ⟨g, cap, cur, hv, hg, -, hlc, hcm, -⟩
      · omega
      · simp only [Value.slice.injEq, true_and] at hv
        obtain ⟨rfl, rfl⟩ := hv
        have hjl : k * 5 < cs.length := by have := HOC.out.2; omega
        have hcell := World.ownsRow.cells HOC.out.1 (g := g) rfl (k * 5) _ (List.getElem?_eq_getElem hjl)
        rw [add_plain, Nat.zero_add] at hcell
        have hfz := World.ownsRow.frozenAt HOC.out.1 (k * 5)
        have HGG := Lib.hid (HGH.out g rfl)
        have HGN : Hid (∀ q, (Value.slice c2 m.last.length k2).ownBlock = some q → q ≠ g) := Lib.hid (fun q hq e => HAP.out g rfl (by rw [hq, e]))
        generalize cs[k * 5] = cu at hcell
        clear hjl hg
        go_wp2
        go_roundw
        case rel => exact ⟨k + 1, _, by omega, by go_num, Lib.hid ⟨(World.ownsRow.stored HOC.out.1 (k * 5) (.int .i64 99)).1, by rw [List.length_set]; exact HOC.out.2⟩, Lib.hid ((heap_setCell_other _ _ _ _ (by show U4.heap.size ≠ g; have := HGG.out; omega)).trans HRr.out), Lib.hid (La.own_keep HLr.out fun q hq => heap_setCell_other _ _ _ _ (by show q ≠ g; exact HGN.out q hq)), Lib.hid (HBr.out.setCell (by show U3.heap.size ≤ g; exact HGG.out.1) _)⟩
        case measure => simp [intOf]; omega
    · obtain rfl : k = m.held.length := by omega
      have HB38 := HBr
      have HR8 := HRr
      have HLa8 := HLr
      obtain ⟨V, hV⟩ : ∃ V, V = wr := ⟨_, rfl⟩
      subst hV
      clear HH8 HOC HRr HLr HBr
      go_wp2
      clear x9 x10 x11 x12
      go_loopw [65] (fun i wr => ∃ (k : Nat) (cs : List Value), k ≤ m.last.length ∧ i = .int .i64 k ∧ Hid (wr.ownsRow U3.heap.size 41 6 (.slice c2 m.last.length k2) m.last.length cs ∧ cs.length = m.last.length * 6) ∧ Hid (wr.heap[U4.heap.size]? = some (.cells (lArr m (.slice c1 m.held.length k1) (.slice c2 m.last.length k2)) 26 (0, 0))) ∧ Hid (Below U3.heap.size U3 wr)) (fun i _ => m.last.length - (intOf i).toNat)
      case atStart => exact ⟨0, m.last.flatMap lastC, Nat.zero_le _, rfl, Lib.hid ⟨HLa8.out, flat_len lastC_len _⟩, HR8, HB38⟩
      case round =>
        obtain ⟨k, cs, hk, rfl, HOC, HRr, HBr⟩ := hrel
        by_cases hlt2 : k < m.last.length
        · obtain ⟨x9, x10, x11, x12⟩ := La.led_cells HRr.out
          rcases HOC.out.1.2 with ⟨-, h0⟩ | ⟨g, cap, cur, hv, hg, -, hlc, hcm, -⟩
          · omega
          · simp only [Value.slice.injEq, true_and] at hv
            obtain ⟨rfl, rfl⟩ := hv
            have hjl : k * 6 < cs.length := by have := HOC.out.2; omega
            have hcell := World.ownsRow.cells HOC.out.1 (g := g) rfl (k * 6) _ (List.getElem?_eq_getElem hjl)
            rw [add_plain, Nat.zero_add] at hcell
            have hfz := World.ownsRow.frozenAt HOC.out.1 (k * 6)
            have HGG := Lib.hid (HGL.out g rfl)
            generalize cs[k * 6] = cu at hcell
            clear hjl hg
            go_wp2
            go_roundw
            case rel => exact ⟨k + 1, _, by omega, by go_num, Lib.hid ⟨(World.ownsRow.stored HOC.out.1 (k * 6) (.int .i64 99)).1, by rw [List.length_set]; exact HOC.out.2⟩, Lib.hid ((heap_setCell_other _ _ _ _ (by show U4.heap.size ≠ g; have := HGG.out; omega)).trans HRr.out), Lib.hid (HBr.out.setCell (by show U3.heap.size ≤ g; exact HGG.out.1) _)⟩
            case measure => simp [intOf]; omega
        · obtain rfl : k = m.last.length := by omega
          obtain ⟨g0, g1, g2, g3⟩ := La.led_cells ((HBr.out.block _ (La.heap_lt HR3.out)).trans HR3.out)
          obtain ⟨t0, t1, t2, t3⟩ := La.led_cells ((HBr.out.block _ (La.heap_lt HL3.out)).trans HL3.out)
          have HBF := Lib.hid (HB3.out.trans (HBr.out.mono HB3.out.size))
          have HOF := Lib.hid (HO3.out.below HBr.out (Nat.le_refl _))
          have HIF := Lib.hid (HI.out.below HBF.out (Nat.le_refl _))
          go_wp2_with fail
          refine (Ld.same_any x0 _ _ _ HOF.out HIF.out).mono ?_
          rintro e U9 ⟨rfl, hb9⟩
          go_wp2
          go_ret
          exact ⟨rfl, HBF.out.trans (hb9.mono HBF.out.size)⟩

set_option maxRecDepth 100000 in
theorem contract (H : Type) (enc : TypeId × Value → H) (W : World) (base : Nat) (args : Array Value) (ds gs : List (DataW H)) (before : List MemPlace)
    (hval0 : ∀ (j : Nat) t v, Try.f3.params[j]? = some t → args[j]? = some v → Value.okWide Try.prog W .any base t v)
    (hW : DataW.Whole enc Try.prog Try.f3.params.toList Rows.ledgerAppliesSpec.vars false W args.toList ds gs before)
    (hsz0 : (DataW.weightsEach Try.prog (Try.f3.params.toList ++ Rows.ledgerAppliesSpec.plain.varTypes Try.prog) (ds ++ gs)).all (· ≤ reachBytes) = true) :
    Calls Try.prog 3 args W fun e W' => ∃ v, e = .returned v ∧ Rows.ledgerAppliesSpec.post enc Try.prog Try.f3 false true false false W args v W' := by
  have hval : ∀ (j : Nat) t v, Try.f3.params[j]? = some t → args[j]? = some v → Value.okWide Try.prog W .any base t v := hval0
  have hW' := hW
  obtain ⟨p, q, hA0, hV, rfl, hfz, hnd⟩ := hW
  have hA : DataW.TrodAll enc Try.prog W 0 (fun _ => true) true Try.f3.params.toList args.toList ds p := hA0
  rw [Try.params3] at hA hval
  have hsz := hsz0
  rw [Try.params3] at hsz
  obtain ⟨v0, vs0, d0, ds0, p0, q0, hargs, rfl, rfl, h0, r0⟩ := trodAll_cons hA
  obtain ⟨v1, vs1, d1, ds1, p1, q1, rfl, rfl, rfl, h1, r1⟩ := trodAll_cons r0
  obtain ⟨v2, vs2, d2, ds2, p2, q2, rfl, rfl, rfl, h2, r2⟩ := trodAll_cons r1
  obtain ⟨rfl, rfl, rfl⟩ := trodAll_nil r2
  obtain rfl : args = #[v0, v1, v2] := by cases args; simp_all
  obtain ⟨rfl, rfl⟩ := trodVars_none hV
  clear hA0 hval0
  have k0 := h0
  have lt0 : ∀ x ∈ p0, x.block < W.heap.size := by obtain ⟨m, hm⟩ := k0; exact DataW.trod_lt m _ _ _ hm
  have k1 := h1
  have lt1 : ∀ x ∈ p1, x.block < W.heap.size := by obtain ⟨m, hm⟩ := k1; exact DataW.trod_lt m _ _ _ hm
  have k2 := h2
  have lt2 : ∀ x ∈ p2, x.block < W.heap.size := by obtain ⟨m, hm⟩ := k2; exact DataW.trod_lt m _ _ _ hm
  obtain ⟨x0, w0, -, s0⟩ := open_led (hval 0 26 v0 rfl rfl) k0
  have b0 : IsLed.fits x0 := s0 (wt_arg hsz (j := 0) rfl rfl)
  obtain ⟨a1, rfl, -, -, w1⟩ := open_int Try.underlying22 (hval 1 22 v1 rfl rfl) h1
  obtain ⟨x2, w2, -⟩ := open_cmd (hval 2 29 v2 rfl rfl) k2
  refine (walk v0 x0 a1 v2 x2 W w0 b0 w1 w2).mono fun e W' ⟨he, bel⟩ => ?_
  subst he
  exact ⟨_, rfl, _, _, _, [], _, [], hW', trodAll_mk1 (shut_bool Try.underlying4 _), (trodAll_cons_mk (Below.trod laidOut (by kernel_rfl) (of_decide_eq_true (by kernel_rfl)) k0 bel lt0) (trodAll_cons_mk (Below.trod laidOut (by kernel_rfl) (of_decide_eq_true (by kernel_rfl)) k1 bel lt1) (trodAll_cons_mk (Below.trod laidOut (by kernel_rfl) (of_decide_eq_true (by kernel_rfl)) k2 bel lt2) trodAll_mk0))), rfl, bel.frame _, fun h => by cases h⟩

set_option maxRecDepth 100000 in
theorem lifted (os : Os) (started : os.Started) (H : Type) (enc : TypeId × Value → H) :
    ReturnsInHanded {} Try.checked os 3 .any (Rows.ledgerAppliesSpec.pre6 enc Try.prog Try.f3 Rows.ledgerAppliesRow.domain false) (Rows.ledgerAppliesSpec.post enc Try.prog Try.f3 false true false false) := by
  refine returnsInHanded_of_change_sized (C := Try.checked) own started (by kernel_rfl) Try.func3
    (ChangeSpec.witness6 (enc := enc) (C := Try.checked) false ⟨#[], #[.agg #[.int .i64 0, .int .u64 0, .slice none 0 0, .slice none 0 0], .int .u64 0, .agg #[.int .i64 0, .int .i64 0, .int .i64 0, .slice none 0 0, .int .u64 0, .int .u64 0, .int .u64 0, .int .u64 0]], []⟩ 8 (by kernel_rfl) (by kernel_rfl) (by kernel_rfl) (by kernel_rfl)) ?_
  intro W base args ds gs before hval0 hW hcnd hsz _
  exact contract H enc W base args ds gs before hval0 hW hsz

theorem proved : Rows.LedgerAppliesSaid :=
  OpenClaim.holds_of_wide 3 Try.f3 rfl rfl rfl rfl rfl rfl rfl ⟨rfl, rfl, rfl, rfl, rfl⟩ rfl rfl rfl rfl rfl (by kernel_rfl) Try.func3 (by kernel_rfl)
    (of_decide_eq_true (by kernel_rfl)) (by unfold Func.isWrapper; first | (rw [if_pos (by decide +kernel)]; kernel_rfl) | (rw [if_neg (by decide +kernel)]; exact ⟨rfl, rfl⟩))
    (fun os started H enc _ => lifted os started H enc)
end Go.Proofs.Ytlkmdoddgfmnbaa.ledgerApplies
