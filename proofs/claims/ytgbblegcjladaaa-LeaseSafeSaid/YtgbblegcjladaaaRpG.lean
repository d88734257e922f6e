/- The document's answer: a command applied. No condition but sizes. -/
import Derived.Test.YtgbblegcjladaaaRp
import Derived.Test.YtgbblegcjladaaaLcG
import Derived.Test.YtgbblegcjladaaaHdR
namespace Go.Proofs.Ytgbblegcjladaaa
open Go.ChangeShapes Go.WideShapes Go.ChangeAt Go.RowKit Go.Lib
set_option linter.unusedVariables false
set_option maxRecDepth 100000
namespace Lr
open Ld Cm La
/-- what the document's Apply hands back: rows that are the call's own -/
def RApplied (m : Led) (a : Ans) (z : Int) (w : World) (e : Ending) (w' : World) : Prop :=
  ∃ vh vl, e = .returned (.tuple #[.agg (lArr m vh vl), .agg (aA a), .int .i64 z]) ∧ OwnR 5 heldC 47 w' w.heap.size vh m.held ∧ OwnR 6 lastC 103 w' w.heap.size vl m.last ∧ m.wf ∧ Below w.heap.size w w'
theorem rapplied_no {w w1 : World} {z : Int} (hb : Below w.heap.size w w1) (cs ds : Array Value) :
    RApplied zLed zAns z w (.returned (.tuple #[.agg zArr, .agg #[.int .i64 0, .int .i64 0, .int .u64 0], .int .i64 z])) ((w1.setRow (w.heap.size + 2) cs).setRow (w.heap.size + 3) ds) :=
  ⟨.slice none 0 0, .slice none 0 0, rfl, OwnR.nil _ _ _, OwnR.nil _ _ _, zLed_wf, Ld.below_row (Ld.below_row hb (by omega) _) (by omega) _⟩
theorem rapplied_of {w W : World} {s B D : Nat} {m : Led} {a : Ans} {z : Int} {vh vl : Value} {cs ds : Array Value} (hs : s = w.heap.size + 2) (hb : Below w.heap.size w W) (hB : w.heap.size + 4 ≤ B) (h1 : OwnR 5 heldC 47 W B vh m.held) (hD : w.heap.size + 4 ≤ D) (h2 : OwnR 6 lastC 103 W D vl m.last) (hw : m.wf) :
    RApplied m a z w (.returned (.tuple #[.agg (lArr m vh vl), .agg (aA a), .int .i64 z])) ((W.setRow s cs).setRow (s + 1) ds) :=
  ⟨vh, vl, rfl, ((h1.row (by omega)).row (by omega)).lower (by omega), ((h2.row (by omega)).row (by omega)).lower (by omega), hw, Ld.below_row (Ld.below_row hb (by omega) _) (by omega) _⟩
theorem rapply_bad {l : Led} {i : Int} {c : Cmd} {z : Int} (h : errL l i c = z) (hz : z ≠ 0) {w : World} {e : Ending} {w' : World} (g : RApplied zLed zAns z w e w') : RApplied (applyL l i c) (answerL l i c) (errL l i c) w e w' := by
  unfold applyL answerL
  rw [if_neg (by omega), if_neg (by omega), h]
  exact g
theorem rapply_good {l : Led} {i : Int} {c : Cmd} (h : ledOk l) (h2 : chkC c = true) (h3 : i ≠ 0) {w : World} {e : Ending} {w' : World} (g : RApplied (doL l i c).1 (doL l i c).2 0 w e w') : RApplied (applyL l i c) (answerL l i c) (errL l i c) w e w' := by
  have h0 := err_zero.2 ⟨h, h2, h3⟩
  unfold applyL answerL
  rw [if_pos h0, if_pos h0, h0]
  exact g
theorem named6 {c : Cmd} {y : Held} (hk : c.kind = 6) (ht : y.token = c.token) : named c y = decide (y.serial = c.serial ∧ y.stamp = c.stamp) := by
  unfold named
  rw [if_pos hk]
  congr 1
  apply propext
  exact ⟨fun h => h.2, fun h => ⟨ht, h⟩⟩
theorem own_slice {α : Type} {sz : Nat} {C : α → List Value} {e : TypeId} {w : World} {B : Nat} {v : Value} {xs : List α} (hC : ∀ x, (C x).length = sz) (h : OwnR sz C e w B v xs) : ∃ a cap, v = .slice a xs.length cap := by
  obtain ⟨a, cap, h1, -⟩ := h.sl hC
  exact ⟨a, cap, h1⟩
theorem lastA_one (x : LastR) : (lastA x).all (·.oneCell') = true := by simp [Value.oneCell']
set_option maxRecDepth 100000 in
set_option maxHeartbeats 32000000 in
theorem apply_any (l : Led) (v u : Value) (i : Int) (c : Cmd) (w : World) (h : IsLed w v l) (hf : IsLed.fits l) (hc : IsCmd w u c) (hiw : (Lit.int .u64 i).wf = true) :
    Calls Try.prog 42 #[v, .int .u64 i, u] w (RApplied (applyL l i c) (answerL l i c) (errL l i c) w) := by
  obtain ⟨vh, vl, rfl, hh, hl, hwf⟩ := id h
  obtain ⟨vn, rfl, hsn, hcw⟩ := id hc
  obtain ⟨W4, hW4, hb4, hz4, hL4, hC4, hR4, hA4⟩ := boxes4 w l vh vl c vn
  have HI4 := Lib.hid (h.below hb4 (Nat.le_refl _))
  have HCM := Lib.hid hc
  have HF := Lib.hid hf
  have HWF := Lib.hid hwf
  have HCW := Lib.hid hcw
  have HB4 := Lib.hid hb4
  have HZ4 := Lib.hid hz4
  have HL4 := Lib.hid hL4
  have HC4 := Lib.hid hC4
  have HR4 := Lib.hid hR4
  have HA4 := Lib.hid hA4
  have HIW := Lib.hid hiw
  clear h hc hh hl hwf hsn hcw hb4 hz4 hL4 hC4 hR4 hA4 hiw hf
  go_enter Try.func42, Try.ntmps42
  go_wp2_with ((with_reducible refine wpList_load_row rfl 35 (.tmp 3) rfl w.heap.size rfl 35 (lArr l vh vl) (0, 0) _ HL4.out Try.underlying35 rfl (by kernel_rfl) ?_))
  refine (Ld.rcheck_any l _ _ HI4.out).mono ?_
  rintro e w1 ⟨z, rfl, hz, hb1⟩
  have HS1 : Hid (w.heap.size + 4 ≤ w1.heap.size) := Lib.hid (by have := hb1.size; have := HZ4.out; omega)
  have HB1 := Lib.hid (HB4.out.trans (hb1.mono (by have := HZ4.out; omega)))
  have HI1 := Lib.hid (HI4.out.below hb1 (Nat.le_refl _))
  have HL1 := Lib.hid ((hb1.block w.heap.size (by have := HZ4.out; omega)).trans HL4.out)
  have HC1 := Lib.hid ((hb1.block (w.heap.size + 1) (by have := HZ4.out; omega)).trans HC4.out)
  have HR1 := Lib.hid ((hb1.block (w.heap.size + 2) (by have := HZ4.out; omega)).trans HR4.out)
  have HA1 := Lib.hid ((hb1.block (w.heap.size + 3) (by have := HZ4.out; omega)).trans HA4.out)
  clear hb1 hW4 HL4 HC4 HR4 HA4 HI4
  rcases hz with ⟨rfl, hok⟩ | ⟨rfl, hno⟩
  · have HOK := Lib.hid hok
    clear hok
    go_wp2_with ((with_reducible refine wpList_load_row rfl 58 (.tmp 5) rfl (w.heap.size + 1) rfl 58 (cA c vn) (0, 0) _ HC1.out Try.underlying58 rfl (by kernel_rfl) ?_))
    refine (Hd.cmd_rcheck c _ _ (HCM.out.below HB1.out (Nat.le_refl _))).mono ?_
    rintro e w2 ⟨rfl, hb2⟩
    have hz2 : (cErr (chkC c) = 0 ∧ chkC c = true) ∨ (cErr (chkC c) = 40 ∧ chkC c = false) := by cases chkC c <;> simp [cErr]
    generalize cErr (chkC c) = z2 at *
    have HS2 : Hid (w.heap.size + 4 ≤ w2.heap.size) := Lib.hid (Nat.le_trans HS1.out hb2.size)
    have HB2 := Lib.hid (HB1.out.trans (hb2.mono (by have := HS1.out; omega)))
    have HI2 := Lib.hid (HI1.out.below hb2 (Nat.le_refl _))
    have HL2 := Lib.hid ((hb2.block w.heap.size (by have := HS1.out; omega)).trans HL1.out)
    have HC2 := Lib.hid ((hb2.block (w.heap.size + 1) (by have := HS1.out; omega)).trans HC1.out)
    have HR2 := Lib.hid ((hb2.block (w.heap.size + 2) (by have := HS1.out; omega)).trans HR1.out)
    have HA2 := Lib.hid ((hb2.block (w.heap.size + 3) (by have := HS1.out; omega)).trans HA1.out)
    clear hb2
    rcases hz2 with ⟨rfl, hk⟩ | ⟨rfl, hk⟩
    · have HK := Lib.hid hk
      clear hk
      by_cases hi : i = 0
      · have HFIN := Lib.hid (rapply_bad (err_arg HOK.out HK.out hi) (by decide) (rapplied_no HB2.out zArr #[.int .i64 0, .int .i64 0, .int .u64 0]))
        have e0 : (i == 0) = true := beq_iff_eq.2 hi
        clear hi
        have HA9 := Lib.hid ((setRow_other w2 (w.heap.size + 2) (w.heap.size + 3) zArr (by omega)).trans HA2.out)
        go_wp2_with (first
          | (with_reducible refine wpList_store_row rfl 35 (.tmp 6) (.tmp 27) rfl (w.heap.size + 2) zArr rfl rfl 35 _ HR2.out (by kernel_rfl) rfl zArr_one ?_)
          | (with_reducible refine wpList_store_row rfl 60 (.tmp 7) (.tmp 28) rfl (w.heap.size + 3) #[.int .i64 0, .int .i64 0, .int .u64 0] rfl rfl 60 _ HA9.out (by kernel_rfl) rfl (ans_one _ _ _) ?_))
        exact bodyPost_ret (v := .tuple #[.agg zArr, .agg #[.int .i64 0, .int .i64 0, .int .u64 0], .int .i64 1]) (results_cell3 rfl _ _ (w.heap.size + 2) (w.heap.size + 3) 35 60 _ _ (0, 0) (0, 0) _ _ rfl ((setRow_other _ _ _ _ (by omega)).trans (setRow_heap _ _ _ _ _ _ HR2.out)) Try.underlying35 rfl (by kernel_rfl) rfl (setRow_heap _ _ _ _ _ _ HA9.out) Try.underlying60 rfl (by kernel_rfl) rfl) rfl HFIN.out
      · have e0 : (i == 0) = false := beq_eq_false_iff_ne.2 hi
        have HGOOD : Hid (∀ e w', RApplied (doL l i c).1 (doL l i c).2 0 w e w' → RApplied (applyL l i c) (answerL l i c) (errL l i c) w e w') := Lib.hid (fun e w' g => rapply_good HOK.out HK.out hi g)
        have HLP := Lib.hid (led_iff.1 HOK.out)
        clear hi
        go_wp2_with ((with_reducible refine wpList_load_row rfl 35 (.tmp 3) rfl w.heap.size rfl 35 (lArr l vh vl) (0, 0) _ HL2.out Try.underlying35 rfl (by kernel_rfl) ?_))
        refine (Ld.copy_own l _ _ HI2.out HF.out).mono ?_
        rintro e w3 ⟨vh', vl', rfl, hh3, hl3, -, hb3⟩
        obtain ⟨c1, k1, hv1⟩ := own_slice heldC_len hh3
        subst hv1
        obtain ⟨c2, k2, hv2⟩ := own_slice lastC_len hl3
        subst hv2
        have HL3 := Lib.hid ((hb3.block w.heap.size (by have := HS2.out; omega)).trans HL2.out)
        obtain ⟨W3, hW3⟩ : ∃ q, w3.setRow w.heap.size (lArr l (.slice c1 l.held.length k1) (.slice c2 l.last.length k2)) = q := ⟨_, rfl⟩
        have hE3 : ∀ k, k ≠ w.heap.size → W3.heap[k]? = w3.heap[k]? := fun k hk => by rw [← hW3]; exact setRow_other _ _ _ _ hk
        have HLc : Hid (W3.heap[w.heap.size]? = some (.cells (lArr l (.slice c1 l.held.length k1) (.slice c2 l.last.length k2)) 35 (0, 0))) := Lib.hid (by rw [← hW3]; exact setRow_heap _ _ _ _ _ _ HL3.out)
        have HC3 := Lib.hid ((hE3 (w.heap.size + 1) (by omega)).trans ((hb3.block (w.heap.size + 1) (by have := HS2.out; omega)).trans HC2.out))
        have HR3 := Lib.hid ((hE3 (w.heap.size + 2) (by omega)).trans ((hb3.block (w.heap.size + 2) (by have := HS2.out; omega)).trans HR2.out))
        have HA3 := Lib.hid ((hE3 (w.heap.size + 3) (by omega)).trans ((hb3.block (w.heap.size + 3) (by have := HS2.out; omega)).trans HA2.out))
        have HB3 : Hid (Below w.heap.size w W3) := Lib.hid (by rw [← hW3]; exact Ld.below_row (HB2.out.trans (hb3.mono (by have := HS2.out; omega))) (Nat.le_refl _) _)
        have HS3 : Hid (w.heap.size + 4 ≤ W3.heap.size) := Lib.hid (by rw [← hW3]; have := hb3.size; have := HS2.out; simp; omega)
        have HBB : Hid (w.heap.size + 4 ≤ w2.heap.size) := HS2
        have HW23 : Hid (w2.heap.size ≤ W3.heap.size) := Lib.hid (by rw [← hW3]; have := hb3.size; simpa using this)
        have HOH3 : Hid (OwnR 5 heldC 47 W3 w2.heap.size (.slice c1 l.held.length k1) l.held) := Lib.hid (own_keep hh3 fun k hk => hE3 k (by have := (own_block hh3 k hk).1; have := HS2.out; omega))
        have HOL3 : Hid (OwnR 6 lastC 103 W3 w2.heap.size (.slice c2 l.last.length k2) l.last) := Lib.hid (own_keep hl3 fun k hk => hE3 k (by have := (own_block hl3 k hk).1; have := HS2.out; omega))
        have HI3 : Hid (IsLed W3 (.agg (lArr l (.slice c1 l.held.length k1) (.slice c2 l.last.length k2))) l) := Lib.hid ⟨_, _, rfl, HOH3.out.sl heldC_len, HOL3.out.sl lastC_len, HWF.out⟩
        obtain ⟨q0, q1, q2, q4, q5, q6, q7⟩ := cmd_cells HC3.out
        have hkr := chk_kind HK.out
        clear hh3 hl3 hb3 hE3 HL2 HC2 HR2 HA2 HI2 HL1 HC1 HR1 HA1 HI1
        by_cases h12 : c.kind = 1 ∨ c.kind = 2
        · have HDO := Lib.hid (do_none (l := l) (i := i) h12)
          rcases h12 with h1 | h1
          · have e1 : (c.kind == 1) = true := beq_iff_eq.2 h1
            clear h1 hkr
            have HAX := Lib.hid ((setRow_other W3 (w.heap.size + 2) (w.heap.size + 3) (lArr l (.slice c1 l.held.length k1) (.slice c2 l.last.length k2)) (by omega)).trans HA3.out)
            have HFIN : Hid (RApplied l ⟨0, 0, 0⟩ 0 w (.returned (.tuple #[.agg (lArr l (.slice c1 l.held.length k1) (.slice c2 l.last.length k2)), .agg #[.int .i64 0, .int .i64 0, .int .u64 0], .int .i64 0])) ((W3.setRow (w.heap.size + 2) (lArr l (.slice c1 l.held.length k1) (.slice c2 l.last.length k2))).setRow (w.heap.size + 3) #[.int .i64 0, .int .i64 0, .int .u64 0])) := Lib.hid
              (rapplied_of (a := ⟨0, 0, 0⟩) rfl HB3.out HBB.out HOH3.out HBB.out HOL3.out HWF.out)
            go_wp2_with (first
              | (with_reducible refine wpList_store_row rfl 35 (.tmp 3) (.tmp 30) rfl w.heap.size (lArr l (.slice c1 l.held.length k1) (.slice c2 l.last.length k2)) rfl rfl 35 _ HL3.out (by kernel_rfl) rfl (Ld.lArr_one _ _ _ _ _ _ _) ?_)
              | (with_reducible refine wpList_load_row rfl 35 (.tmp 3) rfl w.heap.size rfl 35 (lArr l (.slice c1 l.held.length k1) (.slice c2 l.last.length k2)) (0, 0) _ HLc.out Try.underlying35 rfl (by kernel_rfl) ?_)
              | (with_reducible refine wpList_store_row rfl 35 (.tmp 6) (.tmp 36) rfl (w.heap.size + 2) (lArr l (.slice c1 l.held.length k1) (.slice c2 l.last.length k2)) rfl rfl 35 _ HR3.out (by kernel_rfl) rfl (Ld.lArr_one _ _ _ _ _ _ _) ?_)
              | (with_reducible refine wpList_store_row rfl 60 (.tmp 7) (.tmp 37) rfl (w.heap.size + 3) #[.int .i64 0, .int .i64 0, .int .u64 0] rfl rfl 60 _ HAX.out (by kernel_rfl) rfl (ans_one _ _ _) ?_))
            exact bodyPost_ret (v := .tuple #[.agg (lArr l (.slice c1 l.held.length k1) (.slice c2 l.last.length k2)), .agg #[.int .i64 0, .int .i64 0, .int .u64 0], .int .i64 0]) (results_cell3 rfl _ _ (w.heap.size + 2) (w.heap.size + 3) 35 60 _ _ (0, 0) (0, 0) _ _ rfl ((setRow_other _ _ _ _ (by omega)).trans (setRow_heap _ _ _ _ _ _ HR3.out)) Try.underlying35 rfl (by kernel_rfl) rfl (setRow_heap _ _ _ _ _ _ HAX.out) Try.underlying60 rfl (by kernel_rfl) rfl) rfl (HGOOD.out _ _ (by rw [HDO.out]; exact HFIN.out))
          · have e1 : (c.kind == 1) = false := beq_eq_false_iff_ne.2 (by omega)
            have e2 : (c.kind == 2) = true := beq_iff_eq.2 h1
            clear h1 hkr
            have HAX := Lib.hid ((setRow_other W3 (w.heap.size + 2) (w.heap.size + 3) (lArr l (.slice c1 l.held.length k1) (.slice c2 l.last.length k2)) (by omega)).trans HA3.out)
            have HFIN : Hid (RApplied l ⟨0, 0, 0⟩ 0 w (.returned (.tuple #[.agg (lArr l (.slice c1 l.held.length k1) (.slice c2 l.last.length k2)), .agg #[.int .i64 0, .int .i64 0, .int .u64 0], .int .i64 0])) ((W3.setRow (w.heap.size + 2) (lArr l (.slice c1 l.held.length k1) (.slice c2 l.last.length k2))).setRow (w.heap.size + 3) #[.int .i64 0, .int .i64 0, .int .u64 0])) := Lib.hid
              (rapplied_of (a := ⟨0, 0, 0⟩) rfl HB3.out HBB.out HOH3.out HBB.out HOL3.out HWF.out)
            go_wp2_with (first
              | (with_reducible refine wpList_store_row rfl 35 (.tmp 3) (.tmp 30) rfl w.heap.size (lArr l (.slice c1 l.held.length k1) (.slice c2 l.last.length k2)) rfl rfl 35 _ HL3.out (by kernel_rfl) rfl (Ld.lArr_one _ _ _ _ _ _ _) ?_)
              | (with_reducible refine wpList_load_row rfl 35 (.tmp 3) rfl w.heap.size rfl 35 (lArr l (.slice c1 l.held.length k1) (.slice c2 l.last.length k2)) (0, 0) _ HLc.out Try.underlying35 rfl (by kernel_rfl) ?_)
              | (with_reducible refine wpList_store_row rfl 35 (.tmp 6) (.tmp 36) rfl (w.heap.size + 2) (lArr l (.slice c1 l.held.length k1) (.slice c2 l.last.length k2)) rfl rfl 35 _ HR3.out (by kernel_rfl) rfl (Ld.lArr_one _ _ _ _ _ _ _) ?_)
              | (with_reducible refine wpList_store_row rfl 60 (.tmp 7) (.tmp 37) rfl (w.heap.size + 3) #[.int .i64 0, .int .i64 0, .int .u64 0] rfl rfl 60 _ HAX.out (by kernel_rfl) rfl (ans_one _ _ _) ?_))
            exact bodyPost_ret (v := .tuple #[.agg (lArr l (.slice c1 l.held.length k1) (.slice c2 l.last.length k2)), .agg #[.int .i64 0, .int .i64 0, .int .u64 0], .int .i64 0]) (results_cell3 rfl _ _ (w.heap.size + 2) (w.heap.size + 3) 35 60 _ _ (0, 0) (0, 0) _ _ rfl ((setRow_other _ _ _ _ (by omega)).trans (setRow_heap _ _ _ _ _ _ HR3.out)) Try.underlying35 rfl (by kernel_rfl) rfl (setRow_heap _ _ _ _ _ _ HAX.out) Try.underlying60 rfl (by kernel_rfl) rfl) rfl (HGOOD.out _ _ (by rw [HDO.out]; exact HFIN.out))
        · have e1 : (c.kind == 1) = false := beq_eq_false_iff_ne.2 (by omega)
          have e2 : (c.kind == 2) = false := beq_eq_false_iff_ne.2 (by omega)
          by_cases h6 : c.kind = 6
          · have e6 : (c.kind == 6) = true := beq_iff_eq.2 h6
            have HDO6 := Lib.hid (do_reclaim (l := l) (i := i) h6)
            have H6 := Lib.hid h6
            clear h12 hkr h6
            go_wp2_with (first
              | (with_reducible refine wpList_store_row rfl 35 (.tmp 3) (.tmp 30) rfl w.heap.size (lArr l (.slice c1 l.held.length k1) (.slice c2 l.last.length k2)) rfl rfl 35 _ HL3.out (by kernel_rfl) rfl (Ld.lArr_one _ _ _ _ _ _ _) ?_)
              | (with_reducible refine wpList_load_row rfl 35 (.tmp 3) rfl w.heap.size rfl 35 (lArr l (.slice c1 l.held.length k1) (.slice c2 l.last.length k2)) (0, 0) _ HLc.out Try.underlying35 rfl (by kernel_rfl) ?_))
            refine (find_any l _ c.token _ HI3.out).mono ?_
            rintro e w5 ⟨rfl, hb5⟩
            clear q0 q1 q2 q4 q5 q6 q7
            obtain ⟨y, hy⟩ : ∃ y, y = (findT c.token l.held).getD zH := ⟨_, rfl⟩
            rw [← hy]
            have hs5 : (w5.alloc (.cells #[.int .i64 0, .int .i64 0, .int .u64 0, .int .u64 0, .int .u64 0] 47)).heap[w5.heap.size]? = some (.cells #[.int .i64 0, .int .i64 0, .int .u64 0, .int .u64 0, .int .u64 0] 47 (0, 0)) := heap_alloc_new _ _
            have hb6 : Below W3.heap.size W3 ((w5.alloc (.cells #[.int .i64 0, .int .i64 0, .int .u64 0, .int .u64 0, .int .u64 0] 47)).setRow w5.heap.size (hA y)) := hb5.trans ((Ld.below_row ((Below.refl _ _).alloc (Nat.le_refl _) _) (Nat.le_refl _) _ : Below w5.heap.size w5 _).mono hb5.size)
            have hy6 := setRow_heap _ _ _ (hA y) _ _ hs5
            have hz6 : ((w5.alloc (.cells #[.int .i64 0, .int .i64 0, .int .u64 0, .int .u64 0, .int .u64 0] 47)).setRow w5.heap.size (hA y)).heap.size = w5.heap.size + 1 := by simp
            obtain ⟨W6, hW6⟩ : ∃ q, (w5.alloc (.cells #[.int .i64 0, .int .i64 0, .int .u64 0, .int .u64 0, .int .u64 0] 47)).setRow w5.heap.size (hA y) = q := ⟨_, rfl⟩
            rw [hW6] at hb6 hy6 hz6
            have HS5 := Lib.hid hs5
            have HZ5 : Hid (w.heap.size + 4 ≤ w5.heap.size) := Lib.hid (by have := hb5.size; have := HS3.out; omega)
            have HZ6 := Lib.hid hz6
            have HL6 := Lib.hid ((hb6.block w.heap.size (by have := HS3.out; omega)).trans HLc.out)
            have hC6 := (hb6.block (w.heap.size + 1) (by have := HS3.out; omega)).trans HC3.out
            have HR6 := Lib.hid ((hb6.block (w.heap.size + 2) (by have := HS3.out; omega)).trans HR3.out)
            have HA6 := Lib.hid ((hb6.block (w.heap.size + 3) (by have := HS3.out; omega)).trans HA3.out)
            have HB6 := Lib.hid (HB3.out.trans (hb6.mono (by have := HS3.out; omega)))
            have HOH6 := Lib.hid (HOH3.out.below hb6 (Nat.le_refl _))
            have HOL6 := Lib.hid (HOL3.out.below hb6 (Nat.le_refl _))
            obtain ⟨q0, q1, q2, q4, q5, q6, q7⟩ := cmd_cells hC6
            obtain ⟨z0, z1, z2, z3, z4⟩ := row5 hy6
            obtain ⟨b0, b1, b2, b3⟩ := led_cells HL6.out
            clear hs5 hb5 hb6 hy6 hz6 hC6
            rcases find_cases c.token l.held with hf | ⟨y', hf⟩
            · have HDO := Lib.hid (HDO6.out.trans (exec_none (i := i) (by have := H6.out; omega) (fit_missing hf)))
              rw [hf]
              clear hf hy
              have HAX := Lib.hid ((setRow_other W6 (w.heap.size + 2) (w.heap.size + 3) (lArr l (.slice c1 l.held.length k1) (.slice c2 l.last.length k2)) (by omega)).trans HA6.out)
              have HFIN : Hid (RApplied l ⟨4, 0, 0⟩ 0 w (.returned (.tuple #[.agg (lArr l (.slice c1 l.held.length k1) (.slice c2 l.last.length k2)), .agg #[.int .i64 4, .int .i64 0, .int .u64 0], .int .i64 0])) ((W6.setRow (w.heap.size + 2) (lArr l (.slice c1 l.held.length k1) (.slice c2 l.last.length k2))).setRow (w.heap.size + 3) #[.int .i64 4, .int .i64 0, .int .u64 0])) := Lib.hid
                (rapplied_of (a := ⟨4, 0, 0⟩) rfl HB6.out HBB.out HOH6.out HBB.out HOL6.out HWF.out)
              go_wp2_with (first
                | (with_reducible refine wpList_store_row rfl 47 (.tmp 9) (.tmp 45) rfl w5.heap.size (hA y) rfl rfl 47 _ HS5.out (by kernel_rfl) rfl (hA_one y) ?_)
                | (with_reducible refine wpList_load_row rfl 35 (.tmp 3) rfl w.heap.size rfl 35 (lArr l (.slice c1 l.held.length k1) (.slice c2 l.last.length k2)) (0, 0) _ HL6.out Try.underlying35 rfl (by kernel_rfl) ?_)
                | (with_reducible refine wpList_store_row rfl 35 (.tmp 6) (.tmp 63) rfl (w.heap.size + 2) (lArr l (.slice c1 l.held.length k1) (.slice c2 l.last.length k2)) rfl rfl 35 _ HR6.out (by kernel_rfl) rfl (Ld.lArr_one _ _ _ _ _ _ _) ?_)
                | (with_reducible refine wpList_store_row rfl 60 (.tmp 7) (.tmp 64) rfl (w.heap.size + 3) #[.int .i64 4, .int .i64 0, .int .u64 0] rfl rfl 60 _ HAX.out (by kernel_rfl) rfl (ans_one _ _ _) ?_))
              exact bodyPost_ret (v := .tuple #[.agg (lArr l (.slice c1 l.held.length k1) (.slice c2 l.last.length k2)), .agg #[.int .i64 4, .int .i64 0, .int .u64 0], .int .i64 0]) (results_cell3 rfl _ _ (w.heap.size + 2) (w.heap.size + 3) 35 60 _ _ (0, 0) (0, 0) _ _ rfl ((setRow_other _ _ _ _ (by omega)).trans (setRow_heap _ _ _ _ _ _ HR6.out)) Try.underlying35 rfl (by kernel_rfl) rfl (setRow_heap _ _ _ _ _ _ HAX.out) Try.underlying60 rfl (by kernel_rfl) rfl) rfl (HGOOD.out _ _ (by rw [HDO.out]; exact HFIN.out))
            · rw [hf] at hy
              obtain rfl : y = y' := hy
              have ht := (find_row HLP.out.2.2.2.2.1 hf).1
              have hn := named6 H6.out ht
              have HFD := Lib.hid hf
              rw [hf]
              clear hf
              by_cases hse : y.serial = c.serial
              · have es : (y.serial != c.serial) = false := by rw [bne, beq_iff_eq.2 hse]; rfl
                by_cases hst : y.stamp = c.stamp
                · have est : (y.stamp != c.stamp) = false := by rw [bne, beq_iff_eq.2 hst]; rfl
                  have hnt : named c y = true := by rw [hn, decide_eq_true ⟨hse, hst⟩]
                  obtain ⟨hfx, hwo⟩ := fit_this HLP.out.2.2.2.2.1 HFD.out hnt
                  have HDO := Lib.hid (HDO6.out.trans (exec_free (l := l) (i := i) (c := c) (by have := H6.out; omega) (by have := H6.out; omega) hfx))
                  obtain ⟨at', hat⟩ : ∃ at', at' = fitAt c l.held := ⟨_, rfl⟩
                  rw [← hat] at hwo HDO
                  have HWO := Lib.hid hwo
                  clear hse hst hnt hn hfx hwo ht hat
                  go_wp2_with ((with_reducible refine wpList_store_row rfl 47 (.tmp 9) (.tmp 45) rfl w5.heap.size (hA y) rfl rfl 47 _ HS5.out (by kernel_rfl) rfl (hA_one y) ?_))
                  refine (without_any l.held _ c.token _ (HOH6.out.sl heldC_len) (led_fits HLP.out).1).mono ?_
                  rintro e w7 ⟨v7, rfl, hown7, -, hb7⟩
                  rw [HWO.out] at hown7
                  obtain ⟨a7, cap7, hv7⟩ := own_slice heldC_len hown7
                  subst hv7
                  obtain ⟨n7, hn7⟩ : ∃ n, n = (cutAt at' l.held).length := ⟨_, rfl⟩
                  rw [← hn7] at hown7 ⊢
                  have hL7 := (hb7.block w.heap.size (by have := HZ5.out; have := HZ6.out; omega)).trans HL6.out
                  have t2 := row2 hL7
                  have u2 := frozen_of (o := 2) hL7
                  obtain ⟨W8, hW8⟩ : ∃ q, w7.setCell ⟨w.heap.size, 2, none⟩ (.slice a7 n7 cap7) = q := ⟨_, rfl⟩
                  have HL8 : Hid (W8.heap[w.heap.size]? = some (.cells (lArr l (.slice a7 n7 cap7) (.slice c2 l.last.length k2)) 35 (0, 0))) := Lib.hid (by rw [← hW8]; exact store2 hL7 _)
                  have hE8 : ∀ k, k ≠ w.heap.size → W8.heap[k]? = w7.heap[k]? := fun k hk => by rw [← hW8]; exact heap_setCell_other _ _ _ _ (by show k ≠ w.heap.size; exact hk)
                  have HR8 := Lib.hid ((hE8 (w.heap.size + 2) (by omega)).trans ((hb7.block (w.heap.size + 2) (by have := HZ5.out; have := HZ6.out; omega)).trans HR6.out))
                  have HA8 := Lib.hid ((hE8 (w.heap.size + 3) (by omega)).trans ((hb7.block (w.heap.size + 3) (by have := HZ5.out; have := HZ6.out; omega)).trans HA6.out))
                  have HB8 : Hid (Below w.heap.size w W8) := Lib.hid (by rw [← hW8]; exact (HB6.out.trans (hb7.mono (by have := HZ5.out; have := HZ6.out; omega))).setCell (Nat.le_refl _) _)
                  have HOH8 : Hid (OwnR 5 heldC 47 W8 W6.heap.size (.slice a7 n7 cap7) (cutAt at' l.held)) := Lib.hid (own_keep hown7 fun k hk => hE8 k (by have := (own_block hown7 k hk).1; have := HZ5.out; have := HZ6.out; omega))
                  have HOL8 : Hid (OwnR 6 lastC 103 W8 w2.heap.size (.slice c2 l.last.length k2) l.last) := Lib.hid (own_keep (HOL6.out.below hb7 (Nat.le_refl _)) fun k hk => hE8 k (by have := (own_block HOL6.out k hk).1; have := HBB.out; omega))
                  have HA9 := Lib.hid ((setRow_other W8 (w.heap.size + 2) (w.heap.size + 3) (lArr l (.slice a7 n7 cap7) (.slice c2 l.last.length k2)) (by omega)).trans HA8.out)
                  have HFIN : Hid (RApplied { l with held := cutAt at' l.held } ⟨5, 0, 0⟩ 0 w (.returned (.tuple #[.agg (lArr l (.slice a7 n7 cap7) (.slice c2 l.last.length k2)), .agg #[.int .i64 5, .int .i64 0, .int .u64 0], .int .i64 0])) ((W8.setRow (w.heap.size + 2) (lArr l (.slice a7 n7 cap7) (.slice c2 l.last.length k2))).setRow (w.heap.size + 3) #[.int .i64 5, .int .i64 0, .int .u64 0])) := Lib.hid
                    (rapplied_of (m := { l with held := cutAt at' l.held }) (a := ⟨5, 0, 0⟩) rfl HB8.out (by have := HZ5.out; have := HZ6.out; omega) HOH8.out HBB.out HOL8.out ⟨HWF.out.1, HWF.out.2.1, fun x hx => HWF.out.2.2.1 x ((cut_sub _ _).subset hx), HWF.out.2.2.2⟩)
                  clear hown7 hb7 hL7 hE8 z0 z1 z2 z3 z4 b0 b1 b2 b3 hn7 q0 q1 q2 q4 q5 q6 q7
                  go_wp2_with (first
                    | (with_reducible refine wpList_load_row rfl 35 (.tmp 3) rfl w.heap.size rfl 35 (lArr l (.slice a7 n7 cap7) (.slice c2 l.last.length k2)) (0, 0) _ HL8.out Try.underlying35 rfl (by kernel_rfl) ?_)
                    | (with_reducible refine wpList_store_row rfl 35 (.tmp 6) (.tmp 71) rfl (w.heap.size + 2) (lArr l (.slice a7 n7 cap7) (.slice c2 l.last.length k2)) rfl rfl 35 _ HR8.out (by kernel_rfl) rfl (Ld.lArr_one _ _ _ _ _ _ _) ?_)
                    | (with_reducible refine wpList_store_row rfl 60 (.tmp 7) (.tmp 72) rfl (w.heap.size + 3) #[.int .i64 5, .int .i64 0, .int .u64 0] rfl rfl 60 _ HA9.out (by kernel_rfl) rfl (ans_one _ _ _) ?_))
                  exact bodyPost_ret (v := .tuple #[.agg (lArr l (.slice a7 n7 cap7) (.slice c2 l.last.length k2)), .agg #[.int .i64 5, .int .i64 0, .int .u64 0], .int .i64 0]) (results_cell3 rfl _ _ (w.heap.size + 2) (w.heap.size + 3) 35 60 _ _ (0, 0) (0, 0) _ _ rfl ((setRow_other _ _ _ _ (by omega)).trans (setRow_heap _ _ _ _ _ _ HR8.out)) Try.underlying35 rfl (by kernel_rfl) rfl (setRow_heap _ _ _ _ _ _ HA9.out) Try.underlying60 rfl (by kernel_rfl) rfl) rfl (HGOOD.out _ _ (by rw [HDO.out]; exact HFIN.out))
                · have est : (y.stamp != c.stamp) = true := by rw [bne, beq_eq_false_iff_ne.2 hst]; rfl
                  have HDO := Lib.hid (HDO6.out.trans (exec_none (i := i) (by have := H6.out; omega) (fit_other HLP.out.2.2.2.2.1 HFD.out (by rw [hn]; exact decide_eq_false (fun g => hst g.2)))))
                  clear hse hst hn ht
                  have HAX := Lib.hid ((setRow_other W6 (w.heap.size + 2) (w.heap.size + 3) (lArr l (.slice c1 l.held.length k1) (.slice c2 l.last.length k2)) (by omega)).trans HA6.out)
                  have HFIN : Hid (RApplied l ⟨4, 0, 0⟩ 0 w (.returned (.tuple #[.agg (lArr l (.slice c1 l.held.length k1) (.slice c2 l.last.length k2)), .agg #[.int .i64 4, .int .i64 0, .int .u64 0], .int .i64 0])) ((W6.setRow (w.heap.size + 2) (lArr l (.slice c1 l.held.length k1) (.slice c2 l.last.length k2))).setRow (w.heap.size + 3) #[.int .i64 4, .int .i64 0, .int .u64 0])) := Lib.hid
                    (rapplied_of (a := ⟨4, 0, 0⟩) rfl HB6.out HBB.out HOH6.out HBB.out HOL6.out HWF.out)
                  go_wp2_with (first
                    | (with_reducible refine wpList_store_row rfl 47 (.tmp 9) (.tmp 45) rfl w5.heap.size (hA y) rfl rfl 47 _ HS5.out (by kernel_rfl) rfl (hA_one y) ?_)
                    | (with_reducible refine wpList_load_row rfl 35 (.tmp 3) rfl w.heap.size rfl 35 (lArr l (.slice c1 l.held.length k1) (.slice c2 l.last.length k2)) (0, 0) _ HL6.out Try.underlying35 rfl (by kernel_rfl) ?_)
                    | (with_reducible refine wpList_store_row rfl 35 (.tmp 6) (.tmp 63) rfl (w.heap.size + 2) (lArr l (.slice c1 l.held.length k1) (.slice c2 l.last.length k2)) rfl rfl 35 _ HR6.out (by kernel_rfl) rfl (Ld.lArr_one _ _ _ _ _ _ _) ?_)
                    | (with_reducible refine wpList_store_row rfl 60 (.tmp 7) (.tmp 64) rfl (w.heap.size + 3) #[.int .i64 4, .int .i64 0, .int .u64 0] rfl rfl 60 _ HAX.out (by kernel_rfl) rfl (ans_one _ _ _) ?_))
                  exact bodyPost_ret (v := .tuple #[.agg (lArr l (.slice c1 l.held.length k1) (.slice c2 l.last.length k2)), .agg #[.int .i64 4, .int .i64 0, .int .u64 0], .int .i64 0]) (results_cell3 rfl _ _ (w.heap.size + 2) (w.heap.size + 3) 35 60 _ _ (0, 0) (0, 0) _ _ rfl ((setRow_other _ _ _ _ (by omega)).trans (setRow_heap _ _ _ _ _ _ HR6.out)) Try.underlying35 rfl (by kernel_rfl) rfl (setRow_heap _ _ _ _ _ _ HAX.out) Try.underlying60 rfl (by kernel_rfl) rfl) rfl (HGOOD.out _ _ (by rw [HDO.out]; exact HFIN.out))
              · have es : (y.serial != c.serial) = true := by rw [bne, beq_eq_false_iff_ne.2 hse]; rfl
                have HDO := Lib.hid (HDO6.out.trans (exec_none (i := i) (by have := H6.out; omega) (fit_other HLP.out.2.2.2.2.1 HFD.out (by rw [hn]; exact decide_eq_false (fun g => hse g.1)))))
                clear hse hn ht
                have HAX := Lib.hid ((setRow_other W6 (w.heap.size + 2) (w.heap.size + 3) (lArr l (.slice c1 l.held.length k1) (.slice c2 l.last.length k2)) (by omega)).trans HA6.out)
                have HFIN : Hid (RApplied l ⟨4, 0, 0⟩ 0 w (.returned (.tuple #[.agg (lArr l (.slice c1 l.held.length k1) (.slice c2 l.last.length k2)), .agg #[.int .i64 4, .int .i64 0, .int .u64 0], .int .i64 0])) ((W6.setRow (w.heap.size + 2) (lArr l (.slice c1 l.held.length k1) (.slice c2 l.last.length k2))).setRow (w.heap.size + 3) #[.int .i64 4, .int .i64 0, .int .u64 0])) := Lib.hid
                  (rapplied_of (a := ⟨4, 0, 0⟩) rfl HB6.out HBB.out HOH6.out HBB.out HOL6.out HWF.out)
                go_wp2_with (first
                  | (with_reducible refine wpList_store_row rfl 47 (.tmp 9) (.tmp 45) rfl w5.heap.size (hA y) rfl rfl 47 _ HS5.out (by kernel_rfl) rfl (hA_one y) ?_)
                  | (with_reducible refine wpList_load_row rfl 35 (.tmp 3) rfl w.heap.size rfl 35 (lArr l (.slice c1 l.held.length k1) (.slice c2 l.last.length k2)) (0, 0) _ HL6.out Try.underlying35 rfl (by kernel_rfl) ?_)
                  | (with_reducible refine wpList_store_row rfl 35 (.tmp 6) (.tmp 63) rfl (w.heap.size + 2) (lArr l (.slice c1 l.held.length k1) (.slice c2 l.last.length k2)) rfl rfl 35 _ HR6.out (by kernel_rfl) rfl (Ld.lArr_one _ _ _ _ _ _ _) ?_)
                  | (with_reducible refine wpList_store_row rfl 60 (.tmp 7) (.tmp 64) rfl (w.heap.size + 3) #[.int .i64 4, .int .i64 0, .int .u64 0] rfl rfl 60 _ HAX.out (by kernel_rfl) rfl (ans_one _ _ _) ?_))
                exact bodyPost_ret (v := .tuple #[.agg (lArr l (.slice c1 l.held.length k1) (.slice c2 l.last.length k2)), .agg #[.int .i64 4, .int .i64 0, .int .u64 0], .int .i64 0]) (results_cell3 rfl _ _ (w.heap.size + 2) (w.heap.size + 3) 35 60 _ _ (0, 0) (0, 0) _ _ rfl ((setRow_other _ _ _ _ (by omega)).trans (setRow_heap _ _ _ _ _ _ HR6.out)) Try.underlying35 rfl (by kernel_rfl) rfl (setRow_heap _ _ _ _ _ _ HAX.out) Try.underlying60 rfl (by kernel_rfl) rfl) rfl (HGOOD.out _ _ (by rw [HDO.out]; exact HFIN.out))
          · have e6 : (c.kind == 6) = false := beq_eq_false_iff_ne.2 h6
            have HDOO := Lib.hid (do_once (l := l) (i := i) h12 h6)
            have HKD : Hid (c.kind = 3 ∨ c.kind = 4 ∨ c.kind = 5) := Lib.hid (by omega)
            have hb3c := (led_cells HLc.out).2.2.2
            have HO4 := Lib.hid (HOL3.out.sl lastC_len)
            have hlen7 := last_short HLP.out.2.2.2.2.2
            clear h12 hkr h6
            go_wp2_with ((with_reducible refine wpList_store_row rfl 35 (.tmp 3) (.tmp 30) rfl w.heap.size (lArr l (.slice c1 l.held.length k1) (.slice c2 l.last.length k2)) rfl rfl 35 _ HL3.out (by kernel_rfl) rfl (Ld.lArr_one _ _ _ _ _ _ _) ?_))
            go_wp2
            go_loopw [76] (fun i wr => ∃ k : Nat, k ≤ l.last.length ∧ i = .int .i64 k ∧ Hid (∀ y ∈ l.last.take k, y.node = c.node → older c y = false ∧ again c y = false) ∧ Hid (Below W3.heap.size W3 wr)) (fun i _ => l.last.length - (intOf i).toNat)
            case atStart => exact ⟨0, Nat.zero_le _, rfl, Lib.hid (by simp), Lib.hid (Below.refl _ _)⟩
            case round =>
              obtain ⟨k, hk, rfl, HNO, HB⟩ := hrel
              have HLr := Lib.hid ((HB.out.block w.heap.size (by have := HS3.out; omega)).trans HLc.out)
              have HCr := Lib.hid ((HB.out.block (w.heap.size + 1) (by have := HS3.out; omega)).trans HC3.out)
              have HRr := Lib.hid ((HB.out.block (w.heap.size + 2) (by have := HS3.out; omega)).trans HR3.out)
              have HAr := Lib.hid ((HB.out.block (w.heap.size + 3) (by have := HS3.out; omega)).trans HA3.out)
              have HBr : Hid (Below w.heap.size w wr) := Lib.hid (HB3.out.trans (HB.out.mono (by have := HS3.out; omega)))
              have HSr : Hid (w.heap.size + 4 ≤ wr.heap.size) := Lib.hid (Nat.le_trans HS3.out HB.out.size)
              have HOHr := Lib.hid (HOH3.out.below HB.out (Nat.le_refl _))
              have HOLr := Lib.hid (HOL3.out.below HB.out (Nat.le_refl _))
              clear q0 q1 q2 q4 q5 q6 q7 hb3c
              by_cases hlt : k < l.last.length
              · obtain ⟨b, off, hc2, hlb, hce⟩ : ∃ b off, c2 = some ⟨b, off, none⟩ ∧ b < wr.heap.size ∧ ∀ i x, l.last[i]? = some x → ∀ j u, (lastC x)[j]? = some u → wr.cell? ⟨b, off + (i * 6 + j), none⟩ = some u := by
                  obtain ⟨a8, cp8, hv8, -, -, h4⟩ := HOLr.out.sl lastC_len
                  simp only [Value.slice.injEq] at hv8
                  obtain ⟨b, off, h1, h2, h3⟩ := rows_open hlt h4
                  exact ⟨b, off, hv8.1.trans h1, h2, h3⟩
                subst hc2
                have hce := fun j u hu => hce k _ (rgetD hlt) j u hu
                have HT := Lib.hid (rtake hlt)
                have HGT := Lib.hid (List.getElem_mem hlt)
                generalize l.last[k] = y at *
                obtain ⟨x0, x1, x2, x3, x4, x5⟩ := last_cells hce
                clear hce
                obtain ⟨W6, hW6⟩ : ∃ q, wr.alloc (.cells #[.int .i64 y.node, .int .u64 y.boot, .int .u64 y.seq, .int .i64 y.code, .int .i64 y.token, .int .u64 y.serial] 103) = q := ⟨_, rfl⟩
                have hb6 : Below wr.heap.size wr W6 := by rw [← hW6]; exact (Below.refl _ _).alloc (Nat.le_refl _) _
                have hy6 : W6.heap[wr.heap.size]? = some (.cells (lastA y) 103 (0, 0)) := by rw [← hW6]; exact heap_alloc_new _ _
                have HL6 := Lib.hid ((hb6.block w.heap.size (by have := HSr.out; omega)).trans HLr.out)
                have hC6 := (hb6.block (w.heap.size + 1) (by have := HSr.out; omega)).trans HCr.out
                have HR6 := Lib.hid ((hb6.block (w.heap.size + 2) (by have := HSr.out; omega)).trans HRr.out)
                have HA6 := Lib.hid ((hb6.block (w.heap.size + 3) (by have := HSr.out; omega)).trans HAr.out)
                have HB6 := Lib.hid (HBr.out.trans (hb6.mono HBr.out.size))
                have HX6 := Lib.hid (HB.out.trans (hb6.mono HB.out.size))
                have HOH6 := Lib.hid (HOHr.out.below hb6 (Nat.le_refl _))
                have HOL6 := Lib.hid (HOLr.out.below hb6 (Nat.le_refl _))
                obtain ⟨q0, q1, q2, q4, q5, q6, q7⟩ := cmd_cells hC6
                obtain ⟨z0, z1, z2, z3, z4, z5⟩ := row6 hy6
                obtain ⟨b0, b1, b2, b3⟩ := led_cells HL6.out
                have hsr := HSr.out
                clear hb6 hy6 hC6
                by_cases hn : y.node = c.node
                · have en : (y.node != c.node) = false := by rw [bne, beq_iff_eq.2 hn]; rfl
                  cases ho : older c y
                  · have hno : ¬ (c.boot < y.boot ∨ y.boot = c.boot ∧ c.seq < y.seq) := of_decide_eq_false ho
                    have hb0 : ¬ (c.boot < y.boot) := fun h => hno (.inl h)
                    by_cases hbo : y.boot = c.boot
                    · have eb : (y.boot == c.boot) = true := beq_iff_eq.2 hbo
                      have hs0 : ¬ (c.seq < y.seq) := fun h => hno (.inr ⟨hbo, h⟩)
                      by_cases hse : y.seq = c.seq
                      · have es : (y.seq == c.seq) = true := beq_iff_eq.2 hse
                        have HDO := Lib.hid (HDOO.out.trans (once_again (i := i) HLP.out HGT.out hn ho (decide_eq_true ⟨hbo, hse⟩)))
                        clear hn ho hno hbo hse
                        have hne0 : w.heap.size ≠ wr.heap.size := by omega
                        have hne2 : w.heap.size + 1 + 1 ≠ wr.heap.size := by omega
                        have hne3 : w.heap.size + 1 + 1 + 1 ≠ wr.heap.size := by omega
                        have r0 := (cell_of_row W6 _ 0 _ _ _ HR6.out).trans rfl
                        have r1 := (cell_of_row W6 _ 1 _ _ _ HR6.out).trans rfl
                        have r2 := (cell_of_row W6 _ 2 _ _ _ HR6.out).trans rfl
                        have r3 := (cell_of_row W6 _ 3 _ _ _ HR6.out).trans rfl
                        have s0 := (cell_of_row W6 _ 0 _ _ _ HA6.out).trans rfl
                        have s1 := (cell_of_row W6 _ 1 _ _ _ HA6.out).trans rfl
                        have s2 := (cell_of_row W6 _ 2 _ _ _ HA6.out).trans rfl
                        have f0 := frozen_of (o := 0) HR6.out
                        have f1 := frozen_of (o := 1) HR6.out
                        have f2 := frozen_of (o := 2) HR6.out
                        have f3 := frozen_of (o := 3) HR6.out
                        have g0 := frozen_of (o := 0) HA6.out
                        have g1 := frozen_of (o := 1) HA6.out
                        have g2 := frozen_of (o := 2) HA6.out
                        go_wp2_with fail
                        clear x0 x1 x2 x3 x4 x5 q0 q1 q2 q4 q5 q6 q7 z0 z1 z2 eb es hs0 hb0 en e0 e1 e2 e6
                        go_region
                        all_goals
                          generalize hWz : World.drew _ = Wz
                          obtain ⟨V1, hV1⟩ : ∃ U, W6.setCells (w.heap.size + 2) 0 [.int .i64 l.limit, .int .u64 l.next, .slice c1 l.held.length k1, .slice (some ⟨b, off, none⟩) l.last.length k2] = U := ⟨_, rfl⟩
                          obtain ⟨V2, hV2⟩ : ∃ U, V1.setCells (w.heap.size + 3) 0 [.int .i64 y.code, .int .i64 y.token, .int .u64 y.serial] = U := ⟨_, rfl⟩
                          have hWze : Wz = V2.drew := by rw [← hV2, ← hV1]; exact hWz.symm
                          have hd : Wz.heap = V2.heap := by rw [hWze]; rfl
                          have hE1 : ∀ k, k ≠ w.heap.size + 2 → V1.heap[k]? = W6.heap[k]? := fun k h => by rw [← hV1]; exact other_cells _ _ _ _ h
                          have hE2 : ∀ k, k ≠ w.heap.size + 3 → V2.heap[k]? = V1.heap[k]? := fun k h => by rw [← hV2]; exact other_cells _ _ _ _ h
                          have hB1 : Below w.heap.size W6 V1 := by rw [← hV1]; exact below_cells w.heap.size (by omega) _ _ _
                          have hB2 : Below w.heap.size V1 V2 := by rw [← hV2]; exact below_cells w.heap.size (by omega) _ _ _
                          have hR1' : V1.heap[w.heap.size + 2]? = some (.cells #[.int .i64 l.limit, .int .u64 l.next, .slice c1 l.held.length k1, .slice (some ⟨b, off, none⟩) l.last.length k2] 35 (0, 0)) := by rw [← hV1]; exact row_cells4 HR6.out _ _ _ _
                          have hA2' : V2.heap[w.heap.size + 3]? = some (.cells #[.int .i64 y.code, .int .i64 y.token, .int .u64 y.serial] 60 (0, 0)) := by rw [← hV2]; exact row_cells3 ((hE1 _ (by omega)).trans HA6.out) _ _ _
                          have HRz : Hid (Wz.heap[w.heap.size + 2]? = some (.cells #[.int .i64 l.limit, .int .u64 l.next, .slice c1 l.held.length k1, .slice (some ⟨b, off, none⟩) l.last.length k2] 35 (0, 0))) := Lib.hid (by rw [hd]; exact (hE2 _ (by omega)).trans hR1')
                          have HAz : Hid (Wz.heap[w.heap.size + 3]? = some (.cells #[.int .i64 y.code, .int .i64 y.token, .int .u64 y.serial] 60 (0, 0))) := Lib.hid (by rw [hd]; exact hA2')
                          have hEz : ∀ k, w.heap.size + 4 ≤ k → Wz.heap[k]? = W6.heap[k]? := fun k h1 => by rw [hd]; exact (hE2 _ (by omega)).trans (hE1 _ (by omega))
                          have hBz : Below w.heap.size w Wz := by rw [hWze]; exact (HB6.out.trans (hB1.trans hB2)).drew
                          have HFIN : Hid (RApplied l (ansOf y) 0 w (.returned (.tuple #[.agg #[.int .i64 l.limit, .int .u64 l.next, .slice c1 l.held.length k1, .slice (some ⟨b, off, none⟩) l.last.length k2], .agg #[.int .i64 y.code, .int .i64 y.token, .int .u64 y.serial], .int .i64 0])) Wz) := Lib.hid
                            ⟨_, _, rfl, (own_keep HOH6.out fun k hk => hEz k (by have := (own_block HOH6.out k hk).1; have := HBB.out; omega)).lower (by have := HBB.out; omega), (own_keep HOL6.out fun k hk => hEz k (by have := (own_block HOL6.out k hk).1; have := HBB.out; omega)).lower (by have := HBB.out; omega), HWF.out, hBz⟩
                          clear hWz hWze hV1 hV2 hd hE1 hE2 hB1 hB2 hR1' hA2' hEz hBz r0 r1 r2 r3 s0 s1 s2 f0 f1 f2 f3 g0 g1 g2
                          go_wp2
                          exact bodyPost_ret (v := .tuple #[.agg #[.int .i64 l.limit, .int .u64 l.next, .slice c1 l.held.length k1, .slice (some ⟨b, off, none⟩) l.last.length k2], .agg #[.int .i64 y.code, .int .i64 y.token, .int .u64 y.serial], .int .i64 0]) (results_cell3 rfl _ _ (w.heap.size + 2) (w.heap.size + 3) 35 60 _ _ (0, 0) (0, 0) _ _ rfl HRz.out Try.underlying35 rfl (by kernel_rfl) rfl HAz.out Try.underlying60 rfl (by kernel_rfl) rfl) rfl (HGOOD.out _ _ (by rw [HDO.out]; exact HFIN.out))
                      · have es : (y.seq == c.seq) = false := beq_eq_false_iff_ne.2 hse
                        have HNO2 : Hid (∀ z ∈ l.last.take (k + 1), z.node = c.node → older c z = false ∧ again c z = false) := Lib.hid (by
                          rw [HT.out]
                          intro z hz hzn
                          rcases List.mem_append.1 hz with h | h
                          · exact HNO.out z h hzn
                          · simp at h; subst h; exact ⟨ho, decide_eq_false (fun g => hse g.2)⟩)
                        clear hn ho hno hbo hse
                        go_wp2
                        go_roundw
                        case rel => exact ⟨k + 1, by omega, by go_num, HNO2, HX6⟩
                        case measure => simp [intOf]; omega
                    · have eb : (y.boot == c.boot) = false := beq_eq_false_iff_ne.2 hbo
                      have HNO2 : Hid (∀ z ∈ l.last.take (k + 1), z.node = c.node → older c z = false ∧ again c z = false) := Lib.hid (by
                        rw [HT.out]
                        intro z hz hzn
                        rcases List.mem_append.1 hz with h | h
                        · exact HNO.out z h hzn
                        · simp at h; subst h; exact ⟨ho, decide_eq_false (fun g => hbo g.1)⟩)
                      clear hn ho hno hbo
                      go_wp2
                      go_roundw
                      case rel => exact ⟨k + 1, by omega, by go_num, HNO2, HX6⟩
                      case measure => simp [intOf]; omega
                  · have HDO := Lib.hid (HDOO.out.trans (once_old (i := i) HLP.out HGT.out hn ho))
                    have ho' : c.boot < y.boot ∨ y.boot = c.boot ∧ c.seq < y.seq := of_decide_eq_true ho
                    clear hn ho
                    rcases ho' with ho1 | ⟨ho1, ho2⟩
                    ·
                      have HAX := Lib.hid ((setRow_other W6 (w.heap.size + 2) (w.heap.size + 3) (lArr l (.slice c1 l.held.length k1) (.slice (some ⟨b, off, none⟩) l.last.length k2)) (by omega)).trans HA6.out)
                      have HFIN : Hid (RApplied l ⟨6, 0, 0⟩ 0 w (.returned (.tuple #[.agg (lArr l (.slice c1 l.held.length k1) (.slice (some ⟨b, off, none⟩) l.last.length k2)), .agg #[.int .i64 6, .int .i64 0, .int .u64 0], .int .i64 0])) ((W6.setRow (w.heap.size + 2) (lArr l (.slice c1 l.held.length k1) (.slice (some ⟨b, off, none⟩) l.last.length k2))).setRow (w.heap.size + 3) #[.int .i64 6, .int .i64 0, .int .u64 0])) := Lib.hid
                        (rapplied_of (a := ⟨6, 0, 0⟩) rfl HB6.out HBB.out HOH6.out HBB.out HOL6.out HWF.out)
                      go_wp2_with (first
                        | (with_reducible refine wpList_load_row rfl 35 (.tmp 3) rfl w.heap.size rfl 35 (lArr l (.slice c1 l.held.length k1) (.slice (some ⟨b, off, none⟩) l.last.length k2)) (0, 0) _ HL6.out Try.underlying35 rfl (by kernel_rfl) ?_)
                        | (with_reducible refine wpList_store_row rfl 35 (.tmp 6) (.tmp 104) rfl (w.heap.size + 2) (lArr l (.slice c1 l.held.length k1) (.slice (some ⟨b, off, none⟩) l.last.length k2)) rfl rfl 35 _ HR6.out (by kernel_rfl) rfl (Ld.lArr_one _ _ _ _ _ _ _) ?_)
                        | (with_reducible refine wpList_store_row rfl 60 (.tmp 7) (.tmp 105) rfl (w.heap.size + 3) #[.int .i64 6, .int .i64 0, .int .u64 0] rfl rfl 60 _ HAX.out (by kernel_rfl) rfl (ans_one _ _ _) ?_))
                      exact bodyPost_ret (v := .tuple #[.agg (lArr l (.slice c1 l.held.length k1) (.slice (some ⟨b, off, none⟩) l.last.length k2)), .agg #[.int .i64 6, .int .i64 0, .int .u64 0], .int .i64 0]) (results_cell3 rfl _ _ (w.heap.size + 2) (w.heap.size + 3) 35 60 _ _ (0, 0) (0, 0) _ _ rfl ((setRow_other _ _ _ _ (by omega)).trans (setRow_heap _ _ _ _ _ _ HR6.out)) Try.underlying35 rfl (by kernel_rfl) rfl (setRow_heap _ _ _ _ _ _ HAX.out) Try.underlying60 rfl (by kernel_rfl) rfl) rfl (HGOOD.out _ _ (by rw [HDO.out]; exact HFIN.out))
                    · have hb0 : ¬ (c.boot < y.boot) := by omega
                      have eb : (y.boot == c.boot) = true := beq_iff_eq.2 ho1
                      clear ho1
                      have HAX := Lib.hid ((setRow_other W6 (w.heap.size + 2) (w.heap.size + 3) (lArr l (.slice c1 l.held.length k1) (.slice (some ⟨b, off, none⟩) l.last.length k2)) (by omega)).trans HA6.out)
                      have HFIN : Hid (RApplied l ⟨6, 0, 0⟩ 0 w (.returned (.tuple #[.agg (lArr l (.slice c1 l.held.length k1) (.slice (some ⟨b, off, none⟩) l.last.length k2)), .agg #[.int .i64 6, .int .i64 0, .int .u64 0], .int .i64 0])) ((W6.setRow (w.heap.size + 2) (lArr l (.slice c1 l.held.length k1) (.slice (some ⟨b, off, none⟩) l.last.length k2))).setRow (w.heap.size + 3) #[.int .i64 6, .int .i64 0, .int .u64 0])) := Lib.hid
                        (rapplied_of (a := ⟨6, 0, 0⟩) rfl HB6.out HBB.out HOH6.out HBB.out HOL6.out HWF.out)
                      go_wp2_with (first
                        | (with_reducible refine wpList_load_row rfl 35 (.tmp 3) rfl w.heap.size rfl 35 (lArr l (.slice c1 l.held.length k1) (.slice (some ⟨b, off, none⟩) l.last.length k2)) (0, 0) _ HL6.out Try.underlying35 rfl (by kernel_rfl) ?_)
                        | (with_reducible refine wpList_store_row rfl 35 (.tmp 6) (.tmp 104) rfl (w.heap.size + 2) (lArr l (.slice c1 l.held.length k1) (.slice (some ⟨b, off, none⟩) l.last.length k2)) rfl rfl 35 _ HR6.out (by kernel_rfl) rfl (Ld.lArr_one _ _ _ _ _ _ _) ?_)
                        | (with_reducible refine wpList_store_row rfl 60 (.tmp 7) (.tmp 105) rfl (w.heap.size + 3) #[.int .i64 6, .int .i64 0, .int .u64 0] rfl rfl 60 _ HAX.out (by kernel_rfl) rfl (ans_one _ _ _) ?_))
                      exact bodyPost_ret (v := .tuple #[.agg (lArr l (.slice c1 l.held.length k1) (.slice (some ⟨b, off, none⟩) l.last.length k2)), .agg #[.int .i64 6, .int .i64 0, .int .u64 0], .int .i64 0]) (results_cell3 rfl _ _ (w.heap.size + 2) (w.heap.size + 3) 35 60 _ _ (0, 0) (0, 0) _ _ rfl ((setRow_other _ _ _ _ (by omega)).trans (setRow_heap _ _ _ _ _ _ HR6.out)) Try.underlying35 rfl (by kernel_rfl) rfl (setRow_heap _ _ _ _ _ _ HAX.out) Try.underlying60 rfl (by kernel_rfl) rfl) rfl (HGOOD.out _ _ (by rw [HDO.out]; exact HFIN.out))
                · have en : (y.node != c.node) = true := by rw [bne, beq_eq_false_iff_ne.2 hn]; rfl
                  have HNO2 : Hid (∀ z ∈ l.last.take (k + 1), z.node = c.node → older c z = false ∧ again c z = false) := Lib.hid (by
                    rw [HT.out]
                    intro z hz hzn
                    rcases List.mem_append.1 hz with h | h
                    · exact HNO.out z h hzn
                    · simp at h; subst h; exact absurd hzn hn)
                  clear hn
                  go_wp2
                  go_roundw
                  case rel => exact ⟨k + 1, by omega, by go_num, HNO2, HX6⟩
                  case measure => simp [intOf]; omega
              · obtain rfl : k = l.last.length := by omega
                have hno := HNO.out
                rw [List.take_length] at hno
                have HON := Lib.hid (once_new (i := i) HLP.out hno)
                have HDW := Lib.hid (exec_wf (i := i) (c := c) HLP.out HWF.out HCW.out HIW.out)
                clear hno
                go_wp2_with (first
                  | (with_reducible refine wpList_load_row rfl 35 (.tmp 3) rfl w.heap.size rfl 35 (lArr l (.slice c1 l.held.length k1) (.slice c2 l.last.length k2)) (0, 0) _ HLr.out Try.underlying35 rfl (by kernel_rfl) ?_)
                  | (with_reducible refine wpList_load_row rfl 58 (.tmp 5) rfl (w.heap.size + 1) rfl 58 (cA c vn) (0, 0) _ HCr.out Try.underlying58 rfl (by kernel_rfl) ?_))
                refine (request_any l _ _ _ i c _ ⟨_, _, rfl, HOHr.out.sl heldC_len, HOLr.out.sl lastC_len, HWF.out⟩ (HCM.out.below HBr.out (Nat.le_refl _)) HLP.out HIW.out HKD.out).mono ?_
                rintro e w5 ⟨vh5, rfl, hk5, hl5, hw5, hb5⟩
                have HDO : Hid (doL l i c = ({ (execL l i c).1 with last := lastPut (lastOf c (execL l i c).2) l.last }, (execL l i c).2)) := Lib.hid (by rw [HDOO.out, HON.out, hl5])
                generalize execL l i c = r at *
                have hOH5 : OwnR 5 heldC 47 w5 w2.heap.size vh5 r.1.held := by
                  rcases hk5 with ⟨h1, h2⟩ | h1
                  · rw [h1, h2]; exact HOHr.out.below hb5 (Nat.le_refl _)
                  · exact h1.lower (by have := HB.out.size; have := HW23.out; omega)
                obtain ⟨d1, m1, hv5⟩ := own_slice heldC_len hOH5
                subst hv5
                obtain ⟨n1, hn1⟩ : ∃ n, n = r.1.held.length := ⟨_, rfl⟩
                rw [← hn1] at hOH5 ⊢
                obtain ⟨W6, hW6, hb6, hR6, hA6, hz6, hs1, hs2⟩ := boxed w5 r.1 r.2 (.slice d1 n1 m1) (.slice c2 l.last.length k2)
                have HT1 := Lib.hid hs1
                have HT2 := Lib.hid hs2
                have HR6 := Lib.hid hR6
                have HA6 := Lib.hid hA6
                have HZ6 := Lib.hid hz6
                have HB56 := Lib.hid (hb5.trans (hb6.mono hb5.size))
                have HS5 : Hid (w.heap.size + 4 ≤ w5.heap.size) := Lib.hid (Nat.le_trans HSr.out hb5.size)
                have HS6 : Hid (w.heap.size + 4 ≤ W6.heap.size) := Lib.hid (Nat.le_trans HSr.out HB56.out.size)
                have HOH6 : Hid (OwnR 5 heldC 47 W6 w2.heap.size (.slice d1 n1 m1) r.1.held) := Lib.hid (hOH5.below hb6 (Nat.le_refl _))
                have HOHN : Hid (∀ k, (Value.slice d1 n1 m1).ownBlock = some k → k < w5.heap.size) := Lib.hid (fun k hk => (own_block hOH5 k hk).2)
                have HOL6 := Lib.hid (HOLr.out.below HB56.out (Nat.le_refl _))
                have HLS := Lib.hid (last_short HLP.out.2.2.2.2.2)
                have hC6 := (HB56.out.block (w.heap.size + 1) (by have := HSr.out; omega)).trans HCr.out
                have HRR6 := Lib.hid ((HB56.out.block (w.heap.size + 2) (by have := HSr.out; omega)).trans HRr.out)
                have HAA6 := Lib.hid ((HB56.out.block (w.heap.size + 3) (by have := HSr.out; omega)).trans HAr.out)
                have HB6 := Lib.hid (HBr.out.trans (HB56.out.mono HBr.out.size))
                have HWZ : Hid (({ r.1 with last := lastPut (lastOf c r.2) l.last } : Led).wf) := Lib.hid (by
                  refine ⟨hw5.1, hw5.2.1, hw5.2.2.1, fun x hx => ?_⟩
                  have hx : x ∈ lastPut (lastOf c r.2) l.last := hx
                  unfold lastPut neN at hx
                  rcases List.mem_append.1 hx with h | h
                  · exact HWF.out.2.2.2 x (List.mem_of_mem_take h)
                  · rcases List.mem_cons.1 h with rfl | h
                    · exact lastOf_wf HCW.out HDW.out.2
                    · exact HWF.out.2.2.2 x (List.mem_of_mem_drop (List.mem_filter.1 h).1))
                obtain ⟨q0, q1, q2, q4, q5, q6, q7⟩ := cmd_cells hC6
                obtain ⟨y0, y1, y2, y3⟩ := led_cells HR6.out
                obtain ⟨p0, p1, p2⟩ := ans_cells HA6.out
                clear hk5 hw5 hb5 hb6 hR6 hA6 hz6 hs1 hs2 hC6 hOH5 hn1
                go_wp2_with (first
                  | (with_reducible refine wpList_store_row rfl 35 (.tmp 13) (.tmp 127) rfl w5.heap.size (lArr r.1 (.slice d1 n1 m1) (.slice c2 l.last.length k2)) rfl rfl 35 _ HT1.out (by kernel_rfl) rfl (Ld.lArr_one _ _ _ _ _ _ _) ?_)
                  | (with_reducible refine wpList_store_row rfl 60 (.tmp 14) (.tmp 128) rfl (w5.heap.size + 1) (aA r.2) rfl rfl 60 _ HT2.out (by kernel_rfl) rfl (ans_one _ _ _) ?_))
                refine (last_any l.last _ ⟨c.node, c.boot, c.seq, r.2.code, r.2.token, r.2.serial⟩ _ (HOL6.out.sl lastC_len) (by have := HLS.out; omega)).mono ?_
                rintro e w7 ⟨v9, rfl, hown9, hb7⟩
                have hown9 : OwnR 6 lastC 103 w7 W6.heap.size v9 (lastPut (lastOf c r.2) l.last) := hown9
                obtain ⟨a9, cap9, hv9⟩ := own_slice lastC_len hown9
                subst hv9
                obtain ⟨n9, hn9⟩ : ∃ n, n = (lastPut (lastOf c r.2) l.last).length := ⟨_, rfl⟩
                rw [← hn9] at hown9 ⊢
                have hL7 := (hb7.block w5.heap.size (by have := HZ6.out; omega)).trans HR6.out
                have t3 := row3 hL7
                have u3 := frozen_of (o := 3) hL7
                obtain ⟨W8, hW8⟩ : ∃ q, w7.setCell ⟨w5.heap.size, 3, none⟩ (.slice a9 n9 cap9) = q := ⟨_, rfl⟩
                have hL8 : W8.heap[w5.heap.size]? = some (.cells (lArr r.1 (.slice d1 n1 m1) (.slice a9 n9 cap9)) 35 (0, 0)) := by rw [← hW8]; exact store3 hL7 _
                have hE8 : ∀ k, k ≠ w5.heap.size → W8.heap[k]? = w7.heap[k]? := fun k hk => by rw [← hW8]; exact heap_setCell_other _ _ _ _ (by show k ≠ w5.heap.size; exact hk)
                have hR8 := (hE8 (w.heap.size + 2) (by have := HS5.out; omega)).trans ((hb7.block (w.heap.size + 2) (by have := HS6.out; omega)).trans HRR6.out)
                have hA8 := (hE8 (w.heap.size + 3) (by have := HS5.out; omega)).trans ((hb7.block (w.heap.size + 3) (by have := HS6.out; omega)).trans HAA6.out)
                have hT8 := (hE8 (w5.heap.size + 1) (by omega)).trans ((hb7.block (w5.heap.size + 1) (by have := HZ6.out; omega)).trans HA6.out)
                have HB8 : Hid (Below w.heap.size w W8) := Lib.hid (by rw [← hW8]; exact (HB6.out.trans (hb7.mono (by have := HS6.out; omega))).setCell (by show w.heap.size ≤ w5.heap.size; have := HS5.out; omega) _)
                have HOH8 : Hid (OwnR 5 heldC 47 W8 w2.heap.size (.slice d1 n1 m1) r.1.held) := Lib.hid (own_keep (HOH6.out.below hb7 (Nat.le_refl _)) fun k hk => hE8 k (by have := HOHN.out k hk; omega))
                have HOL8 : Hid (OwnR 6 lastC 103 W8 W6.heap.size (.slice a9 n9 cap9) (lastPut (lastOf c r.2) l.last)) := Lib.hid (own_keep hown9 fun k hk => hE8 k (by have := (own_block hown9 k hk).1; have := HZ6.out; omega))
                have hs5 := HS5.out
                clear q0 q1 q2 q4 q5 q6 q7 y0 y1 y2 y3 p0 p1 p2
                obtain ⟨x0, x1, x2, x3⟩ := led_cells hL8
                obtain ⟨p0, p1, p2⟩ := ans_cells hT8
                clear hown9 hb7 hL7 hL8 hE8 hT8 hn9
                have r0 := (cell_of_row W8 _ 0 _ _ _ hR8).trans rfl
                have r1 := (cell_of_row W8 _ 1 _ _ _ hR8).trans rfl
                have r2 := (cell_of_row W8 _ 2 _ _ _ hR8).trans rfl
                have r3 := (cell_of_row W8 _ 3 _ _ _ hR8).trans rfl
                have s0 := (cell_of_row W8 _ 0 _ _ _ hA8).trans rfl
                have s1 := (cell_of_row W8 _ 1 _ _ _ hA8).trans rfl
                have s2 := (cell_of_row W8 _ 2 _ _ _ hA8).trans rfl
                have f0 := frozen_of (o := 0) hR8
                have f1 := frozen_of (o := 1) hR8
                have f2 := frozen_of (o := 2) hR8
                have f3 := frozen_of (o := 3) hR8
                have g0 := frozen_of (o := 0) hA8
                have g1 := frozen_of (o := 1) hA8
                have g2 := frozen_of (o := 2) hA8
                have HR8 := Lib.hid hR8
                have HA8 := Lib.hid hA8
                clear hR8 hA8
                have hna : w.heap.size + 1 + 1 ≠ w5.heap.size := by omega
                have hnb : w.heap.size + 1 + 1 ≠ w5.heap.size + 1 := by omega
                have hnc : w.heap.size + 1 + 1 + 1 ≠ w5.heap.size := by omega
                have hnd : w.heap.size + 1 + 1 + 1 ≠ w5.heap.size + 1 := by omega
                go_wp2_with fail
                clear e0 e1 e2 e6 hlt hlen7
                go_region
                all_goals
                  generalize hWz : World.drew _ = Wz
                  obtain ⟨V1, hV1⟩ : ∃ U, W8.setCells (w.heap.size + 2) 0 [.int .i64 r.1.limit, .int .u64 r.1.next, .slice d1 n1 m1, .slice a9 n9 cap9] = U := ⟨_, rfl⟩
                  obtain ⟨V2, hV2⟩ : ∃ U, V1.setCells (w.heap.size + 3) 0 [.int .i64 r.2.code, .int .i64 r.2.token, .int .u64 r.2.serial] = U := ⟨_, rfl⟩
                  have hWze : Wz = V2.drew := by rw [← hV2, ← hV1]; exact hWz.symm
                  have hd : Wz.heap = V2.heap := by rw [hWze]; rfl
                  have hE1 : ∀ k, k ≠ w.heap.size + 2 → V1.heap[k]? = W8.heap[k]? := fun k h => by rw [← hV1]; exact other_cells _ _ _ _ h
                  have hE2 : ∀ k, k ≠ w.heap.size + 3 → V2.heap[k]? = V1.heap[k]? := fun k h => by rw [← hV2]; exact other_cells _ _ _ _ h
                  have hB1 : Below w.heap.size W8 V1 := by rw [← hV1]; exact below_cells w.heap.size (by omega) _ _ _
                  have hB2 : Below w.heap.size V1 V2 := by rw [← hV2]; exact below_cells w.heap.size (by omega) _ _ _
                  have hR1' : V1.heap[w.heap.size + 2]? = some (.cells #[.int .i64 r.1.limit, .int .u64 r.1.next, .slice d1 n1 m1, .slice a9 n9 cap9] 35 (0, 0)) := by rw [← hV1]; exact row_cells4 HR8.out _ _ _ _
                  have hA2' : V2.heap[w.heap.size + 3]? = some (.cells #[.int .i64 r.2.code, .int .i64 r.2.token, .int .u64 r.2.serial] 60 (0, 0)) := by rw [← hV2]; exact row_cells3 ((hE1 _ (by omega)).trans HA8.out) _ _ _
                  have HRz : Hid (Wz.heap[w.heap.size + 2]? = some (.cells #[.int .i64 r.1.limit, .int .u64 r.1.next, .slice d1 n1 m1, .slice a9 n9 cap9] 35 (0, 0))) := Lib.hid (by rw [hd]; exact (hE2 _ (by omega)).trans hR1')
                  have HAz : Hid (Wz.heap[w.heap.size + 3]? = some (.cells #[.int .i64 r.2.code, .int .i64 r.2.token, .int .u64 r.2.serial] 60 (0, 0))) := Lib.hid (by rw [hd]; exact hA2')
                  have hEz : ∀ k, w.heap.size + 4 ≤ k → Wz.heap[k]? = W8.heap[k]? := fun k h1 => by rw [hd]; exact (hE2 _ (by omega)).trans (hE1 _ (by omega))
                  have hBz : Below w.heap.size w Wz := by rw [hWze]; exact (HB8.out.trans (hB1.trans hB2)).drew
                  have HFIN : Hid (RApplied { r.1 with last := lastPut (lastOf c r.2) l.last } r.2 0 w (.returned (.tuple #[.agg #[.int .i64 r.1.limit, .int .u64 r.1.next, .slice d1 n1 m1, .slice a9 n9 cap9], .agg #[.int .i64 r.2.code, .int .i64 r.2.token, .int .u64 r.2.serial], .int .i64 0])) Wz) := Lib.hid
                    ⟨_, _, rfl, (own_keep HOH8.out fun k hk => hEz k (by have := (own_block HOH8.out k hk).1; have := HBB.out; omega)).lower (by have := HBB.out; omega), (own_keep HOL8.out fun k hk => hEz k (by have := (own_block HOL8.out k hk).1; have := HS6.out; omega)).lower (by have := HS6.out; omega), HWZ.out, hBz⟩
                  clear hWz hWze hV1 hV2 hd hE1 hE2 hB1 hB2 hR1' hA2' hEz hBz r0 r1 r2 r3 s0 s1 s2 f0 f1 f2 f3 g0 g1 g2 x0 x1 x2 x3 p0 p1 p2
                  go_wp2
                  exact bodyPost_ret (v := .tuple #[.agg #[.int .i64 r.1.limit, .int .u64 r.1.next, .slice d1 n1 m1, .slice a9 n9 cap9], .agg #[.int .i64 r.2.code, .int .i64 r.2.token, .int .u64 r.2.serial], .int .i64 0]) (results_cell3 rfl _ _ (w.heap.size + 2) (w.heap.size + 3) 35 60 _ _ (0, 0) (0, 0) _ _ rfl HRz.out Try.underlying35 rfl (by kernel_rfl) rfl HAz.out Try.underlying60 rfl (by kernel_rfl) rfl) rfl (HGOOD.out _ _ (by rw [HDO.out]; exact HFIN.out))
    · have HFIN := Lib.hid (rapply_bad (err_cmd (i := i) HOK.out hk) (by decide) (rapplied_no HB2.out zArr #[.int .i64 0, .int .i64 0, .int .u64 0]))
      clear hk
      have HA9 := Lib.hid ((setRow_other w2 (w.heap.size + 2) (w.heap.size + 3) zArr (by omega)).trans HA2.out)
      go_wp2_with (first
        | (with_reducible refine wpList_store_row rfl 35 (.tmp 6) (.tmp 23) rfl (w.heap.size + 2) zArr rfl rfl 35 _ HR2.out (by kernel_rfl) rfl zArr_one ?_)
        | (with_reducible refine wpList_store_row rfl 60 (.tmp 7) (.tmp 24) rfl (w.heap.size + 3) #[.int .i64 0, .int .i64 0, .int .u64 0] rfl rfl 60 _ HA9.out (by kernel_rfl) rfl (ans_one _ _ _) ?_))
      exact bodyPost_ret (v := .tuple #[.agg zArr, .agg #[.int .i64 0, .int .i64 0, .int .u64 0], .int .i64 40]) (results_cell3 rfl _ _ (w.heap.size + 2) (w.heap.size + 3) 35 60 _ _ (0, 0) (0, 0) _ _ rfl ((setRow_other _ _ _ _ (by omega)).trans (setRow_heap _ _ _ _ _ _ HR2.out)) Try.underlying35 rfl (by kernel_rfl) rfl (setRow_heap _ _ _ _ _ _ HA9.out) Try.underlying60 rfl (by kernel_rfl) rfl) rfl HFIN.out
  · have HFIN := Lib.hid (rapply_bad (err_led (i := i) (c := c) hno) (by decide) (rapplied_no HB1.out zArr #[.int .i64 0, .int .i64 0, .int .u64 0]))
    clear hno
    have HA9 := Lib.hid ((setRow_other w1 (w.heap.size + 2) (w.heap.size + 3) zArr (by omega)).trans HA1.out)
    go_wp2_with (first
      | (with_reducible refine wpList_store_row rfl 35 (.tmp 6) (.tmp 18) rfl (w.heap.size + 2) zArr rfl rfl 35 _ HR1.out (by kernel_rfl) rfl zArr_one ?_)
      | (with_reducible refine wpList_store_row rfl 60 (.tmp 7) (.tmp 19) rfl (w.heap.size + 3) #[.int .i64 0, .int .i64 0, .int .u64 0] rfl rfl 60 _ HA9.out (by kernel_rfl) rfl (ans_one _ _ _) ?_))
    exact bodyPost_ret (v := .tuple #[.agg zArr, .agg #[.int .i64 0, .int .i64 0, .int .u64 0], .int .i64 50]) (results_cell3 rfl _ _ (w.heap.size + 2) (w.heap.size + 3) 35 60 _ _ (0, 0) (0, 0) _ _ rfl ((setRow_other _ _ _ _ (by omega)).trans (setRow_heap _ _ _ _ _ _ HR1.out)) Try.underlying35 rfl (by kernel_rfl) rfl (setRow_heap _ _ _ _ _ _ HA9.out) Try.underlying60 rfl (by kernel_rfl) rfl) rfl HFIN.out
end Lr
end Go.Proofs.Ytgbblegcjladaaa
