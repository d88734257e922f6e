/- What a command does to a ledger: ledger.Apply, whole. No condition but sizes. -/
import Derived.Test.YtgadbghlcejkfaaLaK
namespace Go.Proofs.Ytgadbghlcejkfaa
open Go.ChangeShapes Go.WideShapes Go.ChangeAt Go.RowKit Go.Lib
set_option linter.unusedVariables false
set_option maxRecDepth 100000
theorem results_cell3 {P : Program} {fn : Func} {p q a : Tmp} {ty ty2 : TypeId} (h : fn.results = #[.cell p ty, .cell q ty2, .tmp a]) (tmps : Array Value) (w : World) (g g2 : Nat) (t t2 : TypeId) (cs cs2 : Array Value) (fr fr2 : Nat × Nat) (d d2 : TypeDesc)
    (hp : tmps.getD p undef = .pointer (some ⟨g, 0, none⟩)) (hg : w.heap[g]? = some (.cells cs t fr))
    (hu : P.underlying ty = some d) (hd : (match d with | .struct _ | .array _ _ => true | _ => false) = true) (hi : (P.info? ty).map (·.size) = some cs.size)
    (hp2 : tmps.getD q undef = .pointer (some ⟨g2, 0, none⟩)) (hg2 : w.heap[g2]? = some (.cells cs2 t2 fr2))
    (hu2 : P.underlying ty2 = some d2) (hd2 : (match d2 with | .struct _ | .array _ _ => true | _ => false) = true) (hi2 : (P.info? ty2).map (·.size) = some cs2.size) {x : Value} (hx : tmps.getD a undef = x) :
    (results fn tmps).run P w = .ok (.tuple #[.agg cs, .agg cs2, x]) w := by
  subst hx
  have hp' : tmps[p]?.getD undef = .pointer (some ⟨g, 0, none⟩) := by simpa using hp
  have hp2' : tmps[q]?.getD undef = .pointer (some ⟨g2, 0, none⟩) := by simpa using hp2
  simp [results, h, hp', hp2', asAddr, run_loadVar_row w g t ty cs fr d hg hu hd hi, run_loadVar_row w g2 t2 ty2 cs2 fr2 d2 hg2 hu2 hd2 hi2]
namespace La
open Ld Cm
/-- what Apply hands back: rows that are the call's own, apart -/
def Applied (m : Led) (a : Ans) (z : Int) (w : World) (e : Ending) (w' : World) : Prop :=
  ∃ vh vl, e = .returned (.tuple #[.agg (lArr m vh vl), .agg #[.int .i64 a.code, .int .i64 a.token, .int .u64 a.serial], .int .i64 z]) ∧ OwnR 5 heldC 67 w' w.heap.size vh m.held ∧ OwnR 6 lastC 71 w' w.heap.size vl m.last ∧ (∀ k, vh.ownBlock = some k → vl.ownBlock ≠ some k) ∧ m.wf ∧ Below w.heap.size w w'
theorem applied_no {w w1 : World} {z : Int} (hb : Below w.heap.size w w1) (cs ds : Array Value) :
    Applied zLed zAns z w (.returned (.tuple #[.agg zArr, .agg #[.int .i64 0, .int .i64 0, .int .u64 0], .int .i64 z])) ((w1.setRow (w.heap.size + 2) cs).setRow (w.heap.size + 3) ds) :=
  ⟨.slice none 0 0, .slice none 0 0, rfl, OwnR.nil _ _ _, OwnR.nil _ _ _, fun k h => by simp [Value.ownBlock] at h, zLed_wf, Ld.below_row (Ld.below_row hb (by omega) _) (by omega) _⟩
theorem err_led {l : Led} {i : Int} {c : Cmd} (h : ¬ ledOk l) : errL l i c = 50 := by unfold errL; rw [if_pos h]
theorem err_cmd {l : Led} {i : Int} {c : Cmd} (h : ledOk l) (h2 : chkC c = false) : errL l i c = 40 := by unfold errL; rw [if_neg (fun k => k h), if_pos h2]
theorem err_arg {l : Led} {i : Int} {c : Cmd} (h : ledOk l) (h2 : chkC c = true) (h3 : i = 0) : errL l i c = 1 := by unfold errL; rw [if_neg (fun k => k h), if_neg (by rw [h2]; simp), if_pos h3]
theorem apply_bad {l : Led} {i : Int} {c : Cmd} {z : Int} (h : errL l i c = z) (hz : z ≠ 0) {w : World} {e : Ending} {w' : World} (g : Applied zLed zAns z w e w') : Applied (applyL l i c) (answerL l i c) (errL l i c) w e w' := by
  unfold applyL answerL
  rw [if_neg (by omega), if_neg (by omega), h]
  exact g
theorem apply_good {l : Led} {i : Int} {c : Cmd} (h : ledOk l) (h2 : chkC c = true) (h3 : i ≠ 0) {w : World} {e : Ending} {w' : World} (g : Applied (doL l i c).1 (doL l i c).2 0 w e w') : Applied (applyL l i c) (answerL l i c) (errL l i c) w e w' := by
  have h0 := err_zero.2 ⟨h, h2, h3⟩
  unfold applyL answerL
  rw [if_pos h0, if_pos h0, h0]
  exact g
theorem zArr_one : zArr.all (·.oneCell') = true := lArr_one zLed none none 0 0 0 0
theorem lArr_one' (l : Led) (vh vl : Value) (h : vh.oneCell' = true) (h2 : vl.oneCell' = true) : (lArr l vh vl).all (·.oneCell') = true := by
  simp [Value.oneCell'] at *; exact ⟨h, h2⟩

theorem row_cells4 {w : World} {g : Nat} {t : TypeId} {c0 c1 c2 c3 : Value} (h : w.heap[g]? = some (.cells #[c0, c1, c2, c3] t (0, 0))) (a b c d : Value) : (w.setCells g 0 [a, b, c, d]).heap[g]? = some (.cells #[a, b, c, d] t (0, 0)) := by
  show ((((w.setCell ⟨g, 0, none⟩ a).setCell ⟨g, 1, none⟩ b).setCell ⟨g, 2, none⟩ c).setCell ⟨g, 3, none⟩ d).heap[g]? = _
  rw [heap_setCell_same _ g 3 _ _ d (heap_setCell_same _ g 2 _ _ c (heap_setCell_same _ g 1 _ _ b (heap_setCell_same _ g 0 _ _ a h)))]; rfl
theorem row_cells3 {w : World} {g : Nat} {t : TypeId} {c0 c1 c2 : Value} (h : w.heap[g]? = some (.cells #[c0, c1, c2] t (0, 0))) (a b c : Value) : (w.setCells g 0 [a, b, c]).heap[g]? = some (.cells #[a, b, c] t (0, 0)) := by
  show (((w.setCell ⟨g, 0, none⟩ a).setCell ⟨g, 1, none⟩ b).setCell ⟨g, 2, none⟩ c).heap[g]? = _
  rw [heap_setCell_same _ g 2 _ _ c (heap_setCell_same _ g 1 _ _ b (heap_setCell_same _ g 0 _ _ a h))]; rfl

set_option maxHeartbeats 4000000 in
theorem apply_any (l : Led) (v u : Value) (i : Int) (c : Cmd) (w : World) (h : IsLed w v l) (hc : IsCmd w u c) (hiw : (Lit.int .u64 i).wf = true) :
    Calls Try.prog 68 #[v, .int .u64 i, u] w (Applied (applyL l i c) (answerL l i c) (errL l i c) w) := by
  obtain ⟨vh, vl, rfl, hh, hl, hwf⟩ := id h
  obtain ⟨vn, rfl, hsn, hcw⟩ := id hc
  obtain ⟨W4, hW4⟩ : ∃ q, (((w.alloc (.cells (lArr l vh vl) 27)).alloc (.cells (cA c vn) 34)).alloc (.cells zArr 27)).alloc (.cells #[.int .i64 0, .int .i64 0, .int .u64 0] 69) = q := ⟨_, rfl⟩
  have hb4 : Below w.heap.size w W4 := by rw [← hW4]; exact ((((Below.refl _ _).alloc (Nat.le_refl _) _).alloc (by simp) _).alloc (by simp <;> omega) _).alloc (by simp <;> omega) _
  have hz4 : W4.heap.size = w.heap.size + 4 := by rw [← hW4]; simp
  have hL4 : W4.heap[w.heap.size]? = some (.cells (lArr l vh vl) 27 (0, 0)) := by
    rw [← hW4]
    exact (heap_alloc_old _ _ (by simp <;> omega)).trans ((heap_alloc_old _ _ (by simp <;> omega)).trans ((heap_alloc_old _ _ (by simp)).trans (heap_alloc_new _ _)))
  have hC4 : W4.heap[w.heap.size + 1]? = some (.cells (cA c vn) 34 (0, 0)) := by
    rw [← hW4]
    exact (heap_alloc_old _ _ (by simp <;> omega)).trans ((heap_alloc_old _ _ (by simp)).trans (new2 _ _ _))
  have hR4 : W4.heap[w.heap.size + 2]? = some (.cells zArr 27 (0, 0)) := by
    rw [← hW4]
    refine (heap_alloc_old _ _ (by simp)).trans ?_
    have := heap_alloc_new ((w.alloc (.cells (lArr l vh vl) 27)).alloc (.cells (cA c vn) 34)) (.cells zArr 27)
    simpa using this
  have hA4 : W4.heap[w.heap.size + 3]? = some (.cells #[.int .i64 0, .int .i64 0, .int .u64 0] 69 (0, 0)) := by
    rw [← hW4]
    have := heap_alloc_new (((w.alloc (.cells (lArr l vh vl) 27)).alloc (.cells (cA c vn) 34)).alloc (.cells zArr 27)) (.cells #[.int .i64 0, .int .i64 0, .int .u64 0] 69)
    simpa using this
  have HI4 := Lib.hid (h.below hb4 (Nat.le_refl _))
  have HCM := Lib.hid hc
  have HH := Lib.hid hh
  have HLs := Lib.hid hl
  have HWF := Lib.hid hwf
  have HCW := Lib.hid hcw
  have HB4 := Lib.hid hb4
  have HZ4 := Lib.hid hz4
  have HL4 := Lib.hid hL4
  have HC4 := Lib.hid hC4
  have HR4 := Lib.hid hR4
  have HA4 := Lib.hid hA4
  have HIW := Lib.hid hiw
  clear h hc hh hl hwf hsn hcw hb4 hz4 hL4 hC4 hR4 hA4 hiw
  go_enter Try.func68, Try.ntmps68
  go_wp2_with ((with_reducible refine wpList_load_row rfl 27 (.tmp 3) rfl w.heap.size rfl 27 (lArr l vh vl) (0, 0) _ HL4.out Try.underlying27 rfl (by kernel_rfl) ?_))
  refine (check_any l _ _ HI4.out).mono ?_
  rintro e w1 ⟨z, rfl, hz, hb1⟩
  have hsz1 : w.heap.size + 4 ≤ w1.heap.size := by have := hb1.size; have := HZ4.out; omega
  have HS1 := Lib.hid hsz1
  have HB1 := Lib.hid (HB4.out.trans (hb1.mono (by have := HZ4.out; omega)))
  have HL1 := Lib.hid ((hb1.block w.heap.size (by have := HZ4.out; omega)).trans HL4.out)
  have HC1 := Lib.hid ((hb1.block (w.heap.size + 1) (by have := HZ4.out; omega)).trans HC4.out)
  have HR1 := Lib.hid ((hb1.block (w.heap.size + 2) (by have := HZ4.out; omega)).trans HR4.out)
  have HA1 := Lib.hid ((hb1.block (w.heap.size + 3) (by have := HZ4.out; omega)).trans HA4.out)
  clear hb1 hW4 HL4 HC4 HR4 HA4 HI4 hsz1
  rcases hz with ⟨rfl, hok⟩ | ⟨rfl, hno⟩
  · have HOK := Lib.hid hok
    clear hok
    go_wp2_with ((with_reducible refine wpList_load_row rfl 34 (.tmp 5) rfl (w.heap.size + 1) rfl 34 (cA c vn) (0, 0) _ HC1.out Try.underlying34 rfl (by kernel_rfl) ?_))
    refine (Cm.check_any c _ _ (HCM.out.below HB1.out (Nat.le_refl _))).mono ?_
    rintro e w2 ⟨rfl, hb2⟩
    have hz2 : (cErr (chkC c) = 0 ∧ chkC c = true) ∨ (cErr (chkC c) = 40 ∧ chkC c = false) := by cases chkC c <;> simp [cErr]
    generalize cErr (chkC c) = z2 at *
    have HS2 : Hid (w.heap.size + 4 ≤ w2.heap.size) := Lib.hid (Nat.le_trans HS1.out hb2.size)
    have HB2 := Lib.hid (HB1.out.trans (hb2.mono (by have := HS1.out; omega)))
    have HL2 := Lib.hid ((hb2.block w.heap.size (by have := HS1.out; omega)).trans HL1.out)
    have HC2 := Lib.hid ((hb2.block (w.heap.size + 1) (by have := HS1.out; omega)).trans HC1.out)
    have HR2 := Lib.hid ((hb2.block (w.heap.size + 2) (by have := HS1.out; omega)).trans HR1.out)
    have HA2 := Lib.hid ((hb2.block (w.heap.size + 3) (by have := HS1.out; omega)).trans HA1.out)
    clear hb2
    rcases hz2 with ⟨rfl, hk⟩ | ⟨rfl, hk⟩
    · have HK := Lib.hid hk
      clear hk
      by_cases hi : i = 0
      · have HFIN := Lib.hid (apply_bad (err_arg HOK.out HK.out hi) (by decide) (applied_no HB2.out zArr #[.int .i64 0, .int .i64 0, .int .u64 0]))
        have e0 : (i == 0) = true := beq_iff_eq.2 hi
        clear hi
        have HA9 := Lib.hid ((setRow_other w2 (w.heap.size + 2) (w.heap.size + 3) zArr (by omega)).trans HA2.out)
        go_wp2_with (first
          | (with_reducible refine wpList_store_row rfl 27 (.tmp 6) (.tmp 28) rfl (w.heap.size + 2) zArr rfl rfl 27 _ HR2.out (by kernel_rfl) rfl zArr_one ?_)
          | (with_reducible refine wpList_store_row rfl 69 (.tmp 7) (.tmp 29) rfl (w.heap.size + 3) #[.int .i64 0, .int .i64 0, .int .u64 0] rfl rfl 69 _ HA9.out (by kernel_rfl) rfl (ans_one _ _ _) ?_))
        exact bodyPost_ret (v := .tuple #[.agg zArr, .agg #[.int .i64 0, .int .i64 0, .int .u64 0], .int .i64 1]) (results_cell3 rfl _ _ (w.heap.size + 2) (w.heap.size + 3) 27 69 _ _ (0, 0) (0, 0) _ _ rfl ((setRow_other _ _ _ _ (by omega)).trans (setRow_heap _ _ _ _ _ _ HR2.out)) Try.underlying27 rfl (by kernel_rfl) rfl (setRow_heap _ _ _ _ _ _ HA9.out) Try.underlying69 rfl (by kernel_rfl) rfl) rfl HFIN.out
      · have e0 : (i == 0) = false := beq_eq_false_iff_ne.2 hi
        have HI0 := Lib.hid hi
        have HLP := Lib.hid (led_iff.1 HOK.out)
        obtain ⟨-, -, y2, y3⟩ := led_cells HL2.out
        have HG2 := Lib.hid (HH.out.below HB2.out (Nat.le_refl _))
        have HN1 : Hid (l.held.length * 40 ≤ 140737488351232) := Lib.hid (by have := HLP.out.2.2.2.1; omega)
        have HN2 : Hid (l.last.length * 48 ≤ 140737488351232) := Lib.hid (by have := last_short HLP.out.2.2.2.2.2; omega)
        clear hi
        go_wp2_with (first
          | (go_at_call 95; refine (Ih.clone_any l.held vh _ HG2.out HN1.out).mono ?_; rintro e w3 ⟨u1, rfl, hown3, hb3⟩; obtain ⟨a1, cap1, hv1, -⟩ := id (hown3.sl heldC_len); subst hv1; have hL3 := (hb3.block w.heap.size (by have := HS2.out; omega)).trans HL2.out; have t2 := row2 hL3; have u2 := frozen_of (o := 2) hL3; obtain ⟨W3, hW3⟩ : ∃ q, w3.setCell ⟨w.heap.size, 2, none⟩ (.slice a1 l.held.length cap1) = q := ⟨_, rfl⟩; have HL3 : Hid (W3.heap[w.heap.size]? = some (.cells (lArr l (.slice a1 l.held.length cap1) vl) 27 (0, 0))) := Lib.hid (by rw [← hW3]; exact store2 hL3 _); have t3 := row3 HL3.out; have HBW3 : Hid (Below w.heap.size w W3) := Lib.hid (by rw [← hW3]; exact (HB2.out.trans (hb3.mono (by have := HS2.out; omega))).setCell (Nat.le_refl _) _); have HOW3 : Hid (OwnR 5 heldC 67 W3 w2.heap.size (.slice a1 l.held.length cap1) l.held) := Lib.hid (by rw [← hW3]; exact hown3.cell (by have := HS2.out; omega)); have HS3 : Hid (w2.heap.size ≤ W3.heap.size) := Lib.hid (by rw [← hW3]; have := hb3.size; simpa using this); have HQ3 : Hid (∀ k, k < w2.heap.size → k ≠ w.heap.size → W3.heap[k]? = w2.heap[k]?) := Lib.hid (fun k h1 h2 => by rw [← hW3]; exact (heap_setCell_other _ _ _ _ (by show k ≠ w.heap.size; exact h2)).trans (hb3.block k h1)); have HG3 := Lib.hid (HLs.out.below HBW3.out (Nat.le_refl _)); clear hown3 hb3 hL3 y2 y3)
          | (go_at_call 96; refine (Il.clone_any l.last vl _ HG3.out HN2.out).mono ?_; rintro e w5 ⟨u5, rfl, hown5, hb5⟩; obtain ⟨a2, cap2, hv2, -⟩ := id (hown5.sl lastC_len); subst hv2; have hL5 := (hb5.block w.heap.size (by have := HS2.out; have := HS3.out; omega)).trans HL3.out; have t5 := row3 hL5; have u5 := frozen_of (o := 3) hL5; obtain ⟨W5, hW5⟩ : ∃ q, w5.setCell ⟨w.heap.size, 3, none⟩ (.slice a2 l.last.length cap2) = q := ⟨_, rfl⟩; have HX5 : Hid (Box W5 w.heap.size l (.slice a1 l.held.length cap1) (.slice a2 l.last.length cap2)) := Lib.hid (by rw [← hW5]; exact ⟨store3 hL5 _, ((HOW3.out.below hb5 (Nat.le_refl _)).cell (by have := HS2.out; omega)).lower (by have := HS2.out; omega), (hown5.cell (by have := HS2.out; have := HS3.out; omega)).lower (by have := HS2.out; have := HS3.out; omega), fun k h1 h2 => by (have := (own_block HOW3.out k h1).2; have := (own_block hown5 k h2).1; omega)⟩); have HB5 : Hid (Below w.heap.size w W5) := Lib.hid (by rw [← hW5]; exact (HBW3.out.trans (hb5.mono (by have := HS2.out; have := HS3.out; omega))).setCell (Nat.le_refl _) _); have HS5 : Hid (w.heap.size + 4 ≤ W5.heap.size) := Lib.hid (by rw [← hW5]; have := hb5.size; have := HS2.out; have := HS3.out; simp; omega); have HQ5 : Hid (∀ k, k < w2.heap.size → k ≠ w.heap.size → W5.heap[k]? = w2.heap[k]?) := Lib.hid (fun k h1 h2 => by rw [← hW5]; exact (heap_setCell_other _ _ _ _ (by show k ≠ w.heap.size; exact h2)).trans ((hb5.block k (by have := HS3.out; omega)).trans (HQ3.out k h1 h2))); have HC5 := Lib.hid ((HQ5.out (w.heap.size + 1) (by have := HS2.out; omega) (by omega)).trans HC2.out); have HO5 : Hid ((∀ k, (Value.slice a1 l.held.length cap1).ownBlock = some k → w.heap.size + 4 ≤ k) ∧ ∀ k, (Value.slice a2 l.last.length cap2).ownBlock = some k → w.heap.size + 4 ≤ k) := Lib.hid ⟨fun k h1 => by (have := (own_block HOW3.out k h1).1; have := HS2.out; omega), fun k h1 => by (have := (own_block hown5 k h1).1; have := HS2.out; have := HS3.out; omega)⟩; clear hown5 hb5 hL5 t2 u2 t3)
          | (with_reducible refine wpList_load_row rfl 34 (.tmp 5) rfl (w.heap.size + 1) rfl 34 (cA c vn) (0, 0) _ HC5.out Try.underlying34 rfl (by kernel_rfl) ?_))
        refine (change_any l _ _ _ w.heap.size i c _ HX5.out HLP.out HWF.out (HCM.out.below HB5.out (Nat.le_refl _)) HK.out).mono ?_
        rintro e w6 ⟨vh6, vl6, rfl, hX6, hF6, hO6, hP6⟩
        have HDW := Lib.hid (do_wf HLP.out HWF.out HCW.out HIW.out)
        have HAP : Hid (∀ e w', Applied (doL l i c).1 (doL l i c).2 0 w e w' → Applied (applyL l i c) (answerL l i c) (errL l i c) w e w') := Lib.hid (fun e w' g => apply_good HOK.out HK.out HI0.out g)
        generalize doL l i c = r at *
        obtain ⟨a6, cap6, hv6, -⟩ := id (hX6.held.sl heldC_len)
        subst hv6
        obtain ⟨a7, cap7, hv7, -⟩ := id (hX6.last.sl lastC_len)
        subst hv7
        have hst : (w6.alloc (.cells #[.int .i64 0, .int .i64 0, .int .u64 0] 69)).heap[w6.heap.size]? = some (.cells #[.int .i64 0, .int .i64 0, .int .u64 0] 69 (0, 0)) := heap_alloc_new _ _
        have HST := Lib.hid hst
        have hb7 : Below w6.heap.size w6 ((w6.alloc (.cells #[.int .i64 0, .int .i64 0, .int .u64 0] 69)).setRow w6.heap.size #[.int .i64 r.2.code, .int .i64 r.2.token, .int .u64 r.2.serial]) := Ld.below_row ((Below.refl _ _).alloc (Nat.le_refl _) _) (Nat.le_refl _) _
        have hT7 := setRow_heap _ _ _ #[.int .i64 r.2.code, .int .i64 r.2.token, .int .u64 r.2.serial] _ _ hst
        obtain ⟨W7, hW7⟩ : ∃ q, (w6.alloc (.cells #[.int .i64 0, .int .i64 0, .int .u64 0] 69)).setRow w6.heap.size #[.int .i64 r.2.code, .int .i64 r.2.token, .int .u64 r.2.serial] = q := ⟨_, rfl⟩
        rw [hW7] at hb7 hT7
        have hs6 : w.heap.size + 4 ≤ w6.heap.size := Nat.le_trans HS5.out hF6.size
        have hkeep : ∀ k, w.heap.size + 1 ≤ k → k < w.heap.size + 4 → W7.heap[k]? = w2.heap[k]? := fun k h1 h2 =>
          (hb7.block k (by omega)).trans ((hF6.block k (by have := HS5.out; omega) (by omega) (fun e => by have := HO5.out.1 k e.symm; omega) (fun e => by have := HO5.out.2 k e.symm; omega)).trans (HQ5.out k (by have := HS2.out; omega) (by omega)))
        have hR7 := (hkeep (w.heap.size + 2) (by omega) (by omega)).trans HR2.out
        have hA7 := (hkeep (w.heap.size + 3) (by omega) (by omega)).trans HA2.out
        have hX7 := hX6.below hb7
        have HX7 := Lib.hid hX7
        have HB7 : Hid (Below w.heap.size w W7) := Lib.hid ((HB5.out.trans (hF6.below (B := w.heap.size) (fun k hk => by have := HO5.out.1 k hk; omega) (fun k hk => by have := HO5.out.2 k hk; omega) (Nat.le_refl _) (by have := HS5.out; omega))).trans (hb7.mono (by omega)))
        have HO7 : Hid (∀ k, (Value.slice a6 r.1.held.length cap6).ownBlock = some k → w.heap.size + 4 ≤ k) := Lib.hid (fun k hk => by
          rcases hO6 k hk with h | h
          · exact HO5.out.1 k h
          · have := HS5.out; omega)
        have HP7 : Hid (∀ k, (Value.slice a7 r.1.last.length cap7).ownBlock = some k → w.heap.size + 4 ≤ k) := Lib.hid (fun k hk => by
          rcases hP6 k hk with h | h
          · exact HO5.out.2 k h
          · have := HS5.out; omega)
        obtain ⟨y0, y1, y2, y3⟩ := led_cells hX7.box
        have x0 := (cell_of_row W7 _ 0 _ _ _ hT7).trans rfl
        have x1 := (cell_of_row W7 _ 1 _ _ _ hT7).trans rfl
        have x2 := (cell_of_row W7 _ 2 _ _ _ hT7).trans rfl
        have r0 := (cell_of_row W7 _ 0 _ _ _ hR7).trans rfl
        have r1 := (cell_of_row W7 _ 1 _ _ _ hR7).trans rfl
        have r2 := (cell_of_row W7 _ 2 _ _ _ hR7).trans rfl
        have r3 := (cell_of_row W7 _ 3 _ _ _ hR7).trans rfl
        have s0 := (cell_of_row W7 _ 0 _ _ _ hA7).trans rfl
        have s1 := (cell_of_row W7 _ 1 _ _ _ hA7).trans rfl
        have s2 := (cell_of_row W7 _ 2 _ _ _ hA7).trans rfl
        have f0 := frozen_of (o := 0) hR7
        have f1 := frozen_of (o := 1) hR7
        have f2 := frozen_of (o := 2) hR7
        have f3 := frozen_of (o := 3) hR7
        have g0 := frozen_of (o := 0) hA7
        have g1 := frozen_of (o := 1) hA7
        have g2 := frozen_of (o := 2) hA7
        have HR7 := Lib.hid hR7
        have HA7 := Lib.hid hA7
        have HS6 := Lib.hid hs6
        clear hX6 hF6 hO6 hP6 hst hb7 hT7 hkeep hR7 hA7 hX7
        have hne0 : w.heap.size ≠ w6.heap.size := by omega
        have hne2 : w.heap.size + 1 + 1 ≠ w6.heap.size := by omega
        have hne3 : w.heap.size + 1 + 1 + 1 ≠ w6.heap.size := by omega
        go_wp2_with ((with_reducible refine wpList_store_row rfl 69 (.tmp 11) (.tmp 40) rfl w6.heap.size #[.int .i64 r.2.code, .int .i64 r.2.token, .int .u64 r.2.serial] rfl rfl 69 _ HST.out (by kernel_rfl) rfl (ans_one _ _ _) ?_))
        go_region
        all_goals
          generalize hW8 : World.drew _ = W8
          obtain ⟨U1, hU1⟩ : ∃ U, W7.setCells (w.heap.size + 2) 0 [.int .i64 r.1.limit, .int .u64 r.1.next, .slice a6 r.1.held.length cap6, .slice a7 r.1.last.length cap7] = U := ⟨_, rfl⟩
          obtain ⟨U2, hU2⟩ : ∃ U, U1.setCells (w.heap.size + 3) 0 [.int .i64 r.2.code, .int .i64 r.2.token, .int .u64 r.2.serial] = U := ⟨_, rfl⟩
          have hW8e : W8 = U2.drew := by rw [← hU2, ← hU1]; exact hW8.symm
          have hd8 : W8.heap = U2.heap := by rw [hW8e]; rfl
          have hE1 : ∀ k, k ≠ w.heap.size + 2 → U1.heap[k]? = W7.heap[k]? := fun k h => by rw [← hU1]; exact other_cells _ _ _ _ h
          have hE2 : ∀ k, k ≠ w.heap.size + 3 → U2.heap[k]? = U1.heap[k]? := fun k h => by rw [← hU2]; exact other_cells _ _ _ _ h
          have hB1 : Below w.heap.size W7 U1 := by rw [← hU1]; exact below_cells w.heap.size (by omega) _ _ _
          have hB2 : Below w.heap.size U1 U2 := by rw [← hU2]; exact below_cells w.heap.size (by omega) _ _ _
          have hR1 : U1.heap[w.heap.size + 2]? = some (.cells #[.int .i64 r.1.limit, .int .u64 r.1.next, .slice a6 r.1.held.length cap6, .slice a7 r.1.last.length cap7] 27 (0, 0)) := by rw [← hU1]; exact row_cells4 HR7.out _ _ _ _
          have hA2 : U2.heap[w.heap.size + 3]? = some (.cells #[.int .i64 r.2.code, .int .i64 r.2.token, .int .u64 r.2.serial] 69 (0, 0)) := by rw [← hU2]; exact row_cells3 ((hE1 _ (by omega)).trans HA7.out) _ _ _
          have hR8 : W8.heap[w.heap.size + 2]? = some (.cells #[.int .i64 r.1.limit, .int .u64 r.1.next, .slice a6 r.1.held.length cap6, .slice a7 r.1.last.length cap7] 27 (0, 0)) := by
            rw [hd8]
            exact (hE2 _ (by omega)).trans hR1
          have hA8 : W8.heap[w.heap.size + 3]? = some (.cells #[.int .i64 r.2.code, .int .i64 r.2.token, .int .u64 r.2.serial] 69 (0, 0)) := by rw [hd8]; exact hA2
          have hE8 : ∀ k, k ≠ w.heap.size + 2 → k ≠ w.heap.size + 3 → W8.heap[k]? = W7.heap[k]? := fun k h1 h2 => by rw [hd8]; exact (hE2 _ h2).trans (hE1 _ h1)
          have hB8 : Below w.heap.size w W8 := by rw [hW8e]; exact (HB7.out.trans (hB1.trans hB2)).drew
          have HFIN : Hid (Applied r.1 r.2 0 w (.returned (.tuple #[.agg #[.int .i64 r.1.limit, .int .u64 r.1.next, .slice a6 r.1.held.length cap6, .slice a7 r.1.last.length cap7], .agg #[.int .i64 r.2.code, .int .i64 r.2.token, .int .u64 r.2.serial], .int .i64 0])) W8) := Lib.hid
            ⟨_, _, rfl, (own_keep HX7.out.held fun k hk => hE8 k (by have := HO7.out k hk; omega) (by have := HO7.out k hk; omega)).lower (by omega), (own_keep HX7.out.last fun k hk => hE8 k (by have := HP7.out k hk; omega) (by have := HP7.out k hk; omega)).lower (by omega), HX7.out.apart, HDW.out.1, hB8⟩
          have HR8 := Lib.hid hR8
          have HA8 := Lib.hid hA8
          clear hW8 hW8e hR8 hA8 hE8 hB8 hU1 hU2 hd8 hE1 hE2 hB1 hB2 hR1 hA2 y0 y1 y2 y3 x0 x1 x2 r0 r1 r2 r3 s0 s1 s2 f0 f1 f2 f3 g0 g1 g2
          go_wp2
          exact bodyPost_ret (v := .tuple #[.agg #[.int .i64 r.1.limit, .int .u64 r.1.next, .slice a6 r.1.held.length cap6, .slice a7 r.1.last.length cap7], .agg #[.int .i64 r.2.code, .int .i64 r.2.token, .int .u64 r.2.serial], .int .i64 0]) (results_cell3 rfl _ _ (w.heap.size + 2) (w.heap.size + 3) 27 69 _ _ (0, 0) (0, 0) _ _ rfl HR8.out Try.underlying27 rfl (by kernel_rfl) rfl HA8.out Try.underlying69 rfl (by kernel_rfl) rfl) rfl (HAP.out _ _ HFIN.out)
    · have HFIN := Lib.hid (apply_bad (err_cmd (i := i) HOK.out hk) (by decide) (applied_no HB2.out zArr #[.int .i64 0, .int .i64 0, .int .u64 0]))
      clear hk
      have HA9 := Lib.hid ((setRow_other w2 (w.heap.size + 2) (w.heap.size + 3) zArr (by omega)).trans HA2.out)
      go_wp2_with (first
        | (with_reducible refine wpList_store_row rfl 27 (.tmp 6) (.tmp 23) rfl (w.heap.size + 2) zArr rfl rfl 27 _ HR2.out (by kernel_rfl) rfl zArr_one ?_)
        | (with_reducible refine wpList_store_row rfl 69 (.tmp 7) (.tmp 24) rfl (w.heap.size + 3) #[.int .i64 0, .int .i64 0, .int .u64 0] rfl rfl 69 _ HA9.out (by kernel_rfl) rfl (ans_one _ _ _) ?_))
      exact bodyPost_ret (v := .tuple #[.agg zArr, .agg #[.int .i64 0, .int .i64 0, .int .u64 0], .int .i64 40]) (results_cell3 rfl _ _ (w.heap.size + 2) (w.heap.size + 3) 27 69 _ _ (0, 0) (0, 0) _ _ rfl ((setRow_other _ _ _ _ (by omega)).trans (setRow_heap _ _ _ _ _ _ HR2.out)) Try.underlying27 rfl (by kernel_rfl) rfl (setRow_heap _ _ _ _ _ _ HA9.out) Try.underlying69 rfl (by kernel_rfl) rfl) rfl HFIN.out
  · have HFIN := Lib.hid (apply_bad (err_led (i := i) (c := c) hno) (by decide) (applied_no HB1.out zArr #[.int .i64 0, .int .i64 0, .int .u64 0]))
    have HA2 := Lib.hid ((setRow_other w1 (w.heap.size + 2) (w.heap.size + 3) zArr (by omega)).trans HA1.out)
    clear hno
    go_wp2_with (first
      | (with_reducible refine wpList_store_row rfl 27 (.tmp 6) (.tmp 16) rfl (w.heap.size + 2) zArr rfl rfl 27 _ HR1.out (by kernel_rfl) rfl zArr_one ?_)
      | (with_reducible refine wpList_store_row rfl 69 (.tmp 7) (.tmp 17) rfl (w.heap.size + 3) #[.int .i64 0, .int .i64 0, .int .u64 0] rfl rfl 69 _ HA2.out (by kernel_rfl) rfl (ans_one _ _ _) ?_))
    exact bodyPost_ret (v := .tuple #[.agg zArr, .agg #[.int .i64 0, .int .i64 0, .int .u64 0], .int .i64 50]) (results_cell3 rfl _ _ (w.heap.size + 2) (w.heap.size + 3) 27 69 _ _ (0, 0) (0, 0) _ _ rfl ((setRow_other _ _ _ _ (by omega)).trans (setRow_heap _ _ _ _ _ _ HR1.out)) Try.underlying27 rfl (by kernel_rfl) rfl (setRow_heap _ _ _ _ _ _ HA2.out) Try.underlying69 rfl (by kernel_rfl) rfl) rfl HFIN.out
end La
end Go.Proofs.Ytgadbghlcejkfaa
