/- The document's Cmd, wherever the reader stands. No condition. -/
import Derived.Test.YtngnhegmealokaaCeE
import Derived.BigRegion
namespace Go.Proofs.Ytngnhegmealokaa
open Go.ChangeShapes Go.WideShapes Go.ChangeAt Go.RowKit
set_option linter.unusedVariables false
set_option maxRecDepth 100000
namespace Cm
def rdU (zs : List Int) (u0 : Nat) : Cmd × Int × Nat :=
  if ((nx zs u0 18446744073709551615).2.1 == 0) = true then if kindB (nx zs u0 18446744073709551615).1 = true then rdC zs (nx zs u0 18446744073709551615).1 (nx zs u0 18446744073709551615).2.2 else (zeroC, 11, 0) else (zeroC, (nx zs u0 18446744073709551615).2.1, 0)
theorem kind_yesU {zs : List Int} {u0 : Nat} (hw : ∀ n ∈ zs, (Lit.int .u8 n).wf = true) (h : kindB (sm zs u0 0 6).1 = true) : (sm zs u0 0 6).2.1 = 0 ∧ rdU zs u0 = rdC zs (sm zs u0 0 6).1 (sm zs u0 0 6).2.2 := by
  have hrn : rn zs u0 0 = nx zs u0 18446744073709551615 := rfl
  have h6 : 1 ≤ (sm zs u0 0 6).1 ∧ (sm zs u0 0 6).1 ≤ 6 := of_decide_eq_true h
  unfold sm at h h6 ⊢
  rw [hrn] at h h6 ⊢
  unfold rdU
  split
  · rename_i h1
    rw [if_pos h1] at h h6
    split
    · rename_i h2; rw [if_pos h2] at h6; simp at h6
    · rename_i h2; rw [if_neg h2] at h; rw [if_pos h]; exact ⟨rfl, rfl⟩
  · rename_i h1; rw [if_neg h1] at h6; simp at h6
theorem kind_noU {zs : List Int} {u0 : Nat} (hw : ∀ n ∈ zs, (Lit.int .u8 n).wf = true) (h : kindB (sm zs u0 0 6).1 = false) : (rdU zs u0).2.1 = failE (sm zs u0 0 6).2.1 11 ∧ (failE (sm zs u0 0 6).2.1 11 == 0) = false := by
  have hrn : rn zs u0 0 = nx zs u0 18446744073709551615 := rfl
  rcases hx : nx zs u0 18446744073709551615 with ⟨n, er, u⟩
  have hsm : sm zs u0 0 6 = if (er == 0) = true then if 6 < n then (0, 11, u) else (n, 0, u) else (0, er, u) := by unfold sm; rw [hrn, hx]
  have hK : rdU zs u0 = if (er == 0) = true then if kindB n = true then rdC zs n u else (zeroC, 11, 0) else (zeroC, er, 0) := by unfold rdU; rw [hx]
  rw [hsm] at h ⊢
  rw [hK]
  cases he : (er == 0) with
  | false =>
    simp only [Bool.false_eq_true, if_false]
    have : failE er 11 = er := by unfold failE; rw [he]; rfl
    rw [this]
    exact ⟨rfl, he⟩
  | true =>
    rw [he] at h
    simp only [if_true] at h ⊢
    by_cases h2 : 6 < n
    · have hk : kindB n = false := decide_eq_false (by omega)
      rw [if_pos h2, hk]
      exact ⟨rfl, rfl⟩
    · rw [if_neg h2] at h ⊢
      have hk : kindB n = false := h
      rw [hk]
      exact ⟨rfl, rfl⟩

def CmdU (g : Nat) (v : Value) (zs : List Int) (u0 : Nat) (w : World) (E : Ending) (w' : World) : Prop :=
  ∃ (c : Cmd) (a : Option Addr) (q r u : Nat) (e : Int), E = .returned (.agg (cArr c (.slice a q r))) ∧ RB g v u e w' ∧ (rdU zs u0).2.1 = e ∧ (e = 0 → rdU zs u0 = (c, 0, u) ∧ Sl .i64 w' (.slice a q r) c.nodes ∧ c.wf ∧ OwnI w' w.heap.size (.slice a q r) c.nodes) ∧ Only (· = g) w w' ∧ u ≤ zs.length

set_option maxHeartbeats 4000000 in
theorem rcmd_anyU (g : Nat) (v : Value) (zs : List Int) (u0 : Nat) (w : World) (hu0 : u0 ≤ zs.length) (h : RB g v u0 0 w) (hS : ∀ w', Only (· = g) w w' → Sl .u8 w' v zs) :
    Calls Try.prog 24 #[.pointer (some ⟨g, 0, none⟩)] w (CmdU g v zs u0 w) := by
  have hgl : g < w.heap.size := (Array.getElem?_eq_some_iff.1 h).1
  have hs0 := hS w (Only.refl _ _)
  have HWF := Lib.hid hs0.wf
  have HS := Lib.hid hS
  have hb6 := sm_bd (zs := zs) (u := u0) (m := 6) hu0 0 (by omega)
  have hR0 : ((w.alloc (.cells (cArr zeroC (.slice none 0 0)) 25)).alloc (.cells (cArr zeroC (.slice none 0 0)) 25)).heap[w.heap.size]? = some (.cells (cArr zeroC (.slice none 0 0)) 25 (0, 0)) := heap_alloc2_old _ _ _
  have hC0 : ((w.alloc (.cells (cArr zeroC (.slice none 0 0)) 25)).alloc (.cells (cArr zeroC (.slice none 0 0)) 25)).heap[w.heap.size + 1]? = some (.cells (cArr zeroC (.slice none 0 0)) 25 (0, 0)) := heap_alloc2_new _ _ _
  have ho0 : Only (· = g) w ((w.alloc (.cells (cArr zeroC (.slice none 0 0)) 25)).alloc (.cells (cArr zeroC (.slice none 0 0)) 25)) := Only.trans (Only.alloc _ _ _) (Only.alloc _ _ _)
  have hz0 : w.heap.size + 2 ≤ ((w.alloc (.cells (cArr zeroC (.slice none 0 0)) 25)).alloc (.cells (cArr zeroC (.slice none 0 0)) 25)).heap.size := by simp
  have hr0 : RB g v u0 0 ((w.alloc (.cells (cArr zeroC (.slice none 0 0)) 25)).alloc (.cells (cArr zeroC (.slice none 0 0)) 25)) := (heap_alloc_old _ _ (by simp; omega)).trans ((heap_alloc_old _ _ hgl).trans h)
  have HSM := Lib.hid (small_any g v zs u0 0 6 _ hr0 (HS.out _ ho0) hu0 (by omega) (by omega))
  have HR0 := Lib.hid hR0
  have HC0 := Lib.hid hC0
  have HO0 := Lib.hid ho0
  have HZ0 := Lib.hid hz0
  have HKY := Lib.hid (fun h => kind_yesU (zs := zs) (u0 := u0) hs0.wf h)
  have HKN := Lib.hid (fun h => kind_noU (zs := zs) (u0 := u0) hs0.wf h)
  clear hS hs0 hR0 hC0 ho0 hz0 hr0 h
  go_enter Try.func24, Try.ntmps24
  go_wp2_with fail
  refine HSM.out.mono ?_
  rintro E w1 ⟨rfl, hr1, ho1, hz1⟩
  have hz1' : w.heap.size + 2 ≤ w1.heap.size := by rw [hz1]; exact HZ0.out
  have hR1 := (ho1.2.2.2.2 w.heap.size (by have := HZ0.out; omega) (by omega)).trans HR0.out
  have hC1 := (ho1.2.2.2.2 (w.heap.size + 1) (by have := HZ0.out; omega) (by omega)).trans HC0.out
  have ho01 := HO0.out.trans ho1
  have hfC := frozen_of_row w1 (w.heap.size + 1) 0 _ _ hC1
  have hcC := kind_cell hC1
  obtain ⟨b1, b2, b3⟩ := hb6
  have hst := kind_store (k := (sm zs u0 0 6).1) hC1
  have hr2 : RB g v (sm zs u0 0 6).2.2 (sm zs u0 0 6).2.1 (w1.setCell ⟨w.heap.size + 1, 0, none⟩ (.int .i64 (sm zs u0 0 6).1)) := (heap_setCell_other _ _ _ _ (by simp; omega)).trans hr1
  have hR2 := (heap_setCell_other w1 ⟨w.heap.size + 1, 0, none⟩ w.heap.size (.int .i64 (sm zs u0 0 6).1) (by simp)).trans hR1
  have ho2 : Only (· = g) w (w1.setCell ⟨w.heap.size + 1, 0, none⟩ (.int .i64 (sm zs u0 0 6).1)) := ⟨ho01.1, ho01.2.1, ho01.2.2.1, by simpa using ho01.2.2.2.1, fun j hj hn => (heap_setCell_other _ _ _ _ (by simp; omega)).trans (ho01.2.2.2.2 j hj hn)⟩
  have hz2 : w.heap.size + 2 ≤ (w1.setCell ⟨w.heap.size + 1, 0, none⟩ (.int .i64 (sm zs u0 0 6).1)).heap.size := by simpa using hz1'
  clear hr1 ho1 hz1 hR1 ho01 hz1' hC1
  generalize sm zs u0 0 6 = x at *
  obtain ⟨kd, e1, u1⟩ := x
  have hwk : (Lit.int .i64 kd).wf = true := WalkArith.wf_i64 (by omega)
  have HWK := Lib.hid hwk
  have hk0 := kind_cell hst
  have HST := Lib.hid hst
  have HR2 := Lib.hid hR2
  have HRR := Lib.hid hr2
  have HO2 := Lib.hid ho2
  have HZ2 := Lib.hid hz2
  clear hst hR2 hr2 ho2 hz2 hwk
  go_wp2_with fail
  refine (rfields_any kd _).mono ?_
  rintro E w2 ⟨rfl, rfl⟩
  cases hkd : kindB kd with
  | false =>
    obtain ⟨n1, n2⟩ := HKN.out hkd
    have HN1 := Lib.hid n1
    have HN2 := Lib.hid n2
    clear n1 n2 hkd
    go_wp2_with fail
    refine (fail_any g v u1 e1 11 _ HRR.out).mono ?_
    rintro E w3 ⟨rfl, hr3, ho3, hz3⟩
    have hC3 := (ho3.2.2.2.2 (w.heap.size + 1) (by have := HZ2.out; omega) (by omega)).trans HST.out
    have hR3 := (ho3.2.2.2.2 w.heap.size (by have := HZ2.out; omega) (by omega)).trans HR2.out
    have ho03 := HO2.out.trans ho3
    clear ho3 hz3
    go_wp2_with (first
      | (refine wpList_load_row rfl 25 (.tmp 3) rfl (w.heap.size + 1) rfl 25 (cArr (kindC kd) (.slice none 0 0)) (0, 0) _ hC3 Try.underlying25 rfl (by kernel_rfl) ?_)
      | (refine wpList_store_row rfl 25 (.tmp 2) (.tmp 22) rfl w.heap.size (cArr (kindC kd) (.slice none 0 0)) rfl rfl 25 _ hR3 (by kernel_rfl) rfl (cArr_one _ _ _ _) ?_))
    refine bodyPost_ret (v := .agg (cArr (kindC kd) (.slice none 0 0))) (results_cell_row rfl _ _ w.heap.size 25 _ (0, 0) _ rfl (set_row hR3) Try.underlying25 rfl (by kernel_rfl)) rfl ?_
    refine ⟨kindC kd, none, 0, 0, u1, _, rfl, ?_, HN1.out, fun h0 => ?_, ?_⟩
    · exact (setRow_other _ _ _ _ (by omega)).trans hr3
    · have := HN2.out; rw [h0] at this; cases this
    · exact ⟨⟨ho03.1, ho03.2.1, ho03.2.2.1, by simpa using ho03.2.2.2.1, fun j hj hn => (setRow_other _ _ _ _ (by omega)).trans (ho03.2.2.2.2 j hj hn)⟩, b1⟩
  | true =>
    obtain ⟨y1, y2⟩ := HKY.out hkd
    have hy1 : e1 = 0 := y1
    subst hy1
    have hk16 : 1 ≤ kd ∧ kd ≤ 6 := of_decide_eq_true hkd
    have HSB := Lib.hid (sbs_fieldS hk16)
    have HY := Lib.hid y2
    have hfz : (fieldS kd).size = (fieldsL kd).length := by rw [← sbs_length, HSB.out, List.length_map]
    obtain ⟨cap, w4, hq, hs4, hb4, hl4⟩ := run_bytes (w1.setCell ⟨w.heap.size + 1, 0, none⟩ (.int .i64 kd)) (fieldS kd) (by unfold maxLen; have := fieldS_small kd; omega)
    rw [HSB.out] at hs4
    rw [hfz] at hq hs4
    have hzs : (w1.setCell ⟨w.heap.size + 1, 0, none⟩ (.int .i64 kd)).heap.size = w1.heap.size := by simp
    rw [hzs] at hq hs4
    have HS4 := Lib.hid hs4
    have hZ2 := HZ2.out
    rw [hzs] at hZ2
    have hzl : w1.heap.size < w4.heap.size := by rw [hzs] at hl4; exact hl4
    have hr4 : RB g v u1 0 w4 := (hb4.block g (by rw [hzs]; omega)).trans HRR.out
    have hC4 := (hb4.block (w.heap.size + 1) (by rw [hzs]; omega)).trans HST.out
    have hR4 := (hb4.block w.heap.size (by rw [hzs]; omega)).trans HR2.out
    have ho4 : Only (· = g) w w4 := HO2.out.trans (Below.only hb4 _)
    have hLI : Stt zs (rdU zs u0) ((fieldsL kd).drop 0) (kindC kd) u1 0 := .inl ⟨rfl, HY.out, kindC_wf hk16⟩
    have HLI := Lib.hid hLI
    obtain ⟨hfl, hfb⟩ := fieldsL_bd kd
    have HFB := Lib.hid hfb
    clear hl4 y2 hkd hk16 hs4 hb4 hLI hfb hZ2
    go_wp2
    go_loopw [26] (fun i wr => ∃ (k : Nat) (c : Cmd) (u : Nat) (e : Int) (vn : Value), k ≤ (fieldsL kd).length ∧ i = .int .i64 k ∧ Hid (Stt zs (rdU zs u0) ((fieldsL kd).drop k) c u e) ∧ u ≤ zs.length ∧ RB g v u e wr ∧ wr.heap[w.heap.size + 1]? = some (.cells (cArr c vn) 25 (0, 0)) ∧ OwnI wr (w.heap.size + 2) vn c.nodes ∧ Hid (∀ x ∈ c.nodes, 0 ≤ x ∧ x ≤ 65535) ∧ Past w4.heap.size (fun j => j = g ∨ j = w.heap.size + 1) w4 wr) (fun i _ => (fieldsL kd).length - (intOf i).toNat)
    case atStart => exact ⟨0, kindC kd, u1, 0, .slice none 0 0, Nat.zero_le _, rfl, HLI, b1, hr4, hC4, OwnK.nil _ _ _ _, Lib.hid (by simp [kindC]), ⟨rfl, rfl, rfl, Nat.le_refl _, fun _ _ _ => rfl⟩⟩
    case round =>
      obtain ⟨k, c, u, e, vn, hk, rfl, HT, hu, hr, hC, hown, HNB, hp⟩ := hrel
      have hsz := hp.2.2.2.1
      have hor : Only (· = g) w wr := ⟨hp.1.trans ho4.1, hp.2.1.trans ho4.2.1, hp.2.2.1.trans ho4.2.2.1, Nat.le_trans ho4.2.2.2.1 hsz, fun j hj hn => (hp.2.2.2.2 j (Nat.lt_of_lt_of_le hj ho4.2.2.2.1) (by omega)).trans (ho4.2.2.2.2 j hj hn)⟩
      have hzr : w.heap.size + 2 ≤ wr.heap.size := by have := HZ2.out; rw [hzs] at this; omega
      have hzw : w.heap.size + 2 ≤ w1.heap.size := by have := HZ2.out; rw [hzs] at this; omega
      have HOR := Lib.hid hor
      by_cases hlt : k < (fieldsL kd).length
      · have hblk : wr.heap[w1.heap.size]? = w4.heap[w1.heap.size]? := hp.2.2.2.2 w1.heap.size hzl (by omega)
        obtain ⟨b, off, hbo, -, hcx⟩ := Sl.at HS4.out (i := k) (by rw [List.length_map]; exact hlt)
        cases hbo
        rw [Nat.zero_add, getD_map2 hlt] at hcx
        have hcr := (World.cell?_of_block (a := ⟨w1.heap.size, k, none⟩) hblk).trans hcx
        have hfb' := HFB.out _ (Nd.mem_get hlt)
        have hT := HT.out
        rw [Nd.drop_get hlt] at hT
        generalize (fieldsL kd).getD k 0 = z at *
        obtain ⟨f, rfl⟩ : ∃ f : Nat, z = f := ⟨z.toNat, by omega⟩
        have hf6 : f ≤ 6 := by omega
        have hsl := HS.out _ hor
        clear hfb' hblk hcx hr4 hC4 hR4 HT hor
        rcases (show f = 0 ∨ f = 1 ∨ f = 2 ∨ f = 3 ∨ f = 4 ∨ f = 5 ∨ f = 6 by omega) with rfl | rfl | rfl | rfl | rfl | rfl | rfl
        · have hx : wr.cell? ⟨w1.heap.size, k, none⟩ = some (.int .u8 110) := hcr
          have hr1e : r1 zs 0 u e = (sm zs u e 65535) := if_pos (by omega)
          have hT2 := stt_num HWF.out hT (by omega) hu
          have hb1 := r1_bd hu 0 e
          rw [hr1e] at hT2 hb1
          have HT2 := Lib.hid hT2
          have HB1 := Lib.hid hb1
          have HCL := Lib.hid (small_any g v zs u e 65535 _ hr hsl hu (by omega) (by omega))
          have HHC := Lib.hid hC
          have HOWN := Lib.hid hown
          have HP := Lib.hid hp
          clear hcr hT hT2 hr1e hb1 hr hsl hC hown hp
          go_wp2_with fail
          refine HCL.out.mono ?_
          rintro E w5 ⟨rfl, hr5, ho5, hz5⟩
          have hC5 := (ho5.2.2.2.2 (w.heap.size + 1) (by omega) (by omega)).trans HHC.out
          obtain ⟨d1, d2, d3, d4, d5, d6, d7⟩ := fld_cells hC5
          have hfr := frozen_of_row w5 (w.heap.size + 1) 1 _ _ hC5
          have hown5 := own_only HOWN.out ho5 (by omega)
          have hp5 := HP.out.trans (Past.of_only2 (T := fun j => j = g ∨ j = w.heap.size + 1) ho5 hsz (fun j hj => .inl hj))
          have HHC5 := Lib.hid hC5
          clear hz5 ho5 hC5
          generalize (sm zs u e 65535) = y at *
          obtain ⟨n5, e5, u5⟩ := y
          have hst5 : (w5.setCell ⟨w.heap.size + 1, 1, none⟩ (.int .i64 n5)).heap[w.heap.size + 1]? = some (.cells (cArr (putC c 0 n5) vn) 25 (0, 0)) := by rw [heap_setCell_same w5 (w.heap.size + 1) 1 _ _ _ HHC5.out]; rfl
          have hr6 : RB g v u5 e5 (w5.setCell ⟨w.heap.size + 1, 1, none⟩ (.int .i64 n5)) := (heap_setCell_other _ _ _ _ (by simp; omega)).trans hr5
          have hown6 : OwnI (w5.setCell ⟨w.heap.size + 1, 1, none⟩ (.int .i64 n5)) (w.heap.size + 2) vn c.nodes := own_set hown5 (by omega)
          have hp6 := hp5.trans (Past.setCell (S := fun j => j = g ∨ j = w.heap.size + 1) w5 ⟨w.heap.size + 1, 1, none⟩ (.int .i64 n5) (.inr rfl))
          have hb5 := HB1.out
          have HST5 := Lib.hid hst5
          have HR6 := Lib.hid hr6
          have HOWN6 := Lib.hid hown6
          have HP6 := Lib.hid hp6
          clear hst5 hr6 hown6 hp6 hp5 hown5
          go_wp2
          go_roundw
          case rel => exact ⟨k + 1, putC c 0 n5, u5, e5, vn, by omega, by go_num, HT2, hb5.1, HR6.out, HST5.out, HOWN6.out, HNB, HP6.out⟩
          case measure => simp [intOf]; omega
        · have hx : wr.cell? ⟨w1.heap.size, k, none⟩ = some (.int .u8 98) := hcr
          have hr1e : r1 zs 1 u e = (rn zs u e) := if_neg (by omega)
          have hT2 := stt_num HWF.out hT (by omega) hu
          have hb1 := r1_bd hu 1 e
          rw [hr1e] at hT2 hb1
          have HT2 := Lib.hid hT2
          have HB1 := Lib.hid hb1
          have HCL := Lib.hid (rnum_any' g v zs u e _ hr hsl hu)
          have HHC := Lib.hid hC
          have HOWN := Lib.hid hown
          have HP := Lib.hid hp
          clear hcr hT hT2 hr1e hb1 hr hsl hC hown hp
          go_wp2_with fail
          refine HCL.out.mono ?_
          rintro E w5 ⟨rfl, hr5, ho5, hz5⟩
          have hC5 := (ho5.2.2.2.2 (w.heap.size + 1) (by omega) (by omega)).trans HHC.out
          obtain ⟨d1, d2, d3, d4, d5, d6, d7⟩ := fld_cells hC5
          have hfr := frozen_of_row w5 (w.heap.size + 1) 4 _ _ hC5
          have hown5 := own_only HOWN.out ho5 (by omega)
          have hp5 := HP.out.trans (Past.of_only2 (T := fun j => j = g ∨ j = w.heap.size + 1) ho5 hsz (fun j hj => .inl hj))
          have HHC5 := Lib.hid hC5
          clear hz5 ho5 hC5
          generalize (rn zs u e) = y at *
          obtain ⟨n5, e5, u5⟩ := y
          have hst5 : (w5.setCell ⟨w.heap.size + 1, 4, none⟩ (.int .u64 n5)).heap[w.heap.size + 1]? = some (.cells (cArr (putC c 1 n5) vn) 25 (0, 0)) := by rw [heap_setCell_same w5 (w.heap.size + 1) 4 _ _ _ HHC5.out]; rfl
          have hr6 : RB g v u5 e5 (w5.setCell ⟨w.heap.size + 1, 4, none⟩ (.int .u64 n5)) := (heap_setCell_other _ _ _ _ (by simp; omega)).trans hr5
          have hown6 : OwnI (w5.setCell ⟨w.heap.size + 1, 4, none⟩ (.int .u64 n5)) (w.heap.size + 2) vn c.nodes := own_set hown5 (by omega)
          have hp6 := hp5.trans (Past.setCell (S := fun j => j = g ∨ j = w.heap.size + 1) w5 ⟨w.heap.size + 1, 4, none⟩ (.int .u64 n5) (.inr rfl))
          have hb5 := HB1.out
          have HST5 := Lib.hid hst5
          have HR6 := Lib.hid hr6
          have HOWN6 := Lib.hid hown6
          have HP6 := Lib.hid hp6
          clear hst5 hr6 hown6 hp6 hp5 hown5
          go_wp2
          go_roundw
          case rel => exact ⟨k + 1, putC c 1 n5, u5, e5, vn, by omega, by go_num, HT2, hb5.1, HR6.out, HST5.out, HOWN6.out, HNB, HP6.out⟩
          case measure => simp [intOf]; omega
        · have hx : wr.cell? ⟨w1.heap.size, k, none⟩ = some (.int .u8 113) := hcr
          have hr1e : r1 zs 2 u e = (rn zs u e) := if_neg (by omega)
          have hT2 := stt_num HWF.out hT (by omega) hu
          have hb1 := r1_bd hu 2 e
          rw [hr1e] at hT2 hb1
          have HT2 := Lib.hid hT2
          have HB1 := Lib.hid hb1
          have HCL := Lib.hid (rnum_any' g v zs u e _ hr hsl hu)
          have HHC := Lib.hid hC
          have HOWN := Lib.hid hown
          have HP := Lib.hid hp
          clear hcr hT hT2 hr1e hb1 hr hsl hC hown hp
          go_wp2_with fail
          refine HCL.out.mono ?_
          rintro E w5 ⟨rfl, hr5, ho5, hz5⟩
          have hC5 := (ho5.2.2.2.2 (w.heap.size + 1) (by omega) (by omega)).trans HHC.out
          obtain ⟨d1, d2, d3, d4, d5, d6, d7⟩ := fld_cells hC5
          have hfr := frozen_of_row w5 (w.heap.size + 1) 5 _ _ hC5
          have hown5 := own_only HOWN.out ho5 (by omega)
          have hp5 := HP.out.trans (Past.of_only2 (T := fun j => j = g ∨ j = w.heap.size + 1) ho5 hsz (fun j hj => .inl hj))
          have HHC5 := Lib.hid hC5
          clear hz5 ho5 hC5
          generalize (rn zs u e) = y at *
          obtain ⟨n5, e5, u5⟩ := y
          have hst5 : (w5.setCell ⟨w.heap.size + 1, 5, none⟩ (.int .u64 n5)).heap[w.heap.size + 1]? = some (.cells (cArr (putC c 2 n5) vn) 25 (0, 0)) := by rw [heap_setCell_same w5 (w.heap.size + 1) 5 _ _ _ HHC5.out]; rfl
          have hr6 : RB g v u5 e5 (w5.setCell ⟨w.heap.size + 1, 5, none⟩ (.int .u64 n5)) := (heap_setCell_other _ _ _ _ (by simp; omega)).trans hr5
          have hown6 : OwnI (w5.setCell ⟨w.heap.size + 1, 5, none⟩ (.int .u64 n5)) (w.heap.size + 2) vn c.nodes := own_set hown5 (by omega)
          have hp6 := hp5.trans (Past.setCell (S := fun j => j = g ∨ j = w.heap.size + 1) w5 ⟨w.heap.size + 1, 5, none⟩ (.int .u64 n5) (.inr rfl))
          have hb5 := HB1.out
          have HST5 := Lib.hid hst5
          have HR6 := Lib.hid hr6
          have HOWN6 := Lib.hid hown6
          have HP6 := Lib.hid hp6
          clear hst5 hr6 hown6 hp6 hp5 hown5
          go_wp2
          go_roundw
          case rel => exact ⟨k + 1, putC c 2 n5, u5, e5, vn, by omega, by go_num, HT2, hb5.1, HR6.out, HST5.out, HOWN6.out, HNB, HP6.out⟩
          case measure => simp [intOf]; omega
        · have hx : wr.cell? ⟨w1.heap.size, k, none⟩ = some (.int .u8 116) := hcr
          have hr1e : r1 zs 3 u e = (sm zs u e 65535) := if_pos (by omega)
          have hT2 := stt_num HWF.out hT (by omega) hu
          have hb1 := r1_bd hu 3 e
          rw [hr1e] at hT2 hb1
          have HT2 := Lib.hid hT2
          have HB1 := Lib.hid hb1
          have HCL := Lib.hid (small_any g v zs u e 65535 _ hr hsl hu (by omega) (by omega))
          have HHC := Lib.hid hC
          have HOWN := Lib.hid hown
          have HP := Lib.hid hp
          clear hcr hT hT2 hr1e hb1 hr hsl hC hown hp
          go_wp2_with fail
          refine HCL.out.mono ?_
          rintro E w5 ⟨rfl, hr5, ho5, hz5⟩
          have hC5 := (ho5.2.2.2.2 (w.heap.size + 1) (by omega) (by omega)).trans HHC.out
          obtain ⟨d1, d2, d3, d4, d5, d6, d7⟩ := fld_cells hC5
          have hfr := frozen_of_row w5 (w.heap.size + 1) 2 _ _ hC5
          have hown5 := own_only HOWN.out ho5 (by omega)
          have hp5 := HP.out.trans (Past.of_only2 (T := fun j => j = g ∨ j = w.heap.size + 1) ho5 hsz (fun j hj => .inl hj))
          have HHC5 := Lib.hid hC5
          clear hz5 ho5 hC5
          generalize (sm zs u e 65535) = y at *
          obtain ⟨n5, e5, u5⟩ := y
          have hst5 : (w5.setCell ⟨w.heap.size + 1, 2, none⟩ (.int .i64 n5)).heap[w.heap.size + 1]? = some (.cells (cArr (putC c 3 n5) vn) 25 (0, 0)) := by rw [heap_setCell_same w5 (w.heap.size + 1) 2 _ _ _ HHC5.out]; rfl
          have hr6 : RB g v u5 e5 (w5.setCell ⟨w.heap.size + 1, 2, none⟩ (.int .i64 n5)) := (heap_setCell_other _ _ _ _ (by simp; omega)).trans hr5
          have hown6 : OwnI (w5.setCell ⟨w.heap.size + 1, 2, none⟩ (.int .i64 n5)) (w.heap.size + 2) vn c.nodes := own_set hown5 (by omega)
          have hp6 := hp5.trans (Past.setCell (S := fun j => j = g ∨ j = w.heap.size + 1) w5 ⟨w.heap.size + 1, 2, none⟩ (.int .i64 n5) (.inr rfl))
          have hb5 := HB1.out
          have HST5 := Lib.hid hst5
          have HR6 := Lib.hid hr6
          have HOWN6 := Lib.hid hown6
          have HP6 := Lib.hid hp6
          clear hst5 hr6 hown6 hp6 hp5 hown5
          go_wp2
          go_roundw
          case rel => exact ⟨k + 1, putC c 3 n5, u5, e5, vn, by omega, by go_num, HT2, hb5.1, HR6.out, HST5.out, HOWN6.out, HNB, HP6.out⟩
          case measure => simp [intOf]; omega
        · have hx : wr.cell? ⟨w1.heap.size, k, none⟩ = some (.int .u8 115) := hcr
          have hr1e : r1 zs 4 u e = (rn zs u e) := if_neg (by omega)
          have hT2 := stt_num HWF.out hT (by omega) hu
          have hb1 := r1_bd hu 4 e
          rw [hr1e] at hT2 hb1
          have HT2 := Lib.hid hT2
          have HB1 := Lib.hid hb1
          have HCL := Lib.hid (rnum_any' g v zs u e _ hr hsl hu)
          have HHC := Lib.hid hC
          have HOWN := Lib.hid hown
          have HP := Lib.hid hp
          clear hcr hT hT2 hr1e hb1 hr hsl hC hown hp
          go_wp2_with fail
          refine HCL.out.mono ?_
          rintro E w5 ⟨rfl, hr5, ho5, hz5⟩
          have hC5 := (ho5.2.2.2.2 (w.heap.size + 1) (by omega) (by omega)).trans HHC.out
          obtain ⟨d1, d2, d3, d4, d5, d6, d7⟩ := fld_cells hC5
          have hfr := frozen_of_row w5 (w.heap.size + 1) 6 _ _ hC5
          have hown5 := own_only HOWN.out ho5 (by omega)
          have hp5 := HP.out.trans (Past.of_only2 (T := fun j => j = g ∨ j = w.heap.size + 1) ho5 hsz (fun j hj => .inl hj))
          have HHC5 := Lib.hid hC5
          clear hz5 ho5 hC5
          generalize (rn zs u e) = y at *
          obtain ⟨n5, e5, u5⟩ := y
          have hst5 : (w5.setCell ⟨w.heap.size + 1, 6, none⟩ (.int .u64 n5)).heap[w.heap.size + 1]? = some (.cells (cArr (putC c 4 n5) vn) 25 (0, 0)) := by rw [heap_setCell_same w5 (w.heap.size + 1) 6 _ _ _ HHC5.out]; rfl
          have hr6 : RB g v u5 e5 (w5.setCell ⟨w.heap.size + 1, 6, none⟩ (.int .u64 n5)) := (heap_setCell_other _ _ _ _ (by simp; omega)).trans hr5
          have hown6 : OwnI (w5.setCell ⟨w.heap.size + 1, 6, none⟩ (.int .u64 n5)) (w.heap.size + 2) vn c.nodes := own_set hown5 (by omega)
          have hp6 := hp5.trans (Past.setCell (S := fun j => j = g ∨ j = w.heap.size + 1) w5 ⟨w.heap.size + 1, 6, none⟩ (.int .u64 n5) (.inr rfl))
          have hb5 := HB1.out
          have HST5 := Lib.hid hst5
          have HR6 := Lib.hid hr6
          have HOWN6 := Lib.hid hown6
          have HP6 := Lib.hid hp6
          clear hst5 hr6 hown6 hp6 hp5 hown5
          go_wp2
          go_roundw
          case rel => exact ⟨k + 1, putC c 4 n5, u5, e5, vn, by omega, by go_num, HT2, hb5.1, HR6.out, HST5.out, HOWN6.out, HNB, HP6.out⟩
          case measure => simp [intOf]; omega
        · have hx : wr.cell? ⟨w1.heap.size, k, none⟩ = some (.int .u8 109) := hcr
          have hr1e : r1 zs 5 u e = (rn zs u e) := if_neg (by omega)
          have hT2 := stt_num HWF.out hT (by omega) hu
          have hb1 := r1_bd hu 5 e
          rw [hr1e] at hT2 hb1
          have HT2 := Lib.hid hT2
          have HB1 := Lib.hid hb1
          have HCL := Lib.hid (rnum_any' g v zs u e _ hr hsl hu)
          have HHC := Lib.hid hC
          have HOWN := Lib.hid hown
          have HP := Lib.hid hp
          clear hcr hT hT2 hr1e hb1 hr hsl hC hown hp
          go_wp2_with fail
          refine HCL.out.mono ?_
          rintro E w5 ⟨rfl, hr5, ho5, hz5⟩
          have hC5 := (ho5.2.2.2.2 (w.heap.size + 1) (by omega) (by omega)).trans HHC.out
          obtain ⟨d1, d2, d3, d4, d5, d6, d7⟩ := fld_cells hC5
          have hfr := frozen_of_row w5 (w.heap.size + 1) 7 _ _ hC5
          have hown5 := own_only HOWN.out ho5 (by omega)
          have hp5 := HP.out.trans (Past.of_only2 (T := fun j => j = g ∨ j = w.heap.size + 1) ho5 hsz (fun j hj => .inl hj))
          have HHC5 := Lib.hid hC5
          clear hz5 ho5 hC5
          generalize (rn zs u e) = y at *
          obtain ⟨n5, e5, u5⟩ := y
          have hst5 : (w5.setCell ⟨w.heap.size + 1, 7, none⟩ (.int .u64 n5)).heap[w.heap.size + 1]? = some (.cells (cArr (putC c 5 n5) vn) 25 (0, 0)) := by rw [heap_setCell_same w5 (w.heap.size + 1) 7 _ _ _ HHC5.out]; rfl
          have hr6 : RB g v u5 e5 (w5.setCell ⟨w.heap.size + 1, 7, none⟩ (.int .u64 n5)) := (heap_setCell_other _ _ _ _ (by simp; omega)).trans hr5
          have hown6 : OwnI (w5.setCell ⟨w.heap.size + 1, 7, none⟩ (.int .u64 n5)) (w.heap.size + 2) vn c.nodes := own_set hown5 (by omega)
          have hp6 := hp5.trans (Past.setCell (S := fun j => j = g ∨ j = w.heap.size + 1) w5 ⟨w.heap.size + 1, 7, none⟩ (.int .u64 n5) (.inr rfl))
          have hb5 := HB1.out
          have HST5 := Lib.hid hst5
          have HR6 := Lib.hid hr6
          have HOWN6 := Lib.hid hown6
          have HP6 := Lib.hid hp6
          clear hst5 hr6 hown6 hp6 hp5 hown5
          go_wp2
          go_roundw
          case rel => exact ⟨k + 1, putC c 5 n5, u5, e5, vn, by omega, by go_num, HT2, hb5.1, HR6.out, HST5.out, HOWN6.out, HNB, HP6.out⟩
          case measure => simp [intOf]; omega
        · have hx : wr.cell? ⟨w1.heap.size, k, none⟩ = some (.int .u8 108) := hcr
          have HT2 := Lib.hid (stt_list HWF.out hT)
          have hlb := ln_bd (e := e) hu
          have HLB := Lib.hid hlb.2
          have hub := hlb.1
          have HCL := Lib.hid (rlist_any g v zs u e _ hr (fun w' ho' => HS.out w' (HOR.out.trans ho')) hu)
          have HHC := Lib.hid hC
          have HP := Lib.hid hp
          clear hcr hT hr hsl hC hown hp hlb
          go_wp2_with fail
          refine HCL.out.mono ?_
          rintro E w5 ⟨vn5, rfl, hown5, hr5, ho5⟩
          have hC5 := (ho5.2.2.2.2 (w.heap.size + 1) (by omega) (by omega)).trans HHC.out
          obtain ⟨d1, d2, d3, d4, d5, d6, d7⟩ := fld_cells hC5
          have hfr := frozen_of_row w5 (w.heap.size + 1) 3 _ _ hC5
          have hp5 := HP.out.trans (Past.of_only2 (T := fun j => j = g ∨ j = w.heap.size + 1) ho5 hsz (fun j hj => .inl hj))
          have hown5b : OwnI w5 (w.heap.size + 2) vn5 (ln zs u e).1 := OwnK.mono hown5 hzr
          obtain ⟨a5, q5, t5, rfl⟩ := own_form hown5b
          have hst5 := copy_store hC5 (.slice a5 q5 t5)
          have hr6 : RB g v (ln zs u e).2.2 (ln zs u e).2.1 (w5.setCell ⟨w.heap.size + 1, 3, none⟩ (.slice a5 q5 t5)) := (heap_setCell_other _ _ _ _ (by simp; omega)).trans hr5
          have hown6 : OwnI (w5.setCell ⟨w.heap.size + 1, 3, none⟩ (.slice a5 q5 t5)) (w.heap.size + 2) (.slice a5 q5 t5) (ln zs u e).1 := own_set hown5b (by omega)
          have hp6 := hp5.trans (Past.setCell (S := fun j => j = g ∨ j = w.heap.size + 1) w5 ⟨w.heap.size + 1, 3, none⟩ (.slice a5 q5 t5) (.inr rfl))
          have HST5 := Lib.hid hst5
          have HR6 := Lib.hid hr6
          have HOWN6 := Lib.hid hown6
          have HP6 := Lib.hid hp6
          clear hst5 hr6 hown6 hp6 hp5 hown5 hown5b hr5 ho5 hC5
          generalize ln zs u e = y at *
          go_wp2
          go_roundw
          case rel => exact ⟨k + 1, { c with nodes := y.1 }, y.2.2, y.2.1, .slice a5 q5 t5, by omega, by go_num, HT2, hub, HR6.out, HST5.out, HOWN6.out, HLB, HP6.out⟩
          case measure => simp [intOf]; omega
      · obtain rfl : k = (fieldsL kd).length := by omega
        have hT := HT.out
        rw [List.drop_length] at hT
        have HTT := Lib.hid hT
        have hR5 := (hp.2.2.2.2 w.heap.size (by omega) (by omega)).trans hR4
        obtain ⟨an, qn, rn', rfl⟩ := own_form hown
        have HOWN := Lib.hid hown
        have HRR5 := Lib.hid hr
        clear hT HT hr hown hp hr4 hC4 hR4
        go_wp2_with (first
          | (refine wpList_load_row rfl 25 (.tmp 3) rfl (w.heap.size + 1) rfl 25 (cArr c (.slice an qn rn')) (0, 0) _ hC Try.underlying25 rfl (by kernel_rfl) ?_)
          | (refine wpList_store_row rfl 25 (.tmp 2) (.tmp 67) rfl w.heap.size (cArr c (.slice an qn rn')) rfl rfl 25 _ hR5 (by kernel_rfl) rfl (cArr_one _ _ _ _) ?_))
        refine bodyPost_ret (v := .agg (cArr c (.slice an qn rn'))) (results_cell_row rfl _ _ w.heap.size 25 _ (0, 0) _ rfl (set_row hR5) Try.underlying25 rfl (by kernel_rfl)) rfl ?_
        have hownf : OwnI (wr.setRow w.heap.size (cArr c (.slice an qn rn'))) (w.heap.size + 2) (.slice an qn rn') c.nodes := by
          rcases HOWN.out.2 with h2 | ⟨q, cap', cur, e2, hq2, hh, hrr⟩
          · exact ⟨HOWN.out.1, .inl h2⟩
          · exact ⟨HOWN.out.1, .inr ⟨q, cap', cur, e2, hq2, (setRow_other _ _ _ _ (by omega)).trans hh, hrr⟩⟩
        refine ⟨c, an, qn, rn', u, e, rfl, (setRow_other _ _ _ _ (by omega)).trans HRR5.out, ?_, fun h0 => ?_, ?_⟩
        · rcases HTT.out with ⟨h1, h2, _⟩ | ⟨_, h2⟩
          · rw [h2, h1]; rfl
          · exact h2
        · rcases HTT.out with ⟨h1, h2, h3⟩ | ⟨h1, _⟩
          · exact ⟨h2, OwnK.sl hownf (fun x hx => by have := HNB.out x hx; exact WalkArith.wf_i64 (by omega)), h3, OwnK.mono hownf (by omega)⟩
          · rw [h0] at h1; cases h1
        · exact ⟨⟨HOR.out.1, HOR.out.2.1, HOR.out.2.2.1, by simpa using HOR.out.2.2.2.1, fun j hj hn => (setRow_other _ _ _ _ (by omega)).trans (HOR.out.2.2.2.2 j hj hn)⟩, hu⟩
end Cm
end Go.Proofs.Ytngnhegmealokaa
