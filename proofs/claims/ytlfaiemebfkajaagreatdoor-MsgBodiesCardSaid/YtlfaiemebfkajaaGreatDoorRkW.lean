/- The document's Cmd, wherever the reader stands. No condition. A command read wherever it stands, and cut, on lists. No condition. What the document reads as a record is what package hard reads, on lists. No condition. The document's Cmd as a reader of what is left. No condition. -/
import Derived.Test.YtlfaiemebfkajaaGreatDoorCeE
import Derived.BigRegion
import Derived.Test.YtlfaiemebfkajaaGreatDoorRkX
import Derived.Test.YtlfaiemebfkajaaGreatDoorEdX
namespace Go.Proofs.YtlfaiemebfkajaaGreatDoor
open Go.ChangeShapes Go.WideShapes Go.ChangeAt Go.RowKit
set_option linter.unusedVariables false
set_option maxRecDepth 100000
namespace Cm
def rdU (zs : List Int) (u0 : Nat) : Cmd × Int × Nat :=
  if ((nx zs u0 18446744073709551615).2.1 == 0) = true then if kindB (nx zs u0 18446744073709551615).1 = true then rdC zs (nx zs u0 18446744073709551615).1 (nx zs u0 18446744073709551615).2.2 else (zeroC, 11, 0) else (zeroC, (nx zs u0 18446744073709551615).2.1, 0)
theorem kind_yesU {zs : List Int} {u0 : Nat} (hw : ∀ n ∈ zs, (Lit.int .u8 n).wf = true) (h : kindB (sm zs u0 0 6).1 = true) : (sm zs u0 0 6).2.1 = 0 ∧ rdU zs u0 = rdC zs (sm zs u0 0 6).1 (sm zs u0 0 6).2.2 := by
  have hrn : rn zs u0 0 = nx zs u0 18446744073709551615 := rfl
  have h6 : 1 ≤ (sm zs u0 0 6).1 ∧ (sm zs u0 0 6).1 ≤ 6 := of_decide_eq_true h
  unfold sm at h h6 ⊢
  rw [hrn] at h h6 ⊢
  unfold rdU
  split
  · rename_i h1
    rw [if_pos h1] at h h6
    split
    · rename_i h2; rw [if_pos h2] at h6; simp at h6
    · rename_i h2; rw [if_neg h2] at h; rw [if_pos h]; exact ⟨rfl, rfl⟩
  · rename_i h1; rw [if_neg h1] at h6; simp at h6
theorem kind_noU {zs : List Int} {u0 : Nat} (hw : ∀ n ∈ zs, (Lit.int .u8 n).wf = true) (h : kindB (sm zs u0 0 6).1 = false) : (rdU zs u0).2.1 = failE (sm zs u0 0 6).2.1 11 ∧ (failE (sm zs u0 0 6).2.1 11 == 0) = false := by
  have hrn : rn zs u0 0 = nx zs u0 18446744073709551615 := rfl
  rcases hx : nx zs u0 18446744073709551615 with ⟨n, er, u⟩
  have hsm : sm zs u0 0 6 = if (er == 0) = true then if 6 < n then (0, 11, u) else (n, 0, u) else (0, er, u) := by unfold sm; rw [hrn, hx]
  have hK : rdU zs u0 = if (er == 0) = true then if kindB n = true then rdC zs n u else (zeroC, 11, 0) else (zeroC, er, 0) := by unfold rdU; rw [hx]
  rw [hsm] at h ⊢
  rw [hK]
  cases he : (er == 0) with
  | false =>
    simp only [Bool.false_eq_true, if_false]
    have : failE er 11 = er := by unfold failE; rw [he]; rfl
    rw [this]
    exact ⟨rfl, he⟩
  | true =>
    rw [he] at h
    simp only [if_true] at h ⊢
    by_cases h2 : 6 < n
    · have hk : kindB n = false := decide_eq_false (by omega)
      rw [if_pos h2, hk]
      exact ⟨rfl, rfl⟩
    · rw [if_neg h2] at h ⊢
      have hk : kindB n = false := h
      rw [hk]
      exact ⟨rfl, rfl⟩

def CmdU (g : Nat) (v : Value) (zs : List Int) (u0 : Nat) (w : World) (E : Ending) (w' : World) : Prop :=
  ∃ (c : Cmd) (a : Option Addr) (q r u : Nat) (e : Int), E = .returned (.agg (cArr c (.slice a q r))) ∧ RB g v u e w' ∧ (rdU zs u0).2.1 = e ∧ (e = 0 → rdU zs u0 = (c, 0, u) ∧ Sl .i64 w' (.slice a q r) c.nodes ∧ c.wf ∧ OwnI w' w.heap.size (.slice a q r) c.nodes) ∧ Only (· = g) w w' ∧ u ≤ zs.length

set_option maxHeartbeats 4000000 in
theorem rcmd_anyU (g : Nat) (v : Value) (zs : List Int) (u0 : Nat) (w : World) (hu0 : u0 ≤ zs.length) (h : RB g v u0 0 w) (hS : ∀ w', Only (· = g) w w' → Sl .u8 w' v zs) :
    Calls Tryz.prog 44 #[.pointer (some ⟨g, 0, none⟩)] w (CmdU g v zs u0 w) := by
  have hgl : g < w.heap.size := (Array.getElem?_eq_some_iff.1 h).1
  have hs0 := hS w (Only.refl _ _)
  have HWF := Lib.hid hs0.wf
  have HS := Lib.hid hS
  have hb6 := sm_bd (zs := zs) (u := u0) (m := 6) hu0 0 (by omega)
  have hR0 : ((w.alloc (.cells (cArr zeroC (.slice none 0 0)) 86)).alloc (.cells (cArr zeroC (.slice none 0 0)) 86)).heap[w.heap.size]? = some (.cells (cArr zeroC (.slice none 0 0)) 86 (0, 0)) := heap_alloc2_old _ _ _
  have hC0 : ((w.alloc (.cells (cArr zeroC (.slice none 0 0)) 86)).alloc (.cells (cArr zeroC (.slice none 0 0)) 86)).heap[w.heap.size + 1]? = some (.cells (cArr zeroC (.slice none 0 0)) 86 (0, 0)) := heap_alloc2_new _ _ _
  have ho0 : Only (· = g) w ((w.alloc (.cells (cArr zeroC (.slice none 0 0)) 86)).alloc (.cells (cArr zeroC (.slice none 0 0)) 86)) := Only.trans (Only.alloc _ _ _) (Only.alloc _ _ _)
  have hz0 : w.heap.size + 2 ≤ ((w.alloc (.cells (cArr zeroC (.slice none 0 0)) 86)).alloc (.cells (cArr zeroC (.slice none 0 0)) 86)).heap.size := by simp
  have hr0 : RB g v u0 0 ((w.alloc (.cells (cArr zeroC (.slice none 0 0)) 86)).alloc (.cells (cArr zeroC (.slice none 0 0)) 86)) := (heap_alloc_old _ _ (by simp; omega)).trans ((heap_alloc_old _ _ hgl).trans h)
  have HSM := Lib.hid (small_any g v zs u0 0 6 _ hr0 (HS.out _ ho0) hu0 (by omega) (by omega))
  have HR0 := Lib.hid hR0
  have HC0 := Lib.hid hC0
  have HO0 := Lib.hid ho0
  have HZ0 := Lib.hid hz0
  have HKY := Lib.hid (fun h => kind_yesU (zs := zs) (u0 := u0) hs0.wf h)
  have HKN := Lib.hid (fun h => kind_noU (zs := zs) (u0 := u0) hs0.wf h)
  clear hS hs0 hR0 hC0 ho0 hz0 hr0 h
  go_enter Tryz.func44, Tryz.ntmps44
  go_wp2_with fail
  refine HSM.out.mono ?_
  rintro E w1 ⟨rfl, hr1, ho1, hz1⟩
  have hz1' : w.heap.size + 2 ≤ w1.heap.size := by rw [hz1]; exact HZ0.out
  have hR1 := (ho1.2.2.2.2 w.heap.size (by have := HZ0.out; omega) (by omega)).trans HR0.out
  have hC1 := (ho1.2.2.2.2 (w.heap.size + 1) (by have := HZ0.out; omega) (by omega)).trans HC0.out
  have ho01 := HO0.out.trans ho1
  have hfC := frozen_of_row w1 (w.heap.size + 1) 0 _ _ hC1
  have hcC := kind_cell hC1
  obtain ⟨b1, b2, b3⟩ := hb6
  have hst := kind_store (k := (sm zs u0 0 6).1) hC1
  have hr2 : RB g v (sm zs u0 0 6).2.2 (sm zs u0 0 6).2.1 (w1.setCell ⟨w.heap.size + 1, 0, none⟩ (.int .i64 (sm zs u0 0 6).1)) := (heap_setCell_other _ _ _ _ (by simp; omega)).trans hr1
  have hR2 := (heap_setCell_other w1 ⟨w.heap.size + 1, 0, none⟩ w.heap.size (.int .i64 (sm zs u0 0 6).1) (by simp)).trans hR1
  have ho2 : Only (· = g) w (w1.setCell ⟨w.heap.size + 1, 0, none⟩ (.int .i64 (sm zs u0 0 6).1)) := ⟨ho01.1, ho01.2.1, ho01.2.2.1, by simpa using ho01.2.2.2.1, fun j hj hn => (heap_setCell_other _ _ _ _ (by simp; omega)).trans (ho01.2.2.2.2 j hj hn)⟩
  have hz2 : w.heap.size + 2 ≤ (w1.setCell ⟨w.heap.size + 1, 0, none⟩ (.int .i64 (sm zs u0 0 6).1)).heap.size := by simpa using hz1'
  clear hr1 ho1 hz1 hR1 ho01 hz1' hC1
  generalize sm zs u0 0 6 = x at *
  obtain ⟨kd, e1, u1⟩ := x
  have hwk : (Lit.int .i64 kd).wf = true := WalkArith.wf_i64 (by omega)
  have HWK := Lib.hid hwk
  have hk0 := kind_cell hst
  have HST := Lib.hid hst
  have HR2 := Lib.hid hR2
  have HRR := Lib.hid hr2
  have HO2 := Lib.hid ho2
  have HZ2 := Lib.hid hz2
  clear hst hR2 hr2 ho2 hz2 hwk
  go_wp2_with fail
  refine (rfields_any kd _).mono ?_
  rintro E w2 ⟨rfl, rfl⟩
  cases hkd : kindB kd with
  | false =>
    obtain ⟨n1, n2⟩ := HKN.out hkd
    have HN1 := Lib.hid n1
    have HN2 := Lib.hid n2
    clear n1 n2 hkd
    go_wp2_with fail
    refine (fail_any g v u1 e1 11 _ HRR.out).mono ?_
    rintro E w3 ⟨rfl, hr3, ho3, hz3⟩
    have hC3 := (ho3.2.2.2.2 (w.heap.size + 1) (by have := HZ2.out; omega) (by omega)).trans HST.out
    have hR3 := (ho3.2.2.2.2 w.heap.size (by have := HZ2.out; omega) (by omega)).trans HR2.out
    have ho03 := HO2.out.trans ho3
    clear ho3 hz3
    go_wp2_with (first
      | (refine wpList_load_row rfl 86 (.tmp 3) rfl (w.heap.size + 1) rfl 86 (cArr (kindC kd) (.slice none 0 0)) (0, 0) _ hC3 Tryz.underlying86 rfl (by kernel_rfl) ?_)
      | (refine wpList_store_row rfl 86 (.tmp 2) (.tmp 22) rfl w.heap.size (cArr (kindC kd) (.slice none 0 0)) rfl rfl 86 _ hR3 (by kernel_rfl) rfl (cArr_one _ _ _ _) ?_))
    refine bodyPost_ret (v := .agg (cArr (kindC kd) (.slice none 0 0))) (results_cell_row rfl _ _ w.heap.size 86 _ (0, 0) _ rfl (set_row hR3) Tryz.underlying86 rfl (by kernel_rfl)) rfl ?_
    refine ⟨kindC kd, none, 0, 0, u1, _, rfl, ?_, HN1.out, fun h0 => ?_, ?_⟩
    · exact (setRow_other _ _ _ _ (by omega)).trans hr3
    · have := HN2.out; rw [h0] at this; cases this
    · exact ⟨⟨ho03.1, ho03.2.1, ho03.2.2.1, by simpa using ho03.2.2.2.1, fun j hj hn => (setRow_other _ _ _ _ (by omega)).trans (ho03.2.2.2.2 j hj hn)⟩, b1⟩
  | true =>
    obtain ⟨y1, y2⟩ := HKY.out hkd
    have hy1 : e1 = 0 := y1
    subst hy1
    have hk16 : 1 ≤ kd ∧ kd ≤ 6 := of_decide_eq_true hkd
    have HSB := Lib.hid (sbs_fieldS hk16)
    have HY := Lib.hid y2
    have hfz : (fieldS kd).size = (fieldsL kd).length := by rw [← sbs_length, HSB.out, List.length_map]
    obtain ⟨cap, w4, hq, hs4, hb4, hl4⟩ := run_bytes (w1.setCell ⟨w.heap.size + 1, 0, none⟩ (.int .i64 kd)) (fieldS kd) (by unfold maxLen; have := fieldS_small kd; omega)
    rw [HSB.out] at hs4
    rw [hfz] at hq hs4
    have hzs : (w1.setCell ⟨w.heap.size + 1, 0, none⟩ (.int .i64 kd)).heap.size = w1.heap.size := by simp
    rw [hzs] at hq hs4
    have HS4 := Lib.hid hs4
    have hZ2 := HZ2.out
    rw [hzs] at hZ2
    have hzl : w1.heap.size < w4.heap.size := by rw [hzs] at hl4; exact hl4
    have hr4 : RB g v u1 0 w4 := (hb4.block g (by rw [hzs]; omega)).trans HRR.out
    have hC4 := (hb4.block (w.heap.size + 1) (by rw [hzs]; omega)).trans HST.out
    have hR4 := (hb4.block w.heap.size (by rw [hzs]; omega)).trans HR2.out
    have ho4 : Only (· = g) w w4 := HO2.out.trans (Below.only hb4 _)
    have hLI : Stt zs (rdU zs u0) ((fieldsL kd).drop 0) (kindC kd) u1 0 := .inl ⟨rfl, HY.out, kindC_wf hk16⟩
    have HLI := Lib.hid hLI
    obtain ⟨hfl, hfb⟩ := fieldsL_bd kd
    have HFB := Lib.hid hfb
    clear hl4 y2 hkd hk16 hs4 hb4 hLI hfb hZ2
    go_wp2
    go_loopw [26] (fun i wr => ∃ (k : Nat) (c : Cmd) (u : Nat) (e : Int) (vn : Value), k ≤ (fieldsL kd).length ∧ i = .int .i64 k ∧ Hid (Stt zs (rdU zs u0) ((fieldsL kd).drop k) c u e) ∧ u ≤ zs.length ∧ RB g v u e wr ∧ wr.heap[w.heap.size + 1]? = some (.cells (cArr c vn) 86 (0, 0)) ∧ OwnI wr (w.heap.size + 2) vn c.nodes ∧ Hid (∀ x ∈ c.nodes, 0 ≤ x ∧ x ≤ 65535) ∧ Past w4.heap.size (fun j => j = g ∨ j = w.heap.size + 1) w4 wr) (fun i _ => (fieldsL kd).length - (intOf i).toNat)
    case atStart => exact ⟨0, kindC kd, u1, 0, .slice none 0 0, Nat.zero_le _, rfl, HLI, b1, hr4, hC4, OwnK.nil _ _ _ _, Lib.hid (by simp [kindC]), ⟨rfl, rfl, rfl, Nat.le_refl _, fun _ _ _ => rfl⟩⟩
    case round =>
      obtain ⟨k, c, u, e, vn, hk, rfl, HT, hu, hr, hC, hown, HNB, hp⟩ := hrel
      have hsz := hp.2.2.2.1
      have hor : Only (· = g) w wr := ⟨hp.1.trans ho4.1, hp.2.1.trans ho4.2.1, hp.2.2.1.trans ho4.2.2.1, Nat.le_trans ho4.2.2.2.1 hsz, fun j hj hn => (hp.2.2.2.2 j (Nat.lt_of_lt_of_le hj ho4.2.2.2.1) (by omega)).trans (ho4.2.2.2.2 j hj hn)⟩
      have hzr : w.heap.size + 2 ≤ wr.heap.size := by have := HZ2.out; rw [hzs] at this; omega
      have hzw : w.heap.size + 2 ≤ w1.heap.size := by have := HZ2.out; rw [hzs] at this; omega
      have HOR := Lib.hid hor
      by_cases hlt : k < (fieldsL kd).length
      · have hblk : wr.heap[w1.heap.size]? = w4.heap[w1.heap.size]? := hp.2.2.2.2 w1.heap.size hzl (by omega)
        obtain ⟨b, off, hbo, -, hcx⟩ := Sl.at HS4.out (i := k) (by rw [List.length_map]; exact hlt)
        cases hbo
        rw [Nat.zero_add, getD_map2 hlt] at hcx
        have hcr := (World.cell?_of_block (a := ⟨w1.heap.size, k, none⟩) hblk).trans hcx
        have hfb' := HFB.out _ (Nd.mem_get hlt)
        have hT := HT.out
        rw [Nd.drop_get hlt] at hT
        generalize (fieldsL kd).getD k 0 = z at *
        obtain ⟨f, rfl⟩ : ∃ f : Nat, z = f := ⟨z.toNat, by omega⟩
        have hf6 : f ≤ 6 := by omega
        have hsl := HS.out _ hor
        clear hfb' hblk hcx hr4 hC4 hR4 HT hor
        rcases (show f = 0 ∨ f = 1 ∨ f = 2 ∨ f = 3 ∨ f = 4 ∨ f = 5 ∨ f = 6 by omega) with rfl | rfl | rfl | rfl | rfl | rfl | rfl
        · have hx : wr.cell? ⟨w1.heap.size, k, none⟩ = some (.int .u8 110) := hcr
          have hr1e : r1 zs 0 u e = (sm zs u e 65535) := if_pos (by omega)
          have hT2 := stt_num HWF.out hT (by omega) hu
          have hb1 := r1_bd hu 0 e
          rw [hr1e] at hT2 hb1
          have HT2 := Lib.hid hT2
          have HB1 := Lib.hid hb1
          have HCL := Lib.hid (small_any g v zs u e 65535 _ hr hsl hu (by omega) (by omega))
          have HHC := Lib.hid hC
          have HOWN := Lib.hid hown
          have HP := Lib.hid hp
          clear hcr hT hT2 hr1e hb1 hr hsl hC hown hp
          go_wp2_with fail
          refine HCL.out.mono ?_
          rintro E w5 ⟨rfl, hr5, ho5, hz5⟩
          have hC5 := (ho5.2.2.2.2 (w.heap.size + 1) (by omega) (by omega)).trans HHC.out
          obtain ⟨d1, d2, d3, d4, d5, d6, d7⟩ := fld_cells hC5
          have hfr := frozen_of_row w5 (w.heap.size + 1) 1 _ _ hC5
          have hown5 := own_only HOWN.out ho5 (by omega)
          have hp5 := HP.out.trans (Past.of_only2 (T := fun j => j = g ∨ j = w.heap.size + 1) ho5 hsz (fun j hj => .inl hj))
          have HHC5 := Lib.hid hC5
          clear hz5 ho5 hC5
          generalize (sm zs u e 65535) = y at *
          obtain ⟨n5, e5, u5⟩ := y
          have hst5 : (w5.setCell ⟨w.heap.size + 1, 1, none⟩ (.int .i64 n5)).heap[w.heap.size + 1]? = some (.cells (cArr (putC c 0 n5) vn) 86 (0, 0)) := by rw [heap_setCell_same w5 (w.heap.size + 1) 1 _ _ _ HHC5.out]; rfl
          have hr6 : RB g v u5 e5 (w5.setCell ⟨w.heap.size + 1, 1, none⟩ (.int .i64 n5)) := (heap_setCell_other _ _ _ _ (by simp; omega)).trans hr5
          have hown6 : OwnI (w5.setCell ⟨w.heap.size + 1, 1, none⟩ (.int .i64 n5)) (w.heap.size + 2) vn c.nodes := own_set hown5 (by omega)
          have hp6 := hp5.trans (Past.setCell (S := fun j => j = g ∨ j = w.heap.size + 1) w5 ⟨w.heap.size + 1, 1, none⟩ (.int .i64 n5) (.inr rfl))
          have hb5 := HB1.out
          have HST5 := Lib.hid hst5
          have HR6 := Lib.hid hr6
          have HOWN6 := Lib.hid hown6
          have HP6 := Lib.hid hp6
          clear hst5 hr6 hown6 hp6 hp5 hown5
          go_wp2
          go_roundw
          case rel => exact ⟨k + 1, putC c 0 n5, u5, e5, vn, by omega, by go_num, HT2, hb5.1, HR6.out, HST5.out, HOWN6.out, HNB, HP6.out⟩
          case measure => simp [intOf]; omega
        · have hx : wr.cell? ⟨w1.heap.size, k, none⟩ = some (.int .u8 98) := hcr
          have hr1e : r1 zs 1 u e = (rn zs u e) := if_neg (by omega)
          have hT2 := stt_num HWF.out hT (by omega) hu
          have hb1 := r1_bd hu 1 e
          rw [hr1e] at hT2 hb1
          have HT2 := Lib.hid hT2
          have HB1 := Lib.hid hb1
          have HCL := Lib.hid (rnum_any' g v zs u e _ hr hsl hu)
          have HHC := Lib.hid hC
          have HOWN := Lib.hid hown
          have HP := Lib.hid hp
          clear hcr hT hT2 hr1e hb1 hr hsl hC hown hp
          go_wp2_with fail
          refine HCL.out.mono ?_
          rintro E w5 ⟨rfl, hr5, ho5, hz5⟩
          have hC5 := (ho5.2.2.2.2 (w.heap.size + 1) (by omega) (by omega)).trans HHC.out
          obtain ⟨d1, d2, d3, d4, d5, d6, d7⟩ := fld_cells hC5
          have hfr := frozen_of_row w5 (w.heap.size + 1) 4 _ _ hC5
          have hown5 := own_only HOWN.out ho5 (by omega)
          have hp5 := HP.out.trans (Past.of_only2 (T := fun j => j = g ∨ j = w.heap.size + 1) ho5 hsz (fun j hj => .inl hj))
          have HHC5 := Lib.hid hC5
          clear hz5 ho5 hC5
          generalize (rn zs u e) = y at *
          obtain ⟨n5, e5, u5⟩ := y
          have hst5 : (w5.setCell ⟨w.heap.size + 1, 4, none⟩ (.int .u64 n5)).heap[w.heap.size + 1]? = some (.cells (cArr (putC c 1 n5) vn) 86 (0, 0)) := by rw [heap_setCell_same w5 (w.heap.size + 1) 4 _ _ _ HHC5.out]; rfl
          have hr6 : RB g v u5 e5 (w5.setCell ⟨w.heap.size + 1, 4, none⟩ (.int .u64 n5)) := (heap_setCell_other _ _ _ _ (by simp; omega)).trans hr5
          have hown6 : OwnI (w5.setCell ⟨w.heap.size + 1, 4, none⟩ (.int .u64 n5)) (w.heap.size + 2) vn c.nodes := own_set hown5 (by omega)
          have hp6 := hp5.trans (Past.setCell (S := fun j => j = g ∨ j = w.heap.size + 1) w5 ⟨w.heap.size + 1, 4, none⟩ (.int .u64 n5) (.inr rfl))
          have hb5 := HB1.out
          have HST5 := Lib.hid hst5
          have HR6 := Lib.hid hr6
          have HOWN6 := Lib.hid hown6
          have HP6 := Lib.hid hp6
          clear hst5 hr6 hown6 hp6 hp5 hown5
          go_wp2
          go_roundw
          case rel => exact ⟨k + 1, putC c 1 n5, u5, e5, vn, by omega, by go_num, HT2, hb5.1, HR6.out, HST5.out, HOWN6.out, HNB, HP6.out⟩
          case measure => simp [intOf]; omega
        · have hx : wr.cell? ⟨w1.heap.size, k, none⟩ = some (.int .u8 113) := hcr
          have hr1e : r1 zs 2 u e = (rn zs u e) := if_neg (by omega)
          have hT2 := stt_num HWF.out hT (by omega) hu
          have hb1 := r1_bd hu 2 e
          rw [hr1e] at hT2 hb1
          have HT2 := Lib.hid hT2
          have HB1 := Lib.hid hb1
          have HCL := Lib.hid (rnum_any' g v zs u e _ hr hsl hu)
          have HHC := Lib.hid hC
          have HOWN := Lib.hid hown
          have HP := Lib.hid hp
          clear hcr hT hT2 hr1e hb1 hr hsl hC hown hp
          go_wp2_with fail
          refine HCL.out.mono ?_
          rintro E w5 ⟨rfl, hr5, ho5, hz5⟩
          have hC5 := (ho5.2.2.2.2 (w.heap.size + 1) (by omega) (by omega)).trans HHC.out
          obtain ⟨d1, d2, d3, d4, d5, d6, d7⟩ := fld_cells hC5
          have hfr := frozen_of_row w5 (w.heap.size + 1) 5 _ _ hC5
          have hown5 := own_only HOWN.out ho5 (by omega)
          have hp5 := HP.out.trans (Past.of_only2 (T := fun j => j = g ∨ j = w.heap.size + 1) ho5 hsz (fun j hj => .inl hj))
          have HHC5 := Lib.hid hC5
          clear hz5 ho5 hC5
          generalize (rn zs u e) = y at *
          obtain ⟨n5, e5, u5⟩ := y
          have hst5 : (w5.setCell ⟨w.heap.size + 1, 5, none⟩ (.int .u64 n5)).heap[w.heap.size + 1]? = some (.cells (cArr (putC c 2 n5) vn) 86 (0, 0)) := by rw [heap_setCell_same w5 (w.heap.size + 1) 5 _ _ _ HHC5.out]; rfl
          have hr6 : RB g v u5 e5 (w5.setCell ⟨w.heap.size + 1, 5, none⟩ (.int .u64 n5)) := (heap_setCell_other _ _ _ _ (by simp; omega)).trans hr5
          have hown6 : OwnI (w5.setCell ⟨w.heap.size + 1, 5, none⟩ (.int .u64 n5)) (w.heap.size + 2) vn c.nodes := own_set hown5 (by omega)
          have hp6 := hp5.trans (Past.setCell (S := fun j => j = g ∨ j = w.heap.size + 1) w5 ⟨w.heap.size + 1, 5, none⟩ (.int .u64 n5) (.inr rfl))
          have hb5 := HB1.out
          have HST5 := Lib.hid hst5
          have HR6 := Lib.hid hr6
          have HOWN6 := Lib.hid hown6
          have HP6 := Lib.hid hp6
          clear hst5 hr6 hown6 hp6 hp5 hown5
          go_wp2
          go_roundw
          case rel => exact ⟨k + 1, putC c 2 n5, u5, e5, vn, by omega, by go_num, HT2, hb5.1, HR6.out, HST5.out, HOWN6.out, HNB, HP6.out⟩
          case measure => simp [intOf]; omega
        · have hx : wr.cell? ⟨w1.heap.size, k, none⟩ = some (.int .u8 116) := hcr
          have hr1e : r1 zs 3 u e = (sm zs u e 65535) := if_pos (by omega)
          have hT2 := stt_num HWF.out hT (by omega) hu
          have hb1 := r1_bd hu 3 e
          rw [hr1e] at hT2 hb1
          have HT2 := Lib.hid hT2
          have HB1 := Lib.hid hb1
          have HCL := Lib.hid (small_any g v zs u e 65535 _ hr hsl hu (by omega) (by omega))
          have HHC := Lib.hid hC
          have HOWN := Lib.hid hown
          have HP := Lib.hid hp
          clear hcr hT hT2 hr1e hb1 hr hsl hC hown hp
          go_wp2_with fail
          refine HCL.out.mono ?_
          rintro E w5 ⟨rfl, hr5, ho5, hz5⟩
          have hC5 := (ho5.2.2.2.2 (w.heap.size + 1) (by omega) (by omega)).trans HHC.out
          obtain ⟨d1, d2, d3, d4, d5, d6, d7⟩ := fld_cells hC5
          have hfr := frozen_of_row w5 (w.heap.size + 1) 2 _ _ hC5
          have hown5 := own_only HOWN.out ho5 (by omega)
          have hp5 := HP.out.trans (Past.of_only2 (T := fun j => j = g ∨ j = w.heap.size + 1) ho5 hsz (fun j hj => .inl hj))
          have HHC5 := Lib.hid hC5
          clear hz5 ho5 hC5
          generalize (sm zs u e 65535) = y at *
          obtain ⟨n5, e5, u5⟩ := y
          have hst5 : (w5.setCell ⟨w.heap.size + 1, 2, none⟩ (.int .i64 n5)).heap[w.heap.size + 1]? = some (.cells (cArr (putC c 3 n5) vn) 86 (0, 0)) := by rw [heap_setCell_same w5 (w.heap.size + 1) 2 _ _ _ HHC5.out]; rfl
          have hr6 : RB g v u5 e5 (w5.setCell ⟨w.heap.size + 1, 2, none⟩ (.int .i64 n5)) := (heap_setCell_other _ _ _ _ (by simp; omega)).trans hr5
          have hown6 : OwnI (w5.setCell ⟨w.heap.size + 1, 2, none⟩ (.int .i64 n5)) (w.heap.size + 2) vn c.nodes := own_set hown5 (by omega)
          have hp6 := hp5.trans (Past.setCell (S := fun j => j = g ∨ j = w.heap.size + 1) w5 ⟨w.heap.size + 1, 2, none⟩ (.int .i64 n5) (.inr rfl))
          have hb5 := HB1.out
          have HST5 := Lib.hid hst5
          have HR6 := Lib.hid hr6
          have HOWN6 := Lib.hid hown6
          have HP6 := Lib.hid hp6
          clear hst5 hr6 hown6 hp6 hp5 hown5
          go_wp2
          go_roundw
          case rel => exact ⟨k + 1, putC c 3 n5, u5, e5, vn, by omega, by go_num, HT2, hb5.1, HR6.out, HST5.out, HOWN6.out, HNB, HP6.out⟩
          case measure => simp [intOf]; omega
        · have hx : wr.cell? ⟨w1.heap.size, k, none⟩ = some (.int .u8 115) := hcr
          have hr1e : r1 zs 4 u e = (rn zs u e) := if_neg (by omega)
          have hT2 := stt_num HWF.out hT (by omega) hu
          have hb1 := r1_bd hu 4 e
          rw [hr1e] at hT2 hb1
          have HT2 := Lib.hid hT2
          have HB1 := Lib.hid hb1
          have HCL := Lib.hid (rnum_any' g v zs u e _ hr hsl hu)
          have HHC := Lib.hid hC
          have HOWN := Lib.hid hown
          have HP := Lib.hid hp
          clear hcr hT hT2 hr1e hb1 hr hsl hC hown hp
          go_wp2_with fail
          refine HCL.out.mono ?_
          rintro E w5 ⟨rfl, hr5, ho5, hz5⟩
          have hC5 := (ho5.2.2.2.2 (w.heap.size + 1) (by omega) (by omega)).trans HHC.out
          obtain ⟨d1, d2, d3, d4, d5, d6, d7⟩ := fld_cells hC5
          have hfr := frozen_of_row w5 (w.heap.size + 1) 6 _ _ hC5
          have hown5 := own_only HOWN.out ho5 (by omega)
          have hp5 := HP.out.trans (Past.of_only2 (T := fun j => j = g ∨ j = w.heap.size + 1) ho5 hsz (fun j hj => .inl hj))
          have HHC5 := Lib.hid hC5
          clear hz5 ho5 hC5
          generalize (rn zs u e) = y at *
          obtain ⟨n5, e5, u5⟩ := y
          have hst5 : (w5.setCell ⟨w.heap.size + 1, 6, none⟩ (.int .u64 n5)).heap[w.heap.size + 1]? = some (.cells (cArr (putC c 4 n5) vn) 86 (0, 0)) := by rw [heap_setCell_same w5 (w.heap.size + 1) 6 _ _ _ HHC5.out]; rfl
          have hr6 : RB g v u5 e5 (w5.setCell ⟨w.heap.size + 1, 6, none⟩ (.int .u64 n5)) := (heap_setCell_other _ _ _ _ (by simp; omega)).trans hr5
          have hown6 : OwnI (w5.setCell ⟨w.heap.size + 1, 6, none⟩ (.int .u64 n5)) (w.heap.size + 2) vn c.nodes := own_set hown5 (by omega)
          have hp6 := hp5.trans (Past.setCell (S := fun j => j = g ∨ j = w.heap.size + 1) w5 ⟨w.heap.size + 1, 6, none⟩ (.int .u64 n5) (.inr rfl))
          have hb5 := HB1.out
          have HST5 := Lib.hid hst5
          have HR6 := Lib.hid hr6
          have HOWN6 := Lib.hid hown6
          have HP6 := Lib.hid hp6
          clear hst5 hr6 hown6 hp6 hp5 hown5
          go_wp2
          go_roundw
          case rel => exact ⟨k + 1, putC c 4 n5, u5, e5, vn, by omega, by go_num, HT2, hb5.1, HR6.out, HST5.out, HOWN6.out, HNB, HP6.out⟩
          case measure => simp [intOf]; omega
        · have hx : wr.cell? ⟨w1.heap.size, k, none⟩ = some (.int .u8 109) := hcr
          have hr1e : r1 zs 5 u e = (rn zs u e) := if_neg (by omega)
          have hT2 := stt_num HWF.out hT (by omega) hu
          have hb1 := r1_bd hu 5 e
          rw [hr1e] at hT2 hb1
          have HT2 := Lib.hid hT2
          have HB1 := Lib.hid hb1
          have HCL := Lib.hid (rnum_any' g v zs u e _ hr hsl hu)
          have HHC := Lib.hid hC
          have HOWN := Lib.hid hown
          have HP := Lib.hid hp
          clear hcr hT hT2 hr1e hb1 hr hsl hC hown hp
          go_wp2_with fail
          refine HCL.out.mono ?_
          rintro E w5 ⟨rfl, hr5, ho5, hz5⟩
          have hC5 := (ho5.2.2.2.2 (w.heap.size + 1) (by omega) (by omega)).trans HHC.out
          obtain ⟨d1, d2, d3, d4, d5, d6, d7⟩ := fld_cells hC5
          have hfr := frozen_of_row w5 (w.heap.size + 1) 7 _ _ hC5
          have hown5 := own_only HOWN.out ho5 (by omega)
          have hp5 := HP.out.trans (Past.of_only2 (T := fun j => j = g ∨ j = w.heap.size + 1) ho5 hsz (fun j hj => .inl hj))
          have HHC5 := Lib.hid hC5
          clear hz5 ho5 hC5
          generalize (rn zs u e) = y at *
          obtain ⟨n5, e5, u5⟩ := y
          have hst5 : (w5.setCell ⟨w.heap.size + 1, 7, none⟩ (.int .u64 n5)).heap[w.heap.size + 1]? = some (.cells (cArr (putC c 5 n5) vn) 86 (0, 0)) := by rw [heap_setCell_same w5 (w.heap.size + 1) 7 _ _ _ HHC5.out]; rfl
          have hr6 : RB g v u5 e5 (w5.setCell ⟨w.heap.size + 1, 7, none⟩ (.int .u64 n5)) := (heap_setCell_other _ _ _ _ (by simp; omega)).trans hr5
          have hown6 : OwnI (w5.setCell ⟨w.heap.size + 1, 7, none⟩ (.int .u64 n5)) (w.heap.size + 2) vn c.nodes := own_set hown5 (by omega)
          have hp6 := hp5.trans (Past.setCell (S := fun j => j = g ∨ j = w.heap.size + 1) w5 ⟨w.heap.size + 1, 7, none⟩ (.int .u64 n5) (.inr rfl))
          have hb5 := HB1.out
          have HST5 := Lib.hid hst5
          have HR6 := Lib.hid hr6
          have HOWN6 := Lib.hid hown6
          have HP6 := Lib.hid hp6
          clear hst5 hr6 hown6 hp6 hp5 hown5
          go_wp2
          go_roundw
          case rel => exact ⟨k + 1, putC c 5 n5, u5, e5, vn, by omega, by go_num, HT2, hb5.1, HR6.out, HST5.out, HOWN6.out, HNB, HP6.out⟩
          case measure => simp [intOf]; omega
        · have hx : wr.cell? ⟨w1.heap.size, k, none⟩ = some (.int .u8 108) := hcr
          have HT2 := Lib.hid (stt_list HWF.out hT)
          have hlb := ln_bd (e := e) hu
          have HLB := Lib.hid hlb.2
          have hub := hlb.1
          have HCL := Lib.hid (rlist_any g v zs u e _ hr (fun w' ho' => HS.out w' (HOR.out.trans ho')) hu)
          have HHC := Lib.hid hC
          have HP := Lib.hid hp
          clear hcr hT hr hsl hC hown hp hlb
          go_wp2_with fail
          refine HCL.out.mono ?_
          rintro E w5 ⟨vn5, rfl, hown5, hr5, ho5⟩
          have hC5 := (ho5.2.2.2.2 (w.heap.size + 1) (by omega) (by omega)).trans HHC.out
          obtain ⟨d1, d2, d3, d4, d5, d6, d7⟩ := fld_cells hC5
          have hfr := frozen_of_row w5 (w.heap.size + 1) 3 _ _ hC5
          have hp5 := HP.out.trans (Past.of_only2 (T := fun j => j = g ∨ j = w.heap.size + 1) ho5 hsz (fun j hj => .inl hj))
          have hown5b : OwnI w5 (w.heap.size + 2) vn5 (ln zs u e).1 := OwnK.mono hown5 hzr
          obtain ⟨a5, q5, t5, rfl⟩ := own_form hown5b
          have hst5 := copy_store hC5 (.slice a5 q5 t5)
          have hr6 : RB g v (ln zs u e).2.2 (ln zs u e).2.1 (w5.setCell ⟨w.heap.size + 1, 3, none⟩ (.slice a5 q5 t5)) := (heap_setCell_other _ _ _ _ (by simp; omega)).trans hr5
          have hown6 : OwnI (w5.setCell ⟨w.heap.size + 1, 3, none⟩ (.slice a5 q5 t5)) (w.heap.size + 2) (.slice a5 q5 t5) (ln zs u e).1 := own_set hown5b (by omega)
          have hp6 := hp5.trans (Past.setCell (S := fun j => j = g ∨ j = w.heap.size + 1) w5 ⟨w.heap.size + 1, 3, none⟩ (.slice a5 q5 t5) (.inr rfl))
          have HST5 := Lib.hid hst5
          have HR6 := Lib.hid hr6
          have HOWN6 := Lib.hid hown6
          have HP6 := Lib.hid hp6
          clear hst5 hr6 hown6 hp6 hp5 hown5 hown5b hr5 ho5 hC5
          generalize ln zs u e = y at *
          go_wp2
          go_roundw
          case rel => exact ⟨k + 1, { c with nodes := y.1 }, y.2.2, y.2.1, .slice a5 q5 t5, by omega, by go_num, HT2, hub, HR6.out, HST5.out, HOWN6.out, HLB, HP6.out⟩
          case measure => simp [intOf]; omega
      · obtain rfl : k = (fieldsL kd).length := by omega
        have hT := HT.out
        rw [List.drop_length] at hT
        have HTT := Lib.hid hT
        have hR5 := (hp.2.2.2.2 w.heap.size (by omega) (by omega)).trans hR4
        obtain ⟨an, qn, rn', rfl⟩ := own_form hown
        have HOWN := Lib.hid hown
        have HRR5 := Lib.hid hr
        clear hT HT hr hown hp hr4 hC4 hR4
        go_wp2_with (first
          | (refine wpList_load_row rfl 86 (.tmp 3) rfl (w.heap.size + 1) rfl 86 (cArr c (.slice an qn rn')) (0, 0) _ hC Tryz.underlying86 rfl (by kernel_rfl) ?_)
          | (refine wpList_store_row rfl 86 (.tmp 2) (.tmp 67) rfl w.heap.size (cArr c (.slice an qn rn')) rfl rfl 86 _ hR5 (by kernel_rfl) rfl (cArr_one _ _ _ _) ?_))
        refine bodyPost_ret (v := .agg (cArr c (.slice an qn rn'))) (results_cell_row rfl _ _ w.heap.size 86 _ (0, 0) _ rfl (set_row hR5) Tryz.underlying86 rfl (by kernel_rfl)) rfl ?_
        have hownf : OwnI (wr.setRow w.heap.size (cArr c (.slice an qn rn'))) (w.heap.size + 2) (.slice an qn rn') c.nodes := by
          rcases HOWN.out.2 with h2 | ⟨q, cap', cur, e2, hq2, hh, hrr⟩
          · exact ⟨HOWN.out.1, .inl h2⟩
          · exact ⟨HOWN.out.1, .inr ⟨q, cap', cur, e2, hq2, (setRow_other _ _ _ _ (by omega)).trans hh, hrr⟩⟩
        refine ⟨c, an, qn, rn', u, e, rfl, (setRow_other _ _ _ _ (by omega)).trans HRR5.out, ?_, fun h0 => ?_, ?_⟩
        · rcases HTT.out with ⟨h1, h2, _⟩ | ⟨_, h2⟩
          · rw [h2, h1]; rfl
          · exact h2
        · rcases HTT.out with ⟨h1, h2, h3⟩ | ⟨h1, _⟩
          · exact ⟨h2, OwnK.sl hownf (fun x hx => by have := HNB.out x hx; exact WalkArith.wf_i64 (by omega)), h3, OwnK.mono hownf (by omega)⟩
          · rw [h0] at h1; cases h1
        · exact ⟨⟨HOR.out.1, HOR.out.2.1, HOR.out.2.2.1, by simpa using HOR.out.2.2.2.1, fun j hj hn => (setRow_other _ _ _ _ (by omega)).trans (HOR.out.2.2.2.2 j hj hn)⟩, hu⟩
end Cm
end Go.Proofs.YtlfaiemebfkajaaGreatDoor
namespace Go.Proofs.YtlfaiemebfkajaaGreatDoor
open Go.ChangeShapes Go.WideShapes Go.ChangeAt Go.RowKit
set_option linter.unusedVariables false
set_option maxRecDepth 100000
namespace Cm
open Sc
theorem rd_pre {n : Nat} (hn : n < 18446744073709551616) {i : Nat} (hi : i < (Oc.numL n).length) : Oc.rdL ((Oc.numL n).take i) = (0, 0, 10) := by
  have h8 := Oc.bw_le8 hn
  have hl := Oc.be_length (Oc.bw n) n
  rw [Oc.numL_length] at hi
  unfold Oc.numL
  rcases i with _ | i
  · rfl
  · simp only [List.take_succ_cons, Oc.rdL]
    rw [if_neg (by omega), Int.toNat_natCast, if_pos (by rw [List.length_take]; omega)]
def shf {α : Type} (u0 : Nat) (r : α × Int × Nat) : α × Int × Nat := (r.1, r.2.1, u0 + r.2.2)
theorem nx_shf (zs : List Int) (u0 u : Nat) (m : Int) : nx zs (u0 + u) m = shf u0 (nx (zs.drop u0) u m) := by
  unfold nx shf
  rw [List.drop_drop]
  by_cases h1 : ((Oc.rdL (zs.drop (u0 + u))).2.2 == 0) = false
  · simp only [if_pos h1]
  · simp only [if_neg h1]
    by_cases h2 : m < ((Oc.rdL (zs.drop (u0 + u))).1 : Int)
    · simp only [if_pos h2]
    · simp only [if_neg h2, Nat.add_assoc]
theorem st_shf (zs : List Int) (u0 u : Nat) : ∀ k, st zs (u0 + u) k = shf u0 (st (zs.drop u0) u k)
  | 0 => rfl
  | k + 1 => by
    have ih := st_shf zs u0 u k
    rw [st, st, ih]
    simp only [shf]
    rw [nx_shf]
    simp only [shf]
    by_cases h : (st (zs.drop u0) u k).2.1 = 0 <;> simp [h]
theorem li_shf (zs : List Int) (u0 u : Nat) : li zs (u0 + u) = shf u0 (li (zs.drop u0) u) := by
  unfold li
  rw [nx_shf]
  simp only [shf]
  rw [st_shf]
  simp only [shf]
  by_cases h : (nx (zs.drop u0) u 7).2.1 = 0 <;> simp [h]
theorem rd1_shf (zs : List Int) (c : Cmd) (f u0 u : Nat) : rd1 zs c f (u0 + u) = shf u0 (rd1 (zs.drop u0) c f u) := by
  unfold rd1
  rw [li_shf, nx_shf]
  simp only [shf]
  by_cases h : f = 6
  · simp only [if_pos h]
  · simp only [if_neg h]
theorem rdF_shf (zs : List Int) (u0 : Nat) : ∀ (fs : List Int) (c : Cmd) (u : Nat), rdF zs fs c (u0 + u) = shf u0 (rdF (zs.drop u0) fs c u)
  | [], c, u => rfl
  | f :: fs, c, u => by
    rw [rdF, rdF, rd1_shf]
    simp only [shf]
    rw [rdF_shf zs u0 fs]
    simp only [shf]
    by_cases h : (rd1 (zs.drop u0) c f.toNat u).2.1 = 0 <;> simp [h]
theorem rdU_shf (zs : List Int) (u0 : Nat) : (rdU zs u0).2.1 = (rdK (zs.drop u0)).2.1 ∧ ((rdU zs u0).2.1 = 0 → rdU zs u0 = shf u0 (rdK (zs.drop u0))) := by
  have h := nx_shf zs u0 0 18446744073709551615
  rw [Nat.add_zero] at h
  unfold rdU rdK
  rw [h]
  simp only [shf]
  unfold rdC
  rw [rdF_shf]
  simp only [shf]
  by_cases h1 : (nx (zs.drop u0) 0 18446744073709551615).2.1 = 0
  · by_cases h2 : kindB (nx (zs.drop u0) 0 18446744073709551615).1 = true <;> simp [h1, h2]
  · simp [h1]
/-- what is read of a beginning -/
def Pre {α : Type} (F : List Int → α × Int × Nat) (zs : List Int) (u : Nat) : Prop := (F zs).2.1 = 0 → u ≤ (F zs).2.2 ∧ ∀ K, u ≤ K → K ≤ zs.length → (((F zs).2.2 ≤ K → F (zs.take K) = F zs) ∧ (K < (F zs).2.2 → (F (zs.take K)).2.1 = 10))
theorem pre_seq {α β : Type} {F : List Int → β × Int × Nat} {G : List Int → α × Int × Nat} {H : α → Nat → List Int → β × Int × Nat} {zs : List Int} {u : Nat} (hG : Pre G zs u) (hH : ∀ a u', Pre (H a u') zs u')
    (hok : ∀ z, (G z).2.1 = 0 → F z = H (G z).1 (G z).2.2 z) (hno : ∀ z, (G z).2.1 ≠ 0 → (F z).2.1 = (G z).2.1) : Pre F zs u := by
  intro h0
  have g0 : (G zs).2.1 = 0 := Decidable.byContradiction fun q => q (by rw [← hno zs q]; exact h0)
  have e := hok zs g0
  rw [e] at h0 ⊢
  obtain ⟨a1, a2⟩ := hG g0
  obtain ⟨b1, b2⟩ := hH _ _ h0
  refine ⟨by omega, fun K hK hl => ⟨fun hF => ?_, fun hF => ?_⟩⟩
  · have gK := (a2 K hK hl).1 (by omega)
    rw [hok _ (by rw [gK]; exact g0), gK]
    exact (b2 K (by omega) hl).1 hF
  · by_cases c : (G zs).2.2 ≤ K
    · have gK := (a2 K hK hl).1 c
      rw [hok _ (by rw [gK]; exact g0), gK]
      exact (b2 K c hl).2 hF
    · have g10 := (a2 K hK hl).2 (by omega)
      rw [hno _ (by rw [g10]; decide), g10]
theorem pre_map {α β : Type} {N : List Int → α × Int × Nat} (g : α → β) {zs : List Int} {u : Nat} (hN : Pre N zs u) : Pre (fun z => (g (N z).1, (N z).2.1, (N z).2.2)) zs u := by
  intro h0
  obtain ⟨a1, a2⟩ := hN h0
  refine ⟨a1, fun K hK hl => ⟨fun q => ?_, fun q => (a2 K hK hl).2 q⟩⟩
  have := (a2 K hK hl).1 q
  simp only [this]
theorem nx_pre {zs : List Int} (hw : WfB zs) (u : Nat) {m : Int} (hm0 : 0 ≤ m) : Pre (fun z => nx z u m) zs u := by
  intro h0
  dsimp only at h0 ⊢
  rcases hr : Oc.rdL (zs.drop u) with ⟨n, j, er⟩
  have he : er = 0 := by
    rcases Oc.rd_err hr with he | he
    · exact he
    · rw [nx_err hr he] at h0
      exact h0
  subst he
  by_cases hm : m < (n : Int)
  · rw [nx_form hr hm] at h0
    simp at h0
  rw [nx_ok hr (by omega)]
  obtain ⟨h1, h2, h3, h4⟩ := Oc.rd_back (fun x hx => hw x (List.mem_of_mem_drop hx)) hr
  rw [List.length_drop] at h2
  have hjl : (Oc.numL n).length = j := by rw [h4, List.length_take, List.length_drop]; omega
  refine ⟨Nat.le_add_right _ _, fun K hK hl => ?_⟩
  have hd : (zs.take K).drop u = (zs.drop u).take (K - u) := List.drop_take ..
  refine ⟨fun q => ?_, fun q => ?_⟩
  · dsimp only at q
    have hs : (zs.take K).drop u = Oc.numL n ++ ((zs.drop u).drop j).take (K - u - j) := by
      rw [hd, h4]
      conv => lhs; rw [← List.take_append_drop j (zs.drop u)]
      rw [List.take_append, List.take_take, List.length_take, List.length_drop, Nat.min_eq_right (by omega), Nat.min_eq_left (by omega)]
    have hr2 : Oc.rdL ((zs.take K).drop u) = (n, Oc.bw n + 1, 0) := by rw [hs]; exact Oc.rd_num h3 _
    rw [nx_ok hr2 (by omega)]
    rw [← Oc.numL_length, hjl]
  · dsimp only at q
    have hs : (zs.take K).drop u = (Oc.numL n).take (K - u) := by rw [hd, h4, List.take_take, Nat.min_eq_left (by omega)]
    have hr2 : Oc.rdL ((zs.take K).drop u) = (0, 0, 10) := by rw [hs]; exact rd_pre h3 (by omega)
    rw [nx_err hr2 rfl]
theorem st_pre {zs : List Int} (hw : WfB zs) (u : Nat) : ∀ k, Pre (fun z => st z u k) zs u
  | 0 => fun _ => ⟨Nat.le_refl _, fun K hK hl => ⟨fun _ => rfl, fun q => absurd q (by show ¬ K < u; omega)⟩⟩
  | k + 1 => pre_seq (H := fun l u' z => (l ++ [(nx z u' 65535).1], (nx z u' 65535).2.1, (nx z u' 65535).2.2)) (st_pre hw u k) (fun l u' => pre_map (fun n => l ++ [n]) (nx_pre hw u' (by decide)))
      (fun z h => by show st z u (k + 1) = _; rw [st, if_pos (by rw [h]; rfl)]) (fun z h => by show (st z u (k + 1)).2.1 = _; rw [st, if_neg (by simpa using h)])
theorem li_pre {zs : List Int} (hw : WfB zs) (u : Nat) : Pre (fun z => li z u) zs u :=
  pre_seq (H := fun n u' z => st z u' n.toNat) (nx_pre hw u (m := 7) (by decide)) (fun n u' => st_pre hw u' n.toNat)
    (fun z h => by show li z u = _; unfold li; rw [if_pos (by rw [h]; rfl)]) (fun z h => by show (li z u).2.1 = _; unfold li; rw [if_neg (by simpa using h)])
theorem rd1_pre {zs : List Int} (hw : WfB zs) (c : Cmd) (f u : Nat) : Pre (fun z => rd1 z c f u) zs u := by
  by_cases h : f = 6
  · have e : (fun z => rd1 z c f u) = fun z => ({ c with nodes := (li z u).1 }, (li z u).2.1, (li z u).2.2) := by funext z; unfold rd1; rw [if_pos h]
    rw [e]
    exact pre_map (fun l => ({ c with nodes := l } : Cmd)) (li_pre hw u)
  · have e : (fun z => rd1 z c f u) = fun z => (putC c f (nx z u (mostF f)).1, (nx z u (mostF f)).2.1, (nx z u (mostF f)).2.2) := by funext z; unfold rd1; rw [if_neg h]
    rw [e]
    exact pre_map (fun n => putC c f n) (nx_pre hw u (by unfold mostF; split <;> decide))
theorem rdF_pre {zs : List Int} (hw : WfB zs) : ∀ (fs : List Int) (c : Cmd) (u : Nat), Pre (fun z => rdF z fs c u) zs u
  | [], c, u => fun _ => ⟨Nat.le_refl _, fun K hK hl => ⟨fun _ => rfl, fun q => absurd q (by show ¬ K < u; omega)⟩⟩
  | f :: fs, c, u => pre_seq (H := fun c' u' z => rdF z fs c' u') (rd1_pre hw c f.toNat u) (fun c' u' => rdF_pre hw fs c' u')
      (fun z h => by show rdF z (f :: fs) c u = _; rw [rdF, if_pos (by rw [h]; rfl)]) (fun z h => by show (rdF z (f :: fs) c u).2.1 = _; rw [rdF, if_neg (by simpa using h)])
theorem rdK_pre {zs : List Int} (hw : WfB zs) : Pre rdK zs 0 :=
  pre_seq (H := fun n u' z => if kindB n = true then rdC z n u' else (zeroC, 11, 0)) (nx_pre hw 0 (m := 18446744073709551615) (by decide))
    (fun n u' => by
      by_cases h : kindB n = true
      · simp only [if_pos h]
        exact rdF_pre hw _ _ _
      · simp only [if_neg h]
        exact fun q => absurd (show (11 : Int) = 0 from q) (by decide))
    (fun z h => by unfold rdK; rw [if_pos (by rw [h]; rfl)]) (fun z h => by unfold rdK; rw [if_neg (by simpa using h)])
/-- the errors of reading -/
def V3 (e : Int) : Prop := e = 0 ∨ e = 10 ∨ e = 11
theorem rd_v {zs : List Int} {n k : Nat} {e : Int} (h : Oc.rdL zs = (n, k, e)) : V3 e := by
  unfold Oc.rdL at h
  unfold V3
  split at h
  · simp only [Prod.mk.injEq] at h; omega
  · repeat' split at h
    all_goals simp only [Prod.mk.injEq] at h; omega
theorem nx_v (zs : List Int) (u : Nat) (m : Int) : V3 (nx zs u m).2.1 := by
  rcases hr : Oc.rdL (zs.drop u) with ⟨n, k, e⟩
  have hv := rd_v hr
  unfold nx
  simp only [hr]
  split
  · exact hv
  · split
    · exact .inr (.inr rfl)
    · exact .inl rfl
theorem st_v (zs : List Int) (u : Nat) : ∀ k, V3 (st zs u k).2.1
  | 0 => .inl rfl
  | k + 1 => by
    rw [st]
    split
    · exact nx_v _ _ _
    · exact st_v zs u k
theorem li_v (zs : List Int) (u : Nat) : V3 (li zs u).2.1 := by
  unfold li
  split
  · exact st_v _ _ _
  · exact nx_v _ _ _
theorem rd1_v (zs : List Int) (c : Cmd) (f u : Nat) : V3 (rd1 zs c f u).2.1 := by
  unfold rd1
  split
  · exact li_v _ _
  · exact nx_v _ _ _
theorem rdF_v (zs : List Int) : ∀ (fs : List Int) (c : Cmd) (u : Nat), V3 (rdF zs fs c u).2.1
  | [], c, u => .inl rfl
  | f :: fs, c, u => by
    rw [rdF]
    split
    · exact rdF_v zs fs _ _
    · exact rd1_v _ _ _ _
theorem rdK_v (zs : List Int) : V3 (rdK zs).2.1 := by
  unfold rdK
  split
  · split
    · exact rdF_v _ _ _ _
    · exact .inr (.inr rfl)
  · exact nx_v _ _ _
theorem decK_ok {zs : List Int} {c : Cmd} {u : Nat} (h : rdK zs = (c, 0, u)) (hc : chkC c = true) : decL zs = (c, u, 0) := by rw [decL_K, h]; simp [hc]
theorem decK_no {zs : List Int} {c : Cmd} {u : Nat} (h : rdK zs = (c, 0, u)) (hc : chkC c = false) : decL zs = (zeroC, 0, 40) := by rw [decL_K, h]; simp [hc]
theorem decK_err {zs : List Int} {c : Cmd} {u : Nat} {e : Int} (h : rdK zs = (c, e, u)) (he : (e == 0) = false) : decL zs = (zeroC, 0, e) := by rw [decL_K, h]; simp [he]
theorem rdK_len {zs : List Int} (hw : WfB zs) {c : Cmd} {u : Nat} (h : rdK zs = (c, 0, u)) : u ≤ zs.length := by
  obtain ⟨-, P⟩ := rdK_pre hw (by rw [h])
  have := (P zs.length (Nat.zero_le _) (Nat.le_refl _)).2
  rw [List.take_length, h] at this
  by_cases hc : u ≤ zs.length
  · exact hc
  · have := this (by show zs.length < u; omega)
    simp at this
end Cm
namespace Rk
open Cm Sc
theorem lenC_eq {zs : List Int} (hw : WfB zs) {c : Cmd} {u : Nat} (h : rdK zs = (c, 0, u)) (hc : chkC c = false) : lenC zs = u := by
  have hu := rdK_len hw h
  obtain ⟨-, P⟩ := rdK_pre hw (by rw [h])
  rw [h] at P
  dsimp only at P
  have key : ∀ f k, k ≤ u → f = zs.length - k → lenF zs f k = u := by
    intro f
    induction f with
    | zero => intro k hk hf; rw [lenF]; omega
    | succ f ih =>
      intro k hk hf
      rw [lenF]
      obtain ⟨p1, p2⟩ := P k (Nat.zero_le _) (by omega)
      rcases Nat.lt_or_ge k u with g | g
      · have e10 := p2 g
        rcases hx : rdK (zs.take k) with ⟨c', e', u'⟩
        rw [hx] at e10
        dsimp only at e10
        subst e10
        rw [decK_err hx rfl, if_pos (by rfl)]
        exact ih (k + 1) (by omega) (by omega)
      · rw [decK_no (p1 g) hc, if_neg (by decide)]
        omega
  exact key _ 0 (Nat.zero_le _) (by omega)
end Rk
end Go.Proofs.YtlfaiemebfkajaaGreatDoor
namespace Go.Proofs.YtlfaiemebfkajaaGreatDoor
open Go.ChangeShapes Go.WideShapes Go.ChangeAt Go.RowKit
set_option linter.unusedVariables false
set_option maxRecDepth 100000
namespace Rk
open Cm Sc Rc Hd Nv Sh
/-- a command read by the document's reader -/
def cmdS (st : Pst) : Cmd × Pst := if (st.2 == 0) = true then ((rdK st.1).1, (st.1.drop (rdK st.1).2.2, (rdK st.1).2.1)) else (zeroC, st)
theorem cmdS_err {st : Pst} (h : (st.2 == 0) = false) : cmdS st = (zeroC, st) := by unfold cmdS; rw [if_neg (by rw [h]; simp)]
theorem cmdS_ok {zs : List Int} {c : Cmd} {u : Nat} {e : Int} (h : rdK zs = (c, e, u)) : cmdS (zs, 0) = (c, (zs.drop u, e)) := by unfold cmdS; simp only [h, beq_self_eq_true, if_true]
/-- what the document's Decode answers where it stands so behind a record's parts -/
def Fin (zs : List Int) (r : RecR) (st : Pst) : Prop :=
  (st.2 ≠ 0 → decR zs = (zRecV, st.2)) ∧ (st.2 = 0 → st.1 ≠ [] → decR zs = (zRecV, 11)) ∧ (st.2 = 0 → st.1 = [] → fitsP r → decR zs = (r, 0)) ∧ (st.2 = 0 → st.1 = [] → ¬ fitsP r → decR zs = (zRecV, 130))
theorem errR_of {zs : List Int} {r : RecR} {l : List Int} {e : Int} (h : recS (zs, 0) = (r, (l, e))) : errR zs = if (e == 0) = true ∧ 0 < l.length then 11 else e := by unfold errR; rw [h]
theorem fin_like {zs : List Int} (hl : ¬ 8000 < zs.length) {r r' : RecR} {l : List Int} {e : Int} (h : recS (zs, 0) = (r, (l, e))) (hr : fitsP r' → r = r') (hn : ¬ fitsP r' → ¬ fitsP r) : Fin zs r' (l, e) := by
  have he := errR_of h
  refine ⟨fun q => ?_, fun q q2 => ?_, fun q q2 q3 => ?_, fun q q2 q3 => ?_⟩ <;> dsimp only at q
  · rw [if_neg (fun x => q (by simpa using x.1))] at he
    rw [decR_err hl (by rw [he]; exact q), he]
  · subst q
    have hp : 0 < l.length := by
      rcases Nat.eq_zero_or_pos l.length with g | g
      · exact absurd (List.eq_nil_of_length_eq_zero g) q2
      · exact g
    rw [if_pos ⟨rfl, hp⟩] at he
    rw [decR_err hl (by rw [he]; decide), he]
  · dsimp only at q2
    subst q q2
    rw [if_neg (fun x => by simpa using x.2)] at he
    rw [decR_ok hl he (by rw [h]; rw [hr q3]; exact q3), h, hr q3]
  · dsimp only at q2
    subst q q2
    rw [if_neg (fun x => by simpa using x.2)] at he
    exact decR_no hl he (by rw [h]; exact hn q3)
theorem fin_same {zs : List Int} (hl : ¬ 8000 < zs.length) {r : RecR} {st : Pst} (h : recS (zs, 0) = (r, st)) : Fin zs r st := fin_like hl (show recS (zs, 0) = (r, (st.1, st.2)) from h) (fun _ => rfl) (fun q => q)
theorem rec_consx (x : Int) (rest : List Int) : recS (x :: rest, 0) = bodyS x (rest, 0) := rfl
theorem zeroC_no : ¬ (chkC zeroC = true) := by decide
theorem added_fits {n : Int} {x : Ent} (h : fitsP { zRecV with kind := 3, index := n, ent := x }) : chkC x.cmd = true := by
  rcases h.2.2.2.2.2.2 with ⟨a, -⟩ | ⟨a, -⟩ | ⟨-, -, b⟩ | ⟨a, -⟩ | ⟨a, -⟩
  · cases a
  · cases a
  · exact (fitsB_of b).2
  · cases a
  · cases a
theorem shot_fits {s : Sho} (h : fitsP { zRecV with kind := 5, shot := s }) : shotOk s := by
  rcases h.2.2.2.2.2.2 with ⟨a, -⟩ | ⟨a, -⟩ | ⟨a, -⟩ | ⟨a, -⟩ | ⟨-, b⟩
  · cases a
  · cases a
  · cases a
  · cases a
  · exact b
theorem fits_shot {s : Sho} (h : shotOk s) : fitsP { zRecV with kind := 5, shot := s } :=
  ⟨rfl, rfl, rfl, rfl, by simp [unusedR, zRecV, zEnt, zCmd, zEntV], by simp [unusedR, zRecV, zSho, zLedg, zShoV], .inr (.inr (.inr (.inr ⟨rfl, h⟩)))⟩
theorem fin_1 {rest : List Int} (hl : ¬ 8000 < (1 :: rest).length) : Fin (1 :: rest) { zRecV with kind := 1, boot := (wideS (rest, 0)).1 } (wideS (rest, 0)).2 :=
  fin_same hl (by rw [rec_consx]; unfold bodyS; rw [if_pos rfl])
theorem fin_2 {rest : List Int} (hl : ¬ 8000 < (2 :: rest).length) : Fin (2 :: rest) { zRecV with kind := 2, term := (wideS (rest, 0)).1, vote := (smallS (wideS (rest, 0)).2).1 } (smallS (wideS (rest, 0)).2).2 :=
  fin_same hl (by rw [rec_consx]; unfold bodyS; rw [if_neg (by decide), if_pos rfl])
theorem fin_4 {rest : List Int} (hl : ¬ 8000 < (4 :: rest).length) : Fin (4 :: rest) { zRecV with kind := 4, index := (wideS (rest, 0)).1 } (wideS (rest, 0)).2 :=
  fin_same hl (by rw [rec_consx]; unfold bodyS; rw [if_neg (by decide), if_neg (by decide), if_neg (by decide), if_pos rfl])
theorem fin_3 {rest : List Int} (hl : ¬ 8000 < (3 :: rest).length) (hw : WfB rest) : Fin (3 :: rest) { zRecV with kind := 3, index := (wideS (rest, 0)).1, ent := ⟨(wideS (wideS (rest, 0)).2).1, (cmdS (wideS (wideS (rest, 0)).2).2).1⟩ } (cmdS (wideS (wideS (rest, 0)).2).2).2 := by
  have hb : recS (3 :: rest, 0) = ({ zRecV with kind := 3, index := (wideS (rest, 0)).1, ent := (entS (wideS (rest, 0)).2).1 }, (entS (wideS (rest, 0)).2).2) := by
    rw [rec_consx]; unfold bodyS; rw [if_neg (by decide), if_neg (by decide), if_pos rfl]
  have hw1 : WfB (wideS (rest, 0)).2.1 := wf_next hw
  rcases h1 : wideS (rest, 0) with ⟨i, ⟨l, e⟩⟩
  rw [h1] at hb hw1
  dsimp only at hb hw1 ⊢
  by_cases he0 : (e == 0) = false
  · have he := he0
    have hs : wideS (l, e) = (0, (l, e)) := pnum_stuck he
    rw [hs]
    dsimp only
    rw [cmdS_err he]
    have hx : entS (l, e) = (zEntV, (l, e)) := by unfold entS; rw [if_neg (by simp only; rw [he]; simp)]
    rw [hx] at hb
    refine fin_like hl hb (fun q => absurd (added_fits q) zeroC_no) (fun _ q => absurd (added_fits q) zeroC_no)
  obtain rfl : e = 0 := by simpa using he0
  clear he0
  rcases hr : Oc.rdL l with ⟨n, k, er⟩
  by_cases hee0 : (er == 0) = false
  · have hee := hee0
    have hs : wideS (l, 0) = (0, (l, er)) := pnum_err hr hee
    rw [hs]
    dsimp only
    rw [cmdS_err hee]
    have hx : entS (l, 0) = (zEntV, (l, er)) := by unfold entS entD; simp only [hr, hee]; simp
    rw [hx] at hb
    refine fin_like hl hb (fun q => absurd (added_fits q) zeroC_no) (fun _ q => absurd (added_fits q) zeroC_no)
  obtain rfl : er = 0 := by simpa using hee0
  obtain ⟨-, hk, hn, -⟩ := Oc.rd_back hw1 hr
  have hs : wideS (l, 0) = ((n : Int), (l.drop k, 0)) := pnum_ok hr (by omega)
  rw [hs]
  dsimp only
  have hw2 : WfB (l.drop k) := fun m hm => hw1 m (List.mem_of_mem_drop hm)
  rcases hc : rdK (l.drop k) with ⟨c, ek, u⟩
  rw [cmdS_ok hc]
  dsimp only
  have hv : V3 ek := by have := rdK_v (l.drop k); rw [hc] at this; exact this
  by_cases hek : ek ≠ 0
  · have hek0 : (ek == 0) = false := beq_eq_false_iff_ne.2 hek
    have h40 : ¬ ek = 40 := by intro q; subst q; rcases hv with q | q | q <;> exact absurd q (by decide)
    have hd := decK_err hc hek0
    have hx : entS (l, 0) = (zEntV, (l, ek)) := by unfold entS entD; simp [hr, hd, h40, hek]
    rw [hx] at hb
    have F := fin_like hl hb (r' := { zRecV with kind := 3, index := i, ent := zEntV }) (fun q => absurd (added_fits q) zeroC_no) (fun _ q => absurd (added_fits q) zeroC_no)
    exact ⟨fun q => F.1 hek, fun q => absurd q hek, fun q => absurd q hek, fun q => absurd q hek⟩
  obtain rfl : ek = 0 := Decidable.not_not.1 hek
  cases hck : chkC c with
  | true =>
    have hd := decK_ok hc hck
    have hx : entS (l, 0) = (⟨(n : Int), c⟩, ((l.drop k).drop u, 0)) := by unfold entS entD; simp [hr, hd, List.drop_drop]
    rw [hx] at hb
    exact fin_same hl hb
  | false =>
    have hd := decK_no hc hck
    have hle := lenC_eq hw2 hc hck
    have hx : entS (l, 0) = (⟨(n : Int), zeroC⟩, ((l.drop k).drop u, 0)) := by unfold entS entD; simp [hr, hd, hle, List.drop_drop]
    rw [hx] at hb
    exact fin_like hl hb (fun q => absurd (added_fits q) (by rw [hck]; simp)) (fun _ q => absurd (added_fits q) zeroC_no)
theorem pnum_v {m : Int} {st : Pst} (h : V3 st.2) : V3 (pnum m st).2.2 := by
  rcases hr : Oc.rdL st.1 with ⟨n, k, e⟩
  have hv := rd_v hr
  unfold pnum
  split
  · exact h
  · split
    · rw [hr]; exact hv
    · split
      · exact .inr (.inr rfl)
      · exact .inl rfl
theorem list_v {α : Type} {f : Pst → α × Pst} (hf : ∀ st : Pst, V3 st.2 → V3 (f st).2.2) : ∀ (k : Nat) (st : Pst), V3 st.2 → V3 (listS f k st).2.2
  | 0, st, h => h
  | k + 1, st, h => by rw [listS]; exact hf _ (list_v hf k st h)
theorem shotS_v (zs : List Int) : V3 (shotS (zs, 0)).2.2 := by
  have hb : V3 (beginS (zs, 0)).2 := by
    unfold beginS
    cases zs with
    | nil => exact .inr (.inl rfl)
    | cons x r =>
      dsimp only
      split
      · exact .inl rfl
      · exact .inr (.inr rfl)
  unfold shotS
  show V3 (sh10 (zs, 0)).2.2
  unfold sh10 sh9 sh8 sh7 sh6 sh5 sh4 sh3 sh2 sh1
  have hh : ∀ st : Pst, V3 st.2 → V3 (heldS st).2.2 := fun st h => by unfold heldS; exact pnum_v (pnum_v (pnum_v (pnum_v (pnum_v h))))
  have hl : ∀ st : Pst, V3 st.2 → V3 (lastS st).2.2 := fun st h => by unfold lastS; exact pnum_v (pnum_v (pnum_v (pnum_v (pnum_v (pnum_v h)))))
  exact list_v hl _ _ (pnum_v (list_v hh _ _ (pnum_v (pnum_v (pnum_v (list_v (fun st h => pnum_v h) _ _ (pnum_v (pnum_v (pnum_v hb)))))))))
theorem fin_5 {rest : List Int} (hl : ¬ 8000 < (5 :: rest).length) : Fin (5 :: rest) { zRecV with kind := 5, shot := (shotR (rest, 0)).1 } (shotR (rest, 0)).2 := by
  have hb : recS (5 :: rest, 0) = ({ zRecV with kind := 5, shot := (picS (rest, 0)).1 }, (picS (rest, 0)).2) := by
    rw [rec_consx]; unfold bodyS; rw [if_neg (by decide), if_neg (by decide), if_neg (by decide), if_neg (by decide), if_pos rfl]
  have hl2 : ¬ 8192 < rest.length := by simp at hl; omega
  obtain ⟨e1, e2⟩ := shotR_eq (rest, 0)
  have hv := shotS_v rest
  rcases hS : shotS (rest, 0) with ⟨s, ⟨l, e⟩⟩
  rw [hS] at e1 e2 hv
  rcases hR : shotR (rest, 0) with ⟨s', st'⟩
  rw [hR] at e1 e2
  dsimp only at e1 e2 hv ⊢
  subst e1
  have herr : errS rest = if (e == 0) = true ∧ 0 < l.length then 11 else e := by unfold errS; rw [hS]
  have hzno : ¬ fitsP { zRecV with kind := 5, shot := zS } := fun q => absurd (shot_fits q).1 (by decide)
  by_cases he : e = 0
  · subst he
    obtain rfl : s' = s := e2 rfl
    by_cases hp : 0 < l.length
    · rw [if_pos ⟨rfl, hp⟩] at herr
      have hd : decV rest = (zS, 11) := by rw [Sc.dec_err hl2 (by rw [herr]; decide), herr]
      have hx : picS (rest, 0) = (zS, ([], 11)) := by unfold picS; rw [hd]; rfl
      rw [hx] at hb
      have F := fin_same hl hb
      exact ⟨fun q => absurd rfl q, fun _ _ => F.1 (by decide), fun _ q => by dsimp only at q; rw [q] at hp; simp at hp, fun _ q => by dsimp only at q; rw [q] at hp; simp at hp⟩
    · obtain rfl : l = [] := List.eq_nil_of_length_eq_zero (by omega)
      rw [if_neg (fun q => hp q.2)] at herr
      by_cases ok : shotOk s'
      · have hd : decV rest = (s', 0) := by rw [Sc.dec_ok hl2 herr (by rw [hS]; exact ok), hS]
        have hx : picS (rest, 0) = (s', ([], 0)) := by unfold picS; rw [hd]; rfl
        rw [hx] at hb
        exact fin_same hl hb
      · have hd : decV rest = (zS, 60) := Sc.dec_no hl2 herr (by rw [hS]; exact ok)
        have hx : picS (rest, 0) = (zS, ([], 0)) := by unfold picS; rw [hd]; rfl
        rw [hx] at hb
        exact fin_like hl hb (fun q => absurd (shot_fits q) ok) (fun _ => hzno)
  · have hq : ¬ ((e == 0) = true ∧ 0 < l.length) := fun q => he (by simpa using q.1)
    rw [if_neg hq] at herr
    have hd : decV rest = (zS, e) := by rw [Sc.dec_err hl2 (by rw [herr]; exact he), herr]
    have h60 : ¬ e = 60 := by intro q; subst q; rcases hv with q | q | q <;> exact absurd q (by decide)
    have hx : picS (rest, 0) = (zS, ([], e)) := by unfold picS; rw [hd]; simp [h60]
    rw [hx] at hb
    have F := fin_same hl hb
    exact ⟨fun _ => F.1 he, fun q => absurd q he, fun q => absurd q he, fun q => absurd q he⟩
theorem fin_x {x : Int} {rest : List Int} (hl : ¬ 8000 < (x :: rest).length) (h1 : x ≠ 1) (h2 : x ≠ 2) (h3 : x ≠ 3) (h4 : x ≠ 4) (h5 : x ≠ 5) : decR (x :: rest) = (zRecV, 11) :=
  (fin_same hl (by rw [rec_consx]; unfold bodyS; rw [if_neg h1, if_neg h2, if_neg h3, if_neg h4, if_neg h5] : recS (x :: rest, 0) = ({ zRecV with kind := x }, (rest, 11)))).1 (show (11 : Int) ≠ 0 by decide)
theorem fin_nil : decR [] = (zRecV, 10) := (fin_same (by simp) (rfl : recS (([] : List Int), 0) = ({ zRecV with kind := 0 }, ([], 10)))).1 (by decide)
end Rk
end Go.Proofs.YtlfaiemebfkajaaGreatDoor
namespace Go.Proofs.YtlfaiemebfkajaaGreatDoor
open Go.ChangeShapes Go.WideShapes Go.ChangeAt Go.RowKit
set_option linter.unusedVariables false
set_option maxRecDepth 100000
namespace Cm
set_option maxHeartbeats 2000000 in
theorem rcmd_stuck (g : Nat) (v : Value) (u : Nat) (e : Int) (w : World) (h : RB g v u e w) (he : (e == 0) = false) :
    Calls Tryz.prog 44 #[.pointer (some ⟨g, 0, none⟩)] w fun E w' => E = .returned (.agg (cArr zeroC (.slice none 0 0))) ∧ RB g v u e w' ∧ Only (· = g) w w' := by
  have hgl : g < w.heap.size := (Array.getElem?_eq_some_iff.1 h).1
  obtain ⟨W0, hW0⟩ : ∃ q, (w.alloc (.cells #[Value.int .i64 0, Value.int .i64 0, Value.int .i64 0, Value.slice none 0 0, Value.int .u64 0, Value.int .u64 0, Value.int .u64 0, Value.int .u64 0] 86)).alloc (.cells #[Value.int .i64 0, Value.int .i64 0, Value.int .i64 0, Value.slice none 0 0, Value.int .u64 0, Value.int .u64 0, Value.int .u64 0, Value.int .u64 0] 86) = q := ⟨_, rfl⟩
  have hR0 : W0.heap[w.heap.size]? = some (.cells (cArr zeroC (.slice none 0 0)) 86 (0, 0)) := by rw [← hW0]; exact heap_alloc2_old _ _ _
  have hC0 : W0.heap[w.heap.size + 1]? = some (.cells (cArr zeroC (.slice none 0 0)) 86 (0, 0)) := by rw [← hW0]; exact heap_alloc2_new _ _ _
  have ho0 : Only (· = g) w W0 := by rw [← hW0]; exact Only.trans (Only.alloc _ _ _) (Only.alloc _ _ _)
  have hz0 : w.heap.size + 2 ≤ W0.heap.size := by rw [← hW0]; simp
  have hr0 : RB g v u e W0 := by rw [← hW0]; exact (heap_alloc_old _ _ (by simp; omega)).trans ((heap_alloc_old _ _ hgl).trans h)
  have HSM := Lib.hid (Sc.rsmall_stuck g v u e 6 W0 hr0 he (by decide) (by decide))
  have hfC := frozen_of_row W0 (w.heap.size + 1) 0 _ _ hC0
  have hcC := kind_cell hC0
  obtain ⟨W1, hW1⟩ : ∃ q, W0.setCell ⟨w.heap.size + 1, 0, none⟩ (.int .i64 0) = q := ⟨_, rfl⟩
  have HST : Hid (W1.heap[w.heap.size + 1]? = some (.cells (cArr zeroC (.slice none 0 0)) 86 (0, 0))) := Lib.hid (by rw [← hW1]; exact kind_store (k := 0) hC0)
  have HRR : Hid (RB g v u e W1) := Lib.hid (by rw [← hW1]; exact (heap_setCell_other _ _ _ _ (by simp; omega)).trans hr0)
  have HR2 : Hid (W1.heap[w.heap.size]? = some (.cells (cArr zeroC (.slice none 0 0)) 86 (0, 0))) := Lib.hid (by rw [← hW1]; exact (heap_setCell_other _ _ _ _ (by simp)).trans hR0)
  have HO2 : Hid (Only (· = g) w W1) := Lib.hid (by rw [← hW1]; exact ⟨ho0.1, ho0.2.1, ho0.2.2.1, by simpa using ho0.2.2.2.1, fun j hj hn => (heap_setCell_other _ _ _ _ (by simp; omega)).trans (ho0.2.2.2.2 j hj hn)⟩)
  have HZ2 : Hid (w.heap.size + 2 ≤ W1.heap.size) := Lib.hid (by rw [← hW1]; simpa using hz0)
  have HE := Lib.hid he
  have hk0 := kind_cell HST.out
  have hkd : kindB 0 = false := rfl
  have HW0 := Lib.hid hW0
  clear hR0 hC0 ho0 hz0 hr0 h he hW0
  go_enter Tryz.func44, Tryz.ntmps44
  go_wp2_with fail
  rw [HW0.out]
  refine HSM.out.mono ?_
  rintro E w1 ⟨rfl, rfl⟩
  go_wp2_with fail
  refine (rfields_any 0 _).mono ?_
  rintro E w2 ⟨rfl, rfl⟩
  rw [hkd]
  clear hkd
  go_wp2_with fail
  refine (fail_any g v u e 11 _ HRR.out).mono ?_
  rintro E w3 ⟨rfl, hr3, ho3, hz3⟩
  rw [show failE e 11 = e from by unfold failE; rw [HE.out]; rfl] at hr3
  have hC3 := (ho3.2.2.2.2 (w.heap.size + 1) (by have := HZ2.out; omega) (by omega)).trans HST.out
  have hR3 := (ho3.2.2.2.2 w.heap.size (by have := HZ2.out; omega) (by omega)).trans HR2.out
  have ho03 := HO2.out.trans ho3
  clear ho3 hz3
  go_wp2_with (first
    | (refine wpList_load_row rfl 86 (.tmp 3) rfl (w.heap.size + 1) rfl 86 (cArr zeroC (.slice none 0 0)) (0, 0) _ hC3 Tryz.underlying86 rfl (by kernel_rfl) ?_)
    | (refine wpList_store_row rfl 86 (.tmp 2) (.tmp 22) rfl w.heap.size (cArr zeroC (.slice none 0 0)) rfl rfl 86 _ hR3 (by kernel_rfl) rfl (cArr_one _ _ _ _) ?_))
  refine bodyPost_ret (v := .agg (cArr zeroC (.slice none 0 0))) (results_cell_row rfl _ _ w.heap.size 86 _ (0, 0) _ rfl (set_row hR3) Tryz.underlying86 rfl (by kernel_rfl)) rfl ?_
  refine ⟨rfl, (setRow_other _ _ _ _ (by omega)).trans hr3, ?_⟩
  exact ⟨ho03.1, ho03.2.1, ho03.2.2.1, by simpa using ho03.2.2.2.1, fun j hj hn => (setRow_other _ _ _ _ (by omega)).trans (ho03.2.2.2.2 j hj hn)⟩
end Cm
namespace Rk
open Cm Sc Rc Hd Nv Sh
def CmdX (w0 : World) (g : Nat) (zs : List Int) (st : Pst) (w : World) (e : Ending) (w' : World) : Prop := ∃ (c : Cmd) (a : Option Addr) (q r : Nat), e = .returned (.agg (cArr c (.slice a q r))) ∧ RdR w0 g zs (cmdS st).2 w' ∧ ((cmdS st).2.2 = 0 → c = (cmdS st).1 ∧ OwnI w' w.heap.size (.slice a q r) c.nodes ∧ c.wf ∧ ∀ n ∈ c.nodes, (Lit.int .i64 n).wf = true) ∧ Only (· = g) w w'
theorem cmd_x (w0 : World) (g : Nat) (zs : List Int) (st : Pst) (w : World) (hr : RdR w0 g zs st w) (hS : ∀ v, Sl .u8 w0 v zs → ∀ w', Only (· = g) w w' → Sl .u8 w' v zs) : Calls Tryz.prog 44 #[.pointer (some ⟨g, 0, none⟩)] w (CmdX w0 g zs st w) := by
  obtain ⟨s1, e⟩ := st
  obtain ⟨v, u, h1, h2, h3, h4⟩ := hr
  cases he : (e == 0) with
  | false =>
    refine (rcmd_stuck g v u e w h1 he).mono ?_
    rintro E w' ⟨rfl, q1, q2⟩
    unfold CmdX
    rw [cmdS_err (st := (s1, e)) he]
    exact ⟨zeroC, none, 0, 0, rfl, ⟨v, u, q1, h2, h3, fun q => by rw [show ((s1, e) : Pst).2 = e from rfl, he] at q; cases q⟩, fun q => by dsimp only at q; subst q; simp at he, q2⟩
  | true =>
    obtain rfl : e = 0 := by simpa using he
    obtain ⟨hu, rfl⟩ := h4 rfl
    refine (rcmd_anyU g v zs u w hu h1 (fun w' ho => hS v h2 w' ho)).mono ?_
    rintro E w' ⟨c, a, q, r, u', e', rfl, k1, k2, k3, k4, k5⟩
    obtain ⟨f1, f2⟩ := rdU_shf zs u
    rcases hk : rdK (zs.drop u) with ⟨c2, e2, j⟩
    rw [hk] at f1 f2
    unfold CmdX
    rw [cmdS_ok hk]
    have hee : e2 = e' := by rw [← k2]; exact f1.symm
    subst hee
    refine ⟨c, a, q, r, rfl, ⟨v, u', k1, h2, by omega, fun h0 => ?_⟩, fun h0 => ?_, k4⟩
    · have h0 : e2 = 0 := by simpa using h0
      have g1 := f2 (by rw [k2]; exact h0)
      rw [(k3 h0).1] at g1
      simp only [shf, Prod.mk.injEq] at g1
      exact ⟨k5, by show (zs.drop u).drop j = zs.drop u'; rw [List.drop_drop, g1.2.2]⟩
    · have g1 := f2 (by rw [k2]; exact h0)
      obtain ⟨p1, p2, p3, p4⟩ := k3 h0
      rw [p1] at g1
      simp only [shf, Prod.mk.injEq] at g1
      exact ⟨g1.1, p4, p3, p2.wf⟩
end Rk
end Go.Proofs.YtlfaiemebfkajaaGreatDoor
