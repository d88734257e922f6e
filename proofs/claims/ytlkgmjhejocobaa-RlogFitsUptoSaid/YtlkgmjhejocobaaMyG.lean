/- What a record of kind 4 changes, by the document: done. No condition but the bounds of what may last. -/
import Derived.Test.YtlkgmjhejocobaaMyF
import Derived.Deep.QuietTactic
import Derived.BigQuiet
import Derived.Deep.MidRow
import Derived.Deep.AppendLies
import Derived.Deep.RegionHeld3
namespace Go.Proofs.Ytlkgmjhejocobaa
open Go.ChangeShapes Go.WideShapes Go.ChangeAt Go.RowKit Go.Deep
set_option linter.unusedVariables false
set_option maxRecDepth 100000
namespace Rc
open Hd Nv
set_option maxHeartbeats 3000000 in
theorem dn_4 (B : Nat) (h : Har) (vn vh vl vg : Value) (rows : List ERow) (r : RecR) (vc rn rh rl : Value) (w : World) (hB : B ≤ w.heap.size) (o1 : OwnI w B vn h.shot.nodes) (o2 : OwnR 5 heldC 74 w B vh h.shot.led.held) (o3 : OwnR 6 lastC 78 w B vl h.shot.led.last) (o4 : OwnR 9 entC 47 w B vg rows) (o5 : EntsO w B vg.ownBlock rows) (hm : rows.map Prod.fst = h.log) (hw : HarW h) (hr : RecO w B (r, vc, rn, rh, rl)) (hla : h.shot.index + h.log.length ≤ 4611686018427387904) (hfl : h.log.length * 88 ≤ 140737488351232) (hk : r.kind = 4) : Calls Try.prog 64 #[.agg (hArr h vn vh vl vg), .agg (rArr r vc rn rh rl)] w (Dunn B h r w) := by
  obtain ⟨k1, m1, rfl, -⟩ := o1.sl hw.2
  obtain ⟨k2, m2, rfl, -⟩ := o2.sl heldC_len
  obtain ⟨k3, m3, rfl, -⟩ := o3.sl lastC_len
  obtain ⟨k4, m4, hug, -⟩ := o4.sl entC_len
  have hrl : rows.length = h.log.length := by rw [← hm, List.length_map]
  rw [hrl] at hug
  subst hug
  have hv1 : OwnK .i64 3 w B vc r.ent.cmd.nodes := hr.1.1
  have hv2 : OwnK .i64 3 w B rn r.shot.nodes := hr.1.2.1
  have hv3 : OwnR 5 heldC 74 w B rh r.shot.led.held := hr.1.2.2.1
  have hv4 : OwnR 6 lastC 78 w B rl r.shot.led.last := hr.1.2.2.2
  obtain ⟨a1, b1, rfl, -⟩ := hv1.sl hr.2.1
  obtain ⟨a2, b2, rfl, -⟩ := hv2.sl hr.2.2.1
  obtain ⟨a3, b3, rfl, -⟩ := hv3.sl heldC_len
  obtain ⟨a4, b4, rfl, -⟩ := hv4.sl lastC_len
  obtain ⟨W0, hW0, hb0, hz0, hA0, hB0, hC0⟩ := box3 w (hArr h (.slice k1 h.shot.nodes.length m1) (.slice k2 h.shot.led.held.length m2) (.slice k3 h.shot.led.last.length m3) (.slice k4 h.log.length m4)) (rArr r (.slice a1 r.ent.cmd.nodes.length b1) (.slice a2 r.shot.nodes.length b2) (.slice a3 r.shot.led.held.length b3) (.slice a4 r.shot.led.last.length b4)) zH
  have HBB := Lib.hid hB
  have HRL := Lib.hid hrl
  have HM := Lib.hid hm
  have HO0 : Hid (OwnH W0 B (.slice k1 h.shot.nodes.length m1) (.slice k2 h.shot.led.held.length m2) (.slice k3 h.shot.led.last.length m3) (.slice k4 h.log.length m4) h) := Lib.hid (OwnH.map (w := w) (B := B) (h := h) ⟨o1, o2, o3, by have q := LogP.whole o4 o5; rw [hm] at q; exact q⟩ fun e sz v n xs q => owns_below hb0 q)
  have HOG0 : Hid (OwnR 9 entC 47 W0 B (.slice k4 h.log.length m4) rows ∧ EntsO W0 B (Value.slice k4 h.log.length m4).ownBlock rows) := Lib.hid ⟨owns_below hb0 o4, fun r hr => ⟨owns_below hb0 (o5 r hr).1, (o5 r hr).2⟩⟩
  have HRO0 : Hid (RecO W0 B (r, .slice a1 r.ent.cmd.nodes.length b1, .slice a2 r.shot.nodes.length b2, .slice a3 r.shot.led.held.length b3, .slice a4 r.shot.led.last.length b4)) := Lib.hid (hr.map fun e sz v n xs _ q => owns_below hb0 q)
  have HWH := Lib.hid hw
  have HRW : Hid r.wf := Lib.hid hr.2.2.2
  have HA0 := Lib.hid hA0
  have HB0 := Lib.hid hB0
  have HC0 := Lib.hid hC0
  have HS0 : Hid (w.heap.size + 3 ≤ W0.heap.size) := Lib.hid (by omega)
  have HBW0 : Hid (Below w.heap.size w W0) := Lib.hid hb0
  have HLA := Lib.hid hla
  have HFL := Lib.hid hfl
  have hx0 := Ld.u64_nonneg hw.1.2.2.2.1
  have hw3 := bounds_u64 hr.2.2.2.2.2.2.2.1
  have hlen0 : (h.log.length : Int) ≤ 4611686018427387904 := by omega
  obtain ⟨d0, d1, d2, d3, d4, d5, d6, d7, d8, d9, d10⟩ := cells11 hA0
  obtain ⟨c0, c1, c2, c3, c4, c5, c6, c7, c8, c9, c10, c11, c12, c13, c14, c15, c16, c17, c18, c19, c20⟩ := cells21 hB0
  clear o1 o2 o3 o4 o5 hm hw hr hla hfl hb0 hA0 hB0 hC0 hz0 hrl hv1 hv2 hv3 hv4
  have HU : Hid (followsP h r ↔ (h.shot.index < r.index ∧ r.index ≤ h.shot.index + h.log.length + 1)) := Lib.hid (by unfold followsP; rw [if_neg (by omega)]; rw [if_neg (by omega)]; rw [if_neg (by omega)]; rw [if_pos hk])
  have HDO : Hid (doH h r = { h with log := h.log.take (r.index - h.shot.index - 1).toNat }) := Lib.hid (by unfold doH; rw [if_neg (by omega)]; rw [if_neg (by omega)]; rw [if_neg (by omega)]; rw [if_pos hk])
  have z1 : (r.kind == 1) = false := beq_eq_false_iff_ne.2 (by omega)
  have z2 : (r.kind == 2) = false := beq_eq_false_iff_ne.2 (by omega)
  have z3 : (r.kind == 3) = false := beq_eq_false_iff_ne.2 (by omega)
  have z4 : (r.kind == 4) = true := beq_iff_eq.2 hk
  clear hk
  have HBWS : Hid (w.heap.size ≤ W0.heap.size) := Lib.hid (by have := HS0.out; omega)
  have HIX : Hid (h.shot.index ≤ 4611686018427387904) := Lib.hid (by have := HLA.out; omega)
  have HIW : Hid (IsHard W0.drew (.agg (hArr h (.slice k1 h.shot.nodes.length m1) (.slice k2 h.shot.led.held.length m2) (.slice k3 h.shot.led.last.length m3) (.slice k4 h.log.length m4))) h) := Lib.hid (HO0.out.hard HWH.out)
  have hwr : IntKind.u64.wrap (h.shot.index + h.log.length + 1) = h.shot.index + h.log.length + 1 := by
    have := HLA.out
    have := hx0
    unfold IntKind.wrap
    simp [IntKind.signed, IntKind.bits]
    omega
  by_cases hx : h.shot.index < r.index
  · by_cases hy : r.index ≤ h.shot.index + h.log.length + 1
    · obtain ⟨j, hj⟩ : ∃ j : Nat, r.index = h.shot.index + j + 1 := ⟨(r.index - h.shot.index - 1).toNat, by omega⟩
      have HX := Lib.hid (HU.out.2 ⟨hx, hy⟩)
      have HE : Hid (doH h r = { h with log := h.log.take j }) := Lib.hid (by rw [HDO.out, show (r.index - h.shot.index - 1).toNat = j by omega])
      have hjl : j ≤ h.log.length := by omega
      have HJ := Lib.hid hjl
      have e1 : r.index - h.shot.index = (j : Int) + 1 := by omega
      have e2 : (j : Int) + 1 - 1 = (j : Int) := by omega
      have hle : h.shot.index ≤ r.index := by omega
      have hx1 : decide (r.index ≤ h.shot.index) = false := decide_eq_false (by omega)
      have hy2 : r.index ≤ IntKind.u64.wrap (h.shot.index + h.log.length + 1) := by rw [hwr]; exact hy
      have hy3 : decide (IntKind.u64.wrap (h.shot.index + h.log.length + 1) < r.index) = false := decide_eq_false (by omega)
      have hcap := own_cap HOG0.out.1
      unfold maxLen at hcap
      have hjm : j ≤ m4 := by omega
      clear hwr hj d0 d1 d2 d4 d5 d6 d7 d8 d9
      go_enter Try.func64, Try.ntmps64
      go_wp2_with fail
      have hrg0 := row_range HA0.out
      refine wp_region_held_drew (S := fun w' => w'.cell? ⟨w.heap.size + 1, 4, none⟩ = some (.int .u64 r.index) ∧ w'.cell? ⟨w.heap.size, 3, none⟩ = some (.int .u64 h.shot.index) ∧ w'.rangeAt w.heap.size 0 (hArr h (.slice k1 h.shot.nodes.length m1) (.slice k2 h.shot.led.held.length m2) (.slice k3 h.shot.led.last.length m3) (.slice k4 h.log.length m4)).toList) (by kernel_rfl) ⟨c4, d3, hrg0⟩ (fun hHeld => ?_)
      refine wpAnyH_take (i := 0) (v := .pointer (some ⟨w.heap.size + 1, 4, none⟩)) rfl (by kernel_rfl) (by kernel_rfl) (by kernel_rfl) (fun _ _ _ h => h) (Or.inl ⟨by kernel_rfl, ?_⟩) (by assumption) ?_
      · intro w hSw
        obtain ⟨s1, s2, -⟩ := hSw
        clear hHeld
        go_simp
        try with_reducible rfl
      simp only [Act.put]
      refine wpAnyH_take (i := 1) (v := .int .u64 r.index) rfl (by kernel_rfl) (by kernel_rfl) (by kernel_rfl) (fun _ _ _ h => h) (Or.inl ⟨by kernel_rfl, ?_⟩) (by assumption) ?_
      · intro w hSw
        obtain ⟨s1, s2, -⟩ := hSw
        clear hHeld
        go_simp
        try with_reducible rfl
      simp only [Act.put]
      refine wpAnyH_take (i := 2) (v := .pointer (some ⟨w.heap.size, 3, none⟩)) rfl (by kernel_rfl) (by kernel_rfl) (by kernel_rfl) (fun _ _ _ h => h) (Or.inl ⟨by kernel_rfl, ?_⟩) (by assumption) ?_
      · intro w hSw
        obtain ⟨s1, s2, -⟩ := hSw
        clear hHeld
        go_simp
        try with_reducible rfl
      simp only [Act.put]
      refine wpAnyH_take (i := 3) (v := .pointer (some ⟨w.heap.size, 3, none⟩)) rfl (by kernel_rfl) (by kernel_rfl) (by kernel_rfl) (fun _ _ _ h => h) (Or.inl ⟨by kernel_rfl, ?_⟩) (by assumption) ?_
      · intro w hSw
        obtain ⟨s1, s2, -⟩ := hSw
        clear hHeld
        go_simp
        try with_reducible rfl
      simp only [Act.put]
      refine wpAnyH_take (i := 4) (v := .int .u64 h.shot.index) rfl (by kernel_rfl) (by kernel_rfl) (by kernel_rfl) (fun _ _ _ h => h) (Or.inl ⟨by kernel_rfl, ?_⟩) (by assumption) ?_
      · intro w hSw
        obtain ⟨s1, s2, -⟩ := hSw
        clear hHeld
        go_simp
        try with_reducible rfl
      simp only [Act.put]
      refine wpAnyH_take (i := 5) (v := .bool false) rfl (by kernel_rfl) (by kernel_rfl) (by kernel_rfl) (fun _ _ _ h => h) (Or.inl ⟨by kernel_rfl, ?_⟩) (by assumption) ?_
      · intro w hSw
        obtain ⟨s1, s2, -⟩ := hSw
        clear hHeld
        go_simp
        try with_reducible rfl
      simp only [Act.put]
      refine wpAnyH_take (i := 6) (v := .bool false) rfl (by kernel_rfl) (by kernel_rfl) (by kernel_rfl) (fun _ _ _ h => h) (Or.inl ⟨by kernel_rfl, ?_⟩) (by assumption) ?_
      · intro w hSw
        obtain ⟨s1, s2, -⟩ := hSw
        clear hHeld
        go_simp
        try with_reducible rfl
      simp only [Act.put]
      refine wpAnyH_take (i := 7) (v := .pointer (some ⟨w.heap.size + 1, 4, none⟩)) rfl (by kernel_rfl) (by kernel_rfl) (by kernel_rfl) (fun _ _ _ h => h) (Or.inl ⟨by kernel_rfl, ?_⟩) (by assumption) ?_
      · intro w hSw
        obtain ⟨s1, s2, -⟩ := hSw
        clear hHeld
        go_simp
        try with_reducible rfl
      simp only [Act.put]
      refine wpAnyH_take (i := 8) (v := .int .u64 r.index) rfl (by kernel_rfl) (by kernel_rfl) (by kernel_rfl) (fun _ _ _ h => h) (Or.inl ⟨by kernel_rfl, ?_⟩) (by assumption) ?_
      · intro w hSw
        obtain ⟨s1, s2, -⟩ := hSw
        clear hHeld
        go_simp
        try with_reducible rfl
      simp only [Act.put]
      refine wpAnyH_take (i := 9) (v := .agg (hArr h (.slice k1 h.shot.nodes.length m1) (.slice k2 h.shot.led.held.length m2) (.slice k3 h.shot.led.last.length m3) (.slice k4 h.log.length m4))) rfl (by kernel_rfl) (by kernel_rfl) (by kernel_rfl) (fun _ _ _ h => h) (yieldsIf_load_mid (by kernel_rfl) _ _ rfl w.heap.size 0 (by kernel_rfl) (hArr h (.slice k1 h.shot.nodes.length m1) (.slice k2 h.shot.led.held.length m2) (.slice k3 h.shot.led.last.length m3) (.slice k4 h.log.length m4)).toList _ (fun w h => h.2.2) Try.underlying43 rfl (by kernel_rfl)) (by assumption) ?_
      simp only [Act.put]
      refine wpAnyH_ready (rs := [10]) (by kernel_rfl) (by simp) ?_
      refine AllReadyH.cons rfl (fun K hK => ?_) AllReadyH.nil
      go_simp
      refine (Hd.rlast_any h _ _ HIW.out HIX.out).mono ?_
      rintro e w1 ⟨rfl, hb1⟩
      have HA1 := Lib.hid ((hb1.block _ (lt_of_row HA0.out)).trans HA0.out)
      have HB1 := Lib.hid ((hb1.block _ (lt_of_row HB0.out)).trans HB0.out)
      have HC1 := Lib.hid ((hb1.block _ (lt_of_row HC0.out)).trans HC0.out)
      have HBW1 := Lib.hid (HBW0.out.drew.trans (hb1.mono HBWS.out))
      have HM1 : Hid (∀ e sz v n xs, W0.ownsRow B e sz v n xs → w1.ownsRow B e sz v n xs) := Lib.hid (fun e sz v n xs q => owns_below (w := W0) ⟨hb1.os, hb1.tape, hb1.output, hb1.size, hb1.block⟩ q)
      have hz1 : Hid (W0.heap.size ≤ w1.heap.size) := Lib.hid hb1.size
      have qc4 := (cell_of_row w1 _ 4 _ _ _ HB1.out).trans rfl
      have qd3 := (cell_of_row w1 _ 3 _ _ _ HA1.out).trans rfl
      have qd10 := (cell_of_row w1 _ 10 _ _ _ HA1.out).trans rfl
      have qf10 := La.frozen_of (o := 10) HA1.out
      have hrg1 := row_range HA1.out
      clear hb1 hHeld
      refine hK.out _ _ ⟨qc4, qd3, hrg1⟩ (fun hHeld => ?_)
      clear hK K
      refine wpAnyH_take (i := 11) (v := .int .u64 (IntKind.u64.wrap (h.shot.index + h.log.length + 1))) rfl (by kernel_rfl) (by kernel_rfl) (by kernel_rfl) (fun _ _ _ h => h) (Or.inl ⟨by kernel_rfl, ?_⟩) (by assumption) ?_
      · intro w hSw
        obtain ⟨s1, s2, -⟩ := hSw
        clear hHeld
        go_simp
        try with_reducible rfl
      simp only [Act.put]
      refine wpAnyH_take (i := 12) (v := .bool false) rfl (by kernel_rfl) (by kernel_rfl) (by kernel_rfl) (fun _ _ _ h => h) (Or.inl ⟨by kernel_rfl, ?_⟩) (by assumption) ?_
      · intro w hSw
        obtain ⟨s1, s2, -⟩ := hSw
        clear hHeld
        go_simp
        try with_reducible rfl
      simp only [Act.put]
      refine wpAnyH_take (i := 13) (v := .bool false) rfl (by kernel_rfl) (by kernel_rfl) (by kernel_rfl) (fun _ _ _ h => h) (Or.inl ⟨by kernel_rfl, ?_⟩) (by assumption) ?_
      · intro w hSw
        obtain ⟨s1, s2, -⟩ := hSw
        clear hHeld
        go_simp
        try with_reducible rfl
      simp only [Act.put]
      refine wpAnyH_done (by kernel_rfl) ?_ _
      clear hHeld
      clear hrg0 hrg1 c0 c1 c2 c3 c4 c5 c6 c7 c8 c9 c10 c11 c12 c13 c14 c15 c16 c17 c18 c19 c20 d10
      obtain ⟨W2, hW2⟩ : ∃ q, w1.setCell ⟨w.heap.size, 10, none⟩ (.slice k4 j m4) = q := ⟨_, rfl⟩
      have HA2 : Hid (W2.heap[w.heap.size]? = some (.cells (hArr { h with log := h.log.take j } (.slice k1 h.shot.nodes.length m1) (.slice k2 h.shot.led.held.length m2) (.slice k3 h.shot.led.last.length m3) (.slice k4 j m4)) 43 (0, 0))) := Lib.hid (by rw [← hW2, heap_setCell_same w1 w.heap.size 10 _ _ _ HA1.out]; rfl)
      have HC2 : Hid (W2.heap[w.heap.size + 2]? = some (.cells zH 43 (0, 0))) := Lib.hid (by rw [← hW2]; exact (heap_setCell_other _ _ _ _ (by simp)).trans HC1.out)
      have HBW2 : Hid (Below w.heap.size w W2) := Lib.hid (by rw [← hW2]; exact HBW1.out.setCell (Nat.le_refl _) _)
      have HO2 : Hid (OwnH W2 B (.slice k1 h.shot.nodes.length m1) (.slice k2 h.shot.led.held.length m2) (.slice k3 h.shot.led.last.length m3) (.slice k4 j m4) { h with log := h.log.take j }) := Lib.hid (by rw [← hW2]; have q := HO0.out.map HM1.out; exact OwnH.mapT (⟨q.1, q.2.1, q.2.2.1, q.2.2.2.piece (piece_take HOG0.out.1 HRL.out HJ.out)⟩ : OwnH w1 B (.slice k1 h.shot.nodes.length m1) (.slice k2 h.shot.led.held.length m2) (.slice k3 h.shot.led.last.length m3) (.slice k4 j m4) { h with log := h.log.take j }) fun e sz v n xs hne q => own_cellT q HA1.out hne)
      have HW2 : Hid (HarW { h with log := h.log.take j }) := Lib.hid ⟨HWH.out.1, HWH.out.2⟩
      have FIN := Lib.hid (dunn_mk (dunn_yes HX.out) (fun _ => HE.out.symm) HO2.out HW2.out HBW2.out HBB.out HC2.out)
      go_wp2_with (first | (with_reducible refine wpList_load_row rfl 43 (.tmp 2) rfl w.heap.size rfl 43 (hArr { h with log := h.log.take j } (.slice k1 h.shot.nodes.length m1) (.slice k2 h.shot.led.held.length m2) (.slice k3 h.shot.led.last.length m3) (.slice k4 j m4)) (0, 0) _ HA2.out Try.underlying43 rfl (by kernel_rfl) ?_) | (with_reducible refine wpList_store_row rfl 43 (.tmp 4) (.tmp 139) rfl (w.heap.size + 2) (hArr { h with log := h.log.take j } (.slice k1 h.shot.nodes.length m1) (.slice k2 h.shot.led.held.length m2) (.slice k3 h.shot.led.last.length m3) (.slice k4 j m4)) rfl rfl 43 _ HC2.out (by kernel_rfl) rfl (hArr_one _ _ _ _ _ _ _ _ _ _ _ _ _) ?_))
      exact bodyPost_ret (v := .tuple #[.agg (hArr { h with log := h.log.take j } (.slice k1 h.shot.nodes.length m1) (.slice k2 h.shot.led.held.length m2) (.slice k3 h.shot.led.last.length m3) (.slice k4 j m4)), .bool true]) (results_ct rfl _ _ (w.heap.size + 2) 43 _ (0, 0) _ rfl (setRow_heap _ _ _ _ _ _ HC2.out) Try.underlying43 rfl (by kernel_rfl) rfl) rfl FIN.out
    · have HX : Hid (¬ followsP h r) := Lib.hid (fun g => hy (HU.out.1 g).2)
      have hx1 : decide (r.index ≤ h.shot.index) = false := decide_eq_false (by omega)
      have hy2 : IntKind.u64.wrap (h.shot.index + h.log.length + 1) < r.index := by rw [hwr]; omega
      have hy3 : decide (IntKind.u64.wrap (h.shot.index + h.log.length + 1) < r.index) = true := decide_eq_true hy2
      clear hwr d0 d1 d2 d4 d5 d6 d7 d8 d9
      go_enter Try.func64, Try.ntmps64
      go_wp2_with fail
      have hrg0 := row_range HA0.out
      refine wp_region_held_drew (S := fun w' => w'.cell? ⟨w.heap.size + 1, 4, none⟩ = some (.int .u64 r.index) ∧ w'.cell? ⟨w.heap.size, 3, none⟩ = some (.int .u64 h.shot.index) ∧ w'.rangeAt w.heap.size 0 (hArr h (.slice k1 h.shot.nodes.length m1) (.slice k2 h.shot.led.held.length m2) (.slice k3 h.shot.led.last.length m3) (.slice k4 h.log.length m4)).toList) (by kernel_rfl) ⟨c4, d3, hrg0⟩ (fun hHeld => ?_)
      refine wpAnyH_take (i := 0) (v := .pointer (some ⟨w.heap.size + 1, 4, none⟩)) rfl (by kernel_rfl) (by kernel_rfl) (by kernel_rfl) (fun _ _ _ h => h) (Or.inl ⟨by kernel_rfl, ?_⟩) (by assumption) ?_
      · intro w hSw
        obtain ⟨s1, s2, -⟩ := hSw
        clear hHeld
        go_simp
        try with_reducible rfl
      simp only [Act.put]
      refine wpAnyH_take (i := 1) (v := .int .u64 r.index) rfl (by kernel_rfl) (by kernel_rfl) (by kernel_rfl) (fun _ _ _ h => h) (Or.inl ⟨by kernel_rfl, ?_⟩) (by assumption) ?_
      · intro w hSw
        obtain ⟨s1, s2, -⟩ := hSw
        clear hHeld
        go_simp
        try with_reducible rfl
      simp only [Act.put]
      refine wpAnyH_take (i := 2) (v := .pointer (some ⟨w.heap.size, 3, none⟩)) rfl (by kernel_rfl) (by kernel_rfl) (by kernel_rfl) (fun _ _ _ h => h) (Or.inl ⟨by kernel_rfl, ?_⟩) (by assumption) ?_
      · intro w hSw
        obtain ⟨s1, s2, -⟩ := hSw
        clear hHeld
        go_simp
        try with_reducible rfl
      simp only [Act.put]
      refine wpAnyH_take (i := 3) (v := .pointer (some ⟨w.heap.size, 3, none⟩)) rfl (by kernel_rfl) (by kernel_rfl) (by kernel_rfl) (fun _ _ _ h => h) (Or.inl ⟨by kernel_rfl, ?_⟩) (by assumption) ?_
      · intro w hSw
        obtain ⟨s1, s2, -⟩ := hSw
        clear hHeld
        go_simp
        try with_reducible rfl
      simp only [Act.put]
      refine wpAnyH_take (i := 4) (v := .int .u64 h.shot.index) rfl (by kernel_rfl) (by kernel_rfl) (by kernel_rfl) (fun _ _ _ h => h) (Or.inl ⟨by kernel_rfl, ?_⟩) (by assumption) ?_
      · intro w hSw
        obtain ⟨s1, s2, -⟩ := hSw
        clear hHeld
        go_simp
        try with_reducible rfl
      simp only [Act.put]
      refine wpAnyH_take (i := 5) (v := .bool false) rfl (by kernel_rfl) (by kernel_rfl) (by kernel_rfl) (fun _ _ _ h => h) (Or.inl ⟨by kernel_rfl, ?_⟩) (by assumption) ?_
      · intro w hSw
        obtain ⟨s1, s2, -⟩ := hSw
        clear hHeld
        go_simp
        try with_reducible rfl
      simp only [Act.put]
      refine wpAnyH_take (i := 6) (v := .bool false) rfl (by kernel_rfl) (by kernel_rfl) (by kernel_rfl) (fun _ _ _ h => h) (Or.inl ⟨by kernel_rfl, ?_⟩) (by assumption) ?_
      · intro w hSw
        obtain ⟨s1, s2, -⟩ := hSw
        clear hHeld
        go_simp
        try with_reducible rfl
      simp only [Act.put]
      refine wpAnyH_take (i := 7) (v := .pointer (some ⟨w.heap.size + 1, 4, none⟩)) rfl (by kernel_rfl) (by kernel_rfl) (by kernel_rfl) (fun _ _ _ h => h) (Or.inl ⟨by kernel_rfl, ?_⟩) (by assumption) ?_
      · intro w hSw
        obtain ⟨s1, s2, -⟩ := hSw
        clear hHeld
        go_simp
        try with_reducible rfl
      simp only [Act.put]
      refine wpAnyH_take (i := 8) (v := .int .u64 r.index) rfl (by kernel_rfl) (by kernel_rfl) (by kernel_rfl) (fun _ _ _ h => h) (Or.inl ⟨by kernel_rfl, ?_⟩) (by assumption) ?_
      · intro w hSw
        obtain ⟨s1, s2, -⟩ := hSw
        clear hHeld
        go_simp
        try with_reducible rfl
      simp only [Act.put]
      refine wpAnyH_take (i := 9) (v := .agg (hArr h (.slice k1 h.shot.nodes.length m1) (.slice k2 h.shot.led.held.length m2) (.slice k3 h.shot.led.last.length m3) (.slice k4 h.log.length m4))) rfl (by kernel_rfl) (by kernel_rfl) (by kernel_rfl) (fun _ _ _ h => h) (yieldsIf_load_mid (by kernel_rfl) _ _ rfl w.heap.size 0 (by kernel_rfl) (hArr h (.slice k1 h.shot.nodes.length m1) (.slice k2 h.shot.led.held.length m2) (.slice k3 h.shot.led.last.length m3) (.slice k4 h.log.length m4)).toList _ (fun w h => h.2.2) Try.underlying43 rfl (by kernel_rfl)) (by assumption) ?_
      simp only [Act.put]
      refine wpAnyH_ready (rs := [10]) (by kernel_rfl) (by simp) ?_
      refine AllReadyH.cons rfl (fun K hK => ?_) AllReadyH.nil
      go_simp
      refine (Hd.rlast_any h _ _ HIW.out HIX.out).mono ?_
      rintro e w1 ⟨rfl, hb1⟩
      have HA1 := Lib.hid ((hb1.block _ (lt_of_row HA0.out)).trans HA0.out)
      have HB1 := Lib.hid ((hb1.block _ (lt_of_row HB0.out)).trans HB0.out)
      have HC1 := Lib.hid ((hb1.block _ (lt_of_row HC0.out)).trans HC0.out)
      have HBW1 := Lib.hid (HBW0.out.drew.trans (hb1.mono HBWS.out))
      have HM1 : Hid (∀ e sz v n xs, W0.ownsRow B e sz v n xs → w1.ownsRow B e sz v n xs) := Lib.hid (fun e sz v n xs q => owns_below (w := W0) ⟨hb1.os, hb1.tape, hb1.output, hb1.size, hb1.block⟩ q)
      have hz1 : Hid (W0.heap.size ≤ w1.heap.size) := Lib.hid hb1.size
      have qc4 := (cell_of_row w1 _ 4 _ _ _ HB1.out).trans rfl
      have qd3 := (cell_of_row w1 _ 3 _ _ _ HA1.out).trans rfl
      have qd10 := (cell_of_row w1 _ 10 _ _ _ HA1.out).trans rfl
      have qf10 := La.frozen_of (o := 10) HA1.out
      have hrg1 := row_range HA1.out
      clear hb1 hHeld
      refine hK.out _ _ ⟨qc4, qd3, hrg1⟩ (fun hHeld => ?_)
      clear hK K
      refine wpAnyH_take (i := 11) (v := .int .u64 (IntKind.u64.wrap (h.shot.index + h.log.length + 1))) rfl (by kernel_rfl) (by kernel_rfl) (by kernel_rfl) (fun _ _ _ h => h) (Or.inl ⟨by kernel_rfl, ?_⟩) (by assumption) ?_
      · intro w hSw
        obtain ⟨s1, s2, -⟩ := hSw
        clear hHeld
        go_simp
        try with_reducible rfl
      simp only [Act.put]
      refine wpAnyH_take (i := 12) (v := .bool true) rfl (by kernel_rfl) (by kernel_rfl) (by kernel_rfl) (fun _ _ _ h => h) (Or.inl ⟨by kernel_rfl, ?_⟩) (by assumption) ?_
      · intro w hSw
        obtain ⟨s1, s2, -⟩ := hSw
        clear hHeld
        go_simp
        try with_reducible rfl
      simp only [Act.put]
      refine wpAnyH_take (i := 13) (v := .bool true) rfl (by kernel_rfl) (by kernel_rfl) (by kernel_rfl) (fun _ _ _ h => h) (Or.inl ⟨by kernel_rfl, ?_⟩) (by assumption) ?_
      · intro w hSw
        obtain ⟨s1, s2, -⟩ := hSw
        clear hHeld
        go_simp
        try with_reducible rfl
      simp only [Act.put]
      refine wpAnyH_done (by kernel_rfl) ?_ _
      clear hHeld
      clear hrg0 hrg1 c0 c1 c2 c3 c4 c5 c6 c7 c8 c9 c10 c11 c12 c13 c14 c15 c16 c17 c18 c19 c20 d10
      have HO1 := Lib.hid (HO0.out.map HM1.out)
      have FIN := Lib.hid (dunn_mk (r := r) (dunn_no HX.out) (fun g => by cases g) HO1.out HWH.out HBW1.out HBB.out HC1.out)
      go_wp2_with (first | (with_reducible refine wpList_load_row rfl 43 (.tmp 2) rfl w.heap.size rfl 43 (hArr h (.slice k1 h.shot.nodes.length m1) (.slice k2 h.shot.led.held.length m2) (.slice k3 h.shot.led.last.length m3) (.slice k4 h.log.length m4)) (0, 0) _ HA1.out Try.underlying43 rfl (by kernel_rfl) ?_) | (with_reducible refine wpList_store_row rfl 43 (.tmp 4) (.tmp 86) rfl (w.heap.size + 2) (hArr h (.slice k1 h.shot.nodes.length m1) (.slice k2 h.shot.led.held.length m2) (.slice k3 h.shot.led.last.length m3) (.slice k4 h.log.length m4)) rfl rfl 43 _ HC1.out (by kernel_rfl) rfl (hArr_one _ _ _ _ _ _ _ _ _ _ _ _ _) ?_))
      exact bodyPost_ret (v := .tuple #[.agg (hArr h (.slice k1 h.shot.nodes.length m1) (.slice k2 h.shot.led.held.length m2) (.slice k3 h.shot.led.last.length m3) (.slice k4 h.log.length m4)), .bool false]) (results_ct rfl _ _ (w.heap.size + 2) 43 _ (0, 0) _ rfl (setRow_heap _ _ _ _ _ _ HC1.out) Try.underlying43 rfl (by kernel_rfl) rfl) rfl FIN.out
  · have HX : Hid (¬ followsP h r) := Lib.hid (fun g => hx (HU.out.1 g).1)
    have hx1 : r.index ≤ h.shot.index := by omega
    clear hwr hx
    go_enter Try.func64, Try.ntmps64
    go_wp2_with fail
    go_quiet (fail)
    all_goals
      generalize hwq : World.drewN W0 _ = wq at *
      have HAQ : Hid (wq.heap[w.heap.size]? = some (.cells (hArr h (.slice k1 h.shot.nodes.length m1) (.slice k2 h.shot.led.held.length m2) (.slice k3 h.shot.led.last.length m3) (.slice k4 h.log.length m4)) 43 (0, 0))) := Lib.hid (by rw [← hwq]; exact HA0.out)
      have HCQ : Hid (wq.heap[w.heap.size + 2]? = some (.cells zH 43 (0, 0))) := Lib.hid (by rw [← hwq]; exact HC0.out)
      have HBWQ : Hid (Below w.heap.size w wq) := Lib.hid (by rw [← hwq]; exact HBW0.out.trans ⟨rfl, rfl, rfl, Nat.le_refl _, fun _ _ => rfl⟩)
      have HOQ : Hid (OwnH wq B (.slice k1 h.shot.nodes.length m1) (.slice k2 h.shot.led.held.length m2) (.slice k3 h.shot.led.last.length m3) (.slice k4 h.log.length m4) h) := Lib.hid (by rw [← hwq]; exact HO0.out)
      have FIN := Lib.hid (dunn_mk (r := r) (dunn_no HX.out) (fun g => by cases g) HOQ.out HWH.out HBWQ.out HBB.out HCQ.out)
      go_wp2_with (first | (with_reducible refine wpList_load_row rfl 43 (.tmp 2) rfl w.heap.size rfl 43 (hArr h (.slice k1 h.shot.nodes.length m1) (.slice k2 h.shot.led.held.length m2) (.slice k3 h.shot.led.last.length m3) (.slice k4 h.log.length m4)) (0, 0) _ HAQ.out Try.underlying43 rfl (by kernel_rfl) ?_) | (with_reducible refine wpList_store_row rfl 43 (.tmp 4) (.tmp 86) rfl (w.heap.size + 2) (hArr h (.slice k1 h.shot.nodes.length m1) (.slice k2 h.shot.led.held.length m2) (.slice k3 h.shot.led.last.length m3) (.slice k4 h.log.length m4)) rfl rfl 43 _ HCQ.out (by kernel_rfl) rfl (hArr_one _ _ _ _ _ _ _ _ _ _ _ _ _) ?_))
      exact bodyPost_ret (v := .tuple #[.agg (hArr h (.slice k1 h.shot.nodes.length m1) (.slice k2 h.shot.led.held.length m2) (.slice k3 h.shot.led.last.length m3) (.slice k4 h.log.length m4)), .bool false]) (results_ct rfl _ _ (w.heap.size + 2) 43 _ (0, 0) _ rfl (setRow_heap _ _ _ _ _ _ HCQ.out) Try.underlying43 rfl (by kernel_rfl) rfl) rfl FIN.out
end Rc
end Go.Proofs.Ytlkgmjhejocobaa
