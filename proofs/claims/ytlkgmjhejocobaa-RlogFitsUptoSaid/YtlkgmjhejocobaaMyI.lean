/- What a record of kind 5 changes, by the document: done; and all kinds. No condition but the bounds of what may last. -/
import Derived.Test.YtlkgmjhejocobaaMyH
import Derived.Deep.QuietTactic
import Derived.BigQuiet
import Derived.Deep.MidRow
import Derived.Deep.AppendLies
import Derived.Deep.RegionHeld3
namespace Go.Proofs.Ytlkgmjhejocobaa
open Go.ChangeShapes Go.WideShapes Go.ChangeAt Go.RowKit Go.Deep
set_option linter.unusedVariables false
set_option maxRecDepth 100000
namespace Rc
open Hd Nv
theorem RecO.map2 {w w2 : World} {B D : Nat} {r : RRow} (h : RecO w B r) (f : ∀ e sz v n xs, e ≠ 43 → w.ownsRow B e sz v n xs → w2.ownsRow D e sz v n xs) : RecO w2 D r := ⟨⟨f _ _ _ _ _ (by decide) h.1.1, f _ _ _ _ _ (by decide) h.1.2.1, f _ _ _ _ _ (by decide) h.1.2.2.1, f _ _ _ _ _ (by decide) h.1.2.2.2⟩, h.2⟩
theorem piece_zero {a : Option Addr} {log : List Ent} {rows : List ERow} {w : World} {B m : Nat} (own : OwnR 9 entC 47 w B (.slice a log.length m) rows) (hl : rows.length = log.length) {L : List Ent} (hL : L = log.drop 0) : PieceOf (.slice a log.length m) log (.slice a log.length m) L := by
  rw [List.drop_zero] at hL
  rw [hL]
  have q := piece_take own hl (Nat.le_refl log.length)
  rw [List.take_of_length_le (Nat.le_refl _)] at q
  exact q
set_option maxHeartbeats 3000000 in
theorem dn_5 (B : Nat) (h : Har) (vn vh vl vg : Value) (rows : List ERow) (r : RecR) (vc rn rh rl : Value) (w : World) (hB : B ≤ w.heap.size) (o1 : OwnI w B vn h.shot.nodes) (o2 : OwnR 5 heldC 74 w B vh h.shot.led.held) (o3 : OwnR 6 lastC 78 w B vl h.shot.led.last) (o4 : OwnR 9 entC 47 w B vg rows) (o5 : EntsO w B vg.ownBlock rows) (hm : rows.map Prod.fst = h.log) (hw : HarW h) (hr : RecO w B (r, vc, rn, rh, rl)) (hla : h.shot.index + h.log.length ≤ 4611686018427387904) (hfl : h.log.length * 88 ≤ 140737488351232) (hk : r.kind = 5) : Calls Try.prog 64 #[.agg (hArr h vn vh vl vg), .agg (rArr r vc rn rh rl)] w (Dunn B h r w) := by
  obtain ⟨k1, m1, rfl, -⟩ := o1.sl hw.2
  obtain ⟨k2, m2, rfl, -⟩ := o2.sl heldC_len
  obtain ⟨k3, m3, rfl, -⟩ := o3.sl lastC_len
  obtain ⟨k4, m4, hug, -⟩ := o4.sl entC_len
  have hrl : rows.length = h.log.length := by rw [← hm, List.length_map]
  rw [hrl] at hug
  subst hug
  have hv1 : OwnK .i64 3 w B vc r.ent.cmd.nodes := hr.1.1
  have hv2 : OwnK .i64 3 w B rn r.shot.nodes := hr.1.2.1
  have hv3 : OwnR 5 heldC 74 w B rh r.shot.led.held := hr.1.2.2.1
  have hv4 : OwnR 6 lastC 78 w B rl r.shot.led.last := hr.1.2.2.2
  obtain ⟨a1, b1, rfl, -⟩ := hv1.sl hr.2.1
  obtain ⟨a2, b2, rfl, -⟩ := hv2.sl hr.2.2.1
  obtain ⟨a3, b3, rfl, -⟩ := hv3.sl heldC_len
  obtain ⟨a4, b4, rfl, -⟩ := hv4.sl lastC_len
  obtain ⟨W0, hW0, hb0, hz0, hA0, hB0, hC0⟩ := box3 w (hArr h (.slice k1 h.shot.nodes.length m1) (.slice k2 h.shot.led.held.length m2) (.slice k3 h.shot.led.last.length m3) (.slice k4 h.log.length m4)) (rArr r (.slice a1 r.ent.cmd.nodes.length b1) (.slice a2 r.shot.nodes.length b2) (.slice a3 r.shot.led.held.length b3) (.slice a4 r.shot.led.last.length b4)) zH
  have HBB := Lib.hid hB
  have HRL := Lib.hid hrl
  have HM := Lib.hid hm
  have HO0 : Hid (OwnH W0 B (.slice k1 h.shot.nodes.length m1) (.slice k2 h.shot.led.held.length m2) (.slice k3 h.shot.led.last.length m3) (.slice k4 h.log.length m4) h) := Lib.hid (OwnH.map (w := w) (B := B) (h := h) ⟨o1, o2, o3, by have q := LogP.whole o4 o5; rw [hm] at q; exact q⟩ fun e sz v n xs q => owns_below hb0 q)
  have HOG0 : Hid (OwnR 9 entC 47 W0 B (.slice k4 h.log.length m4) rows ∧ EntsO W0 B (Value.slice k4 h.log.length m4).ownBlock rows) := Lib.hid ⟨owns_below hb0 o4, fun r hr => ⟨owns_below hb0 (o5 r hr).1, (o5 r hr).2⟩⟩
  have HRO0 : Hid (RecO W0 B (r, .slice a1 r.ent.cmd.nodes.length b1, .slice a2 r.shot.nodes.length b2, .slice a3 r.shot.led.held.length b3, .slice a4 r.shot.led.last.length b4)) := Lib.hid (hr.map fun e sz v n xs _ q => owns_below hb0 q)
  have HWH := Lib.hid hw
  have HRW : Hid r.wf := Lib.hid hr.2.2.2
  have HA0 := Lib.hid hA0
  have HB0 := Lib.hid hB0
  have HC0 := Lib.hid hC0
  have HS0 : Hid (w.heap.size + 3 ≤ W0.heap.size) := Lib.hid (by omega)
  have HBW0 : Hid (Below w.heap.size w W0) := Lib.hid hb0
  have HLA := Lib.hid hla
  have HFL := Lib.hid hfl
  have hx0 := Ld.u64_nonneg hw.1.2.2.2.1
  have hw3 := bounds_u64 hr.2.2.2.2.2.2.2.1
  have hlen0 : (h.log.length : Int) ≤ 4611686018427387904 := by omega
  obtain ⟨d0, d1, d2, d3, d4, d5, d6, d7, d8, d9, d10⟩ := cells11 hA0
  obtain ⟨c0, c1, c2, c3, c4, c5, c6, c7, c8, c9, c10, c11, c12, c13, c14, c15, c16, c17, c18, c19, c20⟩ := cells21 hB0
  clear o1 o2 o3 o4 o5 hm hw hr hla hfl hb0 hA0 hB0 hC0 hz0 hrl hv1 hv2 hv3 hv4
  have HE : Hid (doH h r = { h with shot := r.shot, log := behindL h r.shot }) := Lib.hid (by unfold doH; rw [if_neg (by omega)]; rw [if_neg (by omega)]; rw [if_neg (by omega)]; rw [if_neg (by omega)])
  have HU : Hid (followsP h r ↔ h.shot.index ≤ r.shot.index) := Lib.hid (by unfold followsP; rw [if_neg (by omega)]; rw [if_neg (by omega)]; rw [if_neg (by omega)]; rw [if_neg (by omega)])
  have z1 : (r.kind == 1) = false := beq_eq_false_iff_ne.2 (by omega)
  have z2 : (r.kind == 2) = false := beq_eq_false_iff_ne.2 (by omega)
  have z3 : (r.kind == 3) = false := beq_eq_false_iff_ne.2 (by omega)
  have z4 : (r.kind == 4) = false := beq_eq_false_iff_ne.2 (by omega)
  have z5 : (r.kind == 5) = true := beq_iff_eq.2 hk
  clear hk
  have HBWS : Hid (w.heap.size ≤ W0.heap.size) := Lib.hid (by have := HS0.out; omega)
  have hw5 := bounds_u64 HRW.out.2.2.2.2.2.2.1
  by_cases hx : h.shot.index ≤ r.shot.index
  · have HX := Lib.hid (HU.out.2 hx)
    obtain ⟨k, hk⟩ : ∃ k : Nat, r.shot.index = h.shot.index + k := ⟨(r.shot.index - h.shot.index).toNat, by omega⟩
    have HK := Lib.hid hk
    have HRB : Hid (r.shot.index ≤ 18446744073709551615) := Lib.hid (by omega)
    have e1 : r.shot.index - h.shot.index = (k : Int) := by omega
    have hcap := own_cap HOG0.out.1
    unfold maxLen at hcap
    by_cases c : k ≤ h.log.length
    · have hd : decide (k ≤ h.log.length) = true := decide_eq_true c
      by_cases ct : termL h k = r.shot.term
      · have HBL : Hid (behindL h r.shot = h.log.drop k) := Lib.hid (behindL_yes hk c (by have q := ct; unfold termL at q; rw [if_pos c] at q; exact q))
        have ht : (termL h k == r.shot.term) = true := beq_iff_eq.2 ct
        clear ct hk
        by_cases c0 : k = 0
        · subst c0
          clear c
          go_enter Try.func64, Try.ntmps64
          go_wp2_with (first | (with_reducible refine wpList_load_row rfl 43 (.tmp 2) rfl w.heap.size rfl 43 (hArr h (.slice k1 h.shot.nodes.length m1) (.slice k2 h.shot.led.held.length m2) (.slice k3 h.shot.led.last.length m3) (.slice k4 h.log.length m4)) (0, 0) _ HA0.out Try.underlying43 rfl (by kernel_rfl) ?_) | fail)
          refine (term_any h _ _ _ _ (HO0.out.hard HWH.out) HK.out HLA.out HRB.out).mono ?_
          rintro e w1 ⟨he, hb1⟩
          rw [hd] at he
          generalize termL h _ = tl at *
          subst he
          have HA1 := Lib.hid ((hb1.block _ (lt_of_row HA0.out)).trans HA0.out)
          have HB1 := Lib.hid ((hb1.block _ (lt_of_row HB0.out)).trans HB0.out)
          have HC1 := Lib.hid ((hb1.block _ (lt_of_row HC0.out)).trans HC0.out)
          have HBW1 := Lib.hid (HBW0.out.trans (hb1.mono HBWS.out))
          have HM1 : Hid (∀ e sz v n xs, W0.ownsRow B e sz v n xs → w1.ownsRow B e sz v n xs) := Lib.hid (fun e sz v n xs q => owns_below hb1 q)
          have HRO1 := Lib.hid (HRO0.out.map fun e sz v n xs _ q => HM1.out e sz v n xs q)
          clear hb1 c0 c1 c2 c3 c4 c5 c6 c7 c8 c9 c10 c11 c12 c13 c14 c15 c16 c17 c18 c19 c20 d0 d1 d2 d3 d4 d5 d6 d7 d8 d9 d10
          have qc14 := (cell_of_row w1 _ 14 _ _ _ HB1.out).trans rfl
          have qc15 := (cell_of_row w1 _ 15 _ _ _ HB1.out).trans rfl
          have qd3 := (cell_of_row w1 _ 3 _ _ _ HA1.out).trans rfl
          have qd10 := (cell_of_row w1 _ 10 _ _ _ HA1.out).trans rfl
          have qf10 := La.frozen_of (o := 10) HA1.out
          have HPC : Hid (PieceOf (.slice k4 h.log.length m4) h.log (.slice k4 h.log.length m4) (behindL h r.shot)) := Lib.hid (piece_zero HOG0.out.1 HRL.out HBL.out)
          obtain ⟨W2, hW2⟩ : ∃ q, w1.setCell ⟨w.heap.size, 10, none⟩ (.slice k4 h.log.length m4) = q := ⟨_, rfl⟩
          have HA2 : Hid (W2.heap[w.heap.size]? = some (.cells (hArr { h with log := behindL h r.shot } (.slice k1 h.shot.nodes.length m1) (.slice k2 h.shot.led.held.length m2) (.slice k3 h.shot.led.last.length m3) (.slice k4 h.log.length m4)) 43 (0, 0))) := Lib.hid (by rw [← hW2, heap_setCell_same w1 w.heap.size 10 _ _ _ HA1.out]; rfl)
          have HB2 : Hid (W2.heap[w.heap.size + 1]? = some (.cells (rArr r (.slice a1 r.ent.cmd.nodes.length b1) (.slice a2 r.shot.nodes.length b2) (.slice a3 r.shot.led.held.length b3) (.slice a4 r.shot.led.last.length b4)) 49 (0, 0))) := Lib.hid (by rw [← hW2]; exact (heap_setCell_other _ _ _ _ (by simp)).trans HB1.out)
          have HC2 : Hid (W2.heap[w.heap.size + 2]? = some (.cells zH 43 (0, 0))) := Lib.hid (by rw [← hW2]; exact (heap_setCell_other _ _ _ _ (by simp)).trans HC1.out)
          have HBW2 : Hid (Below w.heap.size w W2) := Lib.hid (by rw [← hW2]; exact HBW1.out.setCell (Nat.le_refl _) _)
          have HL2 : Hid (LogP W2 B (.slice k4 h.log.length m4) (behindL h r.shot)) := Lib.hid (by rw [← hW2]; exact LogP.mapT ((HO0.out.map HM1.out).2.2.2.piece HPC.out) fun e sz v n xs hne q => own_cellT q HA1.out hne)
          have HR2 : Hid (RecO W2 B (r, .slice a1 r.ent.cmd.nodes.length b1, .slice a2 r.shot.nodes.length b2, .slice a3 r.shot.led.held.length b3, .slice a4 r.shot.led.last.length b4)) := Lib.hid (by rw [← hW2]; exact HRO1.out.map2 fun e sz v n xs hne q => own_cellT q HA1.out hne)
          have hrg2 := sho_range HB2.out
          have hth2 := there_row HA2.out 3 7 (by simp)
          obtain ⟨W3, hW3⟩ : ∃ q, W2.setCells w.heap.size 3 (sArr r.shot (.slice a2 r.shot.nodes.length b2) (.slice a3 r.shot.led.held.length b3) (.slice a4 r.shot.led.last.length b4)).toList = q := ⟨_, rfl⟩
          have HA3 : Hid (W3.heap[w.heap.size]? = some (.cells (hArr { h with shot := r.shot, log := behindL h r.shot } (.slice a2 r.shot.nodes.length b2) (.slice a3 r.shot.led.held.length b3) (.slice a4 r.shot.led.last.length b4) (.slice k4 h.log.length m4)) 43 (0, 0))) := Lib.hid (by rw [← hW3]; exact mid7s HA2.out r.shot _ _ _)
          have HC3 : Hid (W3.heap[w.heap.size + 2]? = some (.cells zH 43 (0, 0))) := Lib.hid (by rw [← hW3]; exact (setCells_other _ _ _ _ (by omega)).trans HC2.out)
          have HBW3 : Hid (Below w.heap.size w W3) := Lib.hid (by rw [← hW3]; exact HBW2.out.trans (setCells_below _ (Nat.le_refl _) _ _ _))
          have HO3 : Hid (OwnH W3 B (.slice a2 r.shot.nodes.length b2) (.slice a3 r.shot.led.held.length b3) (.slice a4 r.shot.led.last.length b4) (.slice k4 h.log.length m4) { h with shot := r.shot, log := behindL h r.shot }) := Lib.hid (by rw [← hW3]; exact ⟨own_cellsT HR2.out.1.2.1 HA2.out (by decide), own_cellsT HR2.out.1.2.2.1 HA2.out (by decide), own_cellsT HR2.out.1.2.2.2 HA2.out (by decide), LogP.mapT HL2.out fun e sz v n xs hne q => own_cellsT q HA2.out hne⟩)
          have HW3 : Hid (HarW { h with shot := r.shot, log := behindL h r.shot }) := Lib.hid ⟨⟨HWH.out.1.1, HWH.out.1.2.1, HWH.out.1.2.2.1, HRW.out.2.2.2.2.2.2⟩, HRO0.out.2.2.1⟩
          have FIN := Lib.hid (dunn_mk (dunn_yes HX.out) (fun _ => HE.out.symm) HO3.out HW3.out HBW3.out HBB.out HC3.out)
          go_wp2_with (first
            | (refine wpList_load_mid rfl 29 (.tmp 136) rfl (w.heap.size + 1) 14 rfl (sArr r.shot (.slice a2 r.shot.nodes.length b2) (.slice a3 r.shot.led.held.length b3) (.slice a4 r.shot.led.last.length b4)).toList _ hrg2 Try.underlying29 rfl (by kernel_rfl) ?_)
            | (refine wpList_store_mid rfl 29 (.tmp 138) (.tmp 137) rfl w.heap.size 3 (sArr r.shot (.slice a2 r.shot.nodes.length b2) (.slice a3 r.shot.led.held.length b3) (.slice a4 r.shot.led.last.length b4)) rfl rfl hth2 (by kernel_rfl) (Sh.sArr_one _ _ _ _ _ _ _ _ _ _) ?_; rw [hW3])
            | (with_reducible refine wpList_load_row rfl 43 (.tmp 2) rfl w.heap.size rfl 43 (hArr { h with shot := r.shot, log := behindL h r.shot } (.slice a2 r.shot.nodes.length b2) (.slice a3 r.shot.led.held.length b3) (.slice a4 r.shot.led.last.length b4) (.slice k4 h.log.length m4)) (0, 0) _ HA3.out Try.underlying43 rfl (by kernel_rfl) ?_)
            | (with_reducible refine wpList_store_row rfl 43 (.tmp 4) (.tmp 139) rfl (w.heap.size + 2) (hArr { h with shot := r.shot, log := behindL h r.shot } (.slice a2 r.shot.nodes.length b2) (.slice a3 r.shot.led.held.length b3) (.slice a4 r.shot.led.last.length b4) (.slice k4 h.log.length m4)) rfl rfl 43 _ HC3.out (by kernel_rfl) rfl (hArr_one _ _ _ _ _ _ _ _ _ _ _ _ _) ?_))
          exact bodyPost_ret (v := .tuple #[.agg (hArr { h with shot := r.shot, log := behindL h r.shot } (.slice a2 r.shot.nodes.length b2) (.slice a3 r.shot.led.held.length b3) (.slice a4 r.shot.led.last.length b4) (.slice k4 h.log.length m4)), .bool true]) (results_ct rfl _ _ (w.heap.size + 2) 43 _ (0, 0) _ rfl (setRow_heap _ _ _ _ _ _ HC3.out) Try.underlying43 rfl (by kernel_rfl) rfl) rfl FIN.out
        · obtain ⟨j, rfl⟩ : ∃ j, k = j + 1 := ⟨k - 1, by omega⟩
          have e4 : r.shot.index - h.shot.index = (j : Int) + 1 := by omega
          obtain ⟨g, rfl⟩ : ∃ g, k4 = some ⟨g, 0, none⟩ := by
            rcases HOG0.out.1.2 with ⟨e, h0⟩ | ⟨g, cap, cur, e, -⟩
            · simp only [Value.slice.injEq] at e
              omega
            · simp only [Value.slice.injEq] at e
              exact ⟨g, e.1⟩
          have hj2 : (j : Int) + 1 ≤ (h.log.length : Int) := by omega
          clear e1 c0
          by_cases hcm : m4 = j + 1
          · subst hcm
            have hlen : h.log.length = j + 1 := by omega
            have HBE : Hid (behindL h r.shot = []) := Lib.hid (by rw [HBL.out]; exact List.drop_eq_nil_of_le (by omega))
            have HLN := Lib.hid hlen
            clear hlen c
            go_enter Try.func64, Try.ntmps64
            go_wp2_with (first | (with_reducible refine wpList_load_row rfl 43 (.tmp 2) rfl w.heap.size rfl 43 (hArr h (.slice k1 h.shot.nodes.length m1) (.slice k2 h.shot.led.held.length m2) (.slice k3 h.shot.led.last.length m3) (.slice k4 h.log.length m4)) (0, 0) _ HA0.out Try.underlying43 rfl (by kernel_rfl) ?_) | fail)
            refine (term_any h _ _ _ _ (HO0.out.hard HWH.out) HK.out HLA.out HRB.out).mono ?_
            rintro e w1 ⟨he, hb1⟩
            rw [hd] at he
            generalize termL h _ = tl at *
            subst he
            have HA1 := Lib.hid ((hb1.block _ (lt_of_row HA0.out)).trans HA0.out)
            have HB1 := Lib.hid ((hb1.block _ (lt_of_row HB0.out)).trans HB0.out)
            have HC1 := Lib.hid ((hb1.block _ (lt_of_row HC0.out)).trans HC0.out)
            have HBW1 := Lib.hid (HBW0.out.trans (hb1.mono HBWS.out))
            have HM1 : Hid (∀ e sz v n xs, W0.ownsRow B e sz v n xs → w1.ownsRow B e sz v n xs) := Lib.hid (fun e sz v n xs q => owns_below hb1 q)
            have HRO1 := Lib.hid (HRO0.out.map fun e sz v n xs _ q => HM1.out e sz v n xs q)
            clear hb1 c0 c1 c2 c3 c4 c5 c6 c7 c8 c9 c10 c11 c12 c13 c14 c15 c16 c17 c18 c19 c20 d0 d1 d2 d3 d4 d5 d6 d7 d8 d9 d10
            have qc14 := (cell_of_row w1 _ 14 _ _ _ HB1.out).trans rfl
            have qc15 := (cell_of_row w1 _ 15 _ _ _ HB1.out).trans rfl
            have qd3 := (cell_of_row w1 _ 3 _ _ _ HA1.out).trans rfl
            have qd10 := (cell_of_row w1 _ 10 _ _ _ HA1.out).trans rfl
            have qf10 := La.frozen_of (o := 10) HA1.out
            have HPC : Hid (PieceOf (.slice (some ⟨g, 0, none⟩) h.log.length (j + 1)) h.log (.slice (some ⟨g, 0, none⟩) 0 0) (behindL h r.shot)) := Lib.hid (.inr (.inr ⟨⟨g, 0, none⟩, 0, rfl, Nat.zero_le _, HBE.out⟩))
            obtain ⟨W2, hW2⟩ : ∃ q, w1.setCell ⟨w.heap.size, 10, none⟩ (.slice (some ⟨g, 0, none⟩) 0 0) = q := ⟨_, rfl⟩
            have HA2 : Hid (W2.heap[w.heap.size]? = some (.cells (hArr { h with log := behindL h r.shot } (.slice k1 h.shot.nodes.length m1) (.slice k2 h.shot.led.held.length m2) (.slice k3 h.shot.led.last.length m3) (.slice (some ⟨g, 0, none⟩) 0 0)) 43 (0, 0))) := Lib.hid (by rw [← hW2, heap_setCell_same w1 w.heap.size 10 _ _ _ HA1.out]; rfl)
            have HB2 : Hid (W2.heap[w.heap.size + 1]? = some (.cells (rArr r (.slice a1 r.ent.cmd.nodes.length b1) (.slice a2 r.shot.nodes.length b2) (.slice a3 r.shot.led.held.length b3) (.slice a4 r.shot.led.last.length b4)) 49 (0, 0))) := Lib.hid (by rw [← hW2]; exact (heap_setCell_other _ _ _ _ (by simp)).trans HB1.out)
            have HC2 : Hid (W2.heap[w.heap.size + 2]? = some (.cells zH 43 (0, 0))) := Lib.hid (by rw [← hW2]; exact (heap_setCell_other _ _ _ _ (by simp)).trans HC1.out)
            have HBW2 : Hid (Below w.heap.size w W2) := Lib.hid (by rw [← hW2]; exact HBW1.out.setCell (Nat.le_refl _) _)
            have HL2 : Hid (LogP W2 B (.slice (some ⟨g, 0, none⟩) 0 0) (behindL h r.shot)) := Lib.hid (by rw [← hW2]; exact LogP.mapT ((HO0.out.map HM1.out).2.2.2.piece HPC.out) fun e sz v n xs hne q => own_cellT q HA1.out hne)
            have HR2 : Hid (RecO W2 B (r, .slice a1 r.ent.cmd.nodes.length b1, .slice a2 r.shot.nodes.length b2, .slice a3 r.shot.led.held.length b3, .slice a4 r.shot.led.last.length b4)) := Lib.hid (by rw [← hW2]; exact HRO1.out.map2 fun e sz v n xs hne q => own_cellT q HA1.out hne)
            have hrg2 := sho_range HB2.out
            have hth2 := there_row HA2.out 3 7 (by simp)
            obtain ⟨W3, hW3⟩ : ∃ q, W2.setCells w.heap.size 3 (sArr r.shot (.slice a2 r.shot.nodes.length b2) (.slice a3 r.shot.led.held.length b3) (.slice a4 r.shot.led.last.length b4)).toList = q := ⟨_, rfl⟩
            have HA3 : Hid (W3.heap[w.heap.size]? = some (.cells (hArr { h with shot := r.shot, log := behindL h r.shot } (.slice a2 r.shot.nodes.length b2) (.slice a3 r.shot.led.held.length b3) (.slice a4 r.shot.led.last.length b4) (.slice (some ⟨g, 0, none⟩) 0 0)) 43 (0, 0))) := Lib.hid (by rw [← hW3]; exact mid7s HA2.out r.shot _ _ _)
            have HC3 : Hid (W3.heap[w.heap.size + 2]? = some (.cells zH 43 (0, 0))) := Lib.hid (by rw [← hW3]; exact (setCells_other _ _ _ _ (by omega)).trans HC2.out)
            have HBW3 : Hid (Below w.heap.size w W3) := Lib.hid (by rw [← hW3]; exact HBW2.out.trans (setCells_below _ (Nat.le_refl _) _ _ _))
            have HO3 : Hid (OwnH W3 B (.slice a2 r.shot.nodes.length b2) (.slice a3 r.shot.led.held.length b3) (.slice a4 r.shot.led.last.length b4) (.slice (some ⟨g, 0, none⟩) 0 0) { h with shot := r.shot, log := behindL h r.shot }) := Lib.hid (by rw [← hW3]; exact ⟨own_cellsT HR2.out.1.2.1 HA2.out (by decide), own_cellsT HR2.out.1.2.2.1 HA2.out (by decide), own_cellsT HR2.out.1.2.2.2 HA2.out (by decide), LogP.mapT HL2.out fun e sz v n xs hne q => own_cellsT q HA2.out hne⟩)
            have HW3 : Hid (HarW { h with shot := r.shot, log := behindL h r.shot }) := Lib.hid ⟨⟨HWH.out.1.1, HWH.out.1.2.1, HWH.out.1.2.2.1, HRW.out.2.2.2.2.2.2⟩, HRO0.out.2.2.1⟩
            have FIN := Lib.hid (dunn_mk (dunn_yes HX.out) (fun _ => HE.out.symm) HO3.out HW3.out HBW3.out HBB.out HC3.out)
            go_wp2_with (first
              | (refine wpList_load_mid rfl 29 (.tmp 136) rfl (w.heap.size + 1) 14 rfl (sArr r.shot (.slice a2 r.shot.nodes.length b2) (.slice a3 r.shot.led.held.length b3) (.slice a4 r.shot.led.last.length b4)).toList _ hrg2 Try.underlying29 rfl (by kernel_rfl) ?_)
              | (refine wpList_store_mid rfl 29 (.tmp 138) (.tmp 137) rfl w.heap.size 3 (sArr r.shot (.slice a2 r.shot.nodes.length b2) (.slice a3 r.shot.led.held.length b3) (.slice a4 r.shot.led.last.length b4)) rfl rfl hth2 (by kernel_rfl) (Sh.sArr_one _ _ _ _ _ _ _ _ _ _) ?_; rw [hW3])
              | (with_reducible refine wpList_load_row rfl 43 (.tmp 2) rfl w.heap.size rfl 43 (hArr { h with shot := r.shot, log := behindL h r.shot } (.slice a2 r.shot.nodes.length b2) (.slice a3 r.shot.led.held.length b3) (.slice a4 r.shot.led.last.length b4) (.slice (some ⟨g, 0, none⟩) 0 0)) (0, 0) _ HA3.out Try.underlying43 rfl (by kernel_rfl) ?_)
              | (with_reducible refine wpList_store_row rfl 43 (.tmp 4) (.tmp 139) rfl (w.heap.size + 2) (hArr { h with shot := r.shot, log := behindL h r.shot } (.slice a2 r.shot.nodes.length b2) (.slice a3 r.shot.led.held.length b3) (.slice a4 r.shot.led.last.length b4) (.slice (some ⟨g, 0, none⟩) 0 0)) rfl rfl 43 _ HC3.out (by kernel_rfl) rfl (hArr_one _ _ _ _ _ _ _ _ _ _ _ _ _) ?_))
            exact bodyPost_ret (v := .tuple #[.agg (hArr { h with shot := r.shot, log := behindL h r.shot } (.slice a2 r.shot.nodes.length b2) (.slice a3 r.shot.led.held.length b3) (.slice a4 r.shot.led.last.length b4) (.slice (some ⟨g, 0, none⟩) 0 0)), .bool true]) (results_ct rfl _ _ (w.heap.size + 2) 43 _ (0, 0) _ rfl (setRow_heap _ _ _ _ _ _ HC3.out) Try.underlying43 rfl (by kernel_rfl) rfl) rfl FIN.out
          · have hcap2 : (j : Int) + 1 < (m4 : Int) := by omega
            clear c
            go_enter Try.func64, Try.ntmps64
            go_wp2_with (first | (with_reducible refine wpList_load_row rfl 43 (.tmp 2) rfl w.heap.size rfl 43 (hArr h (.slice k1 h.shot.nodes.length m1) (.slice k2 h.shot.led.held.length m2) (.slice k3 h.shot.led.last.length m3) (.slice k4 h.log.length m4)) (0, 0) _ HA0.out Try.underlying43 rfl (by kernel_rfl) ?_) | fail)
            refine (term_any h _ _ _ _ (HO0.out.hard HWH.out) HK.out HLA.out HRB.out).mono ?_
            rintro e w1 ⟨he, hb1⟩
            rw [hd] at he
            generalize termL h _ = tl at *
            subst he
            have HA1 := Lib.hid ((hb1.block _ (lt_of_row HA0.out)).trans HA0.out)
            have HB1 := Lib.hid ((hb1.block _ (lt_of_row HB0.out)).trans HB0.out)
            have HC1 := Lib.hid ((hb1.block _ (lt_of_row HC0.out)).trans HC0.out)
            have HBW1 := Lib.hid (HBW0.out.trans (hb1.mono HBWS.out))
            have HM1 : Hid (∀ e sz v n xs, W0.ownsRow B e sz v n xs → w1.ownsRow B e sz v n xs) := Lib.hid (fun e sz v n xs q => owns_below hb1 q)
            have HRO1 := Lib.hid (HRO0.out.map fun e sz v n xs _ q => HM1.out e sz v n xs q)
            clear hb1 c0 c1 c2 c3 c4 c5 c6 c7 c8 c9 c10 c11 c12 c13 c14 c15 c16 c17 c18 c19 c20 d0 d1 d2 d3 d4 d5 d6 d7 d8 d9 d10
            have qc14 := (cell_of_row w1 _ 14 _ _ _ HB1.out).trans rfl
            have qc15 := (cell_of_row w1 _ 15 _ _ _ HB1.out).trans rfl
            have qd3 := (cell_of_row w1 _ 3 _ _ _ HA1.out).trans rfl
            have qd10 := (cell_of_row w1 _ 10 _ _ _ HA1.out).trans rfl
            have qf10 := La.frozen_of (o := 10) HA1.out
            have HPC : Hid (PieceOf (.slice (some ⟨g, 0, none⟩) h.log.length m4) h.log (.slice (some ⟨g, (j + 1) * 9, none⟩) (h.log.length - (j + 1)) (m4 - (j + 1))) (behindL h r.shot)) := Lib.hid (.inr (.inl ⟨g, 0, m4, j + 1, rfl, by rw [HBL.out, List.length_drop, Nat.zero_add], by rw [HBL.out, List.length_drop]; omega, by rw [HBL.out]; exact List.take_of_length_le (Nat.le_refl _)⟩))
            obtain ⟨W2, hW2⟩ : ∃ q, w1.setCell ⟨w.heap.size, 10, none⟩ (.slice (some ⟨g, (j + 1) * 9, none⟩) (h.log.length - (j + 1)) (m4 - (j + 1))) = q := ⟨_, rfl⟩
            have HA2 : Hid (W2.heap[w.heap.size]? = some (.cells (hArr { h with log := behindL h r.shot } (.slice k1 h.shot.nodes.length m1) (.slice k2 h.shot.led.held.length m2) (.slice k3 h.shot.led.last.length m3) (.slice (some ⟨g, (j + 1) * 9, none⟩) (h.log.length - (j + 1)) (m4 - (j + 1)))) 43 (0, 0))) := Lib.hid (by rw [← hW2, heap_setCell_same w1 w.heap.size 10 _ _ _ HA1.out]; rfl)
            have HB2 : Hid (W2.heap[w.heap.size + 1]? = some (.cells (rArr r (.slice a1 r.ent.cmd.nodes.length b1) (.slice a2 r.shot.nodes.length b2) (.slice a3 r.shot.led.held.length b3) (.slice a4 r.shot.led.last.length b4)) 49 (0, 0))) := Lib.hid (by rw [← hW2]; exact (heap_setCell_other _ _ _ _ (by simp)).trans HB1.out)
            have HC2 : Hid (W2.heap[w.heap.size + 2]? = some (.cells zH 43 (0, 0))) := Lib.hid (by rw [← hW2]; exact (heap_setCell_other _ _ _ _ (by simp)).trans HC1.out)
            have HBW2 : Hid (Below w.heap.size w W2) := Lib.hid (by rw [← hW2]; exact HBW1.out.setCell (Nat.le_refl _) _)
            have HL2 : Hid (LogP W2 B (.slice (some ⟨g, (j + 1) * 9, none⟩) (h.log.length - (j + 1)) (m4 - (j + 1))) (behindL h r.shot)) := Lib.hid (by rw [← hW2]; exact LogP.mapT ((HO0.out.map HM1.out).2.2.2.piece HPC.out) fun e sz v n xs hne q => own_cellT q HA1.out hne)
            have HR2 : Hid (RecO W2 B (r, .slice a1 r.ent.cmd.nodes.length b1, .slice a2 r.shot.nodes.length b2, .slice a3 r.shot.led.held.length b3, .slice a4 r.shot.led.last.length b4)) := Lib.hid (by rw [← hW2]; exact HRO1.out.map2 fun e sz v n xs hne q => own_cellT q HA1.out hne)
            have hrg2 := sho_range HB2.out
            have hth2 := there_row HA2.out 3 7 (by simp)
            obtain ⟨W3, hW3⟩ : ∃ q, W2.setCells w.heap.size 3 (sArr r.shot (.slice a2 r.shot.nodes.length b2) (.slice a3 r.shot.led.held.length b3) (.slice a4 r.shot.led.last.length b4)).toList = q := ⟨_, rfl⟩
            have HA3 : Hid (W3.heap[w.heap.size]? = some (.cells (hArr { h with shot := r.shot, log := behindL h r.shot } (.slice a2 r.shot.nodes.length b2) (.slice a3 r.shot.led.held.length b3) (.slice a4 r.shot.led.last.length b4) (.slice (some ⟨g, (j + 1) * 9, none⟩) (h.log.length - (j + 1)) (m4 - (j + 1)))) 43 (0, 0))) := Lib.hid (by rw [← hW3]; exact mid7s HA2.out r.shot _ _ _)
            have HC3 : Hid (W3.heap[w.heap.size + 2]? = some (.cells zH 43 (0, 0))) := Lib.hid (by rw [← hW3]; exact (setCells_other _ _ _ _ (by omega)).trans HC2.out)
            have HBW3 : Hid (Below w.heap.size w W3) := Lib.hid (by rw [← hW3]; exact HBW2.out.trans (setCells_below _ (Nat.le_refl _) _ _ _))
            have HO3 : Hid (OwnH W3 B (.slice a2 r.shot.nodes.length b2) (.slice a3 r.shot.led.held.length b3) (.slice a4 r.shot.led.last.length b4) (.slice (some ⟨g, (j + 1) * 9, none⟩) (h.log.length - (j + 1)) (m4 - (j + 1))) { h with shot := r.shot, log := behindL h r.shot }) := Lib.hid (by rw [← hW3]; exact ⟨own_cellsT HR2.out.1.2.1 HA2.out (by decide), own_cellsT HR2.out.1.2.2.1 HA2.out (by decide), own_cellsT HR2.out.1.2.2.2 HA2.out (by decide), LogP.mapT HL2.out fun e sz v n xs hne q => own_cellsT q HA2.out hne⟩)
            have HW3 : Hid (HarW { h with shot := r.shot, log := behindL h r.shot }) := Lib.hid ⟨⟨HWH.out.1.1, HWH.out.1.2.1, HWH.out.1.2.2.1, HRW.out.2.2.2.2.2.2⟩, HRO0.out.2.2.1⟩
            have FIN := Lib.hid (dunn_mk (dunn_yes HX.out) (fun _ => HE.out.symm) HO3.out HW3.out HBW3.out HBB.out HC3.out)
            go_wp2_with (first
              | (refine wpList_load_mid rfl 29 (.tmp 136) rfl (w.heap.size + 1) 14 rfl (sArr r.shot (.slice a2 r.shot.nodes.length b2) (.slice a3 r.shot.led.held.length b3) (.slice a4 r.shot.led.last.length b4)).toList _ hrg2 Try.underlying29 rfl (by kernel_rfl) ?_)
              | (refine wpList_store_mid rfl 29 (.tmp 138) (.tmp 137) rfl w.heap.size 3 (sArr r.shot (.slice a2 r.shot.nodes.length b2) (.slice a3 r.shot.led.held.length b3) (.slice a4 r.shot.led.last.length b4)) rfl rfl hth2 (by kernel_rfl) (Sh.sArr_one _ _ _ _ _ _ _ _ _ _) ?_; rw [hW3])
              | (with_reducible refine wpList_load_row rfl 43 (.tmp 2) rfl w.heap.size rfl 43 (hArr { h with shot := r.shot, log := behindL h r.shot } (.slice a2 r.shot.nodes.length b2) (.slice a3 r.shot.led.held.length b3) (.slice a4 r.shot.led.last.length b4) (.slice (some ⟨g, (j + 1) * 9, none⟩) (h.log.length - (j + 1)) (m4 - (j + 1)))) (0, 0) _ HA3.out Try.underlying43 rfl (by kernel_rfl) ?_)
              | (with_reducible refine wpList_store_row rfl 43 (.tmp 4) (.tmp 139) rfl (w.heap.size + 2) (hArr { h with shot := r.shot, log := behindL h r.shot } (.slice a2 r.shot.nodes.length b2) (.slice a3 r.shot.led.held.length b3) (.slice a4 r.shot.led.last.length b4) (.slice (some ⟨g, (j + 1) * 9, none⟩) (h.log.length - (j + 1)) (m4 - (j + 1)))) rfl rfl 43 _ HC3.out (by kernel_rfl) rfl (hArr_one _ _ _ _ _ _ _ _ _ _ _ _ _) ?_))
            exact bodyPost_ret (v := .tuple #[.agg (hArr { h with shot := r.shot, log := behindL h r.shot } (.slice a2 r.shot.nodes.length b2) (.slice a3 r.shot.led.held.length b3) (.slice a4 r.shot.led.last.length b4) (.slice (some ⟨g, (j + 1) * 9, none⟩) (h.log.length - (j + 1)) (m4 - (j + 1)))), .bool true]) (results_ct rfl _ _ (w.heap.size + 2) 43 _ (0, 0) _ rfl (setRow_heap _ _ _ _ _ _ HC3.out) Try.underlying43 rfl (by kernel_rfl) rfl) rfl FIN.out
      · have HBE : Hid (behindL h r.shot = []) := Lib.hid (behindL_no hk c (fun q => ct (by unfold termL; rw [if_pos c]; exact q)))
        have ht : (termL h k == r.shot.term) = false := beq_eq_false_iff_ne.2 ct
        clear ct hk c
        go_enter Try.func64, Try.ntmps64
        go_wp2_with (first | (with_reducible refine wpList_load_row rfl 43 (.tmp 2) rfl w.heap.size rfl 43 (hArr h (.slice k1 h.shot.nodes.length m1) (.slice k2 h.shot.led.held.length m2) (.slice k3 h.shot.led.last.length m3) (.slice k4 h.log.length m4)) (0, 0) _ HA0.out Try.underlying43 rfl (by kernel_rfl) ?_) | fail)
        refine (term_any h _ _ _ _ (HO0.out.hard HWH.out) HK.out HLA.out HRB.out).mono ?_
        rintro e w1 ⟨he, hb1⟩
        rw [hd] at he
        generalize termL h _ = tl at *
        subst he
        have HA1 := Lib.hid ((hb1.block _ (lt_of_row HA0.out)).trans HA0.out)
        have HB1 := Lib.hid ((hb1.block _ (lt_of_row HB0.out)).trans HB0.out)
        have HC1 := Lib.hid ((hb1.block _ (lt_of_row HC0.out)).trans HC0.out)
        have HBW1 := Lib.hid (HBW0.out.trans (hb1.mono HBWS.out))
        have HM1 : Hid (∀ e sz v n xs, W0.ownsRow B e sz v n xs → w1.ownsRow B e sz v n xs) := Lib.hid (fun e sz v n xs q => owns_below hb1 q)
        have HRO1 := Lib.hid (HRO0.out.map fun e sz v n xs _ q => HM1.out e sz v n xs q)
        clear hb1 c0 c1 c2 c3 c4 c5 c6 c7 c8 c9 c10 c11 c12 c13 c14 c15 c16 c17 c18 c19 c20 d0 d1 d2 d3 d4 d5 d6 d7 d8 d9 d10
        have qc14 := (cell_of_row w1 _ 14 _ _ _ HB1.out).trans rfl
        have qc15 := (cell_of_row w1 _ 15 _ _ _ HB1.out).trans rfl
        have qd3 := (cell_of_row w1 _ 3 _ _ _ HA1.out).trans rfl
        have qd10 := (cell_of_row w1 _ 10 _ _ _ HA1.out).trans rfl
        have qf10 := La.frozen_of (o := 10) HA1.out
        have HPC : Hid (PieceOf (.slice k4 h.log.length m4) h.log (.slice none 0 0) (behindL h r.shot)) := Lib.hid (.inl ⟨rfl, HBE.out⟩)
        obtain ⟨W2, hW2⟩ : ∃ q, w1.setCell ⟨w.heap.size, 10, none⟩ (.slice none 0 0) = q := ⟨_, rfl⟩
        have HA2 : Hid (W2.heap[w.heap.size]? = some (.cells (hArr { h with log := behindL h r.shot } (.slice k1 h.shot.nodes.length m1) (.slice k2 h.shot.led.held.length m2) (.slice k3 h.shot.led.last.length m3) (.slice none 0 0)) 43 (0, 0))) := Lib.hid (by rw [← hW2, heap_setCell_same w1 w.heap.size 10 _ _ _ HA1.out]; rfl)
        have HB2 : Hid (W2.heap[w.heap.size + 1]? = some (.cells (rArr r (.slice a1 r.ent.cmd.nodes.length b1) (.slice a2 r.shot.nodes.length b2) (.slice a3 r.shot.led.held.length b3) (.slice a4 r.shot.led.last.length b4)) 49 (0, 0))) := Lib.hid (by rw [← hW2]; exact (heap_setCell_other _ _ _ _ (by simp)).trans HB1.out)
        have HC2 : Hid (W2.heap[w.heap.size + 2]? = some (.cells zH 43 (0, 0))) := Lib.hid (by rw [← hW2]; exact (heap_setCell_other _ _ _ _ (by simp)).trans HC1.out)
        have HBW2 : Hid (Below w.heap.size w W2) := Lib.hid (by rw [← hW2]; exact HBW1.out.setCell (Nat.le_refl _) _)
        have HL2 : Hid (LogP W2 B (.slice none 0 0) (behindL h r.shot)) := Lib.hid (by rw [← hW2]; exact LogP.mapT ((HO0.out.map HM1.out).2.2.2.piece HPC.out) fun e sz v n xs hne q => own_cellT q HA1.out hne)
        have HR2 : Hid (RecO W2 B (r, .slice a1 r.ent.cmd.nodes.length b1, .slice a2 r.shot.nodes.length b2, .slice a3 r.shot.led.held.length b3, .slice a4 r.shot.led.last.length b4)) := Lib.hid (by rw [← hW2]; exact HRO1.out.map2 fun e sz v n xs hne q => own_cellT q HA1.out hne)
        have hrg2 := sho_range HB2.out
        have hth2 := there_row HA2.out 3 7 (by simp)
        obtain ⟨W3, hW3⟩ : ∃ q, W2.setCells w.heap.size 3 (sArr r.shot (.slice a2 r.shot.nodes.length b2) (.slice a3 r.shot.led.held.length b3) (.slice a4 r.shot.led.last.length b4)).toList = q := ⟨_, rfl⟩
        have HA3 : Hid (W3.heap[w.heap.size]? = some (.cells (hArr { h with shot := r.shot, log := behindL h r.shot } (.slice a2 r.shot.nodes.length b2) (.slice a3 r.shot.led.held.length b3) (.slice a4 r.shot.led.last.length b4) (.slice none 0 0)) 43 (0, 0))) := Lib.hid (by rw [← hW3]; exact mid7s HA2.out r.shot _ _ _)
        have HC3 : Hid (W3.heap[w.heap.size + 2]? = some (.cells zH 43 (0, 0))) := Lib.hid (by rw [← hW3]; exact (setCells_other _ _ _ _ (by omega)).trans HC2.out)
        have HBW3 : Hid (Below w.heap.size w W3) := Lib.hid (by rw [← hW3]; exact HBW2.out.trans (setCells_below _ (Nat.le_refl _) _ _ _))
        have HO3 : Hid (OwnH W3 B (.slice a2 r.shot.nodes.length b2) (.slice a3 r.shot.led.held.length b3) (.slice a4 r.shot.led.last.length b4) (.slice none 0 0) { h with shot := r.shot, log := behindL h r.shot }) := Lib.hid (by rw [← hW3]; exact ⟨own_cellsT HR2.out.1.2.1 HA2.out (by decide), own_cellsT HR2.out.1.2.2.1 HA2.out (by decide), own_cellsT HR2.out.1.2.2.2 HA2.out (by decide), LogP.mapT HL2.out fun e sz v n xs hne q => own_cellsT q HA2.out hne⟩)
        have HW3 : Hid (HarW { h with shot := r.shot, log := behindL h r.shot }) := Lib.hid ⟨⟨HWH.out.1.1, HWH.out.1.2.1, HWH.out.1.2.2.1, HRW.out.2.2.2.2.2.2⟩, HRO0.out.2.2.1⟩
        have FIN := Lib.hid (dunn_mk (dunn_yes HX.out) (fun _ => HE.out.symm) HO3.out HW3.out HBW3.out HBB.out HC3.out)
        go_wp2_with (first
          | (refine wpList_load_mid rfl 29 (.tmp 136) rfl (w.heap.size + 1) 14 rfl (sArr r.shot (.slice a2 r.shot.nodes.length b2) (.slice a3 r.shot.led.held.length b3) (.slice a4 r.shot.led.last.length b4)).toList _ hrg2 Try.underlying29 rfl (by kernel_rfl) ?_)
          | (refine wpList_store_mid rfl 29 (.tmp 138) (.tmp 137) rfl w.heap.size 3 (sArr r.shot (.slice a2 r.shot.nodes.length b2) (.slice a3 r.shot.led.held.length b3) (.slice a4 r.shot.led.last.length b4)) rfl rfl hth2 (by kernel_rfl) (Sh.sArr_one _ _ _ _ _ _ _ _ _ _) ?_; rw [hW3])
          | (with_reducible refine wpList_load_row rfl 43 (.tmp 2) rfl w.heap.size rfl 43 (hArr { h with shot := r.shot, log := behindL h r.shot } (.slice a2 r.shot.nodes.length b2) (.slice a3 r.shot.led.held.length b3) (.slice a4 r.shot.led.last.length b4) (.slice none 0 0)) (0, 0) _ HA3.out Try.underlying43 rfl (by kernel_rfl) ?_)
          | (with_reducible refine wpList_store_row rfl 43 (.tmp 4) (.tmp 139) rfl (w.heap.size + 2) (hArr { h with shot := r.shot, log := behindL h r.shot } (.slice a2 r.shot.nodes.length b2) (.slice a3 r.shot.led.held.length b3) (.slice a4 r.shot.led.last.length b4) (.slice none 0 0)) rfl rfl 43 _ HC3.out (by kernel_rfl) rfl (hArr_one _ _ _ _ _ _ _ _ _ _ _ _ _) ?_))
        exact bodyPost_ret (v := .tuple #[.agg (hArr { h with shot := r.shot, log := behindL h r.shot } (.slice a2 r.shot.nodes.length b2) (.slice a3 r.shot.led.held.length b3) (.slice a4 r.shot.led.last.length b4) (.slice none 0 0)), .bool true]) (results_ct rfl _ _ (w.heap.size + 2) 43 _ (0, 0) _ rfl (setRow_heap _ _ _ _ _ _ HC3.out) Try.underlying43 rfl (by kernel_rfl) rfl) rfl FIN.out
    · have hd : decide (k ≤ h.log.length) = false := decide_eq_false c
      have HBE : Hid (behindL h r.shot = []) := Lib.hid (behindL_far hk (by omega))
      clear hk c
      go_enter Try.func64, Try.ntmps64
      go_wp2_with (first | (with_reducible refine wpList_load_row rfl 43 (.tmp 2) rfl w.heap.size rfl 43 (hArr h (.slice k1 h.shot.nodes.length m1) (.slice k2 h.shot.led.held.length m2) (.slice k3 h.shot.led.last.length m3) (.slice k4 h.log.length m4)) (0, 0) _ HA0.out Try.underlying43 rfl (by kernel_rfl) ?_) | fail)
      refine (term_any h _ _ _ _ (HO0.out.hard HWH.out) HK.out HLA.out HRB.out).mono ?_
      rintro e w1 ⟨he, hb1⟩
      rw [hd] at he
      generalize termL h _ = tl at *
      subst he
      have HA1 := Lib.hid ((hb1.block _ (lt_of_row HA0.out)).trans HA0.out)
      have HB1 := Lib.hid ((hb1.block _ (lt_of_row HB0.out)).trans HB0.out)
      have HC1 := Lib.hid ((hb1.block _ (lt_of_row HC0.out)).trans HC0.out)
      have HBW1 := Lib.hid (HBW0.out.trans (hb1.mono HBWS.out))
      have HM1 : Hid (∀ e sz v n xs, W0.ownsRow B e sz v n xs → w1.ownsRow B e sz v n xs) := Lib.hid (fun e sz v n xs q => owns_below hb1 q)
      have HRO1 := Lib.hid (HRO0.out.map fun e sz v n xs _ q => HM1.out e sz v n xs q)
      clear hb1 c0 c1 c2 c3 c4 c5 c6 c7 c8 c9 c10 c11 c12 c13 c14 c15 c16 c17 c18 c19 c20 d0 d1 d2 d3 d4 d5 d6 d7 d8 d9 d10
      have qc14 := (cell_of_row w1 _ 14 _ _ _ HB1.out).trans rfl
      have qc15 := (cell_of_row w1 _ 15 _ _ _ HB1.out).trans rfl
      have qd3 := (cell_of_row w1 _ 3 _ _ _ HA1.out).trans rfl
      have qd10 := (cell_of_row w1 _ 10 _ _ _ HA1.out).trans rfl
      have qf10 := La.frozen_of (o := 10) HA1.out
      have HPC : Hid (PieceOf (.slice k4 h.log.length m4) h.log (.slice none 0 0) (behindL h r.shot)) := Lib.hid (.inl ⟨rfl, HBE.out⟩)
      obtain ⟨W2, hW2⟩ : ∃ q, w1.setCell ⟨w.heap.size, 10, none⟩ (.slice none 0 0) = q := ⟨_, rfl⟩
      have HA2 : Hid (W2.heap[w.heap.size]? = some (.cells (hArr { h with log := behindL h r.shot } (.slice k1 h.shot.nodes.length m1) (.slice k2 h.shot.led.held.length m2) (.slice k3 h.shot.led.last.length m3) (.slice none 0 0)) 43 (0, 0))) := Lib.hid (by rw [← hW2, heap_setCell_same w1 w.heap.size 10 _ _ _ HA1.out]; rfl)
      have HB2 : Hid (W2.heap[w.heap.size + 1]? = some (.cells (rArr r (.slice a1 r.ent.cmd.nodes.length b1) (.slice a2 r.shot.nodes.length b2) (.slice a3 r.shot.led.held.length b3) (.slice a4 r.shot.led.last.length b4)) 49 (0, 0))) := Lib.hid (by rw [← hW2]; exact (heap_setCell_other _ _ _ _ (by simp)).trans HB1.out)
      have HC2 : Hid (W2.heap[w.heap.size + 2]? = some (.cells zH 43 (0, 0))) := Lib.hid (by rw [← hW2]; exact (heap_setCell_other _ _ _ _ (by simp)).trans HC1.out)
      have HBW2 : Hid (Below w.heap.size w W2) := Lib.hid (by rw [← hW2]; exact HBW1.out.setCell (Nat.le_refl _) _)
      have HL2 : Hid (LogP W2 B (.slice none 0 0) (behindL h r.shot)) := Lib.hid (by rw [← hW2]; exact LogP.mapT ((HO0.out.map HM1.out).2.2.2.piece HPC.out) fun e sz v n xs hne q => own_cellT q HA1.out hne)
      have HR2 : Hid (RecO W2 B (r, .slice a1 r.ent.cmd.nodes.length b1, .slice a2 r.shot.nodes.length b2, .slice a3 r.shot.led.held.length b3, .slice a4 r.shot.led.last.length b4)) := Lib.hid (by rw [← hW2]; exact HRO1.out.map2 fun e sz v n xs hne q => own_cellT q HA1.out hne)
      have hrg2 := sho_range HB2.out
      have hth2 := there_row HA2.out 3 7 (by simp)
      obtain ⟨W3, hW3⟩ : ∃ q, W2.setCells w.heap.size 3 (sArr r.shot (.slice a2 r.shot.nodes.length b2) (.slice a3 r.shot.led.held.length b3) (.slice a4 r.shot.led.last.length b4)).toList = q := ⟨_, rfl⟩
      have HA3 : Hid (W3.heap[w.heap.size]? = some (.cells (hArr { h with shot := r.shot, log := behindL h r.shot } (.slice a2 r.shot.nodes.length b2) (.slice a3 r.shot.led.held.length b3) (.slice a4 r.shot.led.last.length b4) (.slice none 0 0)) 43 (0, 0))) := Lib.hid (by rw [← hW3]; exact mid7s HA2.out r.shot _ _ _)
      have HC3 : Hid (W3.heap[w.heap.size + 2]? = some (.cells zH 43 (0, 0))) := Lib.hid (by rw [← hW3]; exact (setCells_other _ _ _ _ (by omega)).trans HC2.out)
      have HBW3 : Hid (Below w.heap.size w W3) := Lib.hid (by rw [← hW3]; exact HBW2.out.trans (setCells_below _ (Nat.le_refl _) _ _ _))
      have HO3 : Hid (OwnH W3 B (.slice a2 r.shot.nodes.length b2) (.slice a3 r.shot.led.held.length b3) (.slice a4 r.shot.led.last.length b4) (.slice none 0 0) { h with shot := r.shot, log := behindL h r.shot }) := Lib.hid (by rw [← hW3]; exact ⟨own_cellsT HR2.out.1.2.1 HA2.out (by decide), own_cellsT HR2.out.1.2.2.1 HA2.out (by decide), own_cellsT HR2.out.1.2.2.2 HA2.out (by decide), LogP.mapT HL2.out fun e sz v n xs hne q => own_cellsT q HA2.out hne⟩)
      have HW3 : Hid (HarW { h with shot := r.shot, log := behindL h r.shot }) := Lib.hid ⟨⟨HWH.out.1.1, HWH.out.1.2.1, HWH.out.1.2.2.1, HRW.out.2.2.2.2.2.2⟩, HRO0.out.2.2.1⟩
      have FIN := Lib.hid (dunn_mk (dunn_yes HX.out) (fun _ => HE.out.symm) HO3.out HW3.out HBW3.out HBB.out HC3.out)
      go_wp2_with (first
        | (refine wpList_load_mid rfl 29 (.tmp 136) rfl (w.heap.size + 1) 14 rfl (sArr r.shot (.slice a2 r.shot.nodes.length b2) (.slice a3 r.shot.led.held.length b3) (.slice a4 r.shot.led.last.length b4)).toList _ hrg2 Try.underlying29 rfl (by kernel_rfl) ?_)
        | (refine wpList_store_mid rfl 29 (.tmp 138) (.tmp 137) rfl w.heap.size 3 (sArr r.shot (.slice a2 r.shot.nodes.length b2) (.slice a3 r.shot.led.held.length b3) (.slice a4 r.shot.led.last.length b4)) rfl rfl hth2 (by kernel_rfl) (Sh.sArr_one _ _ _ _ _ _ _ _ _ _) ?_; rw [hW3])
        | (with_reducible refine wpList_load_row rfl 43 (.tmp 2) rfl w.heap.size rfl 43 (hArr { h with shot := r.shot, log := behindL h r.shot } (.slice a2 r.shot.nodes.length b2) (.slice a3 r.shot.led.held.length b3) (.slice a4 r.shot.led.last.length b4) (.slice none 0 0)) (0, 0) _ HA3.out Try.underlying43 rfl (by kernel_rfl) ?_)
        | (with_reducible refine wpList_store_row rfl 43 (.tmp 4) (.tmp 139) rfl (w.heap.size + 2) (hArr { h with shot := r.shot, log := behindL h r.shot } (.slice a2 r.shot.nodes.length b2) (.slice a3 r.shot.led.held.length b3) (.slice a4 r.shot.led.last.length b4) (.slice none 0 0)) rfl rfl 43 _ HC3.out (by kernel_rfl) rfl (hArr_one _ _ _ _ _ _ _ _ _ _ _ _ _) ?_))
      exact bodyPost_ret (v := .tuple #[.agg (hArr { h with shot := r.shot, log := behindL h r.shot } (.slice a2 r.shot.nodes.length b2) (.slice a3 r.shot.led.held.length b3) (.slice a4 r.shot.led.last.length b4) (.slice none 0 0)), .bool true]) (results_ct rfl _ _ (w.heap.size + 2) 43 _ (0, 0) _ rfl (setRow_heap _ _ _ _ _ _ HC3.out) Try.underlying43 rfl (by kernel_rfl) rfl) rfl FIN.out
  · have HX : Hid (¬ followsP h r) := Lib.hid (fun g => hx (HU.out.1 g))
    have hx1 : r.shot.index < h.shot.index := by omega
    clear hx
    have FIN := Lib.hid (dunn_mk (r := r) (dunn_no HX.out) (fun g => by cases g) HO0.out HWH.out HBW0.out HBB.out HC0.out)
    go_enter Try.func64, Try.ntmps64
    go_wp2_with (first | (with_reducible refine wpList_load_row rfl 43 (.tmp 2) rfl w.heap.size rfl 43 (hArr h (.slice k1 h.shot.nodes.length m1) (.slice k2 h.shot.led.held.length m2) (.slice k3 h.shot.led.last.length m3) (.slice k4 h.log.length m4)) (0, 0) _ HA0.out Try.underlying43 rfl (by kernel_rfl) ?_) | (with_reducible refine wpList_store_row rfl 43 (.tmp 4) (.tmp 107) rfl (w.heap.size + 2) (hArr h (.slice k1 h.shot.nodes.length m1) (.slice k2 h.shot.led.held.length m2) (.slice k3 h.shot.led.last.length m3) (.slice k4 h.log.length m4)) rfl rfl 43 _ HC0.out (by kernel_rfl) rfl (hArr_one _ _ _ _ _ _ _ _ _ _ _ _ _) ?_))
    exact bodyPost_ret (v := .tuple #[.agg (hArr h (.slice k1 h.shot.nodes.length m1) (.slice k2 h.shot.led.held.length m2) (.slice k3 h.shot.led.last.length m3) (.slice k4 h.log.length m4)), .bool false]) (results_ct rfl _ _ (w.heap.size + 2) 43 _ (0, 0) _ rfl (setRow_heap _ _ _ _ _ _ HC0.out) Try.underlying43 rfl (by kernel_rfl) rfl) rfl FIN.out
end Rc
end Go.Proofs.Ytlkgmjhejocobaa
