/- What a record of kind 3 changes, by the document: done. No condition but the bounds of what may last. -/
import Derived.Test.YtlkgmjhejocobaaMyG
import Derived.Deep.QuietTactic
import Derived.BigQuiet
import Derived.Deep.MidRow
import Derived.Deep.AppendLies
import Derived.Deep.RegionHeld3
namespace Go.Proofs.Ytlkgmjhejocobaa
open Go.ChangeShapes Go.WideShapes Go.ChangeAt Go.RowKit Go.Deep
set_option linter.unusedVariables false
set_option maxRecDepth 100000
namespace Rc
open Hd Nv
theorem appEG {w : World} {ops : Array Oper} {rest : List Oper} {o : Oper} {a : Act} {Q : Exit → Act → World → Prop} (hgd : o.guard = none) (s x : Operand)
    (ho : o.op = .call { callee := .builtin .append, args := #[s, x], argTypes := #[41, 41] }) (base : Nat)
    (v : Value) (xs : List ERow) (hs : a.eval s = v) (hown : OwnR 9 entC 47 w base v xs) (u : Value) (zs : List ERow) (hx : a.eval x = u) (hsl : SlR 9 entC w u zs) (hne : 0 < zs.length) (h1c : ∀ r ∈ zs, ∀ q ∈ entC r, q.oneCell' = true)
    (h63 : xs.length + zs.length ≤ maxLen) (hb : (xs.length + zs.length) * 88 ≤ 140737488355328) (hbase : base ≤ w.heap.size) (H : Nat) (hH : w.heap.size = H)
    (h : ∀ g cap w', OwnR 9 entC 47 w' base (.slice (some ⟨g, 0, none⟩) (xs.length + zs.length) cap) (xs ++ zs) → w.grownBy w' v.ownBlock → (v.ownBlock = some g ∨ g = H) → wpList Try.prog ops Q rest (a.put o.dst (.slice (some ⟨g, 0, none⟩) (xs.length + zs.length) cap)) w') : wpList Try.prog ops Q (o :: rest) a w := by
  obtain ⟨i0, hi, hz0, hz1, hz2⟩ := info_parts info_ent
  rcases hsl.src entC_len with ⟨_, h0, _⟩ | ⟨ad, c, rfl, hc⟩
  · omega
  · refine wpList_append_lies w hgd s x 41 ho base 47 i0 _ 9 88 Try.underlying41 hi hz0 hz1 hz2 rfl (by decide) v xs.length _ hs hown ad zs.length c (zs.flatMap entC) hx (flat_len entC_len zs) hc (fun u hu => ?_) hne h63 hb hbase H hH fun g cap w' h2 h3 h4 _ => h g cap w' ?_ h3 h4
    · obtain ⟨y, hy1, hy⟩ := List.mem_flatMap.1 hu
      exact h1c y hy1 u hy
    · unfold OwnR
      rw [List.flatMap_append, List.length_append]
      exact h2
theorem ents_step2 {wc w2 : World} {B g2 : Nat} {ob : Option Nat} {rows : List ERow} (h : EntsO wc B ob rows) (hg : wc.grownBy w2 ob) (hor : ob = some g2 ∨ g2 = wc.heap.size)
    {x : Ent} {vn : Value} (hn : OwnK .i64 3 wc B vn x.cmd.nodes) (hne : ∀ g, vn.ownBlock = some g → some g ≠ ob) (hw : x.wf) (hwf : ∀ n ∈ x.cmd.nodes, (Lit.int .i64 n).wf = true) : EntsO w2 B (some g2) (rows ++ [(x, vn)]) := by
  have apart : ∀ (v : Value) (zs : List Int), OwnK .i64 3 wc B v zs → (∀ g, v.ownBlock = some g → some g ≠ ob) → ∀ g, v.ownBlock = some g → some g ≠ some g2 := fun v zs o hv g hq => by
    rcases hor with e | e
    · rw [← e]; exact hv g hq
    · intro q
      have := Option.some.inj q
      have := (World.ownsRow.lt o g hq).2
      omega
  intro r hr
  rcases List.mem_append.1 hr with hr | hr
  · obtain ⟨h1, h2, h3, h4⟩ := h r hr
    exact ⟨h1.far hg h4, h2, h3, apart _ _ h1 h4⟩
  · simp only [List.mem_cons, List.not_mem_nil, or_false] at hr
    subst hr
    exact ⟨hn.far hg hne, hw, hwf, apart _ _ hn hne⟩
set_option maxHeartbeats 3000000 in
theorem dn_3 (B : Nat) (h : Har) (vn vh vl vg : Value) (rows : List ERow) (r : RecR) (vc rn rh rl : Value) (w : World) (hB : B ≤ w.heap.size) (o1 : OwnI w B vn h.shot.nodes) (o2 : OwnR 5 heldC 74 w B vh h.shot.led.held) (o3 : OwnR 6 lastC 78 w B vl h.shot.led.last) (o4 : OwnR 9 entC 47 w B vg rows) (o5 : EntsO w B vg.ownBlock rows) (hm : rows.map Prod.fst = h.log) (hw : HarW h) (hr : RecO w B (r, vc, rn, rh, rl)) (hla : h.shot.index + h.log.length ≤ 4611686018427387904) (hfl : h.log.length * 88 ≤ 140737488351232) (hk : r.kind = 3) : Calls Try.prog 64 #[.agg (hArr h vn vh vl vg), .agg (rArr r vc rn rh rl)] w (Dunn B h r w) := by
  obtain ⟨k1, m1, rfl, -⟩ := o1.sl hw.2
  obtain ⟨k2, m2, rfl, -⟩ := o2.sl heldC_len
  obtain ⟨k3, m3, rfl, -⟩ := o3.sl lastC_len
  obtain ⟨k4, m4, hug, -⟩ := o4.sl entC_len
  have hrl : rows.length = h.log.length := by rw [← hm, List.length_map]
  rw [hrl] at hug
  subst hug
  have hv1 : OwnK .i64 3 w B vc r.ent.cmd.nodes := hr.1.1
  have hv2 : OwnK .i64 3 w B rn r.shot.nodes := hr.1.2.1
  have hv3 : OwnR 5 heldC 74 w B rh r.shot.led.held := hr.1.2.2.1
  have hv4 : OwnR 6 lastC 78 w B rl r.shot.led.last := hr.1.2.2.2
  obtain ⟨a1, b1, rfl, -⟩ := hv1.sl hr.2.1
  obtain ⟨a2, b2, rfl, -⟩ := hv2.sl hr.2.2.1
  obtain ⟨a3, b3, rfl, -⟩ := hv3.sl heldC_len
  obtain ⟨a4, b4, rfl, -⟩ := hv4.sl lastC_len
  obtain ⟨W0, hW0, hb0, hz0, hA0, hB0, hC0⟩ := box3 w (hArr h (.slice k1 h.shot.nodes.length m1) (.slice k2 h.shot.led.held.length m2) (.slice k3 h.shot.led.last.length m3) (.slice k4 h.log.length m4)) (rArr r (.slice a1 r.ent.cmd.nodes.length b1) (.slice a2 r.shot.nodes.length b2) (.slice a3 r.shot.led.held.length b3) (.slice a4 r.shot.led.last.length b4)) zH
  have HBB := Lib.hid hB
  have HRL := Lib.hid hrl
  have HM := Lib.hid hm
  have HO0 : Hid (OwnH W0 B (.slice k1 h.shot.nodes.length m1) (.slice k2 h.shot.led.held.length m2) (.slice k3 h.shot.led.last.length m3) (.slice k4 h.log.length m4) h) := Lib.hid (OwnH.map (w := w) (B := B) (h := h) ⟨o1, o2, o3, by have q := LogP.whole o4 o5; rw [hm] at q; exact q⟩ fun e sz v n xs q => owns_below hb0 q)
  have HOG0 : Hid (OwnR 9 entC 47 W0 B (.slice k4 h.log.length m4) rows ∧ EntsO W0 B (Value.slice k4 h.log.length m4).ownBlock rows) := Lib.hid ⟨owns_below hb0 o4, fun r hr => ⟨owns_below hb0 (o5 r hr).1, (o5 r hr).2⟩⟩
  have HRO0 : Hid (RecO W0 B (r, .slice a1 r.ent.cmd.nodes.length b1, .slice a2 r.shot.nodes.length b2, .slice a3 r.shot.led.held.length b3, .slice a4 r.shot.led.last.length b4)) := Lib.hid (hr.map fun e sz v n xs _ q => owns_below hb0 q)
  have HWH := Lib.hid hw
  have HRW : Hid r.wf := Lib.hid hr.2.2.2
  have HA0 := Lib.hid hA0
  have HB0 := Lib.hid hB0
  have HC0 := Lib.hid hC0
  have HS0 : Hid (w.heap.size + 3 ≤ W0.heap.size) := Lib.hid (by omega)
  have HBW0 : Hid (Below w.heap.size w W0) := Lib.hid hb0
  have HLA := Lib.hid hla
  have HFL := Lib.hid hfl
  have hx0 := Ld.u64_nonneg hw.1.2.2.2.1
  have hw3 := bounds_u64 hr.2.2.2.2.2.2.2.1
  have hlen0 : (h.log.length : Int) ≤ 4611686018427387904 := by omega
  obtain ⟨d0, d1, d2, d3, d4, d5, d6, d7, d8, d9, d10⟩ := cells11 hA0
  obtain ⟨c0, c1, c2, c3, c4, c5, c6, c7, c8, c9, c10, c11, c12, c13, c14, c15, c16, c17, c18, c19, c20⟩ := cells21 hB0
  clear o1 o2 o3 o4 o5 hm hw hr hla hfl hb0 hA0 hB0 hC0 hz0 hrl hv1 hv2 hv3 hv4
  have HE : Hid (doH h r = { h with log := h.log ++ [r.ent] }) := Lib.hid (by unfold doH; rw [if_neg (by omega)]; rw [if_neg (by omega)]; rw [if_pos hk])
  have HU : Hid (followsP h r ↔ r.index = h.shot.index + h.log.length + 1) := Lib.hid (by unfold followsP; rw [if_neg (by omega)]; rw [if_neg (by omega)]; rw [if_pos hk])
  have z1 : (r.kind == 1) = false := beq_eq_false_iff_ne.2 (by omega)
  have z2 : (r.kind == 2) = false := beq_eq_false_iff_ne.2 (by omega)
  have z3 : (r.kind == 3) = true := beq_iff_eq.2 hk
  clear hk
  have HBWS : Hid (w.heap.size ≤ W0.heap.size) := Lib.hid (by have := HS0.out; omega)
  have HIX : Hid (h.shot.index ≤ 4611686018427387904) := Lib.hid (by have := HLA.out; omega)
  have HIW : Hid (IsHard W0.drew (.agg (hArr h (.slice k1 h.shot.nodes.length m1) (.slice k2 h.shot.led.held.length m2) (.slice k3 h.shot.led.last.length m3) (.slice k4 h.log.length m4))) h) := Lib.hid (HO0.out.hard HWH.out)
  have hwr : IntKind.u64.wrap (h.shot.index + h.log.length + 1) = h.shot.index + h.log.length + 1 := by
    have := HLA.out
    have := hx0
    unfold IntKind.wrap
    simp [IntKind.signed, IntKind.bits]
    omega
  by_cases hx : r.index = h.shot.index + h.log.length + 1
  · have HX := Lib.hid (HU.out.2 hx)
    have hy3 : (r.index != (IntKind.u64.wrap (h.shot.index + h.log.length + 1))) = false := by rw [hwr, bne, beq_iff_eq.2 hx]; rfl
    have HLM : Hid (rows.length * 88 ≤ 140737488351232) := Lib.hid (by rw [HRL.out]; exact HFL.out)
    clear hwr hx d0 d1 d2 d4 d5 d6 d7 d8 d9
    go_enter Try.func64, Try.ntmps64
    go_wp2_with fail
    have hrg0 := row_range HA0.out
    refine wp_region_held_drew (S := fun w' => w'.cell? ⟨w.heap.size + 1, 4, none⟩ = some (.int .u64 r.index) ∧ w'.cell? ⟨w.heap.size, 3, none⟩ = some (.int .u64 h.shot.index) ∧ w'.rangeAt w.heap.size 0 (hArr h (.slice k1 h.shot.nodes.length m1) (.slice k2 h.shot.led.held.length m2) (.slice k3 h.shot.led.last.length m3) (.slice k4 h.log.length m4)).toList) (by kernel_rfl) ⟨c4, d3, hrg0⟩ (fun hHeld => ?_)
    refine wpAnyH_take (i := 0) (v := .pointer (some ⟨w.heap.size + 1, 4, none⟩)) rfl (by kernel_rfl) (by kernel_rfl) (by kernel_rfl) (fun _ _ _ h => h) (Or.inl ⟨by kernel_rfl, ?_⟩) (by assumption) ?_
    · intro w hSw
      obtain ⟨s1, s2, -⟩ := hSw
      clear hHeld
      go_simp
      try with_reducible rfl
    simp only [Act.put]
    refine wpAnyH_take (i := 1) (v := .int .u64 r.index) rfl (by kernel_rfl) (by kernel_rfl) (by kernel_rfl) (fun _ _ _ h => h) (Or.inl ⟨by kernel_rfl, ?_⟩) (by assumption) ?_
    · intro w hSw
      obtain ⟨s1, s2, -⟩ := hSw
      clear hHeld
      go_simp
      try with_reducible rfl
    simp only [Act.put]
    refine wpAnyH_take (i := 2) (v := .agg (hArr h (.slice k1 h.shot.nodes.length m1) (.slice k2 h.shot.led.held.length m2) (.slice k3 h.shot.led.last.length m3) (.slice k4 h.log.length m4))) rfl (by kernel_rfl) (by kernel_rfl) (by kernel_rfl) (fun _ _ _ h => h) (yieldsIf_load_mid (by kernel_rfl) _ _ rfl w.heap.size 0 (by kernel_rfl) (hArr h (.slice k1 h.shot.nodes.length m1) (.slice k2 h.shot.led.held.length m2) (.slice k3 h.shot.led.last.length m3) (.slice k4 h.log.length m4)).toList _ (fun w h => h.2.2) Try.underlying43 rfl (by kernel_rfl)) (by assumption) ?_
    simp only [Act.put]
    refine wpAnyH_ready (rs := [3]) (by kernel_rfl) (by simp) ?_
    refine AllReadyH.cons rfl (fun K hK => ?_) AllReadyH.nil
    go_simp
    refine (Hd.rlast_any h _ _ HIW.out HIX.out).mono ?_
    rintro e w1 ⟨rfl, hb1⟩
    have HA1 := Lib.hid ((hb1.block _ (lt_of_row HA0.out)).trans HA0.out)
    have HB1 := Lib.hid ((hb1.block _ (lt_of_row HB0.out)).trans HB0.out)
    have HC1 := Lib.hid ((hb1.block _ (lt_of_row HC0.out)).trans HC0.out)
    have HBW1 := Lib.hid (HBW0.out.drew.trans (hb1.mono HBWS.out))
    have HM1 : Hid (∀ e sz v n xs, W0.ownsRow B e sz v n xs → w1.ownsRow B e sz v n xs) := Lib.hid (fun e sz v n xs q => owns_below (w := W0) ⟨hb1.os, hb1.tape, hb1.output, hb1.size, hb1.block⟩ q)
    have hz1 : Hid (W0.heap.size ≤ w1.heap.size) := Lib.hid hb1.size
    have qc4 := (cell_of_row w1 _ 4 _ _ _ HB1.out).trans rfl
    have qd3 := (cell_of_row w1 _ 3 _ _ _ HA1.out).trans rfl
    have qd10 := (cell_of_row w1 _ 10 _ _ _ HA1.out).trans rfl
    have qf10 := La.frozen_of (o := 10) HA1.out
    have hrg1 := row_range HA1.out
    clear hb1 hHeld
    refine hK.out _ _ ⟨qc4, qd3, hrg1⟩ (fun hHeld => ?_)
    clear hK K
    refine wpAnyH_take (i := 4) (v := .int .u64 (IntKind.u64.wrap (h.shot.index + h.log.length + 1))) rfl (by kernel_rfl) (by kernel_rfl) (by kernel_rfl) (fun _ _ _ h => h) (Or.inl ⟨by kernel_rfl, ?_⟩) (by assumption) ?_
    · intro w hSw
      obtain ⟨s1, s2, -⟩ := hSw
      clear hHeld
      go_simp
      try with_reducible rfl
    simp only [Act.put]
    refine wpAnyH_take (i := 5) (v := .bool false) rfl (by kernel_rfl) (by kernel_rfl) (by kernel_rfl) (fun _ _ _ h => h) (Or.inl ⟨by kernel_rfl, ?_⟩) (by assumption) ?_
    · intro w hSw
      obtain ⟨s1, s2, -⟩ := hSw
      clear hHeld
      go_simp
      try with_reducible rfl
    simp only [Act.put]
    refine wpAnyH_done (by kernel_rfl) ?_ _
    clear hHeld
    clear hrg0 hrg1 c0 c1 c2 c3 c4 c5 c6 c7 c8 c9 c10 c11 c12 c13 c14 c15 c16 c17 c18 c19 c20 d10
    have HOG1 : Hid (OwnR 9 entC 47 w1 B (.slice k4 h.log.length m4) rows ∧ EntsO w1 B (Value.slice k4 h.log.length m4).ownBlock rows) := Lib.hid ⟨HM1.out _ _ _ _ _ HOG0.out.1, fun r hr => ⟨HM1.out _ _ _ _ _ (HOG0.out.2 r hr).1, (HOG0.out.2 r hr).2⟩⟩
    have HO1 := Lib.hid (HO0.out.map HM1.out)
    have HN1 : Hid (OwnK .i64 3 w1 B (.slice a1 r.ent.cmd.nodes.length b1) r.ent.cmd.nodes) := Lib.hid (HM1.out _ _ _ _ _ HRO0.out.1.1)
    have HS1 : Hid (w.heap.size + 3 ≤ w1.heap.size) := Lib.hid (Nat.le_trans HS0.out hz1.out)
    have hrgE := ent_range HB1.out
    go_wp2_with (first
      | (refine wpList_load_mid rfl 47 (.tmp 65) rfl (w.heap.size + 1) 5 rfl (entC (r.ent, (.slice a1 r.ent.cmd.nodes.length b1))) _ hrgE Try.underlying47 rfl (by kernel_rfl) ?_)
      | (at_builtin
         refine appEG rfl (.tmp 64) (.tmp 67) rfl B _ rows rfl ((HOG1.out.1).alloc _) _ [(r.ent, (.slice a1 r.ent.cmd.nodes.length b1))] rfl (SlR.one entC_len _ _ rfl _ _ rfl) (Nat.succ_pos _) (ent_one _ _ _ _) (by have := HLM.out; unfold maxLen; simp; omega) (by have := HLM.out; simp; omega) (by have := HBB.out; have := HS1.out; simp; omega) _ rfl ?_
         intro g7 c7 w7 hown7 hg7 hor7
         have HOWN7 := Lib.hid hown7
         have HG7 := Lib.hid hg7
         have HOR7 := Lib.hid hor7
         have HA7 := Lib.hid ((hg7.block w.heap.size (Nat.lt_of_lt_of_le (lt_of_row HA1.out) (by simp)) (fun e => own_ty_ne HOG1.out.1 HA1.out (by decide) _ e.symm rfl)).trans ((heap_alloc_old _ _ (lt_of_row HA1.out)).trans HA1.out))
         have HC7 := Lib.hid ((hg7.block (w.heap.size + 2) (Nat.lt_of_lt_of_le (lt_of_row HC1.out) (by simp)) (fun e => own_ty_ne HOG1.out.1 HC1.out (by decide) _ e.symm rfl)).trans ((heap_alloc_old _ _ (lt_of_row HC1.out)).trans HC1.out))
         have z10 := (cell_of_row w7 _ 10 _ _ _ HA7.out).trans rfl
         have u10 := La.frozen_of (o := 10) HA7.out
         clear hown7 hg7 hor7
         obtain ⟨W8, hW8⟩ : ∃ q, w7.setCell ⟨w.heap.size, 10, none⟩ (.slice (some ⟨g7, 0, none⟩) (rows.length + 1) c7) = q := ⟨_, rfl⟩
         have HA8 : Hid (W8.heap[w.heap.size]? = some (.cells (hArr { h with log := h.log ++ [r.ent] } (.slice k1 h.shot.nodes.length m1) (.slice k2 h.shot.led.held.length m2) (.slice k3 h.shot.led.last.length m3) (.slice (some ⟨g7, 0, none⟩) (rows.length + 1) c7)) 43 (0, 0))) := Lib.hid (by rw [← hW8, heap_setCell_same w7 w.heap.size 10 _ _ _ HA7.out]; rfl)
         have HC8 : Hid (W8.heap[w.heap.size + 2]? = some (.cells zH 43 (0, 0))) := Lib.hid (by rw [← hW8]; exact (heap_setCell_other _ _ _ _ (by simp)).trans HC7.out)
         have hb18 : Below w1.heap.size w1 (w1.alloc (.cells (entC (r.ent, (.slice a1 r.ent.cmd.nodes.length b1))).toArray 47)) := (Below.refl _ _).alloc (Nat.le_refl _) _
         have hwB : B ≤ w1.heap.size := by have := HBB.out; have := HS1.out; omega
         have hbw7 : Below B w w7 := Below.own ((HBW1.out.mono HBB.out).trans (hb18.mono hwB)) (Nat.le_trans hwB hb18.size) ((HOG1.out.1).alloc _) HG7.out
         have HBW8 : Hid (Below B w W8) := Lib.hid (by rw [← hW8]; exact hbw7.setCell HBB.out _)
         have hown7 := HOWN7.out
         simp only [List.length_cons, List.length_nil, Nat.zero_add] at hown7
         have hE1 : EntsO (w1.alloc (.cells (entC (r.ent, (.slice a1 r.ent.cmd.nodes.length b1))).toArray 47)) B (Value.slice k4 h.log.length m4).ownBlock rows := fun r hr => ⟨owns_below hb18 (HOG1.out.2 r hr).1, (HOG1.out.2 r hr).2⟩
         have hEO := ents_step2 hE1 HG7.out HOR7.out (owns_below hb18 HN1.out) (own_apart HN1.out HOG1.out.1 (by decide)) HRW.out.2.2.2.2.2.1 HRO0.out.2.1
         have hlp := LogP.whole hown7 hEO
         rw [List.map_append, HM.out] at hlp
         have ap := fun (sz : Nat) (e : TypeId) (v : Value) (n : Nat) (xs : List Value) (q : w1.ownsRow B e sz v n xs) (hne : e ≠ 47) => own_far (owns_below hb18 q) HG7.out (own_apart q HOG1.out.1 hne)
         have HO8 : Hid (OwnH W8 B (.slice k1 h.shot.nodes.length m1) (.slice k2 h.shot.led.held.length m2) (.slice k3 h.shot.led.last.length m3) (.slice (some ⟨g7, 0, none⟩) (rows.length + 1) c7) { h with log := h.log ++ [r.ent] }) := Lib.hid (by
           rw [← hW8]
           exact ⟨own_cellT (ap _ _ _ _ _ HO1.out.1 (by decide)) HA7.out (by decide), own_cellT (ap _ _ _ _ _ HO1.out.2.1 (by decide)) HA7.out (by decide), own_cellT (ap _ _ _ _ _ HO1.out.2.2.1 (by decide)) HA7.out (by decide), LogP.mapT hlp fun e sz v n xs hne q => own_cellT q HA7.out hne⟩)
         have HW8 : Hid (HarW { h with log := h.log ++ [r.ent] }) := Lib.hid ⟨HWH.out.1, HWH.out.2⟩
         have HF8 : Hid (FarE w W8) := Lib.hid (by
           rw [← hW8]
           intro q cs t fr hq ht
           have hlt := lt_of_row hq
           have hq1 := (HBW1.out.block q hlt).trans hq
           have hlt1 := lt_of_row hq1
           exact (heap_setCell_other _ _ _ _ (by show q ≠ w.heap.size; omega)).trans ((HG7.out.block q (Nat.lt_of_lt_of_le hlt1 hb18.size) (fun e => own_ty_ne HOG1.out.1 hq1 (fun e2 => ht e2.symm) _ e.symm rfl)).trans ((hb18.block q hlt1).trans hq1)))
         clear hb18 hwB hbw7 hown7 hE1 hEO hlp ap
         have FIN := Lib.hid (dunn_mk3 (dunn_yes HX.out) (fun _ => HE.out.symm) HO8.out HW8.out HBW8.out HBB.out HC8.out HF8.out))
      | (with_reducible refine wpList_load_row rfl 43 (.tmp 2) rfl w.heap.size rfl 43 (hArr { h with log := h.log ++ [r.ent] } (.slice k1 h.shot.nodes.length m1) (.slice k2 h.shot.led.held.length m2) (.slice k3 h.shot.led.last.length m3) (.slice (some ⟨g7, 0, none⟩) (rows.length + 1) c7)) (0, 0) _ HA8.out Try.underlying43 rfl (by kernel_rfl) ?_)
      | (with_reducible refine wpList_store_row rfl 43 (.tmp 4) (.tmp 139) rfl (w.heap.size + 2) (hArr { h with log := h.log ++ [r.ent] } (.slice k1 h.shot.nodes.length m1) (.slice k2 h.shot.led.held.length m2) (.slice k3 h.shot.led.last.length m3) (.slice (some ⟨g7, 0, none⟩) (rows.length + 1) c7)) rfl rfl 43 _ HC8.out (by kernel_rfl) rfl (hArr_one _ _ _ _ _ _ _ _ _ _ _ _ _) ?_))
    exact bodyPost_ret (v := .tuple #[.agg (hArr { h with log := h.log ++ [r.ent] } (.slice k1 h.shot.nodes.length m1) (.slice k2 h.shot.led.held.length m2) (.slice k3 h.shot.led.last.length m3) (.slice (some ⟨g7, 0, none⟩) (rows.length + 1) c7)), .bool true]) (results_ct rfl _ _ (w.heap.size + 2) 43 _ (0, 0) _ rfl (setRow_heap _ _ _ _ _ _ HC8.out) Try.underlying43 rfl (by kernel_rfl) rfl) rfl FIN.out
  · have HX : Hid (¬ followsP h r) := Lib.hid (fun g => hx (HU.out.1 g))
    have hy3 : (r.index != (IntKind.u64.wrap (h.shot.index + h.log.length + 1))) = true := by rw [hwr, bne, beq_eq_false_iff_ne.2 hx]; rfl
    clear hwr hx d0 d1 d2 d4 d5 d6 d7 d8 d9
    go_enter Try.func64, Try.ntmps64
    go_wp2_with fail
    have hrg0 := row_range HA0.out
    refine wp_region_held_drew (S := fun w' => w'.cell? ⟨w.heap.size + 1, 4, none⟩ = some (.int .u64 r.index) ∧ w'.cell? ⟨w.heap.size, 3, none⟩ = some (.int .u64 h.shot.index) ∧ w'.rangeAt w.heap.size 0 (hArr h (.slice k1 h.shot.nodes.length m1) (.slice k2 h.shot.led.held.length m2) (.slice k3 h.shot.led.last.length m3) (.slice k4 h.log.length m4)).toList) (by kernel_rfl) ⟨c4, d3, hrg0⟩ (fun hHeld => ?_)
    refine wpAnyH_take (i := 0) (v := .pointer (some ⟨w.heap.size + 1, 4, none⟩)) rfl (by kernel_rfl) (by kernel_rfl) (by kernel_rfl) (fun _ _ _ h => h) (Or.inl ⟨by kernel_rfl, ?_⟩) (by assumption) ?_
    · intro w hSw
      obtain ⟨s1, s2, -⟩ := hSw
      clear hHeld
      go_simp
      try with_reducible rfl
    simp only [Act.put]
    refine wpAnyH_take (i := 1) (v := .int .u64 r.index) rfl (by kernel_rfl) (by kernel_rfl) (by kernel_rfl) (fun _ _ _ h => h) (Or.inl ⟨by kernel_rfl, ?_⟩) (by assumption) ?_
    · intro w hSw
      obtain ⟨s1, s2, -⟩ := hSw
      clear hHeld
      go_simp
      try with_reducible rfl
    simp only [Act.put]
    refine wpAnyH_take (i := 2) (v := .agg (hArr h (.slice k1 h.shot.nodes.length m1) (.slice k2 h.shot.led.held.length m2) (.slice k3 h.shot.led.last.length m3) (.slice k4 h.log.length m4))) rfl (by kernel_rfl) (by kernel_rfl) (by kernel_rfl) (fun _ _ _ h => h) (yieldsIf_load_mid (by kernel_rfl) _ _ rfl w.heap.size 0 (by kernel_rfl) (hArr h (.slice k1 h.shot.nodes.length m1) (.slice k2 h.shot.led.held.length m2) (.slice k3 h.shot.led.last.length m3) (.slice k4 h.log.length m4)).toList _ (fun w h => h.2.2) Try.underlying43 rfl (by kernel_rfl)) (by assumption) ?_
    simp only [Act.put]
    refine wpAnyH_ready (rs := [3]) (by kernel_rfl) (by simp) ?_
    refine AllReadyH.cons rfl (fun K hK => ?_) AllReadyH.nil
    go_simp
    refine (Hd.rlast_any h _ _ HIW.out HIX.out).mono ?_
    rintro e w1 ⟨rfl, hb1⟩
    have HA1 := Lib.hid ((hb1.block _ (lt_of_row HA0.out)).trans HA0.out)
    have HB1 := Lib.hid ((hb1.block _ (lt_of_row HB0.out)).trans HB0.out)
    have HC1 := Lib.hid ((hb1.block _ (lt_of_row HC0.out)).trans HC0.out)
    have HBW1 := Lib.hid (HBW0.out.drew.trans (hb1.mono HBWS.out))
    have HM1 : Hid (∀ e sz v n xs, W0.ownsRow B e sz v n xs → w1.ownsRow B e sz v n xs) := Lib.hid (fun e sz v n xs q => owns_below (w := W0) ⟨hb1.os, hb1.tape, hb1.output, hb1.size, hb1.block⟩ q)
    have hz1 : Hid (W0.heap.size ≤ w1.heap.size) := Lib.hid hb1.size
    have qc4 := (cell_of_row w1 _ 4 _ _ _ HB1.out).trans rfl
    have qd3 := (cell_of_row w1 _ 3 _ _ _ HA1.out).trans rfl
    have qd10 := (cell_of_row w1 _ 10 _ _ _ HA1.out).trans rfl
    have qf10 := La.frozen_of (o := 10) HA1.out
    have hrg1 := row_range HA1.out
    clear hb1 hHeld
    refine hK.out _ _ ⟨qc4, qd3, hrg1⟩ (fun hHeld => ?_)
    clear hK K
    refine wpAnyH_take (i := 4) (v := .int .u64 (IntKind.u64.wrap (h.shot.index + h.log.length + 1))) rfl (by kernel_rfl) (by kernel_rfl) (by kernel_rfl) (fun _ _ _ h => h) (Or.inl ⟨by kernel_rfl, ?_⟩) (by assumption) ?_
    · intro w hSw
      obtain ⟨s1, s2, -⟩ := hSw
      clear hHeld
      go_simp
      try with_reducible rfl
    simp only [Act.put]
    refine wpAnyH_take (i := 5) (v := .bool true) rfl (by kernel_rfl) (by kernel_rfl) (by kernel_rfl) (fun _ _ _ h => h) (Or.inl ⟨by kernel_rfl, ?_⟩) (by assumption) ?_
    · intro w hSw
      obtain ⟨s1, s2, -⟩ := hSw
      clear hHeld
      go_simp
      try with_reducible rfl
    simp only [Act.put]
    refine wpAnyH_done (by kernel_rfl) ?_ _
    clear hHeld
    clear hrg0 hrg1 c0 c1 c2 c3 c4 c5 c6 c7 c8 c9 c10 c11 c12 c13 c14 c15 c16 c17 c18 c19 c20 d10
    have HO1 := Lib.hid (HO0.out.map HM1.out)
    have FIN := Lib.hid (dunn_mk (r := r) (dunn_no HX.out) (fun g => by cases g) HO1.out HWH.out HBW1.out HBB.out HC1.out)
    go_wp2_with (first | (with_reducible refine wpList_load_row rfl 43 (.tmp 2) rfl w.heap.size rfl 43 (hArr h (.slice k1 h.shot.nodes.length m1) (.slice k2 h.shot.led.held.length m2) (.slice k3 h.shot.led.last.length m3) (.slice k4 h.log.length m4)) (0, 0) _ HA1.out Try.underlying43 rfl (by kernel_rfl) ?_) | (with_reducible refine wpList_store_row rfl 43 (.tmp 4) (.tmp 62) rfl (w.heap.size + 2) (hArr h (.slice k1 h.shot.nodes.length m1) (.slice k2 h.shot.led.held.length m2) (.slice k3 h.shot.led.last.length m3) (.slice k4 h.log.length m4)) rfl rfl 43 _ HC1.out (by kernel_rfl) rfl (hArr_one _ _ _ _ _ _ _ _ _ _ _ _ _) ?_))
    exact bodyPost_ret (v := .tuple #[.agg (hArr h (.slice k1 h.shot.nodes.length m1) (.slice k2 h.shot.led.held.length m2) (.slice k3 h.shot.led.last.length m3) (.slice k4 h.log.length m4)), .bool false]) (results_ct rfl _ _ (w.heap.size + 2) 43 _ (0, 0) _ rfl (setRow_heap _ _ _ _ _ _ HC1.out) Try.underlying43 rfl (by kernel_rfl) rfl) rfl FIN.out
end Rc
end Go.Proofs.Ytlkgmjhejocobaa
