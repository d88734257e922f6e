/- The document's Encode of a record. No condition. -/
import Derived.Test.YtngnhegmealokaaRkB
import Derived.Test.YtngnhegmealokaaMyE
import Derived.Test.YtngnhegmealokaaCeB
import Derived.Test.YtngnhegmealokaaEcC
import Derived.Deep.AppendLies
namespace Go.Proofs.Ytngnhegmealokaa
open Go.ChangeShapes Go.WideShapes Go.ChangeAt Go.RowKit Go.Deep
set_option linter.unusedVariables false
set_option maxRecDepth 100000
namespace Rk
open Cm Sc Rc Hd Nv Sh
theorem stepL {w : World} {ops : Array Oper} {o : Oper} {a : Act} {K : Act → World → Prop} {Q : Exit → Act → World → Prop} {E : Prop} (hgd : o.guard = none) (s x : Operand)
    (ho : o.op = .call { callee := .builtin .append, args := #[s, x], argTypes := #[45, 45] }) (base : Nat)
    (v : Value) (xs : List Int) (hs : a.eval s = v) (hown : Own w base v xs) (u : Value) (zs : List Int) (hx : a.eval x = u) (hsl : Sl .u8 w u zs) (hne : 0 < zs.length)
    (hb : xs.length + zs.length ≤ 140737488355328) (hbase : base ≤ w.heap.size)
    (h : ∀ v' w', Own w' base v' (xs ++ zs) → w.grownBy w' v.ownBlock → Lies w v v' → K (a.put o.dst v') w') :
    if Region.wanted o (yielded ops a.tmps) = true then Oper.wp Try.prog o a w K Q else E := by
  have hw : Region.wanted o (yielded ops a.tmps) = true := by simp [Region.wanted, hgd]
  rw [if_pos hw]
  obtain ⟨i0, hi, hz0, hz1, hz2⟩ := info_parts info_u8
  rcases hsl.src with ⟨_, h0, _⟩ | ⟨ad, c, rfl, hc⟩
  · omega
  · refine wp_append_lies w s x 45 ho base 5 i0 (.int .u8 0) 1 1 Try.underlying45 hi hz0 hz1 hz2 rfl (by decide) v xs.length _ hs hown ad zs.length c (zs.map (Value.int .u8)) hx (by simp) hc (fun u hu => ?_) hne (by unfold maxLen; omega) (by omega) hbase w.heap.size rfl fun g cap w' h2 h3 h4 _ => h _ w' ?_ h3 ?_
    · obtain ⟨n, -, rfl⟩ := List.mem_map.1 hu
      rfl
    · unfold Own
      rw [List.map_append, List.length_append]
      exact h2
    · rcases h4 with h4 | rfl
      · exact .inl (by rw [h4]; rfl)
      · exact .inr (fun k hk => by
          have : w.heap.size = k := by simpa [Value.ownBlock] using hk
          omega)
set_option maxHeartbeats 8000000 in
theorem renc_any (r : RecR) (v : Value) (w : World) (h : IsRec w v r) : Calls Try.prog 8 #[v] w (EncR r w) := by
  obtain ⟨vc, vn, vh, vl, rfl, ⟨hc, hn, hh, hl⟩, hwf⟩ := id h
  obtain ⟨a1, b1, rfl, -⟩ := id hc
  obtain ⟨a2, b2, rfl, -⟩ := id hn
  obtain ⟨a3, b3, rfl, -⟩ := id hh
  obtain ⟨a4, b4, rfl, -⟩ := id hl
  obtain ⟨W1, hW1⟩ : ∃ q, w.alloc (.cells (rArr r (.slice a1 r.ent.cmd.nodes.length b1) (.slice a2 r.shot.nodes.length b2) (.slice a3 r.shot.led.held.length b3) (.slice a4 r.shot.led.last.length b4)) 35) = q := ⟨_, rfl⟩
  have hb1 : Below w.heap.size w W1 := by rw [← hW1]; exact (Below.refl _ _).alloc (Nat.le_refl _) _
  have HA1 : Hid (W1.heap[w.heap.size]? = some (.cells (rArr r (.slice a1 r.ent.cmd.nodes.length b1) (.slice a2 r.shot.nodes.length b2) (.slice a3 r.shot.led.held.length b3) (.slice a4 r.shot.led.last.length b4)) 35 (0, 0))) := Lib.hid (by rw [← hW1]; exact heap_alloc_new _ _)
  have HB1 := Lib.hid hb1
  have HR1 := Lib.hid (h.below hb1 (Nat.le_refl _))
  have HRL := Lib.hid (⟨hc, hn, hh, hl⟩ : RecL w r _ _ _ _)
  have HWF := Lib.hid hwf
  clear h hc hn hh hl hwf hb1
  go_enter Try.func8, Try.ntmps8
  go_wp2_with (first | (with_reducible refine wpList_load_row rfl 35 (.tmp 1) rfl w.heap.size rfl 35 (rArr r (.slice a1 r.ent.cmd.nodes.length b1) (.slice a2 r.shot.nodes.length b2) (.slice a3 r.shot.led.held.length b3) (.slice a4 r.shot.led.last.length b4)) (0, 0) _ HA1.out Try.underlying35 rfl (by kernel_rfl) ?_) | fail)
  refine (Rc.may_any r _ _ HR1.out).mono ?_
  rintro e w2 ⟨b, rfl, hb, hbw⟩
  have HB2 := Lib.hid (HB1.out.trans (hbw.mono HB1.out.size))
  have HA2 := Lib.hid ((hbw.block _ (row_lt HA1.out)).trans HA1.out)
  clear hbw
  cases b with
  | false =>
    have HN : Hid (¬ fitsP r) := Lib.hid (fun q => by cases hb.2 q)
    clear hb
    go_wp2_with fail
    go_ret2
    exact ⟨_, _, rfl, .inr ⟨HN.out, rfl, rfl⟩, HB2.out⟩
  | true =>
    have HF := Lib.hid (hb.1 rfl)
    clear hb
    obtain ⟨hk1, hk5⟩ := kind_bd HF.out.2.2.2.2.2.2
    have p0 : IntKind.u8.wrap r.kind = r.kind := by (unfold IntKind.wrap; simp [IntKind.signed, IntKind.bits]; omega)
    have HOL := Lib.hid (recB_len HWF.out HF.out)
    have HO3 : Hid (Own (w2.alloc (.cells #[.int .u8 r.kind] 5)) w.heap.size (.slice (some ⟨w2.heap.size, 0, none⟩) 1 1) [r.kind]) := Lib.hid (Own.lit w2 [r.kind] HB2.out.size (by simp))
    obtain ⟨W3, hW3⟩ : ∃ q, w2.alloc (.cells #[.int .u8 r.kind] 5) = q := ⟨_, rfl⟩
    have hb3 : Below w2.heap.size w2 W3 := by rw [← hW3]; exact (Below.refl _ _).alloc (Nat.le_refl _) _
    rw [hW3] at HO3
    have HB3 := Lib.hid (HB2.out.trans (hb3.mono HB2.out.size))
    have HA3 := Lib.hid ((hb3.block _ (row_lt HA2.out)).trans HA2.out)
    have hw2 := bounds_u64 HWF.out.2.2.1
    have hw3 := bounds_u64 HWF.out.2.2.2.1
    have hw4 := bounds_u64 HWF.out.2.2.2.2.1
    have q2 := cell_of_row _ _ 0 _ _ _ HA2.out
    have q0 := q2.trans rfl
    clear hb3 q2
    have HW0 : Hid (Wr w (rArr r (.slice a1 r.ent.cmd.nodes.length b1) (.slice a2 r.shot.nodes.length b2) (.slice a3 r.shot.led.held.length b3) (.slice a4 r.shot.led.last.length b4)) (.slice (some ⟨w2.heap.size, 0, none⟩) 1 1) [r.kind] W3) := Lib.hid ⟨HO3.out, HB3.out, HA3.out⟩
    obtain ⟨c0, c1, c2, c3, c4, c5, c6, c7, c8, c9, c10, c11, c12, c13, c14, c15, c16, c17, c18, c19, c20⟩ := cells21 HW0.out.2.2
    rcases HF.out.2.2.2.2.2.2 with ⟨hk, hx⟩ | ⟨hk, hx⟩ | ⟨hk, hx⟩ | ⟨hk, hx⟩ | ⟨hk, hx⟩
    · have n1 : (r.kind == 1) = true := beq_iff_eq.2 hk
      have HE : Hid ([r.kind] ++ numI r.boot = recB r) := Lib.hid (by unfold recB recT; rw [if_pos hk]; simp)
      clear hk
      go_wp2_with fail
      refine (rnum_int (r.boot) _ (by omega) (by omega)).mono ?_
      rintro e u1 ⟨x1, rfl, -, hs1, hb1⟩
      have HW1 := Lib.hid (HW0.out.call hb1)
      have own1 := HW1.out.1
      have hl1 : ([r.kind]).length + (numI (r.boot)).length ≤ 140737488355328 := by
        have := numI_len (n := r.boot) (by omega) (by omega)
        simp only [List.length_cons, List.length_nil]
        omega
      have hz1 := HW1.out.2.1.size
      clear hb1 c0 c1 c2 c3 c4 c5 c6 c7 c8 c9 c10 c11 c12 c13 c14 c15 c16 c17 c18 c19 c20
      go_wp2_with (first
        | (at_builtin; refine app8q rfl _ _ rfl w.heap.size _ _ rfl own1 _ _ rfl hs1 hl1 hz1 ?_; intro y1 z1 ho1 hg1 hm1; have HX1 := Lib.hid (HW1.out.app ho1 hg1); rw [HE.out] at ho1; have hq1 := run_str (ho1.sl HOL.out.2); clear ho1 hg1 hm1 own1 hs1 hl1 hz1))
      go_ret2
      exact ⟨_, _, rfl, .inl ⟨HF.out, rfl, rfl⟩, HX1.out.2.1⟩
    · have n1 : (r.kind == 1) = false := beq_eq_false_iff_ne.2 (by omega)
      have n2 : (r.kind == 2) = true := beq_iff_eq.2 hk
      have HE : Hid (([r.kind] ++ numI r.term) ++ numI r.vote = recB r) := Lib.hid (by unfold recB recT; rw [if_neg (show ¬ r.kind = 1 by omega)]; rw [if_pos hk]; simp)
      have p1 : IntKind.u64.wrap r.vote = r.vote := by (unfold IntKind.wrap; simp [IntKind.signed, IntKind.bits]; omega)
      obtain ⟨hv0, hv1⟩ := hx.2
      clear hk
      go_upto_region 8 with (fail)
      have HW0d := Lib.hid (HW0.out.call ((Below.refl _ _).drew : Below W3.heap.size W3 W3.drew))
      refine wp_region_held_drew (S := fun w' => w'.heap[w.heap.size]? = some (.cells (rArr r (.slice a1 r.ent.cmd.nodes.length b1) (.slice a2 r.shot.nodes.length b2) (.slice a3 r.shot.led.held.length b3) (.slice a4 r.shot.led.last.length b4)) 35 (0, 0))) (by kernel_rfl) HW0.out.2.2 (fun hHeld => ?_)
      clear c0 c1 c2 c3 c4 c5 c6 c7 c8 c9 c10 c11 c12 c13 c14 c15 c16 c17 c18 c19 c20
      refine wpAnyH_take (i := 0) (v := (.slice (some ⟨w2.heap.size, 0, none⟩) 1 1)) rfl (by kernel_rfl) (by kernel_rfl) (by kernel_rfl) (fun _ _ _ h => h) (Or.inl ⟨by kernel_rfl, ?_⟩) (by assumption) ?_
      · intro wx hSw
        clear hSw hHeld
        go_simp
        try first | with_reducible rfl | kernel_rfl
      simp only [Act.put, List.getElem_toArray, List.getElem_cons_zero, List.setIfInBounds_toArray, List.set_cons_succ, List.set_cons_zero]
      refine wpAnyH_take (i := 1) (v := .pointer (some ⟨w.heap.size, 3, none⟩)) rfl (by kernel_rfl) (by kernel_rfl) (by kernel_rfl) (fun _ _ _ h => h) (Or.inl ⟨by kernel_rfl, ?_⟩) (by assumption) ?_
      · intro wx hSw
        clear hSw hHeld
        go_simp
        try first | with_reducible rfl | kernel_rfl
      simp only [Act.put, List.getElem_toArray, List.getElem_cons_succ, List.getElem_cons_zero, List.setIfInBounds_toArray, List.set_cons_succ, List.set_cons_zero]
      refine wpAnyH_take (i := 2) (v := (.int .u64 r.term)) rfl (by kernel_rfl) (by kernel_rfl) (by kernel_rfl) (fun _ _ _ h => h) (Or.inl ⟨by kernel_rfl, ?_⟩) (by assumption) ?_
      · intro wx hSw
        have cc : wx.cell? ⟨w.heap.size, 3, none⟩ = some (.int .u64 r.term) := (cell_of_row wx _ 3 _ _ _ hSw).trans rfl
        clear hSw hHeld
        go_simp
        try first | with_reducible rfl | kernel_rfl
      simp only [Act.put, List.getElem_toArray, List.getElem_cons_succ, List.getElem_cons_zero, List.setIfInBounds_toArray, List.set_cons_succ, List.set_cons_zero]
      refine wpAnyH_take (i := 5) (v := .pointer (some ⟨w.heap.size, 1, none⟩)) rfl (by kernel_rfl) (by kernel_rfl) (by kernel_rfl) (fun _ _ _ h => h) (Or.inl ⟨by kernel_rfl, ?_⟩) (by assumption) ?_
      · intro wx hSw
        clear hSw hHeld
        go_simp
        try first | with_reducible rfl | kernel_rfl
      simp only [Act.put, List.getElem_toArray, List.getElem_cons_succ, List.getElem_cons_zero, List.setIfInBounds_toArray, List.set_cons_succ, List.set_cons_zero]
      refine wpAnyH_take (i := 6) (v := (.int .i64 r.vote)) rfl (by kernel_rfl) (by kernel_rfl) (by kernel_rfl) (fun _ _ _ h => h) (Or.inl ⟨by kernel_rfl, ?_⟩) (by assumption) ?_
      · intro wx hSw
        have cc : wx.cell? ⟨w.heap.size, 1, none⟩ = some (.int .i64 r.vote) := (cell_of_row wx _ 1 _ _ _ hSw).trans rfl
        clear hSw hHeld
        go_simp
        try first | with_reducible rfl | kernel_rfl
      simp only [Act.put, List.getElem_toArray, List.getElem_cons_succ, List.getElem_cons_zero, List.setIfInBounds_toArray, List.set_cons_succ, List.set_cons_zero]
      refine wpAnyH_take (i := 7) (v := (.int .u64 r.vote)) rfl (by kernel_rfl) (by kernel_rfl) (by kernel_rfl) (fun _ _ _ h => h) (Or.inl ⟨by kernel_rfl, ?_⟩) (by assumption) ?_
      · intro wx hSw
        clear hSw hHeld
        go_simp
        try first | with_reducible rfl | kernel_rfl
      simp only [Act.put, List.getElem_toArray, List.getElem_cons_succ, List.getElem_cons_zero, List.setIfInBounds_toArray, List.set_cons_succ, List.set_cons_zero]
      refine wpAnyH_ready (rs := [3]) (by kernel_rfl) (by simp) ?_
      refine AllReadyH.cons rfl (fun K hK => ?_) AllReadyH.nil
      go_simp
      refine (rnum_int r.term _ (by omega) (by omega)).mono ?_
      rintro e u1 ⟨x1, rfl, -, hs1, hb1⟩
      have HW1 := Lib.hid (HW0d.out.call hb1)
      have HS1 := Lib.hid hs1
      clear hs1 hb1 hHeld
      refine hK.out _ _ HW1.out.2.2 (fun hHeld => ?_)
      clear hK K
      have hl1 : ([r.kind]).length + (numI r.term).length ≤ 140737488355328 := by
        have := numI_len (n := r.term) (by omega) (by omega)
        simp only [List.length_cons, List.length_nil]
        omega
      refine wpAnyH_ready (rs := [4]) (by kernel_rfl) (by simp) ?_
      refine AllReadyH.cons rfl (fun K hK => ?_) AllReadyH.nil
      refine stepL rfl _ _ rfl w.heap.size _ _ rfl HW1.out.1 _ _ rfl HS1.out (numI_pos _) hl1 HW1.out.2.1.size ?_
      intro y1 z1 ho1 hg1 hm1
      have HX1 := Lib.hid (HW1.out.app ho1 hg1)
      clear ho1 hg1 hl1 hm1 hHeld
      refine hK.out _ _ HX1.out.2.2 (fun hHeld => ?_)
      clear hK K
      refine wpAnyH_ready (rs := [8]) (by kernel_rfl) (by simp) ?_
      refine AllReadyH.cons rfl (fun K hK => ?_) AllReadyH.nil
      go_simp
      refine (rnum_int r.vote _ (by omega) (by omega)).mono ?_
      rintro e u2 ⟨x2, rfl, -, hs2, hb2⟩
      have HW2 := Lib.hid (HX1.out.call hb2)
      have HS2 := Lib.hid hs2
      clear hs2 hb2 hHeld
      refine hK.out _ _ HW2.out.2.2 (fun hHeld => ?_)
      clear hK K
      have hl2 : ([r.kind] ++ numI r.term).length + (numI r.vote).length ≤ 140737488355328 := by
        have := numI_len (n := r.term) (by omega) (by omega)
        have := numI_len (n := r.vote) (by omega) (by omega)
        simp only [List.length_append, List.length_cons, List.length_nil]
        omega
      refine wpAnyH_ready (rs := [9]) (by kernel_rfl) (by simp) ?_
      refine AllReadyH.cons rfl (fun K hK => ?_) AllReadyH.nil
      refine stepL rfl _ _ rfl w.heap.size _ _ rfl HW2.out.1 _ _ rfl HS2.out (numI_pos _) hl2 HW2.out.2.1.size ?_
      intro y2 z2 ho2 hg2 hm2
      have HX2 := Lib.hid (HW2.out.app ho2 hg2)
      clear ho2 hg2 hl2 hm2 hHeld
      refine hK.out _ _ HX2.out.2.2 (fun hHeld => ?_)
      clear hK K
      refine wpAnyH_take (i := 10) (v := y2) rfl (by kernel_rfl) (by kernel_rfl) (by kernel_rfl) (fun _ _ _ h => h) (Or.inl ⟨by kernel_rfl, ?_⟩) (by assumption) ?_
      · intro wx hSw
        clear hSw hHeld
        go_simp
        try first | with_reducible rfl | kernel_rfl
      simp only [Act.put, List.getElem_toArray, List.getElem_cons_succ, List.getElem_cons_zero, List.setIfInBounds_toArray, List.set_cons_succ, List.set_cons_zero]
      refine wpAnyH_done (by kernel_rfl) ?_ _
      clear hHeld
      have hqz := run_str ((show Own z2 w.heap.size y2 (recB r) by rw [← HE.out]; exact HX2.out.1).sl HOL.out.2)
      go_wp2
      go_ret2
      exact ⟨_, _, rfl, .inl ⟨HF.out, rfl, rfl⟩, HX2.out.2.1⟩
    · have n1 : (r.kind == 1) = false := beq_eq_false_iff_ne.2 (by omega)
      have n2 : (r.kind == 2) = false := beq_eq_false_iff_ne.2 (by omega)
      have n3 : (r.kind == 3) = true := beq_iff_eq.2 hk
      have HE : Hid ((([r.kind] ++ numI r.index) ++ numI r.ent.term) ++ encL r.ent.cmd = recB r) := Lib.hid (by unfold recB recT; rw [if_neg (show ¬ r.kind = 1 by omega)]; rw [if_neg (show ¬ r.kind = 2 by omega)]; rw [if_pos hk]; simp [entB])
      have HX := Lib.hid hx.2
      have hw5 := bounds_u64 HWF.out.2.2.2.2.2.1.1
      have HEW := Lib.hid (ent_led HRL.out HWF.out HW0.out.2.1).1
      have HCH := Lib.hid (fitsB_of hx.2).2
      have hw7 : IsCmd W3 (.agg (Cm.cArr r.ent.cmd (.slice a1 r.ent.cmd.nodes.length b1))) r.ent.cmd := ⟨_, rfl, HRL.out.1.below HW0.out.2.1 (Nat.le_refl _), HWF.out.2.2.2.2.2.1.2⟩
      have HCM := Lib.hid hw7
      clear hk hx hw7
      go_wp2_with fail
      refine (rencode_yes r.ent.cmd _ _ HCM.out HCH.out (rchk_eq HWF.out.2.2.2.2.2.1.2)).mono ?_
      rintro e u0 ⟨x0, rfl, hown0, hs0, hb0⟩
      have HW4 := Lib.hid (HW0.out.call hb0)
      have hbd : Below u0.heap.size u0 u0.drew := (Below.refl _ _).drew
      have HS0 := Lib.hid (hs0.below hbd (Nat.le_refl _))
      have HF0 := Lib.hid ((Far.new (k := .u8) (e := 5) HW0.out.1 (Nat.le_refl _) hown0).below hbd)
      clear hbd hown0
      obtain ⟨ac, cc, rfl, -⟩ := id hs0
      clear hb0 hs0 c0 c1 c2 c3 c4 c5 c6 c7 c8 c9 c10 c11 c12 c13 c14 c15 c16 c17 c18 c19 c20
      go_upto_region 11 with (fail)
      have HW4d := Lib.hid (HW4.out.call ((Below.refl _ _).drew : Below u0.heap.size u0 u0.drew))
      refine wp_region_held_drew (S := fun w' => w'.heap[w.heap.size]? = some (.cells (rArr r (.slice a1 r.ent.cmd.nodes.length b1) (.slice a2 r.shot.nodes.length b2) (.slice a3 r.shot.led.held.length b3) (.slice a4 r.shot.led.last.length b4)) 35 (0, 0))) (by kernel_rfl) HW4.out.2.2 (fun hHeld => ?_)
      refine wpAnyH_take (i := 0) (v := (.slice (some ⟨w2.heap.size, 0, none⟩) 1 1)) rfl (by kernel_rfl) (by kernel_rfl) (by kernel_rfl) (fun _ _ _ h => h) (Or.inl ⟨by kernel_rfl, ?_⟩) (by assumption) ?_
      · intro wx hSw
        clear hSw hHeld
        go_simp
        try first | with_reducible rfl | kernel_rfl
      simp only [Act.put, List.getElem_toArray, List.getElem_cons_zero, List.setIfInBounds_toArray, List.set_cons_succ, List.set_cons_zero]
      refine wpAnyH_take (i := 1) (v := .pointer (some ⟨w.heap.size, 4, none⟩)) rfl (by kernel_rfl) (by kernel_rfl) (by kernel_rfl) (fun _ _ _ h => h) (Or.inl ⟨by kernel_rfl, ?_⟩) (by assumption) ?_
      · intro wx hSw
        clear hSw hHeld
        go_simp
        try first | with_reducible rfl | kernel_rfl
      simp only [Act.put, List.getElem_toArray, List.getElem_cons_succ, List.getElem_cons_zero, List.setIfInBounds_toArray, List.set_cons_succ, List.set_cons_zero]
      refine wpAnyH_take (i := 2) (v := (.int .u64 r.index)) rfl (by kernel_rfl) (by kernel_rfl) (by kernel_rfl) (fun _ _ _ h => h) (Or.inl ⟨by kernel_rfl, ?_⟩) (by assumption) ?_
      · intro wx hSw
        have cc : wx.cell? ⟨w.heap.size, 4, none⟩ = some (.int .u64 r.index) := (cell_of_row wx _ 4 _ _ _ hSw).trans rfl
        clear hSw hHeld
        go_simp
        try first | with_reducible rfl | kernel_rfl
      simp only [Act.put, List.getElem_toArray, List.getElem_cons_succ, List.getElem_cons_zero, List.setIfInBounds_toArray, List.set_cons_succ, List.set_cons_zero]
      refine wpAnyH_take (i := 5) (v := .pointer (some ⟨w.heap.size, 5, none⟩)) rfl (by kernel_rfl) (by kernel_rfl) (by kernel_rfl) (fun _ _ _ h => h) (Or.inl ⟨by kernel_rfl, ?_⟩) (by assumption) ?_
      · intro wx hSw
        clear hSw hHeld
        go_simp
        try first | with_reducible rfl | kernel_rfl
      simp only [Act.put, List.getElem_toArray, List.getElem_cons_succ, List.getElem_cons_zero, List.setIfInBounds_toArray, List.set_cons_succ, List.set_cons_zero]
      refine wpAnyH_take (i := 6) (v := .pointer (some ⟨w.heap.size, 5, none⟩)) rfl (by kernel_rfl) (by kernel_rfl) (by kernel_rfl) (fun _ _ _ h => h) (Or.inl ⟨by kernel_rfl, ?_⟩) (by assumption) ?_
      · intro wx hSw
        clear hSw hHeld
        go_simp
        try first | with_reducible rfl | kernel_rfl
      simp only [Act.put, List.getElem_toArray, List.getElem_cons_succ, List.getElem_cons_zero, List.setIfInBounds_toArray, List.set_cons_succ, List.set_cons_zero]
      refine wpAnyH_take (i := 7) (v := (.int .u64 r.ent.term)) rfl (by kernel_rfl) (by kernel_rfl) (by kernel_rfl) (fun _ _ _ h => h) (Or.inl ⟨by kernel_rfl, ?_⟩) (by assumption) ?_
      · intro wx hSw
        have cc : wx.cell? ⟨w.heap.size, 5, none⟩ = some (.int .u64 r.ent.term) := (cell_of_row wx _ 5 _ _ _ hSw).trans rfl
        clear hSw hHeld
        go_simp
        try first | with_reducible rfl | kernel_rfl
      simp only [Act.put, List.getElem_toArray, List.getElem_cons_succ, List.getElem_cons_zero, List.setIfInBounds_toArray, List.set_cons_succ, List.set_cons_zero]
      refine wpAnyH_take (i := 10) (v := (.slice ac (encL r.ent.cmd).length cc)) rfl (by kernel_rfl) (by kernel_rfl) (by kernel_rfl) (fun _ _ _ h => h) (Or.inl ⟨by kernel_rfl, ?_⟩) (by assumption) ?_
      · intro wx hSw
        clear hSw hHeld
        go_simp
        try first | with_reducible rfl | kernel_rfl
      simp only [Act.put, List.getElem_toArray, List.getElem_cons_succ, List.getElem_cons_zero, List.setIfInBounds_toArray, List.set_cons_succ, List.set_cons_zero]
      refine wpAnyH_ready (rs := [3]) (by kernel_rfl) (by simp) ?_
      refine AllReadyH.cons rfl (fun K hK => ?_) AllReadyH.nil
      go_simp
      refine (rnum_int r.index _ (by omega) (by omega)).mono ?_
      rintro e u1 ⟨x1, rfl, -, hs1, hb1⟩
      have HW1 := Lib.hid (HW4d.out.call hb1)
      have HS1 := Lib.hid hs1
      have HSc1 := Lib.hid (HS0.out.below hb1 (Nat.le_refl _))
      have HFc1 := Lib.hid (HF0.out.below hb1)
      clear hs1 hb1 hHeld
      refine hK.out _ _ HW1.out.2.2 (fun hHeld => ?_)
      clear hK K
      have hl1 : ([r.kind]).length + (numI r.index).length ≤ 140737488355328 := by
        have := numI_len (n := r.index) (by omega) (by omega)
        simp only [List.length_cons, List.length_nil]
        omega
      refine wpAnyH_ready (rs := [4]) (by kernel_rfl) (by simp) ?_
      refine AllReadyH.cons rfl (fun K hK => ?_) AllReadyH.nil
      refine stepL rfl _ _ rfl w.heap.size _ _ rfl HW1.out.1 _ _ rfl HS1.out (numI_pos _) hl1 HW1.out.2.1.size ?_
      intro y1 z1 ho1 hg1 hm1
      have HX1 := Lib.hid (HW1.out.app ho1 hg1)
      have HSa1 := Lib.hid (HSc1.out.far HFc1.out hg1)
      have HFa1 := Lib.hid (HFc1.out.step hg1 hm1)
      clear ho1 hg1 hl1 hm1 hHeld
      refine hK.out _ _ HX1.out.2.2 (fun hHeld => ?_)
      clear hK K
      refine wpAnyH_ready (rs := [8]) (by kernel_rfl) (by simp) ?_
      refine AllReadyH.cons rfl (fun K hK => ?_) AllReadyH.nil
      go_simp
      refine (rnum_int r.ent.term _ (by omega) (by omega)).mono ?_
      rintro e u2 ⟨x2, rfl, -, hs2, hb2⟩
      have HW2 := Lib.hid (HX1.out.call hb2)
      have HS2 := Lib.hid hs2
      have HSc2 := Lib.hid (HSa1.out.below hb2 (Nat.le_refl _))
      have HFc2 := Lib.hid (HFa1.out.below hb2)
      clear hs2 hb2 hHeld
      refine hK.out _ _ HW2.out.2.2 (fun hHeld => ?_)
      clear hK K
      have hl2 : ([r.kind] ++ numI r.index).length + (numI r.ent.term).length ≤ 140737488355328 := by
        have := numI_len (n := r.index) (by omega) (by omega)
        have := numI_len (n := r.ent.term) (by omega) (by omega)
        simp only [List.length_append, List.length_cons, List.length_nil]
        omega
      refine wpAnyH_ready (rs := [9]) (by kernel_rfl) (by simp) ?_
      refine AllReadyH.cons rfl (fun K hK => ?_) AllReadyH.nil
      refine stepL rfl _ _ rfl w.heap.size _ _ rfl HW2.out.1 _ _ rfl HS2.out (numI_pos _) hl2 HW2.out.2.1.size ?_
      intro y2 z2 ho2 hg2 hm2
      have HX2 := Lib.hid (HW2.out.app ho2 hg2)
      have HSa2 := Lib.hid (HSc2.out.far HFc2.out hg2)
      clear ho2 hg2 hl2 hm2 hHeld
      refine hK.out _ _ HX2.out.2.2 (fun hHeld => ?_)
      clear hK K
      have hl3 : (([r.kind] ++ numI r.index) ++ numI r.ent.term).length + (encL r.ent.cmd).length ≤ 140737488355328 := by
        have := numI_len (n := r.index) (by omega) (by omega)
        have := numI_len (n := r.ent.term) (by omega) (by omega)
        have := (entB_len HWF.out.2.2.2.2.2.1 HX.out).1
        rw [show entB r.ent = numI r.ent.term ++ encL r.ent.cmd from rfl, List.length_append] at this
        simp only [List.length_append, List.length_cons, List.length_nil]
        omega
      refine wpAnyH_ready (rs := [11]) (by kernel_rfl) (by simp) ?_
      refine AllReadyH.cons rfl (fun K hK => ?_) AllReadyH.nil
      refine stepL rfl _ _ rfl w.heap.size _ _ rfl HX2.out.1 _ _ rfl HSa2.out (by have := numI_pos r.ent.cmd.kind; unfold encL; simp only [List.length_append]; omega) hl3 HX2.out.2.1.size ?_
      intro y3 z3 ho3 hg3 hm3
      have HX3 := Lib.hid (HX2.out.app ho3 hg3)
      clear ho3 hg3 hl3 hm3 hHeld
      refine hK.out _ _ HX3.out.2.2 (fun hHeld => ?_)
      clear hK K
      refine wpAnyH_take (i := 12) (v := y3) rfl (by kernel_rfl) (by kernel_rfl) (by kernel_rfl) (fun _ _ _ h => h) (Or.inl ⟨by kernel_rfl, ?_⟩) (by assumption) ?_
      · intro wx hSw
        clear hSw hHeld
        go_simp
        try first | with_reducible rfl | kernel_rfl
      simp only [Act.put, List.getElem_toArray, List.getElem_cons_succ, List.getElem_cons_zero, List.setIfInBounds_toArray, List.set_cons_succ, List.set_cons_zero]
      refine wpAnyH_done (by kernel_rfl) ?_ _
      clear hHeld
      have hqz := run_str ((show Own z3 w.heap.size y3 (recB r) by rw [← HE.out]; exact HX3.out.1).sl HOL.out.2)
      go_wp2
      go_ret2
      exact ⟨_, _, rfl, .inl ⟨HF.out, rfl, rfl⟩, HX3.out.2.1⟩
    · have n1 : (r.kind == 1) = false := beq_eq_false_iff_ne.2 (by omega)
      have n2 : (r.kind == 2) = false := beq_eq_false_iff_ne.2 (by omega)
      have n3 : (r.kind == 3) = false := beq_eq_false_iff_ne.2 (by omega)
      have n4 : (r.kind == 4) = true := beq_iff_eq.2 hk
      have HE : Hid ([r.kind] ++ numI r.index = recB r) := Lib.hid (by unfold recB recT; rw [if_neg (show ¬ r.kind = 1 by omega)]; rw [if_neg (show ¬ r.kind = 2 by omega)]; rw [if_neg (show ¬ r.kind = 3 by omega)]; rw [if_pos hk]; simp)
      clear hk
      go_wp2_with fail
      refine (rnum_int (r.index) _ (by omega) (by omega)).mono ?_
      rintro e u1 ⟨x1, rfl, -, hs1, hb1⟩
      have HW1 := Lib.hid (HW0.out.call hb1)
      have own1 := HW1.out.1
      have hl1 : ([r.kind]).length + (numI (r.index)).length ≤ 140737488355328 := by
        have := numI_len (n := r.index) (by omega) (by omega)
        simp only [List.length_cons, List.length_nil]
        omega
      have hz1 := HW1.out.2.1.size
      clear hb1 c0 c1 c2 c3 c4 c5 c6 c7 c8 c9 c10 c11 c12 c13 c14 c15 c16 c17 c18 c19 c20
      go_wp2_with (first
        | (at_builtin; refine app8q rfl _ _ rfl w.heap.size _ _ rfl own1 _ _ rfl hs1 hl1 hz1 ?_; intro y1 z1 ho1 hg1 hm1; have HX1 := Lib.hid (HW1.out.app ho1 hg1); rw [HE.out] at ho1; have hq1 := run_str (ho1.sl HOL.out.2); clear ho1 hg1 hm1 own1 hs1 hl1 hz1))
      go_ret2
      exact ⟨_, _, rfl, .inl ⟨HF.out, rfl, rfl⟩, HX1.out.2.1⟩
    · have n1 : (r.kind == 1) = false := beq_eq_false_iff_ne.2 (by omega)
      have n2 : (r.kind == 2) = false := beq_eq_false_iff_ne.2 (by omega)
      have n3 : (r.kind == 3) = false := beq_eq_false_iff_ne.2 (by omega)
      have n4 : (r.kind == 4) = false := beq_eq_false_iff_ne.2 (by omega)
      have n5 : (r.kind == 5) = true := beq_iff_eq.2 hk
      have HE : Hid ([r.kind] ++ shotB r.shot = recB r) := Lib.hid (by unfold recB recT; rw [if_neg (show ¬ r.kind = 1 by omega)]; rw [if_neg (show ¬ r.kind = 2 by omega)]; rw [if_neg (show ¬ r.kind = 3 by omega)]; rw [if_neg (show ¬ r.kind = 4 by omega)]; simp)
      have HX := Lib.hid hx
      clear hk hx
      go_wp2_with fail
      refine (rbytes_any r.shot _ _ (ent_led HRL.out HWF.out HW0.out.2.1).2 HX.out).mono ?_
      rintro e u2 ⟨x2, rfl, ho2, hb2, -⟩
      have hs2 := ho2.sl (shotB_len (nums_of HWF.out.2.2.2.2.2.2 HX.out)).2
      have HW2 := Lib.hid (HW0.out.call hb2)
      have own2 := HW2.out.1
      have hl2 : ([r.kind]).length + (shotB r.shot).length ≤ 140737488355328 := by
        have := (shotB_len (nums_of HWF.out.2.2.2.2.2.2 HX.out)).1
        simp only [List.length_cons, List.length_nil]
        omega
      have hz2 := HW2.out.2.1.size
      clear hb2 ho2 c0 c1 c2 c3 c4 c5 c6 c7 c8 c9 c10 c11 c12 c13 c14 c15 c16 c17 c18 c19 c20
      go_wp2_with (first
        | (at_builtin; refine app8q rfl _ _ rfl w.heap.size _ _ rfl own2 _ _ rfl hs2 hl2 hz2 ?_; intro y2 z2 ho2 hg2 hm2; have HX2 := Lib.hid (HW2.out.app ho2 hg2); rw [HE.out] at ho2; have hq2 := run_str (ho2.sl HOL.out.2); clear ho2 hg2 hm2 own2 hs2 hl2 hz2))
      go_ret2
      exact ⟨_, _, rfl, .inl ⟨HF.out, rfl, rfl⟩, HX2.out.2.1⟩
end Rk
end Go.Proofs.Ytngnhegmealokaa
