/- entry.Encode and hard.Encode. No condition. -/
import Derived.Test.YtngnhegmealokaaRkX
import Derived.Test.YtngnhegmealokaaCeA
import Derived.Deep.MidRow
namespace Go.Proofs.Ytngnhegmealokaa
open Go.ChangeShapes Go.WideShapes Go.ChangeAt Go.RowKit Go.Deep
set_option linter.unusedVariables false
set_option maxRecDepth 100000
namespace Rk
open Cm Sc Rc Hd Nv Sh
/-- what is known while a record's bytes are written -/
def Wr (w : World) (cs : Array Value) (v : Value) (bs : List Int) (W : World) : Prop := Own W w.heap.size v bs ∧ Below w.heap.size w W ∧ W.heap[w.heap.size]? = some (.cells cs 35 (0, 0))
theorem Wr.call {w W W' : World} {cs : Array Value} {v : Value} {bs : List Int} (h : Wr w cs v bs W) (hb : Below W.heap.size W W') : Wr w cs v bs W' :=
  ⟨h.1.below hb (Nat.le_refl _), h.2.1.trans (hb.mono h.2.1.size), (hb.block _ (row_lt h.2.2)).trans h.2.2⟩
theorem Wr.app {w W W' : World} {cs : Array Value} {v v' : Value} {bs bs' : List Int} (h : Wr w cs v bs W) (own : Own W' w.heap.size v' bs') (hg : W.grownBy W' v.ownBlock) : Wr w cs v' bs' W' :=
  ⟨own, h.2.1.trans (below_grown h.1 h.2.1.size hg), ByT.grown h.1 hg _ _ _ _ h.2.2 (by decide)⟩
def GivesOct (zs : List Int) (w : World) (e : Ending) (w' : World) : Prop := ∃ v, e = .returned v ∧ Own w' w.heap.size v zs ∧ Sl .u8 w' v zs ∧ Below w.heap.size w w'
set_option maxHeartbeats 4000000 in
theorem entenc_any (x : Ent) (v : Value) (w : World) (h : Hd.IsEnt w v x) (hf : Hd.fitsB x = true) : Calls Try.prog 15 #[v] w (GivesOct (entB x) w) := by
  obtain ⟨vn, rfl, hsl, hwf⟩ := h
  obtain ⟨a1, b1, rfl, -⟩ := id hsl
  obtain ⟨h1, h2⟩ := fitsB_of hf
  obtain ⟨W1, hW1⟩ : ∃ q, w.alloc (.cells (entC (x, .slice a1 x.cmd.nodes.length b1)).toArray 27) = q := ⟨_, rfl⟩
  have hb0 : Below w.heap.size w W1 := by rw [← hW1]; exact (Below.refl _ _).alloc (Nat.le_refl _) _
  have HA : Hid (W1.heap[w.heap.size]? = some (.cells (entC (x, .slice a1 x.cmd.nodes.length b1)).toArray 27 (0, 0))) := Lib.hid (by rw [← hW1]; exact heap_alloc_new _ _)
  have HB := Lib.hid hb0
  have HI : Hid (IsCmd W1 (.agg (Cm.cArr x.cmd (.slice a1 x.cmd.nodes.length b1))) x.cmd) := Lib.hid ⟨_, rfl, hsl.below hb0 (Nat.le_refl _), hwf.2⟩
  obtain ⟨b0, b1, b2, b3, b4, b5, b6, b7, b8⟩ := Hd.ent9 HA.out
  have ht := bounds_u64 hwf.1
  have HL := Lib.hid (entB_len hwf hf)
  have l1 := numI_len (n := x.term) (by omega) (by omega)
  have l2 := (encL_len hwf.2 h2).1
  have H2 := Lib.hid h2
  clear hsl hwf hb0 h2 hf
  go_enter Try.func15, Try.ntmps15
  go_wp2_with fail
  refine (encode_yes x.cmd _ _ HI.out H2.out).mono ?_
  rintro e w2 ⟨v2, rfl, -, hs2, hbx⟩
  have HB2 := Lib.hid (HB.out.trans (hbx.mono HB.out.size))
  have HS2 := Lib.hid hs2
  have HA2 := Lib.hid ((hbx.block _ (row_lt HA.out)).trans HA.out)
  clear b0 b1 b2 b3 b4 b5 b6 b7 b8 hbx hs2
  obtain ⟨b0, -⟩ := Hd.ent9 HA2.out
  go_wp2_with fail
  refine (num_int x.term _ (by omega) (by omega)).mono ?_
  rintro e w3 ⟨v3, rfl, hown3, -, hbx⟩
  have hs3 := HS2.out.below hbx (Nat.le_refl _)
  have HB3 := Lib.hid (HB2.out.trans (hbx.mono HB2.out.size))
  have hz := HB3.out.size
  have hz2 := HB2.out.size
  have hz3 := hbx.size
  have hlb : (numI x.term).length + (encL x.cmd).length ≤ 140737488355328 := by omega
  clear hbx b0
  go_wp2_with (first
    | (at_builtin; refine app8q rfl _ _ rfl w2.heap.size _ _ rfl hown3 _ _ rfl hs3 hlb hz3 ?_; intro v4 w4 hown4 hg4 hl4; have HO4 := Lib.hid hown4; have HB4 := Lib.hid (HB3.out.trans ((below_grown hown3 hz3 hg4).mono hz2)); clear hown4 hg4 hl4 hown3 hs3))
  go_ret
  have q : Own w4 w.heap.size v4 (entB x) := HO4.out.mono hz2
  exact ⟨_, rfl, q, q.sl HL.out.2, HB4.out⟩
set_option maxHeartbeats 8000000 in
theorem enc_any (r : RecR) (v : Value) (w : World) (h : IsRec w v r) : Calls Try.prog 7 #[v] w (EncR r w) := by
  obtain ⟨vc, vn, vh, vl, rfl, ⟨hc, hn, hh, hl⟩, hwf⟩ := id h
  obtain ⟨a1, b1, rfl, -⟩ := id hc
  obtain ⟨a2, b2, rfl, -⟩ := id hn
  obtain ⟨a3, b3, rfl, -⟩ := id hh
  obtain ⟨a4, b4, rfl, -⟩ := id hl
  obtain ⟨W1, hW1⟩ : ∃ q, w.alloc (.cells (rArr r (.slice a1 r.ent.cmd.nodes.length b1) (.slice a2 r.shot.nodes.length b2) (.slice a3 r.shot.led.held.length b3) (.slice a4 r.shot.led.last.length b4)) 35) = q := ⟨_, rfl⟩
  have hb1 : Below w.heap.size w W1 := by rw [← hW1]; exact (Below.refl _ _).alloc (Nat.le_refl _) _
  have HA1 : Hid (W1.heap[w.heap.size]? = some (.cells (rArr r (.slice a1 r.ent.cmd.nodes.length b1) (.slice a2 r.shot.nodes.length b2) (.slice a3 r.shot.led.held.length b3) (.slice a4 r.shot.led.last.length b4)) 35 (0, 0))) := Lib.hid (by rw [← hW1]; exact heap_alloc_new _ _)
  have HB1 := Lib.hid hb1
  have HR1 := Lib.hid (h.below hb1 (Nat.le_refl _))
  have HRL := Lib.hid (⟨hc, hn, hh, hl⟩ : RecL w r _ _ _ _)
  have HWF := Lib.hid hwf
  clear h hc hn hh hl hwf hb1
  go_enter Try.func7, Try.ntmps7
  go_wp2_with (first | (with_reducible refine wpList_load_row rfl 35 (.tmp 1) rfl w.heap.size rfl 35 (rArr r (.slice a1 r.ent.cmd.nodes.length b1) (.slice a2 r.shot.nodes.length b2) (.slice a3 r.shot.led.held.length b3) (.slice a4 r.shot.led.last.length b4)) (0, 0) _ HA1.out Try.underlying35 rfl (by kernel_rfl) ?_) | fail)
  refine (Rc.fits_any r _ _ HR1.out).mono ?_
  rintro e w2 ⟨b, rfl, hb, hbw⟩
  have HB2 := Lib.hid (HB1.out.trans (hbw.mono HB1.out.size))
  have HA2 := Lib.hid ((hbw.block _ (row_lt HA1.out)).trans HA1.out)
  clear hbw
  cases b with
  | false =>
    have HN : Hid (¬ fitsP r) := Lib.hid (fun q => by cases hb.2 q)
    clear hb
    go_wp2_with fail
    go_ret2
    exact ⟨_, _, rfl, .inr ⟨HN.out, rfl, rfl⟩, HB2.out⟩
  | true =>
    have HF := Lib.hid (hb.1 rfl)
    clear hb
    obtain ⟨hk1, hk5⟩ := kind_bd HF.out.2.2.2.2.2.2
    have p0 : IntKind.u8.wrap r.kind = r.kind := by (unfold IntKind.wrap; simp [IntKind.signed, IntKind.bits]; omega)
    have HOL := Lib.hid (recB_len HWF.out HF.out)
    have HO3 : Hid (Own (w2.alloc (.cells #[.int .u8 r.kind] 5)) w.heap.size (.slice (some ⟨w2.heap.size, 0, none⟩) 1 1) [r.kind]) := Lib.hid (Own.lit w2 [r.kind] HB2.out.size (by simp))
    obtain ⟨W3, hW3⟩ : ∃ q, w2.alloc (.cells #[.int .u8 r.kind] 5) = q := ⟨_, rfl⟩
    have hb3 : Below w2.heap.size w2 W3 := by rw [← hW3]; exact (Below.refl _ _).alloc (Nat.le_refl _) _
    rw [hW3] at HO3
    have HB3 := Lib.hid (HB2.out.trans (hb3.mono HB2.out.size))
    have HA3 := Lib.hid ((hb3.block _ (row_lt HA2.out)).trans HA2.out)
    have hw2 := bounds_u64 HWF.out.2.2.1
    have hw3 := bounds_u64 HWF.out.2.2.2.1
    have hw4 := bounds_u64 HWF.out.2.2.2.2.1
    have q2 := cell_of_row _ _ 0 _ _ _ HA2.out
    have q0 := q2.trans rfl
    clear hb3 q2
    have HW0 : Hid (Wr w (rArr r (.slice a1 r.ent.cmd.nodes.length b1) (.slice a2 r.shot.nodes.length b2) (.slice a3 r.shot.led.held.length b3) (.slice a4 r.shot.led.last.length b4)) (.slice (some ⟨w2.heap.size, 0, none⟩) 1 1) [r.kind] W3) := Lib.hid ⟨HO3.out, HB3.out, HA3.out⟩
    obtain ⟨c0, c1, c2, c3, c4, c5, c6, c7, c8, c9, c10, c11, c12, c13, c14, c15, c16, c17, c18, c19, c20⟩ := cells21 HW0.out.2.2
    rcases HF.out.2.2.2.2.2.2 with ⟨hk, hx⟩ | ⟨hk, hx⟩ | ⟨hk, hx⟩ | ⟨hk, hx⟩ | ⟨hk, hx⟩
    · have n1 : (r.kind == 1) = true := beq_iff_eq.2 hk
      have HE : Hid ([r.kind] ++ numI r.boot = recB r) := Lib.hid (by unfold recB recT; rw [if_pos hk]; simp)
      clear hk
      go_wp2_with fail
      refine (num_int (r.boot) _ (by omega) (by omega)).mono ?_
      rintro e u1 ⟨x1, rfl, -, hs1, hb1⟩
      have HW1 := Lib.hid (HW0.out.call hb1)
      have own1 := HW1.out.1
      have hl1 : ([r.kind]).length + (numI (r.boot)).length ≤ 140737488355328 := by
        have := numI_len (n := r.boot) (by omega) (by omega)
        simp only [List.length_cons, List.length_nil]
        omega
      have hz1 := HW1.out.2.1.size
      clear hb1 c0 c1 c2 c3 c4 c5 c6 c7 c8 c9 c10 c11 c12 c13 c14 c15 c16 c17 c18 c19 c20
      go_wp2_with (first
        | (at_builtin; refine app8q rfl _ _ rfl w.heap.size _ _ rfl own1 _ _ rfl hs1 hl1 hz1 ?_; intro y1 z1 ho1 hg1 hm1; have HX1 := Lib.hid (HW1.out.app ho1 hg1); rw [HE.out] at ho1; have hq1 := run_str (ho1.sl HOL.out.2); clear ho1 hg1 hm1 own1 hs1 hl1 hz1))
      go_ret2
      exact ⟨_, _, rfl, .inl ⟨HF.out, rfl, rfl⟩, HX1.out.2.1⟩
    · have n1 : (r.kind == 1) = false := beq_eq_false_iff_ne.2 (by omega)
      have n2 : (r.kind == 2) = true := beq_iff_eq.2 hk
      have HE : Hid (([r.kind] ++ numI r.term) ++ numI r.vote = recB r) := Lib.hid (by unfold recB recT; rw [if_neg (show ¬ r.kind = 1 by omega)]; rw [if_pos hk]; simp)
      have p1 : IntKind.u64.wrap r.vote = r.vote := by (unfold IntKind.wrap; simp [IntKind.signed, IntKind.bits]; omega)
      obtain ⟨hv0, hv1⟩ := hx.2
      clear hk
      go_wp2_with fail
      refine (num_int (r.term) _ (by omega) (by omega)).mono ?_
      rintro e u1 ⟨x1, rfl, -, hs1, hb1⟩
      have HW1 := Lib.hid (HW0.out.call hb1)
      have own1 := HW1.out.1
      have hl1 : ([r.kind]).length + (numI (r.term)).length ≤ 140737488355328 := by
        have := numI_len (n := r.term) (by omega) (by omega)
        simp only [List.length_cons, List.length_nil]
        omega
      have hz1 := HW1.out.2.1.size
      clear hb1 c0 c1 c2 c3 c4 c5 c6 c7 c8 c9 c10 c11 c12 c13 c14 c15 c16 c17 c18 c19 c20
      go_wp2_with (first
        | (at_builtin; refine app8q rfl _ _ rfl w.heap.size _ _ rfl own1 _ _ rfl hs1 hl1 hz1 ?_; intro y1 z1 ho1 hg1 hm1; have HX1 := Lib.hid (HW1.out.app ho1 hg1); obtain ⟨c0, c1, c2, c3, c4, c5, c6, c7, c8, c9, c10, c11, c12, c13, c14, c15, c16, c17, c18, c19, c20⟩ := cells21 HX1.out.2.2; clear ho1 hg1 hm1 own1 hs1 hl1 hz1))
      go_wp2_with fail
      refine (num_int (r.vote) _ (by omega) (by omega)).mono ?_
      rintro e u2 ⟨x2, rfl, -, hs2, hb2⟩
      have HW2 := Lib.hid (HX1.out.call hb2)
      have own2 := HW2.out.1
      have hl2 : ([r.kind] ++ numI r.term).length + (numI (r.vote)).length ≤ 140737488355328 := by
        have := numI_len (n := r.term) (by omega) (by omega)
        have := numI_len (n := r.vote) (by omega) (by omega)
        simp only [List.length_append, List.length_cons, List.length_nil]
        omega
      have hz2 := HW2.out.2.1.size
      clear hb2 c0 c1 c2 c3 c4 c5 c6 c7 c8 c9 c10 c11 c12 c13 c14 c15 c16 c17 c18 c19 c20
      go_wp2_with (first
        | (at_builtin; refine app8q rfl _ _ rfl w.heap.size _ _ rfl own2 _ _ rfl hs2 hl2 hz2 ?_; intro y2 z2 ho2 hg2 hm2; have HX2 := Lib.hid (HW2.out.app ho2 hg2); rw [HE.out] at ho2; have hq2 := run_str (ho2.sl HOL.out.2); clear ho2 hg2 hm2 own2 hs2 hl2 hz2))
      go_ret2
      exact ⟨_, _, rfl, .inl ⟨HF.out, rfl, rfl⟩, HX2.out.2.1⟩
    · have n1 : (r.kind == 1) = false := beq_eq_false_iff_ne.2 (by omega)
      have n2 : (r.kind == 2) = false := beq_eq_false_iff_ne.2 (by omega)
      have n3 : (r.kind == 3) = true := beq_iff_eq.2 hk
      have HE : Hid (([r.kind] ++ numI r.index) ++ entB r.ent = recB r) := Lib.hid (by unfold recB recT; rw [if_neg (show ¬ r.kind = 1 by omega)]; rw [if_neg (show ¬ r.kind = 2 by omega)]; rw [if_pos hk]; simp)
      have HX := Lib.hid hx.2
      clear hk hx
      go_wp2_with fail
      refine (num_int (r.index) _ (by omega) (by omega)).mono ?_
      rintro e u1 ⟨x1, rfl, -, hs1, hb1⟩
      have HW1 := Lib.hid (HW0.out.call hb1)
      have own1 := HW1.out.1
      have hl1 : ([r.kind]).length + (numI (r.index)).length ≤ 140737488355328 := by
        have := numI_len (n := r.index) (by omega) (by omega)
        simp only [List.length_cons, List.length_nil]
        omega
      have hz1 := HW1.out.2.1.size
      clear hb1 c0 c1 c2 c3 c4 c5 c6 c7 c8 c9 c10 c11 c12 c13 c14 c15 c16 c17 c18 c19 c20
      go_wp2_with (first
        | (at_builtin; refine app8q rfl _ _ rfl w.heap.size _ _ rfl own1 _ _ rfl hs1 hl1 hz1 ?_; intro y1 z1 ho1 hg1 hm1; have HX1 := Lib.hid (HW1.out.app ho1 hg1); obtain ⟨c0, c1, c2, c3, c4, c5, c6, c7, c8, c9, c10, c11, c12, c13, c14, c15, c16, c17, c18, c19, c20⟩ := cells21 HX1.out.2.2; clear ho1 hg1 hm1 own1 hs1 hl1 hz1))
      go_wp2_with fail
      refine (entenc_any r.ent _ _ (ent_led HRL.out HWF.out HX1.out.2.1).1 HX.out).mono ?_
      rintro e u2 ⟨x2, rfl, -, hs2, hb2⟩
      have HW2 := Lib.hid (HX1.out.call hb2)
      have own2 := HW2.out.1
      have hl2 : ([r.kind] ++ numI r.index).length + (entB r.ent).length ≤ 140737488355328 := by
        have := numI_len (n := r.index) (by omega) (by omega)
        have := (entB_len HWF.out.2.2.2.2.2.1 HX.out).1
        simp only [List.length_append, List.length_cons, List.length_nil]
        omega
      have hz2 := HW2.out.2.1.size
      clear hb2 c0 c1 c2 c3 c4 c5 c6 c7 c8 c9 c10 c11 c12 c13 c14 c15 c16 c17 c18 c19 c20
      go_wp2_with (first
        | (at_builtin; refine app8q rfl _ _ rfl w.heap.size _ _ rfl own2 _ _ rfl hs2 hl2 hz2 ?_; intro y2 z2 ho2 hg2 hm2; have HX2 := Lib.hid (HW2.out.app ho2 hg2); rw [HE.out] at ho2; have hq2 := run_str (ho2.sl HOL.out.2); clear ho2 hg2 hm2 own2 hs2 hl2 hz2))
      go_ret2
      exact ⟨_, _, rfl, .inl ⟨HF.out, rfl, rfl⟩, HX2.out.2.1⟩
    · have n1 : (r.kind == 1) = false := beq_eq_false_iff_ne.2 (by omega)
      have n2 : (r.kind == 2) = false := beq_eq_false_iff_ne.2 (by omega)
      have n3 : (r.kind == 3) = false := beq_eq_false_iff_ne.2 (by omega)
      have n4 : (r.kind == 4) = true := beq_iff_eq.2 hk
      have HE : Hid ([r.kind] ++ numI r.index = recB r) := Lib.hid (by unfold recB recT; rw [if_neg (show ¬ r.kind = 1 by omega)]; rw [if_neg (show ¬ r.kind = 2 by omega)]; rw [if_neg (show ¬ r.kind = 3 by omega)]; rw [if_pos hk]; simp)
      clear hk
      go_wp2_with fail
      refine (num_int (r.index) _ (by omega) (by omega)).mono ?_
      rintro e u1 ⟨x1, rfl, -, hs1, hb1⟩
      have HW1 := Lib.hid (HW0.out.call hb1)
      have own1 := HW1.out.1
      have hl1 : ([r.kind]).length + (numI (r.index)).length ≤ 140737488355328 := by
        have := numI_len (n := r.index) (by omega) (by omega)
        simp only [List.length_cons, List.length_nil]
        omega
      have hz1 := HW1.out.2.1.size
      clear hb1 c0 c1 c2 c3 c4 c5 c6 c7 c8 c9 c10 c11 c12 c13 c14 c15 c16 c17 c18 c19 c20
      go_wp2_with (first
        | (at_builtin; refine app8q rfl _ _ rfl w.heap.size _ _ rfl own1 _ _ rfl hs1 hl1 hz1 ?_; intro y1 z1 ho1 hg1 hm1; have HX1 := Lib.hid (HW1.out.app ho1 hg1); rw [HE.out] at ho1; have hq1 := run_str (ho1.sl HOL.out.2); clear ho1 hg1 hm1 own1 hs1 hl1 hz1))
      go_ret2
      exact ⟨_, _, rfl, .inl ⟨HF.out, rfl, rfl⟩, HX1.out.2.1⟩
    · have n1 : (r.kind == 1) = false := beq_eq_false_iff_ne.2 (by omega)
      have n2 : (r.kind == 2) = false := beq_eq_false_iff_ne.2 (by omega)
      have n3 : (r.kind == 3) = false := beq_eq_false_iff_ne.2 (by omega)
      have n4 : (r.kind == 4) = false := beq_eq_false_iff_ne.2 (by omega)
      have n5 : (r.kind == 5) = true := beq_iff_eq.2 hk
      have HE : Hid ([r.kind] ++ shotB r.shot = recB r) := Lib.hid (by unfold recB recT; rw [if_neg (show ¬ r.kind = 1 by omega)]; rw [if_neg (show ¬ r.kind = 2 by omega)]; rw [if_neg (show ¬ r.kind = 3 by omega)]; rw [if_neg (show ¬ r.kind = 4 by omega)]; simp)
      have HX := Lib.hid hx
      clear hk hx
      go_wp2_with fail
      refine (Sc.enc_any r.shot _ _ (ent_led HRL.out HWF.out HW0.out.2.1).2).mono ?_
      rintro e u2 ⟨x2, z2, l2, rfl, hz, ho2, hb2⟩
      obtain ⟨rfl, rfl⟩ : z2 = 0 ∧ l2 = shotB r.shot := by
        rcases hz with ⟨g1, -, g2⟩ | ⟨-, g, -⟩
        · exact ⟨g1, g2⟩
        · exact absurd HX.out g
      have hs2 := ho2.sl (shotB_len (nums_of HWF.out.2.2.2.2.2.2 HX.out)).2
      have HW2 := Lib.hid (HW0.out.call hb2)
      have own2 := HW2.out.1
      have hl2 : ([r.kind]).length + (shotB r.shot).length ≤ 140737488355328 := by
        have := (shotB_len (nums_of HWF.out.2.2.2.2.2.2 HX.out)).1
        simp only [List.length_cons, List.length_nil]
        omega
      have hz2 := HW2.out.2.1.size
      clear hb2 hz ho2 c0 c1 c2 c3 c4 c5 c6 c7 c8 c9 c10 c11 c12 c13 c14 c15 c16 c17 c18 c19 c20
      go_wp2_with (first
        | (at_builtin; refine app8q rfl _ _ rfl w.heap.size _ _ rfl own2 _ _ rfl hs2 hl2 hz2 ?_; intro y2 z2 ho2 hg2 hm2; have HX2 := Lib.hid (HW2.out.app ho2 hg2); rw [HE.out] at ho2; have hq2 := run_str (ho2.sl HOL.out.2); clear ho2 hg2 hm2 own2 hs2 hl2 hz2))
      go_ret2
      exact ⟨_, _, rfl, .inl ⟨HF.out, rfl, rfl⟩, HX2.out.2.1⟩
end Rk
end Go.Proofs.Ytngnhegmealokaa
