/- Which records may be, by the document's own answer: May tells what package hard's fits tells. No condition. -/
import Derived.Test.YtngnhegmealokaaMyZ
import Derived.Test.YtngnhegmealokaaRcZ
import Derived.Test.YtngnhegmealokaaHdR
import Derived.Deep.RegionHeld3
namespace Go.Proofs.Ytngnhegmealokaa
open Go.ChangeShapes Go.WideShapes Go.ChangeAt Go.RowKit Go.Deep
set_option linter.unusedVariables false
set_option maxRecDepth 100000
namespace Rc
open Hd Nv
theorem zEnt_iff {x : Ent} : zEnt x ↔ x = zEntV := by
  obtain ⟨t, ⟨a, b, c, d, e, f, g, h⟩⟩ := x
  simp only [zEnt, zCmd, zEntV, Ent.mk.injEq, Cmd.mk.injEq, List.length_eq_zero_iff]
theorem zSho_iff {s : Sho} : zSho s ↔ s = zShoV := by
  obtain ⟨a, b, c, ⟨d, e, f, g⟩⟩ := s
  simp only [zSho, zLedg, zShoV, Sho.mk.injEq, Led.mk.injEq, List.length_eq_zero_iff]
theorem only_iff (r : RecR) (hk : r.kind = 1 ∨ r.kind = 2 ∨ r.kind = 3 ∨ r.kind = 4 ∨ r.kind = 5) : onlyR r = r ↔ ((unusedR r).vote = 0 ∧ (unusedR r).boot = 0 ∧ (unusedR r).term = 0 ∧ (unusedR r).index = 0 ∧ (unusedR r).ent = zEntV ∧ (unusedR r).shot = zShoV) := by
  obtain ⟨k, v, b, t, i, x, s⟩ := r
  rcases hk with h | h | h | h | h <;> dsimp only at h <;> subst h <;> simp only [onlyR, unusedR, zRec, Int.reduceEq, if_true, if_false, RecR.mk.injEq, true_and, and_true, @eq_comm Int 0 _, @eq_comm Ent zEntV _, @eq_comm Sho zShoV _]
theorem may_iff (r : RecR) : (onlyR r = r ∧ usedP r) ↔ fitsP r := by
  unfold fitsP
  rw [zEnt_iff, zSho_iff]
  have hk : usedP r → (r.kind = 1 ∨ r.kind = 2 ∨ r.kind = 3 ∨ r.kind = 4 ∨ r.kind = 5) := fun u => by unfold usedP at u; omega
  constructor
  · rintro ⟨h, u⟩
    have q := (only_iff r (hk u)).1 h
    exact ⟨q.1, q.2.1, q.2.2.1, q.2.2.2.1, q.2.2.2.2.1, q.2.2.2.2.2, u⟩
  · rintro ⟨h1, h2, h3, h4, h5, h6, u⟩
    exact ⟨(only_iff r (hk u)).2 ⟨h1, h2, h3, h4, h5, h6⟩, u⟩
theorem only_kind (r : RecR) : (onlyR r).kind = r.kind := by
  unfold onlyR
  split
  · rfl
  split
  · rfl
  split
  · rfl
  split
  · rfl
  split
  · rfl
  rfl
theorem only_cmd (r : RecR) : (onlyR r).ent.cmd = r.ent.cmd ∨ (onlyR r).ent.cmd.nodes = [] := by
  unfold onlyR
  split
  · exact .inr rfl
  split
  · exact .inr rfl
  split
  · exact .inl rfl
  split
  · exact .inr rfl
  split
  · exact .inr rfl
  exact .inr rfl
theorem zShoV_z : zSho zShoV := zSho_iff.2 rfl
theorem only_sho (r : RecR) : (onlyR r).shot = r.shot ∨ zSho (onlyR r).shot := by
  unfold onlyR
  split
  · exact .inr zShoV_z
  split
  · exact .inr zShoV_z
  split
  · exact .inr zShoV_z
  split
  · exact .inr zShoV_z
  split
  · exact .inl rfl
  exact .inr zShoV_z
theorem row_range {w : World} {g : Nat} {cs : Array Value} {t : TypeId} (h : w.heap[g]? = some (.cells cs t (0, 0))) : w.rangeAt g 0 cs.toList := fun j v hv => by
  rw [cell_of_row w g (0 + j) _ _ _ h, ← hv, Nat.zero_add]
  simp
set_option maxHeartbeats 8000000 in
theorem may_any (r : RecR) (v : Value) (w : World) (h : IsRec w v r) : Calls Try.prog 17 #[v] w (Tells (fitsP r) w) := by
  obtain ⟨vc, vn, vh, vl, rfl, ⟨hc, hn, hh, hl⟩, hwf⟩ := id h
  obtain ⟨a1, b1, rfl, -⟩ := id hc
  obtain ⟨a2, b2, rfl, -⟩ := id hn
  obtain ⟨a3, b3, rfl, -⟩ := id hh
  obtain ⟨a4, b4, rfl, -⟩ := id hl
  obtain ⟨W1, hW1⟩ : ∃ q, w.alloc (.cells (rArr r (.slice a1 r.ent.cmd.nodes.length b1) (.slice a2 r.shot.nodes.length b2) (.slice a3 r.shot.led.held.length b3) (.slice a4 r.shot.led.last.length b4)) 35) = q := ⟨_, rfl⟩
  have hA1 : W1.heap[w.heap.size]? = some (.cells (rArr r (.slice a1 r.ent.cmd.nodes.length b1) (.slice a2 r.shot.nodes.length b2) (.slice a3 r.shot.led.held.length b3) (.slice a4 r.shot.led.last.length b4)) 35 (0, 0)) := by rw [← hW1]; exact heap_alloc_new _ _
  have hb1 : Below w.heap.size w W1 := by rw [← hW1]; exact (Below.refl _ _).alloc (Nat.le_refl _) _
  have HB1 := Lib.hid hb1
  have HAD : Hid (W1.drew.heap[w.heap.size]? = some (.cells (rArr r (.slice a1 r.ent.cmd.nodes.length b1) (.slice a2 r.shot.nodes.length b2) (.slice a3 r.shot.led.held.length b3) (.slice a4 r.shot.led.last.length b4)) 35 (0, 0))) := Lib.hid hA1
  have HRD := Lib.hid (h.below hb1.drew (Nat.le_refl _))
  have HRL := Lib.hid (⟨hc, hn, hh, hl⟩ : RecL w r _ _ _ _)
  have HWF := Lib.hid hwf
  have HRG := Lib.hid (row_range HAD.out)
  clear h hc hn hh hl hwf hA1 hb1
  go_enter Try.func17, Try.ntmps17
  go_wp2_with fail
  refine wp_region_held_drew (S := fun w' => w'.rangeAt w.heap.size 0 (rArr r (.slice a1 r.ent.cmd.nodes.length b1) (.slice a2 r.shot.nodes.length b2) (.slice a3 r.shot.led.held.length b3) (.slice a4 r.shot.led.last.length b4)).toList) (by kernel_rfl) HRG.out (fun hHeld => ?_)
  refine wpAnyH_take (i := 0) (v := .agg (rArr r (.slice a1 r.ent.cmd.nodes.length b1) (.slice a2 r.shot.nodes.length b2) (.slice a3 r.shot.led.held.length b3) (.slice a4 r.shot.led.last.length b4))) rfl (by kernel_rfl) (by kernel_rfl) (by kernel_rfl) (fun _ _ _ h => h) (yieldsIf_load_mid (by rfl) _ _ rfl _ _ rfl (rArr r (.slice a1 r.ent.cmd.nodes.length b1) (.slice a2 r.shot.nodes.length b2) (.slice a3 r.shot.led.held.length b3) (.slice a4 r.shot.led.last.length b4)).toList _ (fun w h => h) Try.underlying35 rfl (by kernel_rfl)) (by assumption) ?_
  simp only [Act.put]
  refine wpAnyH_take (i := 2) (v := .agg (rArr r (.slice a1 r.ent.cmd.nodes.length b1) (.slice a2 r.shot.nodes.length b2) (.slice a3 r.shot.led.held.length b3) (.slice a4 r.shot.led.last.length b4))) rfl (by kernel_rfl) (by kernel_rfl) (by kernel_rfl) (fun _ _ _ h => h) (yieldsIf_load_mid (by rfl) _ _ rfl _ _ rfl (rArr r (.slice a1 r.ent.cmd.nodes.length b1) (.slice a2 r.shot.nodes.length b2) (.slice a3 r.shot.led.held.length b3) (.slice a4 r.shot.led.last.length b4)).toList _ (fun w h => h) Try.underlying35 rfl (by kernel_rfl)) (by assumption) ?_
  simp only [Act.put]
  refine wpAnyH_ready (rs := [1]) (by kernel_rfl) (by simp) ?_
  refine AllReadyH.cons rfl (fun K hK => ?_) AllReadyH.nil
  go_simp
  refine (only_any r _ _ HRD.out).mono ?_
  rintro e w2 ⟨u, rfl, hu, hb2⟩
  have HU := Lib.hid hu
  have HB2 := Lib.hid hb2
  have hr2 : w2.rangeAt w.heap.size 0 (rArr r (.slice a1 r.ent.cmd.nodes.length b1) (.slice a2 r.shot.nodes.length b2) (.slice a3 r.shot.led.held.length b3) (.slice a4 r.shot.led.last.length b4)).toList := row_range ((hb2.block _ (Hd.lt_of_row HAD.out)).trans HAD.out)
  clear hu hb2 hHeld
  refine hK.out _ _ hr2 (fun hHeld => ?_)
  clear hK K
  refine wpAnyH_ready (rs := [3]) (by kernel_rfl) (by simp) ?_
  refine AllReadyH.cons rfl (fun K hK => ?_) AllReadyH.nil
  go_simp
  refine (rec_cmp (onlyR r) r _ _ _ HU.out (HRD.out.below HB2.out (Nat.le_refl _)) (only_kind r) (only_cmd r) (only_sho r)).mono ?_
  rintro e w3 ⟨q, rfl, hq, hb3⟩
  have HQ := Lib.hid hq
  have HB3 : Hid (Below w.heap.size w w3) := Lib.hid (HB1.out.drew.trans ((HB2.out.trans (hb3.mono HB2.out.size)).mono HB1.out.drew.size))
  have HA3 : Hid (w3.heap[w.heap.size]? = some (.cells (rArr r (.slice a1 r.ent.cmd.nodes.length b1) (.slice a2 r.shot.nodes.length b2) (.slice a3 r.shot.led.held.length b3) (.slice a4 r.shot.led.last.length b4)) 35 (0, 0))) := Lib.hid (((HB2.out.trans (hb3.mono HB2.out.size)).block _ (Hd.lt_of_row HAD.out)).trans HAD.out)
  have hr3 := row_range HA3.out
  clear hq hb3 hHeld hr2
  refine hK.out _ _ hr3 (fun hHeld => ?_)
  clear hK K
  refine wpAnyH_take (i := 4) (v := .bool (!q)) rfl (by kernel_rfl) (by kernel_rfl) (by kernel_rfl) (fun _ _ _ h => h) (Or.inl ⟨by rfl, ?_⟩) (by assumption) ?_
  · intro w hSw
    clear hHeld
    go_simp
    try with_reducible rfl
  simp only [Act.put]
  refine wpAnyH_done (by kernel_rfl) ?_ _
  clear hHeld hr3 HU HB2 HRG hW1 HAD HRD
  cases q
  · have HN : Hid (¬ fitsP r) := Lib.hid (fun g => by have := HQ.out.2 ((may_iff r).2 g).1; cases this)
    go_wp2
    go_ret
    exact tells_no HN.out HB3.out
  have HO := Lib.hid (HQ.out.1 rfl)
  have HFF : Hid (∀ b : Bool, (b = true ↔ usedP r) → (b = true ↔ fitsP r)) := Lib.hid (fun b hb => hb.trans ⟨fun u => (may_iff r).1 ⟨HO.out, u⟩, fun f => ((may_iff r).2 f).2⟩)
  have ONLY := HO
  clear HQ HO
  obtain ⟨he, hs⟩ := ent_led HRL.out HWF.out HB3.out
  have HE := Lib.hid he
  have HS := Lib.hid hs
  have hw2 := bounds_u64 HWF.out.2.2.1
  have hw3 := bounds_u64 HWF.out.2.2.2.1
  have hw4 := bounds_u64 HWF.out.2.2.2.2.1
  obtain ⟨c0, c1, c2, c3, c4, c5, c6, c7, c8, c9, c10, c11, c12, c13, c14, c15, c16, c17, c18, c19, c20⟩ := cells21 HA3.out
  clear he hs
  by_cases hk1 : r.kind = 1
  · have n1 : (r.kind == 1) = true := beq_iff_eq.2 hk1
    have HK := Lib.hid hk1
    by_cases hx : 1 ≤ r.boot
    · have HX : Hid (fitsP r) := Lib.hid ((HFF.out true ⟨fun _ => .inl ⟨HK.out, hx⟩, fun _ => rfl⟩).1 rfl)
      clear hk1
      go_wp2
      go_ret
      exact tells_yes HX.out HB3.out
    · have HX : Hid (¬ fitsP r) := Lib.hid (fun f => by have := (HFF.out false ⟨fun g => (by cases g), fun g => absurd g (by unfold usedP; omega)⟩).2 f; cases this)
      have hx1 : r.boot < 1 := by omega
      clear hk1 hx
      go_wp2
      go_ret
      first
        | exact tells_no HX.out HB3.out
        | exact ⟨false, ret_bool (decide_eq_false (by omega)), ⟨fun q => absurd q (by decide), fun g => absurd g HX.out⟩, HB3.out⟩
  by_cases hk2 : r.kind = 2
  · have n1 : (r.kind == 1) = false := beq_eq_false_iff_ne.2 (by omega)
    have n2 : (r.kind == 2) = true := beq_iff_eq.2 hk2
    have HK := Lib.hid hk2
    by_cases hx : 1 ≤ r.term
    · by_cases hv0 : 0 ≤ r.vote
      · by_cases hv : r.vote ≤ 7
        · have HX : Hid (fitsP r) := Lib.hid ((HFF.out true ⟨fun _ => .inr (.inl ⟨HK.out, hx, hv0, hv⟩), fun _ => rfl⟩).1 rfl)
          clear hk1 hk2
          go_wp2
          go_ret
          exact tells_yes HX.out HB3.out
        · have HX : Hid (¬ fitsP r) := Lib.hid (fun f => by have := (HFF.out false ⟨fun g => (by cases g), fun g => absurd g (by unfold usedP; omega)⟩).2 f; cases this)
          have hv1 : 7 < r.vote := by omega
          clear hk1 hk2 hv
          go_wp2
          go_ret
          first
            | exact tells_no HX.out HB3.out
            | exact ⟨false, ret_bool (decide_eq_false (by omega)), ⟨fun q => absurd q (by decide), fun g => absurd g HX.out⟩, HB3.out⟩
      · have HX : Hid (¬ fitsP r) := Lib.hid (fun f => by have := (HFF.out false ⟨fun g => (by cases g), fun g => absurd g (by unfold usedP; omega)⟩).2 f; cases this)
        have hv1 : r.vote < 0 := by omega
        clear hk1 hk2 hv0
        go_wp2
        go_ret
        first
          | exact tells_no HX.out HB3.out
          | exact ⟨false, ret_bool (decide_eq_false (by omega)), ⟨fun q => absurd q (by decide), fun g => absurd g HX.out⟩, HB3.out⟩
    · have HX : Hid (¬ fitsP r) := Lib.hid (fun f => by have := (HFF.out false ⟨fun g => (by cases g), fun g => absurd g (by unfold usedP; omega)⟩).2 f; cases this)
      have hx1 : r.term < 1 := by omega
      clear hk1 hk2 hx
      go_wp2
      go_ret
      first
        | exact tells_no HX.out HB3.out
        | exact ⟨false, ret_bool (decide_eq_false (by omega)), ⟨fun q => absurd q (by decide), fun g => absurd g HX.out⟩, HB3.out⟩
  by_cases hk3 : r.kind = 3
  · have n1 : (r.kind == 1) = false := beq_eq_false_iff_ne.2 (by omega)
    have n2 : (r.kind == 2) = false := beq_eq_false_iff_ne.2 (by omega)
    have n3 : (r.kind == 3) = true := beq_iff_eq.2 hk3
    have HK := Lib.hid hk3
    by_cases hx : 1 ≤ r.index
    · by_cases ht : 1 ≤ r.ent.term
      · have hrg := cmd_range HA3.out
        have HIC : Hid (IsCmd w3 (.agg (Cm.cArr r.ent.cmd (.slice a1 r.ent.cmd.nodes.length b1))) r.ent.cmd) := Lib.hid ⟨_, rfl, HRL.out.1.below HB3.out (Nat.le_refl _), HWF.out.2.2.2.2.2.1.2⟩
        have HX3 : Hid (Cm.chkC r.ent.cmd = true ↔ fitsP r) := Lib.hid (HFF.out _ (by
          unfold usedP Hd.fitsB
          constructor
          · intro g; exact .inr (.inr (.inl ⟨HK.out, hx, by rw [g, decide_eq_true ht]; rfl⟩))
          · intro g; rcases g with g | g | g | g | g
            · omega
            · omega
            · have q := g.2.2; rw [decide_eq_true ht] at q; exact q
            · omega
            · omega))
        clear hk1 hk2 hk3
        go_wp2_with (first
          | (refine wpList_load_midG rfl 25 (.tmp 43) rfl w.heap.size 6 rfl (Cm.cArr r.ent.cmd (.slice a1 r.ent.cmd.nodes.length b1)).toList _ hrg Try.underlying25 rfl (by kernel_rfl) ?_)
          | fail)
        refine (Hd.cmd_rcheck r.ent.cmd _ _ HIC.out).mono ?_
        rintro e w4 ⟨rfl, hb4⟩
        have HB4 := Lib.hid (HB3.out.trans (hb4.mono HB3.out.size))
        have ce := cErr_eq (Cm.chkC r.ent.cmd)
        generalize Cm.cErr (Cm.chkC r.ent.cmd) = ez at *
        generalize Cm.chkC r.ent.cmd = cb at *
        clear hb4 hrg c0 c1 c2 c3 c4 c5 c6 c7 c8 c9 c10 c11 c12 c13 c14 c15 c16 c17 c18 c19 c20
        go_wp2
        go_ret
        exact ⟨_, rfl, HX3.out, HB4.out⟩
      · have hnu : ¬ usedP r := by
          unfold usedP Hd.fitsB
          rintro (g | g | g | g | g)
          · omega
          · omega
          · have q := g.2.2
            rw [decide_eq_false ht] at q
            cases q
          · omega
          · omega
        have HX : Hid (¬ fitsP r) := Lib.hid (fun f => by have := (HFF.out false ⟨fun g => (by cases g), fun g => absurd g hnu⟩).2 f; cases this)
        clear hnu
        have hx1 : r.ent.term < 1 := by omega
        clear hk1 hk2 hk3 ht
        go_wp2
        go_ret
        first
          | exact tells_no HX.out HB3.out
          | exact ⟨false, ret_bool (decide_eq_false (by omega)), ⟨fun q => absurd q (by decide), fun g => absurd g HX.out⟩, HB3.out⟩
    · have HX : Hid (¬ fitsP r) := Lib.hid (fun f => by have := (HFF.out false ⟨fun g => (by cases g), fun g => absurd g (by unfold usedP; omega)⟩).2 f; cases this)
      have hx1 : r.index < 1 := by omega
      clear hk1 hk2 hk3 hx
      go_wp2
      go_ret
      first
        | exact tells_no HX.out HB3.out
        | exact ⟨false, ret_bool (decide_eq_false (by omega)), ⟨fun q => absurd q (by decide), fun g => absurd g HX.out⟩, HB3.out⟩
  by_cases hk4 : r.kind = 4
  · have n1 : (r.kind == 1) = false := beq_eq_false_iff_ne.2 (by omega)
    have n2 : (r.kind == 2) = false := beq_eq_false_iff_ne.2 (by omega)
    have n3 : (r.kind == 3) = false := beq_eq_false_iff_ne.2 (by omega)
    have n4 : (r.kind == 4) = true := beq_iff_eq.2 hk4
    have HK := Lib.hid hk4
    by_cases hx : 1 ≤ r.index
    · have HX : Hid (fitsP r) := Lib.hid ((HFF.out true ⟨fun _ => .inr (.inr (.inr (.inl ⟨HK.out, hx⟩))), fun _ => rfl⟩).1 rfl)
      clear hk1 hk2 hk3 hk4
      go_wp2
      go_ret
      exact tells_yes HX.out HB3.out
    · have HX : Hid (¬ fitsP r) := Lib.hid (fun f => by have := (HFF.out false ⟨fun g => (by cases g), fun g => absurd g (by unfold usedP; omega)⟩).2 f; cases this)
      have hx1 : r.index < 1 := by omega
      clear hk1 hk2 hk3 hk4 hx
      go_wp2
      go_ret
      first
        | exact tells_no HX.out HB3.out
        | exact ⟨false, ret_bool (decide_eq_false (by omega)), ⟨fun q => absurd q (by decide), fun g => absurd g HX.out⟩, HB3.out⟩
  by_cases hk5 : r.kind = 5
  · have n1 : (r.kind == 1) = false := beq_eq_false_iff_ne.2 (by omega)
    have n2 : (r.kind == 2) = false := beq_eq_false_iff_ne.2 (by omega)
    have n3 : (r.kind == 3) = false := beq_eq_false_iff_ne.2 (by omega)
    have n4 : (r.kind == 4) = false := beq_eq_false_iff_ne.2 (by omega)
    have n5 : (r.kind == 5) = true := beq_iff_eq.2 hk5
    have HK := Lib.hid hk5
    have hrg := sho_range HA3.out
    have HX5 : Hid (Sh.shotOk r.shot ↔ fitsP r) := Lib.hid ⟨fun g => (may_iff r).1 ⟨ONLY.out, .inr (.inr (.inr (.inr ⟨HK.out, g⟩)))⟩, fun f => by
      rcases f.2.2.2.2.2.2 with g | g | g | g | g
      · omega
      · omega
      · omega
      · omega
      · exact g.2⟩
    clear hk1 hk2 hk3 hk4 hk5
    go_wp2_with (first
      | (refine wpList_load_mid rfl 33 (.tmp 55) rfl w.heap.size 14 rfl (sArr r.shot (.slice a2 r.shot.nodes.length b2) (.slice a3 r.shot.led.held.length b3) (.slice a4 r.shot.led.last.length b4)).toList _ hrg Try.underlying33 rfl (by kernel_rfl) ?_)
      | fail)
    refine (Sh.rcheck_any r.shot _ _ HS.out).mono ?_
    rintro e w4 ⟨z, rfl, hz, hb4⟩
    have HB4 := Lib.hid (HB3.out.trans (hb4.mono HB3.out.size))
    clear hb4 hrg c0 c1 c2 c3 c4 c5 c6 c7 c8 c9 c10 c11 c12 c13 c14 c15 c16 c17 c18 c19 c20
    rcases hz with ⟨rfl, g⟩ | ⟨rfl, g⟩
    · have HX := Lib.hid (HX5.out.1 g)
      clear g
      go_wp2
      go_ret
      exact tells_yes HX.out HB4.out
    · have HX : Hid (¬ fitsP r) := Lib.hid (fun f => g (HX5.out.2 f))
      clear g
      go_wp2
      go_ret
      exact tells_no HX.out HB4.out
  · have n1 : (r.kind == 1) = false := beq_eq_false_iff_ne.2 (by omega)
    have n2 : (r.kind == 2) = false := beq_eq_false_iff_ne.2 (by omega)
    have n3 : (r.kind == 3) = false := beq_eq_false_iff_ne.2 (by omega)
    have n4 : (r.kind == 4) = false := beq_eq_false_iff_ne.2 (by omega)
    have n5 : (r.kind == 5) = false := beq_eq_false_iff_ne.2 (by omega)
    have HX : Hid (¬ fitsP r) := Lib.hid (fun f => by have := (HFF.out false ⟨fun g => (by cases g), fun g => absurd g (by unfold usedP; omega)⟩).2 f; cases this)
    clear hk1 hk2 hk3 hk4 hk5
    go_wp2
    go_ret
    first
      | exact tells_no HX.out HB3.out
      | exact ⟨false, ret_bool (decide_eq_false (by omega)), ⟨fun q => absurd q (by decide), fun g => absurd g HX.out⟩, HB3.out⟩
end Rc
end Go.Proofs.Ytngnhegmealokaa
