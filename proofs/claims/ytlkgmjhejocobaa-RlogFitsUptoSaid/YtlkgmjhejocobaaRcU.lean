/- Which records may be: hard.used, hard.fits. No condition. -/
import Derived.Test.YtlkgmjhejocobaaRec
import Derived.Deep.QuietTactic
import Derived.BigQuiet
namespace Go.Proofs.Ytlkgmjhejocobaa
open Go.ChangeShapes Go.WideShapes Go.ChangeAt Go.RowKit Go.Deep
set_option linter.unusedVariables false
set_option maxRecDepth 100000
namespace Rc
open Nv
def usedP (r : RecR) : Prop := (r.kind = 1 ∧ 1 ≤ r.boot) ∨ (r.kind = 2 ∧ 1 ≤ r.term ∧ 0 ≤ r.vote ∧ r.vote ≤ 7) ∨ (r.kind = 3 ∧ 1 ≤ r.index ∧ Hd.fitsB r.ent = true) ∨ (r.kind = 4 ∧ 1 ≤ r.index) ∨ (r.kind = 5 ∧ Sh.shotOk r.shot)
theorem ent_led {w w1 : World} {r : RecR} {vc vn vh vl : Value} (h : RecL w r vc vn vh vl) (hw : r.wf) (hb : Below w.heap.size w w1) : Hd.IsEnt w1 (.agg (entC (r.ent, vc)).toArray) r.ent ∧ IsShot w1 (.agg (sArr r.shot vn vh vl)) r.shot :=
  ⟨⟨vc, rfl, h.1.below hb (Nat.le_refl _), hw.2.2.2.2.2.1⟩, ⟨vn, vh, vl, rfl, h.2.1.below hb (Nat.le_refl _), h.2.2.1.below hb (Nat.le_refl _), h.2.2.2.below hb (Nat.le_refl _), hw.2.2.2.2.2.2⟩⟩
set_option maxHeartbeats 8000000 in
theorem used_any (r : RecR) (v : Value) (w : World) (h : IsRec w v r) : Calls Try.prog 103 #[v] w (Tells (usedP r) w) := by
  obtain ⟨vc, vn, vh, vl, rfl, ⟨hc, hn, hh, hl⟩, hwf⟩ := id h
  obtain ⟨a1, b1, rfl, -⟩ := id hc
  obtain ⟨a2, b2, rfl, -⟩ := id hn
  obtain ⟨a3, b3, rfl, -⟩ := id hh
  obtain ⟨a4, b4, rfl, -⟩ := id hl
  have hb0 : Below w.heap.size w (w.alloc (.cells (rArr r (.slice a1 r.ent.cmd.nodes.length b1) (.slice a2 r.shot.nodes.length b2) (.slice a3 r.shot.led.held.length b3) (.slice a4 r.shot.led.last.length b4)) 49)) := (Below.refl _ _).alloc (Nat.le_refl _) _
  obtain ⟨he, hs⟩ := ent_led ⟨hc, hn, hh, hl⟩ hwf hb0
  have HB := Lib.hid hb0
  have HE := Lib.hid he
  have HS := Lib.hid hs
  have hw2 := bounds_u64 hwf.2.2.1
  have hw3 := bounds_u64 hwf.2.2.2.1
  have hw4 := bounds_u64 hwf.2.2.2.2.1
  obtain ⟨c0, c1, c2, c3, c4, c5, c6, c7, c8, c9, c10, c11, c12, c13, c14, c15, c16, c17, c18, c19, c20⟩ := cells21 (heap_alloc_new w (.cells (rArr r (.slice a1 r.ent.cmd.nodes.length b1) (.slice a2 r.shot.nodes.length b2) (.slice a3 r.shot.led.held.length b3) (.slice a4 r.shot.led.last.length b4)) 49 (0, 0)))
  clear h hc hn hh hl hwf hb0 he hs
  by_cases hk1 : r.kind = 1
  · have n1 : (r.kind == 1) = true := beq_iff_eq.2 hk1
    have HK := Lib.hid hk1
    by_cases hx : 1 ≤ r.boot
    · have HX := Lib.hid (.inl ⟨HK.out, hx⟩ : usedP r)
      clear hk1
      go_enter Try.func103, Try.ntmps103
      go_wp2
      go_ret
      exact tells_yes HX.out HB.out
    · have hx0 : r.boot = 0 := by omega
      have HX : Hid (¬ usedP r) := Lib.hid (by unfold usedP; omega)
      have hx1 : r.boot < 1 := by omega
      clear hk1 hx
      go_enter Try.func103, Try.ntmps103
      go_wp2
      go_ret
      exact tells_no HX.out HB.out
  by_cases hk2 : r.kind = 2
  · have n1 : (r.kind == 1) = false := beq_eq_false_iff_ne.2 (by omega)
    have n2 : (r.kind == 2) = true := beq_iff_eq.2 hk2
    have HK := Lib.hid hk2
    have HN1 := Lib.hid hk1
    by_cases hx : 1 ≤ r.term
    · by_cases hv : 0 ≤ r.vote ∧ r.vote ≤ 7
      · have HX := Lib.hid (.inr (.inl ⟨HK.out, hx, hv⟩) : usedP r)
        clear hk1 hk2
        go_enter Try.func103, Try.ntmps103
        go_wp2_with fail
        refine (Hd.vote_yes _ _ hv.1 hv.2).mono ?_
        rintro e w1 ⟨rfl, rfl⟩
        go_wp2
        go_ret
        exact tells_yes HX.out HB.out
      · have HX : Hid (¬ usedP r) := Lib.hid (by unfold usedP; omega)
        have HV : Hid (r.vote < 0 ∨ 7 < r.vote) := Lib.hid (by omega)
        clear hk1 hk2 hv
        go_enter Try.func103, Try.ntmps103
        go_wp2_with fail
        refine (Hd.vote_no _ _ HV.out).mono ?_
        rintro e w1 ⟨rfl, rfl⟩
        go_wp2
        go_ret
        exact tells_no HX.out HB.out
    · have HX : Hid (¬ usedP r) := Lib.hid (by unfold usedP; omega)
      have hx1 : r.term < 1 := by omega
      clear hk1 hk2 hx
      go_enter Try.func103, Try.ntmps103
      go_wp2
      go_ret
      exact tells_no HX.out HB.out
  by_cases hk3 : r.kind = 3
  · have n1 : (r.kind == 1) = false := beq_eq_false_iff_ne.2 (by omega)
    have n2 : (r.kind == 2) = false := beq_eq_false_iff_ne.2 (by omega)
    have n3 : (r.kind == 3) = true := beq_iff_eq.2 hk3
    have HK := Lib.hid hk3
    have HN1 := Lib.hid hk1
    have HN2 := Lib.hid hk2
    by_cases hx : 1 ≤ r.index
    · have HX : Hid (∀ b, b = Hd.fitsB r.ent → (b = true ↔ usedP r)) := Lib.hid (fun b hb => by
        subst hb
        unfold usedP
        constructor
        · intro g; exact .inr (.inr (.inl ⟨HK.out, hx, g⟩))
        · intro g; rcases g with g | g | g | g | g
          · omega
          · omega
          · exact g.2.2
          · omega
          · omega)
      clear hk1 hk2 hk3
      go_enter Try.func103, Try.ntmps103
      go_wp2_with fail
      refine (Hd.fits_any r.ent _ _ HE.out).mono ?_
      rintro e w1 ⟨rfl, hb1⟩
      have HF := Lib.hid (HB.out.trans (hb1.mono HB.out.size))
      clear hb1
      generalize hfb : Hd.fitsB r.ent = fb at *
      have HFB := Lib.hid hfb
      clear hfb
      go_wp2
      go_ret
      exact ⟨_, rfl, HX.out _ rfl, HF.out⟩
    · have HX : Hid (¬ usedP r) := Lib.hid (by unfold usedP; omega)
      have hx1 : r.index < 1 := by omega
      clear hk1 hk2 hk3 hx
      go_enter Try.func103, Try.ntmps103
      go_wp2
      go_ret
      exact tells_no HX.out HB.out
  by_cases hk4 : r.kind = 4
  · have n1 : (r.kind == 1) = false := beq_eq_false_iff_ne.2 (by omega)
    have n2 : (r.kind == 2) = false := beq_eq_false_iff_ne.2 (by omega)
    have n3 : (r.kind == 3) = false := beq_eq_false_iff_ne.2 (by omega)
    have n4 : (r.kind == 4) = true := beq_iff_eq.2 hk4
    have HK := Lib.hid hk4
    have HN1 := Lib.hid hk1
    have HN2 := Lib.hid hk2
    have HN3 := Lib.hid hk3
    by_cases hx : 1 ≤ r.index
    · have HX := Lib.hid (.inr (.inr (.inr (.inl ⟨HK.out, hx⟩))) : usedP r)
      clear hk1 hk2 hk3 hk4
      go_enter Try.func103, Try.ntmps103
      go_wp2
      go_ret
      exact tells_yes HX.out HB.out
    · have hx0 : r.index = 0 := by omega
      have HX : Hid (¬ usedP r) := Lib.hid (by unfold usedP; omega)
      have hx1 : r.index < 1 := by omega
      clear hk1 hk2 hk3 hk4 hx
      go_enter Try.func103, Try.ntmps103
      go_wp2
      go_ret
      exact tells_no HX.out HB.out
  by_cases hk5 : r.kind = 5
  · have n1 : (r.kind == 1) = false := beq_eq_false_iff_ne.2 (by omega)
    have n2 : (r.kind == 2) = false := beq_eq_false_iff_ne.2 (by omega)
    have n3 : (r.kind == 3) = false := beq_eq_false_iff_ne.2 (by omega)
    have n4 : (r.kind == 4) = false := beq_eq_false_iff_ne.2 (by omega)
    have n5 : (r.kind == 5) = true := beq_iff_eq.2 hk5
    have HK := Lib.hid hk5
    have HN1 := Lib.hid hk1
    have HN2 := Lib.hid hk2
    have HN3 := Lib.hid hk3
    have HN4 := Lib.hid hk4
    have HX : Hid (usedP r ↔ Sh.shotOk r.shot) := Lib.hid (by
      unfold usedP
      constructor
      · rintro (g | g | g | g | g)
        · omega
        · omega
        · omega
        · omega
        · exact g.2
      · intro g; exact .inr (.inr (.inr (.inr ⟨HK.out, g⟩))))
    clear hk1 hk2 hk3 hk4 hk5
    go_enter Try.func103, Try.ntmps103
    go_wp2_with fail
    refine (Sh.check_any r.shot _ _ HS.out).mono ?_
    rintro e w1 ⟨z, rfl, hz, hb1⟩
    have HF := Lib.hid (HB.out.trans (hb1.mono HB.out.size))
    clear hb1
    rcases hz with ⟨rfl, hok⟩ | ⟨rfl, hno⟩
    · have HO := Lib.hid hok
      clear hok
      go_wp2
      go_ret
      exact tells_yes (HX.out.2 HO.out) HF.out
    · have HO := Lib.hid hno
      clear hno
      go_wp2
      go_ret
      exact tells_no (fun g => HO.out (HX.out.1 g)) HF.out
  · have n1 : (r.kind == 1) = false := beq_eq_false_iff_ne.2 (by omega)
    have n2 : (r.kind == 2) = false := beq_eq_false_iff_ne.2 (by omega)
    have n3 : (r.kind == 3) = false := beq_eq_false_iff_ne.2 (by omega)
    have n4 : (r.kind == 4) = false := beq_eq_false_iff_ne.2 (by omega)
    have n5 : (r.kind == 5) = false := beq_eq_false_iff_ne.2 (by omega)
    have HX : Hid (¬ usedP r) := Lib.hid (by unfold usedP; omega)
    clear hk1 hk2 hk3 hk4 hk5
    go_enter Try.func103, Try.ntmps103
    go_wp2
    go_ret
    exact tells_no HX.out HB.out
end Rc
end Go.Proofs.Ytlkgmjhejocobaa
