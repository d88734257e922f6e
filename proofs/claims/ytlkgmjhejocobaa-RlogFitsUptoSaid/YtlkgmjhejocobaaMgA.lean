/- Whether records can be applied one behind the other: rlog.accepts. No condition but the bounds of what may last. -/
import Derived.Test.YtlkgmjhejocobaaHlA
import Derived.Test.YtlkgmjhejocobaaBsM
import Derived.Deep.MidRow
namespace Go.Proofs.Ytlkgmjhejocobaa
open Go.ChangeShapes Go.WideShapes Go.ChangeAt Go.RowKit Go.Deep
set_option linter.unusedVariables false
set_option maxRecDepth 100000
namespace Mg
open Hd Rc Nv
def stepsOk : Har → List RecR → Prop
  | _, [] => True
  | h, r :: l => can h r ∧ stepsOk (doH h r) l
theorem drop_at {l : List RecR} {k : Nat} {x : RecR} (h : l[k]? = some x) : l.drop k = x :: l.drop (k + 1) := by
  obtain ⟨hlt, he⟩ := List.getElem?_eq_some_iff.1 h
  rw [List.drop_eq_getElem_cons hlt, he]
theorem rec_rangeG {w : World} {b off k : Nat} {r : RRow} (h : ∀ j u, (recC r)[j]? = some u → w.cell? ⟨b, off + (k * 21 + j), none⟩ = some u) : w.rangeAt b (off + k * 21) (recC r) := fun j v hv => by
  rw [Nat.add_assoc]
  exact h j v hv
set_option maxHeartbeats 2000000 in
theorem accepts_any (N : Nat) (h : Har) (vv : Value) (l : List RecR) (v : Value) (w : World) (hh : IsHard w vv h) (hN : FitsN N h) (hr : IsRecs w v l) (hrf : IsRecs.fits l) (hl : (N + l.length) * 88 ≤ 140737488351232) : Calls Try.prog 72 #[vv, v] w (Tells (stepsOk h l) w) := by
  obtain ⟨vn, vh, vl, vg, rfl, hn, hhe, hll, hg, hwf⟩ := id hh
  obtain ⟨g1, q1, rfl, -⟩ := id hn
  obtain ⟨g2, q2, rfl, -⟩ := id hhe
  obtain ⟨g3, q3, rfl, -⟩ := id hll
  obtain ⟨g4, q4, rfl, -⟩ := IsLog.len hg
  obtain ⟨rows, ⟨ra, rcap, rfl, hlc, hcm, hrc⟩, hrw, hmap⟩ := hr
  unfold maxLen at hcm
  have hrl : rows.length = l.length := by rw [← hmap, List.length_map]
  have HFR : Hid (∀ r ∈ rows, IsRec.fits r.1) := Lib.hid (fun r hr => hrf _ (by rw [← hmap]; exact List.mem_map.2 ⟨r, hr, rfl⟩))
  have HRC := Lib.hid hrc
  have HRW := Lib.hid hrw
  have HMAP := Lib.hid hmap
  have HLB : Hid ((N + rows.length) * 88 ≤ 140737488351232) := Lib.hid (by rw [hrl]; exact hl)
  obtain ⟨W0, hW0⟩ : ∃ q, w.alloc (.cells (hArr h (.slice g1 h.shot.nodes.length q1) (.slice g2 h.shot.led.held.length q2) (.slice g3 h.shot.led.last.length q3) (.slice g4 h.log.length q4)) 43) = q := ⟨_, rfl⟩
  have HA0 : Hid (W0.heap[w.heap.size]? = some (.cells (hArr h (.slice g1 h.shot.nodes.length q1) (.slice g2 h.shot.led.held.length q2) (.slice g3 h.shot.led.last.length q3) (.slice g4 h.log.length q4)) 43 (0, 0))) := Lib.hid (by rw [← hW0]; exact heap_alloc_new _ _)
  have hb0 : Below w.heap.size w W0 := by rw [← hW0]; exact (Below.refl _ _).alloc (Nat.le_refl _) _
  have HB0 := Lib.hid hb0
  have HI0 := Lib.hid (hh.below hb0 (Nat.le_refl _))
  have HN0 := Lib.hid hN
  clear hh hn hhe hll hg hwf hrc hrw hmap hrf hb0 hN hl hrl
  go_enter Try.func72, Try.ntmps72
  go_wp2
  go_loopw [6, 7, 10] (fun _ _ i wr => ∃ (k : Nat) (hc : Har) (a1 : Option Addr) (c1 : Nat) (a2 : Option Addr) (c2 : Nat) (a3 : Option Addr) (c3 : Nat) (a4 : Option Addr) (c4 : Nat), k ≤ rows.length ∧ i = .int .i64 k ∧ Hid (wr.heap[w.heap.size]? = some (.cells (hArr hc (.slice a1 hc.shot.nodes.length c1) (.slice a2 hc.shot.led.held.length c2) (.slice a3 hc.shot.led.last.length c3) (.slice a4 hc.log.length c4)) 43 (0, 0))) ∧ Hid (IsHard wr (.agg (hArr hc (.slice a1 hc.shot.nodes.length c1) (.slice a2 hc.shot.led.held.length c2) (.slice a3 hc.shot.led.last.length c3) (.slice a4 hc.log.length c4))) hc) ∧ Hid (FitsN (N + k) hc) ∧ Hid (stepsOk h l ↔ stepsOk hc (l.drop k)) ∧ Hid (Below w.heap.size w wr)) (fun _ _ i _ => rows.length - (intOf i).toNat)
  case atStart => exact ⟨0, h, g1, q1, g2, q2, g3, q3, g4, q4, Nat.zero_le _, rfl, HA0, HI0, HN0, Lib.hid Iff.rfl, HB0⟩
  case round =>
    obtain ⟨k, hc, a1, c1, a2, c2, a3, c3, a4, c4, hk, rfl, HA, HI, HFN, HIF, HB⟩ := hrel
    by_cases hlt : k < rows.length
    · obtain ⟨b, off, hab, hbl, hcc⟩ := Ld.rows_open hlt HRC.out
      subst hab
      have hrg : wr.rangeAt b (off + k * 21) (recC rows[k]) := rec_rangeG fun j u hu => (HB.out.cell (p := ⟨b, off + (k * 21 + j), none⟩) hbl).trans (hcc k _ (Ld.rgetD hlt) j u hu)
      have hkw := HRW.out rows[k] (List.getElem_mem hlt)
      have hkf := HFR.out rows[k] (List.getElem_mem hlt)
      have hxg : l[k]? = some rows[k].1 := by rw [← HMAP.out, List.getElem?_map, List.getElem?_eq_getElem hlt]; rfl
      clear hcc hbl
      generalize rows[k] = r at hrg hkw hkf hxg
      obtain ⟨x, vc, vn, vh, vl⟩ := r
      obtain ⟨⟨t1, t2, t3, t4⟩, hxw⟩ := hkw
      dsimp only at t1 t2 t3 t4 hxw hkf hxg
      obtain ⟨p1, n1, rfl, -⟩ := id t1
      obtain ⟨p2, n2, rfl, -⟩ := id t2
      obtain ⟨p3, n3, rfl, -⟩ := id t3
      obtain ⟨p4, n4, rfl, -⟩ := id t4
      have hst : (wr.alloc (.cells zR 49)).heap[wr.heap.size]? = some (.cells zR 49 (0, 0)) := heap_alloc_new _ _
      obtain ⟨WR, hWR⟩ : ∃ q, (wr.alloc (.cells zR 49)).setRow wr.heap.size (rArr x (.slice p1 x.ent.cmd.nodes.length n1) (.slice p2 x.shot.nodes.length n2) (.slice p3 x.shot.led.held.length n3) (.slice p4 x.shot.led.last.length n4)) = q := ⟨_, rfl⟩
      have hbx : Below wr.heap.size wr WR := by rw [← hWR]; exact Ld.below_row ((Below.refl _ _).alloc (Nat.le_refl _) _) (Nat.le_refl _) _
      have HRR : Hid (WR.heap[wr.heap.size]? = some (.cells (rArr x (.slice p1 x.ent.cmd.nodes.length n1) (.slice p2 x.shot.nodes.length n2) (.slice p3 x.shot.led.held.length n3) (.slice p4 x.shot.led.last.length n4)) 49 (0, 0))) := Lib.hid (by rw [← hWR]; exact setRow_heap _ _ _ _ _ _ hst)
      have HAX := Lib.hid ((hbx.block _ (lt_of_row HA.out)).trans HA.out)
      have HBX := Lib.hid (HB.out.trans (hbx.mono HB.out.size))
      have HIX := Lib.hid (HI.out.below hbx (Nat.le_refl _))
      have HRX : Hid (IsRec WR (.agg (rArr x (.slice p1 x.ent.cmd.nodes.length n1) (.slice p2 x.shot.nodes.length n2) (.slice p3 x.shot.led.held.length n3) (.slice p4 x.shot.led.last.length n4))) x) := Lib.hid ⟨_, _, _, _, rfl, RecL.below (r := x) ⟨t1, t2, t3, t4⟩ HBX.out (Nat.le_refl _), hxw⟩
      have HKF := Lib.hid hkf
      have HDR := Lib.hid (drop_at hxg)
      have hkz : (k : Int) < (rows.length : Int) := by omega
      clear t1 t2 t3 t4 hxw hbx hkf hxg
      go_wp2_with (first
        | (refine wpList_load_mid rfl 49 (.tmp 12) rfl b (off + k * 21) rfl (rArr x (.slice p1 x.ent.cmd.nodes.length n1) (.slice p2 x.shot.nodes.length n2) (.slice p3 x.shot.led.held.length n3) (.slice p4 x.shot.led.last.length n4)).toList _ hrg Try.underlying49 rfl (by kernel_rfl) ?_)
        | (with_reducible refine wpList_store_row rfl 49 (.tmp 6) (.tmp 13) rfl wr.heap.size (rArr x (.slice p1 x.ent.cmd.nodes.length n1) (.slice p2 x.shot.nodes.length n2) (.slice p3 x.shot.led.held.length n3) (.slice p4 x.shot.led.last.length n4)) rfl rfl 49 _ hst (by kernel_rfl) rfl (rArr_one _ _ _ _ _ _ _ _ _ _ _ _ _) ?_; rw [hWR]; clear hWR hst)
        | (with_reducible refine wpList_load_row rfl 43 (.tmp 2) rfl w.heap.size rfl 43 (hArr hc (.slice a1 hc.shot.nodes.length c1) (.slice a2 hc.shot.led.held.length c2) (.slice a3 hc.shot.led.last.length c3) (.slice a4 hc.log.length c4)) (0, 0) _ HAX.out Try.underlying43 rfl (by kernel_rfl) ?_)
        | (with_reducible refine wpList_load_row rfl 49 (.tmp 6) rfl wr.heap.size rfl 49 (rArr x (.slice p1 x.ent.cmd.nodes.length n1) (.slice p2 x.shot.nodes.length n2) (.slice p3 x.shot.led.held.length n3) (.slice p4 x.shot.led.last.length n4)) (0, 0) _ HRR.out Try.underlying49 rfl (by kernel_rfl) ?_))
      refine (do_any hc _ x _ _ HIX.out (HFN.out.fits (by have := HLB.out; omega)) HRX.out HKF.out).mono ?_
      rintro e w2 ⟨z, h2, un, uh, ul, ug, rfl, hz, own, hw, hb2⟩
      obtain ⟨d1, e1, d2, e2, d3, e3, d4, e4, rfl, rfl, rfl, rfl⟩ := OwnH.forms own hw
      have HZ := Lib.hid hz
      have han := (hb2.block _ (lt_of_row HAX.out)).trans HAX.out
      have HAN := Lib.hid han
      obtain ⟨WF, hWF⟩ : ∃ q, w2.setRow w.heap.size (hArr h2 (.slice d1 h2.shot.nodes.length e1) (.slice d2 h2.shot.led.held.length e2) (.slice d3 h2.shot.led.last.length e3) (.slice d4 h2.log.length e4)) = q := ⟨_, rfl⟩
      have HAF : Hid (WF.heap[w.heap.size]? = some (.cells (hArr h2 (.slice d1 h2.shot.nodes.length e1) (.slice d2 h2.shot.led.held.length e2) (.slice d3 h2.shot.led.last.length e3) (.slice d4 h2.log.length e4)) 43 (0, 0))) := Lib.hid (by rw [← hWF]; exact setRow_heap _ _ _ _ _ _ han)
      have HIFF : Hid (IsHard WF (.agg (hArr h2 (.slice d1 h2.shot.nodes.length e1) (.slice d2 h2.shot.led.held.length e2) (.slice d3 h2.shot.led.last.length e3) (.slice d4 h2.log.length e4))) h2) := Lib.hid (OwnH.hard (by rw [← hWF]; exact own.map fun e sz v n xs q => owns_row q (lt_of_row HAX.out)) hw)
      have HBF : Hid (Below w.heap.size w WF) := Lib.hid (by rw [← hWF]; exact Ld.below_row (HBX.out.trans (hb2.mono HBX.out.size)) (Nat.le_refl _) _)
      clear hz own hw hb2 han hrg
      rcases HZ.out with ⟨rfl, hcan, he⟩ | ⟨rfl, hno, he⟩
      · have HFN2 : Hid (FitsN (N + (k + 1)) h2) := Lib.hid (by rw [he]; exact doH_fits HFN.out HKF.out)
        have HIF2 : Hid (stepsOk h l ↔ stepsOk h2 (l.drop (k + 1))) := Lib.hid (by rw [he]; refine HIF.out.trans ?_; rw [HDR.out]; exact ⟨fun g => g.2, fun g => ⟨hcan, g⟩⟩)
        clear HZ hcan he
        go_wp2_with (first | (with_reducible refine wpList_store_row rfl 43 (.tmp 2) (.tmp 18) rfl w.heap.size (hArr h2 (.slice d1 h2.shot.nodes.length e1) (.slice d2 h2.shot.led.held.length e2) (.slice d3 h2.shot.led.last.length e3) (.slice d4 h2.log.length e4)) rfl rfl 43 _ HAN.out (by kernel_rfl) rfl (hArr_one _ _ _ _ _ _ _ _ _ _ _ _ _) ?_; rw [hWF]; clear hWF) | fail)
        go_roundw
        case rel => exact ⟨k + 1, h2, d1, e1, d2, e2, d3, e3, d4, e4, by omega, by go_num, HAF, HIFF, HFN2, HIF2, HBF⟩
        case measure => simp [intOf]; omega
      · have HNO : Hid (¬ stepsOk h l) := Lib.hid (fun g => by have q := HIF.out.1 g; rw [HDR.out] at q; exact hno q.1)
        clear HZ hno he
        go_wp2_with (first | (with_reducible refine wpList_store_row rfl 43 (.tmp 2) (.tmp 18) rfl w.heap.size (hArr h2 (.slice d1 h2.shot.nodes.length e1) (.slice d2 h2.shot.led.held.length e2) (.slice d3 h2.shot.led.last.length e3) (.slice d4 h2.log.length e4)) rfl rfl 43 _ HAN.out (by kernel_rfl) rfl (hArr_one _ _ _ _ _ _ _ _ _ _ _ _ _) ?_; rw [hWF]; clear hWF) | fail)
        go_ret
        exact tells_no HNO.out HBF.out
    · obtain rfl : k = rows.length := by omega
      have HY : Hid (stepsOk h l) := Lib.hid (HIF.out.2 (by
        have hz : l.drop rows.length = [] := List.drop_eq_nil_of_le (by rw [← HMAP.out, List.length_map]; exact Nat.le_refl _)
        rw [hz]
        trivial))
      have HBE := Lib.hid HB.out
      go_wp2
      go_ret
      exact tells_yes HY.out HBE.out
end Mg
end Go.Proofs.Ytlkgmjhejocobaa
