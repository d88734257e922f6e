/- The law HardRises returns true for all that may be read as what lasts and as a list of records, of bulk at most 1048576: with whatever records, Boot, Term and the snapshot's Index never fall, in one term no second vote is cast, and what comes out may last. -/
import Derived.Test.YtgadbghlcejkfaaBse
import Derived.Test.YtgadbghlcejkfaaHlA
import Derived.Test.YtgadbghlcejkfaaHdW
import Derived.Deep.MidRow
namespace Go.Proofs.Ytgadbghlcejkfaa.hardRises
open Go.ChangeShapes Go.WideShapes Go.ChangeAt Go.RowKit
open Go.ChangeMaps (open_string shut_string)
set_option linter.unusedVariables false

theorem own : ownKnob Try.prog.godebug = none := by kernel_rfl
theorem laidOut : laidOutB Try.prog = true := by kernel_rfl

open Rc Hd Nv Go.Deep
theorem rec_range {w : World} {b off k : Nat} {r : RRow} (h : ∀ j u, (recC r)[j]? = some u → w.cell? ⟨b, off + (k * 21 + j), none⟩ = some u) : w.rangeAt b (off + k * 21) (recC r) := fun j v hv => by
  rw [Nat.add_assoc]
  exact h j v hv
set_option maxHeartbeats 8000000 in
theorem walk (v0 : Value) (x0 : Har) (v1 : Value) (x1 : (List RecR)) (w : World) (w0 : IsHardU w v0 x0) (b0 : IsHardU.size x0 ≤ 1048576) (f0 : IsHardU.fits x0) (w1 : IsRecs w v1 x1) (b1 : IsRecs.size x1 ≤ 1048576) (f1 : IsRecs.fits x1) :
    Calls Try.prog 6 #[v0, v1] w fun e w' => e = .returned (.bool true) ∧ Below w.heap.size w w' := by
  have HF0 : Hid (FitsN 1048576 x0) := Lib.hid ⟨f0.1, b0, f0.2.2⟩
  obtain ⟨vn, vh, vl, vg, rfl, hn, hhe, hl, hg, hwf⟩ := id w0
  obtain ⟨g1, q1, rfl, -⟩ := id hn
  obtain ⟨g2, q2, rfl, -⟩ := id hhe
  obtain ⟨g3, q3, rfl, -⟩ := id hl
  obtain ⟨g4, q4, rfl, -⟩ := IsLog.len hg
  obtain ⟨rows, ⟨ra, rcap, rfl, hlc, hcm, hrc⟩, hrw, hmap⟩ := w1
  unfold maxLen at hcm
  have HFR : Hid (∀ r ∈ rows, IsRec.fits r.1) := Lib.hid (fun r hr => f1 _ (by rw [← hmap]; exact List.mem_map.2 ⟨r, hr, rfl⟩))
  have HRC := Lib.hid hrc
  have HRW := Lib.hid hrw
  obtain ⟨W0, hW0⟩ : ∃ q, w.alloc (.cells (hArr x0 (.slice g1 x0.shot.nodes.length q1) (.slice g2 x0.shot.led.held.length q2) (.slice g3 x0.shot.led.last.length q3) (.slice g4 x0.log.length q4)) 32) = q := ⟨_, rfl⟩
  have HA0 : Hid (W0.heap[w.heap.size]? = some (.cells (hArr x0 (.slice g1 x0.shot.nodes.length q1) (.slice g2 x0.shot.led.held.length q2) (.slice g3 x0.shot.led.last.length q3) (.slice g4 x0.log.length q4)) 32 (0, 0))) := Lib.hid (by rw [← hW0]; exact heap_alloc_new _ _)
  have hb0 : Below w.heap.size w W0 := by rw [← hW0]; exact (Below.refl _ _).alloc (Nat.le_refl _) _
  have HB0 := Lib.hid hb0
  have HI0 := Lib.hid (w0.below hb0 (Nat.le_refl _))
  clear w0 b0 f0 hn hhe hl hg hwf hrc hrw hmap f1 b1 hb0
  go_enter Try.func6, Try.ntmps6
  go_wp2_with fail
  refine (live_any _).mono ?_
  rintro e w1 ⟨rfl, hb1⟩
  have HA1 := Lib.hid ((hb1.block _ (lt_of_row HA0.out)).trans HA0.out)
  have HB1 := Lib.hid (HB0.out.trans (hb1.mono HB0.out.size))
  have HI1 := Lib.hid (HI0.out.below hb1 (Nat.le_refl _))
  clear hb1 hW0
  by_cases hlen : 60 < rows.length
  · have hlz : (60 : Int) < (rows.length : Int) := by omega
    go_wp2
    go_ret
    exact ⟨rfl, HB1.out⟩
  · have hlz : (rows.length : Int) ≤ 60 := by omega
    go_wp2
    go_loopw [17] (fun i wr => ∃ (k : Nat) (hc : Har) (a1 : Option Addr) (c1 : Nat) (a2 : Option Addr) (c2 : Nat) (a3 : Option Addr) (c3 : Nat) (a4 : Option Addr) (c4 : Nat), k ≤ rows.length ∧ i = .int .i64 k ∧ Hid (wr.heap[w.heap.size]? = some (.cells (hArr hc (.slice a1 hc.shot.nodes.length c1) (.slice a2 hc.shot.led.held.length c2) (.slice a3 hc.shot.led.last.length c3) (.slice a4 hc.log.length c4)) 32 (0, 0))) ∧ Hid (IsHard wr (.agg (hArr hc (.slice a1 hc.shot.nodes.length c1) (.slice a2 hc.shot.led.held.length c2) (.slice a3 hc.shot.led.last.length c3) (.slice a4 hc.log.length c4))) hc) ∧ Hid (FitsN (1048576 + k) hc) ∧ Hid (Below w.heap.size w wr)) (fun i _ => rows.length - (intOf i).toNat)
    case atStart => exact ⟨0, x0, g1, q1, g2, q2, g3, q3, g4, q4, Nat.zero_le _, rfl, HA1, HI1, HF0, HB1⟩
    case round =>
      obtain ⟨k, hc, a1, c1, a2, c2, a3, c3, a4, c4, hk, rfl, HA, HI, HFN, HB⟩ := hrel
      by_cases hlt : k < rows.length
      · obtain ⟨b, off, rfl, hbl, hcc⟩ := Ld.rows_open hlt HRC.out
        have hrg : wr.rangeAt b (off + k * 21) (recC rows[k]) := rec_range fun j u hu => (HB.out.cell (p := ⟨b, off + (k * 21 + j), none⟩) hbl).trans (hcc k _ (Ld.rgetD hlt) j u hu)
        have hkw := HRW.out rows[k] (List.getElem_mem hlt)
        have hkf := HFR.out rows[k] (List.getElem_mem hlt)
        clear hcc
        generalize rows[k] = r at hrg hkw hkf
        obtain ⟨x, vc, vn, vh, vl⟩ := r
        obtain ⟨⟨t1, t2, t3, t4⟩, hxw⟩ := hkw
        dsimp only at t1 t2 t3 t4 hxw hkf
        obtain ⟨p1, n1, rfl, -⟩ := id t1
        obtain ⟨p2, n2, rfl, -⟩ := id t2
        obtain ⟨p3, n3, rfl, -⟩ := id t3
        obtain ⟨p4, n4, rfl, -⟩ := id t4
        have hst : (wr.alloc (.cells zR 38)).heap[wr.heap.size]? = some (.cells zR 38 (0, 0)) := heap_alloc_new _ _
        obtain ⟨WR, hWR⟩ : ∃ q, (wr.alloc (.cells zR 38)).setRow wr.heap.size (rArr x (.slice p1 x.ent.cmd.nodes.length n1) (.slice p2 x.shot.nodes.length n2) (.slice p3 x.shot.led.held.length n3) (.slice p4 x.shot.led.last.length n4)) = q := ⟨_, rfl⟩
        have hbx : Below wr.heap.size wr WR := by rw [← hWR]; exact Ld.below_row ((Below.refl _ _).alloc (Nat.le_refl _) _) (Nat.le_refl _) _
        have HRR : Hid (WR.heap[wr.heap.size]? = some (.cells (rArr x (.slice p1 x.ent.cmd.nodes.length n1) (.slice p2 x.shot.nodes.length n2) (.slice p3 x.shot.led.held.length n3) (.slice p4 x.shot.led.last.length n4)) 38 (0, 0))) := Lib.hid (by rw [← hWR]; exact setRow_heap _ _ _ _ _ _ hst)
        have HAX := Lib.hid ((hbx.block _ (lt_of_row HA.out)).trans HA.out)
        have HBX := Lib.hid (HB.out.trans (hbx.mono HB.out.size))
        have HIX := Lib.hid (HI.out.below hbx (Nat.le_refl _))
        have HRX : Hid (IsRec WR (.agg (rArr x (.slice p1 x.ent.cmd.nodes.length n1) (.slice p2 x.shot.nodes.length n2) (.slice p3 x.shot.led.held.length n3) (.slice p4 x.shot.led.last.length n4))) x) := Lib.hid ⟨_, _, _, _, rfl, RecL.below (r := x) ⟨t1, t2, t3, t4⟩ HBX.out (Nat.le_refl _), hxw⟩
        have HKF := Lib.hid hkf
        have HST := Lib.hid hst
        have hkz : (k : Int) < (rows.length : Int) := by omega
        clear t1 t2 t3 t4 hxw hbx hkf hst
        go_wp2_with (first
          | (refine wpList_load_mid rfl 38 (.tmp 19) rfl b (off + k * 21) rfl (rArr x (.slice p1 x.ent.cmd.nodes.length n1) (.slice p2 x.shot.nodes.length n2) (.slice p3 x.shot.led.held.length n3) (.slice p4 x.shot.led.last.length n4)).toList _ hrg Try.underlying38 rfl (by kernel_rfl) ?_)
          | (refine wpList_store_row rfl 38 (.tmp 7) (.tmp 20) rfl wr.heap.size (rArr x (.slice p1 x.ent.cmd.nodes.length n1) (.slice p2 x.shot.nodes.length n2) (.slice p3 x.shot.led.held.length n3) (.slice p4 x.shot.led.last.length n4)) rfl rfl 38 _ HST.out (by kernel_rfl) rfl (rArr_one _ _ _ _ _ _ _ _ _ _ _ _ _) ?_; rw [hWR])
          | (with_reducible refine wpList_load_row rfl 32 (.tmp 2) rfl w.heap.size rfl 32 (hArr hc (.slice a1 hc.shot.nodes.length c1) (.slice a2 hc.shot.led.held.length c2) (.slice a3 hc.shot.led.last.length c3) (.slice a4 hc.log.length c4)) (0, 0) _ HAX.out Try.underlying32 rfl (by kernel_rfl) ?_)
          | (with_reducible refine wpList_load_row rfl 38 (.tmp 7) rfl wr.heap.size rfl 38 (rArr x (.slice p1 x.ent.cmd.nodes.length n1) (.slice p2 x.shot.nodes.length n2) (.slice p3 x.shot.led.held.length n3) (.slice p4 x.shot.led.last.length n4)) (0, 0) _ HRR.out Try.underlying38 rfl (by kernel_rfl) ?_))
        refine (do_any hc _ x _ _ HIX.out (HFN.out.fits (by omega)) HRX.out HKF.out).mono ?_
        rintro e w2 ⟨z, h2, un, uh, ul, ug, rfl, hz, own, hw, hb2⟩
        obtain ⟨d1, e1, d2, e2, d3, e3, d4, e4, rfl, rfl, rfl, rfl⟩ := OwnH.forms own hw
        have HZ := Lib.hid hz
        have hst : (w2.alloc (.cells zH 32)).heap[w2.heap.size]? = some (.cells zH 32 (0, 0)) := heap_alloc_new _ _
        obtain ⟨WN, hWN⟩ : ∃ q, (w2.alloc (.cells zH 32)).setRow w2.heap.size (hArr h2 (.slice d1 h2.shot.nodes.length e1) (.slice d2 h2.shot.led.held.length e2) (.slice d3 h2.shot.led.last.length e3) (.slice d4 h2.log.length e4)) = q := ⟨_, rfl⟩
        have hbn : Below w2.heap.size w2 WN := by rw [← hWN]; exact Ld.below_row ((Below.refl _ _).alloc (Nat.le_refl _) _) (Nat.le_refl _) _
        have hrn : WN.heap[w2.heap.size]? = some (.cells (hArr h2 (.slice d1 h2.shot.nodes.length e1) (.slice d2 h2.shot.led.held.length e2) (.slice d3 h2.shot.led.last.length e3) (.slice d4 h2.log.length e4)) 32 (0, 0)) := by rw [← hWN]; exact setRow_heap _ _ _ _ _ _ hst
        have HRN := Lib.hid hrn
        have han := (hbn.block _ (Nat.lt_of_lt_of_le (lt_of_row HAX.out) hb2.size)).trans ((hb2.block _ (lt_of_row HAX.out)).trans HAX.out)
        have HAN := Lib.hid han
        have hb2n := hb2.trans (hbn.mono hb2.size)
        have HBN := Lib.hid (HBX.out.trans (hb2n.mono HBX.out.size))
        have HIN := Lib.hid (HIX.out.below hb2n (Nat.le_refl _))
        have HNI := Lib.hid ((OwnH.hard own hw).below hbn (Nat.le_refl _))
        have HOW := Lib.hid (own.map fun e sz v n xs q => owns_below hbn q)
        have HHW := Lib.hid hw
        have HST := Lib.hid hst
        clear hz own hw hb2 hst hbn hb2n hrg
        rcases HZ.out with ⟨rfl, hcan, he⟩ | ⟨rfl, hno, he⟩
        · have HCAN := Lib.hid hcan
          have hri := rises hcan
          rw [← he] at hri
          obtain ⟨r1, r2, r3, r4, r5⟩ := hri
          have HOK := Lib.hid r5
          have HFN2 : Hid (FitsN (1048576 + (k + 1)) h2) := Lib.hid (by rw [he]; exact doH_fits HFN.out HKF.out)
          obtain ⟨s0, s1, s2, s3, s4, s5, s6, s7, s8, s9, s10⟩ := cells11 hrn
          obtain ⟨u0, u1, u2, u3, -, -, -, -, -, -, -⟩ := cells11 han
          clear HZ hcan he hrn han r5
          by_cases et : h2.term = hc.term
          · have m1 : (h2.term == hc.term) = true := beq_iff_eq.2 et
            by_cases ev : hc.vote = 0
            · have m2 : (hc.vote != 0) = false := by rw [bne, beq_iff_eq.2 ev]; rfl
              clear r4 et ev
              go_wp2_with (first
                | (with_reducible refine wpList_store_row rfl 32 (.tmp 8) (.tmp 25) rfl w2.heap.size (hArr h2 (.slice d1 h2.shot.nodes.length e1) (.slice d2 h2.shot.led.held.length e2) (.slice d3 h2.shot.led.last.length e3) (.slice d4 h2.log.length e4)) rfl rfl 32 _ HST.out (by kernel_rfl) rfl (hArr_one _ _ _ _ _ _ _ _ _ _ _ _ _) ?_; rw [hWN])
                | (with_reducible refine wpList_load_rowG rfl 32 (.tmp 8) rfl w2.heap.size rfl 32 (hArr h2 (.slice d1 h2.shot.nodes.length e1) (.slice d2 h2.shot.led.held.length e2) (.slice d3 h2.shot.led.last.length e3) (.slice d4 h2.log.length e4)) (0, 0) _ HRN.out Try.underlying32 rfl (by kernel_rfl) ?_))
              refine (check_any h2 _ _ HNI.out).mono ?_
              rintro e w5 ⟨z5, rfl, hz5, hb5⟩
              obtain rfl : z5 = 0 := by
                rcases hz5 with g | g
                · exact g.1
                · exact absurd HOK.out g.2
              have HR5 := Lib.hid ((hb5.block _ (lt_of_row HRN.out)).trans HRN.out)
              have HA5 := Lib.hid ((hb5.block _ (lt_of_row HAN.out)).trans HAN.out)
              have HB5 := Lib.hid (HBN.out.trans (hb5.mono HBN.out.size))
              have HO5 := Lib.hid (HOW.out.map fun e sz v n xs q => owns_below hb5 q)
              clear hz5 hb5 s0 s1 s2 s3 s4 s5 s6 s7 s8 s9 s10 u0 u1 u2 u3
              obtain ⟨WF, hWF⟩ : ∃ q, w5.setRow w.heap.size (hArr h2 (.slice d1 h2.shot.nodes.length e1) (.slice d2 h2.shot.led.held.length e2) (.slice d3 h2.shot.led.last.length e3) (.slice d4 h2.log.length e4)) = q := ⟨_, rfl⟩
              have HAF : Hid (WF.heap[w.heap.size]? = some (.cells (hArr h2 (.slice d1 h2.shot.nodes.length e1) (.slice d2 h2.shot.led.held.length e2) (.slice d3 h2.shot.led.last.length e3) (.slice d4 h2.log.length e4)) 32 (0, 0))) := Lib.hid (by rw [← hWF]; exact setRow_heap _ _ _ _ _ _ HA5.out)
              have HIF : Hid (IsHard WF (.agg (hArr h2 (.slice d1 h2.shot.nodes.length e1) (.slice d2 h2.shot.led.held.length e2) (.slice d3 h2.shot.led.last.length e3) (.slice d4 h2.log.length e4))) h2) := Lib.hid (OwnH.hard (by rw [← hWF]; exact HO5.out.map fun e sz v n xs q => owns_row q (lt_of_row HAX.out)) HHW.out)
              have HBF : Hid (Below w.heap.size w WF) := Lib.hid (by rw [← hWF]; exact Ld.below_row HB5.out (Nat.le_refl _) _)
              go_wp2_with (first
                | (with_reducible refine wpList_load_row rfl 32 (.tmp 8) rfl w2.heap.size rfl 32 (hArr h2 (.slice d1 h2.shot.nodes.length e1) (.slice d2 h2.shot.led.held.length e2) (.slice d3 h2.shot.led.last.length e3) (.slice d4 h2.log.length e4)) (0, 0) _ HR5.out Try.underlying32 rfl (by kernel_rfl) ?_)
                | (with_reducible refine wpList_store_row rfl 32 (.tmp 2) (.tmp 74) rfl w.heap.size (hArr h2 (.slice d1 h2.shot.nodes.length e1) (.slice d2 h2.shot.led.held.length e2) (.slice d3 h2.shot.led.last.length e3) (.slice d4 h2.log.length e4)) rfl rfl 32 _ HA5.out (by kernel_rfl) rfl (hArr_one _ _ _ _ _ _ _ _ _ _ _ _ _) ?_; rw [hWF]))
              go_roundw
              case rel => exact ⟨k + 1, h2, d1, e1, d2, e2, d3, e3, d4, e4, by omega, by go_num, Lib.hid HAF.out, Lib.hid HIF.out, Lib.hid HFN2.out, Lib.hid HBF.out⟩
              case measure => simp [intOf]; omega
            · have m2 : (hc.vote != 0) = true := by rw [bne, beq_eq_false_iff_ne.2 ev]; rfl
              have m3 : (h2.vote != hc.vote) = false := by rw [bne, beq_iff_eq.2 (r4 et ev)]; rfl
              clear r4 et ev
              go_wp2_with (first
                | (with_reducible refine wpList_store_row rfl 32 (.tmp 8) (.tmp 25) rfl w2.heap.size (hArr h2 (.slice d1 h2.shot.nodes.length e1) (.slice d2 h2.shot.led.held.length e2) (.slice d3 h2.shot.led.last.length e3) (.slice d4 h2.log.length e4)) rfl rfl 32 _ HST.out (by kernel_rfl) rfl (hArr_one _ _ _ _ _ _ _ _ _ _ _ _ _) ?_; rw [hWN])
                | (with_reducible refine wpList_load_rowG rfl 32 (.tmp 8) rfl w2.heap.size rfl 32 (hArr h2 (.slice d1 h2.shot.nodes.length e1) (.slice d2 h2.shot.led.held.length e2) (.slice d3 h2.shot.led.last.length e3) (.slice d4 h2.log.length e4)) (0, 0) _ HRN.out Try.underlying32 rfl (by kernel_rfl) ?_))
              refine (check_any h2 _ _ HNI.out).mono ?_
              rintro e w5 ⟨z5, rfl, hz5, hb5⟩
              obtain rfl : z5 = 0 := by
                rcases hz5 with g | g
                · exact g.1
                · exact absurd HOK.out g.2
              have HR5 := Lib.hid ((hb5.block _ (lt_of_row HRN.out)).trans HRN.out)
              have HA5 := Lib.hid ((hb5.block _ (lt_of_row HAN.out)).trans HAN.out)
              have HB5 := Lib.hid (HBN.out.trans (hb5.mono HBN.out.size))
              have HO5 := Lib.hid (HOW.out.map fun e sz v n xs q => owns_below hb5 q)
              clear hz5 hb5 s0 s1 s2 s3 s4 s5 s6 s7 s8 s9 s10 u0 u1 u2 u3
              obtain ⟨WF, hWF⟩ : ∃ q, w5.setRow w.heap.size (hArr h2 (.slice d1 h2.shot.nodes.length e1) (.slice d2 h2.shot.led.held.length e2) (.slice d3 h2.shot.led.last.length e3) (.slice d4 h2.log.length e4)) = q := ⟨_, rfl⟩
              have HAF : Hid (WF.heap[w.heap.size]? = some (.cells (hArr h2 (.slice d1 h2.shot.nodes.length e1) (.slice d2 h2.shot.led.held.length e2) (.slice d3 h2.shot.led.last.length e3) (.slice d4 h2.log.length e4)) 32 (0, 0))) := Lib.hid (by rw [← hWF]; exact setRow_heap _ _ _ _ _ _ HA5.out)
              have HIF : Hid (IsHard WF (.agg (hArr h2 (.slice d1 h2.shot.nodes.length e1) (.slice d2 h2.shot.led.held.length e2) (.slice d3 h2.shot.led.last.length e3) (.slice d4 h2.log.length e4))) h2) := Lib.hid (OwnH.hard (by rw [← hWF]; exact HO5.out.map fun e sz v n xs q => owns_row q (lt_of_row HAX.out)) HHW.out)
              have HBF : Hid (Below w.heap.size w WF) := Lib.hid (by rw [← hWF]; exact Ld.below_row HB5.out (Nat.le_refl _) _)
              go_wp2_with (first
                | (with_reducible refine wpList_load_row rfl 32 (.tmp 8) rfl w2.heap.size rfl 32 (hArr h2 (.slice d1 h2.shot.nodes.length e1) (.slice d2 h2.shot.led.held.length e2) (.slice d3 h2.shot.led.last.length e3) (.slice d4 h2.log.length e4)) (0, 0) _ HR5.out Try.underlying32 rfl (by kernel_rfl) ?_)
                | (with_reducible refine wpList_store_row rfl 32 (.tmp 2) (.tmp 74) rfl w.heap.size (hArr h2 (.slice d1 h2.shot.nodes.length e1) (.slice d2 h2.shot.led.held.length e2) (.slice d3 h2.shot.led.last.length e3) (.slice d4 h2.log.length e4)) rfl rfl 32 _ HA5.out (by kernel_rfl) rfl (hArr_one _ _ _ _ _ _ _ _ _ _ _ _ _) ?_; rw [hWF]))
              go_roundw
              case rel => exact ⟨k + 1, h2, d1, e1, d2, e2, d3, e3, d4, e4, by omega, by go_num, Lib.hid HAF.out, Lib.hid HIF.out, Lib.hid HFN2.out, Lib.hid HBF.out⟩
              case measure => simp [intOf]; omega
          · have m1 : (h2.term == hc.term) = false := beq_eq_false_iff_ne.2 et
            clear r4 et
            go_wp2_with (first
              | (with_reducible refine wpList_store_row rfl 32 (.tmp 8) (.tmp 25) rfl w2.heap.size (hArr h2 (.slice d1 h2.shot.nodes.length e1) (.slice d2 h2.shot.led.held.length e2) (.slice d3 h2.shot.led.last.length e3) (.slice d4 h2.log.length e4)) rfl rfl 32 _ HST.out (by kernel_rfl) rfl (hArr_one _ _ _ _ _ _ _ _ _ _ _ _ _) ?_; rw [hWN])
              | (with_reducible refine wpList_load_rowG rfl 32 (.tmp 8) rfl w2.heap.size rfl 32 (hArr h2 (.slice d1 h2.shot.nodes.length e1) (.slice d2 h2.shot.led.held.length e2) (.slice d3 h2.shot.led.last.length e3) (.slice d4 h2.log.length e4)) (0, 0) _ HRN.out Try.underlying32 rfl (by kernel_rfl) ?_))
            refine (check_any h2 _ _ HNI.out).mono ?_
            rintro e w5 ⟨z5, rfl, hz5, hb5⟩
            obtain rfl : z5 = 0 := by
              rcases hz5 with g | g
              · exact g.1
              · exact absurd HOK.out g.2
            have HR5 := Lib.hid ((hb5.block _ (lt_of_row HRN.out)).trans HRN.out)
            have HA5 := Lib.hid ((hb5.block _ (lt_of_row HAN.out)).trans HAN.out)
            have HB5 := Lib.hid (HBN.out.trans (hb5.mono HBN.out.size))
            have HO5 := Lib.hid (HOW.out.map fun e sz v n xs q => owns_below hb5 q)
            clear hz5 hb5 s0 s1 s2 s3 s4 s5 s6 s7 s8 s9 s10 u0 u1 u2 u3
            obtain ⟨WF, hWF⟩ : ∃ q, w5.setRow w.heap.size (hArr h2 (.slice d1 h2.shot.nodes.length e1) (.slice d2 h2.shot.led.held.length e2) (.slice d3 h2.shot.led.last.length e3) (.slice d4 h2.log.length e4)) = q := ⟨_, rfl⟩
            have HAF : Hid (WF.heap[w.heap.size]? = some (.cells (hArr h2 (.slice d1 h2.shot.nodes.length e1) (.slice d2 h2.shot.led.held.length e2) (.slice d3 h2.shot.led.last.length e3) (.slice d4 h2.log.length e4)) 32 (0, 0))) := Lib.hid (by rw [← hWF]; exact setRow_heap _ _ _ _ _ _ HA5.out)
            have HIF : Hid (IsHard WF (.agg (hArr h2 (.slice d1 h2.shot.nodes.length e1) (.slice d2 h2.shot.led.held.length e2) (.slice d3 h2.shot.led.last.length e3) (.slice d4 h2.log.length e4))) h2) := Lib.hid (OwnH.hard (by rw [← hWF]; exact HO5.out.map fun e sz v n xs q => owns_row q (lt_of_row HAX.out)) HHW.out)
            have HBF : Hid (Below w.heap.size w WF) := Lib.hid (by rw [← hWF]; exact Ld.below_row HB5.out (Nat.le_refl _) _)
            go_wp2_with (first
              | (with_reducible refine wpList_load_row rfl 32 (.tmp 8) rfl w2.heap.size rfl 32 (hArr h2 (.slice d1 h2.shot.nodes.length e1) (.slice d2 h2.shot.led.held.length e2) (.slice d3 h2.shot.led.last.length e3) (.slice d4 h2.log.length e4)) (0, 0) _ HR5.out Try.underlying32 rfl (by kernel_rfl) ?_)
              | (with_reducible refine wpList_store_row rfl 32 (.tmp 2) (.tmp 74) rfl w.heap.size (hArr h2 (.slice d1 h2.shot.nodes.length e1) (.slice d2 h2.shot.led.held.length e2) (.slice d3 h2.shot.led.last.length e3) (.slice d4 h2.log.length e4)) rfl rfl 32 _ HA5.out (by kernel_rfl) rfl (hArr_one _ _ _ _ _ _ _ _ _ _ _ _ _) ?_; rw [hWF]))
            go_roundw
            case rel => exact ⟨k + 1, h2, d1, e1, d2, e2, d3, e3, d4, e4, by omega, by go_num, Lib.hid HAF.out, Lib.hid HIF.out, Lib.hid HFN2.out, Lib.hid HBF.out⟩
            case measure => simp [intOf]; omega
        · clear hno he hrn han
          go_wp2_with ((with_reducible refine wpList_store_row rfl 32 (.tmp 8) (.tmp 25) rfl w2.heap.size (hArr h2 (.slice d1 h2.shot.nodes.length e1) (.slice d2 h2.shot.led.held.length e2) (.slice d3 h2.shot.led.last.length e3) (.slice d4 h2.log.length e4)) rfl rfl 32 _ HST.out (by kernel_rfl) rfl (hArr_one _ _ _ _ _ _ _ _ _ _ _ _ _) ?_; rw [hWN]))
          go_roundw
          case rel => exact ⟨k + 1, hc, a1, c1, a2, c2, a3, c3, a4, c4, by omega, by go_num, Lib.hid HAN.out, Lib.hid HIN.out, Lib.hid ⟨HFN.out.1, Nat.le_succ_of_le HFN.out.2.1, HFN.out.2.2⟩, Lib.hid HBN.out⟩
          case measure => simp [intOf]; omega
      · obtain rfl : k = rows.length := by omega
        have HBE := Lib.hid HB.out
        go_wp2
        go_ret
        exact ⟨rfl, HBE.out⟩

set_option maxRecDepth 100000 in
theorem contract (H : Type) (enc : TypeId × Value → H) (W : World) (base : Nat) (args : Array Value) (ds gs : List (DataW H)) (before : List MemPlace)
    (hval0 : ∀ (j : Nat) t v, Try.f6.params[j]? = some t → args[j]? = some v → Value.okWide Try.prog W .any base t v)
    (hW : DataW.Whole enc Try.prog Try.f6.params.toList Rows.hardRisesSpec.vars false W args.toList ds gs before)
    (hk : Rows.uptoSmall H (ds ++ gs) = true) :
    Calls Try.prog 6 args W fun e W' => ∃ v, e = .returned v ∧ Rows.hardRisesSpec.post enc Try.prog Try.f6 false true false false W args v W' := by
  have hval : ∀ (j : Nat) t v, Try.f6.params[j]? = some t → args[j]? = some v → Value.okWide Try.prog W .any base t v := hval0
  have hW' := hW
  obtain ⟨p, q, hA0, hV, rfl, hfz, hnd⟩ := hW
  have hA : DataW.TrodAll enc Try.prog W 0 (fun _ => true) true Try.f6.params.toList args.toList ds p := hA0
  rw [Try.params6] at hA hval
  obtain ⟨v0, vs0, d0, ds0, p0, q0, hargs, rfl, rfl, h0, r0⟩ := trodAll_cons hA
  obtain ⟨v1, vs1, d1, ds1, p1, q1, rfl, rfl, rfl, h1, r1⟩ := trodAll_cons r0
  obtain ⟨rfl, rfl, rfl⟩ := trodAll_nil r1
  obtain rfl : args = #[v0, v1] := by cases args; simp_all
  obtain ⟨rfl, rfl⟩ := trodVars_none hV
  clear hA0 hval0
  simp only [List.append_nil] at hk
  have ub := of_decide_eq_true hk
  have u0 : Rows.uptoBulk d0 ≤ 1048576 := Nat.le_trans (bulk_mem (l := [d0, d1]) (by simp)) ub
  have u1 : Rows.uptoBulk d1 ≤ 1048576 := Nat.le_trans (bulk_mem (l := [d0, d1]) (by simp)) ub
  clear hk ub
  have k0 := h0
  have lt0 : ∀ x ∈ p0, x.block < W.heap.size := by obtain ⟨m, hm⟩ := k0; exact DataW.trod_lt m _ _ _ hm
  have k1 := h1
  have lt1 : ∀ x ∈ p1, x.block < W.heap.size := by obtain ⟨m, hm⟩ := k1; exact DataW.trod_lt m _ _ _ hm
  obtain ⟨x0, w0, b00, s0⟩ := open_hardU (hval 0 32 v0 rfl rfl) k0
  have b0 : IsHardU.size x0 ≤ 1048576 := Nat.le_trans b00 u0
  have f0 : IsHardU.fits x0 := s0 (wt_small u0 (by decide +kernel))
  obtain ⟨x1, w1, b10, s1⟩ := open_recs (hval 1 48 v1 rfl rfl) k1
  have b1 : IsRecs.size x1 ≤ 1048576 := Nat.le_trans b10 u1
  have f1 : IsRecs.fits x1 := s1 (wt_small u1 (by decide +kernel))
  refine (walk v0 x0 v1 x1 W w0 b0 f0 w1 b1 f1).mono fun e W' ⟨he, bel⟩ => ?_
  subst he
  exact ⟨_, rfl, _, _, _, [], _, [], hW', trodAll_mk1 (shut_bool Try.underlying4 _), (trodAll_cons_mk (Below.trod laidOut (by kernel_rfl) (of_decide_eq_true (by kernel_rfl)) k0 bel lt0) (trodAll_cons_mk (Below.trod laidOut (by kernel_rfl) (of_decide_eq_true (by kernel_rfl)) k1 bel lt1) trodAll_mk0)), rfl, bel.frame _, fun h => by cases h⟩

set_option maxRecDepth 100000 in
theorem lifted (os : Os) (started : os.Started) (H : Type) (enc : TypeId × Value → H) (F : Stop.Interp) :
    ReturnsInHanded {} Try.checked os 6 .any ((Rows.OpenSpec.upto Rows.hardRisesSpec).pre6 enc Try.prog Try.f6 Rows.hardRisesUptoRow.domain false) (((Rows.OpenSpec.upto Rows.hardRisesSpec).at F).post enc Try.prog Try.f6 false true false false) := by
  refine returnsInHanded_of_cond (C := Try.checked) (s := Rows.OpenSpec.upto Rows.hardRisesSpec) (k := Rows.uptoSmall) rfl own started (by kernel_rfl) Try.func6
    (OpenSpec.witness (enc := enc) (C := Try.checked) (s := Rows.OpenSpec.upto Rows.hardRisesSpec) (k := Rows.uptoSmall) rfl false ⟨#[], #[.agg #[.int .u64 0, .int .u64 0, .int .i64 0, .int .u64 0, .int .u64 0, .slice none 0 0, .int .i64 0, .int .u64 0, .slice none 0 0, .slice none 0 0, .slice none 0 0], .slice none 0 0], []⟩ 8 (by kernel_rfl) (by kernel_rfl) (by kernel_rfl)
      (x := ([.agg [.lit (.int .u64 0), .lit (.int .u64 0), .lit (.int .i64 0), .agg [.lit (.int .u64 0), .lit (.int .u64 0), .nil, .agg [.lit (.int .i64 0), .lit (.int .u64 0), .nil, .nil]], .nil], .nil], [], [])) (by kernel_rfl) rfl (by kernel_rfl)) ?_
  intro W base args ds gs before hval hW _ hk _
  exact contract H enc W base args ds gs before hval hW hk

theorem proved : Rows.HardRisesUptoSaid :=
  OpenClaim.holds_of_cond 6 Try.f6 rfl rfl rfl rfl rfl rfl rfl ⟨rfl, rfl, rfl, rfl, rfl⟩ rfl rfl rfl rfl rfl (by kernel_rfl) Try.func6 (by kernel_rfl)
    (of_decide_eq_true (by kernel_rfl)) (by unfold Func.isWrapper; first | (rw [if_pos (by decide +kernel)]; kernel_rfl) | (rw [if_neg (by decide +kernel)]; exact ⟨rfl, rfl⟩))
    (fun os started H enc _ F => lifted os started H enc F)
end Go.Proofs.Ytgadbghlcejkfaa.hardRises
