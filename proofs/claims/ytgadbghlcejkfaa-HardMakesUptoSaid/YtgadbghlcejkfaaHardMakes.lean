/- The law HardMakes returns true for all that may be read as what lasts, of bulk at most 1048576: the records that package hard's Base answers, done one behind the other to what has the snapshot and its term alone, make it; where Base answers an error, Check refuses it. No condition else. -/
import Derived.Test.YtgadbghlcejkfaaBse
import Derived.Test.YtgadbghlcejkfaaMkA
import Derived.Test.YtgadbghlcejkfaaHdE
import Derived.Deep.MidRow
namespace Go.Proofs.Ytgadbghlcejkfaa.hardMakes
open Go.ChangeShapes Go.WideShapes Go.ChangeAt Go.RowKit
open Go.ChangeMaps (open_string shut_string)
set_option linter.unusedVariables false

theorem own : ownKnob Try.prog.godebug = none := by kernel_rfl
theorem laidOut : laidOutB Try.prog = true := by kernel_rfl

open Rc Hd Nv Go.Deep
theorem rec_range {w : World} {b off k : Nat} {r : RRow} (h : ∀ j u, (recC r)[j]? = some u → w.cell? ⟨b, off + (k * 21 + j), none⟩ = some u) : w.rangeAt b (off + k * 21) (recC r) := fun j v hv => by
  rw [Nat.add_assoc]
  exact h j v hv
theorem hshot_range {w : World} {g : Nat} {h : Har} {vn vh vl vg : Value} (hh : w.heap[g]? = some (.cells (hArr h vn vh vl vg) 32 (0, 0))) : w.rangeAt g 3 (sArr h.shot vn vh vl).toList := fun j v hv => by
  have hj : j < 7 := by have := (List.getElem?_eq_some_iff.1 hv).1; simpa using this
  rw [cell_of_row w g (3 + j) _ _ _ hh, ← hv]
  match j, hj with
  | 0, _ => rfl
  | 1, _ => rfl
  | 2, _ => rfl
  | 3, _ => rfl
  | 4, _ => rfl
  | 5, _ => rfl
  | 6, _ => rfl
set_option maxHeartbeats 8000000 in
theorem walk (v0 : Value) (x0 : Har) (w : World) (w0 : IsHardU w v0 x0) (b0 : IsHardU.size x0 ≤ 1048576) (f0 : IsHardU.fits x0) :
    Calls Try.prog 5 #[v0] w fun e w' => e = .returned (.bool true) ∧ Below w.heap.size w w' := by
  obtain ⟨vn, vh, vl, vg, rfl, hn, hhe, hl, hg, hwf⟩ := id w0
  obtain ⟨g1, q1, rfl, -⟩ := id hn
  obtain ⟨g2, q2, rfl, -⟩ := id hhe
  obtain ⟨g3, q3, rfl, -⟩ := id hl
  obtain ⟨g4, q4, rfl, -⟩ := IsLog.len hg
  have HF := Lib.hid f0
  have HSZ : Hid (x0.log.length ≤ 1048576) := Lib.hid b0
  have HWF := Lib.hid hwf
  have HNW := Lib.hid hn.wf
  obtain ⟨W0, hW0⟩ : ∃ q, w.alloc (.cells (hArr x0 (.slice g1 x0.shot.nodes.length q1) (.slice g2 x0.shot.led.held.length q2) (.slice g3 x0.shot.led.last.length q3) (.slice g4 x0.log.length q4)) 32) = q := ⟨_, rfl⟩
  have HA0 : Hid (W0.heap[w.heap.size]? = some (.cells (hArr x0 (.slice g1 x0.shot.nodes.length q1) (.slice g2 x0.shot.led.held.length q2) (.slice g3 x0.shot.led.last.length q3) (.slice g4 x0.log.length q4)) 32 (0, 0))) := Lib.hid (by rw [← hW0]; exact heap_alloc_new _ _)
  have hb0 : Below w.heap.size w W0 := by rw [← hW0]; exact (Below.refl _ _).alloc (Nat.le_refl _) _
  have HB0 := Lib.hid hb0
  have HI0 := Lib.hid (w0.below hb0 (Nat.le_refl _))
  clear w0 b0 f0 hn hhe hl hg hwf hb0
  go_enter Try.func5, Try.ntmps5
  go_wp2_with fail
  refine (live_any _).mono ?_
  rintro e w1 ⟨rfl, hb1⟩
  have HA1 := Lib.hid ((hb1.block _ (lt_of_row HA0.out)).trans HA0.out)
  have HB1 := Lib.hid (HB0.out.trans (hb1.mono HB0.out.size))
  have HI1 := Lib.hid (HI0.out.below hb1 (Nat.le_refl _))
  clear hb1 hW0
  go_wp2_with ((with_reducible refine wpList_load_row rfl 32 (.tmp 1) rfl w.heap.size rfl 32 (hArr x0 (.slice g1 x0.shot.nodes.length q1) (.slice g2 x0.shot.led.held.length q2) (.slice g3 x0.shot.led.last.length q3) (.slice g4 x0.log.length q4)) (0, 0) _ HA1.out Try.underlying32 rfl (by kernel_rfl) ?_))
  refine (base_any x0 _ _ HI1.out HF.out (by have := HSZ.out; omega)).mono ?_
  rintro e w2 ⟨vb, zb, lb, rfl, hzb, hrecs, hb2⟩
  have HA2 := Lib.hid ((hb2.block _ (lt_of_row HA1.out)).trans HA1.out)
  have HB2 := Lib.hid (HB1.out.trans (hb2.mono HB1.out.size))
  have HI2 := Lib.hid (HI1.out.below hb2 (Nat.le_refl _))
  have hl2 : w.heap.size < w2.heap.size := Nat.lt_of_lt_of_le (lt_of_row HA1.out) hb2.size
  have HL2 := Lib.hid hl2
  clear hb2 hl2
  rcases hzb with ⟨rfl, hok, rfl⟩ | ⟨rfl, hno, -⟩
  · obtain ⟨rows, ⟨ra, rcap, rfl, hlc, hcm, hrc⟩, hrw, hmap⟩ := hrecs
    unfold maxLen at hcm
    have HCH : Hid (Chain (startH x0) ((baseL x0).drop 0) x0) := Lib.hid (chain_base hok HWF.out)
    have HFR : Hid (∀ r ∈ rows, IsRec.fits r.1) := Lib.hid (fun r hr => baseL_fits HF.out.2.2 _ (by rw [← hmap]; exact List.mem_map.2 ⟨r, hr, rfl⟩))
    have HRC := Lib.hid hrc
    have HRW := Lib.hid hrw
    have HMAP := Lib.hid hmap
    have hrl : rows.length ≤ 1048578 := by
      have q1 := congrArg List.length hmap
      have q2 := headL_len x0
      have q3 := HSZ.out
      rw [List.length_map] at q1
      unfold baseL at q1
      rw [List.length_append, addsL_len] at q1
      omega
    have hrg0 := hshot_range HA2.out
    have c4 := (cell_of_row w2 _ 4 _ _ _ HA2.out).trans rfl
    have hst : (w2.alloc (.cells zH 32)).heap[w2.heap.size]? = some (.cells zH 32 (0, 0)) := heap_alloc_new _ _
    obtain ⟨WS, hWS⟩ : ∃ q, (w2.alloc (.cells zH 32)).setRow w2.heap.size (hArr (startH x0) (.slice g1 x0.shot.nodes.length q1) (.slice g2 x0.shot.led.held.length q2) (.slice g3 x0.shot.led.last.length q3) (.slice none 0 0)) = q := ⟨_, rfl⟩
    have hbs : Below w2.heap.size w2 WS := by rw [← hWS]; exact Ld.below_row ((Below.refl _ _).alloc (Nat.le_refl _) _) (Nat.le_refl _) _
    have HAS : Hid (WS.heap[w2.heap.size]? = some (.cells (hArr (startH x0) (.slice g1 x0.shot.nodes.length q1) (.slice g2 x0.shot.led.held.length q2) (.slice g3 x0.shot.led.last.length q3) (.slice none 0 0)) 32 (0, 0))) := Lib.hid (by rw [← hWS]; exact setRow_heap _ _ _ _ _ _ hst)
    have HBS := Lib.hid hbs
    have HIS : Hid (IsHard WS (.agg (hArr (startH x0) (.slice g1 x0.shot.nodes.length q1) (.slice g2 x0.shot.led.held.length q2) (.slice g3 x0.shot.led.last.length q3) (.slice none 0 0))) (startH x0)) := Lib.hid (by
      obtain ⟨vn, vh, vl, vg, e, hn, hhe, hl, hg, hwf⟩ := HI2.out.below hbs (Nat.le_refl _)
      simp only [Value.agg.injEq, Array.mk.injEq, List.cons.injEq, and_true, true_and] at e
      obtain ⟨e1, e2, e3, e4⟩ := e
      subst e1 e2 e3
      exact ⟨_, _, _, _, rfl, hn, hhe, hl, IsLog.nil _, ⟨by show (Lit.int .u64 0).wf = true; decide, hwf.2.2.2.2.1, by show (Lit.int .i64 0).wf = true; decide, hwf.2.2.2⟩⟩)
    have HST := Lib.hid hst
    have HFS : Hid (FitsN 0 (startH x0)) := Lib.hid ⟨HF.out.1, Nat.le_refl _, fun x hx => by simp [startH] at hx⟩
    clear hrc hrw hmap hst hbs
    go_wp2_with (first
      | (refine wpList_load_mid rfl 29 (.tmp 28) rfl w.heap.size 3 rfl (sArr x0.shot (.slice g1 x0.shot.nodes.length q1) (.slice g2 x0.shot.led.held.length q2) (.slice g3 x0.shot.led.last.length q3)).toList _ hrg0 Try.underlying29 rfl (by kernel_rfl) ?_)
      | (refine wpList_store_row rfl 32 (.tmp 6) (.tmp 30) rfl w2.heap.size (hArr (startH x0) (.slice g1 x0.shot.nodes.length q1) (.slice g2 x0.shot.led.held.length q2) (.slice g3 x0.shot.led.last.length q3) (.slice none 0 0)) rfl rfl 32 _ HST.out (by kernel_rfl) rfl (hArr_one _ _ _ _ _ _ _ _ _ _ _ _ _) ?_; rw [hWS]))
    clear hrg0 c4 hWS
    go_loopw [33] (fun i wr => ∃ (k : Nat) (hc : Har) (a1 : Option Addr) (c1 : Nat) (a2 : Option Addr) (c2 : Nat) (a3 : Option Addr) (c3 : Nat) (a4 : Option Addr) (c4 : Nat), k ≤ rows.length ∧ i = .int .i64 k ∧ Hid (wr.heap[w2.heap.size]? = some (.cells (hArr hc (.slice a1 hc.shot.nodes.length c1) (.slice a2 hc.shot.led.held.length c2) (.slice a3 hc.shot.led.last.length c3) (.slice a4 hc.log.length c4)) 32 (0, 0))) ∧ Hid (IsHard wr (.agg (hArr hc (.slice a1 hc.shot.nodes.length c1) (.slice a2 hc.shot.led.held.length c2) (.slice a3 hc.shot.led.last.length c3) (.slice a4 hc.log.length c4))) hc) ∧ Hid (FitsN k hc) ∧ Hid (Chain hc ((baseL x0).drop k) x0) ∧ Hid (Below w2.heap.size w2 wr)) (fun i _ => rows.length - (intOf i).toNat)
    case atStart => exact ⟨0, startH x0, g1, q1, g2, q2, g3, q3, none, 0, Nat.zero_le _, rfl, HAS, HIS, HFS, HCH, HBS⟩
    case round =>
      obtain ⟨k, hc, a1, c1, a2, c2, a3, c3, a4, c4, hk, rfl, HA, HI, HFN, HCN, HB⟩ := hrel
      by_cases hlt : k < rows.length
      · obtain ⟨b, off, rfl, hbl, hcc⟩ := Ld.rows_open hlt HRC.out
        have hrg : wr.rangeAt b (off + k * 21) (recC rows[k]) := rec_range fun j u hu => (HB.out.cell (p := ⟨b, off + (k * 21 + j), none⟩) hbl).trans (hcc k _ (Ld.rgetD hlt) j u hu)
        have hkw := HRW.out rows[k] (List.getElem_mem hlt)
        have hkf := HFR.out rows[k] (List.getElem_mem hlt)
        have hbl2 : k < (baseL x0).length := by have := congrArg List.length HMAP.out; rw [List.length_map] at this; omega
        have hget : (baseL x0)[k] = rows[k].1 := by
          have q1 := HMAP.out
          have q2 : (rows.map Prod.fst)[k]? = some rows[k].1 := by rw [List.getElem?_map, List.getElem?_eq_getElem hlt]; rfl
          rw [q1, List.getElem?_eq_getElem hbl2] at q2
          exact Option.some.inj q2
        have hch := Chain.split HCN.out hbl2
        rw [hget] at hch
        clear hcc hget hbl2
        generalize rows[k] = r at hrg hkw hkf hch
        obtain ⟨x, vc, vn, vh, vl⟩ := r
        obtain ⟨⟨t1, t2, t3, t4⟩, hxw⟩ := hkw
        dsimp only at t1 t2 t3 t4 hxw hkf hch
        obtain ⟨p1, n1, rfl, -⟩ := id t1
        obtain ⟨p2, n2, rfl, -⟩ := id t2
        obtain ⟨p3, n3, rfl, -⟩ := id t3
        obtain ⟨p4, n4, rfl, -⟩ := id t4
        have HCH2 := Lib.hid hch
        have hst : (wr.alloc (.cells zR 38)).heap[wr.heap.size]? = some (.cells zR 38 (0, 0)) := heap_alloc_new _ _
        obtain ⟨WR, hWR⟩ : ∃ q, (wr.alloc (.cells zR 38)).setRow wr.heap.size (rArr x (.slice p1 x.ent.cmd.nodes.length n1) (.slice p2 x.shot.nodes.length n2) (.slice p3 x.shot.led.held.length n3) (.slice p4 x.shot.led.last.length n4)) = q := ⟨_, rfl⟩
        have hbx : Below wr.heap.size wr WR := by rw [← hWR]; exact Ld.below_row ((Below.refl _ _).alloc (Nat.le_refl _) _) (Nat.le_refl _) _
        have HRR : Hid (WR.heap[wr.heap.size]? = some (.cells (rArr x (.slice p1 x.ent.cmd.nodes.length n1) (.slice p2 x.shot.nodes.length n2) (.slice p3 x.shot.led.held.length n3) (.slice p4 x.shot.led.last.length n4)) 38 (0, 0))) := Lib.hid (by rw [← hWR]; exact setRow_heap _ _ _ _ _ _ hst)
        have HAX := Lib.hid ((hbx.block _ (lt_of_row HA.out)).trans HA.out)
        have HBX := Lib.hid (HB.out.trans (hbx.mono HB.out.size))
        have HIX := Lib.hid (HI.out.below hbx (Nat.le_refl _))
        have HRX : Hid (IsRec WR (.agg (rArr x (.slice p1 x.ent.cmd.nodes.length n1) (.slice p2 x.shot.nodes.length n2) (.slice p3 x.shot.led.held.length n3) (.slice p4 x.shot.led.last.length n4))) x) := Lib.hid ⟨_, _, _, _, rfl, RecL.below (r := x) ⟨t1, t2, t3, t4⟩ HBX.out (Nat.le_refl _), hxw⟩
        have HKF := Lib.hid hkf
        have HST := Lib.hid hst
        have hkz : (k : Int) < (rows.length : Int) := by omega
        clear t1 t2 t3 t4 hxw hbx hkf hst hch
        go_wp2_with (first
          | (refine wpList_load_mid rfl 38 (.tmp 35) rfl b (off + k * 21) rfl (rArr x (.slice p1 x.ent.cmd.nodes.length n1) (.slice p2 x.shot.nodes.length n2) (.slice p3 x.shot.led.held.length n3) (.slice p4 x.shot.led.last.length n4)).toList _ hrg Try.underlying38 rfl (by kernel_rfl) ?_)
          | (refine wpList_store_row rfl 38 (.tmp 8) (.tmp 36) rfl wr.heap.size (rArr x (.slice p1 x.ent.cmd.nodes.length n1) (.slice p2 x.shot.nodes.length n2) (.slice p3 x.shot.led.held.length n3) (.slice p4 x.shot.led.last.length n4)) rfl rfl 38 _ HST.out (by kernel_rfl) rfl (rArr_one _ _ _ _ _ _ _ _ _ _ _ _ _) ?_; rw [hWR])
          | (with_reducible refine wpList_load_row rfl 32 (.tmp 6) rfl w2.heap.size rfl 32 (hArr hc (.slice a1 hc.shot.nodes.length c1) (.slice a2 hc.shot.led.held.length c2) (.slice a3 hc.shot.led.last.length c3) (.slice a4 hc.log.length c4)) (0, 0) _ HAX.out Try.underlying32 rfl (by kernel_rfl) ?_)
          | (with_reducible refine wpList_load_row rfl 38 (.tmp 8) rfl wr.heap.size rfl 38 (rArr x (.slice p1 x.ent.cmd.nodes.length n1) (.slice p2 x.shot.nodes.length n2) (.slice p3 x.shot.led.held.length n3) (.slice p4 x.shot.led.last.length n4)) (0, 0) _ HRR.out Try.underlying38 rfl (by kernel_rfl) ?_))
        refine (do_any hc _ x _ _ HIX.out (HFN.out.fits (by omega)) HRX.out HKF.out).mono ?_
        rintro e w3 ⟨z, h2, un, uh, ul, ug, rfl, hz, own, hw, hb3⟩
        obtain ⟨d1, e1, d2, e2, d3, e3, d4, e4, rfl, rfl, rfl, rfl⟩ := OwnH.forms own hw
        obtain ⟨rfl, he⟩ : z = 0 ∧ h2 = doH hc x := by
          rcases hz with ⟨a, -, c⟩ | ⟨-, b, -⟩
          · exact ⟨a, c⟩
          · exact absurd HCH2.out.1 b
        have hst : (w3.alloc (.cells zH 32)).heap[w3.heap.size]? = some (.cells zH 32 (0, 0)) := heap_alloc_new _ _
        obtain ⟨WN, hWN⟩ : ∃ q, (w3.alloc (.cells zH 32)).setRow w3.heap.size (hArr h2 (.slice d1 h2.shot.nodes.length e1) (.slice d2 h2.shot.led.held.length e2) (.slice d3 h2.shot.led.last.length e3) (.slice d4 h2.log.length e4)) = q := ⟨_, rfl⟩
        have hbn : Below w3.heap.size w3 WN := by rw [← hWN]; exact Ld.below_row ((Below.refl _ _).alloc (Nat.le_refl _) _) (Nat.le_refl _) _
        have HRN : Hid (WN.heap[w3.heap.size]? = some (.cells (hArr h2 (.slice d1 h2.shot.nodes.length e1) (.slice d2 h2.shot.led.held.length e2) (.slice d3 h2.shot.led.last.length e3) (.slice d4 h2.log.length e4)) 32 (0, 0))) := Lib.hid (by rw [← hWN]; exact setRow_heap _ _ _ _ _ _ hst)
        have HAN := Lib.hid ((hbn.block _ (Nat.lt_of_lt_of_le (lt_of_row HAX.out) hb3.size)).trans ((hb3.block _ (lt_of_row HAX.out)).trans HAX.out))
        have hb3n := hb3.trans (hbn.mono hb3.size)
        have HBN := Lib.hid (HBX.out.trans (hb3n.mono HBX.out.size))
        have HOW := Lib.hid (own.map fun e sz v n xs q => owns_below hbn q)
        have HHW := Lib.hid hw
        have HST := Lib.hid hst
        have HFN2 : Hid (FitsN (k + 1) h2) := Lib.hid (by rw [he]; exact doH_fits HFN.out HKF.out)
        have HCH3 : Hid (Chain h2 ((baseL x0).drop (k + 1)) x0) := Lib.hid (by rw [he]; exact HCH2.out.2)
        clear hz own hw hb3 hst hbn hb3n hrg he
        obtain ⟨WF, hWF⟩ : ∃ q, WN.setRow w2.heap.size (hArr h2 (.slice d1 h2.shot.nodes.length e1) (.slice d2 h2.shot.led.held.length e2) (.slice d3 h2.shot.led.last.length e3) (.slice d4 h2.log.length e4)) = q := ⟨_, rfl⟩
        have HAF : Hid (WF.heap[w2.heap.size]? = some (.cells (hArr h2 (.slice d1 h2.shot.nodes.length e1) (.slice d2 h2.shot.led.held.length e2) (.slice d3 h2.shot.led.last.length e3) (.slice d4 h2.log.length e4)) 32 (0, 0))) := Lib.hid (by rw [← hWF]; exact setRow_heap _ _ _ _ _ _ HAN.out)
        have HIF : Hid (IsHard WF (.agg (hArr h2 (.slice d1 h2.shot.nodes.length e1) (.slice d2 h2.shot.led.held.length e2) (.slice d3 h2.shot.led.last.length e3) (.slice d4 h2.log.length e4))) h2) := Lib.hid (OwnH.hard (by rw [← hWF]; exact HOW.out.map fun e sz v n xs q => owns_row q (lt_of_row HAX.out)) HHW.out)
        have HBF : Hid (Below w2.heap.size w2 WF) := Lib.hid (by rw [← hWF]; exact Ld.below_row HBN.out (Nat.le_refl _) _)
        go_wp2_with (first
          | (with_reducible refine wpList_store_row rfl 32 (.tmp 9) (.tmp 41) rfl w3.heap.size (hArr h2 (.slice d1 h2.shot.nodes.length e1) (.slice d2 h2.shot.led.held.length e2) (.slice d3 h2.shot.led.last.length e3) (.slice d4 h2.log.length e4)) rfl rfl 32 _ HST.out (by kernel_rfl) rfl (hArr_one _ _ _ _ _ _ _ _ _ _ _ _ _) ?_; rw [hWN])
          | (with_reducible refine wpList_load_row rfl 32 (.tmp 9) rfl w3.heap.size rfl 32 (hArr h2 (.slice d1 h2.shot.nodes.length e1) (.slice d2 h2.shot.led.held.length e2) (.slice d3 h2.shot.led.last.length e3) (.slice d4 h2.log.length e4)) (0, 0) _ HRN.out Try.underlying32 rfl (by kernel_rfl) ?_)
          | (with_reducible refine wpList_store_row rfl 32 (.tmp 6) (.tmp 45) rfl w2.heap.size (hArr h2 (.slice d1 h2.shot.nodes.length e1) (.slice d2 h2.shot.led.held.length e2) (.slice d3 h2.shot.led.last.length e3) (.slice d4 h2.log.length e4)) rfl rfl 32 _ HAN.out (by kernel_rfl) rfl (hArr_one _ _ _ _ _ _ _ _ _ _ _ _ _) ?_; rw [hWF]))
        go_roundw
        case rel => exact ⟨k + 1, h2, d1, e1, d2, e2, d3, e3, d4, e4, by omega, by go_num, Lib.hid HAF.out, Lib.hid HIF.out, Lib.hid HFN2.out, Lib.hid HCH3.out, Lib.hid HBF.out⟩
        case measure => simp [intOf]; omega
      · obtain rfl : k = rows.length := by omega
        have hend : hc = x0 := by
          have q := HCN.out
          rw [List.drop_eq_nil_of_le (by have := congrArg List.length HMAP.out; rw [List.length_map] at this; omega)] at q
          exact q
        subst hend
        have HAE := Lib.hid HA.out
        have HIE := Lib.hid HI.out
        have HHE := Lib.hid ((HB.out.block _ HL2.out).trans HA2.out)
        have HJE := Lib.hid (HI2.out.below HB.out (Nat.le_refl _))
        have HBE := Lib.hid (HB2.out.trans (HB.out.mono HB2.out.size))
        clear HA HI HB HFN HCN
        go_wp2_with (first
          | (with_reducible refine wpList_load_rowG rfl 32 (.tmp 6) rfl w2.heap.size rfl 32 (hArr hc (.slice a1 hc.shot.nodes.length c1) (.slice a2 hc.shot.led.held.length c2) (.slice a3 hc.shot.led.last.length c3) (.slice a4 hc.log.length c4)) (0, 0) _ HAE.out Try.underlying32 rfl (by kernel_rfl) ?_)
          | (with_reducible refine wpList_load_rowG rfl 32 (.tmp 1) rfl w.heap.size rfl 32 (hArr hc (.slice g1 hc.shot.nodes.length q1) (.slice g2 hc.shot.led.held.length q2) (.slice g3 hc.shot.led.last.length q3) (.slice g4 hc.log.length q4)) (0, 0) _ HHE.out Try.underlying32 rfl (by kernel_rfl) ?_))
        refine (same_any hc _ _ _ HIE.out HJE.out).mono ?_
        rintro e w9 ⟨rfl, hb9⟩
        go_wp2
        go_ret
        exact ⟨rfl, HBE.out.trans (hb9.mono HBE.out.size)⟩
  · have HNO := Lib.hid hno
    clear hno hrecs
    go_wp2_with ((with_reducible refine wpList_load_rowG rfl 32 (.tmp 1) rfl w.heap.size rfl 32 (hArr x0 (.slice g1 x0.shot.nodes.length q1) (.slice g2 x0.shot.led.held.length q2) (.slice g3 x0.shot.led.last.length q3) (.slice g4 x0.log.length q4)) (0, 0) _ HA2.out Try.underlying32 rfl (by kernel_rfl) ?_))
    refine (check_any x0 _ _ HI2.out).mono ?_
    rintro e w3 ⟨z3, rfl, hz3, hb3⟩
    obtain rfl : z3 = 130 := by
      rcases hz3 with g | g
      · exact absurd g.2 HNO.out
      · exact g.1
    have HB3 := Lib.hid (HB2.out.trans (hb3.mono HB2.out.size))
    clear hz3 hb3
    go_wp2
    go_ret
    exact ⟨rfl, HB3.out⟩

set_option maxRecDepth 100000 in
theorem contract (H : Type) (enc : TypeId × Value → H) (W : World) (base : Nat) (args : Array Value) (ds gs : List (DataW H)) (before : List MemPlace)
    (hval0 : ∀ (j : Nat) t v, Try.f5.params[j]? = some t → args[j]? = some v → Value.okWide Try.prog W .any base t v)
    (hW : DataW.Whole enc Try.prog Try.f5.params.toList Rows.hardMakesSpec.vars false W args.toList ds gs before)
    (hk : Rows.uptoSmall H (ds ++ gs) = true) :
    Calls Try.prog 5 args W fun e W' => ∃ v, e = .returned v ∧ Rows.hardMakesSpec.post enc Try.prog Try.f5 false true false false W args v W' := by
  have hval : ∀ (j : Nat) t v, Try.f5.params[j]? = some t → args[j]? = some v → Value.okWide Try.prog W .any base t v := hval0
  have hW' := hW
  obtain ⟨p, q, hA0, hV, rfl, hfz, hnd⟩ := hW
  have hA : DataW.TrodAll enc Try.prog W 0 (fun _ => true) true Try.f5.params.toList args.toList ds p := hA0
  rw [Try.params5] at hA hval
  obtain ⟨v0, vs0, d0, ds0, p0, q0, hargs, rfl, rfl, h0, r0⟩ := trodAll_cons hA
  obtain ⟨rfl, rfl, rfl⟩ := trodAll_nil r0
  obtain rfl : args = #[v0] := by cases args; simp_all
  obtain ⟨rfl, rfl⟩ := trodVars_none hV
  clear hA0 hval0
  simp only [List.append_nil] at hk
  have ub := of_decide_eq_true hk
  have u0 : Rows.uptoBulk d0 ≤ 1048576 := Nat.le_trans (bulk_mem (l := [d0]) (by simp)) ub
  clear hk ub
  have k0 := h0
  have lt0 : ∀ x ∈ p0, x.block < W.heap.size := by obtain ⟨m, hm⟩ := k0; exact DataW.trod_lt m _ _ _ hm
  obtain ⟨x0, w0, b00, s0⟩ := open_hardU (hval 0 32 v0 rfl rfl) k0
  have b0 : IsHardU.size x0 ≤ 1048576 := Nat.le_trans b00 u0
  have f0 : IsHardU.fits x0 := s0 (wt_small u0 (by decide +kernel))
  refine (walk v0 x0 W w0 b0 f0).mono fun e W' ⟨he, bel⟩ => ?_
  subst he
  exact ⟨_, rfl, _, _, _, [], _, [], hW', trodAll_mk1 (shut_bool Try.underlying4 _), (trodAll_cons_mk (Below.trod laidOut (by kernel_rfl) (of_decide_eq_true (by kernel_rfl)) k0 bel lt0) trodAll_mk0), rfl, bel.frame _, fun h => by cases h⟩

set_option maxRecDepth 100000 in
theorem lifted (os : Os) (started : os.Started) (H : Type) (enc : TypeId × Value → H) (F : Stop.Interp) :
    ReturnsInHanded {} Try.checked os 5 .any ((Rows.OpenSpec.upto Rows.hardMakesSpec).pre6 enc Try.prog Try.f5 Rows.hardMakesUptoRow.domain false) (((Rows.OpenSpec.upto Rows.hardMakesSpec).at F).post enc Try.prog Try.f5 false true false false) := by
  refine returnsInHanded_of_cond (C := Try.checked) (s := Rows.OpenSpec.upto Rows.hardMakesSpec) (k := Rows.uptoSmall) rfl own started (by kernel_rfl) Try.func5
    (OpenSpec.witness (enc := enc) (C := Try.checked) (s := Rows.OpenSpec.upto Rows.hardMakesSpec) (k := Rows.uptoSmall) rfl false ⟨#[], #[.agg #[.int .u64 0, .int .u64 0, .int .i64 0, .int .u64 0, .int .u64 0, .slice none 0 0, .int .i64 0, .int .u64 0, .slice none 0 0, .slice none 0 0, .slice none 0 0]], []⟩ 8 (by kernel_rfl) (by kernel_rfl) (by kernel_rfl)
      (x := ([.agg [.lit (.int .u64 0), .lit (.int .u64 0), .lit (.int .i64 0), .agg [.lit (.int .u64 0), .lit (.int .u64 0), .nil, .agg [.lit (.int .i64 0), .lit (.int .u64 0), .nil, .nil]], .nil]], [], [])) (by kernel_rfl) rfl (by kernel_rfl)) ?_
  intro W base args ds gs before hval hW _ hk _
  exact contract H enc W base args ds gs before hval hW hk

theorem proved : Rows.HardMakesUptoSaid :=
  OpenClaim.holds_of_cond 5 Try.f5 rfl rfl rfl rfl rfl rfl rfl ⟨rfl, rfl, rfl, rfl, rfl⟩ rfl rfl rfl rfl rfl (by kernel_rfl) Try.func5 (by kernel_rfl)
    (of_decide_eq_true (by kernel_rfl)) (by unfold Func.isWrapper; first | (rw [if_pos (by decide +kernel)]; kernel_rfl) | (rw [if_neg (by decide +kernel)]; exact ⟨rfl, rfl⟩))
    (fun os started H enc _ F => lifted os started H enc F)
end Go.Proofs.Ytgadbghlcejkfaa.hardMakes
