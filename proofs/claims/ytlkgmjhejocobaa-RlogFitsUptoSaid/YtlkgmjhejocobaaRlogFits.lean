/- The law RlogFits returns true for all that may be read as what lasts and as what Merge is asked, each of at most 1048576 parts: the records that package rlog's Merge tells may come; behind them the entries stand there, nothing up to commit has changed, and when they come again there is nothing to do. No condition but that bound of size. -/
import Derived.Test.YtlkgmjhejocobaaBse
import Derived.Test.YtlkgmjhejocobaaFtA
import Derived.Deep.MidRow
namespace Go.Proofs.Ytlkgmjhejocobaa.rlogFits
open Go.ChangeShapes Go.WideShapes Go.ChangeAt Go.RowKit
open Go.ChangeMaps (open_string shut_string)
set_option linter.unusedVariables false

theorem own : ownKnob Try.prog.godebug = none := by kernel_rfl
theorem laidOut : laidOutB Try.prog = true := by kernel_rfl

open Rc Hd Nv Rl Mg Vc Go.Deep
theorem merge_idx {h : Har} {i t c : Int} {l : List Ent} {recs : List RecR} (ok : hardOk h) (e : mergeV h i t c l = (1, recs)) : i ≤ lastI h := by
  by_cases hi : i < h.shot.index
  · unfold lastI; omega
  · by_cases ht : termP h i = (t, true)
    · exact (term_in2 (h := h) (i := i) (by rw [ht])).2
    · rw [merge_lacks ok hi ht] at e
      simp at e
theorem merge_out {h : Har} {i t c : Int} {l : List Ent} {recs : List RecR} (e : mergeV h i t c l = (1, recs)) (hf : ∀ x ∈ l, IsCmd.fits x.cmd) : recs.length ≤ l.length + 1 ∧ IsRecs.fits recs := by
  have ok := merge_one (h := h) (i := i) (t := t) (c := c) (l := l) (by rw [e])
  by_cases hi : i < h.shot.index
  · rw [merge_low ok hi] at e
    have q := part_out (tail_one e).1 (fun x hx => hf x (List.mem_of_mem_drop hx))
    rw [List.length_drop] at q
    exact ⟨by omega, q.2⟩
  · by_cases ht : termP h i = (t, true)
    · rw [merge_at ok hi ht] at e
      exact part_out (tail_one e).1 hf
    · rw [merge_lacks ok hi ht] at e
      simp at e
set_option maxRecDepth 100000 in
set_option maxHeartbeats 8000000 in
theorem walk (v0 : Value) (x0 : Har) (v1 : Value) (x1 : WayT) (w : World) (w0 : IsHardU w v0 x0) (b0 : IsHardU.size x0 ≤ 1048576) (f0 : IsHardU.fits x0) (w1 : IsWay w v1 x1) (b1 : IsWay.size x1 ≤ 1048576) (f1 : IsWay.fits x1) :
    Calls Try.prog 13 #[v0, v1] w fun e w' => e = .returned (.bool true) ∧ Below w.heap.size w w' := by
  obtain ⟨vn, vh, vl, vg, rfl, hn, hhe, hll, hg, hwf⟩ := id w0
  obtain ⟨g1, q1, rfl, -⟩ := id hn
  obtain ⟨g2, q2, rfl, -⟩ := id hhe
  obtain ⟨g3, q3, rfl, -⟩ := id hll
  obtain ⟨g4, q4, rfl, -⟩ := IsLog.len hg
  obtain ⟨wg, rfl, hwl, wi, wt, wcc⟩ := id w1
  obtain ⟨rowsL, wa, wc, rfl, lrl, llc, lcm, lrc, les, lget⟩ := log_rows hwl
  have i0 := Ld.u64_nonneg wi
  have i1 := Mg.u64_le wi
  have cz0 := Ld.u64_nonneg wcc
  have cz1 := Mg.u64_le wcc
  have bh : x0.log.length ≤ 1048576 := b0
  have bl : x1.l.length ≤ 1048576 := b1
  obtain ⟨W0, hW0⟩ : ∃ q, (w.alloc (.cells (hArr x0 (.slice g1 x0.shot.nodes.length q1) (.slice g2 x0.shot.led.held.length q2) (.slice g3 x0.shot.led.last.length q3) (.slice g4 x0.log.length q4)) 43)).alloc (.cells (wArr x1 (.slice wa x1.l.length wc)) 66) = q := ⟨_, rfl⟩
  have hb0 : Below w.heap.size w W0 := by rw [← hW0]; exact ((Below.refl _ _).alloc (Nat.le_refl _) _).alloc (by simp) _
  have HA0 : Hid (W0.heap[w.heap.size]? = some (.cells (hArr x0 (.slice g1 x0.shot.nodes.length q1) (.slice g2 x0.shot.led.held.length q2) (.slice g3 x0.shot.led.last.length q3) (.slice g4 x0.log.length q4)) 43 (0, 0))) := Lib.hid (by rw [← hW0]; exact heap_alloc2_old _ _ _)
  have HW0 : Hid (W0.heap[w.heap.size + 1]? = some (.cells (wArr x1 (.slice wa x1.l.length wc)) 66 (0, 0))) := Lib.hid (by rw [← hW0]; exact heap_alloc2_new _ _ _)
  have HB0 := Lib.hid hb0
  have HI0 := Lib.hid (w0.below hb0 (Nat.le_refl _))
  have HL0 := Lib.hid (hwl.below hb0 (Nat.le_refl _))
  have HF := Lib.hid f0
  have HWF := Lib.hid (IsHard.harW w0).1
  have HLF := Lib.hid f1.2
  have HLRL := Lib.hid lrl
  have HLRC := Lib.hid lrc
  have HLES := Lib.hid les
  have HLGET := Lib.hid lget
  clear w0 w1 b0 b1 f0 f1 hb0 hn hhe hll hg hwf hwl wi wt wcc lrl lrc les lget
  go_enter Try.func13, Try.ntmps13
  go_wp2_with fail
  refine (Rl.live_any _).mono ?_
  rintro e w1 ⟨rfl, hb1⟩
  have HB1 := Lib.hid (HB0.out.trans (hb1.mono HB0.out.size))
  have HA1 := Lib.hid ((hb1.block _ (lt_of_row HA0.out)).trans HA0.out)
  have HW1 := Lib.hid ((hb1.block _ (lt_of_row HW0.out)).trans HW0.out)
  have HI1 := Lib.hid (HI0.out.below hb1 (Nat.le_refl _))
  have HL1 := Lib.hid (HL0.out.below hb1 (Nat.le_refl _))
  have y0 := (cell_of_row _ _ 0 _ _ _ HW1.out).trans rfl
  have y1 := (cell_of_row _ _ 1 _ _ _ HW1.out).trans rfl
  have y2 := (cell_of_row _ _ 2 _ _ _ HW1.out).trans rfl
  have y3 := (cell_of_row _ _ 3 _ _ _ HW1.out).trans rfl
  clear hb1
  go_wp2_with (first | (with_reducible refine wpList_load_row rfl 43 (.tmp 2) rfl w.heap.size rfl 43 (hArr x0 (.slice g1 x0.shot.nodes.length q1) (.slice g2 x0.shot.led.held.length q2) (.slice g3 x0.shot.led.last.length q3) (.slice g4 x0.log.length q4)) (0, 0) _ HA1.out Try.underlying43 rfl (by kernel_rfl) ?_) | fail)
  refine (merge_any x0 _ x1.i x1.t x1.c x1.l _ _ HI1.out HF.out (by omega) HL1.out HLF.out (by omega) i0 i1 cz0 cz1).mono ?_
  rintro e w3 ⟨va, rfl, hra, hb3⟩
  have HB3 := Lib.hid (HB1.out.trans (hb3.mono HB1.out.size))
  have HA3 := Lib.hid ((hb3.block _ (lt_of_row HA1.out)).trans HA1.out)
  have HW3 := Lib.hid ((hb3.block _ (lt_of_row HW1.out)).trans HW1.out)
  have HI3 := Lib.hid (HI1.out.below hb3 (Nat.le_refl _))
  have HL3 := Lib.hid (HL1.out.below hb3 (Nat.le_refl _))
  clear y0 y1 y2 y3 hb3
  have HR3 := Lib.hid hra
  obtain ⟨N, hN⟩ : ∃ q, mergeV x0 x1.i x1.t x1.c x1.l = q := ⟨_, rfl⟩
  rw [hN] at hra HR3 ⊢
  obtain ⟨n, recs⟩ := N
  obtain ⟨rows, ⟨ra, rcap, rfl, rlc, rcm, rrc⟩, rrw, rmap⟩ := hra
  unfold maxLen at rcm
  have HN := Lib.hid hN
  have HRC := Lib.hid rrc
  have HRW := Lib.hid rrw
  dsimp only at rmap
  have HMAP := Lib.hid rmap
  have HRQ : Hid (rows.length = recs.length) := Lib.hid (by rw [← rmap, List.length_map])
  clear hN rrc rrw rmap
  go_wp2_with (first | (with_reducible refine wpList_load_row rfl 43 (.tmp 2) rfl w.heap.size rfl 43 (hArr x0 (.slice g1 x0.shot.nodes.length q1) (.slice g2 x0.shot.led.held.length q2) (.slice g3 x0.shot.led.last.length q3) (.slice g4 x0.log.length q4)) (0, 0) _ HA3.out Try.underlying43 rfl (by kernel_rfl) ?_) | fail)
  refine (Hd.check_any x0 _ _ HI3.out).mono ?_
  rintro e w4 ⟨z, rfl, hz, hb4⟩
  have HB4 := Lib.hid (HB3.out.trans (hb4.mono HB3.out.size))
  have HA4 := Lib.hid ((hb4.block _ (lt_of_row HA3.out)).trans HA3.out)
  have HW4 := Lib.hid ((hb4.block _ (lt_of_row HW3.out)).trans HW3.out)
  have HI4 := Lib.hid (HI3.out.below hb4 (Nat.le_refl _))
  have HL4 := Lib.hid (HL3.out.below hb4 (Nat.le_refl _))
  have HR4 := Lib.hid (HR3.out.below hb4 (Nat.le_refl _))
  have HB34y := Lib.hid hb4
  clear hb4
  by_cases hn1 : n = 1
  · subst hn1
    have ok := merge_one (h := x0) (i := x1.i) (t := x1.t) (c := x1.c) (l := x1.l) (by rw [HN.out])
    have HOK := Lib.hid ok
    obtain rfl : z = 0 := by
      rcases hz with g | g
      · exact g.1
      · exact absurd ok g.2
    clear hz
    have hfit := fit_of HWF.out ok
    have hs0 : 0 ≤ x0.shot.index := hfit.1
    have hs1 : x0.shot.index + (x0.log.length : Int) ≤ 4611686018427387904 := hfit.2
    have hi62 : x1.i ≤ 4611686018427387904 := by
      have q := merge_idx ok HN.out
      unfold lastI at q
      omega
    obtain ⟨fs, fo, fa, fb, fm⟩ := merge_fits ok HN.out
    have HFS := Lib.hid fs
    have HFO := Lib.hid fo
    have HFA := Lib.hid fa
    have HFB := Lib.hid fb
    have HFM := Lib.hid fm
    have hrb := merge_out HN.out HLF.out
    have HFR : Hid (∀ r ∈ rows, IsRec.fits r.1) := Lib.hid (fun r hr => hrb.2 _ (by rw [← HMAP.out]; exact List.mem_map.2 ⟨r, hr, rfl⟩))
    have hrlen : rows.length ≤ 1048577 := by have := hrb.1; have := HRQ.out; omega
    clear ok hfit fs fo fa fb fm hrb
    obtain ⟨WX, hWX⟩ : ∃ q, (w4.alloc (.cells zHM 43)).setRow w4.heap.size (hArr x0 (.slice g1 x0.shot.nodes.length q1) (.slice g2 x0.shot.led.held.length q2) (.slice g3 x0.shot.led.last.length q3) (.slice g4 x0.log.length q4)) = q := ⟨_, rfl⟩
    have hsX : (w4.alloc (.cells zHM 43)).heap[w4.heap.size]? = some (.cells zHM 43 (0, 0)) := heap_alloc_new _ _
    have hbX : Below w4.heap.size w4 WX := by rw [← hWX]; exact Ld.below_row ((Below.refl _ _).alloc (Nat.le_refl _) _) (Nat.le_refl _) _
    have HX0 : Hid (WX.heap[w4.heap.size]? = some (.cells (hArr x0 (.slice g1 x0.shot.nodes.length q1) (.slice g2 x0.shot.led.held.length q2) (.slice g3 x0.shot.led.last.length q3) (.slice g4 x0.log.length q4)) 43 (0, 0))) := Lib.hid (by rw [← hWX]; exact setRow_heap _ _ _ _ _ _ hsX)
    have HBX := Lib.hid hbX
    have HB4X : Hid (Below w4.heap.size w4 WX) := Lib.hid hbX
    have HB34 : Hid (Below w3.heap.size w3 WX) := Lib.hid (HB34y.out.trans (hbX.mono HB34y.out.size))
    have HG34 : Hid (w3.heap.size ≤ w4.heap.size) := Lib.hid HB34y.out.size
    have HIX0 := Lib.hid (HI4.out.below hbX (Nat.le_refl _))
    have HNX : Hid (FitsN x0.log.length x0) := Lib.hid ⟨HF.out.1, Nat.le_refl _, HF.out.2.2⟩
    clear hbX
    go_wp2_with (first
      | (with_reducible refine wpList_load_row rfl 43 (.tmp 2) rfl w.heap.size rfl 43 (hArr x0 (.slice g1 x0.shot.nodes.length q1) (.slice g2 x0.shot.led.held.length q2) (.slice g3 x0.shot.led.last.length q3) (.slice g4 x0.log.length q4)) (0, 0) _ HA4.out Try.underlying43 rfl (by kernel_rfl) ?_)
      | (with_reducible refine wpList_store_row rfl 43 (.tmp 8) (.tmp 52) rfl w4.heap.size (hArr x0 (.slice g1 x0.shot.nodes.length q1) (.slice g2 x0.shot.led.held.length q2) (.slice g3 x0.shot.led.last.length q3) (.slice g4 x0.log.length q4)) rfl rfl 43 _ hsX (by kernel_rfl) rfl (hArr_one _ _ _ _ _ _ _ _ _ _ _ _ _) ?_; rw [hWX]; clear hWX hsX))
    obtain ⟨gx, hgx⟩ : ∃ q, w4.heap.size = q := ⟨_, rfl⟩
    rw [hgx] at HX0 HBX HG34 HB4X ⊢
    have HGX : Hid (gx < WX.heap.size) := Lib.hid (lt_of_row HX0.out)
    have HG4 := Lib.hid hgx
    have HRC4 : Hid (∀ k (hk : k < rows.length), ∃ b off, ra = some ⟨b, off, none⟩ ∧ b < w3.heap.size ∧ ∀ j u, (recC rows[k])[j]? = some u → w3.cell? ⟨b, off + (k * 21 + j), none⟩ = some u) := Lib.hid (fun k hk => by
      obtain ⟨b, off, e1, e2, e3⟩ := Ld.rows_open hk HRC.out
      exact ⟨b, off, e1, e2, fun j u hu => e3 k _ (Ld.rgetD hk) j u hu⟩)
    clear HRC hgx
    go_loopw [55] (fun i wr => ∃ (k : Nat) (hc : Har) (a1 : Option Addr) (c1 : Nat) (a2 : Option Addr) (c2 : Nat) (a3 : Option Addr) (c3 : Nat) (a4 : Option Addr) (c4 : Nat), k ≤ rows.length ∧ i = .int .i64 k ∧ Hid (wr.heap[gx]? = some (.cells (hArr hc (.slice a1 hc.shot.nodes.length c1) (.slice a2 hc.shot.led.held.length c2) (.slice a3 hc.shot.led.last.length c3) (.slice a4 hc.log.length c4)) 43 (0, 0))) ∧ Hid (IsHard wr (.agg (hArr hc (.slice a1 hc.shot.nodes.length c1) (.slice a2 hc.shot.led.held.length c2) (.slice a3 hc.shot.led.last.length c3) (.slice a4 hc.log.length c4))) hc) ∧ Hid (FitsN (x0.log.length + k) hc) ∧ Hid (hc = runH x0 (recs.take k) ∧ stepsOk hc (recs.drop k)) ∧ Hid (Below gx WX wr)) (fun i _ => rows.length - (intOf i).toNat)
    case atStart => exact ⟨0, x0, g1, q1, g2, q2, g3, q3, g4, q4, Nat.zero_le _, by rfl, HX0, HIX0, HNX, Lib.hid ⟨rfl, HFS.out⟩, Lib.hid (Below.refl _ _)⟩
    case round =>
      obtain ⟨k, hc, a1, c1, a2, c2, a3, c3, a4, c4, hk, rfl, HA9, HI9, HFN9, HST, HB9⟩ := hrel
      by_cases hlt : k < rows.length
      · obtain ⟨b, off, hab, hbl, hcc⟩ := HRC4.out k hlt
        subst hab
        have HB39 := Lib.hid (HB34.out.trans (HB9.out.mono HG34.out))
        have hrg : wr.rangeAt b (off + k * 21) (recC rows[k]) := rec_rangeG fun j u hu => (HB39.out.cell (p := ⟨b, off + (k * 21 + j), none⟩) hbl).trans (hcc j u hu)
        have hkw := HRW.out rows[k] (List.getElem_mem hlt)
        have hkf := HFR.out rows[k] (List.getElem_mem hlt)
        have hxg : recs[k]? = some rows[k].1 := by rw [← HMAP.out, List.getElem?_map, List.getElem?_eq_getElem hlt]; rfl
        clear hcc hbl
        generalize rows[k] = r at hrg hkw hkf hxg
        obtain ⟨x, vc, vn, vh, vl⟩ := r
        obtain ⟨⟨t1, t2, t3, t4⟩, hxw⟩ := hkw
        dsimp only at t1 t2 t3 t4 hxw hkf hxg
        obtain ⟨p1, n1, rfl, -⟩ := id t1
        obtain ⟨p2, n2, rfl, -⟩ := id t2
        obtain ⟨p3, n3, rfl, -⟩ := id t3
        obtain ⟨p4, n4, rfl, -⟩ := id t4
        have hst : (wr.alloc (.cells zR 49)).heap[wr.heap.size]? = some (.cells zR 49 (0, 0)) := heap_alloc_new _ _
        obtain ⟨WR, hWR⟩ : ∃ q, (wr.alloc (.cells zR 49)).setRow wr.heap.size (rArr x (.slice p1 x.ent.cmd.nodes.length n1) (.slice p2 x.shot.nodes.length n2) (.slice p3 x.shot.led.held.length n3) (.slice p4 x.shot.led.last.length n4)) = q := ⟨_, rfl⟩
        have hbx : Below wr.heap.size wr WR := by rw [← hWR]; exact Ld.below_row ((Below.refl _ _).alloc (Nat.le_refl _) _) (Nat.le_refl _) _
        have HRR : Hid (WR.heap[wr.heap.size]? = some (.cells (rArr x (.slice p1 x.ent.cmd.nodes.length n1) (.slice p2 x.shot.nodes.length n2) (.slice p3 x.shot.led.held.length n3) (.slice p4 x.shot.led.last.length n4)) 49 (0, 0))) := Lib.hid (by rw [← hWR]; exact setRow_heap _ _ _ _ _ _ hst)
        have HAX := Lib.hid ((hbx.block _ (lt_of_row HA9.out)).trans HA9.out)
        have HBX9 := Lib.hid (HB9.out.trans (hbx.mono (Nat.le_trans (Nat.le_of_lt HGX.out) HB9.out.size)))
        have HIX := Lib.hid (HI9.out.below hbx (Nat.le_refl _))
        have HRX : Hid (IsRec WR (.agg (rArr x (.slice p1 x.ent.cmd.nodes.length n1) (.slice p2 x.shot.nodes.length n2) (.slice p3 x.shot.led.held.length n3) (.slice p4 x.shot.led.last.length n4))) x) := Lib.hid ⟨_, _, _, _, rfl, RecL.below (r := x) ⟨t1, t2, t3, t4⟩ (HB39.out.trans (hbx.mono HB39.out.size)) (Nat.le_refl _), hxw⟩
        have HKF9 := Lib.hid hkf
        have HDR := Lib.hid (drop_at hxg)
        have HTK : Hid (recs.take (k + 1) = recs.take k ++ [x]) := Lib.hid (by rw [List.take_add_one, hxg]; rfl)
        have hkz : (k : Int) < (rows.length : Int) := by omega
        clear t1 t2 t3 t4 hxw hbx hkf hxg
        go_wp2_with (first
          | (refine wpList_load_mid rfl 49 (.tmp 57) rfl b (off + k * 21) rfl (rArr x (.slice p1 x.ent.cmd.nodes.length n1) (.slice p2 x.shot.nodes.length n2) (.slice p3 x.shot.led.held.length n3) (.slice p4 x.shot.led.last.length n4)).toList _ hrg Try.underlying49 rfl (by kernel_rfl) ?_)
          | (with_reducible refine wpList_store_row rfl 49 (.tmp 10) (.tmp 58) rfl wr.heap.size (rArr x (.slice p1 x.ent.cmd.nodes.length n1) (.slice p2 x.shot.nodes.length n2) (.slice p3 x.shot.led.held.length n3) (.slice p4 x.shot.led.last.length n4)) rfl rfl 49 _ hst (by kernel_rfl) rfl (rArr_one _ _ _ _ _ _ _ _ _ _ _ _ _) ?_; rw [hWR]; clear hWR hst)
          | (with_reducible refine wpList_load_row rfl 43 (.tmp 8) rfl gx rfl 43 (hArr hc (.slice a1 hc.shot.nodes.length c1) (.slice a2 hc.shot.led.held.length c2) (.slice a3 hc.shot.led.last.length c3) (.slice a4 hc.log.length c4)) (0, 0) _ HAX.out Try.underlying43 rfl (by kernel_rfl) ?_)
          | (with_reducible refine wpList_load_row rfl 49 (.tmp 10) rfl wr.heap.size rfl 49 (rArr x (.slice p1 x.ent.cmd.nodes.length n1) (.slice p2 x.shot.nodes.length n2) (.slice p3 x.shot.led.held.length n3) (.slice p4 x.shot.led.last.length n4)) (0, 0) _ HRR.out Try.underlying49 rfl (by kernel_rfl) ?_))
        refine (do_any hc _ x _ _ HIX.out (HFN9.out.fits (by omega)) HRX.out HKF9.out).mono ?_
        rintro e w2 ⟨z, h2, un, uh, ul, ug, rfl, hz, own, hw, hb2⟩
        obtain ⟨d1, e1, d2, e2, d3, e3, d4, e4, rfl, rfl, rfl, rfl⟩ := OwnH.forms own hw
        have hcan : can hc x := by have q := HST.out.2; rw [HDR.out] at q; exact q.1
        have HSN : Hid (stepsOk (doH hc x) (recs.drop (k + 1))) := Lib.hid (by have q := HST.out.2; rw [HDR.out] at q; exact q.2)
        obtain ⟨rfl, he⟩ : z = 0 ∧ h2 = doH hc x := by
          rcases hz with g | g
          · exact ⟨g.1, g.2.2⟩
          · exact absurd hcan g.2.1
        have HE := Lib.hid he
        have HAN := Lib.hid ((hb2.block _ (lt_of_row HAX.out)).trans HAX.out)
        have hsY : (w2.alloc (.cells zHM 43)).heap[w2.heap.size]? = some (.cells zHM 43 (0, 0)) := heap_alloc_new _ _
        obtain ⟨WY, hWY⟩ : ∃ q, (w2.alloc (.cells zHM 43)).setRow w2.heap.size (hArr h2 (.slice d1 h2.shot.nodes.length e1) (.slice d2 h2.shot.led.held.length e2) (.slice d3 h2.shot.led.last.length e3) (.slice d4 h2.log.length e4)) = q := ⟨_, rfl⟩
        have hbY : Below w2.heap.size w2 WY := by rw [← hWY]; exact Ld.below_row ((Below.refl _ _).alloc (Nat.le_refl _) _) (Nat.le_refl _) _
        have HY0 : Hid (WY.heap[w2.heap.size]? = some (.cells (hArr h2 (.slice d1 h2.shot.nodes.length e1) (.slice d2 h2.shot.led.held.length e2) (.slice d3 h2.shot.led.last.length e3) (.slice d4 h2.log.length e4)) 43 (0, 0))) := Lib.hid (by rw [← hWY]; exact setRow_heap _ _ _ _ _ _ hsY)
        have han := (hbY.block _ (lt_of_row HAN.out)).trans HAN.out
        have HAY := Lib.hid han
        obtain ⟨WF, hWF⟩ : ∃ q, WY.setRow gx (hArr h2 (.slice d1 h2.shot.nodes.length e1) (.slice d2 h2.shot.led.held.length e2) (.slice d3 h2.shot.led.last.length e3) (.slice d4 h2.log.length e4)) = q := ⟨_, rfl⟩
        have HAF : Hid (WF.heap[gx]? = some (.cells (hArr h2 (.slice d1 h2.shot.nodes.length e1) (.slice d2 h2.shot.led.held.length e2) (.slice d3 h2.shot.led.last.length e3) (.slice d4 h2.log.length e4)) 43 (0, 0))) := Lib.hid (by rw [← hWF]; exact setRow_heap _ _ _ _ _ _ han)
        have HIFF : Hid (IsHard WF (.agg (hArr h2 (.slice d1 h2.shot.nodes.length e1) (.slice d2 h2.shot.led.held.length e2) (.slice d3 h2.shot.led.last.length e3) (.slice d4 h2.log.length e4))) h2) := Lib.hid (OwnH.hard (by rw [← hWF]; exact (own.map fun e sz v n xs q => owns_below hbY q).map fun e sz v n xs q => owns_row q (lt_of_row HAX.out)) hw)
        have HBY : Hid (Below gx WX WY) := Lib.hid ((HBX9.out.trans (hb2.mono (Nat.le_trans (Nat.le_of_lt HGX.out) HBX9.out.size))).trans (hbY.mono (Nat.le_trans (Nat.le_trans (Nat.le_of_lt HGX.out) HBX9.out.size) hb2.size)))
        have HBF : Hid (Below gx WX WF) := Lib.hid (by rw [← hWF]; exact Ld.below_row HBY.out (Nat.le_refl _) _)
        have HFN2 : Hid (FitsN (x0.log.length + (k + 1)) h2) := Lib.hid (by rw [he]; exact doH_fits HFN9.out HKF9.out)
        have HST2 : Hid (h2 = runH x0 (recs.take (k + 1)) ∧ stepsOk h2 (recs.drop (k + 1))) := Lib.hid ⟨by rw [he, HTK.out, HST.out.1]; unfold runH; rw [List.foldl_append]; rfl, by rw [he]; exact HSN.out⟩
        clear hz own hw hb2 han hrg hbY he hcan
        go_wp2_with (first
          | (with_reducible refine wpList_store_row rfl 43 (.tmp 11) (.tmp 63) rfl w2.heap.size (hArr h2 (.slice d1 h2.shot.nodes.length e1) (.slice d2 h2.shot.led.held.length e2) (.slice d3 h2.shot.led.last.length e3) (.slice d4 h2.log.length e4)) rfl rfl 43 _ hsY (by kernel_rfl) rfl (hArr_one _ _ _ _ _ _ _ _ _ _ _ _ _) ?_; rw [hWY]; clear hWY hsY)
          | (with_reducible refine wpList_load_row rfl 43 (.tmp 11) rfl w2.heap.size rfl 43 (hArr h2 (.slice d1 h2.shot.nodes.length e1) (.slice d2 h2.shot.led.held.length e2) (.slice d3 h2.shot.led.last.length e3) (.slice d4 h2.log.length e4)) (0, 0) _ HY0.out Try.underlying43 rfl (by kernel_rfl) ?_)
          | (with_reducible refine wpList_store_row rfl 43 (.tmp 8) (.tmp 67) rfl gx (hArr h2 (.slice d1 h2.shot.nodes.length e1) (.slice d2 h2.shot.led.held.length e2) (.slice d3 h2.shot.led.last.length e3) (.slice d4 h2.log.length e4)) rfl rfl 43 _ HAY.out (by kernel_rfl) rfl (hArr_one _ _ _ _ _ _ _ _ _ _ _ _ _) ?_; rw [hWF]; clear hWF))
        go_roundw
        case rel => exact ⟨k + 1, h2, d1, e1, d2, e2, d3, e3, d4, e4, by omega, by go_num, HAF, HIFF, HFN2, HST2, HBF⟩
        case measure => simp [intOf]; omega
      · obtain rfl : k = rows.length := by omega
        obtain ⟨rfl, -⟩ := id (HST.out)
        have HXE : Hid (runH x0 (recs.take rows.length) = runH x0 recs) := Lib.hid (by rw [HRQ.out, List.take_length])
        rw [HXE.out] at HA9 HI9 HFN9
        have HK5 := Lib.hid ((HB4X.out.trans HB9.out))
        have hb5 : Below w4.heap.size w4 wr := by rw [HG4.out]; exact HK5.out
        have HB5 := Lib.hid (HB4.out.trans (hb5.mono HB4.out.size))
        have HA5 := Lib.hid ((hb5.block _ (lt_of_row HA4.out)).trans HA4.out)
        have HW5 := Lib.hid ((hb5.block _ (lt_of_row HW4.out)).trans HW4.out)
        have HI5 := Lib.hid (HI4.out.below hb5 (Nat.le_refl _))
        have HL5 := Lib.hid (HL4.out.below hb5 (Nat.le_refl _))
        obtain ⟨w5, hw5⟩ : ∃ q, q = wr := ⟨_, rfl⟩
        rw [← hw5] at HA9 HI9 HB5 HA5 HW5 HI5 HL5 ⊢
        have HX5 := HA9
        have HJ5 := HI9
        have hh5 : (runH x0 recs).log.length ≤ 2097153 := by have := HFN9.out.2.1; omega
        have HJF : Hid (IsHard.fits (runH x0 recs)) := Lib.hid (HFN9.out.fits (by omega))
        obtain ⟨hx, hhx⟩ : ∃ q, runH x0 recs = q := ⟨_, rfl⟩
        rw [hhx] at HFO HFA HFB HFM HX5 HJ5 hh5 HJF
        clear hb5 HA9 HI9 HFN9 HST HB9 HK5 hw5 HXE hhx
        have hlz : (x1.l.length : Int) ≤ 1048576 := by omega
        have y0 := (cell_of_row _ _ 0 _ _ _ HW5.out).trans rfl
        have y1 := (cell_of_row _ _ 1 _ _ _ HW5.out).trans rfl
        have y2 := (cell_of_row _ _ 2 _ _ _ HW5.out).trans rfl
        have y3 := (cell_of_row _ _ 3 _ _ _ HW5.out).trans rfl
        go_wp2_with fail
        clear y0 y1 y2 y3
        go_loopw [72] (fun i wr => ∃ k : Nat, k ≤ x1.l.length ∧ i = .int .i64 k ∧ Hid (Below w5.heap.size w5 wr)) (fun i _ => x1.l.length - (intOf i).toNat)
        case atStart => exact ⟨0, Nat.zero_le _, rfl, Lib.hid (Below.refl _ _)⟩
        case round =>
          obtain ⟨k, hk, rfl, HB⟩ := hrel
          by_cases hlt : k < x1.l.length
          · have hrl0 := HLRL.out
            obtain ⟨b, off, hab, hbl, hcc⟩ := Ld.rows_open (show k < rowsL.length by omega) HLRC.out
            subst hab
            have hkl : k < rowsL.length := by omega
            have hrg : wr.rangeAt b (off + k * 9) (entC rowsL[k]) := fun jj u hu => by
              have q := ((HB5.out.trans (HB.out.mono HB5.out.size)).cell (p := ⟨b, off + ((k) * 9 + jj), none⟩) hbl).trans (hcc (k) _ (Ld.rgetD hkl) jj u hu)
              have e : (off + k * 9) + jj = off + ((k) * 9 + jj) := by omega
              rw [e]
              exact q
            have hxe := HLES.out rowsL[k] (List.getElem_mem hkl)
            have hxg : x1.l[k]? = some rowsL[k].1 := HLGET.out (k) hkl
            clear hcc hbl
            generalize rowsL[k] = rk at hrg hxe hxg
            obtain ⟨x, vx⟩ := rk
            dsimp only at hxe hxg
            obtain ⟨hxs, hxw⟩ := hxe
            obtain ⟨ax, cx, rfl, -⟩ := id hxs
            have hsE : (wr.alloc (.cells zEA 47)).heap[wr.heap.size]? = some (.cells zEA 47 (0, 0)) := heap_alloc_new _ _
            obtain ⟨W1, hW1⟩ : ∃ q, (wr.alloc (.cells zEA 47)).setRow wr.heap.size (entC (x, .slice ax x.cmd.nodes.length cx)).toArray = q := ⟨_, rfl⟩
            have hbE : Below wr.heap.size wr W1 := by rw [← hW1]; exact Ld.below_row ((Below.refl _ _).alloc (Nat.le_refl _) _) (Nat.le_refl _) _
            have HE1 : Hid (W1.heap[wr.heap.size]? = some (.cells (entC (x, .slice ax x.cmd.nodes.length cx)).toArray 47 (0, 0))) := Lib.hid (by rw [← hW1]; exact setRow_heap _ _ _ _ _ _ hsE)
            have HB1 := Lib.hid (HB.out.trans (hbE.mono HB.out.size))
            have HXG := Lib.hid hxg
            have HXW := Lib.hid hxw
            have HXB := Lib.hid (HB.out.trans (hbE.mono HB.out.size))
            have HX6 := Lib.hid ((HXB.out.block _ (lt_of_row HX5.out)).trans HX5.out)
            have HA6 := Lib.hid ((HXB.out.block _ (lt_of_row HA5.out)).trans HA5.out)
            have HW6 := Lib.hid ((HXB.out.block _ (lt_of_row HW5.out)).trans HW5.out)
            have HJ6 := Lib.hid (HJ5.out.below HXB.out (Nat.le_refl _))
            have hkz : (k : Int) < (x1.l.length : Int) := by omega
            have y0 := (cell_of_row _ _ 0 _ _ _ HW6.out).trans rfl
            have p0 : IntKind.u64.wrap (k : Int) = (k : Int) := by unfold IntKind.wrap; simp [IntKind.signed, IntKind.bits]; omega
            have p1 : IntKind.u64.wrap (x1.i + (k : Int)) = x1.i + (k : Int) := by unfold IntKind.wrap; simp [IntKind.signed, IntKind.bits]; omega
            have p2 : IntKind.u64.wrap (x1.i + (k : Int) + 1) = x1.i + (k : Int) + 1 := by unfold IntKind.wrap; simp [IntKind.signed, IntKind.bits]; omega
            clear hbE hxs hxw hxg hrl0
            go_wp2_with (first
              | (with_reducible refine wpList_load_mid rfl 47 (.tmp 75) rfl b (off + k * 9) rfl (entC (x, .slice ax x.cmd.nodes.length cx)) _ hrg Try.underlying47 rfl (by kernel_rfl) ?_)
              | (refine wpList_store_row rfl 47 (.tmp 14) (.tmp 76) rfl wr.heap.size (entC (x, .slice ax x.cmd.nodes.length cx)).toArray rfl rfl 47 _ hsE (by kernel_rfl) rfl (ent_all _ _ _ _) ?_; rw [hW1]; clear hW1 hsE)
              | (with_reducible refine wpList_load_row rfl 43 (.tmp 8) rfl gx rfl 43 (hArr hx (.slice a1 hx.shot.nodes.length c1) (.slice a2 hx.shot.led.held.length c2) (.slice a3 hx.shot.led.last.length c3) (.slice a4 hx.log.length c4)) (0, 0) _ HX6.out Try.underlying43 rfl (by kernel_rfl) ?_))
            refine (Rl.term_any hx _ (x1.i + (k : Int) + 1) _ HJ6.out (by omega) (by omega)).mono ?_
            rintro e w7 ⟨rfl, hb7⟩
            rw [termV_yes HFO.out]
            have HXB7 := Lib.hid (HXB.out.trans (hb7.mono HXB.out.size))
            have HA7 := (hb7.block _ (lt_of_row HA6.out)).trans HA6.out
            have HE7 := (hb7.block _ (lt_of_row HE1.out)).trans HE1.out
            have u3 := (cell_of_row w7 _ 3 _ _ _ HA7).trans rfl
            have u0 := (cell_of_row w7 _ 0 _ _ _ HE7).trans rfl
            clear y0 hb7 HA7 HE7 hrg
            by_cases hat : x0.shot.index < x1.i + (k : Int) + 1
            · rw [HFB.out k x HXG.out hat]
              have n3 : (x.term != x.term) = false := by simp
              go_wp2_with fail
              go_roundw
              case rel => exact ⟨k + 1, by omega, by go_num, HXB7⟩
              case measure => simp [intOf]; omega
            · obtain ⟨T, hT⟩ : ∃ q, termP hx (x1.i + (k : Int) + 1) = q := ⟨_, rfl⟩
              rw [hT]
              clear hT
              obtain ⟨u, bb⟩ := T
              go_wp2_with fail
              go_roundw
              case rel => exact ⟨k + 1, by omega, by go_num, HXB7⟩
              case measure => simp [intOf]; omega
          · obtain rfl : k = x1.l.length := by omega
            have hz3 : ¬ ((x1.l.length : Int) < (x1.l.length : Int)) := by omega
            have HA6 := Lib.hid ((HB.out.block _ (lt_of_row HA5.out)).trans HA5.out)
            have u3 := (cell_of_row _ _ 3 _ _ _ HA6.out).trans rfl
            go_wp2_with fail
            clear u3
            go_loopw [18] (fun i wz => ∃ j : Nat, j ≤ x0.log.length + 1 ∧ i = .int .u64 (x0.shot.index + (j : Int)) ∧ Hid (Below w5.heap.size w5 wz)) (fun i _ => x0.log.length + 1 - (intOf i - x0.shot.index).toNat)
            case atStart => exact ⟨0, Nat.zero_le _, by simp, HB⟩
            case round =>
              clear HB HA6
              obtain ⟨wz, hwz⟩ : ∃ q, q = wr := ⟨_, rfl⟩
              obtain ⟨j, hj, rfl, HBZ⟩ := hrel
              have HX8 := Lib.hid ((HBZ.out.block _ (lt_of_row HX5.out)).trans HX5.out)
              have HA8 := Lib.hid ((HBZ.out.block _ (lt_of_row HA5.out)).trans HA5.out)
              have HW8 := Lib.hid ((HBZ.out.block _ (lt_of_row HW5.out)).trans HW5.out)
              have HJ8 := Lib.hid (HJ5.out.below HBZ.out (Nat.le_refl _))
              have HI8 := Lib.hid (HI5.out.below HBZ.out (Nat.le_refl _))
              have HL8 := Lib.hid (HL5.out.below HBZ.out (Nat.le_refl _))
              have y0 := (cell_of_row _ _ 0 _ _ _ HW8.out).trans rfl
              have y1 := (cell_of_row _ _ 1 _ _ _ HW8.out).trans rfl
              have y2 := (cell_of_row _ _ 2 _ _ _ HW8.out).trans rfl
              have y3 := (cell_of_row _ _ 3 _ _ _ HW8.out).trans rfl
              have u3 := (cell_of_row _ _ 3 _ _ _ HA8.out).trans rfl
              have u10 := (cell_of_row _ _ 10 _ _ _ HA8.out).trans rfl
              have p0 : IntKind.u64.wrap (x0.log.length : Int) = (x0.log.length : Int) := by unfold IntKind.wrap; simp [IntKind.signed, IntKind.bits]; omega
              have p1 : IntKind.u64.wrap (x0.shot.index + (x0.log.length : Int)) = x0.shot.index + (x0.log.length : Int) := by unfold IntKind.wrap; simp [IntKind.signed, IntKind.bits]; omega
              have p2 : IntKind.u64.wrap (x0.shot.index + (j : Int) + 1) = x0.shot.index + (j : Int) + 1 := by unfold IntKind.wrap; simp [IntKind.signed, IntKind.bits]; omega
              by_cases hc1 : x0.shot.index + (j : Int) ≤ x1.c
              · by_cases hc2 : x0.shot.index + (j : Int) ≤ x0.shot.index + (x0.log.length : Int)
                · obtain ⟨u, q1, q2⟩ := HFA.out (x0.shot.index + (j : Int)) (by omega) hc1 (by unfold lastI; exact hc2)
                  have Q1 := Lib.hid q1
                  have Q2 := Lib.hid q2
                  clear q1 q2
                  go_wp2_with (first | (with_reducible refine wpList_load_row rfl 43 (.tmp 2) rfl w.heap.size rfl 43 (hArr x0 (.slice g1 x0.shot.nodes.length q1) (.slice g2 x0.shot.led.held.length q2) (.slice g3 x0.shot.led.last.length q3) (.slice g4 x0.log.length q4)) (0, 0) _ HA8.out Try.underlying43 rfl (by kernel_rfl) ?_) | fail)
                  refine (Rl.term_any x0 _ (x0.shot.index + (j : Int)) _ HI8.out (by omega) (by omega)).mono ?_
                  rintro e w9 ⟨rfl, hb9⟩
                  rw [termV_yes HOK.out, Q1.out]
                  have HX9 := Lib.hid ((hb9.block _ (lt_of_row HX8.out)).trans HX8.out)
                  have HJ9 := Lib.hid (HJ8.out.below hb9 (Nat.le_refl _))
                  have HBZ9 := Lib.hid (HBZ.out.trans (hb9.mono HBZ.out.size))
                  clear y0 y1 y2 y3 u3 u10 hb9
                  go_wp2_with (first | (with_reducible refine wpList_load_row rfl 43 (.tmp 8) rfl gx rfl 43 (hArr hx (.slice a1 hx.shot.nodes.length c1) (.slice a2 hx.shot.led.held.length c2) (.slice a3 hx.shot.led.last.length c3) (.slice a4 hx.log.length c4)) (0, 0) _ HX9.out Try.underlying43 rfl (by kernel_rfl) ?_) | fail)
                  refine (Rl.term_any hx _ (x0.shot.index + (j : Int)) _ HJ9.out (by omega) (by omega)).mono ?_
                  rintro e w10 ⟨rfl, hb10⟩
                  rw [termV_yes HFO.out, Q2.out]
                  have HBZ10 := Lib.hid (HBZ9.out.trans (hb10.mono HBZ9.out.size))
                  have n3 : (u != u) = false := by simp
                  clear hb10
                  go_wp2_with fail
                  go_roundw
                  case rel => exact ⟨j + 1, by omega, by congr 1; push_cast; omega, HBZ10⟩
                  case measure => simp [intOf]; omega
                · go_wp2_with (first | (with_reducible refine wpList_load_row rfl 43 (.tmp 8) rfl gx rfl 43 (hArr hx (.slice a1 hx.shot.nodes.length c1) (.slice a2 hx.shot.led.held.length c2) (.slice a3 hx.shot.led.last.length c3) (.slice a4 hx.log.length c4)) (0, 0) _ HX8.out Try.underlying43 rfl (by kernel_rfl) ?_) | fail)
                  refine (merge_any hx _ x1.i x1.t x1.c x1.l _ _ HJ8.out HJF.out (by omega) HL8.out HLF.out (by omega) i0 i1 cz0 cz1).mono ?_
                  rintro e w9 ⟨vz, rfl, hrz, hb9⟩
                  rw [HFM.out] at hrz ⊢
                  obtain ⟨rowz, ⟨za, zcap, rfl, -⟩, -, zmap⟩ := hrz
                  obtain rfl : rowz = [] := by cases rowz with | nil => rfl | cons a b => simp at zmap
                  have HBE := Lib.hid (HB5.out.trans ((HBZ.out.trans (hb9.mono HBZ.out.size)).mono HB5.out.size))
                  clear y0 y1 y2 y3 u3 u10 hb9
                  go_wp2_with fail
                  go_ret
                  exact ⟨rfl, HBE.out⟩
              · go_wp2_with (first | (with_reducible refine wpList_load_row rfl 43 (.tmp 8) rfl gx rfl 43 (hArr hx (.slice a1 hx.shot.nodes.length c1) (.slice a2 hx.shot.led.held.length c2) (.slice a3 hx.shot.led.last.length c3) (.slice a4 hx.log.length c4)) (0, 0) _ HX8.out Try.underlying43 rfl (by kernel_rfl) ?_) | fail)
                refine (merge_any hx _ x1.i x1.t x1.c x1.l _ _ HJ8.out HJF.out (by omega) HL8.out HLF.out (by omega) i0 i1 cz0 cz1).mono ?_
                rintro e w9 ⟨vz, rfl, hrz, hb9⟩
                rw [HFM.out] at hrz ⊢
                obtain ⟨rowz, ⟨za, zcap, rfl, -⟩, -, zmap⟩ := hrz
                obtain rfl : rowz = [] := by cases rowz with | nil => rfl | cons a b => simp at zmap
                have HBE := Lib.hid (HB5.out.trans ((HBZ.out.trans (hb9.mono HBZ.out.size)).mono HB5.out.size))
                clear y0 y1 y2 y3 u3 u10 hb9
                go_wp2_with fail
                go_ret
                exact ⟨rfl, HBE.out⟩
  · have hrz : recs = [] := by
      have q := merge_else (h := x0) (i := x1.i) (t := x1.t) (c := x1.c) (l := x1.l) (by rw [HN.out]; exact hn1)
      rw [HN.out] at q
      exact q
    have hz0 : rows = [] := List.eq_nil_of_length_eq_zero (by rw [HRQ.out, hrz]; rfl)
    subst hz0
    clear hrz
    have n2 : (n != 1) = true := by rw [bne, beq_eq_false_iff_ne.2 hn1]; rfl
    rcases hz with ⟨rfl, -⟩ | ⟨rfl, -⟩
    · go_wp2_with fail
      go_ret
      exact ⟨rfl, HB4.out⟩
    · go_wp2_with fail
      go_ret
      exact ⟨rfl, HB4.out⟩

set_option maxRecDepth 100000 in
theorem contract (H : Type) (enc : TypeId × Value → H) (W : World) (base : Nat) (args : Array Value) (ds gs : List (DataW H)) (before : List MemPlace)
    (hval0 : ∀ (j : Nat) t v, Try.f13.params[j]? = some t → args[j]? = some v → Value.okWide Try.prog W .any base t v)
    (hW : DataW.Whole enc Try.prog Try.f13.params.toList Rows.rlogFitsSpec.vars false W args.toList ds gs before)
    (hk : Rows.uptoSmall H (ds ++ gs) = true) :
    Calls Try.prog 13 args W fun e W' => ∃ v, e = .returned v ∧ Rows.rlogFitsSpec.post enc Try.prog Try.f13 false true false false W args v W' := by
  have hval : ∀ (j : Nat) t v, Try.f13.params[j]? = some t → args[j]? = some v → Value.okWide Try.prog W .any base t v := hval0
  have hW' := hW
  obtain ⟨p, q, hA0, hV, rfl, hfz, hnd⟩ := hW
  have hA : DataW.TrodAll enc Try.prog W 0 (fun _ => true) true Try.f13.params.toList args.toList ds p := hA0
  rw [Try.params13] at hA hval
  obtain ⟨v0, vs0, d0, ds0, p0, q0, hargs, rfl, rfl, h0, r0⟩ := trodAll_cons hA
  obtain ⟨v1, vs1, d1, ds1, p1, q1, rfl, rfl, rfl, h1, r1⟩ := trodAll_cons r0
  obtain ⟨rfl, rfl, rfl⟩ := trodAll_nil r1
  obtain rfl : args = #[v0, v1] := by cases args; simp_all
  obtain ⟨rfl, rfl⟩ := trodVars_none hV
  clear hA0 hval0
  simp only [List.append_nil] at hk
  have ub := of_decide_eq_true hk
  have u0 : Rows.uptoBulk d0 ≤ 1048576 := Nat.le_trans (bulk_mem (l := [d0, d1]) (by simp)) ub
  have u1 : Rows.uptoBulk d1 ≤ 1048576 := Nat.le_trans (bulk_mem (l := [d0, d1]) (by simp)) ub
  clear hk ub
  have k0 := h0
  have lt0 : ∀ x ∈ p0, x.block < W.heap.size := by obtain ⟨m, hm⟩ := k0; exact DataW.trod_lt m _ _ _ hm
  have k1 := h1
  have lt1 : ∀ x ∈ p1, x.block < W.heap.size := by obtain ⟨m, hm⟩ := k1; exact DataW.trod_lt m _ _ _ hm
  obtain ⟨x0, w0, b00, s0⟩ := open_hardU (hval 0 43 v0 rfl rfl) k0
  have b0 : IsHardU.size x0 ≤ 1048576 := Nat.le_trans b00 u0
  have f0 : IsHardU.fits x0 := s0 (wt_small u0 (by decide +kernel))
  obtain ⟨x1, w1, b10, s1⟩ := open_way (hval 1 66 v1 rfl rfl) k1
  have b1 : IsWay.size x1 ≤ 1048576 := Nat.le_trans b10 u1
  have f1 : IsWay.fits x1 := s1 (wt_small u1 (by decide +kernel))
  refine (walk v0 x0 v1 x1 W w0 b0 f0 w1 b1 f1).mono fun e W' ⟨he, bel⟩ => ?_
  subst he
  exact ⟨_, rfl, _, _, _, [], _, [], hW', trodAll_mk1 (shut_bool Try.underlying4 _), (trodAll_cons_mk (Below.trod laidOut (by kernel_rfl) (of_decide_eq_true (by kernel_rfl)) k0 bel lt0) (trodAll_cons_mk (Below.trod laidOut (by kernel_rfl) (of_decide_eq_true (by kernel_rfl)) k1 bel lt1) trodAll_mk0)), rfl, bel.frame _, fun h => by cases h⟩

set_option maxRecDepth 100000 in
theorem lifted (os : Os) (started : os.Started) (H : Type) (enc : TypeId × Value → H) (F : Stop.Interp) :
    ReturnsInHanded {} Try.checked os 13 .any ((Rows.OpenSpec.upto Rows.rlogFitsSpec).pre6 enc Try.prog Try.f13 Rows.rlogFitsUptoRow.domain false) (((Rows.OpenSpec.upto Rows.rlogFitsSpec).at F).post enc Try.prog Try.f13 false true false false) := by
  refine returnsInHanded_of_cond (C := Try.checked) (s := Rows.OpenSpec.upto Rows.rlogFitsSpec) (k := Rows.uptoSmall) rfl own started (by kernel_rfl) Try.func13
    (OpenSpec.witness (enc := enc) (C := Try.checked) (s := Rows.OpenSpec.upto Rows.rlogFitsSpec) (k := Rows.uptoSmall) rfl false ⟨#[], #[.agg #[.int .u64 0, .int .u64 0, .int .i64 0, .int .u64 0, .int .u64 0, .slice none 0 0, .int .i64 0, .int .u64 0, .slice none 0 0, .slice none 0 0, .slice none 0 0], .agg #[.int .u64 0, .int .u64 0, .int .u64 0, .slice none 0 0]], []⟩ 8 (by kernel_rfl) (by kernel_rfl) (by kernel_rfl)
      (x := ([.agg [.lit (.int .u64 0), .lit (.int .u64 0), .lit (.int .i64 0), .agg [.lit (.int .u64 0), .lit (.int .u64 0), .nil, .agg [.lit (.int .i64 0), .lit (.int .u64 0), .nil, .nil]], .nil], .agg [.lit (.int .u64 0), .lit (.int .u64 0), .lit (.int .u64 0), .nil]], [], [])) (by kernel_rfl) rfl (by kernel_rfl)) ?_
  intro W base args ds gs before hval hW _ hk _
  exact contract H enc W base args ds gs before hval hW hk

theorem proved : Rows.RlogFitsUptoSaid :=
  OpenClaim.holds_of_cond 13 Try.f13 rfl rfl rfl rfl rfl rfl rfl ⟨rfl, rfl, rfl, rfl, rfl⟩ rfl rfl rfl rfl rfl (by kernel_rfl) Try.func13 (by kernel_rfl)
    (of_decide_eq_true (by kernel_rfl)) (by unfold Func.isWrapper; first | (rw [if_pos (by decide +kernel)]; kernel_rfl) | (rw [if_neg (by decide +kernel)]; exact ⟨rfl, rfl⟩))
    (fun os started H enc _ F => lifted os started H enc F)
end Go.Proofs.Ytlkgmjhejocobaa.rlogFits
