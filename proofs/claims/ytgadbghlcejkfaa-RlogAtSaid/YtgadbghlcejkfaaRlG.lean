/- The document's Conf: the last Conf up to an index. No condition but the bounds of what may last. -/
import Derived.Test.YtgadbghlcejkfaaRlF
namespace Go.Proofs.Ytgadbghlcejkfaa
open Go.ChangeShapes Go.WideShapes Go.ChangeAt Go.RowKit
set_option linter.unusedVariables false
set_option maxRecDepth 100000
namespace Rl
open Hd
set_option maxHeartbeats 4000000 in
theorem rconf_any (h : Har) (v : Value) (u : Int) (w : World) (hh : IsHard w v h) (hft : IsHard.fits h) (hu0 : 0 ≤ u) (hu1 : u ≤ 18446744073709551615) : Calls Try.prog 71 #[v, .int .u64 u] w (ConfE h u w) := by
  obtain ⟨vn, vh, vl, vg, rfl, hn, -, -, hg, -⟩ := id hh
  obtain ⟨a, cap, rfl, hlc, hcm⟩ := IsLog.len hg
  have hb0 : Below w.heap.size w (w.alloc (.cells (hArr h vn vh vl (.slice a h.log.length cap)) 32)) := (Below.refl _ _).alloc (Nat.le_refl _) _
  have HH := Lib.hid (hh.below hb0 (Nat.le_refl _))
  have HN := Lib.hid (hn.below hb0 (Nat.le_refl _))
  have HG := Lib.hid (hg.below hb0 (Nat.le_refl _))
  have HWF := Lib.hid (IsHard.wf hh)
  have HFT := Lib.hid hft
  have hr : Below (w.heap.size + 1) (w.alloc (.cells (hArr h vn vh vl (.slice a h.log.length cap)) 32)) (w.alloc (.cells (hArr h vn vh vl (.slice a h.log.length cap)) 32)) := Below.refl _ _
  have HR := Lib.hid hr
  obtain ⟨b0, b1, b2, b3, b4, b5, b6, b7, b8, b9, b10⟩ := cells11 (box_cells hr)
  clear hh hn hg hb0 hr hft
  go_enter Try.func71, Try.ntmps71
  go_wp2_with fail
  refine (good_any h _ _ HH.out).mono ?_
  rintro e w1 ⟨t1, rfl, ht1, hb1⟩
  have hx : Below (w.heap.size + 1) (w.alloc (.cells (hArr h vn vh vl (.slice a h.log.length cap)) 32)) w1 := HR.out.trans (hb1.mono (by simp))
  have HX1 := Lib.hid hx
  have HB1 := Lib.hid (box_below hx)
  have HN1 := Lib.hid (HN.out.below hb1 (Nat.le_refl _))
  have HG1 := Lib.hid (HG.out.below hb1 (Nat.le_refl _))
  clear b0 b1 b2 b3 b4 b5 b6 b7 b8 b9 b10
  obtain ⟨b0, b1, b2, b3, b4, b5, b6, b7, b8, b9, b10⟩ := cells11 (box_cells hx)
  clear hb1 hx
  cases t1 with
  | false =>
    have HE : Hid (confV h u = (0, [])) := Lib.hid (confV_no fun q => by cases ht1.2 q)
    clear ht1
    go_wp2
    go_ret2
    exact ⟨_, by rw [HE.out]; rfl, by rw [HE.out]; exact OwnK.nil _ _ _ _, HB1.out⟩
  | true =>
    have hok := ht1.1 rfl
    have HE : Hid (confV h u = cfP h u h.log.length) := Lib.hid (confV_yes hok)
    obtain ⟨hs0, hs1⟩ := fit_of HWF.out hok
    clear ht1 hok
    obtain ⟨rows, a', cap', hv, hrl, -, -, hrc, hents, hget⟩ := log_rows HG1.out
    simp only [Value.slice.injEq] at hv
    obtain ⟨rfl, -, rfl⟩ := hv
    have HRC := Lib.hid hrc
    have HENT := Lib.hid hents
    have HGET := Lib.hid hget
    clear hrc hents hget
    go_wp2
    go_loopw [6, 7, 23] (fun sx lx ix wr => ∃ (k : Nat) (vq : Value), k ≤ h.log.length ∧ ix = .int .i64 k ∧ sx = .int .u64 (cfP h u k).1 ∧ vq = lx ∧ Hid (Sl .i64 wr vq (cfP h u k).2) ∧ Below (w.heap.size + 1) (w.alloc (.cells (hArr h vn vh vl (.slice a h.log.length cap)) 32)) wr ∧ Below w1.heap.size w1 wr) (fun _ _ ix _ => h.log.length - (intOf ix).toNat)
    case atStart => exact ⟨0, _, Nat.zero_le _, rfl, rfl, rfl, HN1, HX1.out, Below.refl _ _⟩
    case round =>
      clear b0 b1 b2 b3 b4 b5 b6 b7 b8 b9 b10
      obtain ⟨k, vq, hk, rfl, rfl, rfl, HS, hb, hb2⟩ := hrel
      obtain ⟨b0, b1, b2, b3, b4, b5, b6, b7, b8, b9, b10⟩ := cells11 (box_cells hb)
      have HBX := Lib.hid hb
      have HB2 := Lib.hid hb2
      by_cases hlt2 : k < h.log.length
      · have hlt3 : k < rows.length := by omega
        obtain ⟨b, off, rfl, hlt, hc⟩ := Ld.rows_open hlt3 HRC.out
        have hce := fun j u hu => (hb2.cell (p := ⟨b, off + (k * 9 + j), none⟩) hlt).trans (hc k _ (Ld.rgetD hlt3) j u hu)
        have hes := HENT.out _ (List.getElem_mem hlt3)
        have hq := HGET.out k hlt3
        have HSE := Lib.hid (hes.1.below hb2 (Nat.le_refl _))
        clear hc hb hb2 hes
        generalize rows[k] = r at *
        obtain ⟨x, vr⟩ := r
        simp only [] at hq HSE
        have HQ := Lib.hid hq
        obtain ⟨ar, cr, hvr, -⟩ := id HSE.out
        subst hvr
        obtain ⟨e0, e1, e2, e3, e4, e5, e6, e7, e8⟩ := ent_cells hce
        have hkz : (k : Int) < (h.log.length : Int) := by omega
        have hb4 : Below wr.heap.size wr (wr.alloc (.cells (entC (x, .slice ar x.cmd.nodes.length cr)).toArray 36)) := (Below.refl _ _).alloc (Nat.le_refl _) _
        have HS4 := Lib.hid (HS.out.below hb4 (Nat.le_refl _))
        have HSE4 := Lib.hid (HSE.out.below hb4 (Nat.le_refl _))
        have HX4 := Lib.hid (HBX.out.trans (hb4.mono (by have := HBX.out.size; simpa using this)))
        have HY4 := Lib.hid (HB2.out.trans (hb4.mono HB2.out.size))
        have d3 : (wr.alloc (.cells #[.int .u64 x.term, .int .i64 x.cmd.kind, .int .i64 x.cmd.node, .int .i64 x.cmd.token, .slice ar x.cmd.nodes.length cr, .int .u64 x.cmd.boot, .int .u64 x.cmd.seq, .int .u64 x.cmd.serial, .int .u64 x.cmd.stamp] 36)).cell? ⟨w.heap.size, 3, none⟩ = some (.int .u64 h.shot.index) := (cells11 (box_cells HX4.out)).2.2.2.1
        clear hce hq hb4
        generalize hcf : cfP h u k = cf at *
        obtain ⟨ci, cn⟩ := cf
        simp only [] at HS HS4
        have HCF := Lib.hid hcf
        clear hcf
        by_cases c1 : h.shot.index + (k : Int) + 1 ≤ u
        · by_cases c3 : x.cmd.kind = 2
          · have ek : (x.cmd.kind == 2) = true := beq_iff_eq.2 c3
            have HRES := Lib.hid (cf_yes HQ.out c1 c3)
            clear c3
            go_wp2
            go_roundw
            case rel => exact ⟨k + 1, _, by omega, by go_num, by rw [HRES.out], rfl, Lib.hid (by rw [HRES.out]; exact HSE4.out), HX4.out, HY4.out⟩
            case measure => simp [intOf]; omega
          · have ek : (x.cmd.kind == 2) = false := beq_eq_false_iff_ne.2 c3
            have HRES := Lib.hid ((cf_no HQ.out fun q => c3 q.2).trans HCF.out)
            clear c3
            go_wp2
            go_roundw
            case rel => exact ⟨k + 1, _, by omega, by go_num, by rw [HRES.out], rfl, Lib.hid (by rw [HRES.out]; exact HS4.out), HX4.out, HY4.out⟩
            case measure => simp [intOf]; omega
        · have HRES := Lib.hid ((cf_no HQ.out fun q => c1 q.1).trans HCF.out)
          go_wp2
          go_roundw
          case rel => exact ⟨k + 1, _, by omega, by go_num, by rw [HRES.out], rfl, Lib.hid (by rw [HRES.out]; exact HS4.out), HX4.out, HY4.out⟩
          case measure => simp [intOf]; omega
      · obtain rfl : k = h.log.length := by omega
        have HZ := Lib.hid ((box_below hb).size)
        have hf8 := Lib.hid (cf_fits (u := u) HFT.out h.log.length)
        clear hb hb2
        go_wp2_with (at_builtin; refine copyI rfl _ rfl wr.heap.size _ _ rfl HS.out hf8.out (Nat.le_refl _) ?_; intro v3 w3 hown3 hs3 hb3; have HOW := Lib.hid hown3; have HB5 := Lib.hid ((box_below HBX.out).trans (hb3.mono HZ.out)); clear hown3 hs3 hb3)
        go_ret2
        exact ⟨_, by rw [HE.out]; rfl, by rw [HE.out]; exact OwnK.lower HOW.out HZ.out, HB5.out⟩
end Rl
end Go.Proofs.Ytgadbghlcejkfaa
