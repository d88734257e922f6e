/- The law LeaseComes returns true for every lease, ledger and times: a keeper takes back all rows that it knows behind one lease on its clock, and no sooner. No condition. -/
import Derived.Test.YtgbblegcjladaaaBse
import Derived.Test.YtgbblegcjladaaaLsG
import Derived.Test.YtgbblegcjladaaaRpG
import Derived.Test.YtgbblegcjladaaaLcG
namespace Go.Proofs.Ytgbblegcjladaaa.leaseComes
open Go.ChangeShapes Go.WideShapes Go.ChangeAt Go.RowKit
open Go.ChangeMaps (open_string shut_string)
set_option linter.unusedVariables false

theorem own : ownKnob Try.prog.godebug = none := by kernel_rfl
theorem laidOut : laidOutB Try.prog = true := by kernel_rfl

open Go.Proofs.Ytgbblegcjladaaa.Ls Go.Proofs.Ytgbblegcjladaaa.Mc Go.Proofs.Ytgbblegcjladaaa.La
set_option linter.unusedSimpArgs false
theorem goes_up {w wa wr : World} (h1 : Below w.heap.size w wa) (h2 : Below wa.heap.size wa wr) : Below w.heap.size w wr := h1.trans (h2.mono h1.size)
theorem one_ans : (#[.int .i64 5, .int .i64 0, .int .u64 0] : Array Value).all (·.oneCell') = true := by simp [Value.oneCell']
theorem fin_of {w6 W9 wc B2 B3 : World} {gm : Nat} {l : Led} {old : Array Value} {ahc alc : Option Addr} {chc clc : Nat} (h6 : w6.heap.size ≤ gm) (hm : gm < W9.heap.size) (hbc : Below W9.heap.size W9 wc) (hbz : Below wc.heap.size wc B2) (hb : Below w6.heap.size w6 wc)
    (ohc : OwnR 5 heldC 47 wc W9.heap.size (.slice ahc l.held.length chc) l.held) (olc : OwnR 6 lastC 103 wc W9.heap.size (.slice alc l.last.length clc) l.last)
    (hrm : B2.heap[gm]? = some (.cells old 35 (0, 0))) (e : B2.setRow gm (lArr l (.slice ahc l.held.length chc) (.slice alc l.last.length clc)) = B3) :
    B3.heap[gm]? = some (.cells (lArr l (.slice ahc l.held.length chc) (.slice alc l.last.length clc)) 35 (0, 0)) ∧ SlR 5 heldC B3 (.slice ahc l.held.length chc) l.held ∧ SlR 6 lastC B3 (.slice alc l.last.length clc) l.last ∧ Below w6.heap.size w6 B3 ∧ w6.heap.size ≤ gm := by
  subst e
  have k1 : ∀ q, (Value.slice ahc l.held.length chc).ownBlock = some q → q < wc.heap.size → (B2.setRow gm (lArr l (.slice ahc l.held.length chc) (.slice alc l.last.length clc))).heap[q]? = wc.heap[q]? := fun q hq hl => by
    have := (World.ownsRow.lt ohc q hq).1
    exact (setRow_other _ _ _ _ (by omega)).trans (hbz.block q hl)
  have k2 : ∀ q, (Value.slice alc l.last.length clc).ownBlock = some q → q < wc.heap.size → (B2.setRow gm (lArr l (.slice ahc l.held.length chc) (.slice alc l.last.length clc))).heap[q]? = wc.heap[q]? := fun q hq hl => by
    have := (World.ownsRow.lt olc q hq).1
    exact (setRow_other _ _ _ _ (by omega)).trans (hbz.block q hl)
  exact ⟨setRow_heap _ _ _ _ _ _ hrm, OwnR.sl heldC_len (show OwnR 5 heldC _ _ _ _ _ from own_keep ohc k1), OwnR.sl lastC_len (show OwnR 6 lastC _ _ _ _ _ from own_keep olc k2), Ld.below_row (hb.trans (hbz.mono hb.size)) h6 _, h6⟩
set_option maxRecDepth 100000 in
set_option maxHeartbeats 16000000 in
theorem walk (a0 : Int) (v1 : Value) (x1 : Led) (a2 : Int) (a3 : Int) (w : World) (w0 : (Lit.int .i64 a0).wf = true) (w1 : IsLed w v1 x1) (b1 : IsLed.fits x1) (w2 : (Lit.int .i64 a2).wf = true) (w3 : (Lit.int .i64 a3).wf = true) :
    Calls Try.prog 6 #[.int .i64 a0, v1, .int .i64 a2, .int .i64 a3] w fun e w' => e = .returned (.bool true) ∧ Below w.heap.size w w' := by
  have HWN := Lib.hid w0
  obtain ⟨vh, vl, rfl, hh, hlst, hwf⟩ := id w1
  have HLED := Lib.hid w1
  have HF := Lib.hid b1
  have HH := Lib.hid hh
  have HLW := Lib.hid hwf
  obtain ⟨gl, hgl⟩ : ∃ q, w.heap.size = q := ⟨_, rfl⟩
  obtain ⟨W1, hW1⟩ : ∃ q, w.alloc (.cells (lArr x1 vh vl) 35) = q := ⟨_, rfl⟩
  have hb1 : Below w.heap.size w W1 := by rw [← hW1]; exact (Below.refl _ _).alloc (Nat.le_refl _) _
  have hr1 : W1.heap[gl]? = some (.cells (lArr x1 vh vl) 35 (0, 0)) := by rw [← hW1, ← hgl]; exact heap_alloc_new _ _
  have HB1 := Lib.hid hb1
  have HR1 := Lib.hid hr1
  clear w1 b1 hh hlst hwf hb1 hr1
  go_enter Try.func6, Try.ntmps6
  go_upto_region 2 with (first | rw [hW1] | ((with_reducible refine (keeps_any _).mono ?_); rintro e wa ⟨rfl, hba⟩; have HBA := Lib.hid hba; clear hba))
  clear hW1 hgl
  have HBW : Hid (Below w.heap.size w wa) := Lib.hid (goes_up HB1.out HBA.out)
  have HGL : Hid (∀ w', Below wa.heap.size wa w' → w'.heap[gl]? = some (.cells (lArr x1 vh vl) 35 (0, 0))) := Lib.hid (fun w' h => (h.block gl (Nat.lt_of_lt_of_le (row_lt HR1.out) HBA.out.size)).trans ((HBA.out.block gl (row_lt HR1.out)).trans HR1.out))
  have HHW : Hid (∀ w', Below wa.heap.size wa w' → SlR 5 heldC w' vh x1.held) := Lib.hid (fun w' h => HH.out.below (goes_up HBW.out h) (Nat.le_refl _))
  have HLL : Hid (∀ w', Below wa.heap.size wa w' → IsLed w' (.agg (lArr x1 vh vl)) x1) := Lib.hid (fun w' h => HLED.out.below (goes_up HBW.out h) (Nat.le_refl _))
  go_wp2_with fail
  refine (new_any a0 wa).mono ?_
  rintro e w2 (⟨hn1, hn2, ⟨p, rfl, hk, hp⟩, hb2⟩ | ⟨hno, rfl, rfl⟩)
  rotate_left
  · have HEND := Lib.hid HBW.out
    go_wp2
    go_ret
    exact ⟨rfl, HEND.out⟩
  have HNN : Hid (1 ≤ a0 ∧ a0 ≤ 1073741824) := Lib.hid ⟨hn1, hn2⟩
  have H2 : Hid (KpO p a0 [] (fun _ => False) wa.heap.size wa w2) := Lib.hid ⟨_, ⟨_, _, hk⟩, fun k e => e ▸ hp, fun k e => e.elim, hb2, hb2.size⟩
  clear hn1 hn2 hk hp hb2
  have k0 : w2.cell? ⟨gl, 0, none⟩ = some (.int .i64 x1.limit) := (cell_of_row _ _ 0 _ _ _ (HGL.out _ H2.out.bel.1)).trans rfl
  have k1 : w2.cell? ⟨gl, 1, none⟩ = some (.int .u64 x1.next) := (cell_of_row _ _ 1 _ _ _ (HGL.out _ H2.out.bel.1)).trans rfl
  have k2 : w2.cell? ⟨gl, 2, none⟩ = some vh := (cell_of_row _ _ 2 _ _ _ (HGL.out _ H2.out.bel.1)).trans rfl
  have k3 : w2.cell? ⟨gl, 3, none⟩ = some vl := (cell_of_row _ _ 3 _ _ _ (HGL.out _ H2.out.bel.1)).trans rfl
  go_wp2_with fail
  refine (Ld.rcheck_any x1 _ w2 (HLL.out _ H2.out.bel.1)).mono ?_
  rintro e w3 ⟨z, rfl, hz, hb3⟩
  have H3 := Lib.hid (OneO.below (goodK p a0 []) H2.out hb3)
  clear hb3 k0 k1 k2 k3
  rcases hz with ⟨rfl, hok⟩ | ⟨rfl, hno⟩
  rotate_left
  · have HEND : Hid (Below w.heap.size w w3) := Lib.hid (goes_up HBW.out H3.out.bel.1)
    clear hno
    go_wp2
    go_ret
    exact ⟨rfl, HEND.out⟩
  have HOK := Lib.hid (led_iff.1 hok)
  clear hok
  by_cases hc1 : a2 < 0
  · have HEND : Hid (Below w.heap.size w w3) := Lib.hid (goes_up HBW.out H3.out.bel.1)
    go_wp2
    go_ret
    exact ⟨rfl, HEND.out⟩
  by_cases hc2 : 1125899906842624 < a2
  · have HEND : Hid (Below w.heap.size w w3) := Lib.hid (goes_up HBW.out H3.out.bel.1)
    go_wp2
    go_ret
    exact ⟨rfl, HEND.out⟩
  by_cases hc3 : a3 < 0
  · have HEND : Hid (Below w.heap.size w w3) := Lib.hid (goes_up HBW.out H3.out.bel.1)
    go_wp2
    go_ret
    exact ⟨rfl, HEND.out⟩
  by_cases hc4 : 1125899906842624 < a3
  · have HEND : Hid (Below w.heap.size w w3) := Lib.hid (goes_up HBW.out H3.out.bel.1)
    go_wp2
    go_ret
    exact ⟨rfl, HEND.out⟩
  have HCC : Hid (0 ≤ a2 ∧ a2 ≤ 1125899906842624 ∧ 0 ≤ a3 ∧ a3 ≤ 1125899906842624) := Lib.hid (by omega)
  have hwa : IntKind.i64.wrap (a2 + a3) = a2 + a3 := by rw [IntKind.wrap_i64]; omega
  have HHL : Hid (x1.held.length ≤ 64) := Lib.hid HOK.out.2.2.2.1
  have HND := Lib.hid (held_nd HOK.out)
  have HC1 := Lib.hid (KpO.leads (vh := vh) (vl := vl) H3.out a2 x1 (fun w' h _ => HHW.out w' h) (by have := HHL.out; omega) HLW.out.2.2.1 HND.out)
  have k0 : w3.cell? ⟨gl, 0, none⟩ = some (.int .i64 x1.limit) := (cell_of_row _ _ 0 _ _ _ (HGL.out _ H3.out.bel.1)).trans rfl
  have k1 : w3.cell? ⟨gl, 1, none⟩ = some (.int .u64 x1.next) := (cell_of_row _ _ 1 _ _ _ (HGL.out _ H3.out.bel.1)).trans rfl
  have k2 : w3.cell? ⟨gl, 2, none⟩ = some vh := (cell_of_row _ _ 2 _ _ _ (HGL.out _ H3.out.bel.1)).trans rfl
  have k3 : w3.cell? ⟨gl, 3, none⟩ = some vl := (cell_of_row _ _ 3 _ _ _ (HGL.out _ H3.out.bel.1)).trans rfl
  go_upto_region 6 with (first | ((with_reducible refine HC1.out.mono ?_); rintro e w4 ⟨rfl, h4, -⟩; have H4 := Lib.hid h4; clear h4))
  clear k0 k1 k2 k3
  have HOL : Hid (OkL (seesV a2 [] x1.held)) := Lib.hid (OkL.nil.sees a2 HLW.out.2.2.1 HND.out)
  have HC2 := Lib.hid (KpO.sees (vh := vh) (vl := vl) H4.out HOL.out (a2 + a3) x1 (fun w' h _ => HHW.out w' h) (by have := HHL.out; omega) HLW.out.2.2.1 HND.out)
  have k0 : w4.cell? ⟨gl, 0, none⟩ = some (.int .i64 x1.limit) := (cell_of_row _ _ 0 _ _ _ (HGL.out _ H4.out.bel.1)).trans rfl
  have k1 : w4.cell? ⟨gl, 1, none⟩ = some (.int .u64 x1.next) := (cell_of_row _ _ 1 _ _ _ (HGL.out _ H4.out.bel.1)).trans rfl
  have k2 : w4.cell? ⟨gl, 2, none⟩ = some vh := (cell_of_row _ _ 2 _ _ _ (HGL.out _ H4.out.bel.1)).trans rfl
  have k3 : w4.cell? ⟨gl, 3, none⟩ = some vl := (cell_of_row _ _ 3 _ _ _ (HGL.out _ H4.out.bel.1)).trans rfl
  go_upto_region 7 with (first | ((with_reducible refine HC2.out.mono ?_); rintro e w5 ⟨rfl, h5, -⟩; have H5 := Lib.hid h5; clear h5))
  clear k0 k1 k2 k3
  rw [sees_again HND.out] at H5
  have HLN : Hid ((seesV a2 [] x1.held).length ≤ 1000) := Lib.hid (by unfold seesV; rw [List.length_map]; have := HHL.out; omega)
  have HC3 := Lib.hid (KpO.due H5.out HOL.out HNN.out HLN.out (a2 + a3))
  have HDA := Lib.hid (due_all (n := a0) (H := x1.held) HCC.out.1 HCC.out.2.1 HCC.out.2.2.1 HCC.out.2.2.2)
  go_upto_region 8 with (first | ((with_reducible refine HC3.out.mono ?_); rintro e w6 ⟨vd, rfl, o6, h6, -⟩; rw [HDA.out] at o6; have H6 := Lib.hid h6; have O6 := Lib.hid o6; clear h6 o6))
  have HB6 := Lib.hid H6.out.bel.1
  clear hwa H2 H3 H4 H5 H6
  by_cases hlt : a3 < a0
  · have ho := O6.out
    rw [if_pos hlt] at ho
    obtain ⟨ad, cd, hvd⟩ := own_slice ho
    simp only [List.length_nil] at hvd
    subst hvd
    have HEND : Hid (Below w.heap.size w w6) := Lib.hid (goes_up HBW.out HB6.out)
    clear ho O6
    go_wp2
    go_ret
    exact ⟨rfl, HEND.out⟩
  rw [if_neg hlt] at O6
  obtain ⟨ad, cd, hvd⟩ := own_slice O6.out
  rw [List.length_map] at hvd
  subst hvd
  have hln : x1.held.length ≤ 64 := HHL.out
  have k0 : w6.cell? ⟨gl, 0, none⟩ = some (.int .i64 x1.limit) := (cell_of_row _ _ 0 _ _ _ (HGL.out _ HB6.out)).trans rfl
  have k1 : w6.cell? ⟨gl, 1, none⟩ = some (.int .u64 x1.next) := (cell_of_row _ _ 1 _ _ _ (HGL.out _ HB6.out)).trans rfl
  have k2 : w6.cell? ⟨gl, 2, none⟩ = some vh := (cell_of_row _ _ 2 _ _ _ (HGL.out _ HB6.out)).trans rfl
  have k3 : w6.cell? ⟨gl, 3, none⟩ = some vl := (cell_of_row _ _ 3 _ _ _ (HGL.out _ HB6.out)).trans rfl
  go_wp2_with fail
  refine (Ld.copy_own x1 _ w6 (HLL.out _ HB6.out) HF.out).mono ?_
  rintro e w7 ⟨vh7, vl7, rfl, oh7, ol7, -, hb7⟩
  obtain ⟨ah7, ch7, rfl⟩ := own_slice oh7
  obtain ⟨al7, cl7, rfl⟩ := own_slice ol7
  clear k0 k1 k2 k3
  obtain ⟨gm, hgm⟩ : ∃ q, w7.heap.size = q := ⟨_, rfl⟩
  obtain ⟨W8, hW8⟩ : ∃ q, w7.alloc (.cells (lArr x1 (.slice ah7 x1.held.length ch7) (.slice al7 x1.last.length cl7)) 35) = q := ⟨_, rfl⟩
  have hb8 : Below w7.heap.size w7 W8 := by rw [← hW8]; exact (Below.refl _ _).alloc (Nat.le_refl _) _
  have hr8 : W8.heap[gm]? = some (.cells (lArr x1 (.slice ah7 x1.held.length ch7) (.slice al7 x1.last.length cl7)) 35 (0, 0)) := by rw [← hW8, ← hgm]; exact heap_alloc_new _ _
  have HM8 : Hid (W8.heap[gm]? = some (.cells (lArr (leftL x1 0) (.slice ah7 x1.held.length ch7) (.slice al7 x1.last.length cl7)) 35 (0, 0)) ∧ SlR 5 heldC W8 (.slice ah7 x1.held.length ch7) (leftL x1 0).held ∧ SlR 6 lastC W8 (.slice al7 x1.last.length cl7) (leftL x1 0).last ∧ Below w6.heap.size w6 W8 ∧ w6.heap.size ≤ gm) := Lib.hid ⟨hr8, (oh7.sl heldC_len).below hb8 (Nat.le_refl _), (ol7.sl lastC_len).below hb8 (Nat.le_refl _), hb7.trans (hb8.mono hb7.size), by rw [← hgm]; exact hb7.size⟩
  clear oh7 ol7 hb7 hb8 hr8
  go_wp2_with (first | rw [hW8])
  clear hgm hW8
  go_loopw [84] (fun i wr => ∃ (j : Nat) (vh' vl' : Value), j ≤ x1.held.length ∧ i = .int .i64 (j : Int) ∧ Hid (wr.heap[gm]? = some (.cells (lArr (leftL x1 j) vh' vl') 35 (0, 0)) ∧ SlR 5 heldC wr vh' (leftL x1 j).held ∧ SlR 6 lastC wr vl' (leftL x1 j).last ∧ Below w6.heap.size w6 wr ∧ w6.heap.size ≤ gm)) (fun i _ => x1.held.length - (intOf i).toNat)
  case atStart => exact ⟨0, _, _, Nat.zero_le _, rfl, HM8⟩
  case round =>
    obtain ⟨j, vh', vl', hj, rfl, HMR⟩ := hrel
    clear HM8
    by_cases hltj : j < x1.held.length
    · have hltji : (j : Int) < (x1.held.length : Int) := by omega
      obtain ⟨x, hx⟩ : ∃ x, x1.held[j]? = some x := ⟨_, List.getElem?_eq_getElem hltj⟩
      obtain ⟨z, hz⟩ : ∃ q, keyR x = q := ⟨_, rfl⟩
      have HZW : Hid z.wf := Lib.hid (hz ▸ keyR_wf (HLW.out.2.2.1 x (List.mem_of_getElem? hx)))
      have hi0 : ((j : Int) + 1) ≠ 0 := by omega
      have HST := Lib.hid (left_step HOK.out HLW.out hx ((j : Int) + 1) hi0)
      rw [hz] at HST
      have HLO := Lib.hid (left_ok HOK.out HLW.out j)
      obtain ⟨bv, ov, rfl, y0, y1, y2, y3, y4, y5, y6, y7⟩ : ∃ b off, ad = some ⟨b, off, none⟩ ∧ wr.cell? ⟨b, off + j * 8, none⟩ = some (.int .i64 6) ∧ wr.cell? ⟨b, off + j * 8 + 1, none⟩ = some (.int .i64 0) ∧ wr.cell? ⟨b, off + j * 8 + 2, none⟩ = some (.int .i64 z.token) ∧ wr.cell? ⟨b, off + j * 8 + 3, none⟩ = some (.slice none 0 0) ∧ wr.cell? ⟨b, off + j * 8 + 4, none⟩ = some (.int .u64 0) ∧ wr.cell? ⟨b, off + j * 8 + 5, none⟩ = some (.int .u64 0) ∧ wr.cell? ⟨b, off + j * 8 + 6, none⟩ = some (.int .u64 z.serial) ∧ wr.cell? ⟨b, off + j * 8 + 7, none⟩ = some (.int .u64 z.stamp) := by
        rcases SlR.cases ((O6.out.sl rcC_len).below HMR.out.2.2.2.1 (Nat.le_refl _)) with ⟨a9, c9, e, hnil⟩ | ⟨b, off, c9, e, -, -, -, -, hc⟩
        · rw [List.map_eq_nil_iff] at hnil; rw [hnil] at hltj; simp at hltj
        · simp only [Value.slice.injEq] at e
          have hc := hc j z (by rw [List.getElem?_map, hx, ← hz]; rfl)
          have h0 := hc 0 _ rfl; have h1 := hc 1 _ rfl; have h2 := hc 2 _ rfl; have h3 := hc 3 _ rfl; have h4 := hc 4 _ rfl; have h5 := hc 5 _ rfl; have h6 := hc 6 _ rfl; have h7 := hc 7 _ rfl
          simp only [← Nat.add_assoc, Nat.add_zero] at h0 h1 h2 h3 h4 h5 h6 h7
          exact ⟨b, off, e.1, h0, h1, h2, h3, h4, h5, h6, h7⟩
      obtain ⟨g3, hg3⟩ : ∃ q, wr.heap.size = q := ⟨_, rfl⟩
      obtain ⟨W9, hW9⟩ : ∃ q, wr.alloc (.cells (rcA z) TCm) = q := ⟨_, rfl⟩
      have hb9 : Below wr.heap.size wr W9 := by rw [← hW9]; exact (Below.refl _ _).alloc (Nat.le_refl _) _
      have hr9 : W9.heap[g3]? = some (.cells (rcA z) TCm (0, 0)) := by rw [← hW9, ← hg3]; exact heap_alloc_new _ _
      have hm9 : W9.heap[gm]? = some (.cells (lArr (leftL x1 j) vh' vl') 35 (0, 0)) := (hb9.block gm (row_lt HMR.out.1)).trans HMR.out.1
      have hwk : IntKind.i64.wrap ((j : Int) + 1) = (j : Int) + 1 := by rw [IntKind.wrap_i64]; omega
      have hwu : IntKind.u64.wrap ((j : Int) + 1) = (j : Int) + 1 := by rw [IntKind.wrap_u64]; omega
      have z0 : W9.cell? ⟨g3, 0, none⟩ = some (.int .i64 6) := (cell_of_row _ _ 0 _ _ _ hr9).trans rfl
      have z1 : W9.cell? ⟨g3, 1, none⟩ = some (.int .i64 0) := (cell_of_row _ _ 1 _ _ _ hr9).trans rfl
      have z2 : W9.cell? ⟨g3, 2, none⟩ = some (.int .i64 z.token) := (cell_of_row _ _ 2 _ _ _ hr9).trans rfl
      have z3 : W9.cell? ⟨g3, 3, none⟩ = some (.slice none 0 0) := (cell_of_row _ _ 3 _ _ _ hr9).trans rfl
      have z4 : W9.cell? ⟨g3, 4, none⟩ = some (.int .u64 0) := (cell_of_row _ _ 4 _ _ _ hr9).trans rfl
      have z5 : W9.cell? ⟨g3, 5, none⟩ = some (.int .u64 0) := (cell_of_row _ _ 5 _ _ _ hr9).trans rfl
      have z6 : W9.cell? ⟨g3, 6, none⟩ = some (.int .u64 z.serial) := (cell_of_row _ _ 6 _ _ _ hr9).trans rfl
      have z7 : W9.cell? ⟨g3, 7, none⟩ = some (.int .u64 z.stamp) := (cell_of_row _ _ 7 _ _ _ hr9).trans rfl
      have m0 : W9.cell? ⟨gm, 0, none⟩ = some (.int .i64 (leftL x1 j).limit) := (cell_of_row _ _ 0 _ _ _ hm9).trans rfl
      have m1 : W9.cell? ⟨gm, 1, none⟩ = some (.int .u64 (leftL x1 j).next) := (cell_of_row _ _ 1 _ _ _ hm9).trans rfl
      have m2 : W9.cell? ⟨gm, 2, none⟩ = some vh' := (cell_of_row _ _ 2 _ _ _ hm9).trans rfl
      have m3 : W9.cell? ⟨gm, 3, none⟩ = some vl' := (cell_of_row _ _ 3 _ _ _ hm9).trans rfl
      have HB9 : Hid (Below w6.heap.size w6 W9) := Lib.hid (HMR.out.2.2.2.1.trans (hb9.mono HMR.out.2.2.2.1.size))
      have HCA := Lib.hid (Lr.apply_any (leftL x1 j) (.agg (lArr (leftL x1 j) vh' vl')) (.agg (rcA z)) ((j : Int) + 1) (recK z) W9 ⟨vh', vl', rfl, HMR.out.2.1.below hb9 (Nat.le_refl _), HMR.out.2.2.1.below hb9 (Nat.le_refl _), HLO.out.2⟩ ⟨by have : (leftL x1 j).held.length ≤ 64 := HLO.out.1.2.2.2.1; omega, HF.out.2⟩ (isc z HZW.out _) (by exact wf_u64 (by omega) (by omega)))
      rw [HST.out.1, HST.out.2.1, HST.out.2.2] at HCA
      have HM9 := Lib.hid hm9
      clear hx hz hb9 hr9 hm9
      go_wp2_with (first | rw [hW9] | rw [hA0] | rw [hB0] | ((with_reducible refine wpList_store_row rfl 35 (.tmp 16) (.tmp 96) rfl ga (lArr (leftL x1 (j + 1)) (.slice ahc (leftL x1 (j + 1)).held.length chc) (.slice alc (leftL x1 (j + 1)).last.length clc)) rfl rfl 35 #[.int .i64 0, .int .u64 0, .slice none 0 0, .slice none 0 0] hrab (by kernel_rfl) rfl (Ld.lArr_one _ _ _ _ _ _ _) ?_); rw [hB1]) | ((with_reducible refine wpList_store_row rfl 60 (.tmp 17) (.tmp 97) rfl gb #[.int .i64 5, .int .i64 0, .int .u64 0] rfl rfl 60 #[.int .i64 0, .int .i64 0, .int .u64 0] hr1b (by kernel_rfl) rfl one_ans ?_); rw [hB2]) | ((with_reducible refine wpList_store_row rfl 35 (.tmp 13) (.tmp 106) rfl gm (lArr (leftL x1 (j + 1)) (.slice ahc (leftL x1 (j + 1)).held.length chc) (.slice alc (leftL x1 (j + 1)).last.length clc)) rfl rfl 35 (lArr (leftL x1 j) vh' vl') hrm (by kernel_rfl) rfl (Ld.lArr_one _ _ _ _ _ _ _) ?_); rw [hB3]) | ((with_reducible refine HCA.out.mono ?_); rintro e wc ⟨vhc, vlc, rfl, ohc, olc, -, hbc⟩; obtain ⟨ahc, chc, hvc⟩ := own_slice ohc; subst hvc; obtain ⟨alc, clc, hvl⟩ := own_slice olc; subst hvl; have HBC := Lib.hid (HB9.out.trans (hbc.mono HB9.out.size)); obtain ⟨ga, hga⟩ : ∃ q, wc.heap.size = q := ⟨_, rfl⟩; obtain ⟨A0, hA0⟩ : ∃ q, wc.alloc (.cells #[.int .i64 0, .int .u64 0, .slice none 0 0, .slice none 0 0] 35) = q := ⟨_, rfl⟩; obtain ⟨gb, hgb⟩ : ∃ q, A0.heap.size = q := ⟨_, rfl⟩; obtain ⟨B0, hB0⟩ : ∃ q, A0.alloc (.cells #[.int .i64 0, .int .i64 0, .int .u64 0] 60) = q := ⟨_, rfl⟩; have hbA : Below wc.heap.size wc A0 := (by rw [← hA0]; exact (Below.refl _ _).alloc (Nat.le_refl _) _); have hbB : Below A0.heap.size A0 B0 := (by rw [← hB0]; exact (Below.refl _ _).alloc (Nat.le_refl _) _); have hra : A0.heap[ga]? = some (.cells #[.int .i64 0, .int .u64 0, .slice none 0 0, .slice none 0 0] 35 (0, 0)) := (by rw [← hA0, ← hga]; exact heap_alloc_new _ _); have hrab : B0.heap[ga]? = some (.cells #[.int .i64 0, .int .u64 0, .slice none 0 0, .slice none 0 0] 35 (0, 0)) := (hbB.block ga (row_lt hra)).trans hra; have hrb : B0.heap[gb]? = some (.cells #[.int .i64 0, .int .i64 0, .int .u64 0] 60 (0, 0)) := (by rw [← hB0, ← hgb]; exact heap_alloc_new _ _); have hne : ga ≠ gb := (by have := row_lt hra; omega); obtain ⟨B1, hB1⟩ : ∃ q, B0.setRow ga (lArr (leftL x1 (j + 1)) (.slice ahc (leftL x1 (j + 1)).held.length chc) (.slice alc (leftL x1 (j + 1)).last.length clc)) = q := ⟨_, rfl⟩; have hr1a : B1.heap[ga]? = some (.cells (lArr (leftL x1 (j + 1)) (.slice ahc (leftL x1 (j + 1)).held.length chc) (.slice alc (leftL x1 (j + 1)).last.length clc)) 35 (0, 0)) := (by rw [← hB1]; exact setRow_heap _ _ _ _ _ _ hrab); have hr1b : B1.heap[gb]? = some (.cells #[.int .i64 0, .int .i64 0, .int .u64 0] 60 (0, 0)) := (by rw [← hB1]; exact (setRow_other _ _ _ _ hne.symm).trans hrb); obtain ⟨B2, hB2⟩ : ∃ q, B1.setRow gb #[.int .i64 5, .int .i64 0, .int .u64 0] = q := ⟨_, rfl⟩; have hr2a : B2.heap[ga]? = some (.cells (lArr (leftL x1 (j + 1)) (.slice ahc (leftL x1 (j + 1)).held.length chc) (.slice alc (leftL x1 (j + 1)).last.length clc)) 35 (0, 0)) := (by rw [← hB2]; exact (setRow_other _ _ _ _ hne).trans hr1a); have hr2b : B2.heap[gb]? = some (.cells #[.int .i64 5, .int .i64 0, .int .u64 0] 60 (0, 0)) := (by rw [← hB2]; exact setRow_heap _ _ _ _ _ _ hr1b); have hbz : Below wc.heap.size wc B2 := (by rw [← hB2]; refine Ld.below_row ?_ (by have := hbA.size; omega) _; rw [← hB1]; exact Ld.below_row (hbA.trans (hbB.mono hbA.size)) (by omega) _); have hrm : B2.heap[gm]? = some (.cells (lArr (leftL x1 j) vh' vl') 35 (0, 0)) := (hbz.block gm (Nat.lt_of_lt_of_le (row_lt HM9.out) hbc.size)).trans ((hbc.block gm (row_lt HM9.out)).trans HM9.out); have n0 : B2.cell? ⟨gb, 0, none⟩ = some (.int .i64 5) := (cell_of_row _ _ 0 _ _ _ hr2b).trans rfl; have n1 : B2.cell? ⟨ga, 0, none⟩ = some (.int .i64 (leftL x1 (j + 1)).limit) := (cell_of_row _ _ 0 _ _ _ hr2a).trans rfl; have n2 : B2.cell? ⟨ga, 1, none⟩ = some (.int .u64 (leftL x1 (j + 1)).next) := (cell_of_row _ _ 1 _ _ _ hr2a).trans rfl; have n3 : B2.cell? ⟨ga, 2, none⟩ = some (.slice ahc (leftL x1 (j + 1)).held.length chc) := (cell_of_row _ _ 2 _ _ _ hr2a).trans rfl; have n4 : B2.cell? ⟨ga, 3, none⟩ = some (.slice alc (leftL x1 (j + 1)).last.length clc) := (cell_of_row _ _ 3 _ _ _ hr2a).trans rfl; obtain ⟨B3, hB3⟩ : ∃ q, B2.setRow gm (lArr (leftL x1 (j + 1)) (.slice ahc (leftL x1 (j + 1)).held.length chc) (.slice alc (leftL x1 (j + 1)).last.length clc)) = q := ⟨_, rfl⟩; have HFIN : Hid (B3.heap[gm]? = some (.cells (lArr (leftL x1 (j + 1)) (.slice ahc (leftL x1 (j + 1)).held.length chc) (.slice alc (leftL x1 (j + 1)).last.length clc)) 35 (0, 0)) ∧ SlR 5 heldC B3 (.slice ahc (leftL x1 (j + 1)).held.length chc) (leftL x1 (j + 1)).held ∧ SlR 6 lastC B3 (.slice alc (leftL x1 (j + 1)).last.length clc) (leftL x1 (j + 1)).last ∧ Below w6.heap.size w6 B3 ∧ w6.heap.size ≤ gm) := Lib.hid (fin_of HMR.out.2.2.2.2 (row_lt HM9.out) hbc hbz HBC.out ohc olc hrm hB3); clear ohc olc hbc hbA hbB hra hrb hne hr1a hr2b hr2a hbz))
      go_roundw
      case rel => exact ⟨j + 1, _, _, by omega, by go_num, HFIN⟩
      case measure => simp [intOf]; omega
    · obtain rfl : j = x1.held.length := by omega
      have HEND : Hid (Below w.heap.size w wr) := Lib.hid (goes_up HBW.out (HB6.out.trans (HMR.out.2.2.2.1.mono HB6.out.size)))
      have he : (leftL x1 x1.held.length).held = [] := by show x1.held.drop x1.held.length = []; exact List.drop_length
      obtain ⟨ae, ce, hve, -⟩ := id HMR.out.2.1
      rw [he, List.length_nil] at hve
      subst hve
      have m2 : wr.cell? ⟨gm, 2, none⟩ = some (.slice ae 0 ce) := (cell_of_row _ _ 2 _ _ _ HMR.out.1).trans rfl
      clear he
      go_wp2
      go_ret
      exact ⟨rfl, HEND.out⟩

set_option maxRecDepth 100000 in
theorem contract (H : Type) (enc : TypeId × Value → H) (W : World) (base : Nat) (args : Array Value) (ds gs : List (DataW H)) (before : List MemPlace)
    (hval0 : ∀ (j : Nat) t v, Try.f6.params[j]? = some t → args[j]? = some v → Value.okWide Try.prog W .any base t v)
    (hW : DataW.Whole enc Try.prog Try.f6.params.toList Rows.leaseComesSpec.vars false W args.toList ds gs before)
    (hsz0 : (DataW.weightsEach Try.prog (Try.f6.params.toList ++ Rows.leaseComesSpec.plain.varTypes Try.prog) (ds ++ gs)).all (· ≤ reachBytes) = true) :
    Calls Try.prog 6 args W fun e W' => ∃ v, e = .returned v ∧ Rows.leaseComesSpec.post enc Try.prog Try.f6 false true false false W args v W' := by
  have hval : ∀ (j : Nat) t v, Try.f6.params[j]? = some t → args[j]? = some v → Value.okWide Try.prog W .any base t v := hval0
  have hW' := hW
  obtain ⟨p, q, hA0, hV, rfl, hfz, hnd⟩ := hW
  have hA : DataW.TrodAll enc Try.prog W 0 (fun _ => true) true Try.f6.params.toList args.toList ds p := hA0
  rw [Try.params6] at hA hval
  have hsz := hsz0
  rw [Try.params6] at hsz
  obtain ⟨v0, vs0, d0, ds0, p0, q0, hargs, rfl, rfl, h0, r0⟩ := trodAll_cons hA
  obtain ⟨v1, vs1, d1, ds1, p1, q1, rfl, rfl, rfl, h1, r1⟩ := trodAll_cons r0
  obtain ⟨v2, vs2, d2, ds2, p2, q2, rfl, rfl, rfl, h2, r2⟩ := trodAll_cons r1
  obtain ⟨v3, vs3, d3, ds3, p3, q3, rfl, rfl, rfl, h3, r3⟩ := trodAll_cons r2
  obtain ⟨rfl, rfl, rfl⟩ := trodAll_nil r3
  obtain rfl : args = #[v0, v1, v2, v3] := by cases args; simp_all
  obtain ⟨rfl, rfl⟩ := trodVars_none hV
  clear hA0 hval0
  have k0 := h0
  have lt0 : ∀ x ∈ p0, x.block < W.heap.size := by obtain ⟨m, hm⟩ := k0; exact DataW.trod_lt m _ _ _ hm
  have k1 := h1
  have lt1 : ∀ x ∈ p1, x.block < W.heap.size := by obtain ⟨m, hm⟩ := k1; exact DataW.trod_lt m _ _ _ hm
  have k2 := h2
  have lt2 : ∀ x ∈ p2, x.block < W.heap.size := by obtain ⟨m, hm⟩ := k2; exact DataW.trod_lt m _ _ _ hm
  have k3 := h3
  have lt3 : ∀ x ∈ p3, x.block < W.heap.size := by obtain ⟨m, hm⟩ := k3; exact DataW.trod_lt m _ _ _ hm
  obtain ⟨a0, rfl, -, -, w0⟩ := open_int Try.underlying2 (hval 0 2 v0 rfl rfl) h0
  obtain ⟨x1, w1, -, s1⟩ := open_led (hval 1 35 v1 rfl rfl) k1
  have b1 : IsLed.fits x1 := s1 (wt_arg hsz (j := 1) rfl rfl)
  obtain ⟨a2, rfl, -, -, w2⟩ := open_int Try.underlying2 (hval 2 2 v2 rfl rfl) h2
  obtain ⟨a3, rfl, -, -, w3⟩ := open_int Try.underlying2 (hval 3 2 v3 rfl rfl) h3
  refine (walk a0 v1 x1 a2 a3 W w0 w1 b1 w2 w3).mono fun e W' ⟨he, bel⟩ => ?_
  subst he
  exact ⟨_, rfl, _, _, _, [], _, [], hW', trodAll_mk1 (shut_bool Try.underlying4 _), (trodAll_cons_mk (Below.trod laidOut (by kernel_rfl) (of_decide_eq_true (by kernel_rfl)) k0 bel lt0) (trodAll_cons_mk (Below.trod laidOut (by kernel_rfl) (of_decide_eq_true (by kernel_rfl)) k1 bel lt1) (trodAll_cons_mk (Below.trod laidOut (by kernel_rfl) (of_decide_eq_true (by kernel_rfl)) k2 bel lt2) (trodAll_cons_mk (Below.trod laidOut (by kernel_rfl) (of_decide_eq_true (by kernel_rfl)) k3 bel lt3) trodAll_mk0)))), rfl, bel.frame _, fun h => by cases h⟩

set_option maxRecDepth 100000 in
theorem lifted (os : Os) (started : os.Started) (H : Type) (enc : TypeId × Value → H) :
    ReturnsInHanded {} Try.checked os 6 .any (Rows.leaseComesSpec.pre6 enc Try.prog Try.f6 Rows.leaseComesRow.domain false) (Rows.leaseComesSpec.post enc Try.prog Try.f6 false true false false) := by
  refine returnsInHanded_of_change_sized (C := Try.checked) own started (by kernel_rfl) Try.func6
    (ChangeSpec.witness6 (enc := enc) (C := Try.checked) false ⟨#[], #[.int .i64 0, .agg #[.int .i64 0, .int .u64 0, .slice none 0 0, .slice none 0 0], .int .i64 0, .int .i64 0], []⟩ 8 (by kernel_rfl) (by kernel_rfl) (by kernel_rfl) (by kernel_rfl)) ?_
  intro W base args ds gs before hval0 hW hcnd hsz _
  exact contract H enc W base args ds gs before hval0 hW hsz

theorem proved : Rows.LeaseComesSaid :=
  OpenClaim.holds_of_wide 6 Try.f6 rfl rfl rfl rfl rfl rfl rfl ⟨rfl, rfl, rfl, rfl, rfl⟩ rfl rfl rfl rfl rfl (by kernel_rfl) Try.func6 (by kernel_rfl)
    (of_decide_eq_true (by kernel_rfl)) (by unfold Func.isWrapper; first | (rw [if_pos (by decide +kernel)]; kernel_rfl) | (rw [if_neg (by decide +kernel)]; exact ⟨rfl, rfl⟩))
    (fun os started H enc _ => lifted os started H enc)
end Go.Proofs.Ytgbblegcjladaaa.leaseComes
