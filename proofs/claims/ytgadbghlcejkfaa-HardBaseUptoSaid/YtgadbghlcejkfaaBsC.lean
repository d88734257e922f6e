/- The records that make what lasts: the document's Base. No condition but the bounds of what may last. -/
import Derived.Test.YtgadbghlcejkfaaBsB
import Derived.Test.YtgadbghlcejkfaaCpR
import Derived.Test.YtgadbghlcejkfaaHdR
import Derived.Deep.RegionLaw
import Derived.Deep.CutRange
import Derived.Deep.DeepCutAuto
namespace Go.Proofs.Ytgadbghlcejkfaa
open Go.ChangeShapes Go.WideShapes Go.ChangeAt Go.RowKit Go.Deep
set_option linter.unusedVariables false
set_option maxRecDepth 100000
namespace Rc
open Hd Nv
set_option maxHeartbeats 8000000 in
theorem rbase_any (h : Har) (v : Value) (w : World) (hh : IsHard w v h) (hf : IsHard.fits h) (hN : h.log.length ≤ 4294967296) : Calls Try.prog 23 #[v] w (GivesBase h w) := by
  obtain ⟨vn, vh, vl, vg, rfl, -, -, -, hg, hwf⟩ := id hh
  obtain ⟨rows0, a, cap, rfl, hrl, hlc, hcm, hrc, hes, hget⟩ := log_rows hg
  have hr : Below (w.heap.size + 1) (w.alloc (.cells (hArr h vn vh vl (.slice a h.log.length cap)) 32)) (w.alloc (.cells (hArr h vn vh vl (.slice a h.log.length cap)) 32)) := Below.refl _ _
  have HH := Lib.hid (hh.below (box_below hr) (Nat.le_refl _))
  have HX0 := Lib.hid hr
  have HRC := Lib.hid hrc
  have HES := Lib.hid hes
  have HGET := Lib.hid hget
  have HF := Lib.hid hf
  have HWF := Lib.hid hwf
  have HRL := Lib.hid hrl
  obtain ⟨b0, b1, b2, b3, b4, b5, b6, b7, b8, b9, b10⟩ := cells11 (box_cells hr)
  clear hh hg hwf hrc hes hget hr hf hrl
  go_enter Try.func23, Try.ntmps23
  go_wp2_with fail
  refine (rcheck_any h _ _ HH.out).mono ?_
  rintro e w1 ⟨z1, rfl, hz1, hb1⟩
  have hx : Below (w.heap.size + 1) (w.alloc (.cells (hArr h vn vh vl (.slice a h.log.length cap)) 32)) w1 := HX0.out.trans (hb1.mono (by simp))
  have HX1 := Lib.hid hx
  have HS1 : Hid (w.heap.size + 1 ≤ w1.heap.size) := Lib.hid (by have := hx.size; simpa using this)
  clear b0 b1 b2 b3 b4 b5 b6 b7 b8 b9 b10
  obtain ⟨b0, b1, b2, b3, b4, b5, b6, b7, b8, b9, b10⟩ := cells11 (box_cells hx)
  clear hb1 hx
  rcases hz1 with ⟨rfl, hok⟩ | ⟨rfl, hno⟩
  · have HOK := Lib.hid hok
    have hb63 := bounds_u64 HWF.out.1
    have ht63 := bounds_u64 HWF.out.2.1
    clear hok
    by_cases k1 : h.boot = 0
    · have m1 : h.boot ≤ 0 := by omega
      by_cases k2 : h.term = 0
      · have m2 : h.term ≤ 0 := by omega
        have HRS : Hid (Rows21 w1 (w.heap.size + 1) (.slice none 0 0) (headL h)) := Lib.hid (by unfold headL; rw [if_pos k1, if_pos k2]; exact Rows21.nil _ _)
        have HXS := Lib.hid HX1.out
        clear k1 k2
        go_wp2_with (fail)
        clear b0 b1 b2 b3 b4 b5 b6 b7 b8 b9 b10
        obtain ⟨rowsS, ownS, hdS, hmS⟩ := HRS.out
        have HDS := Lib.hid hdS
        have HMS := Lib.hid hmS
        have b10 := (cells11 (box_cells HXS.out)).2.2.2.2.2.2.2.2.2.2
        clear hdS hmS
        go_loopw [5, 36] (fun l i wr => ∃ (k : Nat) (rows : List RRow), k ≤ h.log.length ∧ i = .int .i64 k ∧ OwnR 21 recC 38 wr (w.heap.size + 1) l rows ∧ Hid ((∀ r ∈ rows, RecO wr (w.heap.size + 1) r) ∧ rows.map Prod.fst = headL h ++ addsL h.shot.index 0 (h.log.take k)) ∧ Hid (Below (w.heap.size + 1) (w.alloc (.cells (hArr h vn vh vl (.slice a h.log.length cap)) 32)) wr)) (fun _ i _ => h.log.length - (intOf i).toNat)
        case atStart => exact ⟨0, rowsS, Nat.zero_le _, rfl, ownS, Lib.hid ⟨HDS.out, by rw [HMS.out]; simp [addsL]⟩, HXS⟩
        case round =>
          obtain ⟨k, rows, hk, rfl, hown, HD, HX⟩ := hrel
          by_cases hlt2 : k < h.log.length
          · have hlt3 : k < rows0.length := by have := HRL.out; omega
            obtain ⟨b, off, rfl, hlt, hc⟩ := Ld.rows_open hlt3 HRC.out
            have hbw := box_below HX.out
            have hce := fun j u hu => (hbw.cell (p := ⟨b, off + (k * 9 + j), none⟩) hlt).trans (hc k _ (Ld.rgetD hlt3) j u hu)
            have hq := HGET.out k hlt3
            have hes := HES.out _ (List.getElem_mem hlt3)
            have HSL := Lib.hid (hes.1.below hbw (Nat.le_refl _))
            have HW := Lib.hid hes.2
            have HOWN := Lib.hid hown
            clear hc hbw hes hown
            generalize rows0[k] = r at *
            obtain ⟨x, vr⟩ := r
            simp only [] at hq HSL HW
            have HG := Lib.hid hq
            have hfx := HF.out.2.2 x (List.mem_of_getElem? hq)
            obtain ⟨ar, cr, hvr, -⟩ := id HSL.out
            subst hvr
            obtain ⟨e0, e1, e2, e3, e4, e5, e6, e7, e8⟩ := ent_cells hce
            have hrlen : rows.length ≤ h.log.length + 2 := by
              have q1 := congrArg List.length HD.out.2
              have q2 := headL_len h
              rw [List.length_map, List.length_append, addsL_len, List.length_take] at q1
              omega
            have hkz : (k : Int) < (h.log.length : Int) := by omega
            have hlast : h.shot.index + h.log.length ≤ 4611686018427387904 := HOK.out.2.2.2.1
            have hx0 := Ld.u64_nonneg HWF.out.2.2.2.1
            have hu1 : IntKind.u64.wrap (k : Int) = (k : Int) := by
              unfold IntKind.wrap
              simp [IntKind.signed, IntKind.bits]
              omega
            have hu2 : IntKind.u64.wrap (h.shot.index + (k : Int)) = h.shot.index + (k : Int) := by
              unfold IntKind.wrap
              simp [IntKind.signed, IntKind.bits]
              omega
            have hu3 : IntKind.u64.wrap (h.shot.index + (k : Int) + 1) = h.shot.index + (k : Int) + 1 := by
              unfold IntKind.wrap
              simp [IntKind.signed, IntKind.bits]
              omega
            have hx4 : Below (w.heap.size + 1) (w.alloc (.cells (hArr h vn vh vl (.slice (some ⟨b, off, none⟩) h.log.length cap)) 32)) (wr.alloc (.cells (entC (x, .slice ar x.cmd.nodes.length cr)).toArray 36)) := HX.out.alloc (by have := HX.out.size; simpa using this) _
            have HSR : Hid (w.heap.size + 1 ≤ wr.heap.size) := Lib.hid (by have := HX.out.size; simpa using this)
            have HX4 := Lib.hid hx4
            have b3 := (cells11 (box_cells hx4)).2.2.2.1
            have hrow0 : (wr.alloc (.cells (entC (x, .slice ar x.cmd.nodes.length cr)).toArray 36)).heap[wr.heap.size]? = some (.cells (entC (x, .slice ar x.cmd.nodes.length cr)).toArray 36 (0, 0)) := heap_alloc_new _ _
            obtain ⟨-, x0, x1, x2, x3, x4, x5, x6, x7, x8⟩ := es_mk hrow0
            have HROW := Lib.hid hrow0
            clear hce hq hx4 hrow0
            have hb0 : Below wr.heap.size wr (wr.alloc (.cells (entC (x, .slice ar x.cmd.nodes.length cr)).toArray 36)) := (Below.refl _ _).alloc (Nat.le_refl _) _
            have HB0 := Lib.hid hb0
            have HIX : Hid ((Lit.int .u64 (h.shot.index + (k : Int) + 1)).wf = true) := Lib.hid (WalkArith.wf_u64 (by omega))
            have HIR : Hid (IsRec (wr.alloc (.cells (entC (x, .slice ar x.cmd.nodes.length cr)).toArray 36)) (.agg (rArr (addR (h.shot.index + (k : Int) + 1) x) (.slice ar x.cmd.nodes.length cr) (.slice none 0 0) (.slice none 0 0) (.slice none 0 0))) (addR (h.shot.index + (k : Int) + 1) x)) := Lib.hid ⟨_, _, _, _, rfl, ⟨HSL.out.below hb0 (Nat.le_refl _), Cm.sl_nil _ _, SlR.nil _, SlR.nil _⟩, addR_wf HIX.out HW.out⟩
            have HFR : Hid (IsRec.fits (addR (h.shot.index + (k : Int) + 1) x)) := Lib.hid ⟨hfx, ⟨by simp [addR, zShoV], by simp [addR, zShoV], by simp [addR, zShoV]⟩⟩
            clear hb0
            go_wp2_with fail
            refine (copyrec_any (addR (h.shot.index + (k : Int) + 1) x) _ _ HIR.out HFR.out).mono ?_
            rintro e w6 ⟨a6, c6, a7, c7, a8, c8, a9, c9, rfl, ro6, hb6⟩
            have HB6 := Lib.hid (HB0.out.trans (hb6.mono HB0.out.size))
            have HO6 := Lib.hid ro6
            clear hb6 ro6 x0 x1 x2 x3 x4 x5 x6 x7 x8 b3 e0 e1 e2 e3 e4 e5 e6 e7 e8
            go_wp2_with (at_builtin; refine appRL recC_len Try.underlying48 rfl (by decide) info_rec rfl _ _ rfl (w.heap.size + 1) _ rows rfl ?ownR0 _ [(addR (h.shot.index + (k : Int) + 1) x, .slice a6 (addR (h.shot.index + (k : Int) + 1) x).ent.cmd.nodes.length c6, .slice a7 (addR (h.shot.index + (k : Int) + 1) x).shot.nodes.length c7, .slice a8 (addR (h.shot.index + (k : Int) + 1) x).shot.led.held.length c8, .slice a9 (addR (h.shot.index + (k : Int) + 1) x).shot.led.last.length c9)] rfl ?slR0 ?oneR0 ?lenR0 ?memR0 ?baseR0 ?nextR0)
            case ownR0 => exact (HOWN.out.below HB6.out (Nat.le_refl _)).alloc _
            case slR0 => exact SlR.one recC_len _ w6.heap.size rfl _ _ rfl
            case oneR0 => exact rec_one _ _ _ _ _ _ _ _ _ _ _ _ _
            case lenR0 => (unfold maxLen; simp; omega)
            case memR0 => (simp; omega)
            case baseR0 => (have := HSR.out; have := HB6.out.size; simp; omega)
            intro v7 w7 own7 hg7
            have hbl : Below wr.heap.size wr (w6.alloc (.cells (recC (addR (h.shot.index + (k : Int) + 1) x, .slice a6 (addR (h.shot.index + (k : Int) + 1) x).ent.cmd.nodes.length c6, .slice a7 (addR (h.shot.index + (k : Int) + 1) x).shot.nodes.length c7, .slice a8 (addR (h.shot.index + (k : Int) + 1) x).shot.led.held.length c8, .slice a9 (addR (h.shot.index + (k : Int) + 1) x).shot.led.last.length c9)).toArray 38)) := HB6.out.alloc HB6.out.size _
            have hstep := rows_step ((HOWN.out.below HB6.out (Nat.le_refl _)).alloc (.cells (recC (addR (h.shot.index + (k : Int) + 1) x, .slice a6 (addR (h.shot.index + (k : Int) + 1) x).ent.cmd.nodes.length c6, .slice a7 (addR (h.shot.index + (k : Int) + 1) x).shot.nodes.length c7, .slice a8 (addR (h.shot.index + (k : Int) + 1) x).shot.led.held.length c8, .slice a9 (addR (h.shot.index + (k : Int) + 1) x).shot.led.last.length c9)).toArray 38)) (fun r hr => (HD.out.1 r hr).map fun e sz u n xs _ q => (owns_below HB6.out q).alloc _) (x := (addR (h.shot.index + (k : Int) + 1) x, .slice a6 (addR (h.shot.index + (k : Int) + 1) x).ent.cmd.nodes.length c6, .slice a7 (addR (h.shot.index + (k : Int) + 1) x).shot.nodes.length c7, .slice a8 (addR (h.shot.index + (k : Int) + 1) x).shot.led.held.length c8, .slice a9 (addR (h.shot.index + (k : Int) + 1) x).shot.led.last.length c9)) (HO6.out.map fun e sz u n xs _ q => (owns_lower (by have := HSR.out; simp; omega) q).alloc _) hg7 own7
            obtain ⟨rows7, own8, rec7, map7⟩ := hstep
            have HX7 := Lib.hid (Below.own (HX.out.trans (hbl.mono HSR.out)) (Nat.le_trans HSR.out hbl.size) ((HOWN.out.below HB6.out (Nat.le_refl _)).alloc (.cells (recC (addR (h.shot.index + (k : Int) + 1) x, .slice a6 (addR (h.shot.index + (k : Int) + 1) x).ent.cmd.nodes.length c6, .slice a7 (addR (h.shot.index + (k : Int) + 1) x).shot.nodes.length c7, .slice a8 (addR (h.shot.index + (k : Int) + 1) x).shot.led.held.length c8, .slice a9 (addR (h.shot.index + (k : Int) + 1) x).shot.led.last.length c9)).toArray 38)) hg7)
            have HM7 : Hid (rows7.map Prod.fst = headL h ++ addsL h.shot.index 0 (h.log.take (k + 1))) := Lib.hid (by
              rw [map7, HD.out.2, List.take_add_one, HG.out, List.append_assoc]
              simp only [Option.toList_some]
              rw [addsL_snoc, List.length_take, Nat.zero_add, Nat.min_eq_left hk])
            have HR7 := Lib.hid rec7
            have HW7 := Lib.hid own8
            clear hbl rec7 map7 own7 own8 hg7
            go_wp2
            go_roundw
            case rel => exact ⟨k + 1, rows7, by omega, by go_num, HW7.out, Lib.hid ⟨HR7.out, HM7.out⟩, Lib.hid HX7.out⟩
            case measure => simp [intOf]; omega
          · obtain rfl : k = h.log.length := by omega
            have HRF : Hid (Rows21 wr (w.heap.size + 1) _ (baseL h)) := Lib.hid ⟨rows, hown, HD.out.1, by rw [HD.out.2, List.take_length]; rfl⟩
            have HBF := Lib.hid (box_below HX.out)
            have HOK2 := Lib.hid HOK.out
            clear hown HD HX
            go_wp2
            go_ret2
            exact ⟨_, 0, _, rfl, .inl ⟨rfl, HOK2.out, rfl⟩, HRF.out.recs, HBF.out⟩
      · have m2 : 0 < h.term := by omega
        have m3 : 0 < h.term := by omega
        go_upto_region 8 with (fail)
        obtain ⟨v1, hv1⟩ : ∃ q, q = Value.slice none 0 0 := ⟨_, rfl⟩
        have own1 : OwnR 21 recC 38 w1 (w.heap.size + 1) v1 ([] : List RRow) := by rw [hv1]; exact OwnR.nil _ _ _
        rw [← hv1]
        clear hv1
        go_wp2_with (at_builtin; refine appRL recC_len Try.underlying48 rfl (by decide) info_rec rfl _ _ rfl (w.heap.size + 1) v1 [] rfl ?own31 _ [(votR h.term h.vote, .slice none 0 0, .slice none 0 0, .slice none 0 0, .slice none 0 0)] rfl ?sl31 ?one31 ?len31 ?mem31 ?base31 ?next31)
        case own31 => exact own1.alloc _
        case sl31 => exact SlR.one recC_len _ w1.heap.size rfl _ _ rfl
        case one31 => first | exact rec_one _ _ _ _ _ _ _ _ _ _ _ _ _ | exact fun u hu => rec_one _ _ _ _ _ _ _ _ _ _ _ _ _ _ (List.mem_singleton.2 rfl) u hu
        case len31 => (unfold maxLen; simp)
        case mem31 => simp
        case base31 => (have := HS1.out; simp; omega)
        intro v3 w3 own3 hg3
        have HX3 := Lib.hid (Below.ownA HX1.out HS1.out own1 hg3)
        have HS3 : Hid (w.heap.size + 1 ≤ w3.heap.size) := Lib.hid (Nat.le_trans HS1.out (Nat.le_trans (by simp) hg3.size))
        have HR3 := Lib.hid (rows_app (o := _) own1 (fun r hr => by simp at hr) (rec_nil _ w rfl rfl (votR_wf HWF.out)) hg3 own3)
        clear hg3 own3
        have HRS : Hid (Rows21 w3 (w.heap.size + 1) v3 (headL h)) := Lib.hid (by unfold headL; rw [if_pos k1, if_neg k2]; exact HR3.out)
        have HXS := Lib.hid HX3.out
        clear k1 k2 b0 b1 b2 b3 b4 b5 b6 b7 b8 b9 b10
        obtain ⟨b0, b1, b2, b3, b4, b5, b6, b7, b8, b9, b10⟩ := cells11 (box_cells HX3.out)
        go_wp2_with (fail)
        clear b0 b1 b2 b3 b4 b5 b6 b7 b8 b9 b10
        obtain ⟨rowsS, ownS, hdS, hmS⟩ := HRS.out
        have HDS := Lib.hid hdS
        have HMS := Lib.hid hmS
        have b10 := (cells11 (box_cells HXS.out)).2.2.2.2.2.2.2.2.2.2
        clear hdS hmS
        go_loopw [5, 36] (fun l i wr => ∃ (k : Nat) (rows : List RRow), k ≤ h.log.length ∧ i = .int .i64 k ∧ OwnR 21 recC 38 wr (w.heap.size + 1) l rows ∧ Hid ((∀ r ∈ rows, RecO wr (w.heap.size + 1) r) ∧ rows.map Prod.fst = headL h ++ addsL h.shot.index 0 (h.log.take k)) ∧ Hid (Below (w.heap.size + 1) (w.alloc (.cells (hArr h vn vh vl (.slice a h.log.length cap)) 32)) wr)) (fun _ i _ => h.log.length - (intOf i).toNat)
        case atStart => exact ⟨0, rowsS, Nat.zero_le _, rfl, ownS, Lib.hid ⟨HDS.out, by rw [HMS.out]; simp [addsL]⟩, HXS⟩
        case round =>
          obtain ⟨k, rows, hk, rfl, hown, HD, HX⟩ := hrel
          by_cases hlt2 : k < h.log.length
          · have hlt3 : k < rows0.length := by have := HRL.out; omega
            obtain ⟨b, off, rfl, hlt, hc⟩ := Ld.rows_open hlt3 HRC.out
            have hbw := box_below HX.out
            have hce := fun j u hu => (hbw.cell (p := ⟨b, off + (k * 9 + j), none⟩) hlt).trans (hc k _ (Ld.rgetD hlt3) j u hu)
            have hq := HGET.out k hlt3
            have hes := HES.out _ (List.getElem_mem hlt3)
            have HSL := Lib.hid (hes.1.below hbw (Nat.le_refl _))
            have HW := Lib.hid hes.2
            have HOWN := Lib.hid hown
            clear hc hbw hes hown
            generalize rows0[k] = r at *
            obtain ⟨x, vr⟩ := r
            simp only [] at hq HSL HW
            have HG := Lib.hid hq
            have hfx := HF.out.2.2 x (List.mem_of_getElem? hq)
            obtain ⟨ar, cr, hvr, -⟩ := id HSL.out
            subst hvr
            obtain ⟨e0, e1, e2, e3, e4, e5, e6, e7, e8⟩ := ent_cells hce
            have hrlen : rows.length ≤ h.log.length + 2 := by
              have q1 := congrArg List.length HD.out.2
              have q2 := headL_len h
              rw [List.length_map, List.length_append, addsL_len, List.length_take] at q1
              omega
            have hkz : (k : Int) < (h.log.length : Int) := by omega
            have hlast : h.shot.index + h.log.length ≤ 4611686018427387904 := HOK.out.2.2.2.1
            have hx0 := Ld.u64_nonneg HWF.out.2.2.2.1
            have hu1 : IntKind.u64.wrap (k : Int) = (k : Int) := by
              unfold IntKind.wrap
              simp [IntKind.signed, IntKind.bits]
              omega
            have hu2 : IntKind.u64.wrap (h.shot.index + (k : Int)) = h.shot.index + (k : Int) := by
              unfold IntKind.wrap
              simp [IntKind.signed, IntKind.bits]
              omega
            have hu3 : IntKind.u64.wrap (h.shot.index + (k : Int) + 1) = h.shot.index + (k : Int) + 1 := by
              unfold IntKind.wrap
              simp [IntKind.signed, IntKind.bits]
              omega
            have hx4 : Below (w.heap.size + 1) (w.alloc (.cells (hArr h vn vh vl (.slice (some ⟨b, off, none⟩) h.log.length cap)) 32)) (wr.alloc (.cells (entC (x, .slice ar x.cmd.nodes.length cr)).toArray 36)) := HX.out.alloc (by have := HX.out.size; simpa using this) _
            have HSR : Hid (w.heap.size + 1 ≤ wr.heap.size) := Lib.hid (by have := HX.out.size; simpa using this)
            have HX4 := Lib.hid hx4
            have b3 := (cells11 (box_cells hx4)).2.2.2.1
            have hrow0 : (wr.alloc (.cells (entC (x, .slice ar x.cmd.nodes.length cr)).toArray 36)).heap[wr.heap.size]? = some (.cells (entC (x, .slice ar x.cmd.nodes.length cr)).toArray 36 (0, 0)) := heap_alloc_new _ _
            obtain ⟨-, x0, x1, x2, x3, x4, x5, x6, x7, x8⟩ := es_mk hrow0
            have HROW := Lib.hid hrow0
            clear hce hq hx4 hrow0
            have hb0 : Below wr.heap.size wr (wr.alloc (.cells (entC (x, .slice ar x.cmd.nodes.length cr)).toArray 36)) := (Below.refl _ _).alloc (Nat.le_refl _) _
            have HB0 := Lib.hid hb0
            have HIX : Hid ((Lit.int .u64 (h.shot.index + (k : Int) + 1)).wf = true) := Lib.hid (WalkArith.wf_u64 (by omega))
            have HIR : Hid (IsRec (wr.alloc (.cells (entC (x, .slice ar x.cmd.nodes.length cr)).toArray 36)) (.agg (rArr (addR (h.shot.index + (k : Int) + 1) x) (.slice ar x.cmd.nodes.length cr) (.slice none 0 0) (.slice none 0 0) (.slice none 0 0))) (addR (h.shot.index + (k : Int) + 1) x)) := Lib.hid ⟨_, _, _, _, rfl, ⟨HSL.out.below hb0 (Nat.le_refl _), Cm.sl_nil _ _, SlR.nil _, SlR.nil _⟩, addR_wf HIX.out HW.out⟩
            have HFR : Hid (IsRec.fits (addR (h.shot.index + (k : Int) + 1) x)) := Lib.hid ⟨hfx, ⟨by simp [addR, zShoV], by simp [addR, zShoV], by simp [addR, zShoV]⟩⟩
            clear hb0
            go_wp2_with fail
            refine (copyrec_any (addR (h.shot.index + (k : Int) + 1) x) _ _ HIR.out HFR.out).mono ?_
            rintro e w6 ⟨a6, c6, a7, c7, a8, c8, a9, c9, rfl, ro6, hb6⟩
            have HB6 := Lib.hid (HB0.out.trans (hb6.mono HB0.out.size))
            have HO6 := Lib.hid ro6
            clear hb6 ro6 x0 x1 x2 x3 x4 x5 x6 x7 x8 b3 e0 e1 e2 e3 e4 e5 e6 e7 e8
            go_wp2_with (at_builtin; refine appRL recC_len Try.underlying48 rfl (by decide) info_rec rfl _ _ rfl (w.heap.size + 1) _ rows rfl ?ownR1 _ [(addR (h.shot.index + (k : Int) + 1) x, .slice a6 (addR (h.shot.index + (k : Int) + 1) x).ent.cmd.nodes.length c6, .slice a7 (addR (h.shot.index + (k : Int) + 1) x).shot.nodes.length c7, .slice a8 (addR (h.shot.index + (k : Int) + 1) x).shot.led.held.length c8, .slice a9 (addR (h.shot.index + (k : Int) + 1) x).shot.led.last.length c9)] rfl ?slR1 ?oneR1 ?lenR1 ?memR1 ?baseR1 ?nextR1)
            case ownR1 => exact (HOWN.out.below HB6.out (Nat.le_refl _)).alloc _
            case slR1 => exact SlR.one recC_len _ w6.heap.size rfl _ _ rfl
            case oneR1 => exact rec_one _ _ _ _ _ _ _ _ _ _ _ _ _
            case lenR1 => (unfold maxLen; simp; omega)
            case memR1 => (simp; omega)
            case baseR1 => (have := HSR.out; have := HB6.out.size; simp; omega)
            intro v7 w7 own7 hg7
            have hbl : Below wr.heap.size wr (w6.alloc (.cells (recC (addR (h.shot.index + (k : Int) + 1) x, .slice a6 (addR (h.shot.index + (k : Int) + 1) x).ent.cmd.nodes.length c6, .slice a7 (addR (h.shot.index + (k : Int) + 1) x).shot.nodes.length c7, .slice a8 (addR (h.shot.index + (k : Int) + 1) x).shot.led.held.length c8, .slice a9 (addR (h.shot.index + (k : Int) + 1) x).shot.led.last.length c9)).toArray 38)) := HB6.out.alloc HB6.out.size _
            have hstep := rows_step ((HOWN.out.below HB6.out (Nat.le_refl _)).alloc (.cells (recC (addR (h.shot.index + (k : Int) + 1) x, .slice a6 (addR (h.shot.index + (k : Int) + 1) x).ent.cmd.nodes.length c6, .slice a7 (addR (h.shot.index + (k : Int) + 1) x).shot.nodes.length c7, .slice a8 (addR (h.shot.index + (k : Int) + 1) x).shot.led.held.length c8, .slice a9 (addR (h.shot.index + (k : Int) + 1) x).shot.led.last.length c9)).toArray 38)) (fun r hr => (HD.out.1 r hr).map fun e sz u n xs _ q => (owns_below HB6.out q).alloc _) (x := (addR (h.shot.index + (k : Int) + 1) x, .slice a6 (addR (h.shot.index + (k : Int) + 1) x).ent.cmd.nodes.length c6, .slice a7 (addR (h.shot.index + (k : Int) + 1) x).shot.nodes.length c7, .slice a8 (addR (h.shot.index + (k : Int) + 1) x).shot.led.held.length c8, .slice a9 (addR (h.shot.index + (k : Int) + 1) x).shot.led.last.length c9)) (HO6.out.map fun e sz u n xs _ q => (owns_lower (by have := HSR.out; simp; omega) q).alloc _) hg7 own7
            obtain ⟨rows7, own8, rec7, map7⟩ := hstep
            have HX7 := Lib.hid (Below.own (HX.out.trans (hbl.mono HSR.out)) (Nat.le_trans HSR.out hbl.size) ((HOWN.out.below HB6.out (Nat.le_refl _)).alloc (.cells (recC (addR (h.shot.index + (k : Int) + 1) x, .slice a6 (addR (h.shot.index + (k : Int) + 1) x).ent.cmd.nodes.length c6, .slice a7 (addR (h.shot.index + (k : Int) + 1) x).shot.nodes.length c7, .slice a8 (addR (h.shot.index + (k : Int) + 1) x).shot.led.held.length c8, .slice a9 (addR (h.shot.index + (k : Int) + 1) x).shot.led.last.length c9)).toArray 38)) hg7)
            have HM7 : Hid (rows7.map Prod.fst = headL h ++ addsL h.shot.index 0 (h.log.take (k + 1))) := Lib.hid (by
              rw [map7, HD.out.2, List.take_add_one, HG.out, List.append_assoc]
              simp only [Option.toList_some]
              rw [addsL_snoc, List.length_take, Nat.zero_add, Nat.min_eq_left hk])
            have HR7 := Lib.hid rec7
            have HW7 := Lib.hid own8
            clear hbl rec7 map7 own7 own8 hg7
            go_wp2
            go_roundw
            case rel => exact ⟨k + 1, rows7, by omega, by go_num, HW7.out, Lib.hid ⟨HR7.out, HM7.out⟩, Lib.hid HX7.out⟩
            case measure => simp [intOf]; omega
          · obtain rfl : k = h.log.length := by omega
            have HRF : Hid (Rows21 wr (w.heap.size + 1) _ (baseL h)) := Lib.hid ⟨rows, hown, HD.out.1, by rw [HD.out.2, List.take_length]; rfl⟩
            have HBF := Lib.hid (box_below HX.out)
            have HOK2 := Lib.hid HOK.out
            clear hown HD HX
            go_wp2
            go_ret2
            exact ⟨_, 0, _, rfl, .inl ⟨rfl, HOK2.out, rfl⟩, HRF.out.recs, HBF.out⟩
    · have m1 : 0 < h.boot := by omega
      have m4 : 0 < h.boot := by omega
      go_upto_region 6 with (fail)
      obtain ⟨v1, hv1⟩ : ∃ q, q = Value.slice none 0 0 := ⟨_, rfl⟩
      have own1 : OwnR 21 recC 38 w1 (w.heap.size + 1) v1 ([] : List RRow) := by rw [hv1]; exact OwnR.nil _ _ _
      rw [← hv1]
      clear hv1
      go_wp2_with (at_builtin; refine appRL recC_len Try.underlying48 rfl (by decide) info_rec rfl _ _ rfl (w.heap.size + 1) v1 [] rfl ?own21 _ [(begR h.boot, .slice none 0 0, .slice none 0 0, .slice none 0 0, .slice none 0 0)] rfl ?sl21 ?one21 ?len21 ?mem21 ?base21 ?next21)
      case own21 => exact own1.alloc _
      case sl21 => exact SlR.one recC_len _ w1.heap.size rfl _ _ rfl
      case one21 => first | exact rec_one _ _ _ _ _ _ _ _ _ _ _ _ _ | exact fun u hu => rec_one _ _ _ _ _ _ _ _ _ _ _ _ _ _ (List.mem_singleton.2 rfl) u hu
      case len21 => (unfold maxLen; simp)
      case mem21 => simp
      case base21 => (have := HS1.out; simp; omega)
      intro v2 w2 own2 hg2
      have HX2 := Lib.hid (Below.ownA HX1.out HS1.out own1 hg2)
      have HS2 : Hid (w.heap.size + 1 ≤ w2.heap.size) := Lib.hid (Nat.le_trans HS1.out (Nat.le_trans (by simp) hg2.size))
      have HR2 := Lib.hid (rows_app (o := _) own1 (fun r hr => by simp at hr) (rec_nil _ w rfl rfl (begR_wf HWF.out)) hg2 own2)
      clear hg2 own2
      clear b0 b1 b2 b3 b4 b5 b6 b7 b8 b9 b10
      obtain ⟨b0, b1, b2, b3, b4, b5, b6, b7, b8, b9, b10⟩ := cells11 (box_cells HX2.out)
      by_cases k2 : h.term = 0
      · have m2 : h.term ≤ 0 := by omega
        have HRS : Hid (Rows21 w2 (w.heap.size + 1) v2 (headL h)) := Lib.hid (by unfold headL; rw [if_neg k1, if_pos k2]; exact HR2.out)
        have HXS := Lib.hid HX2.out
        clear k1 k2
        go_wp2_with (fail)
        clear b0 b1 b2 b3 b4 b5 b6 b7 b8 b9 b10
        obtain ⟨rowsS, ownS, hdS, hmS⟩ := HRS.out
        have HDS := Lib.hid hdS
        have HMS := Lib.hid hmS
        have b10 := (cells11 (box_cells HXS.out)).2.2.2.2.2.2.2.2.2.2
        clear hdS hmS
        go_loopw [5, 36] (fun l i wr => ∃ (k : Nat) (rows : List RRow), k ≤ h.log.length ∧ i = .int .i64 k ∧ OwnR 21 recC 38 wr (w.heap.size + 1) l rows ∧ Hid ((∀ r ∈ rows, RecO wr (w.heap.size + 1) r) ∧ rows.map Prod.fst = headL h ++ addsL h.shot.index 0 (h.log.take k)) ∧ Hid (Below (w.heap.size + 1) (w.alloc (.cells (hArr h vn vh vl (.slice a h.log.length cap)) 32)) wr)) (fun _ i _ => h.log.length - (intOf i).toNat)
        case atStart => exact ⟨0, rowsS, Nat.zero_le _, rfl, ownS, Lib.hid ⟨HDS.out, by rw [HMS.out]; simp [addsL]⟩, HXS⟩
        case round =>
          obtain ⟨k, rows, hk, rfl, hown, HD, HX⟩ := hrel
          by_cases hlt2 : k < h.log.length
          · have hlt3 : k < rows0.length := by have := HRL.out; omega
            obtain ⟨b, off, rfl, hlt, hc⟩ := Ld.rows_open hlt3 HRC.out
            have hbw := box_below HX.out
            have hce := fun j u hu => (hbw.cell (p := ⟨b, off + (k * 9 + j), none⟩) hlt).trans (hc k _ (Ld.rgetD hlt3) j u hu)
            have hq := HGET.out k hlt3
            have hes := HES.out _ (List.getElem_mem hlt3)
            have HSL := Lib.hid (hes.1.below hbw (Nat.le_refl _))
            have HW := Lib.hid hes.2
            have HOWN := Lib.hid hown
            clear hc hbw hes hown
            generalize rows0[k] = r at *
            obtain ⟨x, vr⟩ := r
            simp only [] at hq HSL HW
            have HG := Lib.hid hq
            have hfx := HF.out.2.2 x (List.mem_of_getElem? hq)
            obtain ⟨ar, cr, hvr, -⟩ := id HSL.out
            subst hvr
            obtain ⟨e0, e1, e2, e3, e4, e5, e6, e7, e8⟩ := ent_cells hce
            have hrlen : rows.length ≤ h.log.length + 2 := by
              have q1 := congrArg List.length HD.out.2
              have q2 := headL_len h
              rw [List.length_map, List.length_append, addsL_len, List.length_take] at q1
              omega
            have hkz : (k : Int) < (h.log.length : Int) := by omega
            have hlast : h.shot.index + h.log.length ≤ 4611686018427387904 := HOK.out.2.2.2.1
            have hx0 := Ld.u64_nonneg HWF.out.2.2.2.1
            have hu1 : IntKind.u64.wrap (k : Int) = (k : Int) := by
              unfold IntKind.wrap
              simp [IntKind.signed, IntKind.bits]
              omega
            have hu2 : IntKind.u64.wrap (h.shot.index + (k : Int)) = h.shot.index + (k : Int) := by
              unfold IntKind.wrap
              simp [IntKind.signed, IntKind.bits]
              omega
            have hu3 : IntKind.u64.wrap (h.shot.index + (k : Int) + 1) = h.shot.index + (k : Int) + 1 := by
              unfold IntKind.wrap
              simp [IntKind.signed, IntKind.bits]
              omega
            have hx4 : Below (w.heap.size + 1) (w.alloc (.cells (hArr h vn vh vl (.slice (some ⟨b, off, none⟩) h.log.length cap)) 32)) (wr.alloc (.cells (entC (x, .slice ar x.cmd.nodes.length cr)).toArray 36)) := HX.out.alloc (by have := HX.out.size; simpa using this) _
            have HSR : Hid (w.heap.size + 1 ≤ wr.heap.size) := Lib.hid (by have := HX.out.size; simpa using this)
            have HX4 := Lib.hid hx4
            have b3 := (cells11 (box_cells hx4)).2.2.2.1
            have hrow0 : (wr.alloc (.cells (entC (x, .slice ar x.cmd.nodes.length cr)).toArray 36)).heap[wr.heap.size]? = some (.cells (entC (x, .slice ar x.cmd.nodes.length cr)).toArray 36 (0, 0)) := heap_alloc_new _ _
            obtain ⟨-, x0, x1, x2, x3, x4, x5, x6, x7, x8⟩ := es_mk hrow0
            have HROW := Lib.hid hrow0
            clear hce hq hx4 hrow0
            have hb0 : Below wr.heap.size wr (wr.alloc (.cells (entC (x, .slice ar x.cmd.nodes.length cr)).toArray 36)) := (Below.refl _ _).alloc (Nat.le_refl _) _
            have HB0 := Lib.hid hb0
            have HIX : Hid ((Lit.int .u64 (h.shot.index + (k : Int) + 1)).wf = true) := Lib.hid (WalkArith.wf_u64 (by omega))
            have HIR : Hid (IsRec (wr.alloc (.cells (entC (x, .slice ar x.cmd.nodes.length cr)).toArray 36)) (.agg (rArr (addR (h.shot.index + (k : Int) + 1) x) (.slice ar x.cmd.nodes.length cr) (.slice none 0 0) (.slice none 0 0) (.slice none 0 0))) (addR (h.shot.index + (k : Int) + 1) x)) := Lib.hid ⟨_, _, _, _, rfl, ⟨HSL.out.below hb0 (Nat.le_refl _), Cm.sl_nil _ _, SlR.nil _, SlR.nil _⟩, addR_wf HIX.out HW.out⟩
            have HFR : Hid (IsRec.fits (addR (h.shot.index + (k : Int) + 1) x)) := Lib.hid ⟨hfx, ⟨by simp [addR, zShoV], by simp [addR, zShoV], by simp [addR, zShoV]⟩⟩
            clear hb0
            go_wp2_with fail
            refine (copyrec_any (addR (h.shot.index + (k : Int) + 1) x) _ _ HIR.out HFR.out).mono ?_
            rintro e w6 ⟨a6, c6, a7, c7, a8, c8, a9, c9, rfl, ro6, hb6⟩
            have HB6 := Lib.hid (HB0.out.trans (hb6.mono HB0.out.size))
            have HO6 := Lib.hid ro6
            clear hb6 ro6 x0 x1 x2 x3 x4 x5 x6 x7 x8 b3 e0 e1 e2 e3 e4 e5 e6 e7 e8
            go_wp2_with (at_builtin; refine appRL recC_len Try.underlying48 rfl (by decide) info_rec rfl _ _ rfl (w.heap.size + 1) _ rows rfl ?ownR2 _ [(addR (h.shot.index + (k : Int) + 1) x, .slice a6 (addR (h.shot.index + (k : Int) + 1) x).ent.cmd.nodes.length c6, .slice a7 (addR (h.shot.index + (k : Int) + 1) x).shot.nodes.length c7, .slice a8 (addR (h.shot.index + (k : Int) + 1) x).shot.led.held.length c8, .slice a9 (addR (h.shot.index + (k : Int) + 1) x).shot.led.last.length c9)] rfl ?slR2 ?oneR2 ?lenR2 ?memR2 ?baseR2 ?nextR2)
            case ownR2 => exact (HOWN.out.below HB6.out (Nat.le_refl _)).alloc _
            case slR2 => exact SlR.one recC_len _ w6.heap.size rfl _ _ rfl
            case oneR2 => exact rec_one _ _ _ _ _ _ _ _ _ _ _ _ _
            case lenR2 => (unfold maxLen; simp; omega)
            case memR2 => (simp; omega)
            case baseR2 => (have := HSR.out; have := HB6.out.size; simp; omega)
            intro v7 w7 own7 hg7
            have hbl : Below wr.heap.size wr (w6.alloc (.cells (recC (addR (h.shot.index + (k : Int) + 1) x, .slice a6 (addR (h.shot.index + (k : Int) + 1) x).ent.cmd.nodes.length c6, .slice a7 (addR (h.shot.index + (k : Int) + 1) x).shot.nodes.length c7, .slice a8 (addR (h.shot.index + (k : Int) + 1) x).shot.led.held.length c8, .slice a9 (addR (h.shot.index + (k : Int) + 1) x).shot.led.last.length c9)).toArray 38)) := HB6.out.alloc HB6.out.size _
            have hstep := rows_step ((HOWN.out.below HB6.out (Nat.le_refl _)).alloc (.cells (recC (addR (h.shot.index + (k : Int) + 1) x, .slice a6 (addR (h.shot.index + (k : Int) + 1) x).ent.cmd.nodes.length c6, .slice a7 (addR (h.shot.index + (k : Int) + 1) x).shot.nodes.length c7, .slice a8 (addR (h.shot.index + (k : Int) + 1) x).shot.led.held.length c8, .slice a9 (addR (h.shot.index + (k : Int) + 1) x).shot.led.last.length c9)).toArray 38)) (fun r hr => (HD.out.1 r hr).map fun e sz u n xs _ q => (owns_below HB6.out q).alloc _) (x := (addR (h.shot.index + (k : Int) + 1) x, .slice a6 (addR (h.shot.index + (k : Int) + 1) x).ent.cmd.nodes.length c6, .slice a7 (addR (h.shot.index + (k : Int) + 1) x).shot.nodes.length c7, .slice a8 (addR (h.shot.index + (k : Int) + 1) x).shot.led.held.length c8, .slice a9 (addR (h.shot.index + (k : Int) + 1) x).shot.led.last.length c9)) (HO6.out.map fun e sz u n xs _ q => (owns_lower (by have := HSR.out; simp; omega) q).alloc _) hg7 own7
            obtain ⟨rows7, own8, rec7, map7⟩ := hstep
            have HX7 := Lib.hid (Below.own (HX.out.trans (hbl.mono HSR.out)) (Nat.le_trans HSR.out hbl.size) ((HOWN.out.below HB6.out (Nat.le_refl _)).alloc (.cells (recC (addR (h.shot.index + (k : Int) + 1) x, .slice a6 (addR (h.shot.index + (k : Int) + 1) x).ent.cmd.nodes.length c6, .slice a7 (addR (h.shot.index + (k : Int) + 1) x).shot.nodes.length c7, .slice a8 (addR (h.shot.index + (k : Int) + 1) x).shot.led.held.length c8, .slice a9 (addR (h.shot.index + (k : Int) + 1) x).shot.led.last.length c9)).toArray 38)) hg7)
            have HM7 : Hid (rows7.map Prod.fst = headL h ++ addsL h.shot.index 0 (h.log.take (k + 1))) := Lib.hid (by
              rw [map7, HD.out.2, List.take_add_one, HG.out, List.append_assoc]
              simp only [Option.toList_some]
              rw [addsL_snoc, List.length_take, Nat.zero_add, Nat.min_eq_left hk])
            have HR7 := Lib.hid rec7
            have HW7 := Lib.hid own8
            clear hbl rec7 map7 own7 own8 hg7
            go_wp2
            go_roundw
            case rel => exact ⟨k + 1, rows7, by omega, by go_num, HW7.out, Lib.hid ⟨HR7.out, HM7.out⟩, Lib.hid HX7.out⟩
            case measure => simp [intOf]; omega
          · obtain rfl : k = h.log.length := by omega
            have HRF : Hid (Rows21 wr (w.heap.size + 1) _ (baseL h)) := Lib.hid ⟨rows, hown, HD.out.1, by rw [HD.out.2, List.take_length]; rfl⟩
            have HBF := Lib.hid (box_below HX.out)
            have HOK2 := Lib.hid HOK.out
            clear hown HD HX
            go_wp2
            go_ret2
            exact ⟨_, 0, _, rfl, .inl ⟨rfl, HOK2.out, rfl⟩, HRF.out.recs, HBF.out⟩
      · have m2 : 0 < h.term := by omega
        have m3 : 0 < h.term := by omega
        obtain ⟨rows2, own2, hd2, hm2⟩ := HR2.out
        have HD2 := Lib.hid hd2
        have HL2 : Hid (rows2.length = 1) := Lib.hid (by have := congrArg List.length hm2; simpa using this)
        have HM2 := Lib.hid hm2
        clear hd2 hm2
        go_wp2_with (at_builtin; refine appRL recC_len Try.underlying48 rfl (by decide) info_rec rfl _ _ rfl (w.heap.size + 1) v2 rows2 rfl ?own32 _ [(votR h.term h.vote, .slice none 0 0, .slice none 0 0, .slice none 0 0, .slice none 0 0)] rfl ?sl32 ?one32 ?len32 ?mem32 ?base32 ?next32)
        case own32 => exact own2.alloc _
        case sl32 => exact SlR.one recC_len _ w2.heap.size rfl _ _ rfl
        case one32 => first | exact rec_one _ _ _ _ _ _ _ _ _ _ _ _ _ | exact fun u hu => rec_one _ _ _ _ _ _ _ _ _ _ _ _ _ _ (List.mem_singleton.2 rfl) u hu
        case len32 => (have := HL2.out; unfold maxLen; simp; omega)
        case mem32 => (have := HL2.out; simp; omega)
        case base32 => (have := HS2.out; simp; omega)
        intro v3 w3 own3 hg3
        have HX3 := Lib.hid (Below.ownA HX2.out HS2.out own2 hg3)
        have HS3 : Hid (w.heap.size + 1 ≤ w3.heap.size) := Lib.hid (Nat.le_trans HS2.out (Nat.le_trans (by simp) hg3.size))
        have HR3 := Lib.hid (rows_app (o := _) own2 HD2.out (rec_nil _ w rfl rfl (votR_wf HWF.out)) hg3 own3)
        clear hg3 own3
        have HRS : Hid (Rows21 w3 (w.heap.size + 1) v3 (headL h)) := Lib.hid (by unfold headL; rw [if_neg k1, if_neg k2]; have q := HR3.out; rw [HM2.out] at q; exact q)
        have HXS := Lib.hid HX3.out
        clear k1 k2 b0 b1 b2 b3 b4 b5 b6 b7 b8 b9 b10
        obtain ⟨b0, b1, b2, b3, b4, b5, b6, b7, b8, b9, b10⟩ := cells11 (box_cells HX3.out)
        go_wp2_with (fail)
        clear b0 b1 b2 b3 b4 b5 b6 b7 b8 b9 b10
        obtain ⟨rowsS, ownS, hdS, hmS⟩ := HRS.out
        have HDS := Lib.hid hdS
        have HMS := Lib.hid hmS
        have b10 := (cells11 (box_cells HXS.out)).2.2.2.2.2.2.2.2.2.2
        clear hdS hmS
        go_loopw [5, 36] (fun l i wr => ∃ (k : Nat) (rows : List RRow), k ≤ h.log.length ∧ i = .int .i64 k ∧ OwnR 21 recC 38 wr (w.heap.size + 1) l rows ∧ Hid ((∀ r ∈ rows, RecO wr (w.heap.size + 1) r) ∧ rows.map Prod.fst = headL h ++ addsL h.shot.index 0 (h.log.take k)) ∧ Hid (Below (w.heap.size + 1) (w.alloc (.cells (hArr h vn vh vl (.slice a h.log.length cap)) 32)) wr)) (fun _ i _ => h.log.length - (intOf i).toNat)
        case atStart => exact ⟨0, rowsS, Nat.zero_le _, rfl, ownS, Lib.hid ⟨HDS.out, by rw [HMS.out]; simp [addsL]⟩, HXS⟩
        case round =>
          obtain ⟨k, rows, hk, rfl, hown, HD, HX⟩ := hrel
          by_cases hlt2 : k < h.log.length
          · have hlt3 : k < rows0.length := by have := HRL.out; omega
            obtain ⟨b, off, rfl, hlt, hc⟩ := Ld.rows_open hlt3 HRC.out
            have hbw := box_below HX.out
            have hce := fun j u hu => (hbw.cell (p := ⟨b, off + (k * 9 + j), none⟩) hlt).trans (hc k _ (Ld.rgetD hlt3) j u hu)
            have hq := HGET.out k hlt3
            have hes := HES.out _ (List.getElem_mem hlt3)
            have HSL := Lib.hid (hes.1.below hbw (Nat.le_refl _))
            have HW := Lib.hid hes.2
            have HOWN := Lib.hid hown
            clear hc hbw hes hown
            generalize rows0[k] = r at *
            obtain ⟨x, vr⟩ := r
            simp only [] at hq HSL HW
            have HG := Lib.hid hq
            have hfx := HF.out.2.2 x (List.mem_of_getElem? hq)
            obtain ⟨ar, cr, hvr, -⟩ := id HSL.out
            subst hvr
            obtain ⟨e0, e1, e2, e3, e4, e5, e6, e7, e8⟩ := ent_cells hce
            have hrlen : rows.length ≤ h.log.length + 2 := by
              have q1 := congrArg List.length HD.out.2
              have q2 := headL_len h
              rw [List.length_map, List.length_append, addsL_len, List.length_take] at q1
              omega
            have hkz : (k : Int) < (h.log.length : Int) := by omega
            have hlast : h.shot.index + h.log.length ≤ 4611686018427387904 := HOK.out.2.2.2.1
            have hx0 := Ld.u64_nonneg HWF.out.2.2.2.1
            have hu1 : IntKind.u64.wrap (k : Int) = (k : Int) := by
              unfold IntKind.wrap
              simp [IntKind.signed, IntKind.bits]
              omega
            have hu2 : IntKind.u64.wrap (h.shot.index + (k : Int)) = h.shot.index + (k : Int) := by
              unfold IntKind.wrap
              simp [IntKind.signed, IntKind.bits]
              omega
            have hu3 : IntKind.u64.wrap (h.shot.index + (k : Int) + 1) = h.shot.index + (k : Int) + 1 := by
              unfold IntKind.wrap
              simp [IntKind.signed, IntKind.bits]
              omega
            have hx4 : Below (w.heap.size + 1) (w.alloc (.cells (hArr h vn vh vl (.slice (some ⟨b, off, none⟩) h.log.length cap)) 32)) (wr.alloc (.cells (entC (x, .slice ar x.cmd.nodes.length cr)).toArray 36)) := HX.out.alloc (by have := HX.out.size; simpa using this) _
            have HSR : Hid (w.heap.size + 1 ≤ wr.heap.size) := Lib.hid (by have := HX.out.size; simpa using this)
            have HX4 := Lib.hid hx4
            have b3 := (cells11 (box_cells hx4)).2.2.2.1
            have hrow0 : (wr.alloc (.cells (entC (x, .slice ar x.cmd.nodes.length cr)).toArray 36)).heap[wr.heap.size]? = some (.cells (entC (x, .slice ar x.cmd.nodes.length cr)).toArray 36 (0, 0)) := heap_alloc_new _ _
            obtain ⟨-, x0, x1, x2, x3, x4, x5, x6, x7, x8⟩ := es_mk hrow0
            have HROW := Lib.hid hrow0
            clear hce hq hx4 hrow0
            have hb0 : Below wr.heap.size wr (wr.alloc (.cells (entC (x, .slice ar x.cmd.nodes.length cr)).toArray 36)) := (Below.refl _ _).alloc (Nat.le_refl _) _
            have HB0 := Lib.hid hb0
            have HIX : Hid ((Lit.int .u64 (h.shot.index + (k : Int) + 1)).wf = true) := Lib.hid (WalkArith.wf_u64 (by omega))
            have HIR : Hid (IsRec (wr.alloc (.cells (entC (x, .slice ar x.cmd.nodes.length cr)).toArray 36)) (.agg (rArr (addR (h.shot.index + (k : Int) + 1) x) (.slice ar x.cmd.nodes.length cr) (.slice none 0 0) (.slice none 0 0) (.slice none 0 0))) (addR (h.shot.index + (k : Int) + 1) x)) := Lib.hid ⟨_, _, _, _, rfl, ⟨HSL.out.below hb0 (Nat.le_refl _), Cm.sl_nil _ _, SlR.nil _, SlR.nil _⟩, addR_wf HIX.out HW.out⟩
            have HFR : Hid (IsRec.fits (addR (h.shot.index + (k : Int) + 1) x)) := Lib.hid ⟨hfx, ⟨by simp [addR, zShoV], by simp [addR, zShoV], by simp [addR, zShoV]⟩⟩
            clear hb0
            go_wp2_with fail
            refine (copyrec_any (addR (h.shot.index + (k : Int) + 1) x) _ _ HIR.out HFR.out).mono ?_
            rintro e w6 ⟨a6, c6, a7, c7, a8, c8, a9, c9, rfl, ro6, hb6⟩
            have HB6 := Lib.hid (HB0.out.trans (hb6.mono HB0.out.size))
            have HO6 := Lib.hid ro6
            clear hb6 ro6 x0 x1 x2 x3 x4 x5 x6 x7 x8 b3 e0 e1 e2 e3 e4 e5 e6 e7 e8
            go_wp2_with (at_builtin; refine appRL recC_len Try.underlying48 rfl (by decide) info_rec rfl _ _ rfl (w.heap.size + 1) _ rows rfl ?ownR3 _ [(addR (h.shot.index + (k : Int) + 1) x, .slice a6 (addR (h.shot.index + (k : Int) + 1) x).ent.cmd.nodes.length c6, .slice a7 (addR (h.shot.index + (k : Int) + 1) x).shot.nodes.length c7, .slice a8 (addR (h.shot.index + (k : Int) + 1) x).shot.led.held.length c8, .slice a9 (addR (h.shot.index + (k : Int) + 1) x).shot.led.last.length c9)] rfl ?slR3 ?oneR3 ?lenR3 ?memR3 ?baseR3 ?nextR3)
            case ownR3 => exact (HOWN.out.below HB6.out (Nat.le_refl _)).alloc _
            case slR3 => exact SlR.one recC_len _ w6.heap.size rfl _ _ rfl
            case oneR3 => exact rec_one _ _ _ _ _ _ _ _ _ _ _ _ _
            case lenR3 => (unfold maxLen; simp; omega)
            case memR3 => (simp; omega)
            case baseR3 => (have := HSR.out; have := HB6.out.size; simp; omega)
            intro v7 w7 own7 hg7
            have hbl : Below wr.heap.size wr (w6.alloc (.cells (recC (addR (h.shot.index + (k : Int) + 1) x, .slice a6 (addR (h.shot.index + (k : Int) + 1) x).ent.cmd.nodes.length c6, .slice a7 (addR (h.shot.index + (k : Int) + 1) x).shot.nodes.length c7, .slice a8 (addR (h.shot.index + (k : Int) + 1) x).shot.led.held.length c8, .slice a9 (addR (h.shot.index + (k : Int) + 1) x).shot.led.last.length c9)).toArray 38)) := HB6.out.alloc HB6.out.size _
            have hstep := rows_step ((HOWN.out.below HB6.out (Nat.le_refl _)).alloc (.cells (recC (addR (h.shot.index + (k : Int) + 1) x, .slice a6 (addR (h.shot.index + (k : Int) + 1) x).ent.cmd.nodes.length c6, .slice a7 (addR (h.shot.index + (k : Int) + 1) x).shot.nodes.length c7, .slice a8 (addR (h.shot.index + (k : Int) + 1) x).shot.led.held.length c8, .slice a9 (addR (h.shot.index + (k : Int) + 1) x).shot.led.last.length c9)).toArray 38)) (fun r hr => (HD.out.1 r hr).map fun e sz u n xs _ q => (owns_below HB6.out q).alloc _) (x := (addR (h.shot.index + (k : Int) + 1) x, .slice a6 (addR (h.shot.index + (k : Int) + 1) x).ent.cmd.nodes.length c6, .slice a7 (addR (h.shot.index + (k : Int) + 1) x).shot.nodes.length c7, .slice a8 (addR (h.shot.index + (k : Int) + 1) x).shot.led.held.length c8, .slice a9 (addR (h.shot.index + (k : Int) + 1) x).shot.led.last.length c9)) (HO6.out.map fun e sz u n xs _ q => (owns_lower (by have := HSR.out; simp; omega) q).alloc _) hg7 own7
            obtain ⟨rows7, own8, rec7, map7⟩ := hstep
            have HX7 := Lib.hid (Below.own (HX.out.trans (hbl.mono HSR.out)) (Nat.le_trans HSR.out hbl.size) ((HOWN.out.below HB6.out (Nat.le_refl _)).alloc (.cells (recC (addR (h.shot.index + (k : Int) + 1) x, .slice a6 (addR (h.shot.index + (k : Int) + 1) x).ent.cmd.nodes.length c6, .slice a7 (addR (h.shot.index + (k : Int) + 1) x).shot.nodes.length c7, .slice a8 (addR (h.shot.index + (k : Int) + 1) x).shot.led.held.length c8, .slice a9 (addR (h.shot.index + (k : Int) + 1) x).shot.led.last.length c9)).toArray 38)) hg7)
            have HM7 : Hid (rows7.map Prod.fst = headL h ++ addsL h.shot.index 0 (h.log.take (k + 1))) := Lib.hid (by
              rw [map7, HD.out.2, List.take_add_one, HG.out, List.append_assoc]
              simp only [Option.toList_some]
              rw [addsL_snoc, List.length_take, Nat.zero_add, Nat.min_eq_left hk])
            have HR7 := Lib.hid rec7
            have HW7 := Lib.hid own8
            clear hbl rec7 map7 own7 own8 hg7
            go_wp2
            go_roundw
            case rel => exact ⟨k + 1, rows7, by omega, by go_num, HW7.out, Lib.hid ⟨HR7.out, HM7.out⟩, Lib.hid HX7.out⟩
            case measure => simp [intOf]; omega
          · obtain rfl : k = h.log.length := by omega
            have HRF : Hid (Rows21 wr (w.heap.size + 1) _ (baseL h)) := Lib.hid ⟨rows, hown, HD.out.1, by rw [HD.out.2, List.take_length]; rfl⟩
            have HBF := Lib.hid (box_below HX.out)
            have HOK2 := Lib.hid HOK.out
            clear hown HD HX
            go_wp2
            go_ret2
            exact ⟨_, 0, _, rfl, .inl ⟨rfl, HOK2.out, rfl⟩, HRF.out.recs, HBF.out⟩
  · have HB := Lib.hid (box_below HX1.out)
    have HNO := Lib.hid hno
    clear hno
    go_wp2
    go_ret2
    exact ⟨_, 130, _, rfl, .inr ⟨rfl, HNO.out, rfl⟩, IsRecs.nil _, HB.out⟩
end Rc
end Go.Proofs.Ytgadbghlcejkfaa
