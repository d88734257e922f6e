/- The document's Slice, walked. No condition but the bounds of what may last. -/
import Derived.Test.YtnmlbakiolecnaaRlI
namespace Go.Proofs.Ytnmlbakiolecnaa
open Go.ChangeShapes Go.WideShapes Go.ChangeAt Go.RowKit
set_option linter.unusedVariables false
set_option maxRecDepth 100000
namespace Rl
open Hd
theorem out_mem {h : Har} {i m : Int} : ∀ k, ∀ x ∈ outV h i m k, x ∈ h.log
  | 0, x, hx => by simp [outV] at hx
  | k + 1, x, hx => by
    cases hy : h.log[k]? with
    | none => rw [outV, hy] at hx; exact out_mem k x hx
    | some y =>
      by_cases c : inP h i m (outV h i m k).length k
      · rw [out_yes hy c] at hx
        rcases List.mem_append.1 hx with q | q
        · exact out_mem k x q
        · simp only [List.mem_cons, List.not_mem_nil, or_false] at q
          subst q; exact List.mem_of_getElem? hy
      · rw [out_no hy c] at hx; exact out_mem k x hx
set_option maxHeartbeats 4000000 in
theorem rslice_any (h : Har) (v : Value) (i m : Int) (w : World) (hh : IsHard w v h) (hft : IsHard.fits h) (hi0 : 0 ≤ i) (hi1 : i ≤ 18446744073709551615) (hm0 : -9223372036854775808 ≤ m) (hm1 : m ≤ 9223372036854775807) : Calls Try.prog 36 #[v, .int .u64 i, .int .i64 m] w (GivesLogO (sliceV h i m) w) := by
  obtain ⟨vn, vh, vl, vg, rfl, -, -, -, hg, -⟩ := id hh
  obtain ⟨a, cap, rfl, hlc, hcm⟩ := IsLog.len hg
  have hb0 : Below w.heap.size w (w.alloc (.cells (hArr h vn vh vl (.slice a h.log.length cap)) 32)) := (Below.refl _ _).alloc (Nat.le_refl _) _
  have HH := Lib.hid (hh.below hb0 (Nat.le_refl _))
  have HWF := Lib.hid (IsHard.wf hh)
  have HFT := Lib.hid hft
  have hr : Below (w.heap.size + 1) (w.alloc (.cells (hArr h vn vh vl (.slice a h.log.length cap)) 32)) (w.alloc (.cells (hArr h vn vh vl (.slice a h.log.length cap)) 32)) := Below.refl _ _
  have HR := Lib.hid hr
  obtain ⟨rows, a', cap', hv, hrl, -, -, hrc, hents, hget⟩ := log_rows hg
  simp only [Value.slice.injEq] at hv
  obtain ⟨rfl, -, rfl⟩ := hv
  have HRC := Lib.hid hrc
  have HENT := Lib.hid hents
  have HGET := Lib.hid hget
  obtain ⟨b0, b1, b2, b3, b4, b5, b6, b7, b8, b9, b10⟩ := cells11 (box_cells hr)
  clear hh hg hb0 hr hft hrc hents hget
  go_enter Try.func36, Try.ntmps36
  go_wp2
  go_loopw [7, 13] (fun out ix wr => ∃ (k : Nat) (rs : List ERow) (vo : Value), k ≤ h.log.length ∧ ix = .int .i64 k ∧ vo = out ∧ OwnR 9 entC 41 wr (w.heap.size + 1) vo rs ∧ Ents w rs ∧ Hid (outV h i m k = rs.map Prod.fst) ∧ Below (w.heap.size + 1) (w.alloc (.cells (hArr h vn vh vl (.slice a h.log.length cap)) 32)) wr) (fun _ ix _ => h.log.length - (intOf ix).toNat)
  case atStart => exact ⟨0, [], _, Nat.zero_le _, rfl, rfl, OwnR.nil _ _ _, fun r hr => by simp at hr, Lib.hid rfl, HR.out⟩
  case round =>
    clear b0 b1 b2 b3 b4 b5 b6 b7 b8 b9 b10
    obtain ⟨k, rs, vo, hk, rfl, rfl, hown, henr, HP, hb⟩ := hrel
    obtain ⟨b0, b1, b2, b3, b4, b5, b6, b7, b8, b9, b10⟩ := cells11 (box_cells hb)
    have HBX := Lib.hid hb
    have HENR := Lib.hid henr
    have HRS : Hid (rs.length ≤ k) := Lib.hid (by have := out_len (h := h) (i := i) (m := m) k; rw [HP.out, List.length_map] at this; exact this)
    by_cases hlt2 : k < h.log.length
    · have hlt3 : k < rows.length := by omega
      obtain ⟨b, off, rfl, hlt, hc⟩ := Ld.rows_open hlt3 HRC.out
      have hce := fun j u hu => ((box_below hb).cell (p := ⟨b, off + (k * 9 + j), none⟩) hlt).trans (hc k _ (Ld.rgetD hlt3) j u hu)
      have hes := HENT.out _ (List.getElem_mem hlt3)
      have hq := HGET.out k hlt3
      have HES := Lib.hid hes
      clear hc hb hes henr
      generalize rows[k] = r at *
      obtain ⟨x, vr⟩ := r
      simp only [] at hq HES
      have HQ := Lib.hid hq
      obtain ⟨ar, cr, hvr, -⟩ := id HES.out.1
      try simp only [] at hvr
      subst hvr
      obtain ⟨e0, e1, e2, e3, e4, e5, e6, e7, e8⟩ := ent_cells hce
      have hkz : (k : Int) < (h.log.length : Int) := by omega
      have hb4 : Below wr.heap.size wr (wr.alloc (.cells (entC (x, .slice ar x.cmd.nodes.length cr)).toArray 41)) := (Below.refl _ _).alloc (Nat.le_refl _) _
      have HX4 := Lib.hid (HBX.out.trans (hb4.mono (by have := HBX.out.size; simpa using this)))
      have HOW4 := Lib.hid (hown.below hb4 (Nat.le_refl _))
      have HROW := Lib.hid (heap_alloc_new wr (.cells (entC (x, .slice ar x.cmd.nodes.length cr)).toArray 41 (0, 0)))
      obtain ⟨ao, co, rfl, hoc1, hoc2, -⟩ := hown.sl entC_len
      unfold maxLen at hoc2
      have d0 : (wr.alloc (.cells #[.int .u64 x.term, .int .i64 x.cmd.kind, .int .i64 x.cmd.node, .int .i64 x.cmd.token, .slice ar x.cmd.nodes.length cr, .int .u64 x.cmd.boot, .int .u64 x.cmd.seq, .int .u64 x.cmd.serial, .int .u64 x.cmd.stamp] 41)).cell? ⟨w.heap.size, 0, none⟩ = some (.int .u64 h.boot) := (cells11 (box_cells HX4.out)).1
      have d1 : (wr.alloc (.cells #[.int .u64 x.term, .int .i64 x.cmd.kind, .int .i64 x.cmd.node, .int .i64 x.cmd.token, .slice ar x.cmd.nodes.length cr, .int .u64 x.cmd.boot, .int .u64 x.cmd.seq, .int .u64 x.cmd.serial, .int .u64 x.cmd.stamp] 41)).cell? ⟨w.heap.size, 1, none⟩ = some (.int .u64 h.term) := (cells11 (box_cells HX4.out)).2.1
      have d2 : (wr.alloc (.cells #[.int .u64 x.term, .int .i64 x.cmd.kind, .int .i64 x.cmd.node, .int .i64 x.cmd.token, .slice ar x.cmd.nodes.length cr, .int .u64 x.cmd.boot, .int .u64 x.cmd.seq, .int .u64 x.cmd.serial, .int .u64 x.cmd.stamp] 41)).cell? ⟨w.heap.size, 2, none⟩ = some (.int .i64 h.vote) := (cells11 (box_cells HX4.out)).2.2.1
      have d3 : (wr.alloc (.cells #[.int .u64 x.term, .int .i64 x.cmd.kind, .int .i64 x.cmd.node, .int .i64 x.cmd.token, .slice ar x.cmd.nodes.length cr, .int .u64 x.cmd.boot, .int .u64 x.cmd.seq, .int .u64 x.cmd.serial, .int .u64 x.cmd.stamp] 41)).cell? ⟨w.heap.size, 3, none⟩ = some (.int .u64 h.shot.index) := (cells11 (box_cells HX4.out)).2.2.2.1
      have d4 : (wr.alloc (.cells #[.int .u64 x.term, .int .i64 x.cmd.kind, .int .i64 x.cmd.node, .int .i64 x.cmd.token, .slice ar x.cmd.nodes.length cr, .int .u64 x.cmd.boot, .int .u64 x.cmd.seq, .int .u64 x.cmd.serial, .int .u64 x.cmd.stamp] 41)).cell? ⟨w.heap.size, 4, none⟩ = some (.int .u64 h.shot.term) := (cells11 (box_cells HX4.out)).2.2.2.2.1
      have d5 : (wr.alloc (.cells #[.int .u64 x.term, .int .i64 x.cmd.kind, .int .i64 x.cmd.node, .int .i64 x.cmd.token, .slice ar x.cmd.nodes.length cr, .int .u64 x.cmd.boot, .int .u64 x.cmd.seq, .int .u64 x.cmd.serial, .int .u64 x.cmd.stamp] 41)).cell? ⟨w.heap.size, 5, none⟩ = some (vn) := (cells11 (box_cells HX4.out)).2.2.2.2.2.1
      have d6 : (wr.alloc (.cells #[.int .u64 x.term, .int .i64 x.cmd.kind, .int .i64 x.cmd.node, .int .i64 x.cmd.token, .slice ar x.cmd.nodes.length cr, .int .u64 x.cmd.boot, .int .u64 x.cmd.seq, .int .u64 x.cmd.serial, .int .u64 x.cmd.stamp] 41)).cell? ⟨w.heap.size, 6, none⟩ = some (.int .i64 h.shot.led.limit) := (cells11 (box_cells HX4.out)).2.2.2.2.2.2.1
      have d7 : (wr.alloc (.cells #[.int .u64 x.term, .int .i64 x.cmd.kind, .int .i64 x.cmd.node, .int .i64 x.cmd.token, .slice ar x.cmd.nodes.length cr, .int .u64 x.cmd.boot, .int .u64 x.cmd.seq, .int .u64 x.cmd.serial, .int .u64 x.cmd.stamp] 41)).cell? ⟨w.heap.size, 7, none⟩ = some (.int .u64 h.shot.led.next) := (cells11 (box_cells HX4.out)).2.2.2.2.2.2.2.1
      have d8 : (wr.alloc (.cells #[.int .u64 x.term, .int .i64 x.cmd.kind, .int .i64 x.cmd.node, .int .i64 x.cmd.token, .slice ar x.cmd.nodes.length cr, .int .u64 x.cmd.boot, .int .u64 x.cmd.seq, .int .u64 x.cmd.serial, .int .u64 x.cmd.stamp] 41)).cell? ⟨w.heap.size, 8, none⟩ = some (vh) := (cells11 (box_cells HX4.out)).2.2.2.2.2.2.2.2.1
      have d9 : (wr.alloc (.cells #[.int .u64 x.term, .int .i64 x.cmd.kind, .int .i64 x.cmd.node, .int .i64 x.cmd.token, .slice ar x.cmd.nodes.length cr, .int .u64 x.cmd.boot, .int .u64 x.cmd.seq, .int .u64 x.cmd.serial, .int .u64 x.cmd.stamp] 41)).cell? ⟨w.heap.size, 9, none⟩ = some (vl) := (cells11 (box_cells HX4.out)).2.2.2.2.2.2.2.2.2.1
      have d10 : (wr.alloc (.cells #[.int .u64 x.term, .int .i64 x.cmd.kind, .int .i64 x.cmd.node, .int .i64 x.cmd.token, .slice ar x.cmd.nodes.length cr, .int .u64 x.cmd.boot, .int .u64 x.cmd.seq, .int .u64 x.cmd.serial, .int .u64 x.cmd.stamp] 41)).cell? ⟨w.heap.size, 10, none⟩ = some (.slice (some ⟨b, off, none⟩) h.log.length cap) := (cells11 (box_cells HX4.out)).2.2.2.2.2.2.2.2.2.2
      clear hce hq hb4 hown
      go_wp2_with fail
      refine (good_any h _ _ (HH.out.below HX4.out (by simp))).mono ?_
      rintro e w5 ⟨t1, rfl, ht1, hb5⟩
      have HX5 := Lib.hid (HX4.out.trans (hb5.mono (by have := HX4.out.size; simpa using this)))
      have HOW5 := Lib.hid (HOW4.out.below hb5 (Nat.le_refl _))
      obtain ⟨f0, f1, f2, f3, f4, f5, f6, f7, f8⟩ := ent9 ((hb5.block wr.heap.size (by simp)).trans HROW.out)
      clear d0 d1 d2 d3 d4 d5 d6 d7 d8 d9 d10 b0 b1 b2 b3 b4 b5 b6 b7 b8 b9 b10 e0 e1 e2 e3 e4 e5 e6 e7 e8 hb5
      obtain ⟨b0, b1, b2, b3, b4, b5, b6, b7, b8, b9, b10⟩ := cells11 (box_cells HX5.out)
      have hrlen : (outV h i m k).length = rs.length := by rw [HP.out, List.length_map]
      have HRL := Lib.hid hrlen
      have hrs := HRS.out
      clear hrlen
      cases t1 with
      | false =>
        have HS := Lib.hid ((out_no (i := i) (m := m) HQ.out (fun q => by cases ht1.2 q.1)).trans HP.out)
        clear ht1
        go_wp2
        go_roundw
        case rel => exact ⟨k + 1, rs, _, by omega, by go_num, rfl, HOW5.out, HENR.out, Lib.hid HS.out, HX5.out⟩
        case measure => simp [intOf]; omega
      | true =>
        have HOK := Lib.hid (ht1.1 rfl)
        obtain ⟨hs0, hs1⟩ := fit_of HWF.out HOK.out
        clear ht1
        by_cases c1 : i ≤ h.shot.index + (k : Int) + 1
        · by_cases c2 : h.shot.index < i
          · by_cases c3 : (rs.length : Int) < m
            · have HS := Lib.hid (out_yes (i := i) (m := m) HQ.out ⟨HOK.out, c1, c2, by rw [HRL.out]; exact c3⟩)
              have HF2 := Lib.hid HFT.out.2.1
              have HZ2 := Lib.hid (box_below HX5.out).size
              have HS6 : Hid (outV h i m (k + 1) = (rs ++ [((x, .slice ar x.cmd.nodes.length cr) : ERow)]).map Prod.fst) := Lib.hid (by rw [HS.out, HP.out, List.map_append]; rfl)
              have HENR6 : Hid (Ents w (rs ++ [((x, .slice ar x.cmd.nodes.length cr) : ERow)])) := Lib.hid (fun r hr => by
                rcases List.mem_append.1 hr with q | q
                · exact HENR.out r q
                · simp only [List.mem_cons, List.not_mem_nil, or_false] at q
                  subst q
                  exact HES.out)
              have hf := HFT.out.2.1
              have hz := HX5.out.size
              simp at hz
              go_wp2_with (at_builtin; refine Vc.appE rfl (.tmp 44) (.tmp 46) rfl (w.heap.size + 1) _ rs rfl (HOW5.out.alloc _) _ [(x, .slice ar x.cmd.nodes.length cr)] rfl (SlR.one entC_len _ _ rfl _ _ rfl) (ent_one _ _ _ _) (by unfold maxLen; simp; omega) (by simp; omega) (by simp; omega) ?_; intro v6 w6 hown6 hb6; have HOW6 := Lib.hid hown6; have HB6 := Lib.hid hb6; clear hown6 hb6)
              have HX6 : Hid (Below (w.heap.size + 1) (w.alloc (.cells (hArr h vn vh vl (.slice (some ⟨b, off, none⟩) h.log.length cap)) 32)) w6) := Lib.hid (by
                have q1 := HX5.out.alloc (by have := HX5.out.size; simpa using this) (.cells (entC (x, .slice ar x.cmd.nodes.length cr)).toArray 41)
                exact q1.trans HB6.out)
              go_roundw
              case rel => exact ⟨k + 1, rs ++ [(x, .slice ar x.cmd.nodes.length cr)], _, by omega, by go_num, rfl, HOW6.out, HENR6.out, Lib.hid HS6.out, HX6.out⟩
              case measure => simp [intOf]; omega
            · have HS := Lib.hid ((out_no (i := i) (m := m) HQ.out (fun q => c3 (by have := q.2.2.2; rw [HRL.out] at this; exact this))).trans HP.out)
              go_wp2
              go_roundw
              case rel => exact ⟨k + 1, rs, _, by omega, by go_num, rfl, HOW5.out, HENR.out, Lib.hid HS.out, HX5.out⟩
              case measure => simp [intOf]; omega
          · have HS := Lib.hid ((out_no (i := i) (m := m) HQ.out (fun q => c2 q.2.2.1)).trans HP.out)
            go_wp2
            go_roundw
            case rel => exact ⟨k + 1, rs, _, by omega, by go_num, rfl, HOW5.out, HENR.out, Lib.hid HS.out, HX5.out⟩
            case measure => simp [intOf]; omega
        · have HS := Lib.hid ((out_no (i := i) (m := m) HQ.out (fun q => c1 q.2.1)).trans HP.out)
          go_wp2
          go_roundw
          case rel => exact ⟨k + 1, rs, _, by omega, by go_num, rfl, HOW5.out, HENR.out, Lib.hid HS.out, HX5.out⟩
          case measure => simp [intOf]; omega
    · obtain rfl : k = h.log.length := by omega
      have HI : Hid (IsLog wr vo (rs.map Prod.fst)) := Lib.hid ⟨rs, hown.sl entC_len, henr.below (box_below hb) (Nat.le_refl _), rfl⟩
      have hf1 : (rs.map Prod.fst).length * 88 ≤ 140737488351232 := by have := HFT.out.2.1; have := HRS.out; rw [List.length_map]; omega
      have hf2 : ∀ y ∈ rs.map Prod.fst, IsCmd.fits y.cmd := fun y hy => HFT.out.2.2 y (out_mem (i := i) (m := m) h.log.length y (by rw [HP.out]; exact hy))
      have HB := Lib.hid (box_below hb)
      have HE : Hid (rs.map Prod.fst = sliceV h i m) := Lib.hid (HP.out.symm.trans (out_slice (Ld.u64_nonneg HWF.out.2.2.2.1)))
      clear hown hb henr
      go_wp2_with fail
      refine (ents_own (rs.map Prod.fst) _ _ HI.out hf1 hf2).mono ?_
      rintro e w3 ⟨v3, rows3, rfl, o1, o2, hmap, hb3⟩
      have HO1 := Lib.hid (o1.lower HB.out.size)
      have HO2 : Hid (EntsO w3 w.heap.size v3.ownBlock rows3) := Lib.hid (fun r hr => ⟨(o2 r hr).1.lower HB.out.size, (o2 r hr).2⟩)
      have HM := Lib.hid (hmap.trans HE.out)
      have HB3 := Lib.hid (HB.out.trans (hb3.mono HB.out.size))
      clear o1 o2 hmap hb3
      go_wp2
      go_ret
      exact ⟨_, rows3, rfl, HO1.out, HO2.out, HM.out, HB3.out⟩
end Rl
end Go.Proofs.Ytnmlbakiolecnaa
