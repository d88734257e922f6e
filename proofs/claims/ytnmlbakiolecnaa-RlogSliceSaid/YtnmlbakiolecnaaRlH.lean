/- rlog's Slice. No condition but the bounds of what may last. -/
import Derived.Test.YtnmlbakiolecnaaRlA
import Derived.Test.YtnmlbakiolecnaaVcC
namespace Go.Proofs.Ytnmlbakiolecnaa
open Go.ChangeShapes Go.WideShapes Go.ChangeAt Go.RowKit
set_option linter.unusedVariables false
set_option maxRecDepth 100000
theorem IsLog.sub {w : World} {b off cap : Nat} {log : List Ent} (h : IsLog w (.slice (some ⟨b, off, none⟩) log.length cap) log) (j m : Nat) (hm : j + m ≤ log.length) :
    IsLog w (.slice (some ⟨b, off + j * 9, none⟩) m (cap - j)) ((log.drop j).take m) := by
  obtain ⟨rows, ⟨a', cap', e, h1, h2, h4⟩, he, rfl⟩ := h
  rw [List.length_map] at hm e
  simp only [Value.slice.injEq] at e
  obtain ⟨rfl, -, rfl⟩ := e
  have hl : ((rows.drop j).take m).length = m := by rw [List.length_take, List.length_drop]; omega
  refine ⟨(rows.drop j).take m, ⟨_, cap - j, by rw [hl], by omega, by omega, .inr ⟨b, off + j * 9, none, rfl, ?_⟩⟩, fun r hr => he r (List.mem_of_mem_drop (List.mem_of_mem_take hr)), by rw [List.map_take, List.map_drop]⟩
  rcases h4 with ⟨h5, _⟩ | ⟨b1, off1, sp1, h5, h6⟩
  · cases h5
  · simp only [Option.some.injEq, Addr.mk.injEq] at h5
    obtain ⟨rfl, rfl, rfl⟩ := h5
    rcases h6 with rfl | ⟨-, hlt, hc⟩
    · exact .inl (by simp)
    · refine .inr ⟨rfl, hlt, fun i x hx q u hu => ?_⟩
      rw [List.getElem?_take] at hx
      split at hx
      · rw [List.getElem?_drop] at hx
        have := hc (j + i) x hx q u hu
        rw [show off + j * 9 + (i * 9 + q) = off + ((j + i) * 9 + q) by omega]
        exact this
      · cases hx
namespace Rl
open Hd
open Classical in
noncomputable def sliceV (h : Har) (i m : Int) : List Ent := if hardOk h ∧ (h.shot.index < i ∧ i ≤ lastI h) ∧ 1 ≤ m then (h.log.drop ((i - h.shot.index).toNat - 1)).take m.toNat else []
theorem sliceV_yes {h : Har} {i m : Int} (ok : hardOk h) (h1 : h.shot.index < i ∧ i ≤ lastI h) (h2 : 1 ≤ m) : sliceV h i m = (h.log.drop ((i - h.shot.index).toNat - 1)).take m.toNat := by unfold sliceV; rw [if_pos ⟨ok, h1, h2⟩]
theorem sliceV_no {h : Har} {i m : Int} (ok : ¬ (hardOk h ∧ (h.shot.index < i ∧ i ≤ lastI h) ∧ 1 ≤ m)) : sliceV h i m = [] := by unfold sliceV; rw [if_neg ok]
set_option maxHeartbeats 4000000 in
theorem slice_any (h : Har) (v : Value) (i m : Int) (w : World) (hh : IsHard w v h) (hft : IsHard.fits h) (hi0 : 0 ≤ i) (hi1 : i ≤ 18446744073709551615) (hm0 : -9223372036854775808 ≤ m) (hm1 : m ≤ 9223372036854775807) : Calls Try.prog 34 #[v, .int .u64 i, .int .i64 m] w (GivesLogO (sliceV h i m) w) := by
  obtain ⟨vn, vh, vl, vg, rfl, -, -, -, hg, -⟩ := id hh
  obtain ⟨a, cap, rfl, hlc, hcm⟩ := IsLog.len hg
  have hb0 : Below w.heap.size w (w.alloc (.cells (hArr h vn vh vl (.slice a h.log.length cap)) 32)) := (Below.refl _ _).alloc (Nat.le_refl _) _
  have HH := Lib.hid (hh.below hb0 (Nat.le_refl _))
  have HG := Lib.hid (hg.below hb0 (Nat.le_refl _))
  have HWF := Lib.hid (IsHard.wf hh)
  have HFT := Lib.hid hft
  have hr : Below (w.heap.size + 1) (w.alloc (.cells (hArr h vn vh vl (.slice a h.log.length cap)) 32)) (w.alloc (.cells (hArr h vn vh vl (.slice a h.log.length cap)) 32)) := Below.refl _ _
  have HR := Lib.hid hr
  have HSA : Hid (h.log.length = 0 ∨ ∃ b off, a = some ⟨b, off, none⟩) := Lib.hid (by
    obtain ⟨rows, a', cap', hv, hrl, -, -, hrc, -, -⟩ := log_rows hg
    simp only [Value.slice.injEq] at hv
    obtain ⟨rfl, -, rfl⟩ := hv
    rcases Nat.eq_zero_or_pos h.log.length with q | q
    · exact .inl q
    · obtain ⟨b, off, e, -⟩ := Ld.rows_open (k := 0) (by omega) hrc
      exact .inr ⟨b, off, e⟩)
  obtain ⟨b0, b1, b2, b3, b4, b5, b6, b7, b8, b9, b10⟩ := cells11 (box_cells hr)
  clear hh hg hb0 hr hft
  go_enter Try.func34, Try.ntmps34
  go_wp2_with fail
  refine (valid_any h _ _ HH.out).mono ?_
  rintro e w1 ⟨t1, rfl, ht1, hb1⟩
  have hx : Below (w.heap.size + 1) (w.alloc (.cells (hArr h vn vh vl (.slice a h.log.length cap)) 32)) w1 := HR.out.trans (hb1.mono (by simp))
  have HX1 := Lib.hid hx
  have HB1 := Lib.hid (box_below hx)
  have HH1 := Lib.hid (HH.out.below hb1 (Nat.le_refl _))
  have HG1 := Lib.hid (HG.out.below hb1 (Nat.le_refl _))
  clear b0 b1 b2 b3 b4 b5 b6 b7 b8 b9 b10
  obtain ⟨b0, b1, b2, b3, b4, b5, b6, b7, b8, b9, b10⟩ := cells11 (box_cells hx)
  clear hb1 hx
  cases t1 with
  | false =>
    have HE : Hid (sliceV h i m = []) := Lib.hid (sliceV_no fun q => by cases ht1.2 q.1)
    clear ht1
    go_wp2
    go_ret
    exact ⟨_, [], rfl, OwnR.nil _ _ _, fun r hr => by simp at hr, by rw [HE.out]; rfl, HB1.out⟩
  | true =>
    have hok := ht1.1 rfl
    have HOK := Lib.hid hok
    have HF := Lib.hid (fit_of HWF.out hok)
    clear ht1 hok
    go_wp2_with fail
    refine (has_any h _ i _ HH1.out HF.out hi0 hi1).mono ?_
    rintro e w2 ⟨rfl, hb2⟩
    have hx : Below (w.heap.size + 1) (w.alloc (.cells (hArr h vn vh vl (.slice a h.log.length cap)) 32)) w2 := HX1.out.trans (hb2.mono (by have := HX1.out.size; simpa using this))
    have HX2 := Lib.hid hx
    have HB2 := Lib.hid (box_below hx)
    have HG2 := Lib.hid (HG1.out.below hb2 (Nat.le_refl _))
    clear b0 b1 b2 b3 b4 b5 b6 b7 b8 b9 b10
    obtain ⟨b0, b1, b2, b3, b4, b5, b6, b7, b8, b9, b10⟩ := cells11 (box_cells hx)
    clear hb2 hx
    cases c1 : hasB h i with
    | false =>
      have HE : Hid (sliceV h i m = []) := Lib.hid (sliceV_no fun q => of_decide_eq_false c1 q.2.1)
      clear c1
      go_wp2
      go_ret
      exact ⟨_, [], rfl, OwnR.nil _ _ _, fun r hr => by simp at hr, by rw [HE.out]; rfl, HB2.out⟩
    | true =>
      have hl := of_decide_eq_true c1
      have HL := Lib.hid hl
      by_cases c2 : m < 1
      · have HE : Hid (sliceV h i m = []) := Lib.hid (sliceV_no fun q => by have := q.2.2; omega)
        clear c1 hl
        go_wp2
        go_ret
        exact ⟨_, [], rfl, OwnR.nil _ _ _, fun r hr => by simp at hr, by rw [HE.out]; rfl, HB2.out⟩
      · have HE : Hid (sliceV h i m = (h.log.drop ((i - h.shot.index).toNat - 1)).take m.toNat) := Lib.hid (sliceV_yes HOK.out hl (by omega))
        obtain ⟨hs0, hs1⟩ := HF.out
        obtain ⟨hl0, hl1⟩ := hl
        unfold lastI at hl1
        obtain ⟨b, off, rfl⟩ : ∃ b off, a = some ⟨b, off, none⟩ := by
          rcases HSA.out with q | q
          · omega
          · exact q
        obtain ⟨j, hj⟩ : ∃ j : Nat, i = h.shot.index + j + 1 := ⟨(i - h.shot.index).toNat - 1, by omega⟩
        subst hj
        have e1 : (h.shot.index + (j : Int) + 1 - h.shot.index).toNat - 1 = j := by omega
        have e2 : h.shot.index + (j : Int) + 1 - h.shot.index = (j : Int) + 1 := by omega
        have e3 : (j : Int) + 1 - 1 = (j : Int) := by omega
        have hj1 : j < h.log.length := by omega
        have hj2 : (j : Int) ≤ (h.log.length : Int) := by omega
        clear c1
        have c2' : 1 ≤ m := by omega
        by_cases c3 : (h.log.length : Int) - (j : Int) < m
        · go_wp2_with fail
          have hsub := HG2.out.sub j (h.log.length - j) (by omega)
          have hK : Hid ((h.log.drop j).take (h.log.length - j) = sliceV h (h.shot.index + (j : Int) + 1) m) := Lib.hid (by
            rw [HE.out, e1]
            rw [List.take_of_length_le (by rw [List.length_drop]; exact Nat.le_refl _), List.take_of_length_le (by rw [List.length_drop]; omega)])
          have hf1 : ((h.log.drop j).take (h.log.length - j)).length * 88 ≤ 140737488351232 := by
            have := HFT.out.2.1
            rw [List.length_take, List.length_drop]
            omega
          refine (Vc.entries_own ((h.log.drop j).take (h.log.length - j)) _ _ hsub hf1 (fun x hx => HFT.out.2.2 x (List.mem_of_mem_drop (List.mem_of_mem_take hx)))).mono ?_
          rintro e w3 ⟨v3, rows, rfl, o1, o2, hmap, hb3⟩
          have HO1 := Lib.hid (o1.lower HB2.out.size)
          have HO2 : Hid (EntsO w3 w.heap.size v3.ownBlock rows) := Lib.hid (fun r hr => ⟨(o2 r hr).1.lower HB2.out.size, (o2 r hr).2⟩)
          have HM := Lib.hid (hmap.trans hK.out)
          have HB3 := Lib.hid (HB2.out.trans (hb3.mono HB2.out.size))
          clear o1 o2 hmap hb3 hsub
          go_wp2
          go_ret
          exact ⟨_, rows, rfl, HO1.out, HO2.out, HM.out, HB3.out⟩
        · go_wp2_with fail
          have hsub := HG2.out.sub j (m.toNat) (by omega)
          have hK : Hid ((h.log.drop j).take (m.toNat) = sliceV h (h.shot.index + (j : Int) + 1) m) := Lib.hid (by
            rw [HE.out, e1])
          have hf1 : ((h.log.drop j).take (m.toNat)).length * 88 ≤ 140737488351232 := by
            have := HFT.out.2.1
            rw [List.length_take, List.length_drop]
            omega
          refine (Vc.entries_own ((h.log.drop j).take (m.toNat)) _ _ hsub hf1 (fun x hx => HFT.out.2.2 x (List.mem_of_mem_drop (List.mem_of_mem_take hx)))).mono ?_
          rintro e w3 ⟨v3, rows, rfl, o1, o2, hmap, hb3⟩
          have HO1 := Lib.hid (o1.lower HB2.out.size)
          have HO2 : Hid (EntsO w3 w.heap.size v3.ownBlock rows) := Lib.hid (fun r hr => ⟨(o2 r hr).1.lower HB2.out.size, (o2 r hr).2⟩)
          have HM := Lib.hid (hmap.trans hK.out)
          have HB3 := Lib.hid (HB2.out.trans (hb3.mono HB2.out.size))
          clear o1 o2 hmap hb3 hsub
          go_wp2
          go_ret
          exact ⟨_, rows, rfl, HO1.out, HO2.out, HM.out, HB3.out⟩
end Rl
end Go.Proofs.Ytnmlbakiolecnaa
