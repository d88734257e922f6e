/- What Merge answers: rlog.Merge. No condition but the bounds of what may last. -/
import Derived.Test.YtlkgmjhejocobaaMgC
import Derived.Deep.RegionLaw
namespace Go.Proofs.Ytlkgmjhejocobaa
open Go.ChangeShapes Go.WideShapes Go.ChangeAt Go.RowKit Go.Deep
set_option linter.unusedVariables false
set_option maxRecDepth 100000
namespace Mg
open Hd Rc Rl Nv Vc
open Classical in
noncomputable def tailV (h : Har) (o : Nat) (c : Int) (l : List Ent) : Int × List RecR := match partV h o c l l.length with | none => (3, []) | some out => if stepsOk h out then (1, out) else (3, [])
open Classical in
noncomputable def mergeV (h : Har) (i t c : Int) (l : List Ent) : Int × List RecR := if hardOk h then (if i < h.shot.index then tailV h 0 c (l.drop (h.shot.index - i).toNat) else if termP h i = (t, true) then tailV h (i - h.shot.index).toNat c l else (2, [])) else (3, [])
theorem tail_none {h : Har} {o : Nat} {c : Int} {l : List Ent} (hp : partV h o c l l.length = none) : tailV h o c l = (3, []) := by
  unfold tailV
  rw [hp]
theorem tail_yes {h : Har} {o : Nat} {c : Int} {l : List Ent} {out : List RecR} (hp : partV h o c l l.length = some out) (hs : stepsOk h out) : tailV h o c l = (1, out) := by
  unfold tailV
  rw [hp]
  exact if_pos hs
theorem tail_no {h : Har} {o : Nat} {c : Int} {l : List Ent} {out : List RecR} (hp : partV h o c l l.length = some out) (hs : ¬ stepsOk h out) : tailV h o c l = (3, []) := by
  unfold tailV
  rw [hp]
  exact if_neg hs
theorem merge_bad {h : Har} (hn : ¬ hardOk h) (i t c : Int) (l : List Ent) : mergeV h i t c l = (3, []) := by unfold mergeV; rw [if_neg hn]
theorem merge_low {h : Har} (ok : hardOk h) {i t c : Int} {l : List Ent} (hi : i < h.shot.index) : mergeV h i t c l = tailV h 0 c (l.drop (h.shot.index - i).toNat) := by unfold mergeV; rw [if_pos ok, if_pos hi]
theorem merge_at {h : Har} (ok : hardOk h) {i t c : Int} {l : List Ent} (hi : ¬ i < h.shot.index) (ht : termP h i = (t, true)) : mergeV h i t c l = tailV h (i - h.shot.index).toNat c l := by unfold mergeV; rw [if_pos ok, if_neg hi, if_pos ht]
theorem merge_lacks {h : Har} (ok : hardOk h) {i t c : Int} {l : List Ent} (hi : ¬ i < h.shot.index) (ht : termP h i ≠ (t, true)) : mergeV h i t c l = (2, []) := by unfold mergeV; rw [if_pos ok, if_neg hi, if_neg ht]
theorem adds_mem : ∀ (p : Int) (l : List Ent) (r : RecR), r ∈ adds p l → ∃ q x, x ∈ l ∧ r = addR q x
  | _, [], r, h => by simp [adds] at h
  | p, x :: l, r, h => by
    simp only [adds, List.mem_cons] at h
    rcases h with rfl | h
    · exact ⟨p, x, by simp, rfl⟩
    · obtain ⟨q, y, h1, h2⟩ := adds_mem (p + 1) l r h
      exact ⟨q, y, by simp [h1], h2⟩
theorem part_out {h : Har} {o k : Nat} {c : Int} {l : List Ent} {out : List RecR} (hp : partV h o c l k = some out) (hf : ∀ x ∈ l, IsCmd.fits x.cmd) : out.length ≤ l.length + 1 ∧ IsRecs.fits out := by
  have hz : IsShot.fits zShoV := ⟨by simp [zShoV], by simp [zShoV], by simp [zShoV]⟩
  unfold partV at hp
  split at hp
  · obtain rfl := Option.some.inj hp
    exact ⟨Nat.zero_le _, fun r hr => by simp at hr⟩
  · split at hp
    · cases hp
    · obtain rfl := Option.some.inj hp
      constructor
      · rw [List.length_append, adds_len, List.length_take, List.length_drop]
        have : (headV h o (freshN (lgO h o) l)).length ≤ 1 := by unfold headV; split <;> simp
        omega
      · intro r hr
        rcases List.mem_append.1 hr with hr | hr
        · unfold headV at hr
          split at hr
          · simp only [List.mem_cons, List.not_mem_nil, or_false] at hr
            subst hr
            exact ⟨(by decide : (0 : Nat) * 8 ≤ 140737488351232), hz⟩
          · simp at hr
        · obtain ⟨q, x, h1, rfl⟩ := adds_mem _ _ _ hr
          exact ⟨hf x (List.mem_of_mem_drop (List.mem_of_mem_take h1)), hz⟩
/-- an empty piece of a list -/
theorem log_empty (w : World) (ad : Addr) (c : Nat) (hc : c ≤ maxLen) : IsLog w (.slice (some ad) 0 c) [] := ⟨[], ⟨some ad, c, rfl, Nat.zero_le _, hc, .inr ⟨ad.block, ad.off, ad.spot, rfl, .inl rfl⟩⟩, fun r hr => by simp at hr, rfl⟩
theorem log_drop {w : World} {b off cap : Nat} {sp : _} {l : List Ent} {K : Nat} (h : IsLog w (.slice (some ⟨b, off, sp⟩) l.length cap) l) (hK : K ≤ l.length) (hc : cap ≤ maxLen) : IsLog w (.slice (some (Addr.add ⟨b, off, sp⟩ (K * 9))) (l.length - K) (cap - K)) (l.drop K) := by
  by_cases e : K = l.length
  · subst e
    rw [Nat.sub_self, List.drop_eq_nil_of_le (Nat.le_refl _)]
    exact log_empty _ _ _ (Nat.le_trans (Nat.sub_le _ _) hc)
  · obtain rfl : sp = none := by
      obtain ⟨rows, a', cap', e1, hrl, -, -, hrc, -⟩ := log_rows h
      simp only [Value.slice.injEq] at e1
      obtain ⟨rfl, -, rfl⟩ := e1
      rcases hrc with ⟨q, -⟩ | ⟨b2, off2, sp2, q, r⟩
      · cases q
      · simp only [Option.some.injEq, Addr.mk.injEq] at q
        obtain ⟨rfl, rfl, rfl⟩ := q
        rcases r with r | r
        · rw [r] at hrl
          simp at hrl
          omega
        · exact r.1
    have q := h.sub K (l.length - K) (by omega)
    rw [List.take_of_length_le (by rw [List.length_drop]; exact Nat.le_refl _)] at q
    have e2 : Addr.add ⟨b, off, none⟩ (K * 9) = ⟨b, off + K * 9, none⟩ := by
      unfold Addr.add
      split
      · rename_i z; rw [z, Nat.add_zero]
      · rfl
    rw [e2]
    exact q
/-- what Merge answers -/
def Mrg (h : Har) (i t c : Int) (l : List Ent) (w : World) (e : Ending) (w' : World) : Prop := ∃ v, e = .returned (.tuple #[.int .i64 (mergeV h i t c l).1, v]) ∧ IsRecs w' v (mergeV h i t c l).2 ∧ Below w.heap.size w w'
theorem mrg_of {h : Har} {i t c : Int} {l : List Ent} {w w' : World} {n : Int} {v : Value} {out : List RecR} (he : mergeV h i t c l = (n, out)) (hr : IsRecs w' v out) (hb : Below w.heap.size w w') : Mrg h i t c l w (.returned (.tuple #[.int .i64 n, v])) w' := by
  refine ⟨v, ?_, ?_, hb⟩
  · rw [he]
  · rw [he]; exact hr
theorem term_in2 {h : Har} {i : Int} (hin : (termP h i).2 = true) : h.shot.index ≤ i ∧ i ≤ lastI h := by
  unfold termP at hin
  by_cases e : i = h.shot.index
  · unfold lastI
    omega
  · rw [if_neg e] at hin
    by_cases c : h.shot.index < i ∧ i ≤ lastI h
    · omega
    · rw [if_neg c] at hin
      cases hin
set_option maxHeartbeats 8000000 in
theorem merge_any (h : Har) (vv : Value) (i t c : Int) (l : List Ent) (lv : Value) (w : World) (hh : IsHard w vv h) (hf : IsHard.fits h) (hNh : h.log.length ≤ 4294967296) (hl : IsLog w lv l) (hlf : ∀ x ∈ l, IsCmd.fits x.cmd) (hN : l.length ≤ 4294967296) (hi0 : 0 ≤ i) (hi1 : i ≤ 18446744073709551615) (hc0 : 0 ≤ c) (hc1 : c ≤ 18446744073709551615) : Calls Try.prog 35 #[vv, .int .u64 i, .int .u64 t, .int .u64 c, lv] w (Mrg h i t c l w) := by
  obtain ⟨vn, vh, vl, vg, rfl, hn, hhe, hll, hg, hwf⟩ := id hh
  obtain ⟨g1, q1, rfl, -⟩ := id hn
  obtain ⟨g2, q2, rfl, -⟩ := id hhe
  obtain ⟨g3, q3, rfl, -⟩ := id hll
  obtain ⟨g4, q4, rfl, -⟩ := IsLog.len hg
  obtain ⟨rows0, a, cap, rfl, hrl, hlc, hcm, hrc, -, -⟩ := log_rows hl
  have hb0 : Below w.heap.size w (w.alloc (.cells (hArr h (.slice g1 h.shot.nodes.length q1) (.slice g2 h.shot.led.held.length q2) (.slice g3 h.shot.led.last.length q3) (.slice g4 h.log.length q4)) 43)) := (Below.refl _ _).alloc (Nat.le_refl _) _
  have HA0 : Hid ((w.alloc (.cells (hArr h (.slice g1 h.shot.nodes.length q1) (.slice g2 h.shot.led.held.length q2) (.slice g3 h.shot.led.last.length q3) (.slice g4 h.log.length q4)) 43)).heap[w.heap.size]? = some (.cells (hArr h (.slice g1 h.shot.nodes.length q1) (.slice g2 h.shot.led.held.length q2) (.slice g3 h.shot.led.last.length q3) (.slice g4 h.log.length q4)) 43 (0, 0))) := Lib.hid (heap_alloc_new _ _)
  have HB0 := Lib.hid hb0
  have HIH := Lib.hid hh
  have HIL := Lib.hid hl
  have HRC := Lib.hid hrc
  have HRL := Lib.hid hrl
  have HLF := Lib.hid hlf
  have HNL := Lib.hid hN
  have HNH := Lib.hid hNh
  have HF := Lib.hid hf
  have HWF := Lib.hid (IsHard.harW hh).1
  clear hh hn hhe hll hg hwf hrc hl hlf hb0 hrl hN hNh hf
  go_enter Try.func35, Try.ntmps35
  go_wp2_with (first | (with_reducible refine wpList_load_row rfl 43 (.tmp 5) rfl w.heap.size rfl 43 (hArr h (.slice g1 h.shot.nodes.length q1) (.slice g2 h.shot.led.held.length q2) (.slice g3 h.shot.led.last.length q3) (.slice g4 h.log.length q4)) (0, 0) _ HA0.out Try.underlying43 rfl (by kernel_rfl) ?_) | fail)
  refine (valid_any h _ _ (HIH.out.below HB0.out (Nat.le_refl _))).mono ?_
  rintro e w1 ⟨b1, rfl, ht1, hb1⟩
  have HB1 := Lib.hid (HB0.out.trans (hb1.mono HB0.out.size))
  have HA1 := Lib.hid ((hb1.block _ (lt_of_row HA0.out)).trans HA0.out)
  have HI1 := Lib.hid (HIH.out.below HB1.out (Nat.le_refl _))
  have HIL1 := Lib.hid (HIL.out.below HB1.out (Nat.le_refl _))
  clear hb1
  cases b1 with
  | false =>
    have HM := Lib.hid (merge_bad (fun q => by cases ht1.2 q) i t c l)
    clear ht1
    go_wp2_with fail
    go_ret2
    exact mrg_of HM.out (IsRecs.nil _) HB1.out
  | true =>
    have HOK := Lib.hid (ht1.1 rfl)
    have HFT := Lib.hid (fit_of HWF.out HOK.out)
    have hs0 : 0 ≤ h.shot.index := HFT.out.1
    have hs1 : h.shot.index ≤ 4611686018427387904 := by have := HFT.out.2; omega
    have a3 := (cell_of_row w1 _ 3 _ _ _ HA1.out).trans rfl
    clear ht1
    go_upto_if 24 with (fail)
    go_cut [1, 4] (fun s1 s4 wx => ∃ (o : Nat) (l2 : List Ent) (a2 : Option Addr) (c2 : Nat), s1 = .int .u64 (h.shot.index + (o : Int)) ∧ s4 = .slice a2 l2.length c2 ∧ Hid (IsLog wx (.slice a2 l2.length c2) l2 ∧ o ≤ h.log.length ∧ mergeV h i t c l = tailV h o c l2 ∧ l2.length ≤ l.length ∧ ∀ x ∈ l2, x ∈ l) ∧ Hid (wx.heap[w.heap.size]? = some (.cells (hArr h (.slice g1 h.shot.nodes.length q1) (.slice g2 h.shot.led.held.length q2) (.slice g3 h.shot.led.last.length q3) (.slice g4 h.log.length q4)) 43 (0, 0))) ∧ Hid (Below w.heap.size w wx))
    case first =>
      by_cases ci : i < h.shot.index
      · have HCI := Lib.hid ci
        by_cases ck : h.shot.index - i ≤ (l.length : Int)
        · obtain ⟨K, hK⟩ : ∃ K : Nat, h.shot.index - i = (K : Int) := ⟨(h.shot.index - i).toNat, by omega⟩
          have hKl : K ≤ l.length := by omega
          have HMV : Hid (mergeV h i t c l = tailV h 0 c (l.drop K)) := Lib.hid (by rw [merge_low HOK.out HCI.out, show (h.shot.index - i).toNat = K by omega])
          rw [hK] at ck
          rcases HRC.out with ⟨rfl, rfl, hr0⟩ | ⟨b, off, sp, rfl, hr0⟩
          · have hl0 : l = [] := by
              have := HRL.out
              rw [hr0] at this
              exact List.eq_nil_of_length_eq_zero (by simpa using this.symm)
            exfalso
            rw [hl0] at hKl
            have := HCI.out
            simp at hKl
            omega
          · by_cases hc : cap = K
            · have hl0 : l.drop K = [] := List.drop_eq_nil_of_le (by omega)
              subst hc
              have HVL : Hid (IsLog w1 (.slice (some ⟨b, off, sp⟩) 0 0) (l.drop cap) ∧ (l.drop cap).length = 0) := Lib.hid (by
                rw [hl0]
                exact ⟨log_empty _ _ _ (Nat.zero_le _), rfl⟩)
              clear hr0
              go_upto_region 5 with (fail)
              go_cut [1, 4] (fun s1 s4 wx => s1 = .int .u64 h.shot.index ∧ s4 = .slice (some ⟨b, off, sp⟩) 0 0 ∧ wx = w1.drew)
              case first =>
                go_region
                all_goals (go_wp2_with fail; go_meet; refine ⟨rfl, ?_, rfl⟩; first | rfl | simp | (congr 1 <;> omega))
              case rest =>
                obtain ⟨rfl, rfl, rfl⟩ := hcut
                have hbd : Below w1.heap.size w1 w1.drew := (Below.refl _ _).drew
                have HVD : Hid (IsLog w1.drew (.slice (some ⟨b, off, sp⟩) 0 0) (l.drop cap)) := Lib.hid (HVL.out.1.below hbd (Nat.le_refl _))
                have HAD := Lib.hid ((hbd.block _ (lt_of_row HA1.out)).trans HA1.out)
                have HBD := Lib.hid (HB1.out.trans (hbd.mono HB1.out.size))
                clear hbd
                go_wp2_with fail
                go_meet
                exact ⟨0, l.drop cap, (some ⟨b, off, sp⟩), 0, by simp, by rw [HVL.out.2], Lib.hid ⟨by rw [HVL.out.2]; exact HVD.out, Nat.zero_le _, HMV.out, by rw [List.length_drop]; omega, fun x hx => List.mem_of_mem_drop hx⟩, HAD, HBD⟩
            · have hc2 : ((K : Nat) : Int) < (cap : Int) := by omega
              have HVL : Hid (IsLog w1 (.slice (some (Addr.add ⟨b, off, sp⟩ (K * 9))) (l.length - K) (cap - K)) (l.drop K) ∧ (l.drop K).length = (l.length - K)) := Lib.hid (by
                exact ⟨log_drop HIL1.out (by omega) (by unfold maxLen; omega), by rw [List.length_drop]⟩)
              clear hr0
              go_upto_region 5 with (fail)
              go_cut [1, 4] (fun s1 s4 wx => s1 = .int .u64 h.shot.index ∧ s4 = .slice (some (Addr.add ⟨b, off, sp⟩ (K * 9))) (l.length - K) (cap - K) ∧ wx = w1.drew)
              case first =>
                go_region
                all_goals (go_wp2_with fail; go_meet; refine ⟨rfl, ?_, rfl⟩; first | rfl | simp | (congr 1 <;> omega))
              case rest =>
                obtain ⟨rfl, rfl, rfl⟩ := hcut
                have hbd : Below w1.heap.size w1 w1.drew := (Below.refl _ _).drew
                have HVD : Hid (IsLog w1.drew (.slice (some (Addr.add ⟨b, off, sp⟩ (K * 9))) (l.length - K) (cap - K)) (l.drop K)) := Lib.hid (HVL.out.1.below hbd (Nat.le_refl _))
                have HAD := Lib.hid ((hbd.block _ (lt_of_row HA1.out)).trans HA1.out)
                have HBD := Lib.hid (HB1.out.trans (hbd.mono HB1.out.size))
                clear hbd
                go_wp2_with fail
                go_meet
                exact ⟨0, l.drop K, (some (Addr.add ⟨b, off, sp⟩ (K * 9))), (cap - K), by simp, by rw [HVL.out.2], Lib.hid ⟨by rw [HVL.out.2]; exact HVD.out, Nat.zero_le _, HMV.out, by rw [List.length_drop]; omega, fun x hx => List.mem_of_mem_drop hx⟩, HAD, HBD⟩
        · have HMV : Hid (mergeV h i t c l = tailV h 0 c (l.drop l.length)) := Lib.hid (by rw [merge_low HOK.out HCI.out, List.drop_eq_nil_of_le (by omega), List.drop_eq_nil_of_le (Nat.le_refl _)])
          have ck2 : (l.length : Int) < h.shot.index - i := Int.not_le.1 ck
          clear ck
          rcases HRC.out with ⟨rfl, rfl, hr0⟩ | ⟨b, off, sp, rfl, hr0⟩
          · have hl0 : l = [] := by
              have := HRL.out
              rw [hr0] at this
              exact List.eq_nil_of_length_eq_zero (by simpa using this.symm)
            have HVL : Hid (IsLog w1 (.slice none 0 0) (l.drop l.length) ∧ (l.drop l.length).length = 0) := Lib.hid (by
              rw [hl0, List.drop_nil]
              exact ⟨IsLog.nil _, rfl⟩)
            clear hr0
            go_upto_region 5 with (fail)
            go_cut [1, 4] (fun s1 s4 wx => s1 = .int .u64 h.shot.index ∧ s4 = .slice none 0 0 ∧ wx = w1.drew)
            case first =>
              go_region
              all_goals (go_wp2_with fail; go_meet; refine ⟨rfl, ?_, rfl⟩; first | rfl | simp | (congr 1 <;> omega))
            case rest =>
              obtain ⟨rfl, rfl, rfl⟩ := hcut
              have hbd : Below w1.heap.size w1 w1.drew := (Below.refl _ _).drew
              have HVD : Hid (IsLog w1.drew (.slice none 0 0) (l.drop l.length)) := Lib.hid (HVL.out.1.below hbd (Nat.le_refl _))
              have HAD := Lib.hid ((hbd.block _ (lt_of_row HA1.out)).trans HA1.out)
              have HBD := Lib.hid (HB1.out.trans (hbd.mono HB1.out.size))
              clear hbd
              go_wp2_with fail
              go_meet
              exact ⟨0, l.drop l.length, none, 0, by simp, by rw [HVL.out.2], Lib.hid ⟨by rw [HVL.out.2]; exact HVD.out, Nat.zero_le _, HMV.out, by rw [List.length_drop]; omega, fun x hx => List.mem_of_mem_drop hx⟩, HAD, HBD⟩
          · by_cases hc : cap = l.length
            · have hl0 : l.drop l.length = [] := List.drop_eq_nil_of_le (by omega)
              subst hc
              have HVL : Hid (IsLog w1 (.slice (some ⟨b, off, sp⟩) 0 0) (l.drop l.length) ∧ (l.drop l.length).length = 0) := Lib.hid (by
                rw [hl0]
                exact ⟨log_empty _ _ _ (Nat.zero_le _), rfl⟩)
              clear hr0
              go_upto_region 5 with (fail)
              go_cut [1, 4] (fun s1 s4 wx => s1 = .int .u64 h.shot.index ∧ s4 = .slice (some ⟨b, off, sp⟩) 0 0 ∧ wx = w1.drew)
              case first =>
                go_region
                all_goals (go_wp2_with fail; go_meet; refine ⟨rfl, ?_, rfl⟩; first | rfl | simp | (congr 1 <;> omega))
              case rest =>
                obtain ⟨rfl, rfl, rfl⟩ := hcut
                have hbd : Below w1.heap.size w1 w1.drew := (Below.refl _ _).drew
                have HVD : Hid (IsLog w1.drew (.slice (some ⟨b, off, sp⟩) 0 0) (l.drop l.length)) := Lib.hid (HVL.out.1.below hbd (Nat.le_refl _))
                have HAD := Lib.hid ((hbd.block _ (lt_of_row HA1.out)).trans HA1.out)
                have HBD := Lib.hid (HB1.out.trans (hbd.mono HB1.out.size))
                clear hbd
                go_wp2_with fail
                go_meet
                exact ⟨0, l.drop l.length, (some ⟨b, off, sp⟩), 0, by simp, by rw [HVL.out.2], Lib.hid ⟨by rw [HVL.out.2]; exact HVD.out, Nat.zero_le _, HMV.out, by rw [List.length_drop]; omega, fun x hx => List.mem_of_mem_drop hx⟩, HAD, HBD⟩
            · have hc2 : ((l.length : Nat) : Int) < (cap : Int) := by omega
              have HVL : Hid (IsLog w1 (.slice (some (Addr.add ⟨b, off, sp⟩ (l.length * 9))) (l.length - l.length) (cap - l.length)) (l.drop l.length) ∧ (l.drop l.length).length = (l.length - l.length)) := Lib.hid (by
                exact ⟨log_drop HIL1.out (by omega) (by unfold maxLen; omega), by rw [List.length_drop]⟩)
              clear hr0
              go_upto_region 5 with (fail)
              go_cut [1, 4] (fun s1 s4 wx => s1 = .int .u64 h.shot.index ∧ s4 = .slice (some (Addr.add ⟨b, off, sp⟩ (l.length * 9))) (l.length - l.length) (cap - l.length) ∧ wx = w1.drew)
              case first =>
                go_region
                all_goals (go_wp2_with fail; go_meet; refine ⟨rfl, ?_, rfl⟩; first | rfl | simp | (congr 1 <;> omega))
              case rest =>
                obtain ⟨rfl, rfl, rfl⟩ := hcut
                have hbd : Below w1.heap.size w1 w1.drew := (Below.refl _ _).drew
                have HVD : Hid (IsLog w1.drew (.slice (some (Addr.add ⟨b, off, sp⟩ (l.length * 9))) (l.length - l.length) (cap - l.length)) (l.drop l.length)) := Lib.hid (HVL.out.1.below hbd (Nat.le_refl _))
                have HAD := Lib.hid ((hbd.block _ (lt_of_row HA1.out)).trans HA1.out)
                have HBD := Lib.hid (HB1.out.trans (hbd.mono HB1.out.size))
                clear hbd
                go_wp2_with fail
                go_meet
                exact ⟨0, l.drop l.length, (some (Addr.add ⟨b, off, sp⟩ (l.length * 9))), (cap - l.length), by simp, by rw [HVL.out.2], Lib.hid ⟨by rw [HVL.out.2]; exact HVD.out, Nat.zero_le _, HMV.out, by rw [List.length_drop]; omega, fun x hx => List.mem_of_mem_drop hx⟩, HAD, HBD⟩
      · have HCI : Hid (h.shot.index ≤ i) := Lib.hid (Int.not_lt.1 ci)
        go_wp2_with (first | (with_reducible refine wpList_load_row rfl 43 (.tmp 5) rfl w.heap.size rfl 43 (hArr h (.slice g1 h.shot.nodes.length q1) (.slice g2 h.shot.led.held.length q2) (.slice g3 h.shot.led.last.length q3) (.slice g4 h.log.length q4)) (0, 0) _ HA1.out Try.underlying43 rfl (by kernel_rfl) ?_) | fail)
        refine (termAt_any h _ i _ HI1.out HFT.out hi0 hi1).mono ?_
        rintro e w2 ⟨rfl, hb2⟩
        have HB2 := Lib.hid (HB1.out.trans (hb2.mono HB1.out.size))
        have HA2 := Lib.hid ((hb2.block _ (lt_of_row HA1.out)).trans HA1.out)
        have HL2 := Lib.hid (HIL1.out.below hb2 (Nat.le_refl _))
        clear hb2
        obtain ⟨T, hT⟩ : ∃ q, termP h i = q := ⟨_, rfl⟩
        rw [hT]
        obtain ⟨u, b⟩ := T
        have HT := Lib.hid hT
        clear hT
        cases b with
        | false =>
          have HM := Lib.hid (merge_lacks HOK.out (t := t) (c := c) (l := l) (Int.not_lt.2 HCI.out) (by rw [HT.out]; simp))
          go_wp2_with fail
          go_ret2
          exact mrg_of HM.out (IsRecs.nil _) HB2.out
        | true =>
          by_cases e : u = t
          · have HM := Lib.hid (merge_at HOK.out (t := t) (c := c) (l := l) (Int.not_lt.2 HCI.out) (by rw [HT.out, e]))
            have n2 : (u != t) = false := by rw [bne, beq_iff_eq.2 e]; rfl
            have hin := term_in2 (h := h) (i := i) (by rw [HT.out])
            have HOO : Hid (h.shot.index + (((i - h.shot.index).toNat : Nat) : Int) = i ∧ (i - h.shot.index).toNat ≤ h.log.length) := Lib.hid (by unfold lastI at hin; omega)
            have HCI2 := HCI
            clear e hin
            go_wp2_with fail
            go_meet
            exact ⟨(i - h.shot.index).toNat, l, a, cap, by rw [HOO.out.1], rfl, Lib.hid ⟨HL2.out, HOO.out.2, HM.out, Nat.le_refl _, fun x hx => hx⟩, HA2, HB2⟩
          · have HM := Lib.hid (merge_lacks HOK.out (t := t) (c := c) (l := l) (Int.not_lt.2 HCI.out) (by rw [HT.out]; simpa using e))
            have n2 : (u != t) = true := by rw [bne, beq_eq_false_iff_ne.2 e]; rfl
            clear e
            go_wp2_with fail
            go_ret2
            exact mrg_of HM.out (IsRecs.nil _) HB2.out
    case rest =>
      obtain ⟨o, l2, a2, c2, rfl, rfl, HP, HA3, HB3⟩ := hcut
      obtain ⟨hil, ho, hmv, hll, hlm⟩ := HP.out
      have HI3 := Lib.hid (HIH.out.below HB3.out (Nat.le_refl _))
      have HL3 := Lib.hid hil
      have HO := Lib.hid ho
      have HMV := Lib.hid hmv
      have HLF3 : Hid (∀ x ∈ l2, IsCmd.fits x.cmd) := Lib.hid (fun x hx => HLF.out x (hlm x hx))
      have HN3 : Hid (l2.length ≤ 4294967296) := Lib.hid (by have := HNL.out; omega)
      clear hil ho hmv hll hlm HP
      go_wp2_with (first | (with_reducible refine wpList_load_row rfl 43 (.tmp 5) rfl w.heap.size rfl 43 (hArr h (.slice g1 h.shot.nodes.length q1) (.slice g2 h.shot.led.held.length q2) (.slice g3 h.shot.led.last.length q3) (.slice g4 h.log.length q4)) (0, 0) _ HA3.out Try.underlying43 rfl (by kernel_rfl) ?_) | fail)
      refine (changes_any h _ o c l2 _ _ HI3.out HOK.out HO.out HL3.out HLF3.out HN3.out hc0 hc1).mono ?_
      rintro e w4 ⟨v4, b4, out, rfl, hd4, rows4, hb4⟩
      have HB4 := Lib.hid (HB3.out.trans (hb4.mono HB3.out.size))
      have HA4 := Lib.hid ((hb4.block _ (lt_of_row HA3.out)).trans HA3.out)
      have HI4 := Lib.hid (HI3.out.below hb4 (Nat.le_refl _))
      have HR4 := Lib.hid rows4.recs
      clear hb4 rows4
      rcases hd4 with ⟨rfl, hp⟩ | ⟨rfl, hp, -⟩
      · obtain ⟨hlen, hfit⟩ := part_out hp HLF3.out
        have HP := Lib.hid hp
        have HLEN := Lib.hid hlen
        have HFIT := Lib.hid hfit
        clear hp hlen hfit
        go_wp2_with (first | (with_reducible refine wpList_load_rowG rfl 43 (.tmp 5) rfl w.heap.size rfl 43 (hArr h (.slice g1 h.shot.nodes.length q1) (.slice g2 h.shot.led.held.length q2) (.slice g3 h.shot.led.last.length q3) (.slice g4 h.log.length q4)) (0, 0) _ HA4.out Try.underlying43 rfl (by kernel_rfl) ?_) | fail)
        refine (accepts_any h.log.length h _ out _ _ HI4.out ⟨HF.out.1, Nat.le_refl _, HF.out.2.2⟩ HR4.out HFIT.out (by have := HLEN.out; have := HN3.out; have := HNH.out; omega)).mono ?_
        rintro e w5 ⟨b5, rfl, ht5, hb5⟩
        have HB5 := Lib.hid (HB4.out.trans (hb5.mono HB4.out.size))
        have HR5 := Lib.hid (HR4.out.below hb5 (Nat.le_refl _))
        clear hb5
        cases b5 with
        | true =>
          have HM := Lib.hid (HMV.out.trans (tail_yes HP.out (ht5.1 rfl)))
          clear ht5
          go_wp2_with fail
          go_ret2
          exact mrg_of HM.out HR5.out HB5.out
        | false =>
          have HM := Lib.hid (HMV.out.trans (tail_no HP.out (fun q => by cases ht5.2 q)))
          clear ht5
          go_wp2_with fail
          go_ret2
          exact mrg_of HM.out (IsRecs.nil _) HB5.out
      · have HM := Lib.hid (HMV.out.trans (tail_none hp))
        clear hp
        go_wp2_with fail
        go_ret2
        exact mrg_of HM.out (IsRecs.nil _) HB4.out
end Mg
end Go.Proofs.Ytlkgmjhejocobaa
