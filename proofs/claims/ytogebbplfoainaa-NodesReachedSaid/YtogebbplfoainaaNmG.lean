/- The document's own Mid, the walk. The map is one of the call's own. -/
import Derived.Test.YtogebbplfoainaaNmF
namespace Go.Proofs.Ytogebbplfoainaa
open Go.ChangeShapes Go.WideShapes Go.ChangeAt Go.RowKit Go.Maps
set_option linter.unusedVariables false
set_option maxRecDepth 100000
namespace Nm
open Nd (Sl.cases take_get)
def midV (f : Int → Int) (zs : List Int) : Int := if Nd.chk zs then best (zs.map f) (zs.map f) else 0
set_option maxHeartbeats 2000000 in
theorem rmid_any (v : Value) (zs : List Int) (w : World) (hs : Sl .i64 w v zs) (b k : Nat) (D : DataW Unit) (hm : OwnM w b k D) :
    Calls Try.prog 6 #[v, .map (some b)] w fun e w' => e = .returned (.int .u64 (midV (farOf D) zs)) ∧ w = w' := by
  have HM := Lib.hid hm
  cases hck : Nd.chk zs with
  | false =>
    have HV : Hid ((0 : Int) = midV (farOf D) zs) := Lib.hid (by unfold midV; rw [hck]; rfl)
    have HC : Hid (Calls Try.prog 10 #[v] w fun e w' => e = .returned (.int .i64 1) ∧ w = w') := Lib.hid (by have h := Nd.rcheck_any v zs w hs; rw [hck] at h; exact h)
    clear hs hm hck
    go_enter Try.func6, Try.ntmps6
    go_wp2_with (go_at_call 10; refine HC.out.mono ?_; rintro e w1 ⟨rfl, rfl⟩)
    go_ret
    exact ⟨ret_int HV.out, rfl⟩
  | true =>
    have HV : Hid (best (zs.map (farOf D)) (zs.map (farOf D)) = midV (farOf D) zs) := Lib.hid (by unfold midV; rw [hck]; rfl)
    obtain ⟨hz0, hz7⟩ := chk_len hck
    have HC : Hid (Calls Try.prog 10 #[v] w fun e w' => e = .returned (.int .i64 0) ∧ w = w') := Lib.hid (by have h := Nd.rcheck_any v zs w hs; rw [hck] at h; exact h)
    have HWF := Lib.hid hs.wf
    rcases Sl.cases hs with ⟨a, cap, rfl, rfl⟩ | ⟨b2, off, cap, rfl, h0, hlc, hcm, hlt, hc⟩
    · simp at hz0
    have HCX := Lib.hid hc
    have hlz : (zs.map (farOf D)).length = zs.length := by simp
    have HLZ := Lib.hid hlz
    clear hs hm hck hc hlz
    go_enter Try.func6, Try.ntmps6
    go_wp2_with (go_at_call 10; refine HC.out.mono ?_; rintro e w1 ⟨rfl, rfl⟩)
    go_loop [5, 17] (fun r i => ∃ j : Nat, j ≤ zs.length ∧ i = .int .i64 j ∧ r = .int .u64 (best (zs.map (farOf D)) ((zs.take j).map (farOf D)))) (fun _ i => zs.length - (intOf i).toNat)
    case atStart => exact ⟨0, Nat.zero_le _, rfl, rfl⟩
    case round =>
      obtain ⟨j, hj, rfl, rfl⟩ := hrel
      by_cases hlt2 : j < zs.length
      · have hcx := HCX.out j hlt2
        have HT := Lib.hid (take_get hlt2)
        have HZ : Hid ((Lit.int .i64 (zs.getD j 0)).wf = true) := Lib.hid (HWF.out _ (by rw [Nd.getD_get hlt2]; exact List.getElem_mem _))
        generalize zs.getD j 0 = z at *
        generalize hB : best (zs.map (farOf D)) ((zs.take j).map (farOf D)) = bb at *
        have HB := Lib.hid hB
        clear hB
        go_wp2_with (at_lookup; refine wpList_lookup_own_int _ rfl _ _ 24 rfl 3 25 .u64 lawI Try.underlying24 Try.underlying25 (zeroU _) b k D rfl HM.out _ _ rfl (keyOf_int_mk Try.underlying3 HZ.out) ?_; intro c hat hwc; obtain rfl := far_got hat)
        generalize hy : farOf D z = y at *
        have HY := Lib.hid hy
        clear hy
        go_loop [9, 26] (fun s i => ∃ q : Nat, q ≤ zs.length ∧ i = .int .i64 q ∧ s = .int .i64 (cntG ((zs.take q).map (farOf D)) y)) (fun _ i => zs.length - (intOf i).toNat)
        case atStart => exact ⟨0, Nat.zero_le _, rfl, rfl⟩
        case round =>
          obtain ⟨q, hq, rfl, rfl⟩ := hrel
          by_cases hlt3 : q < zs.length
          · have hcx3 := HCX.out q hlt3
            have HT3 := Lib.hid (take_get hlt3)
            have HZ3 : Hid ((Lit.int .i64 (zs.getD q 0)).wf = true) := Lib.hid (HWF.out _ (by rw [Nd.getD_get hlt3]; exact List.getElem_mem _))
            have hcl := cntG_le ((zs.take q).map (farOf D)) y
            rw [List.length_map, List.length_take, Nat.min_eq_left hq] at hcl
            generalize zs.getD q 0 = z3 at *
            by_cases hyx : y ≤ farOf D z3
            · have HO : Hid (((cntG ((zs.take q).map (farOf D)) y : Nat) : Int) + 1 = ((cntG ((zs.take (q + 1)).map (farOf D)) y : Nat) : Int)) := Lib.hid (by rw [HT3.out, List.map_append, List.map_singleton, cntG_snoc, if_pos hyx]; rfl)
              generalize cntG ((zs.take q).map (farOf D)) y = cq at *
              go_wp2_with (at_lookup; refine wpList_lookup_own_int _ rfl _ _ 24 rfl 3 25 .u64 lawI Try.underlying24 Try.underlying25 (zeroU _) b k D rfl HM.out _ _ rfl (keyOf_int_mk Try.underlying3 HZ3.out) ?_; intro c hat hwc; obtain rfl := far_got hat)
              go_round
              case rel => exact ⟨q + 1, by omega, by go_num, by rw [← HO.out]⟩
              case measure => simp [intOf]; omega
            · have HO : Hid (cntG ((zs.take q).map (farOf D)) y = cntG ((zs.take (q + 1)).map (farOf D)) y) := Lib.hid (by rw [HT3.out, List.map_append, List.map_singleton, cntG_snoc, if_neg hyx])
              generalize cntG ((zs.take q).map (farOf D)) y = cq at *
              go_wp2_with (at_lookup; refine wpList_lookup_own_int _ rfl _ _ 24 rfl 3 25 .u64 lawI Try.underlying24 Try.underlying25 (zeroU _) b k D rfl HM.out _ _ rfl (keyOf_int_mk Try.underlying3 HZ3.out) ?_; intro c hat hwc; obtain rfl := far_got hat)
              go_round
              case rel => exact ⟨q + 1, by omega, by go_num, by rw [← HO.out]⟩
              case measure => simp [intOf]; omega
          · obtain rfl : q = zs.length := by omega
            have hcl := cntG_le (zs.map (farOf D)) y
            rw [HLZ.out] at hcl
            rw [List.take_length]
            have HO : Hid (best (zs.map (farOf D)) ((zs.take (j + 1)).map (farOf D)) = if zs.length < 2 * cntG (zs.map (farOf D)) y then max bb y else bb) := Lib.hid (by rw [HT.out, List.map_append, List.map_singleton, best_snoc, HB.out, HLZ.out, HY.out])
            generalize cntG (zs.map (farOf D)) y = cq at *
            by_cases hg : zs.length < 2 * cq
            · have HO2 := Lib.hid (HO.out.trans (if_pos hg))
              have hg2 : (zs.length : Int) < 2 * (cq : Int) := by omega
              go_wp2
              go_round
              case rel => exact ⟨j + 1, by omega, by go_num, by rw [HO2.out]; congr 1; split <;> omega⟩
              case measure => simp [intOf]; omega
            · have HO2 := Lib.hid (HO.out.trans (if_neg hg))
              have hg2 : ¬ (zs.length : Int) < 2 * (cq : Int) := by omega
              go_wp2
              go_round
              case rel => exact ⟨j + 1, by omega, by go_num, by rw [HO2.out]⟩
              case measure => simp [intOf]; omega
      · obtain rfl : j = zs.length := by omega
        rw [List.take_length, HV.out]
        go_wp2
        go_ret
        exact ⟨rfl, rfl⟩
end Nm
end Go.Proofs.Ytogebbplfoainaa
