/- The law NodesReached returns true for every two lists: what Mid tells, more than half have reached, and what is greater they have not. No condition. -/
import Derived.Test.YtogebbplfoainaaBse
import Derived.Test.YtogebbplfoainaaNmI
import Derived.Test.YtogebbplfoainaaBse
namespace Go.Proofs.Ytogebbplfoainaa.nodesReached
open Go.ChangeShapes Go.WideShapes Go.ChangeAt Go.RowKit
open Go.ChangeMaps (open_string shut_string)
set_option linter.unusedVariables false

theorem own : ownKnob Try.prog.godebug = none := by kernel_rfl
theorem laidOut : laidOutB Try.prog = true := by kernel_rfl

open Go.Maps
set_option maxHeartbeats 400000 in
theorem walk (v0 : Value) (z0 : List Int) (v1 : Value) (z1 : List Int) (w : World) (w0 : Sl .i64 w v0 z0) (b0 : z0.length * 8 ≤ 140737488351232) (w1 : Sl .u64 w v1 z1) (b1 : z1.length * 8 ≤ 140737488351232) :
    Calls Try.prog 4 #[v0, v1] w fun e w' => e = .returned (.bool true) ∧ Below w.heap.size w w' := by
  have hmm := @run_makeMap Try.prog
  go_enter Try.func4, Try.ntmps4
  go_wp2_with (first
    | (refine Nm.insert_own _ rfl _ _ _ 24 rfl 3 25 Nm.lawI Try.underlying24 _ (w.heap.size + 1) 0 (.map []) rfl (Nm.made_at _ _ (by simp)) (by decide) (.int .i64 1) (.int .u64 9) (.int .i64 1) rfl rfl (keyOf_int_mk Try.underlying3 (by decide)) _ [] (plainElem_int Try.underlying25 (by decide)) ?_; intro u2 hown2 hgrow2)
    | (refine Nm.insert_own _ rfl _ _ _ 24 rfl 3 25 Nm.lawI Try.underlying24 _ (w.heap.size + 1) 1 _ rfl hown2 (by decide) (.int .i64 3) (.int .u64 4) (.int .i64 3) rfl rfl (keyOf_int_mk Try.underlying3 (by decide)) _ [] (plainElem_int Try.underlying25 (by decide)) ?_; intro u3 hown3 hgrow3))
  have hbA : Below (w.heap.size + 1) (w.alloc (.cells #[Value.int .i64 1, Value.int .i64 2, Value.int .i64 3] 3)) u3 := by
    have h1 : Below (w.heap.size + 1) (w.alloc (.cells #[Value.int .i64 1, Value.int .i64 2, Value.int .i64 3] 3)) ((w.alloc (.cells #[Value.int .i64 1, Value.int .i64 2, Value.int .i64 3] 3)).alloc (.map #[] 0)) := (Below.refl _ _).alloc (by simp) _
    have h2 := h1.grown hgrow2 (by simp) (fun j hj => by cases hj; exact Nat.le_refl _)
    exact h2.grown hgrow3 (by have := h2.size; simp at this; omega) (fun j hj => by cases hj; exact Nat.le_refl _)
  have hbB : Below w.heap.size w u3 := ((Below.refl _ _).alloc (Nat.le_refl _) _).trans (hbA.mono (by simp))
  have hl1 := (Sl.new (k := .i64) (e := 3) (fr := (0, 0)) (n := 3) (c := 3) w #[Value.int .i64 1, Value.int .i64 2, Value.int .i64 3] [1, 2, 3] rfl rfl (by decide) (by decide) (by decide)).below hbA (by simp)
  refine (Nm.mid_any _ [1, 2, 3] _ hl1 _ _ _ hown3).mono ?_
  rintro e u4 ⟨⟨x4, rfl, hx4⟩, hb4⟩
  obtain rfl := (Nm.mid_is hown3 (by decide) hx4).trans Nm.mid9
  have hb14 : Below w.heap.size w u4 := hbB.trans (hb4.mono hbB.size)
  have HW04 := Lib.hid (w0.below hb14 (Nat.le_refl _))
  have w14 := w1.below hb14 (Nat.le_refl _)
  have HB4 := Lib.hid hb14
  clear hx4 hb4 hbA hbB hl1 hown2 hown3 hgrow2 hgrow3 hb14
  have HM0 : Hid (Nm.OwnM (u4.alloc (.map #[] 0)) u4.heap.size 0 (.map [])) := Lib.hid (Nm.made_at _ _ rfl)
  have HB0 : Hid (Below u4.heap.size u4 (u4.alloc (.map #[] 0))) := Lib.hid ((Below.refl _ _).alloc (Nat.le_refl _) _)
  rcases Nd.Sl.cases w14 with ⟨a, cap, rfl, rfl⟩ | ⟨b2, off, cap, rfl, h0, hlc, hcm, hlt, hc⟩
  · go_wp2
    refine wp_loop_rounds 1 ?_
    rw [rounds_succ]
    obtain ⟨wr, hwr⟩ : ∃ q, u4.alloc (.map #[] 0) = q := ⟨_, rfl⟩
    rw [hwr] at HM0 HB0
    rw [hwr]
    obtain ⟨k, D, HO⟩ : ∃ k D, Hid (Nm.OwnM wr u4.heap.size k D) := ⟨_, _, HM0⟩
    have HB := HB0
    have HW0 := Lib.hid (HW04.out.below HB.out (Nat.le_refl _))
    go_wp2_with fail
    refine (Nm.mid_any _ z0 _ HW0.out _ _ _ HO.out).mono ?_
    rintro e u5 ⟨⟨x, rfl, hx⟩, hb5⟩
    have HX := Lib.hid hx
    have HO5 := Lib.hid (HO.out.below hb5 (Nat.le_refl _))
    have HW5 := Lib.hid (HW0.out.below hb5 (Nat.le_refl _))
    have HB5 := Lib.hid (HB.out.trans (hb5.mono HB.out.size))
    clear hx hb5
    go_wp2_with fail
    refine (Nd.check_any _ z0 _ HW5.out).mono ?_
    rintro e u6 ⟨rfl, rfl⟩
    cases hck : Nd.chk z0 with
    | false =>
      have he : Nd.errOf false = 1 := rfl
      have hx0 := HX.out.1 hck
      subst hx0
      rw [he]
      clear hck
      go_wp2
      go_ret
      exact ⟨rfl, HB4.out.trans (HB5.out.mono HB4.out.size)⟩
    | true =>
      have he : Nd.errOf true = 0 := rfl
      rw [he]
      obtain ⟨hz0, hz7⟩ := Nm.chk_len hck
      have HMAJ := Lib.hid (Nm.reach_maj hck HX.out)
      clear hck
      rcases Nd.Sl.cases HW5.out with ⟨a, cap, rfl, rfl⟩ | ⟨b3, off3, cap3, rfl, h03, hlc3, hcm3, hlt3, hc3⟩
      · simp at hz0
      have HC3 := Lib.hid hc3
      have HZW := Lib.hid w0.wf
      clear hc3
      go_wp2
      go_loopw [10, 11, 46] (fun t y i wr2 => ∃ j : Nat, j ≤ z0.length ∧ i = .int .i64 j ∧ Below u5.heap.size u5 wr2 ∧ OwnI wr2 u5.heap.size t ((z0.take j).filter fun n => decide (x ≤ Nm.farOf D n)) ∧ OwnI wr2 u5.heap.size y ((z0.take j).filter fun n => decide (x < Nm.farOf D n)) ∧ Hid (Nm.Apart t y)) (fun _ _ i _ => z0.length - (intOf i).toNat)
      case atStart => exact ⟨0, Nat.zero_le _, rfl, Below.refl _ _, OwnK.nil _ _ _ _, OwnK.nil _ _ _ _, Lib.hid fun k h => by simp [Value.ownBlock] at h⟩
      case round =>
        obtain ⟨j, hj, rfl, hb, hot, hoy, HAP⟩ := hrel
        have HB6 := Lib.hid hb
        have HOT := Lib.hid hot
        have HOY := Lib.hid hoy
        by_cases hltj : j < z0.length
        · have hcx := (hb.cell (p := ⟨b3, off3 + j, none⟩) hlt3).trans (HC3.out j hltj)
          have HT := Lib.hid (Nd.take_get hltj)
          have HZ : Hid ((Lit.int .i64 (z0.getD j 0)).wf = true) := Lib.hid (HZW.out _ (by rw [Nd.getD_get hltj]; exact List.getElem_mem _))
          have HOW := Lib.hid (HO5.out.below hb (Nat.le_refl _))
          have hlt7 : ((z0.take j).filter fun n => decide (x ≤ Nm.farOf D n)).length ≤ 100 := Nat.le_trans (List.length_filter_le _ _) (by rw [List.length_take]; omega)
          have hly7 : ((z0.take j).filter fun n => decide (x < Nm.farOf D n)).length ≤ 100 := Nat.le_trans (List.length_filter_le _ _) (by rw [List.length_take]; omega)
          have HL1 := Lib.hid hlt7
          have HL2 := Lib.hid hly7
          clear hb hot hoy hlt7 hly7
          generalize z0.getD j 0 = z at *
          by_cases hc1 : x ≤ Nm.farOf D z
          · have HF1 : Hid ((z0.take j).filter (fun n => decide (x ≤ Nm.farOf D n)) ++ [z] = (z0.take (j + 1)).filter fun n => decide (x ≤ Nm.farOf D n)) := Lib.hid (by rw [HT.out, List.filter_append]; simp [hc1])
            by_cases hc2 : x < Nm.farOf D z
            · have HF2 : Hid ((z0.take j).filter (fun n => decide (x < Nm.farOf D n)) ++ [z] = (z0.take (j + 1)).filter fun n => decide (x < Nm.farOf D n)) := Lib.hid (by rw [HT.out, List.filter_append]; simp [hc2])
              go_wp2_with (first
                | (at_lookup; refine wpList_lookup_own_int _ rfl _ _ 24 rfl 3 25 .u64 Nm.lawI Try.underlying24 Try.underlying25 (Nm.zeroU _) u4.heap.size k D rfl HOW.out _ _ rfl (keyOf_int_mk Try.underlying3 HZ.out) ?_; intro c hat hwc; obtain rfl := Nm.far_got hat)
                | (at_builtin; refine Nm.app_one rfl _ _ rfl u5.heap.size _ _ rfl (HOT.out.alloc _) wr.heap.size 1 z rfl (heap_alloc_new _ _) _ _ (HOY.out.alloc _) HAP.out HL1.out (by have := HB6.out.size; simp; omega) ?_; intro t1 w1 ot1 oy1 ap1 hb1; have HOT1 := Lib.hid ot1; have HOY1 := Lib.hid oy1; have HAP1 := Lib.hid ap1; have HB61 := Lib.hid ((HB6.out.alloc HB6.out.size _).trans hb1); have HOW1 := Lib.hid (HO5.out.below HB61.out (Nat.le_refl _)); clear ot1 oy1 ap1 hb1)
                | (at_lookup; refine wpList_lookup_own_int _ rfl _ _ 24 rfl 3 25 .u64 Nm.lawI Try.underlying24 Try.underlying25 (Nm.zeroU _) u4.heap.size k D rfl HOW1.out _ _ rfl (keyOf_int_mk Try.underlying3 HZ.out) ?_; intro c hat hwc; obtain rfl := Nm.far_got hat)
                | (at_builtin; refine Nm.app_one rfl _ _ rfl u5.heap.size _ _ rfl (HOY1.out.alloc _) w1.heap.size 1 z rfl (heap_alloc_new _ _) _ _ (HOT1.out.alloc _) HAP1.out.symm HL2.out (by have := HB61.out.size; simp; omega) ?_; intro y2 w2 ot1 oy1 ap1 hb1; have HOY2 := Lib.hid ot1; have HOT2 := Lib.hid oy1; have HAP2 := Lib.hid ap1; have HB62 := Lib.hid ((HB61.out.alloc HB61.out.size _).trans hb1); have HOW2 := Lib.hid (HO5.out.below HB62.out (Nat.le_refl _)); clear ot1 oy1 ap1 hb1))
              go_roundw
              case rel => exact ⟨j + 1, by omega, by go_num, HB62.out, by rw [← HF1.out]; exact HOT2.out, by rw [← HF2.out]; exact HOY2.out, Lib.hid HAP2.out.symm⟩
              case measure => simp [intOf]; omega
            · have HF2 : Hid ((z0.take j).filter (fun n => decide (x < Nm.farOf D n)) = (z0.take (j + 1)).filter fun n => decide (x < Nm.farOf D n)) := Lib.hid (by rw [HT.out, List.filter_append]; simp [hc2])
              go_wp2_with (first
                | (at_lookup; refine wpList_lookup_own_int _ rfl _ _ 24 rfl 3 25 .u64 Nm.lawI Try.underlying24 Try.underlying25 (Nm.zeroU _) u4.heap.size k D rfl HOW.out _ _ rfl (keyOf_int_mk Try.underlying3 HZ.out) ?_; intro c hat hwc; obtain rfl := Nm.far_got hat)
                | (at_builtin; refine Nm.app_one rfl _ _ rfl u5.heap.size _ _ rfl (HOT.out.alloc _) wr.heap.size 1 z rfl (heap_alloc_new _ _) _ _ (HOY.out.alloc _) HAP.out HL1.out (by have := HB6.out.size; simp; omega) ?_; intro t1 w1 ot1 oy1 ap1 hb1; have HOT1 := Lib.hid ot1; have HOY1 := Lib.hid oy1; have HAP1 := Lib.hid ap1; have HB61 := Lib.hid ((HB6.out.alloc HB6.out.size _).trans hb1); have HOW1 := Lib.hid (HO5.out.below HB61.out (Nat.le_refl _)); clear ot1 oy1 ap1 hb1)
                | (at_lookup; refine wpList_lookup_own_int _ rfl _ _ 24 rfl 3 25 .u64 Nm.lawI Try.underlying24 Try.underlying25 (Nm.zeroU _) u4.heap.size k D rfl HOW1.out _ _ rfl (keyOf_int_mk Try.underlying3 HZ.out) ?_; intro c hat hwc; obtain rfl := Nm.far_got hat))
              go_roundw
              case rel => exact ⟨j + 1, by omega, by go_num, HB61.out, by rw [← HF1.out]; exact HOT1.out, by rw [← HF2.out]; exact HOY1.out, HAP1⟩
              case measure => simp [intOf]; omega
          · have hc2 : ¬ x < Nm.farOf D z := by omega
            have HF1 : Hid ((z0.take j).filter (fun n => decide (x ≤ Nm.farOf D n)) = (z0.take (j + 1)).filter fun n => decide (x ≤ Nm.farOf D n)) := Lib.hid (by rw [HT.out, List.filter_append]; simp [hc1])
            have HF2 : Hid ((z0.take j).filter (fun n => decide (x < Nm.farOf D n)) = (z0.take (j + 1)).filter fun n => decide (x < Nm.farOf D n)) := Lib.hid (by rw [HT.out, List.filter_append]; simp [hc2])
            go_wp2_with (at_lookup; refine wpList_lookup_own_int _ rfl _ _ 24 rfl 3 25 .u64 Nm.lawI Try.underlying24 Try.underlying25 (Nm.zeroU _) u4.heap.size k D rfl HOW.out _ _ rfl (keyOf_int_mk Try.underlying3 HZ.out) ?_; intro c hat hwc; obtain rfl := Nm.far_got hat)
            go_roundw
            case rel => exact ⟨j + 1, by omega, by go_num, HB6.out, by rw [← HF1.out]; exact HOT.out, by rw [← HF2.out]; exact HOY.out, HAP⟩
            case measure => simp [intOf]; omega
        · obtain rfl : j = z0.length := by omega
          rw [List.take_length] at hot hoy
          have hwT := hot.sl (fun n hn => HZW.out n (List.mem_filter.1 hn).1)
          have hwY := hoy.sl (fun n hn => HZW.out n (List.mem_filter.1 hn).1)
          have hw6 := HW5.out.below hb (Nat.le_refl _)
          clear HOT HOY hot hoy
          go_wp2_with fail
          refine (Nd.majority_any _ _ z0 _ _ hw6 hwT).mono ?_
          rintro e w7 ⟨rfl, hb7⟩
          rw [HMAJ.out.1]
          have hw7 := hw6.below hb7 (Nat.le_refl _)
          have hwY7 := hwY.below hb7 (Nat.le_refl _)
          go_wp2_with fail
          refine (Nd.majority_any _ _ z0 _ _ hw7 hwY7).mono ?_
          rintro e w8 ⟨rfl, hb8⟩
          rw [HMAJ.out.2]
          have q1 := HB4.out.trans (HB5.out.mono HB4.out.size)
          have q2 := q1.trans (hb.mono q1.size)
          have q3 := q2.trans (hb7.mono q2.size)
          have q4 := q3.trans (hb8.mono q3.size)
          go_wp2
          go_ret
          exact ⟨rfl, q4⟩
  · have HCX := Lib.hid hc
    have HW1 := Lib.hid w1.wf
    clear hc
    go_wp2
    go_loopw [22] (fun i wr => ∃ (j k : Nat) (D : DataW Unit), j ≤ z1.length ∧ k ≤ j ∧ i = .int .i64 j ∧ Below u4.heap.size u4 wr ∧ Nm.OwnM wr u4.heap.size k D) (fun i _ => z1.length - (intOf i).toNat)
    case atStart => exact ⟨0, 0, _, Nat.zero_le _, Nat.le_refl _, rfl, HB0.out, HM0.out⟩
    case round =>
      obtain ⟨j, k, D, hj, hkj, rfl, hb, hown⟩ := hrel
      have HB := Lib.hid hb
      have HO := Lib.hid hown
      by_cases hlt2 : j < z1.length
      · have hcx := (hb.cell (p := ⟨b2, off + j, none⟩) hlt).trans (HCX.out j hlt2)
        have HU : Hid ((Lit.int .u64 (z1.getD j 0)).wf = true) := Lib.hid (HW1.out _ (by rw [Nd.getD_get hlt2]; exact List.getElem_mem _))
        clear hb hown
        generalize z1.getD j 0 = z at *
        by_cases hj12 : j < 12
        · have hj2 : (j : Int) < 12 := by omega
          go_wp2_with (first | (at_mapUpdate; refine wpList_mapUpdate_own _ rfl _ _ _ 24 rfl 3 25 Nm.lawI Try.underlying24 _ u4.heap.size k D rfl HO.out (by unfold maxLen; omega) (.int .i64 j) (.int .u64 z) (.int .i64 j) rfl rfl (keyOf_int_mk Try.underlying3 (WalkArith.wf_i64 (by omega))) _ [] (plainElem_int Try.underlying25 HU.out) ?_; intro w2 hown2 hgrow2))
          go_roundw
          case rel => exact ⟨j + 1, k + 1, _, by omega, by omega, by go_num, HB.out.grown hgrow2 HB.out.size (fun j hj => by cases hj; exact Nat.le_refl _), hown2⟩
          case measure => simp [intOf]; omega
        · have hj2 : ¬ (j : Int) < 12 := by omega
          go_wp2
          go_roundw
          case rel => exact ⟨j + 1, k, D, by omega, by omega, by go_num, HB.out, HO.out⟩
          case measure => simp [intOf]; omega
      · obtain rfl : j = z1.length := by omega
        have HW0 := Lib.hid (HW04.out.below HB.out (Nat.le_refl _))
        clear hb hown
        go_wp2_with fail
        refine (Nm.mid_any _ z0 _ HW0.out _ _ _ HO.out).mono ?_
        rintro e u5 ⟨⟨x, rfl, hx⟩, hb5⟩
        have HX := Lib.hid hx
        have HO5 := Lib.hid (HO.out.below hb5 (Nat.le_refl _))
        have HW5 := Lib.hid (HW0.out.below hb5 (Nat.le_refl _))
        have HB5 := Lib.hid (HB.out.trans (hb5.mono HB.out.size))
        clear hx hb5
        go_wp2_with fail
        refine (Nd.check_any _ z0 _ HW5.out).mono ?_
        rintro e u6 ⟨rfl, rfl⟩
        cases hck : Nd.chk z0 with
        | false =>
          have he : Nd.errOf false = 1 := rfl
          have hx0 := HX.out.1 hck
          subst hx0
          rw [he]
          clear hck
          go_wp2
          go_ret
          exact ⟨rfl, HB4.out.trans (HB5.out.mono HB4.out.size)⟩
        | true =>
          have he : Nd.errOf true = 0 := rfl
          rw [he]
          obtain ⟨hz0, hz7⟩ := Nm.chk_len hck
          have HMAJ := Lib.hid (Nm.reach_maj hck HX.out)
          clear hck
          rcases Nd.Sl.cases HW5.out with ⟨a, cap, rfl, rfl⟩ | ⟨b3, off3, cap3, rfl, h03, hlc3, hcm3, hlt3, hc3⟩
          · simp at hz0
          have HC3 := Lib.hid hc3
          have HZW := Lib.hid w0.wf
          clear hc3
          go_wp2
          go_loopw [10, 11, 46] (fun t y i wr2 => ∃ j : Nat, j ≤ z0.length ∧ i = .int .i64 j ∧ Below u5.heap.size u5 wr2 ∧ OwnI wr2 u5.heap.size t ((z0.take j).filter fun n => decide (x ≤ Nm.farOf D n)) ∧ OwnI wr2 u5.heap.size y ((z0.take j).filter fun n => decide (x < Nm.farOf D n)) ∧ Hid (Nm.Apart t y)) (fun _ _ i _ => z0.length - (intOf i).toNat)
          case atStart => exact ⟨0, Nat.zero_le _, rfl, Below.refl _ _, OwnK.nil _ _ _ _, OwnK.nil _ _ _ _, Lib.hid fun k h => by simp [Value.ownBlock] at h⟩
          case round =>
            obtain ⟨j, hj, rfl, hb, hot, hoy, HAP⟩ := hrel
            have HB6 := Lib.hid hb
            have HOT := Lib.hid hot
            have HOY := Lib.hid hoy
            by_cases hltj : j < z0.length
            · have hcx := (hb.cell (p := ⟨b3, off3 + j, none⟩) hlt3).trans (HC3.out j hltj)
              have HT := Lib.hid (Nd.take_get hltj)
              have HZ : Hid ((Lit.int .i64 (z0.getD j 0)).wf = true) := Lib.hid (HZW.out _ (by rw [Nd.getD_get hltj]; exact List.getElem_mem _))
              have HOW := Lib.hid (HO5.out.below hb (Nat.le_refl _))
              have hlt7 : ((z0.take j).filter fun n => decide (x ≤ Nm.farOf D n)).length ≤ 100 := Nat.le_trans (List.length_filter_le _ _) (by rw [List.length_take]; omega)
              have hly7 : ((z0.take j).filter fun n => decide (x < Nm.farOf D n)).length ≤ 100 := Nat.le_trans (List.length_filter_le _ _) (by rw [List.length_take]; omega)
              have HL1 := Lib.hid hlt7
              have HL2 := Lib.hid hly7
              clear hb hot hoy hlt7 hly7
              generalize z0.getD j 0 = z at *
              by_cases hc1 : x ≤ Nm.farOf D z
              · have HF1 : Hid ((z0.take j).filter (fun n => decide (x ≤ Nm.farOf D n)) ++ [z] = (z0.take (j + 1)).filter fun n => decide (x ≤ Nm.farOf D n)) := Lib.hid (by rw [HT.out, List.filter_append]; simp [hc1])
                by_cases hc2 : x < Nm.farOf D z
                · have HF2 : Hid ((z0.take j).filter (fun n => decide (x < Nm.farOf D n)) ++ [z] = (z0.take (j + 1)).filter fun n => decide (x < Nm.farOf D n)) := Lib.hid (by rw [HT.out, List.filter_append]; simp [hc2])
                  go_wp2_with (first
                    | (at_lookup; refine wpList_lookup_own_int _ rfl _ _ 24 rfl 3 25 .u64 Nm.lawI Try.underlying24 Try.underlying25 (Nm.zeroU _) u4.heap.size k D rfl HOW.out _ _ rfl (keyOf_int_mk Try.underlying3 HZ.out) ?_; intro c hat hwc; obtain rfl := Nm.far_got hat)
                    | (at_builtin; refine Nm.app_one rfl _ _ rfl u5.heap.size _ _ rfl (HOT.out.alloc _) wr.heap.size 1 z rfl (heap_alloc_new _ _) _ _ (HOY.out.alloc _) HAP.out HL1.out (by have := HB6.out.size; simp; omega) ?_; intro t1 w1 ot1 oy1 ap1 hb1; have HOT1 := Lib.hid ot1; have HOY1 := Lib.hid oy1; have HAP1 := Lib.hid ap1; have HB61 := Lib.hid ((HB6.out.alloc HB6.out.size _).trans hb1); have HOW1 := Lib.hid (HO5.out.below HB61.out (Nat.le_refl _)); clear ot1 oy1 ap1 hb1)
                    | (at_lookup; refine wpList_lookup_own_int _ rfl _ _ 24 rfl 3 25 .u64 Nm.lawI Try.underlying24 Try.underlying25 (Nm.zeroU _) u4.heap.size k D rfl HOW1.out _ _ rfl (keyOf_int_mk Try.underlying3 HZ.out) ?_; intro c hat hwc; obtain rfl := Nm.far_got hat)
                    | (at_builtin; refine Nm.app_one rfl _ _ rfl u5.heap.size _ _ rfl (HOY1.out.alloc _) w1.heap.size 1 z rfl (heap_alloc_new _ _) _ _ (HOT1.out.alloc _) HAP1.out.symm HL2.out (by have := HB61.out.size; simp; omega) ?_; intro y2 w2 ot1 oy1 ap1 hb1; have HOY2 := Lib.hid ot1; have HOT2 := Lib.hid oy1; have HAP2 := Lib.hid ap1; have HB62 := Lib.hid ((HB61.out.alloc HB61.out.size _).trans hb1); have HOW2 := Lib.hid (HO5.out.below HB62.out (Nat.le_refl _)); clear ot1 oy1 ap1 hb1))
                  go_roundw
                  case rel => exact ⟨j + 1, by omega, by go_num, HB62.out, by rw [← HF1.out]; exact HOT2.out, by rw [← HF2.out]; exact HOY2.out, Lib.hid HAP2.out.symm⟩
                  case measure => simp [intOf]; omega
                · have HF2 : Hid ((z0.take j).filter (fun n => decide (x < Nm.farOf D n)) = (z0.take (j + 1)).filter fun n => decide (x < Nm.farOf D n)) := Lib.hid (by rw [HT.out, List.filter_append]; simp [hc2])
                  go_wp2_with (first
                    | (at_lookup; refine wpList_lookup_own_int _ rfl _ _ 24 rfl 3 25 .u64 Nm.lawI Try.underlying24 Try.underlying25 (Nm.zeroU _) u4.heap.size k D rfl HOW.out _ _ rfl (keyOf_int_mk Try.underlying3 HZ.out) ?_; intro c hat hwc; obtain rfl := Nm.far_got hat)
                    | (at_builtin; refine Nm.app_one rfl _ _ rfl u5.heap.size _ _ rfl (HOT.out.alloc _) wr.heap.size 1 z rfl (heap_alloc_new _ _) _ _ (HOY.out.alloc _) HAP.out HL1.out (by have := HB6.out.size; simp; omega) ?_; intro t1 w1 ot1 oy1 ap1 hb1; have HOT1 := Lib.hid ot1; have HOY1 := Lib.hid oy1; have HAP1 := Lib.hid ap1; have HB61 := Lib.hid ((HB6.out.alloc HB6.out.size _).trans hb1); have HOW1 := Lib.hid (HO5.out.below HB61.out (Nat.le_refl _)); clear ot1 oy1 ap1 hb1)
                    | (at_lookup; refine wpList_lookup_own_int _ rfl _ _ 24 rfl 3 25 .u64 Nm.lawI Try.underlying24 Try.underlying25 (Nm.zeroU _) u4.heap.size k D rfl HOW1.out _ _ rfl (keyOf_int_mk Try.underlying3 HZ.out) ?_; intro c hat hwc; obtain rfl := Nm.far_got hat))
                  go_roundw
                  case rel => exact ⟨j + 1, by omega, by go_num, HB61.out, by rw [← HF1.out]; exact HOT1.out, by rw [← HF2.out]; exact HOY1.out, HAP1⟩
                  case measure => simp [intOf]; omega
              · have hc2 : ¬ x < Nm.farOf D z := by omega
                have HF1 : Hid ((z0.take j).filter (fun n => decide (x ≤ Nm.farOf D n)) = (z0.take (j + 1)).filter fun n => decide (x ≤ Nm.farOf D n)) := Lib.hid (by rw [HT.out, List.filter_append]; simp [hc1])
                have HF2 : Hid ((z0.take j).filter (fun n => decide (x < Nm.farOf D n)) = (z0.take (j + 1)).filter fun n => decide (x < Nm.farOf D n)) := Lib.hid (by rw [HT.out, List.filter_append]; simp [hc2])
                go_wp2_with (at_lookup; refine wpList_lookup_own_int _ rfl _ _ 24 rfl 3 25 .u64 Nm.lawI Try.underlying24 Try.underlying25 (Nm.zeroU _) u4.heap.size k D rfl HOW.out _ _ rfl (keyOf_int_mk Try.underlying3 HZ.out) ?_; intro c hat hwc; obtain rfl := Nm.far_got hat)
                go_roundw
                case rel => exact ⟨j + 1, by omega, by go_num, HB6.out, by rw [← HF1.out]; exact HOT.out, by rw [← HF2.out]; exact HOY.out, HAP⟩
                case measure => simp [intOf]; omega
            · obtain rfl : j = z0.length := by omega
              rw [List.take_length] at hot hoy
              have hwT := hot.sl (fun n hn => HZW.out n (List.mem_filter.1 hn).1)
              have hwY := hoy.sl (fun n hn => HZW.out n (List.mem_filter.1 hn).1)
              have hw6 := HW5.out.below hb (Nat.le_refl _)
              clear HOT HOY hot hoy
              go_wp2_with fail
              refine (Nd.majority_any _ _ z0 _ _ hw6 hwT).mono ?_
              rintro e w7 ⟨rfl, hb7⟩
              rw [HMAJ.out.1]
              have hw7 := hw6.below hb7 (Nat.le_refl _)
              have hwY7 := hwY.below hb7 (Nat.le_refl _)
              go_wp2_with fail
              refine (Nd.majority_any _ _ z0 _ _ hw7 hwY7).mono ?_
              rintro e w8 ⟨rfl, hb8⟩
              rw [HMAJ.out.2]
              have q1 := HB4.out.trans (HB5.out.mono HB4.out.size)
              have q2 := q1.trans (hb.mono q1.size)
              have q3 := q2.trans (hb7.mono q2.size)
              have q4 := q3.trans (hb8.mono q3.size)
              go_wp2
              go_ret
              exact ⟨rfl, q4⟩

set_option maxRecDepth 100000 in
theorem contract (H : Type) (enc : TypeId × Value → H) (W : World) (base : Nat) (args : Array Value) (ds gs : List (DataW H)) (before : List MemPlace)
    (hval0 : ∀ (j : Nat) t v, Try.f4.params[j]? = some t → args[j]? = some v → Value.okWide Try.prog W .any base t v)
    (hW : DataW.Whole enc Try.prog Try.f4.params.toList Rows.nodesReachedSpec.vars false W args.toList ds gs before)
    (hsz0 : (DataW.weightsEach Try.prog (Try.f4.params.toList ++ Rows.nodesReachedSpec.plain.varTypes Try.prog) (ds ++ gs)).all (· ≤ reachBytes) = true) :
    Calls Try.prog 4 args W fun e W' => ∃ v, e = .returned v ∧ Rows.nodesReachedSpec.post enc Try.prog Try.f4 false true false false W args v W' := by
  have hval : ∀ (j : Nat) t v, Try.f4.params[j]? = some t → args[j]? = some v → Value.okWide Try.prog W .any base t v := hval0
  have hW' := hW
  obtain ⟨p, q, hA0, hV, rfl, hfz, hnd⟩ := hW
  have hA : DataW.TrodAll enc Try.prog W 0 (fun _ => true) true Try.f4.params.toList args.toList ds p := hA0
  rw [Try.params4] at hA hval
  have hsz := hsz0
  rw [Try.params4] at hsz
  obtain ⟨v0, vs0, d0, ds0, p0, q0, hargs, rfl, rfl, h0, r0⟩ := trodAll_cons hA
  obtain ⟨v1, vs1, d1, ds1, p1, q1, rfl, rfl, rfl, h1, r1⟩ := trodAll_cons r0
  obtain ⟨rfl, rfl, rfl⟩ := trodAll_nil r1
  obtain rfl : args = #[v0, v1] := by cases args; simp_all
  obtain ⟨rfl, rfl⟩ := trodVars_none hV
  clear hA0 hval0
  have k0 := h0
  have lt0 : ∀ x ∈ p0, x.block < W.heap.size := by obtain ⟨m, hm⟩ := k0; exact DataW.trod_lt m _ _ _ hm
  have k1 := h1
  have lt1 : ∀ x ∈ p1, x.block < W.heap.size := by obtain ⟨m, hm⟩ := k1; exact DataW.trod_lt m _ _ _ hm
  obtain ⟨z0, w0, u00, b00⟩ := open_sl Try.underlying22 Try.underlying3 (by kernel_rfl) (okWide_slice Try.underlying22 (hval 0 22 v0 rfl rfl)).choose_spec.choose_spec.choose_spec k0
  have b0 : z0.length * 8 ≤ 140737488351232 := by
    have := b00 hsz (j := 0) rfl rfl
    rw [show Try.prog.bytesOf 3 = 8 from by kernel_rfl] at this
    simpa [reachBytes] using this
  obtain ⟨z1, w1, u10, b10⟩ := open_sl Try.underlying23 Try.underlying25 (by kernel_rfl) (okWide_slice Try.underlying23 (hval 1 23 v1 rfl rfl)).choose_spec.choose_spec.choose_spec k1
  have b1 : z1.length * 8 ≤ 140737488351232 := by
    have := b10 hsz (j := 1) rfl rfl
    rw [show Try.prog.bytesOf 25 = 8 from by kernel_rfl] at this
    simpa [reachBytes] using this
  refine (walk v0 z0 v1 z1 W w0 b0 w1 b1).mono fun e W' ⟨he, bel⟩ => ?_
  subst he
  exact ⟨_, rfl, _, _, _, [], _, [], hW', trodAll_mk1 (shut_bool Try.underlying4 _), (trodAll_cons_mk (Below.trod laidOut (by kernel_rfl) (of_decide_eq_true (by kernel_rfl)) k0 bel lt0) (trodAll_cons_mk (Below.trod laidOut (by kernel_rfl) (of_decide_eq_true (by kernel_rfl)) k1 bel lt1) trodAll_mk0)), rfl, bel.frame _, fun h => by cases h⟩

set_option maxRecDepth 100000 in
theorem lifted (os : Os) (started : os.Started) (H : Type) (enc : TypeId × Value → H) :
    ReturnsInHanded {} Try.checked os 4 .any (Rows.nodesReachedSpec.pre6 enc Try.prog Try.f4 Rows.nodesReachedRow.domain false) (Rows.nodesReachedSpec.post enc Try.prog Try.f4 false true false false) := by
  refine returnsInHanded_of_change_sized (C := Try.checked) own started (by kernel_rfl) Try.func4
    (ChangeSpec.witness6 (enc := enc) (C := Try.checked) false ⟨#[], #[.slice none 0 0, .slice none 0 0], []⟩ 8 (by kernel_rfl) (by kernel_rfl) (by kernel_rfl) (by kernel_rfl)) ?_
  intro W base args ds gs before hval0 hW hcnd hsz _
  exact contract H enc W base args ds gs before hval0 hW hsz

theorem proved : Rows.NodesReachedSaid :=
  OpenClaim.holds_of_wide 4 Try.f4 rfl rfl rfl rfl rfl rfl rfl ⟨rfl, rfl, rfl, rfl, rfl⟩ rfl rfl rfl rfl rfl (by kernel_rfl) Try.func4 (by kernel_rfl)
    (of_decide_eq_true (by kernel_rfl)) (by unfold Func.isWrapper; first | (rw [if_pos (by decide +kernel)]; kernel_rfl) | (rw [if_neg (by decide +kernel)]; exact ⟨rfl, rfl⟩))
    (fun os started H enc _ => lifted os started H enc)
end Go.Proofs.Ytogebbplfoainaa.nodesReached
