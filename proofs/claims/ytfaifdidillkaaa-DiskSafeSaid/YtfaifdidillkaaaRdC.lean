/- The document's disk: Name, Append, Read, Set. No condition. -/
import Derived.Test.YtfaifdidillkaaaRdB
namespace Go.Proofs.Ytfaifdidillkaaa
open Go.ChangeShapes Go.WideShapes Go.ChangeAt Go.RowKit Go.Deep
set_option linter.unusedVariables false
set_option maxRecDepth 100000
set_option linter.unusedSimpArgs false
namespace Rk
open Dk
variable {w w' : World} {S : Nat → Prop} {q : Nat} {vF : Value} {arm : Int} {off : Bool} {F : List Fl} {n : Nat}
set_option maxHeartbeats 4000000 in
theorem rname_any (s : ByteArray) (w : World) (hs : s.size ≤ maxLen) : Calls Try.prog 37 #[.string s] w fun e w' => e = .returned (.bool (nameB s)) ∧ w' = w := by
  unfold maxLen at hs
  go_enter Try.func37, Try.ntmps37
  go_wp2
  go_loop [3] (fun i => ∃ k : Nat, k ≤ s.size ∧ i = .int .i64 (k : Int) ∧ Hid ((s.data.toList.take k).all okc = true)) (fun i => s.size - (intOf i).toNat)
  case atStart => exact ⟨0, Nat.zero_le _, rfl, Lib.hid rfl⟩
  case round =>
    obtain ⟨k, hk, rfl, HA⟩ := hrel
    by_cases hlt : k < s.size
    · have hlti : (k : Int) < (s.size : Int) := by omega
      have ht : (s.data.toList.take (k + 1)).all okc = ((s.data.toList.take k).all okc && okc s[k]) := by
        rw [List.take_add_one, List.getElem?_eq_getElem (by simpa using hlt), List.all_append]
        simp
        rfl
      have HT := Lib.hid ht
      have HF : Hid (okc s[k] = false → nameB s = false) := Lib.hid (fun q => by
        unfold nameB
        have : s.data.toList.all okc = false := List.all_eq_false.2 ⟨s[k], by rw [Array.mem_toList_iff]; exact Array.getElem_mem hlt, by rw [q]; decide⟩
        rw [this, Bool.and_false])
      clear ht
      go_wp2
      all_goals (try simp only [Bool.not_eq_true', Bool.not_eq_false', Bool.not_eq_eq_eq_not, Bool.not_true, Bool.not_false, decide_eq_true_eq, decide_eq_false_iff_not] at *)
      all_goals first
        | (go_round
           case rel => exact ⟨k + 1, by omega, by go_num, Lib.hid (by rw [HT.out, HA.out]; simp only [okc, Bool.true_and, Bool.or_eq_true, Bool.and_eq_true, decide_eq_true_eq]; omega)⟩
           case measure => simp [intOf]; omega)
        | (go_ret
           exact ⟨by rw [HF.out (by simp only [okc, Bool.or_eq_false_iff, Bool.and_eq_false_iff, decide_eq_false_iff_not]; omega)]; rfl, rfl⟩)
    · obtain rfl : k = s.size := by omega
      have hall : s.data.toList.all okc = true := by
        have := HA.out
        rwa [List.take_of_length_le (by simp)] at this
      by_cases h1 : 1 ≤ s.size
      · by_cases h2 : s.size ≤ 12
        · have hn : Hid (nameB s = true) := Lib.hid (by unfold nameB; rw [hall, decide_eq_true h1, decide_eq_true h2]; rfl)
          have e1 : decide ((1 : Int) ≤ (s.size : Int)) = true := decide_eq_true (by omega)
          have e2 : decide ((s.size : Int) ≤ 12) = true := decide_eq_true (by omega)
          have e3 : decide (1 ≤ s.size) = true := decide_eq_true h1
          have e4 : decide (s.size ≤ 12) = true := decide_eq_true h2
          go_wp2
          go_ret
          exact ⟨by rw [hn.out]; rfl, rfl⟩
        · have hn : Hid (nameB s = false) := Lib.hid (by unfold nameB; rw [decide_eq_false h2]; simp)
          have e1 : decide ((1 : Int) ≤ (s.size : Int)) = true := decide_eq_true (by omega)
          have e2 : decide ((s.size : Int) ≤ 12) = false := decide_eq_false (by omega)
          have e3 : decide (1 ≤ s.size) = true := decide_eq_true h1
          have e4 : decide (s.size ≤ 12) = false := decide_eq_false h2
          go_wp2
          go_ret
          exact ⟨by rw [hn.out]; rfl, rfl⟩
      · have hn : Hid (nameB s = false) := Lib.hid (by unfold nameB; rw [decide_eq_false h1]; simp)
        have e1 : decide ((1 : Int) ≤ (s.size : Int)) = false := decide_eq_false (by omega)
        have e3 : decide (1 ≤ s.size) = false := decide_eq_false h1
        have e5 : decide (0 < s.size) = false := decide_eq_false (by omega)
        go_wp2
        go_ret
        exact ⟨by rw [hn.out]; rfl, rfl⟩
theorem ext_take (zs : List Int) (k : Nat) : (strOfNums zs).extract 0 k = strOfNums (zs.take k) := by
  apply ByteArray.ext
  apply Array.toList_inj.1
  rw [ByteArray.data_extract, Array.toList_extract, strOfNums_data, strOfNums_data]
  simp [List.extract, List.map_take]
/-- what FindP says of the sign -/
theorem FindP.sgn {x : ByteArray} {z : Int} (h : FindP F x z) : decide (z < 0) = !(fndL F x).isSome := by
  rcases h with ⟨rfl, h⟩ | ⟨k, f, rfl, -, -, h⟩
  · rw [h]; rfl
  · rw [h]; simp <;> omega
set_option maxHeartbeats 16000000 in
theorem rappend_any (x : ByteArray) (zs : List Int) (w : World) (h : RdV w S q vF arm off F) (hs : OkF n F) (hx : x.size ≤ maxLen) (hwf : ∀ z ∈ zs, (Lit.int .u8 z).wf = true) (hn : n + zs.length ≤ 1000000000) (hle : leftOk arm) :
    Calls Try.prog 20 #[.pointer (some ⟨q, 0, none⟩), .string x, .string (strOfNums zs)] w fun e w' => e = .returned (.int .i64 (appE ⟨!off, arm, F⟩ x zs)) ∧ RLeftS S q w w' (appS ⟨!off, arm, F⟩ x zs) := by
  have H := Lib.hid h
  have HS := Lib.hid hs
  have HX := Lib.hid hx
  have HWF := Lib.hid hwf
  have HNN := Lib.hid hn
  have HLE := Lib.hid hle
  have hnil := str_nil zs
  have hsz : (strOfNums zs).size = zs.length := strOfNums_size zs
  have c2 := h.c2
  clear h hs hwf hle
  cases off
  case true =>
    have HE : Hid (appE ⟨!true, arm, F⟩ x zs = 7 ∧ RLeftS S q w w (appS ⟨!true, arm, F⟩ x zs)) := Lib.hid ⟨rfl, H.out.leftB (Below.refl _ _)⟩
    go_enter Try.func20, Try.ntmps20
    go_wp2_with fail
    go_ret
    exact ⟨by rw [HE.out.1]; rfl, HE.out.2⟩
  cases hnm : nameB x
  · have HE : Hid (appE ⟨!false, arm, F⟩ x zs = 1 ∧ RLeftS S q w w (appS ⟨!false, arm, F⟩ x zs)) := Lib.hid ⟨by unfold appE; simp [hnm], by unfold appS RLeftS; simp [hnm]; exact H.out.leftB (Below.refl _ _)⟩
    have HNM := Lib.hid hnm
    clear hnm
    go_enter Try.func20, Try.ntmps20
    go_wp2_with fail
    refine (rname_any x _ HX.out).mono ?_
    rintro e w2 ⟨rfl, rfl⟩
    rw [HNM.out]
    go_wp2_with fail
    go_ret
    exact ⟨by rw [HE.out.1]; rfl, HE.out.2⟩
  have HNM := Lib.hid hnm
  clear hnm
  go_enter Try.func20, Try.ntmps20
  go_wp2_with fail
  refine (rname_any x _ HX.out).mono ?_
  rintro e w2 ⟨rfl, rfl⟩
  rw [HNM.out]
  go_wp2_with fail
  refine (rfind_any x _ H.out HS.out).mono ?_
  rintro e w3 ⟨z, rfl, hfp, hb⟩
  have dz := hfp.sgn
  obtain ⟨bs, hbs⟩ : ∃ b, (fndL F x).isSome = b := ⟨_, rfl⟩
  rw [hbs] at dz
  have HBS := Lib.hid hbs
  have HL3 := Lib.hid (H.out.leftB hb)
  have H3 := Lib.hid (RdV.grow (w := w2) (H.out.below hb))
  obtain ⟨a, cap, hvF⟩ := own_slice H3.out.own
  subst hvF
  have c30 := H3.out.c0
  have c31 := H3.out.c1
  obtain ⟨K, hK⟩ : ∃ k, F.length = k := ⟨_, rfl⟩
  have HKK := Lib.hid hK
  rw [hK] at c30
  clear hfp hb hbs hK c2
  have hlr := HLE.out
  unfold leftOk at hlr
  by_cases hfull : (!bs && (decide (0 < zs.length) && decide (64 ≤ K))) = true
  · have hf : fullB F x zs = true := by unfold fullB; rw [HBS.out, HKK.out]; exact hfull
    have HE : Hid (appE ⟨!false, arm, F⟩ x zs = 5 ∧ RLeftS S q w2 w3 (appS ⟨!false, arm, F⟩ x zs)) := Lib.hid ⟨by unfold appE; simp [HNM.out, hf], by unfold appS RLeftS; simp [HNM.out, hf]; exact HL3.out⟩
    simp only [Bool.and_eq_true, Bool.not_eq_true', decide_eq_true_eq] at hfull
    obtain ⟨rfl, hz0, hk64⟩ := hfull
    rw [decide_eq_false (show ¬ zs.length = 0 by omega)] at hnil
    have d2 : decide ((64 : Int) ≤ (K : Int)) = true := decide_eq_true (by omega)
    have d2b : decide (64 ≤ K) = true := decide_eq_true hk64
    simp only [Bool.not_false, decide_eq_true_eq] at dz
    have dz1 : decide (z < 0) = true := decide_eq_true dz
    clear hf
    go_wp2_with fail
    go_ret
    exact ⟨by rw [HE.out.1]; rfl, HE.out.2⟩
  have HNF : Hid (fullB F x zs = false) := Lib.hid (by unfold fullB; rw [HBS.out, HKK.out]; simpa using hfull)
  have HC := Lib.hid (nf_cond HNF.out)
  have hpar : (bs = true) ∨ (bs = false ∧ zs = []) ∨ (bs = false ∧ 0 < zs.length ∧ K < 64) := by
    rcases HC.out with q | q | q
    · cases bs
      · exact .inr (.inl ⟨rfl, List.length_eq_zero_iff.1 q⟩)
      · exact .inl rfl
    · exact .inl (by rw [← HBS.out]; exact q)
    · cases bs
      · by_cases q2 : zs = []
        · exact .inr (.inl ⟨rfl, q2⟩)
        · exact .inr (.inr ⟨rfl, List.length_pos_iff.2 q2, by rw [← HKK.out]; exact q⟩)
      · exact .inl rfl
  clear hfull
  by_cases hm1 : arm = -1
  · subst hm1
    have HE : Hid (appE ⟨!false, -1, F⟩ x zs = 0 ∧ appS ⟨!false, -1, F⟩ x zs = ⟨true, -1, addF F x zs⟩) := Lib.hid ⟨by unfold appE; simp [HNM.out, HNF.out], by unfold appS; simp [HNM.out, HNF.out]⟩
    rcases hpar with rfl | ⟨rfl, hz⟩ | ⟨rfl, hz0, hk64⟩
    · have dz1 : decide (z < 0) = false := dz
      go_wp2_with fail
      refine (rput_any x zs w3 H3.out HS.out HNN.out HX.out).mono ?_
      rintro e w4 ⟨rfl, hl4⟩
      have HL4 := Lib.hid (HL3.out.trans hl4)
      obtain ⟨⟨V4, hv4⟩, -⟩ := HL4.out
      have c41 := hv4.c1
      clear hl4 hv4
      go_wp2_with fail
      go_ret
      exact ⟨by rw [HE.out.1]; rfl, by rw [HE.out.2]; exact HL4.out⟩
    · have dz1 : decide (z < 0) = true := dz
      rw [hz] at hnil
      have hnil2 : (strOfNums zs).toList.isEmpty = true := by rw [hz]; exact hnil
      clear hz hnil
      go_wp2_with fail
      refine (rput_any x zs w3 H3.out HS.out HNN.out HX.out).mono ?_
      rintro e w4 ⟨rfl, hl4⟩
      have HL4 := Lib.hid (HL3.out.trans hl4)
      obtain ⟨⟨V4, hv4⟩, -⟩ := HL4.out
      have c41 := hv4.c1
      clear hl4 hv4
      go_wp2_with fail
      go_ret
      exact ⟨by rw [HE.out.1]; rfl, by rw [HE.out.2]; exact HL4.out⟩
    · have dz1 : decide (z < 0) = true := dz
      rw [decide_eq_false (show ¬ zs.length = 0 by omega)] at hnil
      have e2 : decide ((64 : Int) ≤ (K : Int)) = false := decide_eq_false (by omega)
      have e3 : decide (64 ≤ K) = false := decide_eq_false (by omega)
      go_wp2_with fail
      refine (rput_any x zs w3 H3.out HS.out HNN.out HX.out).mono ?_
      rintro e w4 ⟨rfl, hl4⟩
      have HL4 := Lib.hid (HL3.out.trans hl4)
      obtain ⟨⟨V4, hv4⟩, -⟩ := HL4.out
      have c41 := hv4.c1
      clear hl4 hv4
      go_wp2_with fail
      go_ret
      exact ⟨by rw [HE.out.1]; rfl, by rw [HE.out.2]; exact HL4.out⟩
  obtain ⟨k, rfl⟩ : ∃ k : Nat, arm = (k : Int) := ⟨arm.toNat, by omega⟩
  have d8 : decide ((0 : Int) ≤ (k : Int)) = true := decide_eq_true (by omega)
  clear hm1
  by_cases hlt : k < zs.length
  · have hlti : (k : Int) < (zs.length : Int) := by omega
    have d9 : decide ((k : Int) < (zs.length : Int)) = true := decide_eq_true hlti
    have d9b : decide (k < zs.length) = true := decide_eq_true hlt
    have HTK : Hid ((zs.take k).length = k ∧ k < zs.length) := Lib.hid ⟨by rw [List.length_take]; omega, hlt⟩
    have HE : Hid (appE ⟨!false, k, F⟩ x zs = 7 ∧ appS ⟨!false, k, F⟩ x zs = ⟨false, -1, addF F x (zs.take k)⟩) := Lib.hid ⟨by unfold appE; simp only [HNM.out, HNF.out]; rw [if_neg (by simp), if_neg (by simp), if_neg (by simp), if_neg (by omega), if_pos hlti], by unfold appS; simp only [HNM.out, HNF.out]; rw [if_neg (by simp), if_neg (by simp), if_neg (by simp), if_neg (by omega), if_pos hlti, Int.toNat_natCast]⟩
    have hks : k ≤ (strOfNums zs).size := by rw [hsz]; omega
    have hks2 : (k : Int) ≤ ((strOfNums zs).size : Int) := by omega
    rcases hpar with rfl | ⟨rfl, hz⟩ | ⟨rfl, hz0, hk64⟩
    · have dz1 : decide (z < 0) = false := dz
      go_wp2_with fail
      rw [ext_take]
      refine (rput_any x (zs.take k) w3 H3.out HS.out (by have := HNN.out; have := HTK.out; omega) HX.out).mono ?_
      rintro e w4 ⟨rfl, hl4⟩
      have HL4 := Lib.hid (HL3.out.trans hl4)
      obtain ⟨⟨V4, hv4⟩, -⟩ := HL4.out
      have c42 := hv4.c2
      have z42 := hv4.z 2
      have HL5 := Lib.hid (HL4.out.trans (hv4.turn2 true))
      obtain ⟨⟨V5, hv5⟩, -⟩ := HL5.out
      have c51 := hv5.c1
      have z51 := hv5.z 1
      have HL6 := Lib.hid (HL5.out.trans (hv5.turn1 (-1)))
      clear hl4 hv4 hv5
      go_wp2_with fail
      go_ret
      exact ⟨by rw [HE.out.1]; rfl, by rw [HE.out.2]; exact HL6.out⟩
    · have dz1 : decide (z < 0) = true := dz
      rw [hz] at hnil
      have hnil2 : (strOfNums zs).toList.isEmpty = true := by rw [hz]; exact hnil
      clear hz hnil
      go_wp2_with fail
      rw [ext_take]
      refine (rput_any x (zs.take k) w3 H3.out HS.out (by have := HNN.out; have := HTK.out; omega) HX.out).mono ?_
      rintro e w4 ⟨rfl, hl4⟩
      have HL4 := Lib.hid (HL3.out.trans hl4)
      obtain ⟨⟨V4, hv4⟩, -⟩ := HL4.out
      have c42 := hv4.c2
      have z42 := hv4.z 2
      have HL5 := Lib.hid (HL4.out.trans (hv4.turn2 true))
      obtain ⟨⟨V5, hv5⟩, -⟩ := HL5.out
      have c51 := hv5.c1
      have z51 := hv5.z 1
      have HL6 := Lib.hid (HL5.out.trans (hv5.turn1 (-1)))
      clear hl4 hv4 hv5
      go_wp2_with fail
      go_ret
      exact ⟨by rw [HE.out.1]; rfl, by rw [HE.out.2]; exact HL6.out⟩
    · have dz1 : decide (z < 0) = true := dz
      rw [decide_eq_false (show ¬ zs.length = 0 by omega)] at hnil
      have e2 : decide ((64 : Int) ≤ (K : Int)) = false := decide_eq_false (by omega)
      have e3 : decide (64 ≤ K) = false := decide_eq_false (by omega)
      go_wp2_with fail
      rw [ext_take]
      refine (rput_any x (zs.take k) w3 H3.out HS.out (by have := HNN.out; have := HTK.out; omega) HX.out).mono ?_
      rintro e w4 ⟨rfl, hl4⟩
      have HL4 := Lib.hid (HL3.out.trans hl4)
      obtain ⟨⟨V4, hv4⟩, -⟩ := HL4.out
      have c42 := hv4.c2
      have z42 := hv4.z 2
      have HL5 := Lib.hid (HL4.out.trans (hv4.turn2 true))
      obtain ⟨⟨V5, hv5⟩, -⟩ := HL5.out
      have c51 := hv5.c1
      have z51 := hv5.z 1
      have HL6 := Lib.hid (HL5.out.trans (hv5.turn1 (-1)))
      clear hl4 hv4 hv5
      go_wp2_with fail
      go_ret
      exact ⟨by rw [HE.out.1]; rfl, by rw [HE.out.2]; exact HL6.out⟩
  have hlti : ¬ (k : Int) < (zs.length : Int) := by omega
  have d9 : decide ((k : Int) < (zs.length : Int)) = false := decide_eq_false hlti
  have d9b : decide (k < zs.length) = false := decide_eq_false hlt
  have HLT := Lib.hid hlt
  have HE : Hid (appE ⟨!false, k, F⟩ x zs = 0 ∧ appS ⟨!false, k, F⟩ x zs = ⟨true, (k : Int) - zs.length, addF F x zs⟩) := Lib.hid ⟨by unfold appE; simp only [HNM.out, HNF.out]; rw [if_neg (by simp), if_neg (by simp), if_neg (by simp), if_neg (by omega), if_neg hlti], by unfold appS; simp only [HNM.out, HNF.out]; rw [if_neg (by simp), if_neg (by simp), if_neg (by simp), if_neg (by omega), if_neg hlti]⟩
  rcases hpar with rfl | ⟨rfl, hz⟩ | ⟨rfl, hz0, hk64⟩
  · have dz1 : decide (z < 0) = false := dz
    go_wp2_with fail
    refine (rput_any x zs w3 H3.out HS.out HNN.out HX.out).mono ?_
    rintro e w4 ⟨rfl, hl4⟩
    have HL4 := Lib.hid (HL3.out.trans hl4)
    obtain ⟨⟨V4, hv4⟩, -⟩ := HL4.out
    have c41 := hv4.c1
    have z41 := hv4.z 1
    have HL5 := Lib.hid (HL4.out.trans (hv4.turn1 ((k : Int) - zs.length)))
    have hsb : -9223372036854775808 ≤ (k : Int) - zs.length ∧ (k : Int) - zs.length ≤ 9223372036854775807 := by omega
    clear hl4 hv4
    go_wp2_with fail
    go_ret
    exact ⟨by rw [HE.out.1]; rfl, by rw [HE.out.2]; exact HL5.out⟩
  · have dz1 : decide (z < 0) = true := dz
    rw [hz] at hnil
    have hnil2 : (strOfNums zs).toList.isEmpty = true := by rw [hz]; exact hnil
    clear hz hnil
    go_wp2_with fail
    refine (rput_any x zs w3 H3.out HS.out HNN.out HX.out).mono ?_
    rintro e w4 ⟨rfl, hl4⟩
    have HL4 := Lib.hid (HL3.out.trans hl4)
    obtain ⟨⟨V4, hv4⟩, -⟩ := HL4.out
    have c41 := hv4.c1
    have z41 := hv4.z 1
    have HL5 := Lib.hid (HL4.out.trans (hv4.turn1 ((k : Int) - zs.length)))
    have hsb : -9223372036854775808 ≤ (k : Int) - zs.length ∧ (k : Int) - zs.length ≤ 9223372036854775807 := by omega
    clear hl4 hv4
    go_wp2_with fail
    go_ret
    exact ⟨by rw [HE.out.1]; rfl, by rw [HE.out.2]; exact HL5.out⟩
  · have dz1 : decide (z < 0) = true := dz
    rw [decide_eq_false (show ¬ zs.length = 0 by omega)] at hnil
    have e2 : decide ((64 : Int) ≤ (K : Int)) = false := decide_eq_false (by omega)
    have e3 : decide (64 ≤ K) = false := decide_eq_false (by omega)
    go_wp2_with fail
    refine (rput_any x zs w3 H3.out HS.out HNN.out HX.out).mono ?_
    rintro e w4 ⟨rfl, hl4⟩
    have HL4 := Lib.hid (HL3.out.trans hl4)
    obtain ⟨⟨V4, hv4⟩, -⟩ := HL4.out
    have c41 := hv4.c1
    have z41 := hv4.z 1
    have HL5 := Lib.hid (HL4.out.trans (hv4.turn1 ((k : Int) - zs.length)))
    have hsb : -9223372036854775808 ≤ (k : Int) - zs.length ∧ (k : Int) - zs.length ≤ 9223372036854775807 := by omega
    clear hl4 hv4
    go_wp2_with fail
    go_ret
    exact ⟨by rw [HE.out.1]; rfl, by rw [HE.out.2]; exact HL5.out⟩
end Rk
end Go.Proofs.Ytfaifdidillkaaa
