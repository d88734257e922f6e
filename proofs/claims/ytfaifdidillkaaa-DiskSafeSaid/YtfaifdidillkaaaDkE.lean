/- Package disk: Append. No condition. -/
import Derived.Test.YtfaifdidillkaaaDkD
namespace Go.Proofs.Ytfaifdidillkaaa
open Go.ChangeShapes Go.WideShapes Go.ChangeAt Go.RowKit Go.Deep
set_option linter.unusedVariables false
set_option maxRecDepth 100000
set_option linter.unusedSimpArgs false
namespace Dk
variable {w w' : World} {S : Nat → Prop} {p m : Nat} {V : ByteArray → Value} {on : Bool} {left : Int} {F : List Fl} {n : Nat}
theorem DkV.len (h : DkV w S p m V on left F) (hs : OkF n F) (ty : TypeId) : (Builtin.len_ #[mF] ty #[.map (some m)]).run Try.prog w = .ok (.int .i64 (F.length : Int)) w := by
  obtain ⟨es, clock, hb, hsz, -⟩ := Mp.MapF.card h.map KS (names_dom hs)
  rw [List.length_map] at hsz
  simp [Builtin.len_, run_underlying Try.underlying50, MapKept.run_getObj_map hb, goInt, Result.andThen, hsz]
/-- what Append answers, and leaves -/
structure St where
  on : Bool
  left : Int
  F : List Fl
def fullB (F : List Fl) (x : ByteArray) (zs : List Int) : Bool := !(fndL F x).isSome && (decide (0 < zs.length) && decide (64 ≤ F.length))
def appE (s : St) (x : ByteArray) (zs : List Int) : Int := if s.on = false then 7 else if nameB x = false then 1 else if fullB s.F x zs = true then 5 else if s.left = -1 then 0 else if s.left < zs.length then 7 else 0
def appS (s : St) (x : ByteArray) (zs : List Int) : St := if s.on = false then s else if nameB x = false then s else if fullB s.F x zs = true then s else if s.left = -1 then ⟨true, -1, addF s.F x zs⟩ else if s.left < zs.length then ⟨false, -1, addF s.F x (zs.take s.left.toNat)⟩ else ⟨true, s.left - zs.length, addF s.F x zs⟩
def LeftS (S : Nat → Prop) (p m : Nat) (w w' : World) (s : St) : Prop := Left S p m w w' s.on s.left s.F
def leftOk (left : Int) : Prop := -1 ≤ left ∧ left ≤ 9223372036854775807
set_option maxHeartbeats 16000000 in
theorem append_any (x : ByteArray) (vb : Value) (zs : List Int) (w : World) (h : DkV w S p m V on left F) (hs : OkF n F) (hx : x.size ≤ maxLen) (hb : SlR 1 byC w vb zs) (hwf : ∀ z ∈ zs, (Lit.int .u8 z).wf = true) (hn : n + zs.length ≤ 1000000000) (hle : leftOk left) :
    Calls Try.prog 17 #[.pointer (some ⟨p, 0, none⟩), .string x, vb] w fun e w' => e = .returned (.int .i64 (appE ⟨on, left, F⟩ x zs)) ∧ LeftS S p m w w' (appS ⟨on, left, F⟩ x zs) := by
  have HBS := Lib.hid hb
  obtain ⟨ab, cb, rfl, hb1, hb2, -⟩ := id hb
  unfold maxLen at hb2
  have H := Lib.hid h
  have HS := Lib.hid hs
  have HX := Lib.hid hx
  have HWF := Lib.hid hwf
  have HNN := Lib.hid hn
  have HLE := Lib.hid hle
  clear hb hs hwf hle
  cases on
  · have HE : Hid (appE ⟨false, left, F⟩ x zs = 7 ∧ appS ⟨false, left, F⟩ x zs = ⟨false, left, F⟩) := Lib.hid ⟨rfl, rfl⟩
    clear h
    go_enter Try.func17, Try.ntmps17
    go_wp2_with fail
    refine (on_any _ H.out).mono ?_
    rintro e w2 ⟨rfl, rfl⟩
    go_wp2_with fail
    go_ret
    exact ⟨by rw [HE.out.1]; rfl, by rw [HE.out.2]; exact H.out.leftB (Below.refl _ _)⟩
  cases hnm : nameB x
  · have HE : Hid (appE ⟨true, left, F⟩ x zs = 1 ∧ appS ⟨true, left, F⟩ x zs = ⟨true, left, F⟩) := Lib.hid ⟨by unfold appE; simp [hnm], by unfold appS; simp [hnm]⟩
    have HNM := Lib.hid hnm
    clear h hnm
    go_enter Try.func17, Try.ntmps17
    go_wp2_with fail
    refine (on_any _ H.out).mono ?_
    rintro e w2 ⟨rfl, rfl⟩
    go_wp2_with fail
    refine (name_any x _ HX.out).mono ?_
    rintro e w2 ⟨rfl, rfl⟩
    rw [HNM.out]
    go_wp2_with fail
    go_ret
    exact ⟨by rw [HE.out.1]; rfl, by rw [HE.out.2]; exact H.out.leftB (Below.refl _ _)⟩
  have HNM := Lib.hid hnm
  obtain ⟨a, cc, hlk, -⟩ := h.old x hx
  have hl := hlk true
  rw [if_pos rfl] at hl
  obtain ⟨L, hL⟩ : ∃ q, (oldF F x).zs.length = q := ⟨_, rfl⟩
  obtain ⟨sf, hsf⟩ : ∃ q, ((oldF F x).safe : Int) = q := ⟨_, rfl⟩
  obtain ⟨bs, hbs⟩ : ∃ q, (fndL F x).isSome = q := ⟨_, rfl⟩
  rw [hL, hsf, hbs] at hl
  have HBS2 := Lib.hid hbs
  obtain ⟨W3, hW3⟩ : ∃ q, w.alloc (.cells #[.slice a L cc, .int .i64 sf] TF) = q := ⟨_, rfl⟩
  have hb3 : Below w.heap.size w W3 := by rw [← hW3]; exact (Below.refl _ _).alloc (Nat.le_refl _) _
  have HB3 := Lib.hid hb3
  have H3 := Lib.hid ((H.out.below hb3).grow (w := w))
  have HL3 := Lib.hid (H.out.leftB hb3)
  have HR3 := Lib.hid (HBS.out.below hb3 (Nat.le_refl _))
  have c0 := H.out.c0
  have c3 := H3.out.c0
  have c32 := H3.out.c2
  have hlen := H3.out.len HS.out 3
  obtain ⟨K, hK⟩ : ∃ q, F.length = q := ⟨_, rfl⟩
  rw [hK] at hlen
  have HKK := Lib.hid hK
  have HS3 : Hid (OkF n F) := HS
  have hlr := HLE.out
  unfold leftOk at hlr
  clear h hb3 hnm hlk hL hsf hbs hx hn hK
  by_cases hfull : (!bs && (decide (0 < zs.length) && decide (64 ≤ K))) = true
  · have HE : Hid (appE ⟨true, left, F⟩ x zs = 5 ∧ appS ⟨true, left, F⟩ x zs = ⟨true, left, F⟩) := Lib.hid (by
      have hf : fullB F x zs = true := by unfold fullB; rw [HBS2.out, HKK.out]; exact hfull
      exact ⟨by unfold appE; simp [HNM.out, hf], by unfold appS; simp [HNM.out, hf]⟩)
    simp only [Bool.and_eq_true, Bool.not_eq_true', decide_eq_true_eq] at hfull
    obtain ⟨rfl, hz0, hk64⟩ := hfull
    have d1 : decide ((0 : Int) < (zs.length : Int)) = true := decide_eq_true (by omega)
    have d2 : decide ((64 : Int) ≤ (K : Int)) = true := decide_eq_true (by omega)
    go_enter Try.func17, Try.ntmps17
    go_wp2_with fail
    refine (on_any _ H.out).mono ?_
    rintro e w2 ⟨rfl, rfl⟩
    go_wp2_with fail
    refine (name_any x _ HX.out).mono ?_
    rintro e w2 ⟨rfl, rfl⟩
    rw [HNM.out]
    go_wp2_with fail
    go_ret
    exact ⟨by rw [HE.out.1]; rfl, by rw [HE.out.2]; exact HL3.out⟩
  have HC : Hid (zs.length = 0 ∨ (fndL F x).isSome = true ∨ F.length < 64) := Lib.hid (by
    rw [HBS2.out, HKK.out]
    by_cases q1 : bs = true
    · exact .inr (.inl q1)
    · have q1' : bs = false := by simpa using q1
      by_cases q2 : zs.length = 0
      · exact .inl q2
      · by_cases q3 : K < 64
        · exact .inr (.inr q3)
        · exact absurd (by rw [q1', decide_eq_true (show 0 < zs.length by omega), decide_eq_true (show 64 ≤ K by omega)]; rfl) hfull)
  have HNF : Hid (fullB F x zs = false) := Lib.hid (by unfold fullB; rw [HBS2.out, HKK.out]; simpa using hfull)
  have hpar : (bs = true) ∨ (bs = false ∧ zs = []) ∨ (bs = false ∧ 0 < zs.length ∧ K < 64) := by
    rcases HC.out with q | q | q
    · cases bs
      · exact .inr (.inl ⟨rfl, List.length_eq_zero_iff.1 q⟩)
      · exact .inl rfl
    · exact .inl (by rw [← HBS2.out]; exact q)
    · cases bs
      · by_cases q2 : zs = []
        · exact .inr (.inl ⟨rfl, q2⟩)
        · exact .inr (.inr ⟨rfl, List.length_pos_iff.2 q2, by rw [← HKK.out]; exact q⟩)
      · exact .inl rfl
  clear hfull
  by_cases hm1 : left = -1
  · subst hm1
    have HE : Hid (appE ⟨true, -1, F⟩ x zs = 0 ∧ appS ⟨true, -1, F⟩ x zs = ⟨true, -1, addF F x zs⟩) := Lib.hid ⟨by unfold appE; simp [HNM.out, HNF.out], by unfold appS; simp [HNM.out, HNF.out]⟩
    rcases hpar with rfl | ⟨rfl, hz⟩ | ⟨rfl, hz0, hk64⟩
    · go_enter Try.func17, Try.ntmps17
      go_wp2_with fail
      refine (on_any _ H.out).mono ?_
      rintro e w2 ⟨rfl, rfl⟩
      go_wp2_with fail
      refine (name_any x _ HX.out).mono ?_
      rintro e w2 ⟨rfl, rfl⟩
      rw [HNM.out]
      go_wp2_with fail
      refine (add_any x _ zs W3 H3.out HS.out HNM.out HR3.out HWF.out HNN.out HC.out).mono ?_
      rintro e w4 ⟨rfl, hl4⟩
      have HL4 := Lib.hid (HL3.out.trans hl4)
      clear hl4
      go_wp2_with fail
      go_ret
      exact ⟨by rw [HE.out.1]; rfl, by rw [HE.out.2]; exact HL4.out⟩
    · have e1 : decide ((0 : Int) < (zs.length : Int)) = false := by rw [hz]; rfl
      have e2 : decide (0 < zs.length) = false := by rw [hz]; rfl
      clear hz
      go_enter Try.func17, Try.ntmps17
      go_wp2_with fail
      refine (on_any _ H.out).mono ?_
      rintro e w2 ⟨rfl, rfl⟩
      go_wp2_with fail
      refine (name_any x _ HX.out).mono ?_
      rintro e w2 ⟨rfl, rfl⟩
      rw [HNM.out]
      go_wp2_with fail
      refine (add_any x _ zs W3 H3.out HS.out HNM.out HR3.out HWF.out HNN.out HC.out).mono ?_
      rintro e w4 ⟨rfl, hl4⟩
      have HL4 := Lib.hid (HL3.out.trans hl4)
      clear hl4
      go_wp2_with fail
      go_ret
      exact ⟨by rw [HE.out.1]; rfl, by rw [HE.out.2]; exact HL4.out⟩
    · have e1 : decide ((0 : Int) < (zs.length : Int)) = true := decide_eq_true (by omega)
      have e2 : decide ((64 : Int) ≤ (K : Int)) = false := decide_eq_false (by omega)
      have e3 : decide (64 ≤ K) = false := decide_eq_false (by omega)
      go_enter Try.func17, Try.ntmps17
      go_wp2_with fail
      refine (on_any _ H.out).mono ?_
      rintro e w2 ⟨rfl, rfl⟩
      go_wp2_with fail
      refine (name_any x _ HX.out).mono ?_
      rintro e w2 ⟨rfl, rfl⟩
      rw [HNM.out]
      go_wp2_with fail
      refine (add_any x _ zs W3 H3.out HS.out HNM.out HR3.out HWF.out HNN.out HC.out).mono ?_
      rintro e w4 ⟨rfl, hl4⟩
      have HL4 := Lib.hid (HL3.out.trans hl4)
      clear hl4
      go_wp2_with fail
      go_ret
      exact ⟨by rw [HE.out.1]; rfl, by rw [HE.out.2]; exact HL4.out⟩
  obtain ⟨k, rfl⟩ : ∃ k : Nat, left = (k : Int) := ⟨left.toNat, by omega⟩
  have d8 : ((k : Int) == -1) = false := by simp <;> omega
  clear hm1
  by_cases hlt : k < zs.length
  · have hlti : (k : Int) < (zs.length : Int) := by omega
    have hkc : k ≤ cb := by omega
    have hkc2 : (k : Int) ≤ (cb : Int) := by omega
    have HTK : Hid ((zs.take k).length = k ∧ k < zs.length) := Lib.hid ⟨by rw [List.length_take]; omega, hlt⟩
    have HE : Hid (appE ⟨true, k, F⟩ x zs = 7 ∧ appS ⟨true, k, F⟩ x zs = ⟨false, -1, addF F x (zs.take k)⟩) := Lib.hid ⟨by unfold appE; simp only [HNM.out, HNF.out]; rw [if_neg (by simp), if_neg (by simp), if_neg (by simp), if_neg (by omega), if_pos hlti], by unfold appS; simp only [HNM.out, HNF.out]; rw [if_neg (by simp), if_neg (by simp), if_neg (by simp), if_neg (by omega), if_pos hlti, Int.toNat_natCast]⟩
    rcases hpar with rfl | ⟨rfl, hz⟩ | ⟨rfl, hz0, hk64⟩
    · go_enter Try.func17, Try.ntmps17
      go_wp2_with fail
      refine (on_any _ H.out).mono ?_
      rintro e w2 ⟨rfl, rfl⟩
      go_wp2_with fail
      refine (name_any x _ HX.out).mono ?_
      rintro e w2 ⟨rfl, rfl⟩
      rw [HNM.out]
      go_wp2_with fail
      refine (add_any x _ (zs.take k) W3 H3.out HS.out HNM.out (slr_take HR3.out k (Nat.le_of_lt HTK.out.2)) (fun z hz => HWF.out z (List.mem_of_mem_take hz)) (by have := HNN.out; have := HTK.out; omega) (by
        rcases HC.out with q | q
        · have := HTK.out; omega
        · exact .inr q)).mono ?_
      rintro e w4 ⟨rfl, hl4⟩
      have HL4 := Lib.hid (HL3.out.trans hl4)
      obtain ⟨⟨V4, hv4⟩, -⟩ := HL4.out
      have HV4 := Lib.hid hv4
      clear hl4 hv4
      go_wp2_with fail
      refine (off_any w4 HV4.out).mono ?_
      rintro e w5 ⟨rfl, hv5, ho5⟩
      have HL5 := Lib.hid (HL4.out.trans (DkV.only_left hv5 ho5))
      clear hv5 ho5
      go_wp2_with fail
      go_ret
      exact ⟨by rw [HE.out.1]; rfl, by rw [HE.out.2]; exact HL5.out⟩
    · have e1 : decide ((0 : Int) < (zs.length : Int)) = false := by rw [hz]; rfl
      have e2 : decide (0 < zs.length) = false := by rw [hz]; rfl
      clear hz
      go_enter Try.func17, Try.ntmps17
      go_wp2_with fail
      refine (on_any _ H.out).mono ?_
      rintro e w2 ⟨rfl, rfl⟩
      go_wp2_with fail
      refine (name_any x _ HX.out).mono ?_
      rintro e w2 ⟨rfl, rfl⟩
      rw [HNM.out]
      go_wp2_with fail
      refine (add_any x _ (zs.take k) W3 H3.out HS.out HNM.out (slr_take HR3.out k (Nat.le_of_lt HTK.out.2)) (fun z hz => HWF.out z (List.mem_of_mem_take hz)) (by have := HNN.out; have := HTK.out; omega) (by
        rcases HC.out with q | q
        · have := HTK.out; omega
        · exact .inr q)).mono ?_
      rintro e w4 ⟨rfl, hl4⟩
      have HL4 := Lib.hid (HL3.out.trans hl4)
      obtain ⟨⟨V4, hv4⟩, -⟩ := HL4.out
      have HV4 := Lib.hid hv4
      clear hl4 hv4
      go_wp2_with fail
      refine (off_any w4 HV4.out).mono ?_
      rintro e w5 ⟨rfl, hv5, ho5⟩
      have HL5 := Lib.hid (HL4.out.trans (DkV.only_left hv5 ho5))
      clear hv5 ho5
      go_wp2_with fail
      go_ret
      exact ⟨by rw [HE.out.1]; rfl, by rw [HE.out.2]; exact HL5.out⟩
    · have e1 : decide ((0 : Int) < (zs.length : Int)) = true := decide_eq_true (by omega)
      have e2 : decide ((64 : Int) ≤ (K : Int)) = false := decide_eq_false (by omega)
      have e3 : decide (64 ≤ K) = false := decide_eq_false (by omega)
      go_enter Try.func17, Try.ntmps17
      go_wp2_with fail
      refine (on_any _ H.out).mono ?_
      rintro e w2 ⟨rfl, rfl⟩
      go_wp2_with fail
      refine (name_any x _ HX.out).mono ?_
      rintro e w2 ⟨rfl, rfl⟩
      rw [HNM.out]
      go_wp2_with fail
      refine (add_any x _ (zs.take k) W3 H3.out HS.out HNM.out (slr_take HR3.out k (Nat.le_of_lt HTK.out.2)) (fun z hz => HWF.out z (List.mem_of_mem_take hz)) (by have := HNN.out; have := HTK.out; omega) (by
        rcases HC.out with q | q
        · have := HTK.out; omega
        · exact .inr q)).mono ?_
      rintro e w4 ⟨rfl, hl4⟩
      have HL4 := Lib.hid (HL3.out.trans hl4)
      obtain ⟨⟨V4, hv4⟩, -⟩ := HL4.out
      have HV4 := Lib.hid hv4
      clear hl4 hv4
      go_wp2_with fail
      refine (off_any w4 HV4.out).mono ?_
      rintro e w5 ⟨rfl, hv5, ho5⟩
      have HL5 := Lib.hid (HL4.out.trans (DkV.only_left hv5 ho5))
      clear hv5 ho5
      go_wp2_with fail
      go_ret
      exact ⟨by rw [HE.out.1]; rfl, by rw [HE.out.2]; exact HL5.out⟩
  have hlti : ¬ (k : Int) < (zs.length : Int) := by omega
  have HLT := Lib.hid hlt
  have HE : Hid (appE ⟨true, k, F⟩ x zs = 0 ∧ appS ⟨true, k, F⟩ x zs = ⟨true, (k : Int) - zs.length, addF F x zs⟩) := Lib.hid ⟨by unfold appE; simp only [HNM.out, HNF.out]; rw [if_neg (by simp), if_neg (by simp), if_neg (by simp), if_neg (by omega), if_neg hlti], by unfold appS; simp only [HNM.out, HNF.out]; rw [if_neg (by simp), if_neg (by simp), if_neg (by simp), if_neg (by omega), if_neg hlti]⟩
  rcases hpar with rfl | ⟨rfl, hz⟩ | ⟨rfl, hz0, hk64⟩
  · go_enter Try.func17, Try.ntmps17
    go_wp2_with fail
    refine (on_any _ H.out).mono ?_
    rintro e w2 ⟨rfl, rfl⟩
    go_wp2_with fail
    refine (name_any x _ HX.out).mono ?_
    rintro e w2 ⟨rfl, rfl⟩
    rw [HNM.out]
    go_wp2_with fail
    refine (add_any x _ zs W3 H3.out HS.out HNM.out HR3.out HWF.out HNN.out HC.out).mono ?_
    rintro e w4 ⟨rfl, hl4⟩
    have HL4 := Lib.hid (HL3.out.trans hl4)
    obtain ⟨⟨V4, hv4⟩, -⟩ := HL4.out
    have c42 := hv4.c2
    have z42 := hv4.z 2
    have hv5 : DkV (w4.setCell ⟨p, 2, none⟩ (.int .i64 ((k : Int) - zs.length))) (Grow S w2 w4) p m V4 true ((k : Int) - zs.length) (addF F x zs) := hv4.turn (fun j hj => by unfold dkV; match j, hj with
      | 0, _ => rfl
      | 1, _ => rfl
      | 2, _ => rfl)
    have HL5 := Lib.hid (HL4.out.trans (DkV.only_left hv5 (Only.setCell w4 ⟨p, 2, none⟩ _ rfl)))
    have hsb : -9223372036854775808 ≤ (k : Int) - zs.length ∧ (k : Int) - zs.length ≤ 9223372036854775807 := by omega
    clear hl4 hv4 hv5
    go_wp2_with fail
    go_ret
    exact ⟨by rw [HE.out.1]; rfl, by rw [HE.out.2]; exact HL5.out⟩
  · have e1 : decide ((0 : Int) < (zs.length : Int)) = false := by rw [hz]; rfl
    have e2 : decide (0 < zs.length) = false := by rw [hz]; rfl
    clear hz
    go_enter Try.func17, Try.ntmps17
    go_wp2_with fail
    refine (on_any _ H.out).mono ?_
    rintro e w2 ⟨rfl, rfl⟩
    go_wp2_with fail
    refine (name_any x _ HX.out).mono ?_
    rintro e w2 ⟨rfl, rfl⟩
    rw [HNM.out]
    go_wp2_with fail
    refine (add_any x _ zs W3 H3.out HS.out HNM.out HR3.out HWF.out HNN.out HC.out).mono ?_
    rintro e w4 ⟨rfl, hl4⟩
    have HL4 := Lib.hid (HL3.out.trans hl4)
    obtain ⟨⟨V4, hv4⟩, -⟩ := HL4.out
    have c42 := hv4.c2
    have z42 := hv4.z 2
    have hv5 : DkV (w4.setCell ⟨p, 2, none⟩ (.int .i64 ((k : Int) - zs.length))) (Grow S w2 w4) p m V4 true ((k : Int) - zs.length) (addF F x zs) := hv4.turn (fun j hj => by unfold dkV; match j, hj with
      | 0, _ => rfl
      | 1, _ => rfl
      | 2, _ => rfl)
    have HL5 := Lib.hid (HL4.out.trans (DkV.only_left hv5 (Only.setCell w4 ⟨p, 2, none⟩ _ rfl)))
    have hsb : -9223372036854775808 ≤ (k : Int) - zs.length ∧ (k : Int) - zs.length ≤ 9223372036854775807 := by omega
    clear hl4 hv4 hv5
    go_wp2_with fail
    go_ret
    exact ⟨by rw [HE.out.1]; rfl, by rw [HE.out.2]; exact HL5.out⟩
  · have e1 : decide ((0 : Int) < (zs.length : Int)) = true := decide_eq_true (by omega)
    have e2 : decide ((64 : Int) ≤ (K : Int)) = false := decide_eq_false (by omega)
    have e3 : decide (64 ≤ K) = false := decide_eq_false (by omega)
    go_enter Try.func17, Try.ntmps17
    go_wp2_with fail
    refine (on_any _ H.out).mono ?_
    rintro e w2 ⟨rfl, rfl⟩
    go_wp2_with fail
    refine (name_any x _ HX.out).mono ?_
    rintro e w2 ⟨rfl, rfl⟩
    rw [HNM.out]
    go_wp2_with fail
    refine (add_any x _ zs W3 H3.out HS.out HNM.out HR3.out HWF.out HNN.out HC.out).mono ?_
    rintro e w4 ⟨rfl, hl4⟩
    have HL4 := Lib.hid (HL3.out.trans hl4)
    obtain ⟨⟨V4, hv4⟩, -⟩ := HL4.out
    have c42 := hv4.c2
    have z42 := hv4.z 2
    have hv5 : DkV (w4.setCell ⟨p, 2, none⟩ (.int .i64 ((k : Int) - zs.length))) (Grow S w2 w4) p m V4 true ((k : Int) - zs.length) (addF F x zs) := hv4.turn (fun j hj => by unfold dkV; match j, hj with
      | 0, _ => rfl
      | 1, _ => rfl
      | 2, _ => rfl)
    have HL5 := Lib.hid (HL4.out.trans (DkV.only_left hv5 (Only.setCell w4 ⟨p, 2, none⟩ _ rfl)))
    have hsb : -9223372036854775808 ≤ (k : Int) - zs.length ∧ (k : Int) - zs.length ≤ 9223372036854775807 := by omega
    clear hl4 hv4 hv5
    go_wp2_with fail
    go_ret
    exact ⟨by rw [HE.out.1]; rfl, by rw [HE.out.2]; exact HL5.out⟩
end Dk
end Go.Proofs.Ytfaifdidillkaaa
