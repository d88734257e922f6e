/- The document's Seal, and the law's helper live. Condition: the table octet.steps. -/
import Derived.Test.YtkncjmppilhdlaaDoorFrA
namespace Go.Proofs.YtkncjmppilhdlaaDoor
open Go.ChangeShapes Go.WideShapes Go.ChangeAt Go.RowKit
set_option linter.unusedVariables false
namespace Fr
set_option maxHeartbeats 400000 in
theorem rseal_long (v : Value) (zs : List Int) (w : World) (hs : Sl .u8 w v zs) (hl : 8192 < zs.length) :
    Calls Tryd.prog 10 #[v] w fun e w' => e = .returned (.tuple #[.slice none 0 0, .int .i64 2]) ∧ w = w' := by
  obtain ⟨a, cap, rfl, -⟩ := id hs
  clear hs
  go_enter Tryd.func10, Tryd.ntmps10
  go_wp2
  go_ret2
  exact ⟨rfl, rfl⟩
theorem be4_arr {S : Nat} (h : S < 4294967296) : #[Value.int .u8 ((S : Int) / 16777216), Value.int .u8 ((S : Int) / 65536 % 256), Value.int .u8 ((S : Int) / 256 % 256), Value.int .u8 ((S : Int) % 256)] = ((be4 S).map (Value.int .u8)).toArray := by
  simp [be4]
  omega
theorem sum_lt (l : List Int) : Crc.sum l < 4294967296 := (Crc.crc Crc.start l ^^^ Crc.start).isLt
theorem rhd_arr {n : Nat} (hn : n ≤ 8192) : #[Value.int .u8 (255 - (n : Int) / 256), Value.int .u8 (255 - (n : Int) % 256), Value.int .u8 ((n : Int) / 256), Value.int .u8 ((n : Int) % 256)] = ((hd n).map (Value.int .u8)).toArray := by
  simp [hd]
set_option maxHeartbeats 1000000 in
theorem rseal_any (v : Value) (zs : List Int) (w : World) (hs : Sl .u8 w v zs) (hl : zs.length ≤ 8192) :
    Calls Tryd.prog 10 #[v] w (Sealed zs w) := by
  have HWF := Lib.hid (sealL_wf hl hs.wf)
  have HHW := Lib.hid (wf_app (hd_wf hl) hs.wf)
  have HHD := Lib.hid (rhd_arr hl)
  have HS := Lib.hid (fun o => hs.below ((Below.refl _ _).alloc (Nat.le_refl _) o) (Nat.le_refl _))
  have HSUM := Lib.hid (sum_lt (hd zs.length ++ zs))
  obtain ⟨a, cap, rfl, -⟩ := id hs
  clear hs
  go_enter Tryd.func10, Tryd.ntmps10
  go_wp2_with (first
    | (at_builtin; (refine app8 rfl (.tmp 26) (.tmp 27) rfl w.heap.size _ (hd zs.length) rfl (OwnK.new (k := .u8) (e := 5) (n := 4) w _ (hd zs.length) HHD.out rfl (by decide) (Nat.le_refl _)) _ zs rfl (HS.out _) (by simp [hd_len]; omega) (by simp) ?_); intro v2 w2 hown2 hb2; have HB2 := Lib.hid (((Below.refl _ _).alloc (Nat.le_refl _) _).trans hb2); have HS2 := Lib.hid (hown2.sl HHW.out); have HOW2 := Lib.hid hown2; obtain ⟨a2, n2, c2, hv2⟩ := own_form8 hown2; subst hv2; clear hown2 hb2)
    | (go_at_call 17; refine (Oc.rsum_any _ _ _ HS2.out).mono ?_; rintro e w' ⟨rfl, rfl⟩; have hS := HSUM.out; generalize hSe : Crc.sum (hd zs.length ++ zs) = S at *; have HSE := Lib.hid hSe; have HAR := Lib.hid (be4_arr hS); clear hSe)
    | (at_builtin; (refine app8 rfl (.tmp 31) (.tmp 43) rfl w.heap.size _ (hd zs.length ++ zs) rfl (World.ownsRow.alloc HOW2.out _) _ (be4 S) rfl (Sl.new (k := .u8) (e := 5) (fr := (0, 0)) (n := 4) (c := 4) w2 _ (be4 S) HAR.out rfl (by decide) (by decide) (be4_wf _)) (by simp [hd_len, be4_len]; omega) (by have := HB2.out.size; simp; omega) ?_); intro v4 w4 hown4 hb4; have HOW4 := Lib.hid hown4; have HB4 := Lib.hid ((HB2.out.alloc HB2.out.size _).trans hb4); obtain ⟨a4, n4, c4, hv4⟩ := own_form8 hown4; subst hv4; clear hown4 hb4))
  have HO : Hid (Own w4 w.heap.size (.slice a4 n4 c4) (sealL zs)) := Lib.hid (by unfold sealL; rw [HSE.out]; exact HOW4.out)
  go_ret2
  exact ⟨_, rfl, HO.out, HO.out.sl HWF.out, HB4.out⟩
/-- the empty body's frame -/
theorem live4 {w : World} {a : Option Addr} {cap : Nat} (h : Sl .u8 w (.slice a 8 cap) (sealL [])) : Sl .u8 w (.slice a 4 cap) [255, 255, 0, 0] := h.take 4 (by rw [seal_len]; simp)
set_option maxHeartbeats 400000 in
theorem live_any (w : World) (ht : Oc.Tab w) : Calls Tryd.prog 11 #[] w fun e w' => e = .returned (.bool true) ∧ Below w.heap.size w w' := by
  have k1 : ((strOfNums [255, 255, 0, 0]).toList == [255, 255, 0, 0]) = true := by kernel_rfl
  go_enter Tryd.func11, Tryd.ntmps11
  go_wp2_with fail
  refine (seal_any _ [] _ (OwnK.nil .u8 5 w 0 |>.sl (by simp)) ht (by decide)).mono ?_
  rintro e w1 ⟨v1, rfl, hown, hs1, hb1⟩
  obtain ⟨a, cap, hv, hc, hc2, -⟩ := id hs1
  rw [seal_len] at hv hc
  simp only [List.length_nil, Nat.zero_add] at hv hc
  subst hv
  have hq := run_str (live4 hs1)
  unfold maxLen at hc2
  rcases hown.2 with ⟨h, _⟩ | ⟨g, c9, cur, h, _⟩
  · cases h
  simp only [Value.slice.injEq] at h
  obtain ⟨rfl, -, rfl⟩ := h
  clear hs1 hown
  go_wp2
  go_ret
  exact ⟨rfl, hb1⟩
end Fr
end Go.Proofs.YtkncjmppilhdlaaDoor
