/- Frames as lists of bytes: plain mathematics. No condition. frame.sum, frame.Seal and the document's Seal. Condition: the table octet.steps. The document's Seal, and the law's helper live. Condition: the table octet.steps. -/
import Derived.Test.YtbdjihmgdkailaaDoorS8
import Derived.Test.YtbdjihmgdkailaaDoorOctS
import Derived.OwnWalk
namespace Go.Proofs.YtbdjihmgdkailaaDoor
open Go.ChangeShapes Go.WideShapes Go.ChangeAt Go.RowKit
set_option linter.unusedVariables false
set_option maxRecDepth 100000
namespace Fr
/-- the four bytes ahead of a body -/
def hd (n : Nat) : List Int := [255 - ((n / 256 : Nat) : Int), 255 - ((n % 256 : Nat) : Int), ((n / 256 : Nat) : Int), ((n % 256 : Nat) : Int)]
/-- the four bytes of a sum -/
def be4 (s : Nat) : List Int := [((s / 16777216 % 256 : Nat) : Int), ((s / 65536 % 256 : Nat) : Int), ((s / 256 % 256 : Nat) : Int), ((s % 256 : Nat) : Int)]
/-- a body's frame -/
def sealL (zs : List Int) : List Int := hd zs.length ++ zs ++ be4 (Crc.sum (hd zs.length ++ zs))
theorem byte_wf {z : Int} (h : 0 ≤ z ∧ z ≤ 255) : (Lit.int .u8 z).wf = true := WalkArith.wf_u8 h
theorem hd_wf {n : Nat} (h : n ≤ 8192) : ∀ z ∈ hd n, (Lit.int .u8 z).wf = true := by
  intro z hz
  apply byte_wf
  have h1 : n / 256 ≤ 32 := by omega
  have h2 : n % 256 ≤ 255 := by omega
  unfold hd at hz
  simp only [List.mem_cons, List.not_mem_nil, or_false] at hz
  rcases hz with rfl | rfl | rfl | rfl <;> omega
theorem be4_wf (s : Nat) : ∀ z ∈ be4 s, (Lit.int .u8 z).wf = true := by
  intro z hz
  apply byte_wf
  unfold be4 at hz
  simp only [List.mem_cons, List.not_mem_nil, or_false] at hz
  rcases hz with rfl | rfl | rfl | rfl <;> omega
theorem seal_len (zs : List Int) : (sealL zs).length = zs.length + 8 := by
  unfold sealL
  simp only [List.length_append]
  simp [hd, be4]
  omega
theorem hd_len (n : Nat) : (hd n).length = 4 := rfl
theorem be4_len (n : Nat) : (be4 n).length = 4 := rfl
theorem inv8 : ∀ x : Fin 256, 255 ^^^ x.val = 255 - x.val := by decide +kernel
/-- ^b -/
theorem inv_byte {x : Int} (h0 : 0 ≤ x) (h1 : x ≤ 255) : bits BinOp.xor .u8 IntKind.u8.max x = 255 - x := by
  have hm : IntKind.u8.max = 255 := by decide
  have := inv8 ⟨x.toNat, by omega⟩
  simp only [] at this
  rw [hm, u8_xor _ _ (by omega) (by omega) h0 (by omega), show (255 : Int).toNat = 255 from rfl, this]
  omega
theorem bits_or_i64_nat (a b : Nat) (ha : a < 9223372036854775808) (hb : b < 9223372036854775808) : bits BinOp.or .i64 (a : Int) (b : Int) = ((a ||| b : Nat) : Int) := by
  have hx : a ||| b < 2 ^ 63 := Nat.or_lt_two_pow (by omega) (by omega)
  have h1 : (BitVec.ofInt 64 (a : Int)).toNat = a := by
    rw [BitVec.ofInt_natCast, BitVec.toNat_ofNat]; exact Nat.mod_eq_of_lt (by omega)
  have h2 : (BitVec.ofInt 64 (b : Int)).toNat = b := by
    rw [BitVec.ofInt_natCast, BitVec.toNat_ofNat]; exact Nat.mod_eq_of_lt (by omega)
  show IntKind.i64.wrap ((BitVec.ofInt 64 (a : Int) ||| BitVec.ofInt 64 (b : Int)).toNat : Int) = _
  rw [BitVec.toNat_or, h1, h2, IntKind.wrap_i64]
  omega
/-- int(high)<<8 | int(low) -/
theorem num_or {h l : Int} (h0 : 0 ≤ h) (h1 : h ≤ 255) (l0 : 0 ≤ l) (l1 : l ≤ 255) : bits BinOp.or .i64 (h * 256) l = h * 256 + l := by
  obtain ⟨a, rfl⟩ := Int.eq_ofNat_of_zero_le h0
  obtain ⟨b, rfl⟩ := Int.eq_ofNat_of_zero_le l0
  have h2 := Nat.shiftLeft_add_eq_or_of_lt (show b < 2 ^ 8 by omega) a
  rw [Nat.shiftLeft_eq, show (2 : Nat) ^ 8 = 256 from rfl] at h2
  have h3 := bits_or_i64_nat (a * 256) b (by omega) (by omega)
  rw [Int.natCast_mul, show ((256 : Nat) : Int) = 256 from rfl] at h3
  rw [h3, ← h2]
  omega
end Fr
end Go.Proofs.YtbdjihmgdkailaaDoor
namespace Go.Proofs.YtbdjihmgdkailaaDoor
open Go.ChangeShapes Go.WideShapes Go.ChangeAt Go.RowKit
set_option linter.unusedVariables false
set_option maxRecDepth 100000
namespace Fr
/-- bytes, the call's own -/
def Gives (zs : List Int) (w : World) (e : Ending) (w' : World) : Prop := ∃ v, e = .returned v ∧ Own w' w.heap.size v zs ∧ Sl .u8 w' v zs ∧ Below w.heap.size w w'
theorem fsum_any (v : Value) (zs : List Int) (w : World) (hs : Sl .u8 w v zs) (ht : Oc.Tab w) :
    Calls Tryd.prog 37 #[v] w (Gives (be4 (Crc.sum zs)) w) := by
  have hsl : (Crc.sum zs) < 4294967296 := (Crc.crc Crc.start zs ^^^ Crc.start).isLt
  go_enter Tryd.func37, Tryd.ntmps37
  go_wp2_with fail
  refine (Oc.sum_any _ _ _ hs ht).mono ?_
  rintro e w' ⟨rfl, rfl⟩
  generalize Crc.sum zs = S at *
  go_wp2
  go_ret
  refine ⟨_, rfl, OwnK.new w _ (be4 S) ?_ rfl (by decide) (Nat.le_refl _), Sl.new w _ (be4 S) ?_ rfl (Nat.le_refl _) (by decide) (be4_wf _), (Below.refl _ _).alloc (Nat.le_refl _) _⟩
  all_goals
    simp [be4]
    omega
theorem high_any (n : Nat) (hn : n ≤ 8192) (w : World) : Calls Tryd.prog 35 #[.int .i64 n] w fun e w' => e = .returned (.int .u8 ((n : Int) / 256)) ∧ w = w' := by
  go_enter Tryd.func35, Tryd.ntmps35
  go_wp2
  go_ret
  exact ⟨rfl, rfl⟩
theorem low_any (n : Nat) (hn : n ≤ 8192) (w : World) : Calls Tryd.prog 36 #[.int .i64 n] w fun e w' => e = .returned (.int .u8 ((n : Int) % 256)) ∧ w = w' := by
  go_enter Tryd.func36, Tryd.ntmps36
  go_wp2
  go_ret
  exact ⟨rfl, rfl⟩
theorem own_form8 {w : World} {B : Nat} {v : Value} {zs : List Int} (hown : Own w B v zs) : ∃ a n q, v = .slice a n q := by
  rcases hown.2 with ⟨h, _⟩ | ⟨k, cap, cur, e, _⟩
  · exact ⟨_, _, _, h⟩
  · exact ⟨_, _, _, e⟩
/-- a frame, the call's own; or why there is none -/
def Sealed (zs : List Int) (w : World) (e : Ending) (w' : World) : Prop := ∃ v, e = .returned (.tuple #[v, .int .i64 0]) ∧ Own w' w.heap.size v (sealL zs) ∧ Sl .u8 w' v (sealL zs) ∧ Below w.heap.size w w'
theorem sealL_wf {zs : List Int} (h : zs.length ≤ 8192) (hw : ∀ z ∈ zs, (Lit.int .u8 z).wf = true) : ∀ z ∈ sealL zs, (Lit.int .u8 z).wf = true :=
  wf_app (wf_app (hd_wf h) hw) (be4_wf _)
theorem hd_arr {n : Nat} (hn : n ≤ 8192) : #[Value.int .u8 (bits BinOp.xor .u8 (if IntKind.u8.signed = true then -1 else IntKind.u8.max) ((n : Int) / 256)), Value.int .u8 (bits BinOp.xor .u8 (if IntKind.u8.signed = true then -1 else IntKind.u8.max) ((n : Int) % 256)), Value.int .u8 ((n : Int) / 256), Value.int .u8 ((n : Int) % 256)] = ((hd n).map (Value.int .u8)).toArray := by
  have h1 := inv_byte (x := (n : Int) / 256) (by omega) (by omega)
  have h2 := inv_byte (x := (n : Int) % 256) (by omega) (by omega)
  have h3 : (if IntKind.u8.signed = true then (-1 : Int) else IntKind.u8.max) = IntKind.u8.max := by decide
  rw [h3, h1, h2]
  simp [hd]
set_option maxHeartbeats 400000 in
theorem seal_long (v : Value) (zs : List Int) (w : World) (hs : Sl .u8 w v zs) (hl : 8192 < zs.length) :
    Calls Tryd.prog 15 #[v] w fun e w' => e = .returned (.tuple #[.slice none 0 0, .int .i64 2]) ∧ w = w' := by
  obtain ⟨a, cap, rfl, -⟩ := id hs
  clear hs
  go_enter Tryd.func15, Tryd.ntmps15
  go_wp2
  go_ret2
  exact ⟨rfl, rfl⟩
set_option maxHeartbeats 1000000 in
theorem seal_any (v : Value) (zs : List Int) (w : World) (hs : Sl .u8 w v zs) (ht : Oc.Tab w) (hl : zs.length ≤ 8192) :
    Calls Tryd.prog 15 #[v] w (Sealed zs w) := by
  have HWF := Lib.hid (sealL_wf hl hs.wf)
  have HHW := Lib.hid (wf_app (hd_wf hl) hs.wf)
  have HT := Lib.hid ht
  have HHD := Lib.hid (hd_arr hl)
  have HS := Lib.hid hs
  obtain ⟨i0, hi, hz0, hz1, hz2⟩ := info_parts info_u8
  obtain ⟨a, cap, rfl, -⟩ := id hs
  clear hs ht
  go_enter Tryd.func15, Tryd.ntmps15
  go_wp2_with (first
    | (at_make; refine wpList_make_own _ rfl _ _ 33 rfl w.heap.size 5 i0 (.int .u8 0) 1 Tryd.underlying33 hi hz0 hz1 .i64 .i64 _ (4 + zs.length + 4) rfl rfl (by first | rfl | omega) (by rw [hz2]; omega) (by unfold maxLen; omega) (Nat.le_refl _) ?_; intro w0 hown0 hgrow0)
    | (go_at_call 35; refine (high_any _ hl _).mono ?_; rintro e w' ⟨rfl, rfl⟩)
    | (go_at_call 36; refine (low_any _ hl _).mono ?_; rintro e w' ⟨rfl, rfl⟩)
    | (at_builtin; refine app8 rfl (.tmp 14) (.tmp 25) rfl w.heap.size _ [] rfl (World.ownsRow.alloc hown0 _) _ (hd zs.length) rfl (Sl.new (k := .u8) (e := 5) (fr := (0, 0)) (n := 4) (c := 4) w0 _ (hd zs.length) HHD.out rfl (by decide) (by decide) (hd_wf hl)) (by simp [hd_len]) (by have := hgrow0.size; simp; omega) ?_; intro v1 w1 hown1 hb1; have hb0 : Below w.heap.size w w0 := (Below.refl _ _).grown hgrow0 (Nat.le_refl _) (by intro k hk; simp at hk); have hB1 : Below w.heap.size w w1 := (hb0.alloc hb0.size _).trans hb1; have HB1 := Lib.hid hB1; have HS1 := Lib.hid (HS.out.below hB1 (Nat.le_refl _)); obtain ⟨a1, n1, c1, hv1⟩ := own_form8 hown1; subst hv1; rw [List.nil_append] at hown1; have HOW1 := Lib.hid hown1; clear hb0 hB1 hown1 hb1 hgrow0)
    | (at_builtin; refine app8 rfl (.tmp 27) (.tmp 28) rfl w.heap.size _ (hd zs.length) rfl HOW1.out _ zs rfl HS1.out (by simp [hd_len]; omega) HB1.out.size ?_; intro v2 w2 hown2 hb2; have HB2 := Lib.hid (HB1.out.trans hb2); have HS2 := Lib.hid (hown2.sl HHW.out); have HOW2 := Lib.hid hown2; obtain ⟨a2, n2, c2, hv2⟩ := own_form8 hown2; subst hv2; clear hown2 hb2)
    | (go_at_call 37; refine (fsum_any _ _ _ HS2.out (HT.out.below HB2.out (Nat.le_refl _))).mono ?_; rintro e w3 ⟨v3, rfl, hown3, hs3, hb3⟩; have HB3 := Lib.hid (HB2.out.trans (hb3.mono HB2.out.size)); have HOW3 := Lib.hid (HOW2.out.below hb3 (Nat.le_refl _)); have HS3 := Lib.hid hs3; obtain ⟨a3, n3, c3, hv3⟩ := own_form8 hown3; subst hv3; clear hs3 hb3 hown3)
    | (at_builtin; refine app8 rfl (.tmp 30) (.tmp 32) rfl w.heap.size _ (hd zs.length ++ zs) rfl HOW3.out _ _ rfl HS3.out (by simp [hd_len, be4_len]; omega) HB3.out.size ?_; intro v4 w4 hown4 hb4; have HOW4 := Lib.hid hown4; have HB4 := Lib.hid (HB3.out.trans hb4); obtain ⟨a4, n4, c4, hv4⟩ := own_form8 hown4; subst hv4; clear hown4 hb4))
  go_ret2
  exact ⟨_, rfl, HOW4.out, HOW4.out.sl HWF.out, HB4.out⟩
end Fr
end Go.Proofs.YtbdjihmgdkailaaDoor
namespace Go.Proofs.YtbdjihmgdkailaaDoor
open Go.ChangeShapes Go.WideShapes Go.ChangeAt Go.RowKit
set_option linter.unusedVariables false
set_option maxRecDepth 100000
namespace Fr
set_option maxHeartbeats 400000 in
theorem rseal_long (v : Value) (zs : List Int) (w : World) (hs : Sl .u8 w v zs) (hl : 8192 < zs.length) :
    Calls Tryd.prog 21 #[v] w fun e w' => e = .returned (.tuple #[.slice none 0 0, .int .i64 2]) ∧ w = w' := by
  obtain ⟨a, cap, rfl, -⟩ := id hs
  clear hs
  go_enter Tryd.func21, Tryd.ntmps21
  go_wp2
  go_ret2
  exact ⟨rfl, rfl⟩
theorem be4_arr {S : Nat} (h : S < 4294967296) : #[Value.int .u8 ((S : Int) / 16777216), Value.int .u8 ((S : Int) / 65536 % 256), Value.int .u8 ((S : Int) / 256 % 256), Value.int .u8 ((S : Int) % 256)] = ((be4 S).map (Value.int .u8)).toArray := by
  simp [be4]
  omega
theorem sum_lt (l : List Int) : Crc.sum l < 4294967296 := (Crc.crc Crc.start l ^^^ Crc.start).isLt
theorem rhd_arr {n : Nat} (hn : n ≤ 8192) : #[Value.int .u8 (255 - (n : Int) / 256), Value.int .u8 (255 - (n : Int) % 256), Value.int .u8 ((n : Int) / 256), Value.int .u8 ((n : Int) % 256)] = ((hd n).map (Value.int .u8)).toArray := by
  simp [hd]
set_option maxHeartbeats 1000000 in
theorem rseal_any (v : Value) (zs : List Int) (w : World) (hs : Sl .u8 w v zs) (hl : zs.length ≤ 8192) :
    Calls Tryd.prog 21 #[v] w (Sealed zs w) := by
  have HWF := Lib.hid (sealL_wf hl hs.wf)
  have HHW := Lib.hid (wf_app (hd_wf hl) hs.wf)
  have HHD := Lib.hid (rhd_arr hl)
  have HS := Lib.hid (fun o => hs.below ((Below.refl _ _).alloc (Nat.le_refl _) o) (Nat.le_refl _))
  have HSUM := Lib.hid (sum_lt (hd zs.length ++ zs))
  obtain ⟨a, cap, rfl, -⟩ := id hs
  clear hs
  go_enter Tryd.func21, Tryd.ntmps21
  go_wp2_with (first
    | (at_builtin; (refine app8 rfl (.tmp 26) (.tmp 27) rfl w.heap.size _ (hd zs.length) rfl (OwnK.new (k := .u8) (e := 5) (n := 4) w _ (hd zs.length) HHD.out rfl (by decide) (Nat.le_refl _)) _ zs rfl (HS.out _) (by simp [hd_len]; omega) (by simp) ?_); intro v2 w2 hown2 hb2; have HB2 := Lib.hid (((Below.refl _ _).alloc (Nat.le_refl _) _).trans hb2); have HS2 := Lib.hid (hown2.sl HHW.out); have HOW2 := Lib.hid hown2; obtain ⟨a2, n2, c2, hv2⟩ := own_form8 hown2; subst hv2; clear hown2 hb2)
    | (go_at_call 49; refine (Oc.rsum_any _ _ _ HS2.out).mono ?_; rintro e w' ⟨rfl, rfl⟩; have hS := HSUM.out; generalize hSe : Crc.sum (hd zs.length ++ zs) = S at *; have HSE := Lib.hid hSe; have HAR := Lib.hid (be4_arr hS); clear hSe)
    | (at_builtin; (refine app8 rfl (.tmp 31) (.tmp 43) rfl w.heap.size _ (hd zs.length ++ zs) rfl (World.ownsRow.alloc HOW2.out _) _ (be4 S) rfl (Sl.new (k := .u8) (e := 5) (fr := (0, 0)) (n := 4) (c := 4) w2 _ (be4 S) HAR.out rfl (by decide) (by decide) (be4_wf _)) (by simp [hd_len, be4_len]; omega) (by have := HB2.out.size; simp; omega) ?_); intro v4 w4 hown4 hb4; have HOW4 := Lib.hid hown4; have HB4 := Lib.hid ((HB2.out.alloc HB2.out.size _).trans hb4); obtain ⟨a4, n4, c4, hv4⟩ := own_form8 hown4; subst hv4; clear hown4 hb4))
  have HO : Hid (Own w4 w.heap.size (.slice a4 n4 c4) (sealL zs)) := Lib.hid (by unfold sealL; rw [HSE.out]; exact HOW4.out)
  go_ret2
  exact ⟨_, rfl, HO.out, HO.out.sl HWF.out, HB4.out⟩
/-- the empty body's frame -/
theorem live4 {w : World} {a : Option Addr} {cap : Nat} (h : Sl .u8 w (.slice a 8 cap) (sealL [])) : Sl .u8 w (.slice a 4 cap) [255, 255, 0, 0] := h.take 4 (by rw [seal_len]; simp)
end Fr
end Go.Proofs.YtbdjihmgdkailaaDoor
