/- Frames as lists of bytes: plain mathematics. No condition. frame.sum, frame.Seal and the document's Seal. Condition: the table octet.steps. The document's Seal, and the law's helper live. Condition: the table octet.steps. bytes.Equal and bytes.Clone. No condition. frame.Open. Condition: the table octet.steps. The document's Open. No condition. What was sealed is opened; what was cut is short: plain mathematics. No condition. -/
import Derived.Test.YtlfaiemebfkajaaGreatDoorS8
import Derived.Test.YtlfaiemebfkajaaGreatDoorOcS
import Derived.OwnWalk
import Derived.Lib.Bytes
import Derived.Deep.QuietTactic
import Derived.BigQuiet
import Derived.Deep.RegionWith
import Derived.IntWalk
import Derived.BigRegion
namespace Go.Proofs.YtlfaiemebfkajaaGreatDoor
open Go.ChangeShapes Go.WideShapes Go.ChangeAt Go.RowKit
set_option linter.unusedVariables false
set_option maxRecDepth 100000
namespace Fr
/-- the four bytes ahead of a body -/
def hd (n : Nat) : List Int := [255 - ((n / 256 : Nat) : Int), 255 - ((n % 256 : Nat) : Int), ((n / 256 : Nat) : Int), ((n % 256 : Nat) : Int)]
/-- the four bytes of a sum -/
def be4 (s : Nat) : List Int := [((s / 16777216 % 256 : Nat) : Int), ((s / 65536 % 256 : Nat) : Int), ((s / 256 % 256 : Nat) : Int), ((s % 256 : Nat) : Int)]
/-- a body's frame -/
def sealL (zs : List Int) : List Int := hd zs.length ++ zs ++ be4 (Crc.sum (hd zs.length ++ zs))
theorem byte_wf {z : Int} (h : 0 ≤ z ∧ z ≤ 255) : (Lit.int .u8 z).wf = true := WalkArith.wf_u8 h
theorem hd_wf {n : Nat} (h : n ≤ 8192) : ∀ z ∈ hd n, (Lit.int .u8 z).wf = true := by
  intro z hz
  apply byte_wf
  have h1 : n / 256 ≤ 32 := by omega
  have h2 : n % 256 ≤ 255 := by omega
  unfold hd at hz
  simp only [List.mem_cons, List.not_mem_nil, or_false] at hz
  rcases hz with rfl | rfl | rfl | rfl <;> omega
theorem be4_wf (s : Nat) : ∀ z ∈ be4 s, (Lit.int .u8 z).wf = true := by
  intro z hz
  apply byte_wf
  unfold be4 at hz
  simp only [List.mem_cons, List.not_mem_nil, or_false] at hz
  rcases hz with rfl | rfl | rfl | rfl <;> omega
theorem seal_len (zs : List Int) : (sealL zs).length = zs.length + 8 := by
  unfold sealL
  simp only [List.length_append]
  simp [hd, be4]
  omega
theorem hd_len (n : Nat) : (hd n).length = 4 := rfl
theorem be4_len (n : Nat) : (be4 n).length = 4 := rfl
theorem inv8 : ∀ x : Fin 256, 255 ^^^ x.val = 255 - x.val := by decide +kernel
/-- ^b -/
theorem inv_byte {x : Int} (h0 : 0 ≤ x) (h1 : x ≤ 255) : bits BinOp.xor .u8 IntKind.u8.max x = 255 - x := by
  have hm : IntKind.u8.max = 255 := by decide
  have := inv8 ⟨x.toNat, by omega⟩
  simp only [] at this
  rw [hm, u8_xor _ _ (by omega) (by omega) h0 (by omega), show (255 : Int).toNat = 255 from rfl, this]
  omega
theorem bits_or_i64_nat (a b : Nat) (ha : a < 9223372036854775808) (hb : b < 9223372036854775808) : bits BinOp.or .i64 (a : Int) (b : Int) = ((a ||| b : Nat) : Int) := by
  have hx : a ||| b < 2 ^ 63 := Nat.or_lt_two_pow (by omega) (by omega)
  have h1 : (BitVec.ofInt 64 (a : Int)).toNat = a := by
    rw [BitVec.ofInt_natCast, BitVec.toNat_ofNat]; exact Nat.mod_eq_of_lt (by omega)
  have h2 : (BitVec.ofInt 64 (b : Int)).toNat = b := by
    rw [BitVec.ofInt_natCast, BitVec.toNat_ofNat]; exact Nat.mod_eq_of_lt (by omega)
  show IntKind.i64.wrap ((BitVec.ofInt 64 (a : Int) ||| BitVec.ofInt 64 (b : Int)).toNat : Int) = _
  rw [BitVec.toNat_or, h1, h2, IntKind.wrap_i64]
  omega
/-- int(high)<<8 | int(low) -/
theorem num_or {h l : Int} (h0 : 0 ≤ h) (h1 : h ≤ 255) (l0 : 0 ≤ l) (l1 : l ≤ 255) : bits BinOp.or .i64 (h * 256) l = h * 256 + l := by
  obtain ⟨a, rfl⟩ := Int.eq_ofNat_of_zero_le h0
  obtain ⟨b, rfl⟩ := Int.eq_ofNat_of_zero_le l0
  have h2 := Nat.shiftLeft_add_eq_or_of_lt (show b < 2 ^ 8 by omega) a
  rw [Nat.shiftLeft_eq, show (2 : Nat) ^ 8 = 256 from rfl] at h2
  have h3 := bits_or_i64_nat (a * 256) b (by omega) (by omega)
  rw [Int.natCast_mul, show ((256 : Nat) : Int) = 256 from rfl] at h3
  rw [h3, ← h2]
  omega
end Fr
end Go.Proofs.YtlfaiemebfkajaaGreatDoor
namespace Go.Proofs.YtlfaiemebfkajaaGreatDoor
open Go.ChangeShapes Go.WideShapes Go.ChangeAt Go.RowKit
set_option linter.unusedVariables false
set_option maxRecDepth 100000
namespace Fr
/-- bytes, the call's own -/
def Gives (zs : List Int) (w : World) (e : Ending) (w' : World) : Prop := ∃ v, e = .returned v ∧ Own w' w.heap.size v zs ∧ Sl .u8 w' v zs ∧ Below w.heap.size w w'
theorem fsum_any (v : Value) (zs : List Int) (w : World) (hs : Sl .u8 w v zs) (ht : Oc.Tab w) :
    Calls Tryz.prog 24 #[v] w (Gives (be4 (Crc.sum zs)) w) := by
  have hsl : (Crc.sum zs) < 4294967296 := (Crc.crc Crc.start zs ^^^ Crc.start).isLt
  go_enter Tryz.func24, Tryz.ntmps24
  go_wp2_with fail
  refine (Oc.sum_any _ _ _ hs ht).mono ?_
  rintro e w' ⟨rfl, rfl⟩
  generalize Crc.sum zs = S at *
  go_wp2
  go_ret
  refine ⟨_, rfl, OwnK.new w _ (be4 S) ?_ rfl (by decide) (Nat.le_refl _), Sl.new w _ (be4 S) ?_ rfl (Nat.le_refl _) (by decide) (be4_wf _), (Below.refl _ _).alloc (Nat.le_refl _) _⟩
  all_goals
    simp [be4]
    omega
theorem high_any (n : Nat) (hn : n ≤ 8192) (w : World) : Calls Tryz.prog 84 #[.int .i64 n] w fun e w' => e = .returned (.int .u8 ((n : Int) / 256)) ∧ w = w' := by
  go_enter Tryz.func84, Tryz.ntmps84
  go_wp2
  go_ret
  exact ⟨rfl, rfl⟩
theorem low_any (n : Nat) (hn : n ≤ 8192) (w : World) : Calls Tryz.prog 85 #[.int .i64 n] w fun e w' => e = .returned (.int .u8 ((n : Int) % 256)) ∧ w = w' := by
  go_enter Tryz.func85, Tryz.ntmps85
  go_wp2
  go_ret
  exact ⟨rfl, rfl⟩
theorem own_form8 {w : World} {B : Nat} {v : Value} {zs : List Int} (hown : Own w B v zs) : ∃ a n q, v = .slice a n q := by
  rcases hown.2 with ⟨h, _⟩ | ⟨k, cap, cur, e, _⟩
  · exact ⟨_, _, _, h⟩
  · exact ⟨_, _, _, e⟩
/-- a frame, the call's own; or why there is none -/
def Sealed (zs : List Int) (w : World) (e : Ending) (w' : World) : Prop := ∃ v, e = .returned (.tuple #[v, .int .i64 0]) ∧ Own w' w.heap.size v (sealL zs) ∧ Sl .u8 w' v (sealL zs) ∧ Below w.heap.size w w'
theorem sealL_wf {zs : List Int} (h : zs.length ≤ 8192) (hw : ∀ z ∈ zs, (Lit.int .u8 z).wf = true) : ∀ z ∈ sealL zs, (Lit.int .u8 z).wf = true :=
  wf_app (wf_app (hd_wf h) hw) (be4_wf _)
theorem hd_arr {n : Nat} (hn : n ≤ 8192) : #[Value.int .u8 (bits BinOp.xor .u8 (if IntKind.u8.signed = true then -1 else IntKind.u8.max) ((n : Int) / 256)), Value.int .u8 (bits BinOp.xor .u8 (if IntKind.u8.signed = true then -1 else IntKind.u8.max) ((n : Int) % 256)), Value.int .u8 ((n : Int) / 256), Value.int .u8 ((n : Int) % 256)] = ((hd n).map (Value.int .u8)).toArray := by
  have h1 := inv_byte (x := (n : Int) / 256) (by omega) (by omega)
  have h2 := inv_byte (x := (n : Int) % 256) (by omega) (by omega)
  have h3 : (if IntKind.u8.signed = true then (-1 : Int) else IntKind.u8.max) = IntKind.u8.max := by decide
  rw [h3, h1, h2]
  simp [hd]
set_option maxHeartbeats 400000 in
theorem seal_long (v : Value) (zs : List Int) (w : World) (hs : Sl .u8 w v zs) (hl : 8192 < zs.length) :
    Calls Tryz.prog 53 #[v] w fun e w' => e = .returned (.tuple #[.slice none 0 0, .int .i64 2]) ∧ w = w' := by
  obtain ⟨a, cap, rfl, -⟩ := id hs
  clear hs
  go_enter Tryz.func53, Tryz.ntmps53
  go_wp2
  go_ret2
  exact ⟨rfl, rfl⟩
set_option maxHeartbeats 1000000 in
theorem seal_any (v : Value) (zs : List Int) (w : World) (hs : Sl .u8 w v zs) (ht : Oc.Tab w) (hl : zs.length ≤ 8192) :
    Calls Tryz.prog 53 #[v] w (Sealed zs w) := by
  have HWF := Lib.hid (sealL_wf hl hs.wf)
  have HHW := Lib.hid (wf_app (hd_wf hl) hs.wf)
  have HT := Lib.hid ht
  have HHD := Lib.hid (hd_arr hl)
  have HS := Lib.hid hs
  obtain ⟨i0, hi, hz0, hz1, hz2⟩ := info_parts info_u8
  obtain ⟨a, cap, rfl, -⟩ := id hs
  clear hs ht
  go_enter Tryz.func53, Tryz.ntmps53
  go_wp2_with (first
    | (at_make; refine wpList_make_own _ rfl _ _ 22 rfl w.heap.size 5 i0 (.int .u8 0) 1 Tryz.underlying22 hi hz0 hz1 .i64 .i64 _ (4 + zs.length + 4) rfl rfl (by first | rfl | omega) (by rw [hz2]; omega) (by unfold maxLen; omega) (Nat.le_refl _) ?_; intro w0 hown0 hgrow0)
    | (go_at_call 84; refine (high_any _ hl _).mono ?_; rintro e w' ⟨rfl, rfl⟩)
    | (go_at_call 85; refine (low_any _ hl _).mono ?_; rintro e w' ⟨rfl, rfl⟩)
    | (at_builtin; refine app8 rfl (.tmp 14) (.tmp 25) rfl w.heap.size _ [] rfl (World.ownsRow.alloc hown0 _) _ (hd zs.length) rfl (Sl.new (k := .u8) (e := 5) (fr := (0, 0)) (n := 4) (c := 4) w0 _ (hd zs.length) HHD.out rfl (by decide) (by decide) (hd_wf hl)) (by simp [hd_len]) (by have := hgrow0.size; simp; omega) ?_; intro v1 w1 hown1 hb1; have hb0 : Below w.heap.size w w0 := (Below.refl _ _).grown hgrow0 (Nat.le_refl _) (by intro k hk; simp at hk); have hB1 : Below w.heap.size w w1 := (hb0.alloc hb0.size _).trans hb1; have HB1 := Lib.hid hB1; have HS1 := Lib.hid (HS.out.below hB1 (Nat.le_refl _)); obtain ⟨a1, n1, c1, hv1⟩ := own_form8 hown1; subst hv1; rw [List.nil_append] at hown1; have HOW1 := Lib.hid hown1; clear hb0 hB1 hown1 hb1 hgrow0)
    | (at_builtin; refine app8 rfl (.tmp 27) (.tmp 28) rfl w.heap.size _ (hd zs.length) rfl HOW1.out _ zs rfl HS1.out (by simp [hd_len]; omega) HB1.out.size ?_; intro v2 w2 hown2 hb2; have HB2 := Lib.hid (HB1.out.trans hb2); have HS2 := Lib.hid (hown2.sl HHW.out); have HOW2 := Lib.hid hown2; obtain ⟨a2, n2, c2, hv2⟩ := own_form8 hown2; subst hv2; clear hown2 hb2)
    | (go_at_call 24; refine (fsum_any _ _ _ HS2.out (HT.out.below HB2.out (Nat.le_refl _))).mono ?_; rintro e w3 ⟨v3, rfl, hown3, hs3, hb3⟩; have HB3 := Lib.hid (HB2.out.trans (hb3.mono HB2.out.size)); have HOW3 := Lib.hid (HOW2.out.below hb3 (Nat.le_refl _)); have HS3 := Lib.hid hs3; obtain ⟨a3, n3, c3, hv3⟩ := own_form8 hown3; subst hv3; clear hs3 hb3 hown3)
    | (at_builtin; refine app8 rfl (.tmp 30) (.tmp 32) rfl w.heap.size _ (hd zs.length ++ zs) rfl HOW3.out _ _ rfl HS3.out (by simp [hd_len, be4_len]; omega) HB3.out.size ?_; intro v4 w4 hown4 hb4; have HOW4 := Lib.hid hown4; have HB4 := Lib.hid (HB3.out.trans hb4); obtain ⟨a4, n4, c4, hv4⟩ := own_form8 hown4; subst hv4; clear hown4 hb4))
  go_ret2
  exact ⟨_, rfl, HOW4.out, HOW4.out.sl HWF.out, HB4.out⟩
end Fr
end Go.Proofs.YtlfaiemebfkajaaGreatDoor
namespace Go.Proofs.YtlfaiemebfkajaaGreatDoor
open Go.ChangeShapes Go.WideShapes Go.ChangeAt Go.RowKit
set_option linter.unusedVariables false
set_option maxRecDepth 100000
namespace Fr
set_option maxHeartbeats 400000 in
theorem rseal_long (v : Value) (zs : List Int) (w : World) (hs : Sl .u8 w v zs) (hl : 8192 < zs.length) :
    Calls Tryz.prog 9 #[v] w fun e w' => e = .returned (.tuple #[.slice none 0 0, .int .i64 2]) ∧ w = w' := by
  obtain ⟨a, cap, rfl, -⟩ := id hs
  clear hs
  go_enter Tryz.func9, Tryz.ntmps9
  go_wp2
  go_ret2
  exact ⟨rfl, rfl⟩
theorem be4_arr {S : Nat} (h : S < 4294967296) : #[Value.int .u8 ((S : Int) / 16777216), Value.int .u8 ((S : Int) / 65536 % 256), Value.int .u8 ((S : Int) / 256 % 256), Value.int .u8 ((S : Int) % 256)] = ((be4 S).map (Value.int .u8)).toArray := by
  simp [be4]
  omega
theorem sum_lt (l : List Int) : Crc.sum l < 4294967296 := (Crc.crc Crc.start l ^^^ Crc.start).isLt
theorem rhd_arr {n : Nat} (hn : n ≤ 8192) : #[Value.int .u8 (255 - (n : Int) / 256), Value.int .u8 (255 - (n : Int) % 256), Value.int .u8 ((n : Int) / 256), Value.int .u8 ((n : Int) % 256)] = ((hd n).map (Value.int .u8)).toArray := by
  simp [hd]
set_option maxHeartbeats 1000000 in
theorem rseal_any (v : Value) (zs : List Int) (w : World) (hs : Sl .u8 w v zs) (hl : zs.length ≤ 8192) :
    Calls Tryz.prog 9 #[v] w (Sealed zs w) := by
  have HWF := Lib.hid (sealL_wf hl hs.wf)
  have HHW := Lib.hid (wf_app (hd_wf hl) hs.wf)
  have HHD := Lib.hid (rhd_arr hl)
  have HS := Lib.hid (fun o => hs.below ((Below.refl _ _).alloc (Nat.le_refl _) o) (Nat.le_refl _))
  have HSUM := Lib.hid (sum_lt (hd zs.length ++ zs))
  obtain ⟨a, cap, rfl, -⟩ := id hs
  clear hs
  go_enter Tryz.func9, Tryz.ntmps9
  go_wp2_with (first
    | (at_builtin; (refine app8 rfl (.tmp 26) (.tmp 27) rfl w.heap.size _ (hd zs.length) rfl (OwnK.new (k := .u8) (e := 5) (n := 4) w _ (hd zs.length) HHD.out rfl (by decide) (Nat.le_refl _)) _ zs rfl (HS.out _) (by simp [hd_len]; omega) (by simp) ?_); intro v2 w2 hown2 hb2; have HB2 := Lib.hid (((Below.refl _ _).alloc (Nat.le_refl _) _).trans hb2); have HS2 := Lib.hid (hown2.sl HHW.out); have HOW2 := Lib.hid hown2; obtain ⟨a2, n2, c2, hv2⟩ := own_form8 hown2; subst hv2; clear hown2 hb2)
    | (go_at_call 21; refine (Oc.rsum_any _ _ _ HS2.out).mono ?_; rintro e w' ⟨rfl, rfl⟩; have hS := HSUM.out; generalize hSe : Crc.sum (hd zs.length ++ zs) = S at *; have HSE := Lib.hid hSe; have HAR := Lib.hid (be4_arr hS); clear hSe)
    | (at_builtin; (refine app8 rfl (.tmp 31) (.tmp 43) rfl w.heap.size _ (hd zs.length ++ zs) rfl (World.ownsRow.alloc HOW2.out _) _ (be4 S) rfl (Sl.new (k := .u8) (e := 5) (fr := (0, 0)) (n := 4) (c := 4) w2 _ (be4 S) HAR.out rfl (by decide) (by decide) (be4_wf _)) (by simp [hd_len, be4_len]; omega) (by have := HB2.out.size; simp; omega) ?_); intro v4 w4 hown4 hb4; have HOW4 := Lib.hid hown4; have HB4 := Lib.hid ((HB2.out.alloc HB2.out.size _).trans hb4); obtain ⟨a4, n4, c4, hv4⟩ := own_form8 hown4; subst hv4; clear hown4 hb4))
  have HO : Hid (Own w4 w.heap.size (.slice a4 n4 c4) (sealL zs)) := Lib.hid (by unfold sealL; rw [HSE.out]; exact HOW4.out)
  go_ret2
  exact ⟨_, rfl, HO.out, HO.out.sl HWF.out, HB4.out⟩
/-- the empty body's frame -/
theorem live4 {w : World} {a : Option Addr} {cap : Nat} (h : Sl .u8 w (.slice a 8 cap) (sealL [])) : Sl .u8 w (.slice a 4 cap) [255, 255, 0, 0] := h.take 4 (by rw [seal_len]; simp)
end Fr
end Go.Proofs.YtlfaiemebfkajaaGreatDoor
namespace Go.Proofs.YtlfaiemebfkajaaGreatDoor
open Go.ChangeShapes Go.WideShapes Go.ChangeAt Go.RowKit
set_option linter.unusedVariables false
set_option maxRecDepth 100000
namespace Fr
theorem bytes_inj : ∀ (xs ys : List Int), (∀ x ∈ xs, (Lit.int .u8 x).wf = true) → (∀ y ∈ ys, (Lit.int .u8 y).wf = true) → Lib.bytesOf xs = Lib.bytesOf ys → xs = ys
  | [], [], _, _, _ => rfl
  | [], y :: ys, _, _, h => by simp [Lib.bytesOf] at h
  | x :: xs, [], _, _, h => by simp [Lib.bytesOf] at h
  | x :: xs, y :: ys, hx, hy, h => by
    simp only [Lib.bytesOf, List.map_cons, List.cons.injEq] at h
    have b1 := bounds_u8 (hx x (by simp))
    have b2 := bounds_u8 (hy y (by simp))
    have e : x.toNat = y.toNat := by
      have h2 := congrArg UInt8.toNat h.1
      simp only [UInt8.toNat_ofNat'] at h2
      omega
    have e2 : x = y := by omega
    rw [e2, bytes_inj xs ys (fun z hz => hx z (by simp [hz])) (fun z hz => hy z (by simp [hz])) h.2]
theorem str_eq {xs ys : List Int} (hx : ∀ x ∈ xs, (Lit.int .u8 x).wf = true) (hy : ∀ y ∈ ys, (Lit.int .u8 y).wf = true) : ((strOfNums xs).toList == (strOfNums ys).toList) = decide (xs = ys) := by
  rw [Lib.strOfNums_toList, Lib.strOfNums_toList]
  by_cases h : xs = ys
  · subst h; simp
  · rw [decide_eq_false h]
    exact beq_eq_false_iff_ne.2 fun e => h (bytes_inj xs ys hx hy e)
theorem equal_any (v u : Value) (xs ys : List Int) (w : World) (hs : Sl .u8 w v xs) (hu : Sl .u8 w u ys) :
    Calls Tryz.prog 23 #[v, u] w fun e w' => e = .returned (.bool (decide (xs = ys))) ∧ w = w' := by
  have h1 := run_str hs
  have h2 := run_str hu
  have HE := Lib.hid (str_eq hs.wf hu.wf)
  clear hs hu
  go_enter Tryz.func23, Tryz.ntmps23
  go_wp2
  go_ret
  exact ⟨ret_bool HE.out, rfl⟩
def Cloned8 (zs : List Int) (w : World) (e : Ending) (w' : World) : Prop := ∃ u, e = .returned u ∧ Own w' w.heap.size u zs ∧ Sl .u8 w' u zs ∧ Below w.heap.size w w'
set_option maxHeartbeats 400000 in
theorem clone8_any (zs : List Int) (v : Value) (w : World) (h : Sl .u8 w v zs) (hb8 : zs.length ≤ 140737488351232) :
    Calls Tryz.prog 25 #[v] w (Cloned8 zs w) := by
  have HWF := Lib.hid h.wf
  have HS := Lib.hid (fun A => h.below ((Below.refl w.heap.size w).alloc (Nat.le_refl _) (.cells A 5)) (Nat.le_refl _))
  obtain ⟨a, cap, rfl, h1, h2, hwf, h4⟩ := h
  rcases h4 with ⟨rfl, rfl, hnil⟩ | ⟨b, off, sp, rfl, h5⟩
  · subst hnil
    clear HS
    have hq : ∀ w' : World, (binOp BinOp.eql 22 (.slice none 0 0) (.slice none 0 0)).run Tryz.prog w' = .ok (.bool true) w' := fun _ => by first | kernel_rfl | rfl
    go_enter Tryz.func25, Tryz.ntmps25
    go_wp2
    go_ret
    exact ⟨_, rfl, Own.nil _ _, (Own.nil w 0).sl (by simp), Below.refl _ _⟩
  · clear h5
    have hq : ∀ w' : World, (binOp BinOp.eql 22 (.slice (some ⟨b, off, sp⟩) zs.length cap) (.slice none 0 0)).run Tryz.prog w' = .ok (.bool false) w' := fun _ => by first | kernel_rfl | rfl
    go_enter Tryz.func25, Tryz.ntmps25
    go_wp2_with (at_builtin; (refine app8 rfl _ _ rfl w.heap.size _ [] rfl (OwnK.newAt (k := .u8) (e := 5) w w.heap.size rfl #[] [] rfl rfl (by decide) (Nat.le_refl _)) _ zs rfl (HS.out _) (by simp; omega) (by simp) ?_; intro v1 w1 hown1 hb1; rw [List.nil_append] at hown1))
    go_ret
    exact ⟨_, rfl, hown1, hown1.sl HWF.out, ((Below.refl _ _).alloc (Nat.le_refl _) _).trans hb1⟩
end Fr
end Go.Proofs.YtlfaiemebfkajaaGreatDoor
namespace Go.Proofs.YtlfaiemebfkajaaGreatDoor
open Go.ChangeShapes Go.WideShapes Go.ChangeAt Go.RowKit
set_option linter.unusedVariables false
set_option maxRecDepth 100000
namespace Fr
theorem quiet_mine {P : Program} {f : FuncId} {args : Array Value} {w : World} {n : Nat} {v : Value}
    (h : Calls P f args (w.drewN n) fun e w' => e = .returned v ∧ w.drewN n = w') : Calls P f args (w.drewN n) fun e w'' => e = .returned v ∧ ∃ m, w'' = w.drewN m :=
  h.mono fun _ _ ⟨he, hm⟩ => ⟨he, n, hm.symm⟩
theorem quiet_mine2 {P : Program} {f : FuncId} {args : Array Value} {w : World} {a n : Nat} {v : Value}
    (h : Calls P f args (w.drewN (a + n)) fun e w' => e = .returned v ∧ w.drewN (a + n) = w') : Calls P f args (w.drewN (a + n)) fun e w'' => e = .returned v ∧ ∃ m, w'' = w.drewN (a + m) :=
  h.mono fun _ _ ⟨he, hm⟩ => ⟨he, n, hm.symm⟩
theorem below_drewN {B : Nat} (w : World) (n : Nat) : Below B w (w.drewN n) := ⟨rfl, rfl, rfl, Nat.le_refl _, fun _ _ => rfl⟩
theorem number_any (h l : Int) (h0 : 0 ≤ h) (h1 : h ≤ 255) (l0 : 0 ≤ l) (l1 : l ≤ 255) (w : World) : Calls Tryz.prog 22 #[.int .u8 h, .int .u8 l] w fun e w' => e = .returned (.int .i64 (h * 256 + l)) ∧ w = w' := by
  have e := num_or h0 h1 l0 l1
  go_enter Tryz.func22, Tryz.ntmps22
  go_wp2
  go_ret
  exact ⟨rfl, rfl⟩
theorem inv_if {x : Int} (h0 : 0 ≤ x) (h1 : x ≤ 255) : bits BinOp.xor .u8 (if IntKind.u8.signed = true then -1 else IntKind.u8.max) x = 255 - x := by
  have h3 : (if IntKind.u8.signed = true then (-1 : Int) else IntKind.u8.max) = IntKind.u8.max := by decide
  rw [h3, inv_byte h0 h1]
theorem number_inv (h l : Int) (h0 : 0 ≤ h) (h1 : h ≤ 255) (l0 : 0 ≤ l) (l1 : l ≤ 255) (w : World) : Calls Tryz.prog 22 #[.int .u8 (bits BinOp.xor .u8 (if IntKind.u8.signed = true then -1 else IntKind.u8.max) h), .int .u8 (bits BinOp.xor .u8 (if IntKind.u8.signed = true then -1 else IntKind.u8.max) l)] w fun e w' => e = .returned (.int .i64 ((255 - h) * 256 + (255 - l))) ∧ w = w' := by
  rw [inv_if h0 h1, inv_if l0 l1]
  exact number_any _ _ (by omega) (by omega) (by omega) (by omega) w
theorem sub_plain {w : World} {b off len cap : Nat} {zs : List Int} (h : Sl .u8 w (.slice (some ⟨b, off, none⟩) len cap) zs) (i n : Nat) (hm : i + n ≤ zs.length) : Sl .u8 w (.slice (some ⟨b, off + i, none⟩) n (cap - i)) ((zs.drop i).take n) := by
  have := h.sub i n hm
  rwa [add_plain] at this
/-- what Open comes to: the body, how many bytes it takes, the error -/
def okHead (zs : List Int) : Prop := zs.getD 0 0 + zs.getD 2 0 = 255 ∧ zs.getD 1 0 + zs.getD 3 0 = 255 ∧ zs.getD 2 0 * 256 + zs.getD 3 0 ≤ 8192
def lenOf (zs : List Int) : Nat := (zs.getD 2 0 * 256 + zs.getD 3 0).toNat
inductive Opens (zs : List Int) : List Int → Nat → Int → Prop
  | short4 : zs.length < 4 → Opens zs [] 0 10
  | form : 4 ≤ zs.length → ¬ okHead zs → Opens zs [] 0 11
  | short : 4 ≤ zs.length → okHead zs → zs.length < lenOf zs + 8 → Opens zs [] 0 10
  | sum : 4 ≤ zs.length → okHead zs → lenOf zs + 8 ≤ zs.length → (zs.drop (4 + lenOf zs)).take 4 ≠ be4 (Crc.sum (zs.take (4 + lenOf zs))) → Opens zs [] 0 70
  | ok : 4 ≤ zs.length → okHead zs → lenOf zs + 8 ≤ zs.length → (zs.drop (4 + lenOf zs)).take 4 = be4 (Crc.sum (zs.take (4 + lenOf zs))) → Opens zs ((zs.drop 4).take (lenOf zs)) (lenOf zs + 8) 0
theorem Opens.eq {zs xs ys : List Int} {k j : Nat} {e f : Int} (h : Opens zs xs k e) (g : Opens zs ys j f) : xs = ys ∧ k = j ∧ e = f := by
  cases h <;> cases g <;> first | exact ⟨rfl, rfl, rfl⟩ | (exfalso; omega) | (exfalso; contradiction)
/-- what it hands back: the body, the call's own -/
def Opened (zs : List Int) (w : World) (e : Ending) (w' : World) : Prop := ∃ v xs k er, e = .returned (.tuple #[v, .int .i64 (k : Nat), .int .i64 er]) ∧ Opens zs xs k er ∧ Own w' w.heap.size v xs ∧ Sl .u8 w' v xs ∧ Below w.heap.size w w'
theorem opened_no {zs : List Int} {w w' : World} {er : Int} (h : Opens zs [] 0 er) (hb : Below w.heap.size w w') : Opened zs w (.returned (.tuple #[.slice none 0 0, .int .i64 0, .int .i64 er])) w' :=
  ⟨_, [], 0, er, rfl, h, Own.nil _ _, (Own.nil w' w.heap.size).sl (by simp), hb⟩
theorem opened_yes {zs xs : List Int} {w w' : World} {v : Value} {N : Nat} (h : Opens zs xs (N + 8) 0) (ho : Own w' w.heap.size v xs) (hs : Sl .u8 w' v xs) (hb : Below w.heap.size w w') : Opened zs w (.returned (.tuple #[v, .int .i64 (4 + (N : Int) + 4), .int .i64 0])) w' :=
  ⟨v, xs, N + 8, 0, by rw [show (4 + (N : Int) + 4) = ((N + 8 : Nat) : Int) by omega], h, ho, hs, hb⟩
set_option maxHeartbeats 1000000 in
theorem open_any (v : Value) (zs : List Int) (w : World) (hs : Sl .u8 w v zs) (ht : Oc.Tab w) :
    Calls Tryz.prog 10 #[v] w (Opened zs w) := by
  by_cases h4 : zs.length < 4
  · have HO := Lib.hid (Opens.short4 h4)
    obtain ⟨a, cap, rfl, -⟩ := id hs
    clear hs ht
    go_enter Tryz.func10, Tryz.ntmps10
    go_wp2
    go_ret3
    exact opened_no HO.out (Below.refl _ _)
  have h4' : 4 ≤ zs.length := by omega
  have HWF := Lib.hid hs.wf
  have HS := Lib.hid hs
  have HT := Lib.hid ht
  rcases Oc.cases8 hs with ⟨a, cap, rfl, hnil⟩ | ⟨b, off, cap, rfl, h0, hlc, hcm, hlt, hc⟩
  · subst hnil; simp at h4
  have c0 : w.cell? ⟨b, off, none⟩ = some (.int .u8 (zs.getD 0 0)) := hc 0 (by omega)
  have c1 := hc 1 (by omega)
  have c2 := hc 2 (by omega)
  have c3 := hc 3 (by omega)
  have bd : ∀ i, i < zs.length → 0 ≤ zs.getD i 0 ∧ zs.getD i 0 ≤ 255 := fun i hi => bounds_u8 (hs.wf _ (Oc.ugetD hi).1)
  obtain ⟨p0, q0⟩ := bd 0 (by omega)
  obtain ⟨p1, q1⟩ := bd 1 (by omega)
  obtain ⟨p2, q2⟩ := bd 2 (by omega)
  obtain ⟨p3, q3⟩ := bd 3 (by omega)
  have hOK : okHead zs ↔ (zs.getD 0 0 + zs.getD 2 0 = 255 ∧ zs.getD 1 0 + zs.getD 3 0 = 255 ∧ zs.getD 2 0 * 256 + zs.getD 3 0 ≤ 8192) := Iff.rfl
  have hLN : lenOf zs = (zs.getD 2 0 * 256 + zs.getD 3 0).toNat := rfl
  have HNOK := Lib.hid (fun h => Opens.form h4' h : ¬ okHead zs → Opens zs [] 0 11)
  generalize zs.getD 0 0 = z0 at *
  generalize zs.getD 1 0 = z1 at *
  generalize zs.getD 2 0 = z2 at *
  generalize zs.getD 3 0 = z3 at *
  have i0 := inv_byte p0 q0
  have i1 := inv_byte p1 q1
  have g1 : (3 : Int) < (zs.length : Int) := by omega
  have g2 : (2 : Int) < (zs.length : Int) := by omega
  have g3 : (1 : Int) < (zs.length : Int) := by omega
  have g4 : (0 : Int) < (zs.length : Int) := by omega
  clear hs ht hc bd
  by_cases hhd : z0 + z2 = 255 ∧ z1 + z3 = 255
  · have heq : (z2 * 256 + z3 == (255 - z0) * 256 + (255 - z1)) = true := beq_iff_eq.2 (by omega)
    have heq2 : (z2 * 256 + z3 != (255 - z0) * 256 + (255 - z1)) = false := by rw [bne, heq]; rfl
    by_cases hbig : 8192 < z2 * 256 + z3
    · have HN := Lib.hid (HNOK.out (fun h => by have := (hOK.1 h).2.2; omega))
      clear hOK hLN hhd
      go_enter Tryz.func10, Tryz.ntmps10
      go_wp2_with fail
      go_quiet ((go_at_call 22; exact quiet_mine (number_any _ _ p2 q2 p3 q3 _)))
      go_wp2_with fail
      go_quiet ((go_at_call 22; exact quiet_mine2 (number_inv _ _ p0 q0 p1 q1 _)))
      go_wp2
      go_ret3
      exact opened_no HN.out (below_drewN _ _)
    · have HOK := Lib.hid (hOK.2 ⟨hhd.1, hhd.2, by omega⟩)
      have hbg : z2 * 256 + z3 ≤ 8192 := by omega
      have hbd : decide (8192 < z2 * 256 + z3) = false := decide_eq_false hbig
      obtain ⟨N, hN⟩ : ∃ N : Nat, z2 * 256 + z3 = N := ⟨(z2 * 256 + z3).toNat, by omega⟩
      have hLN2 : lenOf zs = N := by rw [hLN, hN]; rfl
      have HLN := Lib.hid hLN2
      have HN8 := Lib.hid hN
      have hN8 : N ≤ 8192 := by omega
      clear hOK hLN hhd hLN2 hbig
      by_cases hsh : zs.length < N + 8
      · have HN := Lib.hid (Opens.short h4' HOK.out (by rw [HLN.out]; exact hsh))
        clear hN
        go_enter Tryz.func10, Tryz.ntmps10
        go_wp2_with fail
        go_quiet ((go_at_call 22; exact quiet_mine (number_any _ _ p2 q2 p3 q3 _)))
        go_wp2_with fail
        go_quiet ((go_at_call 22; exact quiet_mine2 (number_inv _ _ p0 q0 p1 q1 _)))
        rw [HN8.out]
        clear heq heq2 hbd
        go_wp2
        go_ret3
        exact opened_no HN.out (below_drewN _ _)
      · have f1 : N + 8 ≤ zs.length := by omega
        have HPRE := Lib.hid (fun (w' : World) (h : Sl .u8 w' (.slice (some ⟨b, off, none⟩) zs.length cap) zs) => h.take (4 + N) (by omega))
        have HPAT := Lib.hid (fun (w' : World) (h : Sl .u8 w' (.slice (some ⟨b, off, none⟩) zs.length cap) zs) => sub_plain h (4 + N) 4 (by omega))
        have HMID := Lib.hid (fun (w' : World) (h : Sl .u8 w' (.slice (some ⟨b, off, none⟩) zs.length cap) zs) => sub_plain h 4 N (by omega))
        clear hN hsh
        go_enter Tryz.func10, Tryz.ntmps10
        go_wp2_with fail
        go_quiet ((go_at_call 22; exact quiet_mine (number_any _ _ p2 q2 p3 q3 _)))
        go_wp2_with fail
        go_quiet ((go_at_call 22; exact quiet_mine2 (number_inv _ _ p0 q0 p1 q1 _)))
        rw [HN8.out]
        clear heq heq2 hbd c0 c1 c2 c3 i0 i1 g1 g2 g3 g4 hbg
        generalize hw1 : World.drewN w _ = w1
        have hb1 : Below w.heap.size w w1 := by rw [← hw1]; exact below_drewN _ _
        have HB1 := Lib.hid hb1
        have HS1 := Lib.hid (HS.out.below hb1 (Nat.le_refl _))
        have HT1 := Lib.hid (HT.out.below hb1 (Nat.le_refl _))
        have s1 : IntKind.i64.wrap (4 + (N : Int) + 4) = 4 + (N : Int) + 4 := by rw [IntKind.wrap_i64]; omega
        have s2 : (4 + (N : Int)).toNat = 4 + N := by omega
        have s3 : (4 + (N : Int) + 4).toNat = 4 + N + 4 := by omega
        have s4 : 0 ≤ 4 + (N : Int) := by omega
        have s5 : 4 + (N : Int) + 4 ≤ (cap : Int) := by omega
        have s6 : 4 + (N : Int) ≤ 4 + (N : Int) + 4 := by omega
        have s7 : 4 + (N : Int) ≤ (cap : Int) := by omega
        have s8 : 0 ≤ 4 + (N : Int) + 4 := by omega
        clear hb1 hw1
        go_wp2_with fail
        go_region_with (first
          | (go_at_call 24; refine (fsum_any _ (zs.take (4 + N)) _ (HPRE.out _ (HS1.out.below (below_drewN _ _) (Nat.le_refl _))) (HT1.out.below (below_drewN _ _) (Nat.le_refl _))).mono ?_; rintro e w3 ⟨v3, rfl, hown3, hs3, hb3⟩; obtain ⟨a3, n3, c3, hv3⟩ := own_form8 hown3; subst hv3)
          | (go_at_call 23; refine (equal_any _ _ _ _ _ (HPAT.out _ ((HS1.out.below (below_drewN _ _) (Nat.le_refl _)).below hb3 (Nat.le_refl _))) hs3).mono ?_; rintro e w4 ⟨rfl, rfl⟩))
        all_goals
          have hb13 : Below w1.heap.size w1 w3 := (below_drewN _ _).trans hb3
          have HB3 := Lib.hid (HB1.out.trans (hb13.mono HB1.out.size))
          have HM3 := Lib.hid (HMID.out _ (HS1.out.below hb13 (Nat.le_refl _)))
          have t1 : (4 + (N : Int) - 4) = (N : Int) := by omega
          have t2 : 4 + N - 4 = N := by omega
          clear hown3 hs3 hb3 hb13
          cases hd : decide ((zs.drop (4 + N)).take 4 = be4 (Crc.sum (zs.take (4 + N)))) with
          | false =>
            have HN := Lib.hid (Opens.sum h4' HOK.out (by rw [HLN.out]; exact f1) (by rw [HLN.out]; exact of_decide_eq_false hd))
            clear hd
            go_wp2
            go_ret3
            exact opened_no HN.out HB3.out
          | true =>
            have HN := Lib.hid (Opens.ok h4' HOK.out (by rw [HLN.out]; exact f1) (by rw [HLN.out]; exact of_decide_eq_true hd))
            clear hd
            go_wp2_with (go_at_call 25; refine (clone8_any _ _ _ HM3.out (by simp; omega)).mono ?_; rintro e w5 ⟨v5, rfl, hown5, hs5, hb5⟩; obtain ⟨a5, n5, c5, hv5⟩ := own_form8 hown5; subst hv5)
            go_ret3
            have HNE : Hid (Opens zs ((zs.drop 4).take N) (N + 8) 0) := Lib.hid (by have := HN.out; rwa [HLN.out] at this)
            exact opened_yes HNE.out (hown5.mono HB3.out.size) hs5 (HB3.out.trans (hb5.mono HB3.out.size))
  · have HN := Lib.hid (HNOK.out (fun h => hhd ⟨(hOK.1 h).1, (hOK.1 h).2.1⟩))
    have hne : (z2 * 256 + z3 == (255 - z0) * 256 + (255 - z1)) = false := beq_eq_false_iff_ne.2 (by omega)
    have hne2 : (z2 * 256 + z3 != (255 - z0) * 256 + (255 - z1)) = true := bne_iff_ne.2 (by omega)
    clear hOK hLN hhd
    go_enter Tryz.func10, Tryz.ntmps10
    go_wp2_with fail
    go_quiet ((go_at_call 22; exact quiet_mine (number_any _ _ p2 q2 p3 q3 _)))
    go_wp2_with fail
    go_quiet ((go_at_call 22; exact quiet_mine2 (number_inv _ _ p0 q0 p1 q1 _)))
    go_wp2
    go_ret3
    exact opened_no HN.out (below_drewN _ _)
end Fr
end Go.Proofs.YtlfaiemebfkajaaGreatDoor
namespace Go.Proofs.YtlfaiemebfkajaaGreatDoor
open Go.ChangeShapes Go.WideShapes Go.ChangeAt Go.RowKit
set_option linter.unusedVariables false
set_option maxRecDepth 100000
namespace Fr
theorem take_cat (zs : List Int) (a n : Nat) : zs.take (a + n) = zs.take a ++ (zs.drop a).take n := List.take_add
theorem head4 {zs : List Int} (h : 4 ≤ zs.length) : zs.take 4 = [zs.getD 0 0, zs.getD 1 0, zs.getD 2 0, zs.getD 3 0] := by
  match zs, h with
  | a :: b :: c :: d :: r, _ => rfl
/-- of a right head: its body's frame is what stands there just if the sum is right -/
theorem seal_iff {zs : List Int} (hb : ∀ i, i < zs.length → 0 ≤ zs.getD i 0 ∧ zs.getD i 0 ≤ 255) (h4 : 4 ≤ zs.length) (hok : okHead zs) (hl : lenOf zs + 8 ≤ zs.length) :
    sealL ((zs.drop 4).take (lenOf zs)) = zs.take (8 + lenOf zs) ↔ (zs.drop (4 + lenOf zs)).take 4 = be4 (Crc.sum (zs.take (4 + lenOf zs))) := by
  have b0 := hb 0 (by omega)
  have b1 := hb 1 (by omega)
  have b2 := hb 2 (by omega)
  have b3 := hb 3 (by omega)
  have hlen : ((zs.drop 4).take (lenOf zs)).length = lenOf zs := by rw [List.length_take, List.length_drop]; omega
  have hhd : hd (lenOf zs) = zs.take 4 := by
    rw [head4 h4]
    obtain ⟨k1, k2, k3⟩ := hok
    unfold hd lenOf
    generalize zs.getD 0 0 = z0 at *
    generalize zs.getD 1 0 = z1 at *
    generalize zs.getD 2 0 = z2 at *
    generalize zs.getD 3 0 = z3 at *
    simp only [List.cons.injEq, and_true]
    omega
  unfold sealL
  rw [hlen, hhd, ← take_cat, show 8 + lenOf zs = (4 + lenOf zs) + 4 by omega, take_cat zs (4 + lenOf zs) 4]
  constructor
  · intro h
    exact (List.append_cancel_left h).symm
  · intro h
    rw [h]
theorem opened_yes8 {zs xs : List Int} {w w' : World} {v : Value} {N : Nat} (h : Opens zs xs (N + 8) 0) (ho : Own w' w.heap.size v xs) (hs : Sl .u8 w' v xs) (hb : Below w.heap.size w w') : Opened zs w (.returned (.tuple #[v, .int .i64 (8 + (N : Int)), .int .i64 0])) w' :=
  ⟨v, xs, N + 8, 0, by rw [show (8 + (N : Int)) = ((N + 8 : Nat) : Int) by omega], h, ho, hs, hb⟩
set_option maxHeartbeats 2000000 in
theorem ropen_any (v : Value) (zs : List Int) (w : World) (hs : Sl .u8 w v zs) (hbig8 : zs.length ≤ 140737488351232) :
    Calls Tryz.prog 13 #[v] w (Opened zs w) := by
  by_cases h4 : zs.length < 4
  · have HO := Lib.hid (Opens.short4 h4)
    obtain ⟨a, cap, rfl, -⟩ := id hs
    clear hs
    go_enter Tryz.func13, Tryz.ntmps13
    go_wp2
    go_ret3
    exact opened_no HO.out (Below.refl _ _)
  have h4' : 4 ≤ zs.length := by omega
  have HWF := Lib.hid hs.wf
  have HS := Lib.hid hs
  rcases Oc.cases8 hs with ⟨a, cap, rfl, hnil⟩ | ⟨b, off, cap, rfl, h0, hlc, hcm, hlt, hc⟩
  · subst hnil; simp at h4
  have c0 : w.cell? ⟨b, off, none⟩ = some (.int .u8 (zs.getD 0 0)) := hc 0 (by omega)
  have c1 := hc 1 (by omega)
  have c2 := hc 2 (by omega)
  have c3 := hc 3 (by omega)
  have bd : ∀ i, i < zs.length → 0 ≤ zs.getD i 0 ∧ zs.getD i 0 ≤ 255 := fun i hi => bounds_u8 (hs.wf _ (Oc.ugetD hi).1)
  obtain ⟨p0, q0⟩ := bd 0 (by omega)
  obtain ⟨p1, q1⟩ := bd 1 (by omega)
  obtain ⟨p2, q2⟩ := bd 2 (by omega)
  obtain ⟨p3, q3⟩ := bd 3 (by omega)
  have HIFF := Lib.hid (seal_iff bd h4')
  have hOK : okHead zs ↔ (zs.getD 0 0 + zs.getD 2 0 = 255 ∧ zs.getD 1 0 + zs.getD 3 0 = 255 ∧ zs.getD 2 0 * 256 + zs.getD 3 0 ≤ 8192) := Iff.rfl
  have hLN : lenOf zs = (zs.getD 2 0 * 256 + zs.getD 3 0).toNat := rfl
  have HNOK := Lib.hid (fun h => Opens.form h4' h : ¬ okHead zs → Opens zs [] 0 11)
  generalize zs.getD 0 0 = z0 at *
  generalize zs.getD 1 0 = z1 at *
  generalize zs.getD 2 0 = z2 at *
  generalize zs.getD 3 0 = z3 at *
  have g1 : (3 : Int) < (zs.length : Int) := by omega
  have g2 : (2 : Int) < (zs.length : Int) := by omega
  have g3 : (1 : Int) < (zs.length : Int) := by omega
  have g4 : (0 : Int) < (zs.length : Int) := by omega
  have s1 : IntKind.i64.wrap (256 * z2) = 256 * z2 := by rw [IntKind.wrap_i64]; omega
  have s2 : IntKind.i64.wrap (256 * z2 + z3) = 256 * z2 + z3 := by rw [IntKind.wrap_i64]; omega
  have s3 : IntKind.i64.wrap (z0 + z2) = z0 + z2 := by rw [IntKind.wrap_i64]; omega
  have s4 : IntKind.i64.wrap (z1 + z3) = z1 + z3 := by rw [IntKind.wrap_i64]; omega
  clear hs hc bd
  by_cases hA : z0 + z2 = 255
  · have eA : (z0 + z2 != 255) = false := by rw [hA]; rfl
    have eA2 : (z0 + z2 == 255) = true := beq_iff_eq.2 hA
    by_cases hB : z1 + z3 = 255
    · have eB : (z1 + z3 != 255) = false := by rw [hB]; rfl
      have eB2 : (z1 + z3 == 255) = true := beq_iff_eq.2 hB
      by_cases hbig : 8192 < 256 * z2 + z3
      · have HN := Lib.hid (HNOK.out (fun h => by have := (hOK.1 h).2.2; omega))
        clear hOK hLN hA hB
        go_enter Tryz.func13, Tryz.ntmps13
        go_wp2_with fail
        go_quiet (fail)
        go_wp2_with fail
        go_quiet (fail)
        go_wp2
        go_ret3
        first | exact opened_no HN.out (below_drewN _ _) | exact opened_no HN.out ((below_drewN _ _).trans (below_drewN _ _))
      · have HOK := Lib.hid (hOK.2 ⟨hA, hB, by omega⟩)
        have hbd : decide (8192 < 256 * z2 + z3) = false := decide_eq_false hbig
        obtain ⟨N, hN⟩ : ∃ N : Nat, 256 * z2 + z3 = N := ⟨(256 * z2 + z3).toNat, by omega⟩
        have hLN2 : lenOf zs = N := by rw [hLN]; omega
        have HLN := Lib.hid hLN2
        have HN8 := Lib.hid hN
        have hN8 : N ≤ 8192 := by omega
        have HIF2 := Lib.hid (HIFF.out HOK.out)
        clear hOK hLN hLN2 hbig hA hB hN
        by_cases hsh : zs.length < N + 8
        · have HN := Lib.hid (Opens.short h4' HOK.out (by rw [HLN.out]; exact hsh))
          go_enter Tryz.func13, Tryz.ntmps13
          go_wp2_with fail
          go_quiet (fail)
          go_wp2_with fail
          go_quiet (fail)
          rw [HN8.out]
          clear eA eA2 eB eB2 hbd s1 s2 s3 s4
          go_wp2
          go_ret3
          first | exact opened_no HN.out (below_drewN _ _) | exact opened_no HN.out ((below_drewN _ _).trans (below_drewN _ _))
        · have f1 : N + 8 ≤ zs.length := by omega
          have HMID := Lib.hid (fun (w' : World) (h : Sl .u8 w' (.slice (some ⟨b, off, none⟩) zs.length cap) zs) => sub_plain h 4 N (by omega))
          have HPRE := Lib.hid (fun (w' : World) (h : Sl .u8 w' (.slice (some ⟨b, off, none⟩) zs.length cap) zs) => h.take (8 + N) (by omega))
          have hml : ((zs.drop 4).take N).length = N := by rw [List.length_take, List.length_drop]; omega
          have HML := Lib.hid hml
          have hmw : ∀ z ∈ (zs.drop 4).take N, (Lit.int .u8 z).wf = true := fun z hz => HWF.out z (List.mem_of_mem_drop (List.mem_of_mem_take hz))
          have HMW := Lib.hid hmw
          have HPW := Lib.hid (fun z hz => HWF.out z (List.mem_of_mem_take hz) : ∀ z ∈ zs.take (8 + N), (Lit.int .u8 z).wf = true)
          clear hsh hml hmw
          go_enter Tryz.func13, Tryz.ntmps13
          go_wp2_with fail
          go_quiet (fail)
          go_wp2_with fail
          go_quiet (fail)
          rw [HN8.out]
          clear eA eA2 eB eB2 hbd s1 s2 s3 s4 c0 c1 c2 c3 g1 g2 g3 g4
          generalize hw1 : World.drewN (World.drewN w _) _ = w1
          have hb1 : Below w.heap.size w w1 := by rw [← hw1]; exact (below_drewN _ _).trans (below_drewN _ _)
          have HB1 := Lib.hid hb1
          have HS1 := Lib.hid (HS.out.below hb1 (Nat.le_refl _))
          have t1 : (4 + (N : Int)).toNat = 4 + N := by omega
          have t2 : 4 + N - 4 = N := by omega
          clear hb1 hw1
          go_wp2_with (at_builtin; refine app8 rfl (.const (.slice none 0 0)) (.tmp 57) rfl w1.heap.size _ [] rfl (Own.nil _ _) _ ((zs.drop 4).take N) rfl (HMID.out _ HS1.out) (by simp; omega) (Nat.le_refl _) ?_; intro v2 w2 hown2 hb2; rw [List.nil_append] at hown2; have HOW2 := Lib.hid hown2; have HS2 := Lib.hid (hown2.sl HMW.out); have HB2 := Lib.hid hb2; obtain ⟨a2, n2, c2, hv2⟩ := own_form8 hown2; subst hv2; clear hown2 hb2)
          refine (rseal_any _ _ _ HS2.out (by rw [HML.out]; exact hN8)).mono ?_
          rintro e w3 ⟨v3, rfl, hown3, hs3, hb3⟩
          obtain ⟨a3, n3, c3, hv3⟩ := own_form8 hown3
          subst hv3
          have HB3 := Lib.hid (HB2.out.trans (hb3.mono HB2.out.size))
          have hp3 := HPRE.out _ (HS1.out.below HB3.out (Nat.le_refl _))
          have r1 := run_str (hs3.below ((Below.refl _ _).drew : Below w3.heap.size w3 w3.drew) (Nat.le_refl _))
          have r2 := run_str (hp3.below ((Below.refl _ _).drew : Below w3.heap.size w3 w3.drew) (Nat.le_refl _))
          have HSTR := Lib.hid (str_eq (sealL_wf (by rw [HML.out]; exact hN8) HMW.out) HPW.out)
          have HOW3 := Lib.hid (HOW2.out.below hb3 (Nat.le_refl _))
          clear hown3 hs3 hb3 hp3
          have t3 : (8 + (N : Int)).toNat = 8 + N := by omega
          have t4 : 0 ≤ 8 + (N : Int) := by omega
          have t5 : 8 + (N : Int) ≤ (cap : Int) := by omega
          have t6 : IntKind.i64.wrap (8 + (N : Int)) = 8 + (N : Int) := by rw [IntKind.wrap_i64]; omega
          have hstr := HSTR.out
          clear HSTR
          cases hd : decide (sealL ((zs.drop 4).take N) = zs.take (8 + N)) with
          | false =>
            have HNN := Lib.hid (Opens.sum h4' HOK.out (by rw [HLN.out]; exact f1) (fun h => by have := HIF2.out (by rw [HLN.out]; exact f1); rw [HLN.out] at this; exact absurd (this.2 (by rw [HLN.out] at h; exact h)) (of_decide_eq_false hd)))
            rw [hd] at hstr
            have hstr2 : (!((strOfNums (sealL ((zs.drop 4).take N))).toList == (strOfNums (zs.take (8 + N))).toList)) = true := by rw [hstr]; rfl
            clear hd
            go_wp2_with fail
            go_region
            go_wp2
            go_ret3
            exact opened_no HNN.out (HB1.out.trans ((HB3.out.mono HB1.out.size).drew))
          | true =>
            have HNN := Lib.hid (Opens.ok h4' HOK.out (by rw [HLN.out]; exact f1) (by have := HIF2.out (by rw [HLN.out]; exact f1); rw [HLN.out] at this; rw [HLN.out]; exact this.1 (of_decide_eq_true hd)))
            have HNE : Hid (Opens zs ((zs.drop 4).take N) (N + 8) 0) := Lib.hid (by have := HNN.out; rwa [HLN.out] at this)
            rw [hd] at hstr
            have hstr2 : (!((strOfNums (sealL ((zs.drop 4).take N))).toList == (strOfNums (zs.take (8 + N))).toList)) = false := by rw [hstr]; rfl
            clear hd
            go_wp2_with fail
            go_region
            go_wp2
            go_ret3
            exact opened_yes8 HNE.out ((HOW3.out.below ((Below.refl _ _).drew : Below w3.heap.size w3 w3.drew) (Nat.le_refl _)).mono HB1.out.size) ((HOW3.out.below ((Below.refl _ _).drew : Below w3.heap.size w3 w3.drew) (Nat.le_refl _)).sl HMW.out) (HB1.out.trans ((HB3.out.mono HB1.out.size).drew))
    · have HN := Lib.hid (HNOK.out (fun h => hB (hOK.1 h).2.1))
      have eB : (z1 + z3 != 255) = true := bne_iff_ne.2 hB
      have eB2 : (z1 + z3 == 255) = false := beq_eq_false_iff_ne.2 hB
      clear hOK hLN hA hB
      go_enter Tryz.func13, Tryz.ntmps13
      go_wp2_with fail
      go_quiet (fail)
      go_wp2_with fail
      go_quiet (fail)
      go_wp2
      go_ret3
      first | exact opened_no HN.out (below_drewN _ _) | exact opened_no HN.out ((below_drewN _ _).trans (below_drewN _ _))
  · have HN := Lib.hid (HNOK.out (fun h => hA (hOK.1 h).1))
    have eA : (z0 + z2 != 255) = true := bne_iff_ne.2 hA
    have eA2 : (z0 + z2 == 255) = false := beq_eq_false_iff_ne.2 hA
    clear hOK hLN hA
    go_enter Tryz.func13, Tryz.ntmps13
    go_wp2_with fail
    go_quiet (fail)
    go_wp2_with fail
    go_quiet (fail)
    go_wp2
    go_ret3
    first | exact opened_no HN.out (below_drewN _ _) | exact opened_no HN.out ((below_drewN _ _).trans (below_drewN _ _))
end Fr
end Go.Proofs.YtlfaiemebfkajaaGreatDoor
namespace Go.Proofs.YtlfaiemebfkajaaGreatDoor
open Go.ChangeShapes Go.WideShapes Go.ChangeAt Go.RowKit
set_option linter.unusedVariables false
set_option maxRecDepth 100000
namespace Fr
theorem seal_heads {zs r : List Int} : (sealL zs ++ r).getD 0 0 = 255 - ((zs.length / 256 : Nat) : Int) ∧ (sealL zs ++ r).getD 1 0 = 255 - ((zs.length % 256 : Nat) : Int) ∧ (sealL zs ++ r).getD 2 0 = ((zs.length / 256 : Nat) : Int) ∧ (sealL zs ++ r).getD 3 0 = ((zs.length % 256 : Nat) : Int) := by
  unfold sealL hd
  exact ⟨rfl, rfl, rfl, rfl⟩
theorem seal_okHead {zs : List Int} (r : List Int) (hl : zs.length ≤ 8192) : okHead (sealL zs ++ r) ∧ lenOf (sealL zs ++ r) = zs.length := by
  obtain ⟨h0, h1, h2, h3⟩ := seal_heads (zs := zs) (r := r)
  unfold okHead lenOf
  rw [h0, h1, h2, h3]
  refine ⟨⟨by omega, by omega, by omega⟩, by omega⟩
theorem opens_seal {zs : List Int} (r : List Int) (hl : zs.length ≤ 8192) : Opens (sealL zs ++ r) zs (zs.length + 8) 0 := by
  obtain ⟨h1, h2⟩ := seal_okHead r hl
  have hlen : (sealL zs ++ r).length = zs.length + 8 + r.length := by rw [List.length_append, seal_len]
  have e1 : (sealL zs ++ r).take (4 + zs.length) = hd zs.length ++ zs := by
    unfold sealL
    rw [List.append_assoc, List.take_left' (by rw [List.length_append, hd_len])]
  have e2 : ((sealL zs ++ r).drop (4 + zs.length)).take 4 = be4 (Crc.sum (hd zs.length ++ zs)) := by
    unfold sealL
    rw [List.append_assoc, List.drop_left' (by rw [List.length_append, hd_len]), List.take_left' (be4_len _)]
  have e3 : ((sealL zs ++ r).drop 4).take zs.length = zs := by
    unfold sealL
    rw [List.append_assoc, List.append_assoc, List.drop_left' (hd_len _), List.take_left' rfl]
  have h := Opens.ok (zs := sealL zs ++ r) (by omega) h1 (by rw [h2]; omega) (by rw [h2, e1, e2])
  rw [h2, e3] at h
  exact h
theorem getD_take {l : List Int} {n i : Nat} (h : i < n) : (l.take n).getD i 0 = l.getD i 0 := by
  simp [List.getD, h]
theorem opens_cut {zs : List Int} (hl : zs.length ≤ 8192) {n : Nat} (hn : n < zs.length + 8) : Opens ((sealL zs).take n) [] 0 10 := by
  have hlen : ((sealL zs).take n).length = n := by rw [List.length_take, seal_len]; omega
  by_cases h4 : n < 4
  · exact Opens.short4 (by omega)
  · obtain ⟨h1, h2⟩ := seal_okHead [] hl
    rw [List.append_nil] at h1 h2
    have g0 := getD_take (l := sealL zs) (n := n) (i := 0) (by omega)
    have g1 := getD_take (l := sealL zs) (n := n) (i := 1) (by omega)
    have g2 := getD_take (l := sealL zs) (n := n) (i := 2) (by omega)
    have g3 := getD_take (l := sealL zs) (n := n) (i := 3) (by omega)
    have k1 : okHead ((sealL zs).take n) := by unfold okHead at *; rw [g0, g1, g2, g3]; exact h1
    have k2 : lenOf ((sealL zs).take n) = zs.length := by unfold lenOf at *; rw [g2, g3]; exact h2
    exact Opens.short (by omega) k1 (by rw [k2, hlen]; exact hn)
/-- what is taken is the frame of what is told -/
theorem opens_same {zs xs : List Int} {k : Nat} (hb : ∀ i, i < zs.length → 0 ≤ zs.getD i 0 ∧ zs.getD i 0 ≤ 255) (h : Opens zs xs k 0) : xs.length ≤ 8192 ∧ k ≤ zs.length ∧ sealL xs = zs.take k ∧ k = xs.length + 8 := by
  cases h with
  | ok h4 hok hl hs =>
    have h8 : lenOf zs ≤ 8192 := by have := hok.2.2; unfold lenOf; omega
    have hlen : ((zs.drop 4).take (lenOf zs)).length = lenOf zs := by rw [List.length_take, List.length_drop]; omega
    refine ⟨by omega, hl, ?_, by omega⟩
    rw [(seal_iff hb h4 hok hl).2 hs, Nat.add_comm]
theorem opens_err {zs xs : List Int} {k : Nat} {e : Int} (h : Opens zs xs k e) : e = 0 ∨ ((e == 0) = false ∧ xs = [] ∧ k = 0) := by
  cases h
  all_goals first | exact .inl rfl | exact .inr ⟨rfl, rfl, rfl⟩
end Fr
end Go.Proofs.YtlfaiemebfkajaaGreatDoor
