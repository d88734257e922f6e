/- frame.sum, frame.Seal and the document's Seal. Condition: the table octet.steps. -/
import Derived.Test.YtkncjmppilhdlaaDoorFrP
import Derived.OwnWalk
namespace Go.Proofs.YtkncjmppilhdlaaDoor
open Go.ChangeShapes Go.WideShapes Go.ChangeAt Go.RowKit
set_option linter.unusedVariables false
namespace Fr
/-- bytes, the call's own -/
def Gives (zs : List Int) (w : World) (e : Ending) (w' : World) : Prop := ∃ v, e = .returned v ∧ Own w' w.heap.size v zs ∧ Sl .u8 w' v zs ∧ Below w.heap.size w w'
theorem fsum_any (v : Value) (zs : List Int) (w : World) (hs : Sl .u8 w v zs) (ht : Oc.Tab w) :
    Calls Tryd.prog 16 #[v] w (Gives (be4 (Crc.sum zs)) w) := by
  have hsl : (Crc.sum zs) < 4294967296 := (Crc.crc Crc.start zs ^^^ Crc.start).isLt
  go_enter Tryd.func16, Tryd.ntmps16
  go_wp2_with fail
  refine (Oc.sum_any _ _ _ hs ht).mono ?_
  rintro e w' ⟨rfl, rfl⟩
  generalize Crc.sum zs = S at *
  go_wp2
  go_ret
  refine ⟨_, rfl, OwnK.new w _ (be4 S) ?_ rfl (by decide) (Nat.le_refl _), Sl.new w _ (be4 S) ?_ rfl (Nat.le_refl _) (by decide) (be4_wf _), (Below.refl _ _).alloc (Nat.le_refl _) _⟩
  all_goals
    simp [be4]
    omega
theorem high_any (n : Nat) (hn : n ≤ 8192) (w : World) : Calls Tryd.prog 14 #[.int .i64 n] w fun e w' => e = .returned (.int .u8 ((n : Int) / 256)) ∧ w = w' := by
  go_enter Tryd.func14, Tryd.ntmps14
  go_wp2
  go_ret
  exact ⟨rfl, rfl⟩
theorem low_any (n : Nat) (hn : n ≤ 8192) (w : World) : Calls Tryd.prog 15 #[.int .i64 n] w fun e w' => e = .returned (.int .u8 ((n : Int) % 256)) ∧ w = w' := by
  go_enter Tryd.func15, Tryd.ntmps15
  go_wp2
  go_ret
  exact ⟨rfl, rfl⟩
theorem own_form8 {w : World} {B : Nat} {v : Value} {zs : List Int} (hown : Own w B v zs) : ∃ a n q, v = .slice a n q := by
  rcases hown.2 with ⟨h, _⟩ | ⟨k, cap, cur, e, _⟩
  · exact ⟨_, _, _, h⟩
  · exact ⟨_, _, _, e⟩
/-- a frame, the call's own; or why there is none -/
def Sealed (zs : List Int) (w : World) (e : Ending) (w' : World) : Prop := ∃ v, e = .returned (.tuple #[v, .int .i64 0]) ∧ Own w' w.heap.size v (sealL zs) ∧ Sl .u8 w' v (sealL zs) ∧ Below w.heap.size w w'
theorem sealL_wf {zs : List Int} (h : zs.length ≤ 8192) (hw : ∀ z ∈ zs, (Lit.int .u8 z).wf = true) : ∀ z ∈ sealL zs, (Lit.int .u8 z).wf = true :=
  wf_app (wf_app (hd_wf h) hw) (be4_wf _)
theorem hd_arr {n : Nat} (hn : n ≤ 8192) : #[Value.int .u8 (bits BinOp.xor .u8 (if IntKind.u8.signed = true then -1 else IntKind.u8.max) ((n : Int) / 256)), Value.int .u8 (bits BinOp.xor .u8 (if IntKind.u8.signed = true then -1 else IntKind.u8.max) ((n : Int) % 256)), Value.int .u8 ((n : Int) / 256), Value.int .u8 ((n : Int) % 256)] = ((hd n).map (Value.int .u8)).toArray := by
  have h1 := inv_byte (x := (n : Int) / 256) (by omega) (by omega)
  have h2 := inv_byte (x := (n : Int) % 256) (by omega) (by omega)
  have h3 : (if IntKind.u8.signed = true then (-1 : Int) else IntKind.u8.max) = IntKind.u8.max := by decide
  rw [h3, h1, h2]
  simp [hd]
set_option maxHeartbeats 400000 in
theorem seal_long (v : Value) (zs : List Int) (w : World) (hs : Sl .u8 w v zs) (hl : 8192 < zs.length) :
    Calls Tryd.prog 9 #[v] w fun e w' => e = .returned (.tuple #[.slice none 0 0, .int .i64 2]) ∧ w = w' := by
  obtain ⟨a, cap, rfl, -⟩ := id hs
  clear hs
  go_enter Tryd.func9, Tryd.ntmps9
  go_wp2
  go_ret2
  exact ⟨rfl, rfl⟩
set_option maxHeartbeats 1000000 in
theorem seal_any (v : Value) (zs : List Int) (w : World) (hs : Sl .u8 w v zs) (ht : Oc.Tab w) (hl : zs.length ≤ 8192) :
    Calls Tryd.prog 9 #[v] w (Sealed zs w) := by
  have HWF := Lib.hid (sealL_wf hl hs.wf)
  have HHW := Lib.hid (wf_app (hd_wf hl) hs.wf)
  have HT := Lib.hid ht
  have HHD := Lib.hid (hd_arr hl)
  have HS := Lib.hid hs
  obtain ⟨i0, hi, hz0, hz1, hz2⟩ := info_parts info_u8
  obtain ⟨a, cap, rfl, -⟩ := id hs
  clear hs ht
  go_enter Tryd.func9, Tryd.ntmps9
  go_wp2_with (first
    | (at_make; refine wpList_make_own _ rfl _ _ 22 rfl w.heap.size 5 i0 (.int .u8 0) 1 Tryd.underlying22 hi hz0 hz1 .i64 .i64 _ (4 + zs.length + 4) rfl rfl (by first | rfl | omega) (by rw [hz2]; omega) (by unfold maxLen; omega) (Nat.le_refl _) ?_; intro w0 hown0 hgrow0)
    | (go_at_call 14; refine (high_any _ hl _).mono ?_; rintro e w' ⟨rfl, rfl⟩)
    | (go_at_call 15; refine (low_any _ hl _).mono ?_; rintro e w' ⟨rfl, rfl⟩)
    | (at_builtin; refine app8 rfl (.tmp 14) (.tmp 25) rfl w.heap.size _ [] rfl (World.ownsRow.alloc hown0 _) _ (hd zs.length) rfl (Sl.new (k := .u8) (e := 5) (fr := (0, 0)) (n := 4) (c := 4) w0 _ (hd zs.length) HHD.out rfl (by decide) (by decide) (hd_wf hl)) (by simp [hd_len]) (by have := hgrow0.size; simp; omega) ?_; intro v1 w1 hown1 hb1; have hb0 : Below w.heap.size w w0 := (Below.refl _ _).grown hgrow0 (Nat.le_refl _) (by intro k hk; simp at hk); have hB1 : Below w.heap.size w w1 := (hb0.alloc hb0.size _).trans hb1; have HB1 := Lib.hid hB1; have HS1 := Lib.hid (HS.out.below hB1 (Nat.le_refl _)); obtain ⟨a1, n1, c1, hv1⟩ := own_form8 hown1; subst hv1; rw [List.nil_append] at hown1; have HOW1 := Lib.hid hown1; clear hb0 hB1 hown1 hb1 hgrow0)
    | (at_builtin; refine app8 rfl (.tmp 27) (.tmp 28) rfl w.heap.size _ (hd zs.length) rfl HOW1.out _ zs rfl HS1.out (by simp [hd_len]; omega) HB1.out.size ?_; intro v2 w2 hown2 hb2; have HB2 := Lib.hid (HB1.out.trans hb2); have HS2 := Lib.hid (hown2.sl HHW.out); have HOW2 := Lib.hid hown2; obtain ⟨a2, n2, c2, hv2⟩ := own_form8 hown2; subst hv2; clear hown2 hb2)
    | (go_at_call 16; refine (fsum_any _ _ _ HS2.out (HT.out.below HB2.out (Nat.le_refl _))).mono ?_; rintro e w3 ⟨v3, rfl, hown3, hs3, hb3⟩; have HB3 := Lib.hid (HB2.out.trans (hb3.mono HB2.out.size)); have HOW3 := Lib.hid (HOW2.out.below hb3 (Nat.le_refl _)); have HS3 := Lib.hid hs3; obtain ⟨a3, n3, c3, hv3⟩ := own_form8 hown3; subst hv3; clear hs3 hb3 hown3)
    | (at_builtin; refine app8 rfl (.tmp 30) (.tmp 32) rfl w.heap.size _ (hd zs.length ++ zs) rfl HOW3.out _ _ rfl HS3.out (by simp [hd_len, be4_len]; omega) HB3.out.size ?_; intro v4 w4 hown4 hb4; have HOW4 := Lib.hid hown4; have HB4 := Lib.hid (HB3.out.trans hb4); obtain ⟨a4, n4, c4, hv4⟩ := own_form8 hown4; subst hv4; clear hown4 hb4))
  go_ret2
  exact ⟨_, rfl, HOW4.out, HOW4.out.sl HWF.out, HB4.out⟩
end Fr
end Go.Proofs.YtkncjmppilhdlaaDoor
