/- A text's bytes, and a text read: what octet.Text, octet.ReadText and the document's own answers hand back. No condition. -/
import Derived.Test.YtkbmofbpfinahaaOctR
namespace Go.Proofs.Ytkbmofbpfinahaa
open Go.ChangeShapes Go.WideShapes Go.ChangeAt Go.RowKit
set_option linter.unusedVariables false
namespace Oc

def sb (s : ByteArray) : List Int := s.data.toList.map fun b => (b.toNat : Int)
theorem sb_length (s : ByteArray) : (sb s).length = s.size := by unfold sb; rw [List.length_map, Array.length_toList]; rfl
theorem sb_wf (s : ByteArray) : ∀ n ∈ sb s, (Lit.int .u8 n).wf = true := by
  intro n hn
  obtain ⟨b, _, rfl⟩ := List.mem_map.1 hn
  exact wf_b ⟨by omega, by have := b.toNat_lt; omega⟩
theorem sb_cells (s : ByteArray) : Lib.strCells s = (sb s).map (Value.int .u8) := by
  unfold Lib.strCells sb
  rw [List.map_map]
  rfl
theorem sb_str (s : ByteArray) : strOfNums (sb s) = s := by
  apply ByteArray.ext
  apply Array.toList_inj.1
  rw [strOfNums_data, sb, List.map_map]
  conv => rhs; rw [← List.map_id s.data.toList]
  apply List.map_congr_left
  intro x _
  simp

def txL (s : ByteArray) : List Int := numL s.size ++ sb s
theorem txL_wf {s : ByteArray} (h : s.size < 18446744073709551616) : ∀ n ∈ txL s, (Lit.int .u8 n).wf = true := wf_app (numL_wf h) (sb_wf s)

theorem app8s {w : World} {ops : Array Oper} {rest : List Oper} {o : Oper} {a : Act} {Q : Exit → Act → World → Prop} (hgd : o.guard = none) (sl x : Operand)
    (ho : o.op = .call { callee := .builtin .append, args := #[sl, x], argTypes := #[24, 9] }) (base : Nat)
    (v : Value) (xs : List Int) (hs : a.eval sl = v) (hown : Own w base v xs) (s : ByteArray) (hx : a.eval x = .string s)
    (hb : xs.length + s.size ≤ 140737488355328) (hbase : base ≤ w.heap.size)
    (h : ∀ v' w', Own w' base v' (xs ++ sb s) → Below base w w' → wpList Try.prog ops Q rest (a.put o.dst v') w') : wpList Try.prog ops Q (o :: rest) a w := by
  obtain ⟨i0, hi, hz0, hz1, hz2⟩ := info_parts info_u8
  refine Lib.wpList_append_own_string w hgd sl x 24 9 ho base 5 i0 Try.underlying24 Try.underlying9 hi hz0 hz1 hz2 v xs.length _ hs hown s hx (by unfold maxLen; omega) (by omega) hbase ?_
  intro v' w' hown' hgrow _
  refine h v' w' ?_ (Below.own (Below.refl _ _) hbase hown hgrow)
  unfold Own
  rw [List.map_append, List.length_append, sb_length, ← sb_cells]
  exact hown'

set_option maxHeartbeats 400000 in
theorem text_made (s : ByteArray) (w : World) (hs : s.size ≤ 140737488351232) :
    Calls Try.prog 18 #[.string s] w (Made w.heap.size (txL s) w) := by
  have hn : s.size < 18446744073709551616 := by omega
  have hl := numL_length s.size
  have h8 := bw_le8 hn
  have hlb : (numL s.size).length + s.size ≤ 140737488355328 := by omega
  clear hl
  have HN := Lib.hid hn
  clear hn
  go_enter Try.func18, Try.ntmps18
  go_wp2_with (first
    | (go_at_call 14; refine (num_made s.size HN.out _).mono ?_; rintro e w1 ⟨v, rfl, hown1, hs1, hb1⟩)
    | (at_builtin; refine app8s rfl (.tmp 6) (.tmp 7) rfl w.heap.size _ _ rfl hown1 _ rfl hlb hb1.size ?_; intro v2 w2 hown2 hb2))
  go_ret
  exact ⟨_, rfl, hown2, hown2.sl (txL_wf HN.out), hb1.trans hb2⟩
set_option maxHeartbeats 400000 in
theorem rtext_made (s : ByteArray) (w : World) (hs : s.size ≤ 140737488351232) :
    Calls Try.prog 19 #[.string s] w (Made w.heap.size (txL s) w) := by
  have hn : s.size < 18446744073709551616 := by omega
  have hl := numL_length s.size
  have h8 := bw_le8 hn
  have hlb : (numL s.size).length + s.size ≤ 140737488355328 := by omega
  clear hl
  have HN := Lib.hid hn
  clear hn
  go_enter Try.func19, Try.ntmps19
  go_wp2_with (first
    | (go_at_call 15; refine (rnum_made s.size HN.out _).mono ?_; rintro e w1 ⟨v, rfl, hown1, hs1, hb1⟩)
    | (at_builtin; refine app8s rfl (.tmp 6) (.tmp 7) rfl w.heap.size _ _ rfl hown1 _ rfl hlb hb1.size ?_; intro v2 w2 hown2 hb2))
  go_ret
  exact ⟨_, rfl, hown2, hown2.sl (txL_wf HN.out), hb1.trans hb2⟩

/-- what reading a text answers: the text, how many bytes it takes, the error -/
def rtL (zs : List Int) (m : Int) : ByteArray × Nat × Int :=
  if ((rdL zs).2.2 == 0) = false then (ByteArray.empty, 0, (rdL zs).2.2) else if m < 0 ∨ m < (rdL zs).1 then (ByteArray.empty, 0, 2) else if zs.length - (rdL zs).2.1 < (rdL zs).1 then (ByteArray.empty, 0, 10)
  else (strOfNums ((zs.drop (rdL zs).2.1).take (rdL zs).1), (rdL zs).2.1 + (rdL zs).1, 0)
def rtEnd (zs : List Int) (m : Int) (e : Ending) : Prop := e = .returned (.tuple #[.string (rtL zs m).1, .int .i64 (rtL zs m).2.1, .int .i64 (rtL zs m).2.2])
theorem rt_err {zs : List Int} {m : Int} {n k : Nat} {e : Int} (h : rdL zs = (n, k, e)) (he : (e == 0) = false) : rtL zs m = (ByteArray.empty, 0, e) := by
  unfold rtL; rw [h]; exact if_pos he
theorem rt_long {zs : List Int} {m : Int} {n k : Nat} (h : rdL zs = (n, k, 0)) (hm : m < 0 ∨ m < n) : rtL zs m = (ByteArray.empty, 0, 2) := by
  unfold rtL; rw [h, if_neg (by simp)]; exact if_pos hm
theorem rt_short {zs : List Int} {m : Int} {n k : Nat} (h : rdL zs = (n, k, 0)) (hm : 0 ≤ m) (hn : (n : Int) ≤ m) (hl : zs.length - k < n) : rtL zs m = (ByteArray.empty, 0, 10) := by
  unfold rtL; rw [h, if_neg (by simp), if_neg (by show ¬ (m < 0 ∨ m < (n : Int)); omega)]; exact if_pos hl
theorem rt_ok {zs : List Int} {m : Int} {n k : Nat} (h : rdL zs = (n, k, 0)) (hm : 0 ≤ m) (hn : (n : Int) ≤ m) (hl : ¬ zs.length - k < n) : rtL zs m = (strOfNums ((zs.drop k).take n), k + n, 0) := by
  unfold rtL; rw [h, if_neg (by simp), if_neg (by show ¬ (m < 0 ∨ m < (n : Int)); omega)]; exact if_neg hl

set_option maxHeartbeats 400000 in
theorem readtext_any (v : Value) (zs : List Int) (m : Int) (w : World) (hs : Sl .u8 w v zs) (hm : (Lit.int .i64 m).wf = true) :
    Calls Try.prog 20 #[v, .int .i64 m] w fun e w' => rtEnd zs m e ∧ w = w' := by
  have hbm := bounds_i64 hm
  obtain ⟨hm0, hm1⟩ := hbm
  clear hm
  rcases hr : rdL zs with ⟨n, k, e⟩
  have HR := Lib.hid hr
  rcases rd_err hr with he | he
  · subst he
    obtain ⟨hk1, hk2, hn, -⟩ := rd_back hs.wf hr
    have HN := Lib.hid hn
    have hlen := hs.len
    unfold maxLen at hlen
    clear hr hn
    by_cases h1 : m < 0
    · have hE := Lib.hid (rt_long HR.out (.inl h1))
      go_enter Try.func20, Try.ntmps20
      go_wp2_with (go_at_call 16; refine (read_any _ _ _ hs).mono ?_; rintro e w' ⟨he, rfl⟩; unfold rdEnd at he; rw [HR.out] at he; subst he)
      go_ret3
      exact ⟨by unfold rtEnd; rw [hE.out]; rfl, rfl⟩
    obtain ⟨M, rfl⟩ := Int.eq_ofNat_of_zero_le (show 0 ≤ m by omega)
    by_cases h2 : M < n
    · have hE := Lib.hid (rt_long HR.out (.inr (show (M : Int) < n by omega)))
      go_enter Try.func20, Try.ntmps20
      go_wp2_with (go_at_call 16; refine (read_any _ _ _ hs).mono ?_; rintro e w' ⟨he, rfl⟩; unfold rdEnd at he; rw [HR.out] at he; subst he)
      go_ret3
      exact ⟨by unfold rtEnd; rw [hE.out]; rfl, rfl⟩
    obtain ⟨a, cap, hv, hc1, hc2, hwf, hcs⟩ := id hs
    subst hv
    unfold maxLen at hc2
    have hML : (M : Int) ≤ 9223372036854775807 := hm1
    by_cases h3 : zs.length - k < n
    · have hE := Lib.hid (rt_short (m := (M : Int)) HR.out (by omega) (by omega) h3)
      have h4 : (zs.length : Int) - (k : Int) < (n : Int) := by omega
      go_enter Try.func20, Try.ntmps20
      go_wp2_with (go_at_call 16; refine (read_any _ _ _ hs).mono ?_; rintro e w' ⟨he, rfl⟩; unfold rdEnd at he; rw [HR.out] at he; subst he)
      go_ret3
      exact ⟨by unfold rtEnd; rw [hE.out]; rfl, rfl⟩
    have hE := Lib.hid (rt_ok (m := (M : Int)) HR.out (by omega) (by omega) h3)
    have h4 : (n : Int) ≤ (zs.length : Int) - (k : Int) := by omega
    rcases hcs with ⟨_, _, h⟩ | ⟨b, off, sp, rfl, hc⟩
    · subst h; simp at hk2; omega
    by_cases hck : cap = k
    · have hn0 : n = 0 := by omega
      have hq := run_str (Sl.empty (k := .u8) (w := w) ⟨b, off, sp⟩ (c := 0) (Nat.zero_le _))
      subst hn0
      subst hck
      go_enter Try.func20, Try.ntmps20
      go_wp2_with (go_at_call 16; refine (read_any _ _ _ hs).mono ?_; rintro e w' ⟨he, rfl⟩; unfold rdEnd at he; rw [HR.out] at he; subst he)
      go_ret3
      exact ⟨by unfold rtEnd; rw [hE.out]; rfl, rfl⟩
    · have hq := run_str (hs.sub k n (by omega))
      go_enter Try.func20, Try.ntmps20
      go_wp2_with (go_at_call 16; refine (read_any _ _ _ hs).mono ?_; rintro e w' ⟨he, rfl⟩; unfold rdEnd at he; rw [HR.out] at he; subst he)
      go_ret3
      exact ⟨by unfold rtEnd; rw [hE.out]; rfl, rfl⟩
  · have hE := Lib.hid (rt_err (m := m) HR.out he)
    clear hr
    go_enter Try.func20, Try.ntmps20
    go_wp2_with (go_at_call 16; refine (read_any _ _ _ hs).mono ?_; rintro e w' ⟨he, rfl⟩; unfold rdEnd at he; rw [HR.out] at he; subst he)
    go_ret3
    exact ⟨by unfold rtEnd; rw [hE.out]; rfl, rfl⟩

set_option maxHeartbeats 400000 in
theorem rreadtext_any (v : Value) (zs : List Int) (m : Int) (w : World) (hs : Sl .u8 w v zs) (hm : (Lit.int .i64 m).wf = true) :
    Calls Try.prog 21 #[v, .int .i64 m] w fun e w' => rtEnd zs m e ∧ w = w' := by
  have hbm := bounds_i64 hm
  obtain ⟨hm0, hm1⟩ := hbm
  clear hm
  rcases hr : rdL zs with ⟨n, k, e⟩
  have HR := Lib.hid hr
  rcases rd_err hr with he | he
  · subst he
    obtain ⟨hk1, hk2, hn, -⟩ := rd_back hs.wf hr
    have HN := Lib.hid hn
    have hlen := hs.len
    unfold maxLen at hlen
    clear hr hn
    by_cases h1 : m < 0
    · have hE := Lib.hid (rt_long HR.out (.inl h1))
      go_enter Try.func21, Try.ntmps21
      go_wp2_with (go_at_call 17; refine (rread_any _ _ _ hs).mono ?_; rintro e w' ⟨he, rfl⟩; unfold rdEnd at he; rw [HR.out] at he; subst he)
      go_ret3
      exact ⟨by unfold rtEnd; rw [hE.out]; rfl, rfl⟩
    obtain ⟨M, rfl⟩ := Int.eq_ofNat_of_zero_le (show 0 ≤ m by omega)
    by_cases h2 : M < n
    · have hE := Lib.hid (rt_long HR.out (.inr (show (M : Int) < n by omega)))
      go_enter Try.func21, Try.ntmps21
      go_wp2_with (go_at_call 17; refine (rread_any _ _ _ hs).mono ?_; rintro e w' ⟨he, rfl⟩; unfold rdEnd at he; rw [HR.out] at he; subst he)
      go_ret3
      exact ⟨by unfold rtEnd; rw [hE.out]; rfl, rfl⟩
    obtain ⟨a, cap, hv, hc1, hc2, hwf, hcs⟩ := id hs
    subst hv
    unfold maxLen at hc2
    have hML : (M : Int) ≤ 9223372036854775807 := hm1
    by_cases h3 : zs.length - k < n
    · have hE := Lib.hid (rt_short (m := (M : Int)) HR.out (by omega) (by omega) h3)
      have h4 : (zs.length : Int) - (k : Int) < (n : Int) := by omega
      go_enter Try.func21, Try.ntmps21
      go_wp2_with (go_at_call 17; refine (rread_any _ _ _ hs).mono ?_; rintro e w' ⟨he, rfl⟩; unfold rdEnd at he; rw [HR.out] at he; subst he)
      go_ret3
      exact ⟨by unfold rtEnd; rw [hE.out]; rfl, rfl⟩
    have hE := Lib.hid (rt_ok (m := (M : Int)) HR.out (by omega) (by omega) h3)
    have h4 : (n : Int) ≤ (zs.length : Int) - (k : Int) := by omega
    rcases hcs with ⟨_, _, h⟩ | ⟨b, off, sp, rfl, hc⟩
    · subst h; simp at hk2; omega
    by_cases hck : cap = k
    · have hn0 : n = 0 := by omega
      have hq := run_str (Sl.empty (k := .u8) (w := w) ⟨b, off, sp⟩ (c := 0) (Nat.zero_le _))
      subst hn0
      subst hck
      go_enter Try.func21, Try.ntmps21
      go_wp2_with (go_at_call 17; refine (rread_any _ _ _ hs).mono ?_; rintro e w' ⟨he, rfl⟩; unfold rdEnd at he; rw [HR.out] at he; subst he)
      go_ret3
      exact ⟨by unfold rtEnd; rw [hE.out]; rfl, rfl⟩
    · have hq := run_str (hs.sub k n (by omega))
      go_enter Try.func21, Try.ntmps21
      go_wp2_with (go_at_call 17; refine (rread_any _ _ _ hs).mono ?_; rintro e w' ⟨he, rfl⟩; unfold rdEnd at he; rw [HR.out] at he; subst he)
      go_ret3
      exact ⟨by unfold rtEnd; rw [hE.out]; rfl, rfl⟩
  · have hE := Lib.hid (rt_err (m := m) HR.out he)
    clear hr
    go_enter Try.func21, Try.ntmps21
    go_wp2_with (go_at_call 17; refine (rread_any _ _ _ hs).mono ?_; rintro e w' ⟨he, rfl⟩; unfold rdEnd at he; rw [HR.out] at he; subst he)
    go_ret3
    exact ⟨by unfold rtEnd; rw [hE.out]; rfl, rfl⟩

/-! ### what was written is read -/
theorem rt_text {s : ByteArray} (hs : s.size < 18446744073709551616) (zs : List Int) (m : Int) (hm : (s.size : Int) ≤ m) : rtL (txL s ++ zs) m = (s, (txL s).length, 0) := by
  have h : rdL (txL s ++ zs) = (s.size, bw s.size + 1, 0) := by
    unfold txL
    rw [List.append_assoc]
    exact rd_num hs _
  have hl := numL_length s.size
  have hb := sb_length s
  have hk : ¬ (txL s ++ zs).length - (bw s.size + 1) < s.size := by
    unfold txL; rw [List.length_append, List.length_append, hl, hb]; omega
  rw [rt_ok h (by omega) hm hk]
  have e1 : ((txL s ++ zs).drop (bw s.size + 1)).take s.size = sb s := by
    unfold txL
    rw [List.append_assoc, ← hl, List.drop_left, ← hb, List.take_left]
  have e2 : (txL s).length = bw s.size + 1 + s.size := by unfold txL; rw [List.length_append, hl, hb]
  rw [e1, sb_str, e2]
theorem rt_text_long {s : ByteArray} (hs : s.size < 18446744073709551616) (zs : List Int) (m : Int) (hm : m < (s.size : Int)) : rtL (txL s ++ zs) m = (ByteArray.empty, 0, 2) := by
  have h : rdL (txL s ++ zs) = (s.size, bw s.size + 1, 0) := by
    unfold txL
    rw [List.append_assoc]
    exact rd_num hs _
  exact rt_long h (.inr hm)
theorem txL_length {s : ByteArray} : (txL s).length = bw s.size + 1 + s.size := by unfold txL; rw [List.length_append, numL_length, sb_length]
theorem tx_ab : txL ⟨#[97, 98]⟩ = [1, 2, 97, 98] := by
  have h : (ByteArray.mk #[97, 98]).size = 2 := rfl
  simp [txL, numL, bw_pos, bw_zero, be, sb, h]
end Oc
end Go.Proofs.Ytkbmofbpfinahaa
