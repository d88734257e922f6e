/- A client's session: Got, Answer, Lost. No condition. -/
import Derived.Test.YtdakkjpejhlciaaMuE
namespace Go.Proofs.Ytdakkjpejhlciaa
open Go.ChangeShapes Go.WideShapes Go.ChangeAt Go.RowKit Go.Deep
set_option linter.unusedVariables false
set_option maxRecDepth 100000
set_option linter.unusedSimpArgs false
namespace Mu
open St Mc
section
variable {w w' w1 w2 : World} {S S' : Nat → Prop} {p : Nat} {vr vq vo vr' vq' vo' r : Value} {s s' : Ses}
theorem told_on (ho1 : Only S w w1) (hS : ∀ k, S' k → Grow S w1 w' k) (ho : Only S w1 w') : (∀ k, S' k → Grow S w w' k) ∧ Only S w w' := by
  have z := ho1.2.2.2.1
  refine ⟨fun k hk => ?_, ho1.trans ho⟩
  rcases hS k hk with h | h
  · exact .inl h
  · exact .inr ⟨by omega, h.2⟩
set_option maxHeartbeats 1000000 in
theorem got_any (w : World) (h : SesV w S p vr vq vo s) (hl : s.out.length ≤ 1000000) : Calls Try.prog 13 #[.pointer (some ⟨p, 0, none⟩)] w (MuR (.int .i64 (gotE s)) p (gotS s) S w) := by
  have HML : Hid (s.out.length ≤ 1000000) := Lib.hid hl
  clear hl
  by_cases h2 : s.st = 2
  · unfold gotE gotS
    rw [if_pos h2, if_pos h2]
    have HD1 : Hid (decide (s.st ∈ [2]) = true) := Lib.hid (by simp [h2])
    have H0 : Hid (s.st ≠ 0) := Lib.hid (by rw [h2]; decide)
    obtain ⟨W1, hW1⟩ : ∃ q, w.alloc (.cells #[.int .i64 2] 67) = q := ⟨_, rfl⟩
    have hb1 : Below w.heap.size w W1 := by rw [← hW1]; exact (Below.refl _ _).alloc (Nat.le_refl _) _
    have HB1 : Hid (Below w.heap.size w W1) := Lib.hid (hb1)
    have hv1 := h.below hb1
    have HV1 := Lib.hid hv1
    obtain ⟨c01, c11, c21, -, -, c51, z1⟩ := hv1.cells
    have HLS1 : Hid (Sl .i64 W1 (.slice (some ⟨w.heap.size, 0, none⟩) 1 1) [2]) := Lib.hid (by rw [← hW1]; exact Sl.new w _ [2] rfl rfl (Nat.le_refl _) (by decide) (by decide))
    clear hb1 hv1
    obtain ⟨b, hwb⟩ : ∃ b, s.wi = b := ⟨_, rfl⟩
    rcases Bool.eq_false_or_eq_true b with hb | hb
    rotate_left
    · have hw : s.wi = false := hwb.trans hb
      rw [if_neg (by rw [hw]; decide)]
      rw [hw] at c11
      clear h h2 hw hwb hb c21 c51
      go_enter Try.func13, Try.ntmps13
      go_wp2_with (first | rw [hW1] | ((with_reducible refine (is_any _ [2] _ HV1.out HLS1.out).mono ?_); rintro e w' ⟨rfl, rfl⟩; rw [HD1.out]))
      go_ret
      exact mur_base HB1.out (HV1.out.set0 4 H0.out (by decide)) (only_cell HV1.out.sp 0 _)
    · have hw : s.wi = true := hwb.trans hb
      rw [if_pos hw]
      rw [hw] at c11
      have HV2 := Lib.hid (HV1.out.set0 3 H0.out (by decide))
      have HO2 : Hid (Only S w (W1.setCell ⟨p, 0, none⟩ (.int .i64 3))) := Lib.hid ((Below.only HB1.out S).trans (only_cell HV1.out.sp 0 _))
      clear h h2 hw hwb hb c21 c51
      go_enter Try.func13, Try.ntmps13
      go_wp2_with (first | rw [hW1] | ((with_reducible refine (is_any _ [2] _ HV1.out HLS1.out).mono ?_); rintro e w' ⟨rfl, rfl⟩; rw [HD1.out]) | (refine (reply_any 1 _ HV2.out HML.out).mono ?_; rintro e w3 ⟨rfl, S3, vo3, hv3, hs3, ho3⟩; obtain ⟨q1, q2⟩ := told_on HO2.out hs3 ho3; have HQ1 := Lib.hid q1; have HQ2 := Lib.hid q2; have HV3 := Lib.hid hv3; obtain ⟨c03, c13, c23, -, -, c53, z3⟩ := hv3.cells; clear hv3 hs3 ho3 q1 q2))
      go_ret
      exact mur_mk HQ1.out HQ2.out HV3.out (Only.refl _ _)
  · unfold gotE gotS
    rw [if_neg h2, if_neg h2]
    have HD1 : Hid (decide (s.st ∈ [2]) = false) := Lib.hid (by simp [h2])
    obtain ⟨W1, hW1⟩ : ∃ q, w.alloc (.cells #[.int .i64 2] 67) = q := ⟨_, rfl⟩
    have hb1 : Below w.heap.size w W1 := by rw [← hW1]; exact (Below.refl _ _).alloc (Nat.le_refl _) _
    have HB1 : Hid (Below w.heap.size w W1) := Lib.hid (hb1)
    have hv1 := h.below hb1
    have HV1 := Lib.hid hv1
    obtain ⟨c01, c11, c21, -, -, c51, z1⟩ := hv1.cells
    have HLS1 : Hid (Sl .i64 W1 (.slice (some ⟨w.heap.size, 0, none⟩) 1 1) [2]) := Lib.hid (by rw [← hW1]; exact Sl.new w _ [2] rfl rfl (Nat.le_refl _) (by decide) (by decide))
    clear hb1 hv1
    clear h h2
    go_enter Try.func13, Try.ntmps13
    go_wp2_with (first | rw [hW1] | ((with_reducible refine (is_any _ [2] _ HV1.out HLS1.out).mono ?_); rintro e w' ⟨rfl, rfl⟩; rw [HD1.out]))
    go_ret
    exact mur_base HB1.out HV1.out (Only.refl _ _)
set_option maxHeartbeats 1000000 in
theorem lost_any (w : World) (h : SesV w S p vr vq vo s) (hl : s.out.length ≤ 1000000) : Calls Try.prog 19 #[.pointer (some ⟨p, 0, none⟩)] w (MuR (.int .i64 (lostE s)) p (lostS s) S w) := by
  have HML : Hid (s.out.length ≤ 1000000) := Lib.hid hl
  clear hl
  unfold lostE lostS
  obtain ⟨W1, hW1⟩ : ∃ q, w.alloc (.cells #[.int .i64 3] 67) = q := ⟨_, rfl⟩
  have hb1 : Below w.heap.size w W1 := by rw [← hW1]; exact (Below.refl _ _).alloc (Nat.le_refl _) _
  have HB1 : Hid (Below w.heap.size w W1) := Lib.hid (hb1)
  have hv1 := h.below hb1
  have HV1 := Lib.hid hv1
  obtain ⟨c01, c11, c21, -, -, c51, z1⟩ := hv1.cells
  have HLS1 : Hid (Sl .i64 W1 (.slice (some ⟨w.heap.size, 0, none⟩) 1 1) [3]) := Lib.hid (by rw [← hW1]; exact Sl.new w _ [3] rfl rfl (Nat.le_refl _) (by decide) (by decide))
  clear hb1 hv1
  by_cases h3 : s.st = 3
  · rw [if_pos (.inl h3), if_pos h3]
    have HD1 : Hid (decide (s.st ∈ [3]) = true) := Lib.hid (by simp [h3])
    have H0 : Hid (s.st ≠ 0) := Lib.hid (by rw [h3]; decide)
    clear h h3
    go_enter Try.func19, Try.ntmps19
    go_wp2_with (first | rw [hW1] | ((with_reducible refine (is_any _ [3] _ HV1.out HLS1.out).mono ?_); rintro e w' ⟨rfl, rfl⟩; rw [HD1.out]))
    go_ret
    exact mur_base HB1.out (HV1.out.set0 7 H0.out (by decide)) (only_cell HV1.out.sp 0 _)
  have HD1 : Hid (decide (s.st ∈ [3]) = false) := Lib.hid (by simp [h3])
  obtain ⟨W2, hW2⟩ : ∃ q, W1.alloc (.cells #[.int .i64 4, .int .i64 5] 67) = q := ⟨_, rfl⟩
  have hb2 : Below W1.heap.size W1 W2 := by rw [← hW2]; exact (Below.refl _ _).alloc (Nat.le_refl _) _
  have HB2 : Hid (Below w.heap.size w W2) := Lib.hid (HB1.out.trans (hb2.mono HB1.out.size))
  have hv2 := HV1.out.below hb2
  have HV2 := Lib.hid hv2
  obtain ⟨c02, c12, c22, -, -, c52, z2⟩ := hv2.cells
  have HLS2 : Hid (Sl .i64 W2 (.slice (some ⟨W1.heap.size, 0, none⟩) 2 2) [4, 5]) := Lib.hid (by rw [← hW2]; exact Sl.new W1 _ [4, 5] rfl rfl (Nat.le_refl _) (by decide) (by decide))
  clear hb2 hv2
  by_cases h4 : s.st = 4 ∨ s.st = 5
  · rw [if_pos (by omega), if_neg h3, if_pos h4]
    have HD2 : Hid (decide (s.st ∈ [4, 5]) = true) := Lib.hid (by simp [h4])
    have H0 : Hid (s.st ≠ 0) := Lib.hid (by omega)
    have HO2 := Lib.hid (Below.only HB2.out S)
    clear h h3 h4
    go_enter Try.func19, Try.ntmps19
    go_wp2_with (first | rw [hW1] | rw [hW2] | ((with_reducible refine (is_any _ [3] _ HV1.out HLS1.out).mono ?_); rintro e w' ⟨rfl, rfl⟩; rw [HD1.out]) | ((with_reducible refine (is_any _ [4, 5] _ HV2.out HLS2.out).mono ?_); rintro e w' ⟨rfl, rfl⟩; rw [HD2.out]) | (refine (reply_any 6 _ HV2.out HML.out).mono ?_; rintro e w3 ⟨rfl, S3, vo3, hv3, hs3, ho3⟩; obtain ⟨q1, q2⟩ := told_on HO2.out hs3 ho3; have HQ1 := Lib.hid q1; have HQ2 := Lib.hid q2; have HV3 := Lib.hid hv3; obtain ⟨c03, c13, c23, -, -, c53, z3⟩ := hv3.cells; clear hv3 hs3 ho3 q1 q2))
    go_ret
    exact mur_mk HQ1.out HQ2.out ((HV3.out.set0 1 H0.out (by decide)).set2 emp (show (1 : Int) ≠ 0 by decide)) (two_cells HV3.out.sp 0 2 _ _)
  have HD2 : Hid (decide (s.st ∈ [4, 5]) = false) := Lib.hid (by simpa using h4)
  obtain ⟨W3, hW3⟩ : ∃ q, W2.alloc (.cells #[.int .i64 6] 67) = q := ⟨_, rfl⟩
  have hb3 : Below W2.heap.size W2 W3 := by rw [← hW3]; exact (Below.refl _ _).alloc (Nat.le_refl _) _
  have HB3 : Hid (Below w.heap.size w W3) := Lib.hid (HB2.out.trans (hb3.mono HB2.out.size))
  have hv3 := HV2.out.below hb3
  have HV3 := Lib.hid hv3
  obtain ⟨c03, c13, c23, -, -, c53, z3⟩ := hv3.cells
  have HLS3 : Hid (Sl .i64 W3 (.slice (some ⟨W2.heap.size, 0, none⟩) 1 1) [6]) := Lib.hid (by rw [← hW3]; exact Sl.new W2 _ [6] rfl rfl (Nat.le_refl _) (by decide) (by decide))
  clear hb3 hv3
  by_cases h6 : s.st = 6
  · rw [if_pos (by omega), if_neg h3, if_neg h4, if_pos h6]
    have HD3 : Hid (decide (s.st ∈ [6]) = true) := Lib.hid (by simp [h6])
    have H0 : Hid (s.st ≠ 0) := Lib.hid (by omega)
    clear h h3 h4 h6
    go_enter Try.func19, Try.ntmps19
    go_wp2_with (first | rw [hW1] | rw [hW2] | rw [hW3] | ((with_reducible refine (is_any _ [3] _ HV1.out HLS1.out).mono ?_); rintro e w' ⟨rfl, rfl⟩; rw [HD1.out]) | ((with_reducible refine (is_any _ [4, 5] _ HV2.out HLS2.out).mono ?_); rintro e w' ⟨rfl, rfl⟩; rw [HD2.out]) | ((with_reducible refine (is_any _ [6] _ HV3.out HLS3.out).mono ?_); rintro e w' ⟨rfl, rfl⟩; rw [HD3.out]))
    go_ret
    exact mur_base HB3.out (HV3.out.set0 1 H0.out (by decide)) (only_cell HV3.out.sp 0 _)
  · rw [if_neg (by omega), if_neg h3, if_neg h4, if_neg h6]
    have HD3 : Hid (decide (s.st ∈ [6]) = false) := Lib.hid (by simp [h6])
    clear h h3 h4 h6
    go_enter Try.func19, Try.ntmps19
    go_wp2_with (first | rw [hW1] | rw [hW2] | rw [hW3] | ((with_reducible refine (is_any _ [3] _ HV1.out HLS1.out).mono ?_); rintro e w' ⟨rfl, rfl⟩; rw [HD1.out]) | ((with_reducible refine (is_any _ [4, 5] _ HV2.out HLS2.out).mono ?_); rintro e w' ⟨rfl, rfl⟩; rw [HD2.out]) | ((with_reducible refine (is_any _ [6] _ HV3.out HLS3.out).mono ?_); rintro e w' ⟨rfl, rfl⟩; rw [HD3.out]))
    go_ret
    exact mur_base HB3.out HV3.out (Only.refl _ _)
set_option maxHeartbeats 1000000 in
theorem ans_any (t : ByteArray) (w : World) (h : SesV w S p vr vq vo s) (hl : s.out.length ≤ 1000000) : Calls Try.prog 17 #[.pointer (some ⟨p, 0, none⟩), .string t] w (MuR (.int .i64 (ansE s)) p (ansS s t) S w) := by
  have HML : Hid (s.out.length ≤ 1000000) := Lib.hid hl
  clear hl
  obtain ⟨W1, hW1⟩ : ∃ q, w.alloc (.cells #[.int .i64 5] 67) = q := ⟨_, rfl⟩
  have hb1 : Below w.heap.size w W1 := by rw [← hW1]; exact (Below.refl _ _).alloc (Nat.le_refl _) _
  have HB1 : Hid (Below w.heap.size w W1) := Lib.hid (hb1)
  have hv1 := h.below hb1
  have HV1 := Lib.hid hv1
  obtain ⟨c01, c11, c21, -, -, c51, z1⟩ := hv1.cells
  have HLS1 : Hid (Sl .i64 W1 (.slice (some ⟨w.heap.size, 0, none⟩) 1 1) [5]) := Lib.hid (by rw [← hW1]; exact Sl.new w _ [5] rfl rfl (Nat.le_refl _) (by decide) (by decide))
  clear hb1 hv1
  by_cases h5 : s.st = 5
  · unfold ansE ansS
    rw [if_pos h5, if_pos h5]
    have HD1 : Hid (decide (s.st ∈ [5]) = true) := Lib.hid (by simp [h5])
    have H0 : Hid (s.st ≠ 0) := Lib.hid (by rw [h5]; decide)
    obtain ⟨W2, hW2⟩ : ∃ q, W1.alloc (.cells #[.int .i64 2, .int .i64 0, .string t] TR) = q := ⟨_, rfl⟩
    have hb2 : Below W1.heap.size W1 W2 := by rw [← hW2]; exact (Below.refl _ _).alloc (Nat.le_refl _) _
    have HB2 : Hid (Below w.heap.size w W2) := Lib.hid (HB1.out.trans (hb2.mono HB1.out.size))
    have HV2 := Lib.hid (HV1.out.below hb2)
    have HLIT : Hid (SlR 3 repC W2 (.slice (some ⟨W1.heap.size, 0, none⟩) 1 1) [⟨2, 0, t⟩]) := Lib.hid (by rw [← hW2]; exact SlR.one repC_len W1 _ rfl _ (⟨2, 0, t⟩ : Rep) rfl)
    clear hb2
    obtain ⟨b, hwb⟩ : ∃ b, s.wi = b := ⟨_, rfl⟩
    rcases Bool.eq_false_or_eq_true b with hb | hb
    rotate_left
    · have hw : s.wi = false := hwb.trans hb
      rw [if_neg (by rw [hw]; decide)]
      have HWI : Hid (({ s with out := s.out ++ [⟨2, 0, t⟩] } : Ses).wi = false) := Lib.hid hw
      clear h h5 hw hwb hb
      go_enter Try.func17, Try.ntmps17
      go_wp2_with (first | rw [hW1] | rw [hW2] | ((with_reducible refine (is_any _ [5] _ HV1.out HLS1.out).mono ?_); rintro e w' ⟨rfl, rfl⟩; rw [HD1.out]) | (at_builtin; refine appRz repC_len repC_one Try.underlying30 rfl (by decide) info_rep (by decide) rfl (.tmp 13) (.tmp 16) rfl 0 vo s.out rfl HV2.out.o (.slice (some ⟨W1.heap.size, 0, none⟩) 1 1) [⟨2, 0, t⟩] rfl HLIT.out (by have := HML.out; unfold maxLen; simp; omega) (by have := HML.out; simp; omega) (Nat.zero_le _) ?_; intro v5 w5 hown5 hgr5 hli5; obtain ⟨a5, m5, d5, rfl⟩ := slice_any hown5; obtain ⟨hn5, ho5⟩ := HV2.out.told hown5 hgr5 hli5; have HN5 := Lib.hid hn5; have HO5 := Lib.hid ho5; have hrow5 := (hgr5.block p HV2.out.plt (fun e => HV2.out.one p e.symm rfl)).trans HV2.out.row; have cc5 : w5.cell? ⟨p, 5, none⟩ = some vo := (cell_of_row w5 _ 5 _ _ _ hrow5).trans rfl; have zz5 : ∀ i, w5.frozen? ⟨p, i, none⟩ = false := fun i => frozen_of_row _ _ _ _ _ hrow5; have HG5 := Lib.hid hgr5.size; obtain ⟨n0, n1, -, -, -, -, nz⟩ := hn5.cells; rw [HWI.out] at n1; clear hown5 hgr5 hli5 hn5 ho5 hrow5))
      go_ret
      have hz : (w5.setCell ⟨p, 5, none⟩ (.slice a5 m5 d5)).heap.size = w5.heap.size := by simp
      obtain ⟨q1, q2⟩ := told_ahead (S' := Grow S W2 w5) HB2.out (w' := w5.setCell ⟨p, 5, none⟩ (.slice a5 m5 d5)) (S := S) (fun k hk => by
        rcases hk with hk | hk
        · exact .inl hk
        · exact .inr ⟨hk.1, by rw [hz]; exact hk.2⟩) HO5.out
      exact mur_mk q1 q2 (HN5.out.set0 6 H0.out (by decide)) (only_cell (Or.inl HV2.out.sp) 0 _)
    · have hw : s.wi = true := hwb.trans hb
      rw [if_pos hw]
      have HWI : Hid (({ s with out := s.out ++ [⟨2, 0, t⟩] } : Ses).wi = true) := Lib.hid hw
      clear h h5 hw hwb hb
      go_enter Try.func17, Try.ntmps17
      go_wp2_with (first | rw [hW1] | rw [hW2] | ((with_reducible refine (is_any _ [5] _ HV1.out HLS1.out).mono ?_); rintro e w' ⟨rfl, rfl⟩; rw [HD1.out]) | (at_builtin; refine appRz repC_len repC_one Try.underlying30 rfl (by decide) info_rep (by decide) rfl (.tmp 13) (.tmp 16) rfl 0 vo s.out rfl HV2.out.o (.slice (some ⟨W1.heap.size, 0, none⟩) 1 1) [⟨2, 0, t⟩] rfl HLIT.out (by have := HML.out; unfold maxLen; simp; omega) (by have := HML.out; simp; omega) (Nat.zero_le _) ?_; intro v5 w5 hown5 hgr5 hli5; obtain ⟨a5, m5, d5, rfl⟩ := slice_any hown5; obtain ⟨hn5, ho5⟩ := HV2.out.told hown5 hgr5 hli5; have HN5 := Lib.hid hn5; have HO5 := Lib.hid ho5; have hrow5 := (hgr5.block p HV2.out.plt (fun e => HV2.out.one p e.symm rfl)).trans HV2.out.row; have cc5 : w5.cell? ⟨p, 5, none⟩ = some vo := (cell_of_row w5 _ 5 _ _ _ hrow5).trans rfl; have zz5 : ∀ i, w5.frozen? ⟨p, i, none⟩ = false := fun i => frozen_of_row _ _ _ _ _ hrow5; have HG5 := Lib.hid hgr5.size; obtain ⟨n0, n1, -, -, -, -, nz⟩ := hn5.cells; rw [HWI.out] at n1; clear hown5 hgr5 hli5 hn5 ho5 hrow5))
      go_ret
      have hz : (w5.setCell ⟨p, 5, none⟩ (.slice a5 m5 d5)).heap.size = w5.heap.size := by simp
      obtain ⟨q1, q2⟩ := told_ahead (S' := Grow S W2 w5) HB2.out (w' := w5.setCell ⟨p, 5, none⟩ (.slice a5 m5 d5)) (S := S) (fun k hk => by
        rcases hk with hk | hk
        · exact .inl hk
        · exact .inr ⟨hk.1, by rw [hz]; exact hk.2⟩) HO5.out
      exact mur_mk q1 q2 ((HN5.out.set0 6 H0.out (by decide)).set0 3 (show (6 : Int) ≠ 0 by decide) (by decide)) (two_cells (Or.inl HV2.out.sp) 0 0 _ _)
  · unfold ansE ansS
    rw [if_neg h5, if_neg h5]
    have HD1 : Hid (decide (s.st ∈ [5]) = false) := Lib.hid (by simp [h5])
    clear h h5
    go_enter Try.func17, Try.ntmps17
    go_wp2_with (first | rw [hW1] | ((with_reducible refine (is_any _ [5] _ HV1.out HLS1.out).mono ?_); rintro e w' ⟨rfl, rfl⟩; rw [HD1.out]))
    go_ret
    exact mur_base HB1.out HV1.out (Only.refl _ _)
end
end Mu
end Go.Proofs.Ytdakkjpejhlciaa
