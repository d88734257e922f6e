/- A client's session: the rows of its table. No condition. -/
import Derived.Test.YtdakkjpejhlciaaMuC
namespace Go.Proofs.Ytdakkjpejhlciaa
open Go.ChangeShapes Go.WideShapes Go.ChangeAt Go.RowKit Go.Deep
set_option linter.unusedVariables false
set_option maxRecDepth 100000
set_option linter.unusedSimpArgs false
namespace Mu
open St Mc
section
variable {w w' w1 w2 : World} {S S' : Nat → Prop} {p : Nat} {vr vq vo vr' vq' vo' r : Value} {s s' : Ses}
theorem mur_mk (hS : ∀ k, S' k → Grow S w w1 k) (ho : Only S w w1) (hv : SesV w2 S' p vr' vq' vo' s') (h2 : Only S' w1 w2) : MuR r p s' S w (.returned r) w2 := ⟨rfl, Mc.Left.step ho hS (Mc.Left.mk (goodS p s') hv.x h2)⟩
theorem mur_base (hb : Below w.heap.size w w1) (hv : SesV w2 S p vr' vq' vo' s') (h2 : Only S w1 w2) : MuR r p s' S w (.returned r) w2 := mur_mk (fun k hk => .inl hk) (Below.only hb S) hv h2
theorem two_cells (hp : S p) (i j : Nat) (a b : Value) : Only S w ((w.setCell ⟨p, i, none⟩ a).setCell ⟨p, j, none⟩ b) := (only_cell hp i a).trans (only_cell hp j b)
theorem three_cells (hp : S p) (i j k : Nat) (a b c : Value) : Only S w (((w.setCell ⟨p, i, none⟩ a).setCell ⟨p, j, none⟩ b).setCell ⟨p, k, none⟩ c) := (two_cells hp i j a b).trans (only_cell hp k c)
set_option maxHeartbeats 1000000 in
theorem free_begin (w : World) (h : SesV w S p vr vq vo s) (h0 : s.st ≠ 0) (hl : s.out.length ≤ 1000000) : Calls Try.prog 77 #[.agg #[], .pointer (some ⟨p, 0, none⟩)] w (MuR (.tuple #[.int .i64 1, .string ⟨#[]⟩]) p { s with st := 2, wi := true } S w) := by
  obtain ⟨W1, hW1⟩ : ∃ q, w.alloc (.cells #[] 103) = q := ⟨_, rfl⟩
  have hb1 : Below w.heap.size w W1 := by rw [← hW1]; exact (Below.refl _ _).alloc (Nat.le_refl _) _
  have HB1 := Lib.hid hb1
  have hv1 := h.below hb1
  have HV1 := Lib.hid hv1
  have H0 := Lib.hid h0
  have HML := Lib.hid hl
  obtain ⟨c0, c1, c2, c3, c4, c5, z⟩ := hv1.cells
  clear h hb1 hv1 h0 hl c3 c4 c5
  go_enter Try.func77, Try.ntmps77
  go_wp2_with (first | rw [hW1])
  go_ret2
  exact mur_base HB1.out ((HV1.out.set0 2 H0.out (by decide)).set1 true (show (2 : Int) ≠ 0 by decide)) (two_cells HV1.out.sp 0 1 _ _)
set_option maxHeartbeats 1000000 in
theorem free_query (t : ByteArray) (w : World) (h : SesV w S p vr vq vo s) (h0 : s.st ≠ 0) (hl : s.out.length ≤ 1000000) : Calls Try.prog 79 #[.agg #[], .pointer (some ⟨p, 0, none⟩), .string t] w (MuR (.tuple #[.int .i64 1, .string ⟨#[]⟩]) p { s with st := 2, wi := false, tx := t } S w) := by
  obtain ⟨W1, hW1⟩ : ∃ q, w.alloc (.cells #[] 103) = q := ⟨_, rfl⟩
  have hb1 : Below w.heap.size w W1 := by rw [← hW1]; exact (Below.refl _ _).alloc (Nat.le_refl _) _
  have HB1 := Lib.hid hb1
  have hv1 := h.below hb1
  have HV1 := Lib.hid hv1
  have H0 := Lib.hid h0
  have HML := Lib.hid hl
  obtain ⟨c0, c1, c2, c3, c4, c5, z⟩ := hv1.cells
  clear h hb1 hv1 h0 hl c3 c4 c5
  go_enter Try.func79, Try.ntmps79
  go_wp2_with (first | rw [hW1])
  go_ret2
  exact mur_base HB1.out (((HV1.out.set0 2 H0.out (by decide)).set1 false (show (2 : Int) ≠ 0 by decide)).set2 t (show (2 : Int) ≠ 0 by decide)) (three_cells HV1.out.sp 0 1 2 _ _ _)
set_option maxHeartbeats 1000000 in
theorem free_end (w : World) (h : SesV w S p vr vq vo s) (h0 : s.st ≠ 0) (hl : s.out.length ≤ 1000000) : Calls Try.prog 78 #[.agg #[], .pointer (some ⟨p, 0, none⟩)] w (MuR (.tuple #[.int .i64 0, .string ⟨#[]⟩]) p (s.tell (rep 7)) S w) := by
  obtain ⟨W1, hW1⟩ : ∃ q, w.alloc (.cells #[] 103) = q := ⟨_, rfl⟩
  have hb1 : Below w.heap.size w W1 := by rw [← hW1]; exact (Below.refl _ _).alloc (Nat.le_refl _) _
  have HB1 := Lib.hid hb1
  have hv1 := h.below hb1
  have HV1 := Lib.hid hv1
  have H0 := Lib.hid h0
  have HML := Lib.hid hl
  obtain ⟨c0, c1, c2, c3, c4, c5, z⟩ := hv1.cells
  clear h hb1 hv1 h0 hl c3 c4 c5
  go_enter Try.func78, Try.ntmps78
  go_wp2_with (first | rw [hW1] | (refine (reply_any 7 _ HV1.out HML.out).mono ?_; rintro e w2 ⟨rfl, S2, vo2, hv2, hs2, ho2⟩; obtain ⟨q1, q2⟩ := told_ahead HB1.out hs2 ho2; have HQ1 := Lib.hid q1; have HQ2 := Lib.hid q2; have HV2 := Lib.hid hv2; obtain ⟨d0, d1, d2, d3, d4, d5, dz⟩ := hv2.cells; clear hv2 hs2 ho2 q1 q2 d1 d3 d4 d5))
  go_ret2
  exact mur_mk HQ1.out HQ2.out HV2.out (Only.refl _ _)
set_option maxHeartbeats 1000000 in
theorem free_bad (w : World) (h : SesV w S p vr vq vo s) (h0 : s.st ≠ 0) (hl : s.out.length ≤ 1000000) : Calls Try.prog 76 #[.agg #[], .pointer (some ⟨p, 0, none⟩)] w (MuR (.tuple #[.int .i64 0, .string ⟨#[]⟩]) p (hangS (s.tell (rep 8))) S w) := by
  obtain ⟨W1, hW1⟩ : ∃ q, w.alloc (.cells #[] 103) = q := ⟨_, rfl⟩
  have hb1 : Below w.heap.size w W1 := by rw [← hW1]; exact (Below.refl _ _).alloc (Nat.le_refl _) _
  have HB1 := Lib.hid hb1
  have hv1 := h.below hb1
  have HV1 := Lib.hid hv1
  have H0 := Lib.hid h0
  have HML := Lib.hid hl
  obtain ⟨c0, c1, c2, c3, c4, c5, z⟩ := hv1.cells
  clear h hb1 hv1 h0 hl c3 c4 c5
  go_enter Try.func76, Try.ntmps76
  go_wp2_with (first | rw [hW1] | (refine (reply_any 8 _ HV1.out HML.out).mono ?_; rintro e w2 ⟨rfl, S2, vo2, hv2, hs2, ho2⟩; obtain ⟨q1, q2⟩ := told_ahead HB1.out hs2 ho2; have HQ1 := Lib.hid q1; have HQ2 := Lib.hid q2; have HV2 := Lib.hid hv2; obtain ⟨d0, d1, d2, d3, d4, d5, dz⟩ := hv2.cells; clear hv2 hs2 ho2 q1 q2 d1 d3 d4 d5) | (refine (hang_any _ HV2.out).mono ?_; rintro e w3 ⟨rfl, hv3, ho3⟩; have HV3 := Lib.hid hv3; have HO3 := Lib.hid ho3; clear hv3 ho3))
  go_ret2
  exact mur_mk HQ1.out HQ2.out HV3.out HO3.out
set_option maxHeartbeats 1000000 in
theorem bound_begin (w : World) (h : SesV w S p vr vq vo s) (h0 : s.st ≠ 0) (hl : s.out.length ≤ 1000000) : Calls Try.prog 81 #[.agg #[], .pointer (some ⟨p, 0, none⟩)] w (MuR (.tuple #[.int .i64 0, .string ⟨#[]⟩]) p (s.tell (rep 7)) S w) := by
  obtain ⟨W1, hW1⟩ : ∃ q, w.alloc (.cells #[] 104) = q := ⟨_, rfl⟩
  have hb1 : Below w.heap.size w W1 := by rw [← hW1]; exact (Below.refl _ _).alloc (Nat.le_refl _) _
  have HB1 := Lib.hid hb1
  have hv1 := h.below hb1
  have HV1 := Lib.hid hv1
  have H0 := Lib.hid h0
  have HML := Lib.hid hl
  obtain ⟨c0, c1, c2, c3, c4, c5, z⟩ := hv1.cells
  clear h hb1 hv1 h0 hl c3 c4 c5
  go_enter Try.func81, Try.ntmps81
  go_wp2_with (first | rw [hW1] | (refine (reply_any 7 _ HV1.out HML.out).mono ?_; rintro e w2 ⟨rfl, S2, vo2, hv2, hs2, ho2⟩; obtain ⟨q1, q2⟩ := told_ahead HB1.out hs2 ho2; have HQ1 := Lib.hid q1; have HQ2 := Lib.hid q2; have HV2 := Lib.hid hv2; obtain ⟨d0, d1, d2, d3, d4, d5, dz⟩ := hv2.cells; clear hv2 hs2 ho2 q1 q2 d1 d3 d4 d5))
  go_ret2
  exact mur_mk HQ1.out HQ2.out HV2.out (Only.refl _ _)
set_option maxHeartbeats 1000000 in
theorem bound_query (t : ByteArray) (w : World) (h : SesV w S p vr vq vo s) (h0 : s.st ≠ 0) (hl : s.out.length ≤ 1000000) : Calls Try.prog 83 #[.agg #[], .pointer (some ⟨p, 0, none⟩), .string t] w (MuR (.tuple #[.int .i64 2, .string t]) p { s with st := 5 } S w) := by
  obtain ⟨W1, hW1⟩ : ∃ q, w.alloc (.cells #[] 104) = q := ⟨_, rfl⟩
  have hb1 : Below w.heap.size w W1 := by rw [← hW1]; exact (Below.refl _ _).alloc (Nat.le_refl _) _
  have HB1 := Lib.hid hb1
  have hv1 := h.below hb1
  have HV1 := Lib.hid hv1
  have H0 := Lib.hid h0
  have HML := Lib.hid hl
  obtain ⟨c0, c1, c2, c3, c4, c5, z⟩ := hv1.cells
  clear h hb1 hv1 h0 hl c3 c4 c5
  go_enter Try.func83, Try.ntmps83
  go_wp2_with (first | rw [hW1])
  go_ret2
  exact mur_base HB1.out (HV1.out.set0 5 H0.out (by decide)) (only_cell HV1.out.sp 0 _)
set_option maxHeartbeats 1000000 in
theorem bound_end (w : World) (h : SesV w S p vr vq vo s) (h0 : s.st ≠ 0) (hl : s.out.length ≤ 1000000) : Calls Try.prog 82 #[.agg #[], .pointer (some ⟨p, 0, none⟩)] w (MuR (.tuple #[.int .i64 3, .string ⟨#[]⟩]) p { s.tell (rep 3) with st := 1 } S w) := by
  obtain ⟨W1, hW1⟩ : ∃ q, w.alloc (.cells #[] 104) = q := ⟨_, rfl⟩
  have hb1 : Below w.heap.size w W1 := by rw [← hW1]; exact (Below.refl _ _).alloc (Nat.le_refl _) _
  have HB1 := Lib.hid hb1
  have hv1 := h.below hb1
  have HV1 := Lib.hid hv1
  have H0 := Lib.hid h0
  have HML := Lib.hid hl
  obtain ⟨c0, c1, c2, c3, c4, c5, z⟩ := hv1.cells
  clear h hb1 hv1 h0 hl c3 c4 c5
  go_enter Try.func82, Try.ntmps82
  go_wp2_with (first | rw [hW1] | (refine (reply_any 3 _ HV1.out HML.out).mono ?_; rintro e w2 ⟨rfl, S2, vo2, hv2, hs2, ho2⟩; obtain ⟨q1, q2⟩ := told_ahead HB1.out hs2 ho2; have HQ1 := Lib.hid q1; have HQ2 := Lib.hid q2; have HV2 := Lib.hid hv2; obtain ⟨d0, d1, d2, d3, d4, d5, dz⟩ := hv2.cells; clear hv2 hs2 ho2 q1 q2 d1 d3 d4 d5))
  go_ret2
  exact mur_mk HQ1.out HQ2.out (HV2.out.set0 1 H0.out (by decide)) (only_cell HV2.out.sp 0 _)
set_option maxHeartbeats 1000000 in
theorem bound_bad (w : World) (h : SesV w S p vr vq vo s) (h0 : s.st ≠ 0) (hl : s.out.length ≤ 1000000) : Calls Try.prog 80 #[.agg #[], .pointer (some ⟨p, 0, none⟩)] w (MuR (.tuple #[.int .i64 3, .string ⟨#[]⟩]) p (hangS (s.tell (rep 8))) S w) := by
  obtain ⟨W1, hW1⟩ : ∃ q, w.alloc (.cells #[] 104) = q := ⟨_, rfl⟩
  have hb1 : Below w.heap.size w W1 := by rw [← hW1]; exact (Below.refl _ _).alloc (Nat.le_refl _) _
  have HB1 := Lib.hid hb1
  have hv1 := h.below hb1
  have HV1 := Lib.hid hv1
  have H0 := Lib.hid h0
  have HML := Lib.hid hl
  obtain ⟨c0, c1, c2, c3, c4, c5, z⟩ := hv1.cells
  clear h hb1 hv1 h0 hl c3 c4 c5
  go_enter Try.func80, Try.ntmps80
  go_wp2_with (first | rw [hW1] | (refine (reply_any 8 _ HV1.out HML.out).mono ?_; rintro e w2 ⟨rfl, S2, vo2, hv2, hs2, ho2⟩; obtain ⟨q1, q2⟩ := told_ahead HB1.out hs2 ho2; have HQ1 := Lib.hid q1; have HQ2 := Lib.hid q2; have HV2 := Lib.hid hv2; obtain ⟨d0, d1, d2, d3, d4, d5, dz⟩ := hv2.cells; clear hv2 hs2 ho2 q1 q2 d1 d3 d4 d5) | (refine (hang_any _ HV2.out).mono ?_; rintro e w3 ⟨rfl, hv3, ho3⟩; have HV3 := Lib.hid hv3; have HO3 := Lib.hid ho3; clear hv3 ho3))
  go_ret2
  exact mur_mk HQ1.out HQ2.out HV3.out HO3.out
set_option maxHeartbeats 1000000 in
theorem dead_abort (w : World) (h : SesV w S p vr vq vo s) (h0 : s.st ≠ 0) (hl : s.out.length ≤ 1000000) : Calls Try.prog 84 #[.agg #[], .pointer (some ⟨p, 0, none⟩)] w (MuR (.tuple #[.int .i64 0, .string ⟨#[]⟩]) p { s.tell (rep 6) with st := 1 } S w) := by
  obtain ⟨W1, hW1⟩ : ∃ q, w.alloc (.cells #[] 106) = q := ⟨_, rfl⟩
  have hb1 : Below w.heap.size w W1 := by rw [← hW1]; exact (Below.refl _ _).alloc (Nat.le_refl _) _
  have HB1 := Lib.hid hb1
  have hv1 := h.below hb1
  have HV1 := Lib.hid hv1
  have H0 := Lib.hid h0
  have HML := Lib.hid hl
  obtain ⟨c0, c1, c2, c3, c4, c5, z⟩ := hv1.cells
  clear h hb1 hv1 h0 hl c3 c4 c5
  go_enter Try.func84, Try.ntmps84
  go_wp2_with (first | rw [hW1] | (refine (reply_any 6 _ HV1.out HML.out).mono ?_; rintro e w2 ⟨rfl, S2, vo2, hv2, hs2, ho2⟩; obtain ⟨q1, q2⟩ := told_ahead HB1.out hs2 ho2; have HQ1 := Lib.hid q1; have HQ2 := Lib.hid q2; have HV2 := Lib.hid hv2; obtain ⟨d0, d1, d2, d3, d4, d5, dz⟩ := hv2.cells; clear hv2 hs2 ho2 q1 q2 d1 d3 d4 d5))
  go_ret2
  exact mur_mk HQ1.out HQ2.out (HV2.out.set0 1 H0.out (by decide)) (only_cell HV2.out.sp 0 _)
set_option maxHeartbeats 1000000 in
theorem dead_begin (w : World) (h : SesV w S p vr vq vo s) (h0 : s.st ≠ 0) (hl : s.out.length ≤ 1000000) : Calls Try.prog 85 #[.agg #[], .pointer (some ⟨p, 0, none⟩)] w (MuR (.tuple #[.int .i64 0, .string ⟨#[]⟩]) p { s.tell (rep 6) with st := 1 } S w) := by
  obtain ⟨W1, hW1⟩ : ∃ q, w.alloc (.cells #[] 106) = q := ⟨_, rfl⟩
  have hb1 : Below w.heap.size w W1 := by rw [← hW1]; exact (Below.refl _ _).alloc (Nat.le_refl _) _
  have HB1 := Lib.hid hb1
  have hv1 := h.below hb1
  have HV1 := Lib.hid hv1
  have H0 := Lib.hid h0
  have HML := Lib.hid hl
  obtain ⟨c0, c1, c2, c3, c4, c5, z⟩ := hv1.cells
  clear h hb1 hv1 h0 hl c3 c4 c5
  go_enter Try.func85, Try.ntmps85
  go_wp2_with (first | rw [hW1] | (refine (dead_abort _ HV1.out H0.out HML.out).mono ?_; rintro e w2 ⟨rfl, hl2⟩; have HL2 := Lib.hid hl2; clear hl2))
  go_ret2
  exact ⟨rfl, Mc.Left.ahead HB1.out HL2.out⟩
set_option maxHeartbeats 1000000 in
theorem dead_query (t : ByteArray) (w : World) (h : SesV w S p vr vq vo s) (h0 : s.st ≠ 0) (hl : s.out.length ≤ 1000000) : Calls Try.prog 87 #[.agg #[], .pointer (some ⟨p, 0, none⟩), .string t] w (MuR (.tuple #[.int .i64 0, .string ⟨#[]⟩]) p { s.tell (rep 6) with st := 1 } S w) := by
  obtain ⟨W1, hW1⟩ : ∃ q, w.alloc (.cells #[] 106) = q := ⟨_, rfl⟩
  have hb1 : Below w.heap.size w W1 := by rw [← hW1]; exact (Below.refl _ _).alloc (Nat.le_refl _) _
  have HB1 := Lib.hid hb1
  have hv1 := h.below hb1
  have HV1 := Lib.hid hv1
  have H0 := Lib.hid h0
  have HML := Lib.hid hl
  obtain ⟨c0, c1, c2, c3, c4, c5, z⟩ := hv1.cells
  clear h hb1 hv1 h0 hl c3 c4 c5
  go_enter Try.func87, Try.ntmps87
  go_wp2_with (first | rw [hW1] | (refine (dead_abort _ HV1.out H0.out HML.out).mono ?_; rintro e w2 ⟨rfl, hl2⟩; have HL2 := Lib.hid hl2; clear hl2))
  go_ret2
  exact ⟨rfl, Mc.Left.ahead HB1.out HL2.out⟩
set_option maxHeartbeats 1000000 in
theorem dead_end (w : World) (h : SesV w S p vr vq vo s) (h0 : s.st ≠ 0) (hl : s.out.length ≤ 1000000) : Calls Try.prog 86 #[.agg #[], .pointer (some ⟨p, 0, none⟩)] w (MuR (.tuple #[.int .i64 0, .string ⟨#[]⟩]) p { s.tell (rep 6) with st := 1 } S w) := by
  obtain ⟨W1, hW1⟩ : ∃ q, w.alloc (.cells #[] 106) = q := ⟨_, rfl⟩
  have hb1 : Below w.heap.size w W1 := by rw [← hW1]; exact (Below.refl _ _).alloc (Nat.le_refl _) _
  have HB1 := Lib.hid hb1
  have hv1 := h.below hb1
  have HV1 := Lib.hid hv1
  have H0 := Lib.hid h0
  have HML := Lib.hid hl
  obtain ⟨c0, c1, c2, c3, c4, c5, z⟩ := hv1.cells
  clear h hb1 hv1 h0 hl c3 c4 c5
  go_enter Try.func86, Try.ntmps86
  go_wp2_with (first | rw [hW1] | (refine (dead_abort _ HV1.out H0.out HML.out).mono ?_; rintro e w2 ⟨rfl, hl2⟩; have HL2 := Lib.hid hl2; clear hl2))
  go_ret2
  exact ⟨rfl, Mc.Left.ahead HB1.out HL2.out⟩
end
end Mu
end Go.Proofs.Ytdakkjpejhlciaa
