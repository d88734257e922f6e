/- A client's session: process, Got, Turn, Answer, Lost. No condition. -/
import Derived.Test.YtdakkjpejhlciaaMuD
namespace Go.Proofs.Ytdakkjpejhlciaa
open Go.ChangeShapes Go.WideShapes Go.ChangeAt Go.RowKit Go.Deep
set_option linter.unusedVariables false
set_option maxRecDepth 100000
set_option linter.unusedSimpArgs false
namespace Mu
open St Mc
section
variable {w w' w1 w2 : World} {S S' : Nat → Prop} {p : Nat} {vr vq vo vr' vq' vo' r : Value} {s s' : Ses}
set_option maxHeartbeats 400000 in
theorem row_free (w : World) : Calls Try.prog 51 #[.int .i64 1] w fun e w' => e = .returned (.iface 103 (.agg #[])) ∧ w = w' := by
  go_enter Try.func51, Try.ntmps51
  go_wp2
  go_ret
  exact ⟨rfl, rfl⟩
set_option maxHeartbeats 400000 in
theorem row_bound (w : World) : Calls Try.prog 51 #[.int .i64 3] w fun e w' => e = .returned (.iface 104 (.agg #[])) ∧ w = w' := by
  go_enter Try.func51, Try.ntmps51
  go_wp2
  go_ret
  exact ⟨rfl, rfl⟩
set_option maxHeartbeats 400000 in
theorem row_dead (w : World) : Calls Try.prog 51 #[.int .i64 7] w fun e w' => e = .returned (.iface 106 (.agg #[])) ∧ w = w' := by
  go_enter Try.func51, Try.ntmps51
  go_wp2
  go_ret
  exact ⟨rfl, rfl⟩
set_option maxHeartbeats 1000000 in
theorem proc_free_66 (t : ByteArray) (w : World) (h : SesV w S p vr vq vo s) (h0 : s.st = 1) (hl : s.out.length ≤ 1000000) : Calls Try.prog 37 #[.pointer (some ⟨p, 0, none⟩), .agg #[.int .u8 66, .string t]] w (MuR (.tuple #[.int .i64 (procV s ⟨66, t⟩).1.1, .string (procV s ⟨66, t⟩).1.2]) p (procV s ⟨66, t⟩).2 S w) := by
  obtain ⟨W1, hW1⟩ : ∃ q, w.alloc (.cells #[.int .u8 66, .string t] TF) = q := ⟨_, rfl⟩
  have hb1 : Below w.heap.size w W1 := by rw [← hW1]; exact (Below.refl _ _).alloc (Nat.le_refl _) _
  have hrow : W1.heap[w.heap.size]? = some (.cells #[.int .u8 66, .string t] TF (0, 0)) := by rw [← hW1]; exact heap_alloc_new _ _
  have f0 : W1.cell? ⟨w.heap.size, 0, none⟩ = some (.int .u8 66) := (cell_of_row _ _ _ _ _ _ hrow).trans rfl
  have f1 : W1.cell? ⟨w.heap.size, 1, none⟩ = some (.string t) := (cell_of_row _ _ _ _ _ _ hrow).trans rfl
  have HB1 := Lib.hid hb1
  have hv1 := h.below hb1
  have HV1 := Lib.hid hv1
  have H0 : Hid (s.st ≠ 0) := Lib.hid (by rw [h0]; decide)
  have HML := Lib.hid hl
  obtain ⟨c0, c1, c2, c3, c4, c5, z⟩ := hv1.cells
  rw [h0] at c0
  have HP : Hid (∀ (e : Ending) (w' : World), MuR (.tuple #[.int .i64 1, .string ⟨#[]⟩]) p { s with st := 2, wi := true } S W1 e w' → MuR (.tuple #[.int .i64 (procV s ⟨66, t⟩).1.1, .string (procV s ⟨66, t⟩).1.2]) p (procV s ⟨66, t⟩).2 S w e w') := Lib.hid (by
    intro e w' hq
    unfold procV
    simp only [h0]
    exact ⟨hq.1, Mc.Left.ahead hb1 hq.2⟩)
  clear h hb1 hv1 h0 hl c1 c2 c3 c4 c5 hrow
  go_enter Try.func37, Try.ntmps37
  go_wp2_with (first | rw [hW1] | (refine (row_free _).mono ?_; rintro e w' ⟨rfl, rfl⟩) | (refine (free_begin _ HV1.out H0.out HML.out).mono ?_; rintro e w2 ⟨rfl, hl2⟩; have HL2 := Lib.hid hl2; clear hl2))
  go_ret2
  exact HP.out _ _ ⟨rfl, HL2.out⟩
set_option maxHeartbeats 1000000 in
theorem proc_free_81 (t : ByteArray) (w : World) (h : SesV w S p vr vq vo s) (h0 : s.st = 1) (hl : s.out.length ≤ 1000000) : Calls Try.prog 37 #[.pointer (some ⟨p, 0, none⟩), .agg #[.int .u8 81, .string t]] w (MuR (.tuple #[.int .i64 (procV s ⟨81, t⟩).1.1, .string (procV s ⟨81, t⟩).1.2]) p (procV s ⟨81, t⟩).2 S w) := by
  obtain ⟨W1, hW1⟩ : ∃ q, w.alloc (.cells #[.int .u8 81, .string t] TF) = q := ⟨_, rfl⟩
  have hb1 : Below w.heap.size w W1 := by rw [← hW1]; exact (Below.refl _ _).alloc (Nat.le_refl _) _
  have hrow : W1.heap[w.heap.size]? = some (.cells #[.int .u8 81, .string t] TF (0, 0)) := by rw [← hW1]; exact heap_alloc_new _ _
  have f0 : W1.cell? ⟨w.heap.size, 0, none⟩ = some (.int .u8 81) := (cell_of_row _ _ _ _ _ _ hrow).trans rfl
  have f1 : W1.cell? ⟨w.heap.size, 1, none⟩ = some (.string t) := (cell_of_row _ _ _ _ _ _ hrow).trans rfl
  have HB1 := Lib.hid hb1
  have hv1 := h.below hb1
  have HV1 := Lib.hid hv1
  have H0 : Hid (s.st ≠ 0) := Lib.hid (by rw [h0]; decide)
  have HML := Lib.hid hl
  obtain ⟨c0, c1, c2, c3, c4, c5, z⟩ := hv1.cells
  rw [h0] at c0
  have HP : Hid (∀ (e : Ending) (w' : World), MuR (.tuple #[.int .i64 1, .string ⟨#[]⟩]) p { s with st := 2, wi := false, tx := t } S W1 e w' → MuR (.tuple #[.int .i64 (procV s ⟨81, t⟩).1.1, .string (procV s ⟨81, t⟩).1.2]) p (procV s ⟨81, t⟩).2 S w e w') := Lib.hid (by
    intro e w' hq
    unfold procV
    simp only [h0]
    exact ⟨hq.1, Mc.Left.ahead hb1 hq.2⟩)
  clear h hb1 hv1 h0 hl c1 c2 c3 c4 c5 hrow
  go_enter Try.func37, Try.ntmps37
  go_wp2_with (first | rw [hW1] | (refine (row_free _).mono ?_; rintro e w' ⟨rfl, rfl⟩) | (refine (free_query t _ HV1.out H0.out HML.out).mono ?_; rintro e w2 ⟨rfl, hl2⟩; have HL2 := Lib.hid hl2; clear hl2))
  go_ret2
  exact HP.out _ _ ⟨rfl, HL2.out⟩
set_option maxHeartbeats 1000000 in
theorem proc_free_69 (t : ByteArray) (w : World) (h : SesV w S p vr vq vo s) (h0 : s.st = 1) (hl : s.out.length ≤ 1000000) : Calls Try.prog 37 #[.pointer (some ⟨p, 0, none⟩), .agg #[.int .u8 69, .string t]] w (MuR (.tuple #[.int .i64 (procV s ⟨69, t⟩).1.1, .string (procV s ⟨69, t⟩).1.2]) p (procV s ⟨69, t⟩).2 S w) := by
  obtain ⟨W1, hW1⟩ : ∃ q, w.alloc (.cells #[.int .u8 69, .string t] TF) = q := ⟨_, rfl⟩
  have hb1 : Below w.heap.size w W1 := by rw [← hW1]; exact (Below.refl _ _).alloc (Nat.le_refl _) _
  have hrow : W1.heap[w.heap.size]? = some (.cells #[.int .u8 69, .string t] TF (0, 0)) := by rw [← hW1]; exact heap_alloc_new _ _
  have f0 : W1.cell? ⟨w.heap.size, 0, none⟩ = some (.int .u8 69) := (cell_of_row _ _ _ _ _ _ hrow).trans rfl
  have f1 : W1.cell? ⟨w.heap.size, 1, none⟩ = some (.string t) := (cell_of_row _ _ _ _ _ _ hrow).trans rfl
  have HB1 := Lib.hid hb1
  have hv1 := h.below hb1
  have HV1 := Lib.hid hv1
  have H0 : Hid (s.st ≠ 0) := Lib.hid (by rw [h0]; decide)
  have HML := Lib.hid hl
  obtain ⟨c0, c1, c2, c3, c4, c5, z⟩ := hv1.cells
  rw [h0] at c0
  have HP : Hid (∀ (e : Ending) (w' : World), MuR (.tuple #[.int .i64 0, .string ⟨#[]⟩]) p (s.tell (rep 7)) S W1 e w' → MuR (.tuple #[.int .i64 (procV s ⟨69, t⟩).1.1, .string (procV s ⟨69, t⟩).1.2]) p (procV s ⟨69, t⟩).2 S w e w') := Lib.hid (by
    intro e w' hq
    unfold procV
    simp only [h0]
    exact ⟨hq.1, Mc.Left.ahead hb1 hq.2⟩)
  clear h hb1 hv1 h0 hl c1 c2 c3 c4 c5 hrow
  go_enter Try.func37, Try.ntmps37
  go_wp2_with (first | rw [hW1] | (refine (row_free _).mono ?_; rintro e w' ⟨rfl, rfl⟩) | (refine (free_end _ HV1.out H0.out HML.out).mono ?_; rintro e w2 ⟨rfl, hl2⟩; have HL2 := Lib.hid hl2; clear hl2))
  go_ret2
  exact HP.out _ _ ⟨rfl, HL2.out⟩
set_option maxHeartbeats 1000000 in
theorem proc_free_0 (k : Int) (e1 : k ≠ 66) (e2 : k ≠ 81) (e3 : k ≠ 69) (t : ByteArray) (w : World) (h : SesV w S p vr vq vo s) (h0 : s.st = 1) (hl : s.out.length ≤ 1000000) : Calls Try.prog 37 #[.pointer (some ⟨p, 0, none⟩), .agg #[.int .u8 k, .string t]] w (MuR (.tuple #[.int .i64 (procV s ⟨k, t⟩).1.1, .string (procV s ⟨k, t⟩).1.2]) p (procV s ⟨k, t⟩).2 S w) := by
  obtain ⟨W1, hW1⟩ : ∃ q, w.alloc (.cells #[.int .u8 k, .string t] TF) = q := ⟨_, rfl⟩
  have hb1 : Below w.heap.size w W1 := by rw [← hW1]; exact (Below.refl _ _).alloc (Nat.le_refl _) _
  have hrow : W1.heap[w.heap.size]? = some (.cells #[.int .u8 k, .string t] TF (0, 0)) := by rw [← hW1]; exact heap_alloc_new _ _
  have f0 : W1.cell? ⟨w.heap.size, 0, none⟩ = some (.int .u8 k) := (cell_of_row _ _ _ _ _ _ hrow).trans rfl
  have f1 : W1.cell? ⟨w.heap.size, 1, none⟩ = some (.string t) := (cell_of_row _ _ _ _ _ _ hrow).trans rfl
  have HB1 := Lib.hid hb1
  have hv1 := h.below hb1
  have HV1 := Lib.hid hv1
  have H0 : Hid (s.st ≠ 0) := Lib.hid (by rw [h0]; decide)
  have HML := Lib.hid hl
  obtain ⟨c0, c1, c2, c3, c4, c5, z⟩ := hv1.cells
  rw [h0] at c0
  have HP : Hid (∀ (e : Ending) (w' : World), MuR (.tuple #[.int .i64 0, .string ⟨#[]⟩]) p (hangS (s.tell (rep 8))) S W1 e w' → MuR (.tuple #[.int .i64 (procV s ⟨k, t⟩).1.1, .string (procV s ⟨k, t⟩).1.2]) p (procV s ⟨k, t⟩).2 S w e w') := Lib.hid (by
    intro e w' hq
    unfold procV
    simp only [h0, e1, e2, e3]
    exact ⟨hq.1, Mc.Left.ahead hb1 hq.2⟩)
  clear h hb1 hv1 h0 hl c1 c2 c3 c4 c5 hrow
  go_enter Try.func37, Try.ntmps37
  go_wp2_with (first | rw [hW1] | (refine (row_free _).mono ?_; rintro e w' ⟨rfl, rfl⟩) | (refine (free_bad _ HV1.out H0.out HML.out).mono ?_; rintro e w2 ⟨rfl, hl2⟩; have HL2 := Lib.hid hl2; clear hl2))
  go_ret2
  exact HP.out _ _ ⟨rfl, HL2.out⟩
set_option maxHeartbeats 1000000 in
theorem proc_bound_66 (t : ByteArray) (w : World) (h : SesV w S p vr vq vo s) (h0 : s.st = 3) (hl : s.out.length ≤ 1000000) : Calls Try.prog 37 #[.pointer (some ⟨p, 0, none⟩), .agg #[.int .u8 66, .string t]] w (MuR (.tuple #[.int .i64 (procV s ⟨66, t⟩).1.1, .string (procV s ⟨66, t⟩).1.2]) p (procV s ⟨66, t⟩).2 S w) := by
  obtain ⟨W1, hW1⟩ : ∃ q, w.alloc (.cells #[.int .u8 66, .string t] TF) = q := ⟨_, rfl⟩
  have hb1 : Below w.heap.size w W1 := by rw [← hW1]; exact (Below.refl _ _).alloc (Nat.le_refl _) _
  have hrow : W1.heap[w.heap.size]? = some (.cells #[.int .u8 66, .string t] TF (0, 0)) := by rw [← hW1]; exact heap_alloc_new _ _
  have f0 : W1.cell? ⟨w.heap.size, 0, none⟩ = some (.int .u8 66) := (cell_of_row _ _ _ _ _ _ hrow).trans rfl
  have f1 : W1.cell? ⟨w.heap.size, 1, none⟩ = some (.string t) := (cell_of_row _ _ _ _ _ _ hrow).trans rfl
  have HB1 := Lib.hid hb1
  have hv1 := h.below hb1
  have HV1 := Lib.hid hv1
  have H0 : Hid (s.st ≠ 0) := Lib.hid (by rw [h0]; decide)
  have HML := Lib.hid hl
  obtain ⟨c0, c1, c2, c3, c4, c5, z⟩ := hv1.cells
  rw [h0] at c0
  have HP : Hid (∀ (e : Ending) (w' : World), MuR (.tuple #[.int .i64 0, .string ⟨#[]⟩]) p (s.tell (rep 7)) S W1 e w' → MuR (.tuple #[.int .i64 (procV s ⟨66, t⟩).1.1, .string (procV s ⟨66, t⟩).1.2]) p (procV s ⟨66, t⟩).2 S w e w') := Lib.hid (by
    intro e w' hq
    unfold procV
    simp only [h0]
    exact ⟨hq.1, Mc.Left.ahead hb1 hq.2⟩)
  clear h hb1 hv1 h0 hl c1 c2 c3 c4 c5 hrow
  go_enter Try.func37, Try.ntmps37
  go_wp2_with (first | rw [hW1] | (refine (row_bound _).mono ?_; rintro e w' ⟨rfl, rfl⟩) | (refine (bound_begin _ HV1.out H0.out HML.out).mono ?_; rintro e w2 ⟨rfl, hl2⟩; have HL2 := Lib.hid hl2; clear hl2))
  go_ret2
  exact HP.out _ _ ⟨rfl, HL2.out⟩
set_option maxHeartbeats 1000000 in
theorem proc_bound_81 (t : ByteArray) (w : World) (h : SesV w S p vr vq vo s) (h0 : s.st = 3) (hl : s.out.length ≤ 1000000) : Calls Try.prog 37 #[.pointer (some ⟨p, 0, none⟩), .agg #[.int .u8 81, .string t]] w (MuR (.tuple #[.int .i64 (procV s ⟨81, t⟩).1.1, .string (procV s ⟨81, t⟩).1.2]) p (procV s ⟨81, t⟩).2 S w) := by
  obtain ⟨W1, hW1⟩ : ∃ q, w.alloc (.cells #[.int .u8 81, .string t] TF) = q := ⟨_, rfl⟩
  have hb1 : Below w.heap.size w W1 := by rw [← hW1]; exact (Below.refl _ _).alloc (Nat.le_refl _) _
  have hrow : W1.heap[w.heap.size]? = some (.cells #[.int .u8 81, .string t] TF (0, 0)) := by rw [← hW1]; exact heap_alloc_new _ _
  have f0 : W1.cell? ⟨w.heap.size, 0, none⟩ = some (.int .u8 81) := (cell_of_row _ _ _ _ _ _ hrow).trans rfl
  have f1 : W1.cell? ⟨w.heap.size, 1, none⟩ = some (.string t) := (cell_of_row _ _ _ _ _ _ hrow).trans rfl
  have HB1 := Lib.hid hb1
  have hv1 := h.below hb1
  have HV1 := Lib.hid hv1
  have H0 : Hid (s.st ≠ 0) := Lib.hid (by rw [h0]; decide)
  have HML := Lib.hid hl
  obtain ⟨c0, c1, c2, c3, c4, c5, z⟩ := hv1.cells
  rw [h0] at c0
  have HP : Hid (∀ (e : Ending) (w' : World), MuR (.tuple #[.int .i64 2, .string t]) p { s with st := 5 } S W1 e w' → MuR (.tuple #[.int .i64 (procV s ⟨81, t⟩).1.1, .string (procV s ⟨81, t⟩).1.2]) p (procV s ⟨81, t⟩).2 S w e w') := Lib.hid (by
    intro e w' hq
    unfold procV
    simp only [h0]
    exact ⟨hq.1, Mc.Left.ahead hb1 hq.2⟩)
  clear h hb1 hv1 h0 hl c1 c2 c3 c4 c5 hrow
  go_enter Try.func37, Try.ntmps37
  go_wp2_with (first | rw [hW1] | (refine (row_bound _).mono ?_; rintro e w' ⟨rfl, rfl⟩) | (refine (bound_query t _ HV1.out H0.out HML.out).mono ?_; rintro e w2 ⟨rfl, hl2⟩; have HL2 := Lib.hid hl2; clear hl2))
  go_ret2
  exact HP.out _ _ ⟨rfl, HL2.out⟩
set_option maxHeartbeats 1000000 in
theorem proc_bound_69 (t : ByteArray) (w : World) (h : SesV w S p vr vq vo s) (h0 : s.st = 3) (hl : s.out.length ≤ 1000000) : Calls Try.prog 37 #[.pointer (some ⟨p, 0, none⟩), .agg #[.int .u8 69, .string t]] w (MuR (.tuple #[.int .i64 (procV s ⟨69, t⟩).1.1, .string (procV s ⟨69, t⟩).1.2]) p (procV s ⟨69, t⟩).2 S w) := by
  obtain ⟨W1, hW1⟩ : ∃ q, w.alloc (.cells #[.int .u8 69, .string t] TF) = q := ⟨_, rfl⟩
  have hb1 : Below w.heap.size w W1 := by rw [← hW1]; exact (Below.refl _ _).alloc (Nat.le_refl _) _
  have hrow : W1.heap[w.heap.size]? = some (.cells #[.int .u8 69, .string t] TF (0, 0)) := by rw [← hW1]; exact heap_alloc_new _ _
  have f0 : W1.cell? ⟨w.heap.size, 0, none⟩ = some (.int .u8 69) := (cell_of_row _ _ _ _ _ _ hrow).trans rfl
  have f1 : W1.cell? ⟨w.heap.size, 1, none⟩ = some (.string t) := (cell_of_row _ _ _ _ _ _ hrow).trans rfl
  have HB1 := Lib.hid hb1
  have hv1 := h.below hb1
  have HV1 := Lib.hid hv1
  have H0 : Hid (s.st ≠ 0) := Lib.hid (by rw [h0]; decide)
  have HML := Lib.hid hl
  obtain ⟨c0, c1, c2, c3, c4, c5, z⟩ := hv1.cells
  rw [h0] at c0
  have HP : Hid (∀ (e : Ending) (w' : World), MuR (.tuple #[.int .i64 3, .string ⟨#[]⟩]) p { s.tell (rep 3) with st := 1 } S W1 e w' → MuR (.tuple #[.int .i64 (procV s ⟨69, t⟩).1.1, .string (procV s ⟨69, t⟩).1.2]) p (procV s ⟨69, t⟩).2 S w e w') := Lib.hid (by
    intro e w' hq
    unfold procV
    simp only [h0]
    exact ⟨hq.1, Mc.Left.ahead hb1 hq.2⟩)
  clear h hb1 hv1 h0 hl c1 c2 c3 c4 c5 hrow
  go_enter Try.func37, Try.ntmps37
  go_wp2_with (first | rw [hW1] | (refine (row_bound _).mono ?_; rintro e w' ⟨rfl, rfl⟩) | (refine (bound_end _ HV1.out H0.out HML.out).mono ?_; rintro e w2 ⟨rfl, hl2⟩; have HL2 := Lib.hid hl2; clear hl2))
  go_ret2
  exact HP.out _ _ ⟨rfl, HL2.out⟩
set_option maxHeartbeats 1000000 in
theorem proc_bound_0 (k : Int) (e1 : k ≠ 66) (e2 : k ≠ 81) (e3 : k ≠ 69) (t : ByteArray) (w : World) (h : SesV w S p vr vq vo s) (h0 : s.st = 3) (hl : s.out.length ≤ 1000000) : Calls Try.prog 37 #[.pointer (some ⟨p, 0, none⟩), .agg #[.int .u8 k, .string t]] w (MuR (.tuple #[.int .i64 (procV s ⟨k, t⟩).1.1, .string (procV s ⟨k, t⟩).1.2]) p (procV s ⟨k, t⟩).2 S w) := by
  obtain ⟨W1, hW1⟩ : ∃ q, w.alloc (.cells #[.int .u8 k, .string t] TF) = q := ⟨_, rfl⟩
  have hb1 : Below w.heap.size w W1 := by rw [← hW1]; exact (Below.refl _ _).alloc (Nat.le_refl _) _
  have hrow : W1.heap[w.heap.size]? = some (.cells #[.int .u8 k, .string t] TF (0, 0)) := by rw [← hW1]; exact heap_alloc_new _ _
  have f0 : W1.cell? ⟨w.heap.size, 0, none⟩ = some (.int .u8 k) := (cell_of_row _ _ _ _ _ _ hrow).trans rfl
  have f1 : W1.cell? ⟨w.heap.size, 1, none⟩ = some (.string t) := (cell_of_row _ _ _ _ _ _ hrow).trans rfl
  have HB1 := Lib.hid hb1
  have hv1 := h.below hb1
  have HV1 := Lib.hid hv1
  have H0 : Hid (s.st ≠ 0) := Lib.hid (by rw [h0]; decide)
  have HML := Lib.hid hl
  obtain ⟨c0, c1, c2, c3, c4, c5, z⟩ := hv1.cells
  rw [h0] at c0
  have HP : Hid (∀ (e : Ending) (w' : World), MuR (.tuple #[.int .i64 3, .string ⟨#[]⟩]) p (hangS (s.tell (rep 8))) S W1 e w' → MuR (.tuple #[.int .i64 (procV s ⟨k, t⟩).1.1, .string (procV s ⟨k, t⟩).1.2]) p (procV s ⟨k, t⟩).2 S w e w') := Lib.hid (by
    intro e w' hq
    unfold procV
    simp only [h0, e1, e2, e3]
    exact ⟨hq.1, Mc.Left.ahead hb1 hq.2⟩)
  clear h hb1 hv1 h0 hl c1 c2 c3 c4 c5 hrow
  go_enter Try.func37, Try.ntmps37
  go_wp2_with (first | rw [hW1] | (refine (row_bound _).mono ?_; rintro e w' ⟨rfl, rfl⟩) | (refine (bound_bad _ HV1.out H0.out HML.out).mono ?_; rintro e w2 ⟨rfl, hl2⟩; have HL2 := Lib.hid hl2; clear hl2))
  go_ret2
  exact HP.out _ _ ⟨rfl, HL2.out⟩
set_option maxHeartbeats 1000000 in
theorem proc_dead_66 (t : ByteArray) (w : World) (h : SesV w S p vr vq vo s) (h0 : s.st = 7) (hl : s.out.length ≤ 1000000) : Calls Try.prog 37 #[.pointer (some ⟨p, 0, none⟩), .agg #[.int .u8 66, .string t]] w (MuR (.tuple #[.int .i64 (procV s ⟨66, t⟩).1.1, .string (procV s ⟨66, t⟩).1.2]) p (procV s ⟨66, t⟩).2 S w) := by
  obtain ⟨W1, hW1⟩ : ∃ q, w.alloc (.cells #[.int .u8 66, .string t] TF) = q := ⟨_, rfl⟩
  have hb1 : Below w.heap.size w W1 := by rw [← hW1]; exact (Below.refl _ _).alloc (Nat.le_refl _) _
  have hrow : W1.heap[w.heap.size]? = some (.cells #[.int .u8 66, .string t] TF (0, 0)) := by rw [← hW1]; exact heap_alloc_new _ _
  have f0 : W1.cell? ⟨w.heap.size, 0, none⟩ = some (.int .u8 66) := (cell_of_row _ _ _ _ _ _ hrow).trans rfl
  have f1 : W1.cell? ⟨w.heap.size, 1, none⟩ = some (.string t) := (cell_of_row _ _ _ _ _ _ hrow).trans rfl
  have HB1 := Lib.hid hb1
  have hv1 := h.below hb1
  have HV1 := Lib.hid hv1
  have H0 : Hid (s.st ≠ 0) := Lib.hid (by rw [h0]; decide)
  have HML := Lib.hid hl
  obtain ⟨c0, c1, c2, c3, c4, c5, z⟩ := hv1.cells
  rw [h0] at c0
  have HP : Hid (∀ (e : Ending) (w' : World), MuR (.tuple #[.int .i64 0, .string ⟨#[]⟩]) p { s.tell (rep 6) with st := 1 } S W1 e w' → MuR (.tuple #[.int .i64 (procV s ⟨66, t⟩).1.1, .string (procV s ⟨66, t⟩).1.2]) p (procV s ⟨66, t⟩).2 S w e w') := Lib.hid (by
    intro e w' hq
    unfold procV
    simp only [h0]
    exact ⟨hq.1, Mc.Left.ahead hb1 hq.2⟩)
  clear h hb1 hv1 h0 hl c1 c2 c3 c4 c5 hrow
  go_enter Try.func37, Try.ntmps37
  go_wp2_with (first | rw [hW1] | (refine (row_dead _).mono ?_; rintro e w' ⟨rfl, rfl⟩) | (refine (dead_begin _ HV1.out H0.out HML.out).mono ?_; rintro e w2 ⟨rfl, hl2⟩; have HL2 := Lib.hid hl2; clear hl2))
  go_ret2
  exact HP.out _ _ ⟨rfl, HL2.out⟩
set_option maxHeartbeats 1000000 in
theorem proc_dead_81 (t : ByteArray) (w : World) (h : SesV w S p vr vq vo s) (h0 : s.st = 7) (hl : s.out.length ≤ 1000000) : Calls Try.prog 37 #[.pointer (some ⟨p, 0, none⟩), .agg #[.int .u8 81, .string t]] w (MuR (.tuple #[.int .i64 (procV s ⟨81, t⟩).1.1, .string (procV s ⟨81, t⟩).1.2]) p (procV s ⟨81, t⟩).2 S w) := by
  obtain ⟨W1, hW1⟩ : ∃ q, w.alloc (.cells #[.int .u8 81, .string t] TF) = q := ⟨_, rfl⟩
  have hb1 : Below w.heap.size w W1 := by rw [← hW1]; exact (Below.refl _ _).alloc (Nat.le_refl _) _
  have hrow : W1.heap[w.heap.size]? = some (.cells #[.int .u8 81, .string t] TF (0, 0)) := by rw [← hW1]; exact heap_alloc_new _ _
  have f0 : W1.cell? ⟨w.heap.size, 0, none⟩ = some (.int .u8 81) := (cell_of_row _ _ _ _ _ _ hrow).trans rfl
  have f1 : W1.cell? ⟨w.heap.size, 1, none⟩ = some (.string t) := (cell_of_row _ _ _ _ _ _ hrow).trans rfl
  have HB1 := Lib.hid hb1
  have hv1 := h.below hb1
  have HV1 := Lib.hid hv1
  have H0 : Hid (s.st ≠ 0) := Lib.hid (by rw [h0]; decide)
  have HML := Lib.hid hl
  obtain ⟨c0, c1, c2, c3, c4, c5, z⟩ := hv1.cells
  rw [h0] at c0
  have HP : Hid (∀ (e : Ending) (w' : World), MuR (.tuple #[.int .i64 0, .string ⟨#[]⟩]) p { s.tell (rep 6) with st := 1 } S W1 e w' → MuR (.tuple #[.int .i64 (procV s ⟨81, t⟩).1.1, .string (procV s ⟨81, t⟩).1.2]) p (procV s ⟨81, t⟩).2 S w e w') := Lib.hid (by
    intro e w' hq
    unfold procV
    simp only [h0]
    exact ⟨hq.1, Mc.Left.ahead hb1 hq.2⟩)
  clear h hb1 hv1 h0 hl c1 c2 c3 c4 c5 hrow
  go_enter Try.func37, Try.ntmps37
  go_wp2_with (first | rw [hW1] | (refine (row_dead _).mono ?_; rintro e w' ⟨rfl, rfl⟩) | (refine (dead_query t _ HV1.out H0.out HML.out).mono ?_; rintro e w2 ⟨rfl, hl2⟩; have HL2 := Lib.hid hl2; clear hl2))
  go_ret2
  exact HP.out _ _ ⟨rfl, HL2.out⟩
set_option maxHeartbeats 1000000 in
theorem proc_dead_69 (t : ByteArray) (w : World) (h : SesV w S p vr vq vo s) (h0 : s.st = 7) (hl : s.out.length ≤ 1000000) : Calls Try.prog 37 #[.pointer (some ⟨p, 0, none⟩), .agg #[.int .u8 69, .string t]] w (MuR (.tuple #[.int .i64 (procV s ⟨69, t⟩).1.1, .string (procV s ⟨69, t⟩).1.2]) p (procV s ⟨69, t⟩).2 S w) := by
  obtain ⟨W1, hW1⟩ : ∃ q, w.alloc (.cells #[.int .u8 69, .string t] TF) = q := ⟨_, rfl⟩
  have hb1 : Below w.heap.size w W1 := by rw [← hW1]; exact (Below.refl _ _).alloc (Nat.le_refl _) _
  have hrow : W1.heap[w.heap.size]? = some (.cells #[.int .u8 69, .string t] TF (0, 0)) := by rw [← hW1]; exact heap_alloc_new _ _
  have f0 : W1.cell? ⟨w.heap.size, 0, none⟩ = some (.int .u8 69) := (cell_of_row _ _ _ _ _ _ hrow).trans rfl
  have f1 : W1.cell? ⟨w.heap.size, 1, none⟩ = some (.string t) := (cell_of_row _ _ _ _ _ _ hrow).trans rfl
  have HB1 := Lib.hid hb1
  have hv1 := h.below hb1
  have HV1 := Lib.hid hv1
  have H0 : Hid (s.st ≠ 0) := Lib.hid (by rw [h0]; decide)
  have HML := Lib.hid hl
  obtain ⟨c0, c1, c2, c3, c4, c5, z⟩ := hv1.cells
  rw [h0] at c0
  have HP : Hid (∀ (e : Ending) (w' : World), MuR (.tuple #[.int .i64 0, .string ⟨#[]⟩]) p { s.tell (rep 6) with st := 1 } S W1 e w' → MuR (.tuple #[.int .i64 (procV s ⟨69, t⟩).1.1, .string (procV s ⟨69, t⟩).1.2]) p (procV s ⟨69, t⟩).2 S w e w') := Lib.hid (by
    intro e w' hq
    unfold procV
    simp only [h0]
    exact ⟨hq.1, Mc.Left.ahead hb1 hq.2⟩)
  clear h hb1 hv1 h0 hl c1 c2 c3 c4 c5 hrow
  go_enter Try.func37, Try.ntmps37
  go_wp2_with (first | rw [hW1] | (refine (row_dead _).mono ?_; rintro e w' ⟨rfl, rfl⟩) | (refine (dead_end _ HV1.out H0.out HML.out).mono ?_; rintro e w2 ⟨rfl, hl2⟩; have HL2 := Lib.hid hl2; clear hl2))
  go_ret2
  exact HP.out _ _ ⟨rfl, HL2.out⟩
set_option maxHeartbeats 1000000 in
theorem proc_dead_0 (k : Int) (e1 : k ≠ 66) (e2 : k ≠ 81) (e3 : k ≠ 69) (t : ByteArray) (w : World) (h : SesV w S p vr vq vo s) (h0 : s.st = 7) (hl : s.out.length ≤ 1000000) : Calls Try.prog 37 #[.pointer (some ⟨p, 0, none⟩), .agg #[.int .u8 k, .string t]] w (MuR (.tuple #[.int .i64 (procV s ⟨k, t⟩).1.1, .string (procV s ⟨k, t⟩).1.2]) p (procV s ⟨k, t⟩).2 S w) := by
  obtain ⟨W1, hW1⟩ : ∃ q, w.alloc (.cells #[.int .u8 k, .string t] TF) = q := ⟨_, rfl⟩
  have hb1 : Below w.heap.size w W1 := by rw [← hW1]; exact (Below.refl _ _).alloc (Nat.le_refl _) _
  have hrow : W1.heap[w.heap.size]? = some (.cells #[.int .u8 k, .string t] TF (0, 0)) := by rw [← hW1]; exact heap_alloc_new _ _
  have f0 : W1.cell? ⟨w.heap.size, 0, none⟩ = some (.int .u8 k) := (cell_of_row _ _ _ _ _ _ hrow).trans rfl
  have f1 : W1.cell? ⟨w.heap.size, 1, none⟩ = some (.string t) := (cell_of_row _ _ _ _ _ _ hrow).trans rfl
  have HB1 := Lib.hid hb1
  have hv1 := h.below hb1
  have HV1 := Lib.hid hv1
  have H0 : Hid (s.st ≠ 0) := Lib.hid (by rw [h0]; decide)
  have HML := Lib.hid hl
  obtain ⟨c0, c1, c2, c3, c4, c5, z⟩ := hv1.cells
  rw [h0] at c0
  have HP : Hid (∀ (e : Ending) (w' : World), MuR (.tuple #[.int .i64 0, .string ⟨#[]⟩]) p (hangS (s.tell (rep 8))) S W1 e w' → MuR (.tuple #[.int .i64 (procV s ⟨k, t⟩).1.1, .string (procV s ⟨k, t⟩).1.2]) p (procV s ⟨k, t⟩).2 S w e w') := Lib.hid (by
    intro e w' hq
    unfold procV
    simp only [h0, e1, e2, e3]
    exact ⟨hq.1, Mc.Left.ahead hb1 hq.2⟩)
  clear h hb1 hv1 h0 hl c1 c2 c3 c4 c5 hrow
  go_enter Try.func37, Try.ntmps37
  go_wp2_with (first | rw [hW1] | (refine (row_dead _).mono ?_; rintro e w' ⟨rfl, rfl⟩) | (refine (free_bad _ HV1.out H0.out HML.out).mono ?_; rintro e w2 ⟨rfl, hl2⟩; have HL2 := Lib.hid hl2; clear hl2))
  go_ret2
  exact HP.out _ _ ⟨rfl, HL2.out⟩
theorem proc_any (f : Frm) (w : World) (h : SesV w S p vr vq vo s) (ht : takesS s) (hl : s.out.length ≤ 1000000) : Calls Try.prog 37 #[.pointer (some ⟨p, 0, none⟩), .agg #[.int .u8 f.kind, .string f.text]] w (MuR (.tuple #[.int .i64 (procV s f).1.1, .string (procV s f).1.2]) p (procV s f).2 S w) := by
  obtain ⟨k, t⟩ := f
  by_cases e1 : k = 66
  · subst e1
    rcases ht with h0 | h0 | h0
    · exact proc_free_66 t w h h0 hl
    · exact proc_bound_66 t w h h0 hl
    · exact proc_dead_66 t w h h0 hl
  · by_cases e2 : k = 81
    · subst e2
      rcases ht with h0 | h0 | h0
      · exact proc_free_81 t w h h0 hl
      · exact proc_bound_81 t w h h0 hl
      · exact proc_dead_81 t w h h0 hl
    · by_cases e3 : k = 69
      · subst e3
        rcases ht with h0 | h0 | h0
        · exact proc_free_69 t w h h0 hl
        · exact proc_bound_69 t w h h0 hl
        · exact proc_dead_69 t w h h0 hl
      · rcases ht with h0 | h0 | h0
        · exact proc_free_0 k e1 e2 e3 t w h h0 hl
        · exact proc_bound_0 k e1 e2 e3 t w h h0 hl
        · exact proc_dead_0 k e1 e2 e3 t w h h0 hl
end
end Mu
end Go.Proofs.Ytdakkjpejhlciaa
