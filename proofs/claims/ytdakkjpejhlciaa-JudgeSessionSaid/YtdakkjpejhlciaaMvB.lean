/- The document's session: what it does with a frame; Got, Turn, Answer, Lost, Hang, Replies. No condition. -/
import Derived.Test.YtdakkjpejhlciaaMvA
import Derived.Test.YtdakkjpejhlciaaMuF
import Derived.Test.YtdakkjpejhlciaaMuG
namespace Go.Proofs.Ytdakkjpejhlciaa
open Go.ChangeShapes Go.WideShapes Go.ChangeAt Go.RowKit Go.Deep
set_option linter.unusedVariables false
set_option maxRecDepth 100000
set_option linter.unusedSimpArgs false
namespace Mv
open St Mc Mu
section
variable {w w' w1 w2 : World} {S S' : Nat → Prop} {p : Nat} {vq vo vq' vo' r : Value} {b tx tx' b' : ByteArray} {bd al bd' al' : Bool} {s s' : Ses}
/-- what it does with a frame -/
def XProc (p : Nat) (S : Nat → Prop) (w : World) (A : Int) (T : ByteArray) (s' : Ses) (e : Ending) (w' : World) : Prop := e = .returned (.int .i64 A) ∧ ∃ S' vq' vo' b' bd' al' tx', XSV w' S' p vq' vo' b' bd' al' tx' s' ∧ (∀ k, S' k → Grow S w w' k) ∧ Only S w w' ∧ (A = 2 → tx' = T)
theorem xp_mk {A : Int} {T : ByteArray} {S1 : Nat → Prop} (hS : ∀ k, S1 k → Grow S w w1 k) (ho : Only S w w1) (hv : XSV w2 S1 p vq' vo' b' bd' al' tx' s') (h2 : Only S1 w1 w2) (hA : A = 2 → tx' = T) : XProc p S w A T s' (.returned (.int .i64 A)) w2 := by
  refine ⟨rfl, S1, _, _, _, _, _, _, hv, fun k hk => ?_, Mc.Only.sub ho hS h2, hA⟩
  have z := h2.2.2.2.1
  rcases hS k hk with a | a
  · exact .inl a
  · exact .inr ⟨a.1, by omega⟩
theorem tell_k (k : Int) (w : World) (h : XSV w S p vq vo b bd al tx s) (hl : s.out.length ≤ 1000000) : Calls Try.prog 42 #[.pointer (some ⟨p, 0, none⟩), .agg #[.int .i64 k, .int .i64 0, .string ⟨#[]⟩]] w (XToldR p S w vq b bd al tx (s.tell (rep k))) := tell_any (rep k) w h hl
theorem x3 (w : World) (p i j l : Nat) (a c d : Value) : ∀ k, k ≠ p → (((w.setCell ⟨p, i, none⟩ a).setCell ⟨p, j, none⟩ c).setCell ⟨p, l, none⟩ d).heap[k]? = w.heap[k]? := fun k hk => (xo _ p l _ k hk).trans ((xo _ p j _ k hk).trans (xo _ p i _ k hk))
set_option maxHeartbeats 1000000 in
theorem free_66 (t : ByteArray) (w : World) (h : XSV w S p vq vo b bd al tx s) (h0 : s.st = 1) (hw : s.st = 3 → s.wi = true) (hl : s.out.length ≤ 1000000) : Calls Try.prog 38 #[.pointer (some ⟨p, 0, none⟩), .agg #[.int .u8 66, .string t]] w (XProc p S w (procV s ⟨66, t⟩).1.1 (procV s ⟨66, t⟩).1.2 (procV s ⟨66, t⟩).2) := by
  obtain ⟨W1, hW1⟩ : ∃ q, w.alloc (.cells #[.int .u8 66, .string t] TF) = q := ⟨_, rfl⟩
  have hb1 : Below w.heap.size w W1 := by rw [← hW1]; exact (Below.refl _ _).alloc (Nat.le_refl _) _
  have hrow : W1.heap[w.heap.size]? = some (.cells #[.int .u8 66, .string t] TF (0, 0)) := by rw [← hW1]; exact heap_alloc_new _ _
  have f0 : W1.cell? ⟨w.heap.size, 0, none⟩ = some (.int .u8 66) := (cell_of_row _ _ _ _ _ _ hrow).trans rfl
  have f1 : W1.cell? ⟨w.heap.size, 1, none⟩ = some (.string t) := (cell_of_row _ _ _ _ _ _ hrow).trans rfl
  have HPB : Hid (w.heap.size ≠ p) := Lib.hid (by have := h.plt; omega)
  have HB1 := Lib.hid hb1
  have hv1 := h.below hb1
  have HV1 := Lib.hid hv1
  have H0 : Hid (s.st ≠ 0) := Lib.hid (by rw [h0]; decide)
  have HS := Lib.hid (h.says.1 H0.out)
  have HML := Lib.hid hl
  have HO1 := Lib.hid (Below.only hb1 S)
  have HWI := Lib.hid hw
  have HST := Lib.hid h0
  obtain ⟨-, -, -, c3, c4, c5, -, z⟩ := xcells hv1.row
  have g0 : ∀ i v, (W1.setCell ⟨p, i, none⟩ v).cell? ⟨w.heap.size, 0, none⟩ = some (.int .u8 66) := fun i v => (World.cell?_of_block (xo W1 p i v w.heap.size HPB.out)).trans f0
  have HP : Hid (∀ (e : Ending) (w' : World), XProc p S w 1 emp { s with st := 2, wi := true } e w' → XProc p S w (procV s ⟨66, t⟩).1.1 (procV s ⟨66, t⟩).1.2 (procV s ⟨66, t⟩).2 e w') := Lib.hid (by
    intro e w' hq
    unfold procV
    simp only [h0]
    exact hq)
  clear h hb1 hv1 h0 hl hrow hw
  go_enter Try.func38, Try.ntmps38
  go_wp2_with (first | rw [hW1])
  go_ret
  exact HP.out _ _ (xp_mk (fun k hk => .inl hk) HO1.out (HV1.out.put (xs5 (xs4 (xs3 HV1.out.row))) rfl (x3 _ p 3 4 5 _ _ _) (by simp) rfl rfl ⟨fun _ => HS.out, fun _ => rfl, (by first | (rintro (⟨-, q⟩ | q) <;> first | (cases q; done) | (simp [Ses.tell] at q; done)) | (rintro (q | q | q) <;> first | (cases q; done) | (simp [Ses.tell] at q; done)))⟩) (three_cells HV1.out.sp 3 4 5 _ _ _) (fun q => absurd q (by decide)))
set_option maxHeartbeats 1000000 in
theorem free_81 (t : ByteArray) (w : World) (h : XSV w S p vq vo b bd al tx s) (h0 : s.st = 1) (hw : s.st = 3 → s.wi = true) (hl : s.out.length ≤ 1000000) : Calls Try.prog 38 #[.pointer (some ⟨p, 0, none⟩), .agg #[.int .u8 81, .string t]] w (XProc p S w (procV s ⟨81, t⟩).1.1 (procV s ⟨81, t⟩).1.2 (procV s ⟨81, t⟩).2) := by
  obtain ⟨W1, hW1⟩ : ∃ q, w.alloc (.cells #[.int .u8 81, .string t] TF) = q := ⟨_, rfl⟩
  have hb1 : Below w.heap.size w W1 := by rw [← hW1]; exact (Below.refl _ _).alloc (Nat.le_refl _) _
  have hrow : W1.heap[w.heap.size]? = some (.cells #[.int .u8 81, .string t] TF (0, 0)) := by rw [← hW1]; exact heap_alloc_new _ _
  have f0 : W1.cell? ⟨w.heap.size, 0, none⟩ = some (.int .u8 81) := (cell_of_row _ _ _ _ _ _ hrow).trans rfl
  have f1 : W1.cell? ⟨w.heap.size, 1, none⟩ = some (.string t) := (cell_of_row _ _ _ _ _ _ hrow).trans rfl
  have HPB : Hid (w.heap.size ≠ p) := Lib.hid (by have := h.plt; omega)
  have HB1 := Lib.hid hb1
  have hv1 := h.below hb1
  have HV1 := Lib.hid hv1
  have H0 : Hid (s.st ≠ 0) := Lib.hid (by rw [h0]; decide)
  have HS := Lib.hid (h.says.1 H0.out)
  have HML := Lib.hid hl
  have HO1 := Lib.hid (Below.only hb1 S)
  have HWI := Lib.hid hw
  have HST := Lib.hid h0
  obtain ⟨-, -, -, c3, c4, c5, -, z⟩ := xcells hv1.row
  have g0 : ∀ i v, (W1.setCell ⟨p, i, none⟩ v).cell? ⟨w.heap.size, 0, none⟩ = some (.int .u8 81) := fun i v => (World.cell?_of_block (xo W1 p i v w.heap.size HPB.out)).trans f0
  have HP : Hid (∀ (e : Ending) (w' : World), XProc p S w 1 emp { s with st := 2, wi := false, tx := t } e w' → XProc p S w (procV s ⟨81, t⟩).1.1 (procV s ⟨81, t⟩).1.2 (procV s ⟨81, t⟩).2 e w') := Lib.hid (by
    intro e w' hq
    unfold procV
    simp only [h0]
    exact hq)
  clear h hb1 hv1 h0 hl hrow hw
  go_enter Try.func38, Try.ntmps38
  go_wp2_with (first | rw [hW1])
  go_ret
  exact HP.out _ _ (xp_mk (fun k hk => .inl hk) HO1.out (HV1.out.put (xs5 (xs4 (xs3 HV1.out.row))) rfl (x3 _ p 3 4 5 _ _ _) (by simp) rfl rfl ⟨fun _ => HS.out, fun _ => rfl, fun _ => rfl⟩) (three_cells HV1.out.sp 3 4 5 _ _ _) (fun q => absurd q (by decide)))
set_option maxHeartbeats 1000000 in
theorem free_69 (t : ByteArray) (w : World) (h : XSV w S p vq vo b bd al tx s) (h0 : s.st = 1) (hw : s.st = 3 → s.wi = true) (hl : s.out.length ≤ 1000000) : Calls Try.prog 38 #[.pointer (some ⟨p, 0, none⟩), .agg #[.int .u8 69, .string t]] w (XProc p S w (procV s ⟨69, t⟩).1.1 (procV s ⟨69, t⟩).1.2 (procV s ⟨69, t⟩).2) := by
  obtain ⟨W1, hW1⟩ : ∃ q, w.alloc (.cells #[.int .u8 69, .string t] TF) = q := ⟨_, rfl⟩
  have hb1 : Below w.heap.size w W1 := by rw [← hW1]; exact (Below.refl _ _).alloc (Nat.le_refl _) _
  have hrow : W1.heap[w.heap.size]? = some (.cells #[.int .u8 69, .string t] TF (0, 0)) := by rw [← hW1]; exact heap_alloc_new _ _
  have f0 : W1.cell? ⟨w.heap.size, 0, none⟩ = some (.int .u8 69) := (cell_of_row _ _ _ _ _ _ hrow).trans rfl
  have f1 : W1.cell? ⟨w.heap.size, 1, none⟩ = some (.string t) := (cell_of_row _ _ _ _ _ _ hrow).trans rfl
  have HPB : Hid (w.heap.size ≠ p) := Lib.hid (by have := h.plt; omega)
  have HB1 := Lib.hid hb1
  have hv1 := h.below hb1
  have HV1 := Lib.hid hv1
  have H0 : Hid (s.st ≠ 0) := Lib.hid (by rw [h0]; decide)
  have HS := Lib.hid (h.says.1 H0.out)
  have HML := Lib.hid hl
  have HO1 := Lib.hid (Below.only hb1 S)
  have HWI := Lib.hid hw
  have HST := Lib.hid h0
  obtain ⟨-, -, -, c3, c4, c5, -, z⟩ := xcells hv1.row
  have g0 : ∀ i v, (W1.setCell ⟨p, i, none⟩ v).cell? ⟨w.heap.size, 0, none⟩ = some (.int .u8 69) := fun i v => (World.cell?_of_block (xo W1 p i v w.heap.size HPB.out)).trans f0
  have HP : Hid (∀ (e : Ending) (w' : World), XProc p S w 0 emp (s.tell (rep 7)) e w' → XProc p S w (procV s ⟨69, t⟩).1.1 (procV s ⟨69, t⟩).1.2 (procV s ⟨69, t⟩).2 e w') := Lib.hid (by
    intro e w' hq
    unfold procV
    simp only [h0]
    exact hq)
  clear h hb1 hv1 h0 hl hrow hw
  go_enter Try.func38, Try.ntmps38
  go_wp2_with (first | rw [hW1] | ((with_reducible refine (tell_k 7 _ HV1.out HML.out).mono ?_); rintro e w2 ⟨rfl, S2, vo2, hv2, hs2, ho2⟩; obtain ⟨q1, q2⟩ := told_on HO1.out hs2 ho2; have HQ1 := Lib.hid q1; have HQ2 := Lib.hid q2; have HV2 := Lib.hid hv2; obtain ⟨-, -, -, d3, d4, d5, -, dz⟩ := xcells hv2.row; clear hv2 hs2 ho2 q1 q2))
  go_ret
  exact HP.out _ _ (xp_mk HQ1.out HQ2.out HV2.out (Only.refl _ _) (fun q => absurd q (by decide)))
set_option maxHeartbeats 1000000 in
theorem free_0 (k : Int) (e1 : k ≠ 66) (e2 : k ≠ 81) (e3 : k ≠ 69) (t : ByteArray) (w : World) (h : XSV w S p vq vo b bd al tx s) (h0 : s.st = 1) (hw : s.st = 3 → s.wi = true) (hl : s.out.length ≤ 1000000) : Calls Try.prog 38 #[.pointer (some ⟨p, 0, none⟩), .agg #[.int .u8 k, .string t]] w (XProc p S w (procV s ⟨k, t⟩).1.1 (procV s ⟨k, t⟩).1.2 (procV s ⟨k, t⟩).2) := by
  obtain ⟨W1, hW1⟩ : ∃ q, w.alloc (.cells #[.int .u8 k, .string t] TF) = q := ⟨_, rfl⟩
  have hb1 : Below w.heap.size w W1 := by rw [← hW1]; exact (Below.refl _ _).alloc (Nat.le_refl _) _
  have hrow : W1.heap[w.heap.size]? = some (.cells #[.int .u8 k, .string t] TF (0, 0)) := by rw [← hW1]; exact heap_alloc_new _ _
  have f0 : W1.cell? ⟨w.heap.size, 0, none⟩ = some (.int .u8 k) := (cell_of_row _ _ _ _ _ _ hrow).trans rfl
  have f1 : W1.cell? ⟨w.heap.size, 1, none⟩ = some (.string t) := (cell_of_row _ _ _ _ _ _ hrow).trans rfl
  have HPB : Hid (w.heap.size ≠ p) := Lib.hid (by have := h.plt; omega)
  have HB1 := Lib.hid hb1
  have hv1 := h.below hb1
  have HV1 := Lib.hid hv1
  have H0 : Hid (s.st ≠ 0) := Lib.hid (by rw [h0]; decide)
  have HS := Lib.hid (h.says.1 H0.out)
  have HML := Lib.hid hl
  have HO1 := Lib.hid (Below.only hb1 S)
  have HWI := Lib.hid hw
  have HST := Lib.hid h0
  obtain ⟨-, -, -, c3, c4, c5, -, z⟩ := xcells hv1.row
  have g0 : ∀ i v, (W1.setCell ⟨p, i, none⟩ v).cell? ⟨w.heap.size, 0, none⟩ = some (.int .u8 k) := fun i v => (World.cell?_of_block (xo W1 p i v w.heap.size HPB.out)).trans f0
  have HP : Hid (∀ (e : Ending) (w' : World), XProc p S w 0 emp (hangS (s.tell (rep 8))) e w' → XProc p S w (procV s ⟨k, t⟩).1.1 (procV s ⟨k, t⟩).1.2 (procV s ⟨k, t⟩).2 e w') := Lib.hid (by
    intro e w' hq
    unfold procV
    simp only [h0, e1, e2, e3]
    exact hq)
  clear h hb1 hv1 h0 hl hrow hw
  go_enter Try.func38, Try.ntmps38
  go_wp2_with (first | rw [hW1] | ((with_reducible refine (tell_k 8 _ HV1.out HML.out).mono ?_); rintro e w2 ⟨rfl, S2, vo2, hv2, hs2, ho2⟩; obtain ⟨q1, q2⟩ := told_on HO1.out hs2 ho2; have HQ1 := Lib.hid q1; have HQ2 := Lib.hid q2; have HV2 := Lib.hid hv2; obtain ⟨-, -, -, d3, d4, d5, -, dz⟩ := xcells hv2.row; clear hv2 hs2 ho2 q1 q2) | ((with_reducible refine (end_any _ HV2.out).mono ?_); rintro e w9 ⟨rfl, hv9, ho9⟩; have HV9 := Lib.hid hv9; have HO9 := Lib.hid ho9; clear hv9 ho9))
  go_ret
  exact HP.out _ _ (xp_mk HQ1.out HQ2.out HV9.out HO9.out (fun q => absurd q (by decide)))
set_option maxHeartbeats 1000000 in
theorem bound_66 (t : ByteArray) (w : World) (h : XSV w S p vq vo b bd al tx s) (h0 : s.st = 3) (hw : s.st = 3 → s.wi = true) (hl : s.out.length ≤ 1000000) : Calls Try.prog 39 #[.pointer (some ⟨p, 0, none⟩), .agg #[.int .u8 66, .string t]] w (XProc p S w (procV s ⟨66, t⟩).1.1 (procV s ⟨66, t⟩).1.2 (procV s ⟨66, t⟩).2) := by
  obtain ⟨W1, hW1⟩ : ∃ q, w.alloc (.cells #[.int .u8 66, .string t] TF) = q := ⟨_, rfl⟩
  have hb1 : Below w.heap.size w W1 := by rw [← hW1]; exact (Below.refl _ _).alloc (Nat.le_refl _) _
  have hrow : W1.heap[w.heap.size]? = some (.cells #[.int .u8 66, .string t] TF (0, 0)) := by rw [← hW1]; exact heap_alloc_new _ _
  have f0 : W1.cell? ⟨w.heap.size, 0, none⟩ = some (.int .u8 66) := (cell_of_row _ _ _ _ _ _ hrow).trans rfl
  have f1 : W1.cell? ⟨w.heap.size, 1, none⟩ = some (.string t) := (cell_of_row _ _ _ _ _ _ hrow).trans rfl
  have HPB : Hid (w.heap.size ≠ p) := Lib.hid (by have := h.plt; omega)
  have HB1 := Lib.hid hb1
  have hv1 := h.below hb1
  have HV1 := Lib.hid hv1
  have H0 : Hid (s.st ≠ 0) := Lib.hid (by rw [h0]; decide)
  have HS := Lib.hid (h.says.1 H0.out)
  have HML := Lib.hid hl
  have HO1 := Lib.hid (Below.only hb1 S)
  have HWI := Lib.hid hw
  have HST := Lib.hid h0
  obtain ⟨-, -, -, c3, c4, c5, -, z⟩ := xcells hv1.row
  have g0 : ∀ i v, (W1.setCell ⟨p, i, none⟩ v).cell? ⟨w.heap.size, 0, none⟩ = some (.int .u8 66) := fun i v => (World.cell?_of_block (xo W1 p i v w.heap.size HPB.out)).trans f0
  have HP : Hid (∀ (e : Ending) (w' : World), XProc p S w 0 emp (s.tell (rep 7)) e w' → XProc p S w (procV s ⟨66, t⟩).1.1 (procV s ⟨66, t⟩).1.2 (procV s ⟨66, t⟩).2 e w') := Lib.hid (by
    intro e w' hq
    unfold procV
    simp only [h0]
    exact hq)
  clear h hb1 hv1 h0 hl hrow hw
  go_enter Try.func39, Try.ntmps39
  go_wp2_with (first | rw [hW1] | ((with_reducible refine (tell_k 7 _ HV1.out HML.out).mono ?_); rintro e w2 ⟨rfl, S2, vo2, hv2, hs2, ho2⟩; obtain ⟨q1, q2⟩ := told_on HO1.out hs2 ho2; have HQ1 := Lib.hid q1; have HQ2 := Lib.hid q2; have HV2 := Lib.hid hv2; obtain ⟨-, -, -, d3, d4, d5, -, dz⟩ := xcells hv2.row; clear hv2 hs2 ho2 q1 q2))
  go_ret
  exact HP.out _ _ (xp_mk HQ1.out HQ2.out HV2.out (Only.refl _ _) (fun q => absurd q (by decide)))
set_option maxHeartbeats 1000000 in
theorem bound_81 (t : ByteArray) (w : World) (h : XSV w S p vq vo b bd al tx s) (h0 : s.st = 3) (hw : s.st = 3 → s.wi = true) (hl : s.out.length ≤ 1000000) : Calls Try.prog 39 #[.pointer (some ⟨p, 0, none⟩), .agg #[.int .u8 81, .string t]] w (XProc p S w (procV s ⟨81, t⟩).1.1 (procV s ⟨81, t⟩).1.2 (procV s ⟨81, t⟩).2) := by
  obtain ⟨W1, hW1⟩ : ∃ q, w.alloc (.cells #[.int .u8 81, .string t] TF) = q := ⟨_, rfl⟩
  have hb1 : Below w.heap.size w W1 := by rw [← hW1]; exact (Below.refl _ _).alloc (Nat.le_refl _) _
  have hrow : W1.heap[w.heap.size]? = some (.cells #[.int .u8 81, .string t] TF (0, 0)) := by rw [← hW1]; exact heap_alloc_new _ _
  have f0 : W1.cell? ⟨w.heap.size, 0, none⟩ = some (.int .u8 81) := (cell_of_row _ _ _ _ _ _ hrow).trans rfl
  have f1 : W1.cell? ⟨w.heap.size, 1, none⟩ = some (.string t) := (cell_of_row _ _ _ _ _ _ hrow).trans rfl
  have HPB : Hid (w.heap.size ≠ p) := Lib.hid (by have := h.plt; omega)
  have HB1 := Lib.hid hb1
  have hv1 := h.below hb1
  have HV1 := Lib.hid hv1
  have H0 : Hid (s.st ≠ 0) := Lib.hid (by rw [h0]; decide)
  have HS := Lib.hid (h.says.1 H0.out)
  have HML := Lib.hid hl
  have HO1 := Lib.hid (Below.only hb1 S)
  have HWI := Lib.hid hw
  have HST := Lib.hid h0
  obtain ⟨-, -, -, c3, c4, c5, -, z⟩ := xcells hv1.row
  have g0 : ∀ i v, (W1.setCell ⟨p, i, none⟩ v).cell? ⟨w.heap.size, 0, none⟩ = some (.int .u8 81) := fun i v => (World.cell?_of_block (xo W1 p i v w.heap.size HPB.out)).trans f0
  have HP : Hid (∀ (e : Ending) (w' : World), XProc p S w 2 t { s with st := 5 } e w' → XProc p S w (procV s ⟨81, t⟩).1.1 (procV s ⟨81, t⟩).1.2 (procV s ⟨81, t⟩).2 e w') := Lib.hid (by
    intro e w' hq
    unfold procV
    simp only [h0]
    exact hq)
  clear h hb1 hv1 h0 hl hrow hw
  go_enter Try.func39, Try.ntmps39
  go_wp2_with (first | rw [hW1])
  go_ret
  exact HP.out _ _ (xp_mk (fun k hk => .inl hk) HO1.out (HV1.out.put (xs5 (xs4 (xs3 HV1.out.row))) rfl (x3 _ p 3 4 5 _ _ _) (by simp) rfl rfl ⟨fun _ => HS.out, fun _ => (by rw [show ({ s with st := 5 } : Ses).wi = true from HWI.out HST.out]; rfl), (by first | (rintro (⟨-, q⟩ | q) <;> first | (cases q; done) | (simp [Ses.tell] at q; done)) | (rintro (q | q | q) <;> first | (cases q; done) | (simp [Ses.tell] at q; done)))⟩) (three_cells HV1.out.sp 3 4 5 _ _ _) (fun _ => rfl))
set_option maxHeartbeats 1000000 in
theorem bound_69 (t : ByteArray) (w : World) (h : XSV w S p vq vo b bd al tx s) (h0 : s.st = 3) (hw : s.st = 3 → s.wi = true) (hl : s.out.length ≤ 1000000) : Calls Try.prog 39 #[.pointer (some ⟨p, 0, none⟩), .agg #[.int .u8 69, .string t]] w (XProc p S w (procV s ⟨69, t⟩).1.1 (procV s ⟨69, t⟩).1.2 (procV s ⟨69, t⟩).2) := by
  obtain ⟨W1, hW1⟩ : ∃ q, w.alloc (.cells #[.int .u8 69, .string t] TF) = q := ⟨_, rfl⟩
  have hb1 : Below w.heap.size w W1 := by rw [← hW1]; exact (Below.refl _ _).alloc (Nat.le_refl _) _
  have hrow : W1.heap[w.heap.size]? = some (.cells #[.int .u8 69, .string t] TF (0, 0)) := by rw [← hW1]; exact heap_alloc_new _ _
  have f0 : W1.cell? ⟨w.heap.size, 0, none⟩ = some (.int .u8 69) := (cell_of_row _ _ _ _ _ _ hrow).trans rfl
  have f1 : W1.cell? ⟨w.heap.size, 1, none⟩ = some (.string t) := (cell_of_row _ _ _ _ _ _ hrow).trans rfl
  have HPB : Hid (w.heap.size ≠ p) := Lib.hid (by have := h.plt; omega)
  have HB1 := Lib.hid hb1
  have hv1 := h.below hb1
  have HV1 := Lib.hid hv1
  have H0 : Hid (s.st ≠ 0) := Lib.hid (by rw [h0]; decide)
  have HS := Lib.hid (h.says.1 H0.out)
  have HML := Lib.hid hl
  have HO1 := Lib.hid (Below.only hb1 S)
  have HWI := Lib.hid hw
  have HST := Lib.hid h0
  obtain ⟨-, -, -, c3, c4, c5, -, z⟩ := xcells hv1.row
  have g0 : ∀ i v, (W1.setCell ⟨p, i, none⟩ v).cell? ⟨w.heap.size, 0, none⟩ = some (.int .u8 69) := fun i v => (World.cell?_of_block (xo W1 p i v w.heap.size HPB.out)).trans f0
  have HP : Hid (∀ (e : Ending) (w' : World), XProc p S w 3 emp { s.tell (rep 3) with st := 1 } e w' → XProc p S w (procV s ⟨69, t⟩).1.1 (procV s ⟨69, t⟩).1.2 (procV s ⟨69, t⟩).2 e w') := Lib.hid (by
    intro e w' hq
    unfold procV
    simp only [h0]
    exact hq)
  clear h hb1 hv1 h0 hl hrow hw
  go_enter Try.func39, Try.ntmps39
  go_wp2_with (first | rw [hW1] | ((with_reducible refine (tell_k 3 _ HV1.out HML.out).mono ?_); rintro e w2 ⟨rfl, S2, vo2, hv2, hs2, ho2⟩; obtain ⟨q1, q2⟩ := told_on HO1.out hs2 ho2; have HQ1 := Lib.hid q1; have HQ2 := Lib.hid q2; have HV2 := Lib.hid hv2; obtain ⟨-, -, -, d3, d4, d5, -, dz⟩ := xcells hv2.row; clear hv2 hs2 ho2 q1 q2))
  go_ret
  exact HP.out _ _ (xp_mk HQ1.out HQ2.out (HV2.out.put (xs3 HV2.out.row) rfl (xo _ p 3 _) (by simp) rfl rfl ⟨fun _ => HS.out, (by first | (rintro (⟨-, q⟩ | q) <;> first | (cases q; done) | (simp [Ses.tell] at q; done)) | (rintro (q | q | q) <;> first | (cases q; done) | (simp [Ses.tell] at q; done))), (by first | (rintro (⟨-, q⟩ | q) <;> first | (cases q; done) | (simp [Ses.tell] at q; done)) | (rintro (q | q | q) <;> first | (cases q; done) | (simp [Ses.tell] at q; done)))⟩) (only_cell HV2.out.sp 3 _) (fun q => absurd q (by decide)))
set_option maxHeartbeats 1000000 in
theorem bound_0 (k : Int) (e1 : k ≠ 66) (e2 : k ≠ 81) (e3 : k ≠ 69) (t : ByteArray) (w : World) (h : XSV w S p vq vo b bd al tx s) (h0 : s.st = 3) (hw : s.st = 3 → s.wi = true) (hl : s.out.length ≤ 1000000) : Calls Try.prog 39 #[.pointer (some ⟨p, 0, none⟩), .agg #[.int .u8 k, .string t]] w (XProc p S w (procV s ⟨k, t⟩).1.1 (procV s ⟨k, t⟩).1.2 (procV s ⟨k, t⟩).2) := by
  obtain ⟨W1, hW1⟩ : ∃ q, w.alloc (.cells #[.int .u8 k, .string t] TF) = q := ⟨_, rfl⟩
  have hb1 : Below w.heap.size w W1 := by rw [← hW1]; exact (Below.refl _ _).alloc (Nat.le_refl _) _
  have hrow : W1.heap[w.heap.size]? = some (.cells #[.int .u8 k, .string t] TF (0, 0)) := by rw [← hW1]; exact heap_alloc_new _ _
  have f0 : W1.cell? ⟨w.heap.size, 0, none⟩ = some (.int .u8 k) := (cell_of_row _ _ _ _ _ _ hrow).trans rfl
  have f1 : W1.cell? ⟨w.heap.size, 1, none⟩ = some (.string t) := (cell_of_row _ _ _ _ _ _ hrow).trans rfl
  have HPB : Hid (w.heap.size ≠ p) := Lib.hid (by have := h.plt; omega)
  have HB1 := Lib.hid hb1
  have hv1 := h.below hb1
  have HV1 := Lib.hid hv1
  have H0 : Hid (s.st ≠ 0) := Lib.hid (by rw [h0]; decide)
  have HS := Lib.hid (h.says.1 H0.out)
  have HML := Lib.hid hl
  have HO1 := Lib.hid (Below.only hb1 S)
  have HWI := Lib.hid hw
  have HST := Lib.hid h0
  obtain ⟨-, -, -, c3, c4, c5, -, z⟩ := xcells hv1.row
  have g0 : ∀ i v, (W1.setCell ⟨p, i, none⟩ v).cell? ⟨w.heap.size, 0, none⟩ = some (.int .u8 k) := fun i v => (World.cell?_of_block (xo W1 p i v w.heap.size HPB.out)).trans f0
  have HP : Hid (∀ (e : Ending) (w' : World), XProc p S w 3 emp (hangS (s.tell (rep 8))) e w' → XProc p S w (procV s ⟨k, t⟩).1.1 (procV s ⟨k, t⟩).1.2 (procV s ⟨k, t⟩).2 e w') := Lib.hid (by
    intro e w' hq
    unfold procV
    simp only [h0, e1, e2, e3]
    exact hq)
  clear h hb1 hv1 h0 hl hrow hw
  go_enter Try.func39, Try.ntmps39
  go_wp2_with (first | rw [hW1] | ((with_reducible refine (tell_k 8 _ HV1.out HML.out).mono ?_); rintro e w2 ⟨rfl, S2, vo2, hv2, hs2, ho2⟩; obtain ⟨q1, q2⟩ := told_on HO1.out hs2 ho2; have HQ1 := Lib.hid q1; have HQ2 := Lib.hid q2; have HV2 := Lib.hid hv2; obtain ⟨-, -, -, d3, d4, d5, -, dz⟩ := xcells hv2.row; clear hv2 hs2 ho2 q1 q2) | ((with_reducible refine (end_any _ HV2.out).mono ?_); rintro e w9 ⟨rfl, hv9, ho9⟩; have HV9 := Lib.hid hv9; have HO9 := Lib.hid ho9; clear hv9 ho9))
  go_ret
  exact HP.out _ _ (xp_mk HQ1.out HQ2.out HV9.out HO9.out (fun q => absurd q (by decide)))
set_option maxHeartbeats 1000000 in
theorem dead_66 (t : ByteArray) (w : World) (h : XSV w S p vq vo b bd al tx s) (h0 : s.st = 7) (hw : s.st = 3 → s.wi = true) (hl : s.out.length ≤ 1000000) : Calls Try.prog 40 #[.pointer (some ⟨p, 0, none⟩), .agg #[.int .u8 66, .string t]] w (XProc p S w (procV s ⟨66, t⟩).1.1 (procV s ⟨66, t⟩).1.2 (procV s ⟨66, t⟩).2) := by
  obtain ⟨W1, hW1⟩ : ∃ q, w.alloc (.cells #[.int .u8 66, .string t] TF) = q := ⟨_, rfl⟩
  have hb1 : Below w.heap.size w W1 := by rw [← hW1]; exact (Below.refl _ _).alloc (Nat.le_refl _) _
  have hrow : W1.heap[w.heap.size]? = some (.cells #[.int .u8 66, .string t] TF (0, 0)) := by rw [← hW1]; exact heap_alloc_new _ _
  have f0 : W1.cell? ⟨w.heap.size, 0, none⟩ = some (.int .u8 66) := (cell_of_row _ _ _ _ _ _ hrow).trans rfl
  have f1 : W1.cell? ⟨w.heap.size, 1, none⟩ = some (.string t) := (cell_of_row _ _ _ _ _ _ hrow).trans rfl
  have HPB : Hid (w.heap.size ≠ p) := Lib.hid (by have := h.plt; omega)
  have HB1 := Lib.hid hb1
  have hv1 := h.below hb1
  have HV1 := Lib.hid hv1
  have H0 : Hid (s.st ≠ 0) := Lib.hid (by rw [h0]; decide)
  have HS := Lib.hid (h.says.1 H0.out)
  have HML := Lib.hid hl
  have HO1 := Lib.hid (Below.only hb1 S)
  have HWI := Lib.hid hw
  have HST := Lib.hid h0
  obtain ⟨-, -, -, c3, c4, c5, -, z⟩ := xcells hv1.row
  have g0 : ∀ i v, (W1.setCell ⟨p, i, none⟩ v).cell? ⟨w.heap.size, 0, none⟩ = some (.int .u8 66) := fun i v => (World.cell?_of_block (xo W1 p i v w.heap.size HPB.out)).trans f0
  have HP : Hid (∀ (e : Ending) (w' : World), XProc p S w 0 emp { s.tell (rep 6) with st := 1 } e w' → XProc p S w (procV s ⟨66, t⟩).1.1 (procV s ⟨66, t⟩).1.2 (procV s ⟨66, t⟩).2 e w') := Lib.hid (by
    intro e w' hq
    unfold procV
    simp only [h0]
    exact hq)
  clear h hb1 hv1 h0 hl hrow hw
  go_enter Try.func40, Try.ntmps40
  go_wp2_with (first | rw [hW1] | ((with_reducible refine (tell_k 6 _ HV1.out HML.out).mono ?_); rintro e w2 ⟨rfl, S2, vo2, hv2, hs2, ho2⟩; obtain ⟨q1, q2⟩ := told_on HO1.out hs2 ho2; have HQ1 := Lib.hid q1; have HQ2 := Lib.hid q2; have HV2 := Lib.hid hv2; obtain ⟨-, -, -, d3, d4, d5, -, dz⟩ := xcells hv2.row; clear hv2 hs2 ho2 q1 q2))
  go_ret
  exact HP.out _ _ (xp_mk HQ1.out HQ2.out (HV2.out.put (xs3 HV2.out.row) rfl (xo _ p 3 _) (by simp) rfl rfl ⟨fun _ => HS.out, (by first | (rintro (⟨-, q⟩ | q) <;> first | (cases q; done) | (simp [Ses.tell] at q; done)) | (rintro (q | q | q) <;> first | (cases q; done) | (simp [Ses.tell] at q; done))), (by first | (rintro (⟨-, q⟩ | q) <;> first | (cases q; done) | (simp [Ses.tell] at q; done)) | (rintro (q | q | q) <;> first | (cases q; done) | (simp [Ses.tell] at q; done)))⟩) (only_cell HV2.out.sp 3 _) (fun q => absurd q (by decide)))
set_option maxHeartbeats 1000000 in
theorem dead_81 (t : ByteArray) (w : World) (h : XSV w S p vq vo b bd al tx s) (h0 : s.st = 7) (hw : s.st = 3 → s.wi = true) (hl : s.out.length ≤ 1000000) : Calls Try.prog 40 #[.pointer (some ⟨p, 0, none⟩), .agg #[.int .u8 81, .string t]] w (XProc p S w (procV s ⟨81, t⟩).1.1 (procV s ⟨81, t⟩).1.2 (procV s ⟨81, t⟩).2) := by
  obtain ⟨W1, hW1⟩ : ∃ q, w.alloc (.cells #[.int .u8 81, .string t] TF) = q := ⟨_, rfl⟩
  have hb1 : Below w.heap.size w W1 := by rw [← hW1]; exact (Below.refl _ _).alloc (Nat.le_refl _) _
  have hrow : W1.heap[w.heap.size]? = some (.cells #[.int .u8 81, .string t] TF (0, 0)) := by rw [← hW1]; exact heap_alloc_new _ _
  have f0 : W1.cell? ⟨w.heap.size, 0, none⟩ = some (.int .u8 81) := (cell_of_row _ _ _ _ _ _ hrow).trans rfl
  have f1 : W1.cell? ⟨w.heap.size, 1, none⟩ = some (.string t) := (cell_of_row _ _ _ _ _ _ hrow).trans rfl
  have HPB : Hid (w.heap.size ≠ p) := Lib.hid (by have := h.plt; omega)
  have HB1 := Lib.hid hb1
  have hv1 := h.below hb1
  have HV1 := Lib.hid hv1
  have H0 : Hid (s.st ≠ 0) := Lib.hid (by rw [h0]; decide)
  have HS := Lib.hid (h.says.1 H0.out)
  have HML := Lib.hid hl
  have HO1 := Lib.hid (Below.only hb1 S)
  have HWI := Lib.hid hw
  have HST := Lib.hid h0
  obtain ⟨-, -, -, c3, c4, c5, -, z⟩ := xcells hv1.row
  have g0 : ∀ i v, (W1.setCell ⟨p, i, none⟩ v).cell? ⟨w.heap.size, 0, none⟩ = some (.int .u8 81) := fun i v => (World.cell?_of_block (xo W1 p i v w.heap.size HPB.out)).trans f0
  have HP : Hid (∀ (e : Ending) (w' : World), XProc p S w 0 emp { s.tell (rep 6) with st := 1 } e w' → XProc p S w (procV s ⟨81, t⟩).1.1 (procV s ⟨81, t⟩).1.2 (procV s ⟨81, t⟩).2 e w') := Lib.hid (by
    intro e w' hq
    unfold procV
    simp only [h0]
    exact hq)
  clear h hb1 hv1 h0 hl hrow hw
  go_enter Try.func40, Try.ntmps40
  go_wp2_with (first | rw [hW1] | ((with_reducible refine (tell_k 6 _ HV1.out HML.out).mono ?_); rintro e w2 ⟨rfl, S2, vo2, hv2, hs2, ho2⟩; obtain ⟨q1, q2⟩ := told_on HO1.out hs2 ho2; have HQ1 := Lib.hid q1; have HQ2 := Lib.hid q2; have HV2 := Lib.hid hv2; obtain ⟨-, -, -, d3, d4, d5, -, dz⟩ := xcells hv2.row; clear hv2 hs2 ho2 q1 q2))
  go_ret
  exact HP.out _ _ (xp_mk HQ1.out HQ2.out (HV2.out.put (xs3 HV2.out.row) rfl (xo _ p 3 _) (by simp) rfl rfl ⟨fun _ => HS.out, (by first | (rintro (⟨-, q⟩ | q) <;> first | (cases q; done) | (simp [Ses.tell] at q; done)) | (rintro (q | q | q) <;> first | (cases q; done) | (simp [Ses.tell] at q; done))), (by first | (rintro (⟨-, q⟩ | q) <;> first | (cases q; done) | (simp [Ses.tell] at q; done)) | (rintro (q | q | q) <;> first | (cases q; done) | (simp [Ses.tell] at q; done)))⟩) (only_cell HV2.out.sp 3 _) (fun q => absurd q (by decide)))
set_option maxHeartbeats 1000000 in
theorem dead_69 (t : ByteArray) (w : World) (h : XSV w S p vq vo b bd al tx s) (h0 : s.st = 7) (hw : s.st = 3 → s.wi = true) (hl : s.out.length ≤ 1000000) : Calls Try.prog 40 #[.pointer (some ⟨p, 0, none⟩), .agg #[.int .u8 69, .string t]] w (XProc p S w (procV s ⟨69, t⟩).1.1 (procV s ⟨69, t⟩).1.2 (procV s ⟨69, t⟩).2) := by
  obtain ⟨W1, hW1⟩ : ∃ q, w.alloc (.cells #[.int .u8 69, .string t] TF) = q := ⟨_, rfl⟩
  have hb1 : Below w.heap.size w W1 := by rw [← hW1]; exact (Below.refl _ _).alloc (Nat.le_refl _) _
  have hrow : W1.heap[w.heap.size]? = some (.cells #[.int .u8 69, .string t] TF (0, 0)) := by rw [← hW1]; exact heap_alloc_new _ _
  have f0 : W1.cell? ⟨w.heap.size, 0, none⟩ = some (.int .u8 69) := (cell_of_row _ _ _ _ _ _ hrow).trans rfl
  have f1 : W1.cell? ⟨w.heap.size, 1, none⟩ = some (.string t) := (cell_of_row _ _ _ _ _ _ hrow).trans rfl
  have HPB : Hid (w.heap.size ≠ p) := Lib.hid (by have := h.plt; omega)
  have HB1 := Lib.hid hb1
  have hv1 := h.below hb1
  have HV1 := Lib.hid hv1
  have H0 : Hid (s.st ≠ 0) := Lib.hid (by rw [h0]; decide)
  have HS := Lib.hid (h.says.1 H0.out)
  have HML := Lib.hid hl
  have HO1 := Lib.hid (Below.only hb1 S)
  have HWI := Lib.hid hw
  have HST := Lib.hid h0
  obtain ⟨-, -, -, c3, c4, c5, -, z⟩ := xcells hv1.row
  have g0 : ∀ i v, (W1.setCell ⟨p, i, none⟩ v).cell? ⟨w.heap.size, 0, none⟩ = some (.int .u8 69) := fun i v => (World.cell?_of_block (xo W1 p i v w.heap.size HPB.out)).trans f0
  have HP : Hid (∀ (e : Ending) (w' : World), XProc p S w 0 emp { s.tell (rep 6) with st := 1 } e w' → XProc p S w (procV s ⟨69, t⟩).1.1 (procV s ⟨69, t⟩).1.2 (procV s ⟨69, t⟩).2 e w') := Lib.hid (by
    intro e w' hq
    unfold procV
    simp only [h0]
    exact hq)
  clear h hb1 hv1 h0 hl hrow hw
  go_enter Try.func40, Try.ntmps40
  go_wp2_with (first | rw [hW1] | ((with_reducible refine (tell_k 6 _ HV1.out HML.out).mono ?_); rintro e w2 ⟨rfl, S2, vo2, hv2, hs2, ho2⟩; obtain ⟨q1, q2⟩ := told_on HO1.out hs2 ho2; have HQ1 := Lib.hid q1; have HQ2 := Lib.hid q2; have HV2 := Lib.hid hv2; obtain ⟨-, -, -, d3, d4, d5, -, dz⟩ := xcells hv2.row; clear hv2 hs2 ho2 q1 q2))
  go_ret
  exact HP.out _ _ (xp_mk HQ1.out HQ2.out (HV2.out.put (xs3 HV2.out.row) rfl (xo _ p 3 _) (by simp) rfl rfl ⟨fun _ => HS.out, (by first | (rintro (⟨-, q⟩ | q) <;> first | (cases q; done) | (simp [Ses.tell] at q; done)) | (rintro (q | q | q) <;> first | (cases q; done) | (simp [Ses.tell] at q; done))), (by first | (rintro (⟨-, q⟩ | q) <;> first | (cases q; done) | (simp [Ses.tell] at q; done)) | (rintro (q | q | q) <;> first | (cases q; done) | (simp [Ses.tell] at q; done)))⟩) (only_cell HV2.out.sp 3 _) (fun q => absurd q (by decide)))
set_option maxHeartbeats 1000000 in
theorem dead_0 (t : ByteArray) (w : World) (h : XSV w S p vq vo b bd al tx s) (h0 : s.st = 7) (hw : s.st = 3 → s.wi = true) (hl : s.out.length ≤ 1000000) : Calls Try.prog 40 #[.pointer (some ⟨p, 0, none⟩), .agg #[.int .u8 0, .string t]] w (XProc p S w (procV s ⟨0, t⟩).1.1 (procV s ⟨0, t⟩).1.2 (procV s ⟨0, t⟩).2) := by
  obtain ⟨W1, hW1⟩ : ∃ q, w.alloc (.cells #[.int .u8 0, .string t] TF) = q := ⟨_, rfl⟩
  have hb1 : Below w.heap.size w W1 := by rw [← hW1]; exact (Below.refl _ _).alloc (Nat.le_refl _) _
  have hrow : W1.heap[w.heap.size]? = some (.cells #[.int .u8 0, .string t] TF (0, 0)) := by rw [← hW1]; exact heap_alloc_new _ _
  have f0 : W1.cell? ⟨w.heap.size, 0, none⟩ = some (.int .u8 0) := (cell_of_row _ _ _ _ _ _ hrow).trans rfl
  have f1 : W1.cell? ⟨w.heap.size, 1, none⟩ = some (.string t) := (cell_of_row _ _ _ _ _ _ hrow).trans rfl
  have HPB : Hid (w.heap.size ≠ p) := Lib.hid (by have := h.plt; omega)
  have HB1 := Lib.hid hb1
  have hv1 := h.below hb1
  have HV1 := Lib.hid hv1
  have H0 : Hid (s.st ≠ 0) := Lib.hid (by rw [h0]; decide)
  have HS := Lib.hid (h.says.1 H0.out)
  have HML := Lib.hid hl
  have HO1 := Lib.hid (Below.only hb1 S)
  have HWI := Lib.hid hw
  have HST := Lib.hid h0
  obtain ⟨-, -, -, c3, c4, c5, -, z⟩ := xcells hv1.row
  have g0 : ∀ i v, (W1.setCell ⟨p, i, none⟩ v).cell? ⟨w.heap.size, 0, none⟩ = some (.int .u8 0) := fun i v => (World.cell?_of_block (xo W1 p i v w.heap.size HPB.out)).trans f0
  have HP : Hid (∀ (e : Ending) (w' : World), XProc p S w 0 emp (hangS (s.tell (rep 8))) e w' → XProc p S w (procV s ⟨0, t⟩).1.1 (procV s ⟨0, t⟩).1.2 (procV s ⟨0, t⟩).2 e w') := Lib.hid (by
    intro e w' hq
    unfold procV
    simp only [h0]
    exact hq)
  clear h hb1 hv1 h0 hl hrow hw
  go_enter Try.func40, Try.ntmps40
  go_wp2_with (first | rw [hW1] | ((with_reducible refine (tell_k 8 _ HV1.out HML.out).mono ?_); rintro e w2 ⟨rfl, S2, vo2, hv2, hs2, ho2⟩; obtain ⟨q1, q2⟩ := told_on HO1.out hs2 ho2; have HQ1 := Lib.hid q1; have HQ2 := Lib.hid q2; have HV2 := Lib.hid hv2; obtain ⟨-, -, -, d3, d4, d5, -, dz⟩ := xcells hv2.row; clear hv2 hs2 ho2 q1 q2) | ((with_reducible refine (end_any _ HV2.out).mono ?_); rintro e w9 ⟨rfl, hv9, ho9⟩; have HV9 := Lib.hid hv9; have HO9 := Lib.hid ho9; clear hv9 ho9))
  go_ret
  exact HP.out _ _ (xp_mk HQ1.out HQ2.out HV9.out HO9.out (fun q => absurd q (by decide)))
end
end Mv
end Go.Proofs.Ytdakkjpejhlciaa
