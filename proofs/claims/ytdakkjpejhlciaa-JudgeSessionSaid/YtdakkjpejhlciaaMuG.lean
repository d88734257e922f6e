/- A client's session: Turn, Feed, Clone. No condition. -/
import Derived.Test.YtdakkjpejhlciaaMuF
import Derived.Test.YtdakkjpejhlciaaInFrm
import Derived.Test.YtdakkjpejhlciaaInRep
import Derived.Test.YtdakkjpejhlciaaWl
namespace Go.Proofs.Ytdakkjpejhlciaa
open Go.ChangeShapes Go.WideShapes Go.ChangeAt Go.RowKit Go.Deep
set_option linter.unusedVariables false
set_option maxRecDepth 100000
set_option linter.unusedSimpArgs false
namespace Mu
open St Mc
section
variable {w w' w1 w2 : World} {S S' : Nat → Prop} {p : Nat} {vr vq vo vr' vq' vo' r : Value} {s s' : Ses}
def TurnsR (r : Rep) (w : World) (e : Ending) (w' : World) : Prop := ∃ b, e = .returned (.bool b) ∧ (b = true ↔ turns r) ∧ w' = w.alloc (.cells #[.int .i64 r.kind, .int .i64 r.node, .string r.text] TR)
theorem turns_678 (w : World) : Calls Try.prog 43 #[.agg #[.int .i64 4, .int .i64 0, .string ⟨#[]⟩]] w (TurnsR ⟨4, 0, ⟨#[]⟩⟩ w) := by
  have HF : Hid (TurnsR ⟨4, 0, ⟨#[]⟩⟩ w (.returned (.bool true)) (w.alloc (.cells #[.int .i64 4, .int .i64 0, .string ⟨#[]⟩] TR))) := Lib.hid ⟨_, rfl, by simp [turns, emp], rfl⟩
  go_enter Try.func43, Try.ntmps43
  go_wp2
  go_ret
  exact HF.out
theorem turns_1121 (n : Int) (t : ByteArray) (w : World) (h : n ≠ 0) : Calls Try.prog 43 #[.agg #[.int .i64 4, .int .i64 n, .string t]] w (TurnsR ⟨4, n, t⟩ w) := by
  have HF : Hid (TurnsR ⟨4, n, t⟩ w (.returned (.bool false)) (w.alloc (.cells #[.int .i64 4, .int .i64 n, .string t] TR))) := Lib.hid ⟨_, rfl, by simp [turns, h], rfl⟩
  have hb : (n == 0) = false := beq_eq_false_iff_ne.2 h
  clear h
  go_enter Try.func43, Try.ntmps43
  go_wp2
  go_ret
  exact HF.out
theorem turns_1652 (t : ByteArray) (w : World) (h : t ≠ emp) : Calls Try.prog 43 #[.agg #[.int .i64 4, .int .i64 0, .string t]] w (TurnsR ⟨4, 0, t⟩ w) := by
  have HF : Hid (TurnsR ⟨4, 0, t⟩ w (.returned (.bool false)) (w.alloc (.cells #[.int .i64 4, .int .i64 0, .string t] TR))) := Lib.hid ⟨_, rfl, by simp [turns, h], rfl⟩
  obtain ⟨hb1, hb2⟩ := ne_emp h
  have hb3 : t.toList.isEmpty = false := by simpa using hb2
  clear h
  go_enter Try.func43, Try.ntmps43
  go_wp2
  go_ret
  exact HF.out
theorem turns_2211 (n : Int) (w : World) (h1 : 1 ≤ n) (h2 : n ≤ 7) : Calls Try.prog 43 #[.agg #[.int .i64 5, .int .i64 n, .string ⟨#[]⟩]] w (TurnsR ⟨5, n, ⟨#[]⟩⟩ w) := by
  have HF : Hid (TurnsR ⟨5, n, ⟨#[]⟩⟩ w (.returned (.bool true)) (w.alloc (.cells #[.int .i64 5, .int .i64 n, .string ⟨#[]⟩] TR))) := Lib.hid ⟨_, rfl, by simp [turns, h1, h2, emp], rfl⟩
  go_enter Try.func43, Try.ntmps43
  go_wp2
  go_ret
  exact HF.out
theorem turns_2699 (n : Int) (t : ByteArray) (w : World) (h1 : 1 ≤ n) (h2 : n ≤ 7) (h : t ≠ emp) : Calls Try.prog 43 #[.agg #[.int .i64 5, .int .i64 n, .string t]] w (TurnsR ⟨5, n, t⟩ w) := by
  have HF : Hid (TurnsR ⟨5, n, t⟩ w (.returned (.bool false)) (w.alloc (.cells #[.int .i64 5, .int .i64 n, .string t] TR))) := Lib.hid ⟨_, rfl, by simp [turns, h1, h2, h], rfl⟩
  obtain ⟨hb1, hb2⟩ := ne_emp h
  have hb3 : t.toList.isEmpty = false := by simpa using hb2
  clear h
  go_enter Try.func43, Try.ntmps43
  go_wp2
  go_ret
  exact HF.out
theorem turns_3302 (n : Int) (t : ByteArray) (w : World) (h1 : n < 1) : Calls Try.prog 43 #[.agg #[.int .i64 5, .int .i64 n, .string t]] w (TurnsR ⟨5, n, t⟩ w) := by
  have HF : Hid (TurnsR ⟨5, n, t⟩ w (.returned (.bool false)) (w.alloc (.cells #[.int .i64 5, .int .i64 n, .string t] TR))) := Lib.hid ⟨_, rfl, by (simp [turns]; omega), rfl⟩
  go_enter Try.func43, Try.ntmps43
  go_wp2
  go_ret
  exact HF.out
theorem turns_3774 (n : Int) (t : ByteArray) (w : World) (h1 : 7 < n) : Calls Try.prog 43 #[.agg #[.int .i64 5, .int .i64 n, .string t]] w (TurnsR ⟨5, n, t⟩ w) := by
  have HF : Hid (TurnsR ⟨5, n, t⟩ w (.returned (.bool false)) (w.alloc (.cells #[.int .i64 5, .int .i64 n, .string t] TR))) := Lib.hid ⟨_, rfl, by (simp [turns]; omega), rfl⟩
  have h0 : 1 ≤ n := by omega
  go_enter Try.func43, Try.ntmps43
  go_wp2
  go_ret
  exact HF.out
theorem turns_4276 (k n : Int) (t : ByteArray) (w : World) (h4 : k ≠ 4) (h5 : k ≠ 5) : Calls Try.prog 43 #[.agg #[.int .i64 k, .int .i64 n, .string t]] w (TurnsR ⟨k, n, t⟩ w) := by
  have HF : Hid (TurnsR ⟨k, n, t⟩ w (.returned (.bool false)) (w.alloc (.cells #[.int .i64 k, .int .i64 n, .string t] TR))) := Lib.hid ⟨_, rfl, by simp [turns, h4, h5], rfl⟩
  go_enter Try.func43, Try.ntmps43
  go_wp2
  go_ret
  exact HF.out
theorem turns_any (r : Rep) (w : World) : Calls Try.prog 43 #[.agg #[.int .i64 r.kind, .int .i64 r.node, .string r.text]] w (TurnsR r w) := by
  obtain ⟨k, n, t⟩ := r
  by_cases h4 : k = 4
  · subst h4
    by_cases hn : n = 0
    · subst hn
      by_cases ht : t = emp
      · subst ht; exact turns_678 w
      · exact turns_1652 t w ht
    · exact turns_1121 n t w hn
  · by_cases h5 : k = 5
    · subst h5
      rcases Int.lt_or_le n 1 with h1 | h1
      · exact turns_3302 n t w h1
      · rcases Int.lt_or_le 7 n with h7 | h7
        · exact turns_3774 n t w h7
        · by_cases ht : t = emp
          · subst ht; exact turns_2211 n w h1 h7
          · exact turns_2699 n t w h1 h7 ht
    · exact turns_4276 k n t w h4 h5
set_option maxHeartbeats 2000000 in
theorem turn_any (r : Rep) (w : World) (h : SesV w S p vr vq vo s) (hl : s.out.length ≤ 1000000) : Calls Try.prog 15 #[.pointer (some ⟨p, 0, none⟩), .agg #[.int .i64 r.kind, .int .i64 r.node, .string r.text]] w (MuR (.int .i64 (turnE s r)) p (turnS s r) S w) := by
  have HML : Hid (s.out.length ≤ 1000000) := Lib.hid hl
  have HPB : Hid (w.heap.size ≠ p) := Lib.hid (by have := h.plt; omega)
  obtain ⟨W1, hW1⟩ : ∃ q, w.alloc (.cells #[.int .i64 r.kind, .int .i64 r.node, .string r.text] TR) = q := ⟨_, rfl⟩
  have hb1 : Below w.heap.size w W1 := by rw [← hW1]; exact (Below.refl _ _).alloc (Nat.le_refl _) _
  have hx1 : W1.heap[w.heap.size]? = some (.cells #[.int .i64 r.kind, .int .i64 r.node, .string r.text] TR (0, 0)) := by rw [← hW1]; exact heap_alloc_new _ _
  obtain ⟨x0, x1, x2⟩ : W1.cell? ⟨w.heap.size, 0, none⟩ = some (.int .i64 r.kind) ∧ W1.cell? ⟨w.heap.size, 1, none⟩ = some (.int .i64 r.node) ∧ W1.cell? ⟨w.heap.size, 2, none⟩ = some (.string r.text) := ⟨(cell_of_row _ _ _ _ _ _ hx1).trans rfl, (cell_of_row _ _ _ _ _ _ hx1).trans rfl, (cell_of_row _ _ _ _ _ _ hx1).trans rfl⟩
  obtain ⟨W2, hW2⟩ : ∃ q, W1.alloc (.cells #[.int .i64 r.kind, .int .i64 r.node, .string r.text] TR) = q := ⟨_, rfl⟩
  have hb2 : Below W1.heap.size W1 W2 := by rw [← hW2]; exact (Below.refl _ _).alloc (Nat.le_refl _) _
  have HB2 : Hid (Below w.heap.size w W2) := Lib.hid (hb1.trans (hb2.mono hb1.size))
  have HV2 := Lib.hid ((h.below hb1).below hb2)
  have HX1 := Lib.hid hx1
  have hx2 : W2.heap[w.heap.size]? = some (.cells #[.int .i64 r.kind, .int .i64 r.node, .string r.text] TR (0, 0)) := (hb2.block _ (row_lt hx1)).trans hx1
  by_cases ht : turns r
  · have HT := Lib.hid ht
    unfold turnE turnS
    rw [if_pos ht, if_pos ht]
    obtain ⟨W3, hW3⟩ : ∃ q, W2.alloc (.cells #[.int .i64 2] 67) = q := ⟨_, rfl⟩
    have hb3 : Below W2.heap.size W2 W3 := by rw [← hW3]; exact (Below.refl _ _).alloc (Nat.le_refl _) _
    have HB3 : Hid (Below w.heap.size w W3) := Lib.hid (HB2.out.trans (hb3.mono HB2.out.size))
    have hv3 := HV2.out.below hb3
    have HV3 := Lib.hid hv3
    obtain ⟨c03, c13, c23, -, -, c53, z3⟩ := hv3.cells
    have HLS3 : Hid (Sl .i64 W3 (.slice (some ⟨W2.heap.size, 0, none⟩) 1 1) [2]) := Lib.hid (by rw [← hW3]; exact Sl.new W2 _ [2] rfl rfl (Nat.le_refl _) (by decide) (by decide))
    clear hb3 hv3
    have hx3 : W3.heap[w.heap.size]? = some (.cells #[.int .i64 r.kind, .int .i64 r.node, .string r.text] TR (0, 0)) := by rw [← hW3, heap_alloc_old _ _ (row_lt hx2)]; exact hx2
    have HX3 := Lib.hid hx3
    by_cases h2 : s.st = 2
    · rw [if_pos h2, if_pos h2]
      have HD3 : Hid (decide (s.st ∈ [2]) = true) := Lib.hid (by simp [h2])
      have H0 : Hid (s.st ≠ 0) := Lib.hid (by rw [h2]; decide)
      have HV3d : Hid (SesV W3.drew S p vr vq vo s) := Lib.hid (HV3.out.keep (fun _ _ => rfl) (Nat.le_refl _))
      obtain ⟨W4, hW4⟩ : ∃ q, W3.drew.alloc (.cells #[.int .i64 r.kind, .int .i64 r.node, .string r.text] TR) = q := ⟨_, rfl⟩
      have hb4 : Below W3.drew.heap.size W3.drew W4 := by rw [← hW4]; exact (Below.refl _ _).alloc (Nat.le_refl _) _
      have HB4 : Hid (Below w.heap.size w W4) := Lib.hid ((HB3.out.drew).trans (hb4.mono HB3.out.size))
      have HV4 := Lib.hid (HV3d.out.below hb4)
      have HX4 : Hid (W4.heap[w.heap.size]? = some (.cells #[.int .i64 r.kind, .int .i64 r.node, .string r.text] TR (0, 0))) := Lib.hid ((hb4.block _ (row_lt hx3)).trans hx3)
      have HLIT : Hid (SlR 3 repC W4 (.slice (some ⟨W3.heap.size, 0, none⟩) 1 1) [r]) := Lib.hid (by rw [← hW4]; exact SlR.one repC_len W3.drew _ rfl _ r rfl)
      have HNO : Hid (∀ k, vo.ownBlock = some k → k ≠ w.heap.size) := Lib.hid (fun k hk => by have := h.low k (h.os k hk); omega)
      have C3 : Hid (W3.drew.cell? ⟨p, 5, none⟩ = some vo) := Lib.hid HV3d.out.cells.2.2.2.2.2.1
      have C4 : Hid (W4.cell? ⟨p, 5, none⟩ = some vo) := Lib.hid HV4.out.cells.2.2.2.2.2.1
      clear h h2 ht hl hb1 hb2 hb4 hx1 hx2 hx3
      go_enter Try.func15, Try.ntmps15
      go_wp2_with (first | rw [hW1] | rw [hW2] | rw [hW3] | ((with_reducible refine (turns_any r _).mono ?_); rintro e w' ⟨b, rfl, hb, rfl⟩; obtain rfl := hb.2 HT.out; clear hb) | ((with_reducible refine (is_any _ [2] _ HV3.out HLS3.out).mono ?_); rintro e w' ⟨rfl, rfl⟩; rw [HD3.out]))
      clear x0 x1 x2 c03 c13 c23 c53 z3
      refine Wl.start 10 (fun u => u.cell? ⟨p, 5, none⟩ = some vo) (fun u => u.heap[w.heap.size]? = some (.cells #[.int .i64 r.kind, .int .i64 r.node, .string r.text] TR (0, 0))) (by kernel_rfl) C3.out HX3.out (fun hk => ?_)
      refine Wl.take (i := 0) (v := .pointer (some ⟨p, 0, none⟩)) [8, 9, 10] rfl (by kernel_rfl) (by kernel_rfl) (by kernel_rfl) (by kernel_rfl) (by kernel_rfl) (fun _ _ _ h => h) (.inl ⟨by kernel_rfl, ?_⟩) hk ?_
      · intro wx hSw
        clear hSw hk
        go_simp
        try first | with_reducible rfl | kernel_rfl
      simp only [Act.put, List.getElem_toArray, List.getElem_cons_succ, List.getElem_cons_zero, List.setIfInBounds_toArray, List.set_cons_succ, List.set_cons_zero]
      refine Wl.take (i := 1) (v := .pointer (some ⟨p, 0, none⟩)) [2, 3, 4, 7, 8, 9, 10] rfl (by kernel_rfl) (by kernel_rfl) (by kernel_rfl) (by kernel_rfl) (by kernel_rfl) (fun _ _ _ h => h) (.inl ⟨by kernel_rfl, ?_⟩) hk ?_
      · intro wx hSw
        clear hSw hk
        go_simp
        try first | with_reducible rfl | kernel_rfl
      simp only [Act.put, List.getElem_toArray, List.getElem_cons_succ, List.getElem_cons_zero, List.setIfInBounds_toArray, List.set_cons_succ, List.set_cons_zero]
      refine Wl.take (i := 2) (v := .pointer (some ⟨p, 0, none⟩)) [3, 4, 7, 8, 9, 10] rfl (by kernel_rfl) (by kernel_rfl) (by kernel_rfl) (by kernel_rfl) (by kernel_rfl) (fun _ _ _ h => h) (.inl ⟨by kernel_rfl, ?_⟩) hk ?_
      · intro wx hSw
        clear hSw hk
        go_simp
        try first | with_reducible rfl | kernel_rfl
      simp only [Act.put, List.getElem_toArray, List.getElem_cons_succ, List.getElem_cons_zero, List.setIfInBounds_toArray, List.set_cons_succ, List.set_cons_zero]
      refine Wl.take (i := 3) (v := .pointer (some ⟨p, 5, none⟩)) [4, 7, 8, 9, 10] rfl (by kernel_rfl) (by kernel_rfl) (by kernel_rfl) (by kernel_rfl) (by kernel_rfl) (fun _ _ _ h => h) (.inl ⟨by kernel_rfl, ?_⟩) hk ?_
      · intro wx hSw
        clear hSw hk
        go_simp
        try first | with_reducible rfl | kernel_rfl
      simp only [Act.put, List.getElem_toArray, List.getElem_cons_succ, List.getElem_cons_zero, List.setIfInBounds_toArray, List.set_cons_succ, List.set_cons_zero]
      refine Wl.take (i := 4) (v := vo) [7, 8, 9, 10] rfl (by kernel_rfl) (by kernel_rfl) (by kernel_rfl) (by kernel_rfl) (by kernel_rfl) (fun _ _ _ h => h) (.inl ⟨by kernel_rfl, ?_⟩) hk ?_
      · intro wx hSw
        have cc := hSw.1
        clear hSw hk
        go_simp
        try first | with_reducible rfl | kernel_rfl
      simp only [Act.put, List.getElem_toArray, List.getElem_cons_succ, List.getElem_cons_zero, List.setIfInBounds_toArray, List.set_cons_succ, List.set_cons_zero]
      refine Wl.take (i := 5) (v := .agg #[.int .i64 r.kind, .int .i64 r.node, .string r.text]) [6, 7, 8, 9, 10] rfl (by kernel_rfl) (by kernel_rfl) (by kernel_rfl) (by kernel_rfl) (by kernel_rfl) (fun _ _ _ h => h) (yieldsIf_load_mid (by rfl) _ _ rfl _ _ rfl (repC r) _ (fun w h => (fun j v hv => Wl.rng_of_row h.2 j v hv)) Try.underlying34 rfl (by kernel_rfl)) hk ?_
      simp only [Act.put, List.getElem_toArray, List.getElem_cons_succ, List.getElem_cons_zero, List.setIfInBounds_toArray, List.set_cons_succ, List.set_cons_zero]
      refine Wl.one (i := 6) (by kernel_rfl) rfl (fun K hK => ?_)
      go_simp
      try rw [hW4]
      refine hK.out _ _ (Wl.Kn.on C4.out HX4.out) (fun hk => ?_)
      clear hK K
      refine Wl.one (i := 7) (by kernel_rfl) rfl (fun K hK => ?_)
      refine stepRq repC_len Try.underlying30 rfl (by decide) info_rep rfl (.tmp 16) (.tmp 18) rfl 0 vo s.out rfl HV4.out.o (.slice (some ⟨W3.heap.size, 0, none⟩) 1 1) [r] rfl HLIT.out (fun y hy => repC_one y) (by have := HML.out; unfold maxLen; simp; omega) (by have := HML.out; simp; omega) (Nat.zero_le _) ?_
      intro v5 w5 hown5 hgr5 hor5
      obtain ⟨a5, m5, d5, rfl⟩ := slice_any hown5
      obtain ⟨hn5, ho5⟩ := HV4.out.told hown5 hgr5 (hor5.imp id fun e q hq => by rw [hq] at e; cases e; exact Nat.le_refl _)
      have HN5 := Lib.hid hn5
      have HO5 := Lib.hid ho5
      have hrow5 := (hgr5.block p HV4.out.plt (fun e => HV4.out.one p e.symm rfl)).trans HV4.out.row
      have cc5 : w5.cell? ⟨p, 5, none⟩ = some vo := (cell_of_row w5 _ 5 _ _ _ hrow5).trans rfl
      have zz5 : ∀ i, w5.frozen? ⟨p, i, none⟩ = false := fun i => frozen_of_row _ _ _ _ _ hrow5
      have hx5 : w5.heap[w.heap.size]? = some (.cells #[.int .i64 r.kind, .int .i64 r.node, .string r.text] TR (0, 0)) := (hgr5.block _ (row_lt HX4.out) (fun e => HNO.out _ e.symm rfl)).trans HX4.out
      have HX6 : Hid ((w5.setCell ⟨p, 5, none⟩ (.slice a5 m5 d5)).heap[w.heap.size]? = some (.cells #[.int .i64 r.kind, .int .i64 r.node, .string r.text] TR (0, 0))) := Lib.hid ((heap_setCell_other w5 ⟨p, 5, none⟩ _ _ HPB.out).trans hx5)
      obtain ⟨n0, n1, n2, -, -, -, nz⟩ := hn5.cells
      clear hown5 hgr5 hn5 ho5 hrow5 hor5
      refine hK.out _ _ (Wl.Kn.on cc5 hx5) (fun hk => ?_)
      clear hK K
      refine Wl.take (i := 8) (v := .pointer (some ⟨p, 0, none⟩)) [9, 10] rfl (by kernel_rfl) (by kernel_rfl) (by kernel_rfl) (by kernel_rfl) (by kernel_rfl) (fun _ _ _ h => h) (.inl ⟨by kernel_rfl, ?_⟩) hk ?_
      · intro wx hSw
        clear hSw hk
        go_simp
        try first | with_reducible rfl | kernel_rfl
      simp only [Act.put, List.getElem_toArray, List.getElem_cons_succ, List.getElem_cons_zero, List.setIfInBounds_toArray, List.set_cons_succ, List.set_cons_zero]
      refine Wl.take (i := 9) (v := .pointer (some ⟨p, 5, none⟩)) [10] rfl (by kernel_rfl) (by kernel_rfl) (by kernel_rfl) (by kernel_rfl) (by kernel_rfl) (fun _ _ _ h => h) (.inl ⟨by kernel_rfl, ?_⟩) hk ?_
      · intro wx hSw
        clear hSw hk
        go_simp
        try first | with_reducible rfl | kernel_rfl
      simp only [Act.put, List.getElem_toArray, List.getElem_cons_succ, List.getElem_cons_zero, List.setIfInBounds_toArray, List.set_cons_succ, List.set_cons_zero]
      refine Wl.one (i := 10) (by kernel_rfl) rfl (fun K hK => ?_)
      go_simp
      refine hK.out _ _ (Wl.Kn.off (by kernel_rfl) HX6.out) (fun hk => ?_)
      clear hK K
      refine Wl.done (by kernel_rfl) ?_ _
      clear hk
      go_wp2
      go_ret
      have hz : (w5.setCell ⟨p, 5, none⟩ (.slice a5 m5 d5)).heap.size = w5.heap.size := by simp
      obtain ⟨q1, q2⟩ := told_ahead (S' := Grow S W4 w5) HB4.out (w' := w5.setCell ⟨p, 5, none⟩ (.slice a5 m5 d5)) (S := S) (fun k hk => by
        rcases hk with hk | hk
        · exact .inl hk
        · exact .inr ⟨hk.1, by rw [hz]; exact hk.2⟩) HO5.out
      exact mur_mk q1 q2 ((HN5.out.set0 1 H0.out (by decide)).set2 emp (show (1 : Int) ≠ 0 by decide)) (two_cells (Or.inl HV4.out.sp) 0 2 _ _)
    · rw [if_neg h2, if_neg h2]
      have HD3 : Hid (decide (s.st ∈ [2]) = false) := Lib.hid (by simp [h2])
      clear h h2 ht hl hb1 hb2 hx1 hx2 hx3
      go_enter Try.func15, Try.ntmps15
      go_wp2_with (first | rw [hW1] | rw [hW2] | rw [hW3] | ((with_reducible refine (turns_any r _).mono ?_); rintro e w' ⟨b, rfl, hb, rfl⟩; obtain rfl := hb.2 HT.out; clear hb) | ((with_reducible refine (is_any _ [2] _ HV3.out HLS3.out).mono ?_); rintro e w' ⟨rfl, rfl⟩; rw [HD3.out]))
      go_ret
      exact mur_base HB3.out HV3.out (Only.refl _ _)
  · have HT := Lib.hid ht
    unfold turnE turnS
    rw [if_neg ht, if_neg ht]
    clear h ht hl hb1 hb2 hx1 hx2
    go_enter Try.func15, Try.ntmps15
    go_wp2_with (first | rw [hW1] | rw [hW2] | ((with_reducible refine (turns_any r _).mono ?_); rintro e w' ⟨b, rfl, hb, rfl⟩; obtain rfl : b = false := by cases b; rfl; exact absurd (hb.1 rfl) HT.out))
    go_ret
    exact mur_base HB2.out HV2.out (Only.refl _ _)
end
end Mu
end Go.Proofs.Ytdakkjpejhlciaa
