/- The document's wallet: At. No condition. -/
import Derived.Test.YtgbblegcjladaaaLtM
import Derived.Test.YtgbblegcjladaaaLsD
namespace Go.Proofs.Ytgbblegcjladaaa
open Go.ChangeShapes Go.WideShapes Go.ChangeAt Go.RowKit Go.Deep Go.Maps Go.ChangeMaps Go.MapKept
set_option linter.unusedVariables false
set_option maxRecDepth 100000
set_option linter.unusedSimpArgs false
namespace Lt
open Mp Mc
variable {w w' w5 : World} {S : Nat → Prop} {q : Nat} {n sent : Int} {s : Wa} {vl v : Value} {L' : List Tr}
/-- a new list is stored: its blocks by name -/
theorem RwG.sets (h : RwG q n s sent vl w S) (hb : Below w.heap.size w w5) (hv : OwnR 3 trC TXT w5 w.heap.size v L') (hs : Srt L') (hw : ∀ x ∈ L', x.wf) : RwG q n { s with L := L' } sent v (w5.setCell ⟨q, 12, none⟩ v) (fun k => k = q ∨ v.ownBlock = some k) ∧ Only S w (w5.setCell ⟨q, 12, none⟩ v) ∧ (w5.setCell ⟨q, 12, none⟩ v).heap.size = w5.heap.size := by
  have hq := row_lt h.row
  have hr5 := (hb.block q hq).trans h.row
  have hne : ∀ k, v.ownBlock = some k → k ≠ q ∧ w.heap.size ≤ k ∧ k < w5.heap.size := fun k hk => by have := World.ownsRow.lt hv k hk; omega
  have hz : (w5.setCell ⟨q, 12, none⟩ v).heap.size = w5.heap.size := by simp
  have hl : OwnR 3 trC TXT (w5.setCell ⟨q, 12, none⟩ v) w.heap.size v L' := own_keep hv (fun k hk _ => heap_setCell_other w5 ⟨q, 12, none⟩ k _ (hne k hk).1)
  refine ⟨⟨(heap_setCell_same w5 q 12 _ TX v hr5).trans rfl, .inl rfl, h.at_, hs, hw, ownsRow_base_a hl (Nat.zero_le _), fun k hk => .inr hk, fun k hk => ?_⟩, (Below.only hb S).trans (Only.setCell w5 ⟨q, 12, none⟩ _ h.sq), hz⟩
  rw [hz]
  rcases hk with rfl | hk
  · have := hb.size; omega
  · exact (hne k hk).2.2
/-- what At leaves: the answer is nobody's -/
def RatW (q : Nat) (n : Int) (s : Wa) (nw : Int) (S : Nat → Prop) (w : World) (e : Ending) (w' : World) : Prop :=
  ∃ v, e = .returned v ∧ OwnR 3 trC TXT w' w.heap.size v (endV nw s.L) ∧ (∃ S', RwX q n { s with now := nw, L := stayV nw s.L } w' S' ∧ (∀ k, S' k → Grow S w w' k) ∧ ∀ k, v.ownBlock = some k → ¬ S' k) ∧ Only S w w'
set_option maxRecDepth 100000 in
set_option maxHeartbeats 16000000 in
theorem rat_any (t : Int) (w : World) (h : RwX q n s w S) (hn : s.L.length ≤ 1000) :
    Calls Try.prog 27 #[.pointer (some ⟨q, 0, none⟩), .int .i64 t] w (RatW q n s (max s.now (Ls.timeV t)) S w) := by
  obtain ⟨sent, vl, h⟩ := h
  obtain ⟨al, cl, rfl⟩ := own_slice h.l
  obtain ⟨nw, hnw⟩ : ∃ z, max s.now (Ls.timeV t) = z := ⟨_, rfl⟩
  rw [hnw]
  have HNW := Lib.hid hnw
  have H := Lib.hid h
  have HC0 : Hid (w.drew.cell? ⟨q, 1, none⟩ = some (.int .i64 s.now)) := Lib.hid ((cell_of_row w _ 1 _ _ _ h.row).trans rfl)
  have e1 : w.drew.cell? ⟨q, 1, none⟩ = some (.int .i64 s.now) := HC0.out
  have f1 : w.drew.frozen? ⟨q, 1, none⟩ = false := frozen_of_row w _ _ _ _ h.row
  obtain ⟨W3, hW3⟩ : ∃ z, w.drew.setCell ⟨q, 1, none⟩ (.int .i64 nw) = z := ⟨_, rfl⟩
  have hr3 : W3.heap[q]? = some (.cells (rwA n nw sent (s.c.kind != 0) s.c (.slice al s.L.length cl)) TX (0, 0)) := by rw [← hW3]; exact (heap_setCell_same w.drew q 1 _ TX _ h.row).trans rfl
  have ho3 : Only (fun k => k = q) w W3 := by rw [← hW3]; exact Only.setCell w.drew ⟨q, 1, none⟩ _ rfl
  have hlq : ∀ k, (Value.slice al s.L.length cl).ownBlock = some k → k ≠ q := own_ty h.l h.row (by decide)
  have H3 : Hid (RwG q n { s with now := nw } sent (.slice al s.L.length cl) W3 S ∧ Only S w W3 ∧ W3.heap.size = w.heap.size) := Lib.hid ⟨⟨hr3, h.sq, h.at_, h.srt, h.wf, own_keep h.l (fun k hk hl => only_at ho3 hl (hlq k hk)), h.hs, fun k hk => Nat.lt_of_lt_of_le (h.low k hk) ho3.2.2.2.1⟩, ho3.mono (fun k hk => hk ▸ h.sq), by rw [← hW3]; simp⟩
  have HN := Lib.hid hn
  have c12 : W3.cell? ⟨q, 12, none⟩ = some (.slice al s.L.length cl) := (cell_of_row _ _ 12 _ _ _ hr3).trans rfl
  have HS5 : Hid (∀ wr, Below W3.heap.size W3 wr → SlR 3 trC wr (.slice al s.L.length cl) s.L ∧ wr.cell? ⟨q, 1, none⟩ = some (.int .i64 nw)) := Lib.hid (fun wr hb => ⟨(H3.out.1.l.below hb (Nat.le_refl _)).sl trC_len, (cell_of_row _ _ 1 _ _ _ ((hb.block q (row_lt H3.out.1.row)).trans H3.out.1.row)).trans rfl⟩)
  obtain ⟨m, hm⟩ : ∃ z, s.L.length = z := ⟨_, rfl⟩
  have HM := Lib.hid hm
  have hlm : (m : Int) ≤ 1000 := by omega
  clear hnw hr3 ho3 h hlq
  rw [hm] at HS5 c12 H3
  clear hm hn
  go_enter Try.func27, Try.ntmps27
  go_upto_region 1 with fail
  refine Wl.start 10 (fun u => u.cell? ⟨q, 1, none⟩ = some (.int .i64 s.now)) (fun _ => True) (by kernel_rfl) HC0.out trivial (fun hk => ?_)
  refine Wl.take (i := 0) (v := .pointer (some ⟨q, 0, none⟩)) [8, 9, 10] rfl (by kernel_rfl) (by kernel_rfl) (by kernel_rfl) (by kernel_rfl) (by kernel_rfl) (fun _ _ _ h => h) (.inl ⟨by kernel_rfl, ?_⟩) hk ?_
  · intro wx hSw
    clear hSw hk
    go_simp
    try first | with_reducible rfl | kernel_rfl
  simp only [Act.put, List.getElem_toArray, List.getElem_cons_succ, List.getElem_cons_zero, List.setIfInBounds_toArray, List.set_cons_succ, List.set_cons_zero]
  refine Wl.take (i := 1) (v := .pointer (some ⟨q, 0, none⟩)) [2, 3, 4, 7, 8, 9, 10] rfl (by kernel_rfl) (by kernel_rfl) (by kernel_rfl) (by kernel_rfl) (by kernel_rfl) (fun _ _ _ h => h) (.inl ⟨by kernel_rfl, ?_⟩) hk ?_
  · intro wx hSw
    clear hSw hk
    go_simp
    try first | with_reducible rfl | kernel_rfl
  simp only [Act.put, List.getElem_toArray, List.getElem_cons_succ, List.getElem_cons_zero, List.setIfInBounds_toArray, List.set_cons_succ, List.set_cons_zero]
  refine Wl.take (i := 2) (v := .pointer (some ⟨q, 0, none⟩)) [3, 4, 7, 8, 9, 10] rfl (by kernel_rfl) (by kernel_rfl) (by kernel_rfl) (by kernel_rfl) (by kernel_rfl) (fun _ _ _ h => h) (.inl ⟨by kernel_rfl, ?_⟩) hk ?_
  · intro wx hSw
    clear hSw hk
    go_simp
    try first | with_reducible rfl | kernel_rfl
  simp only [Act.put, List.getElem_toArray, List.getElem_cons_succ, List.getElem_cons_zero, List.setIfInBounds_toArray, List.set_cons_succ, List.set_cons_zero]
  refine Wl.take (i := 3) (v := .pointer (some ⟨q, 1, none⟩)) [4, 7, 8, 9, 10] rfl (by kernel_rfl) (by kernel_rfl) (by kernel_rfl) (by kernel_rfl) (by kernel_rfl) (fun _ _ _ h => h) (.inl ⟨by kernel_rfl, ?_⟩) hk ?_
  · intro wx hSw
    clear hSw hk
    go_simp
    try first | with_reducible rfl | kernel_rfl
  simp only [Act.put, List.getElem_toArray, List.getElem_cons_succ, List.getElem_cons_zero, List.setIfInBounds_toArray, List.set_cons_succ, List.set_cons_zero]
  refine Wl.take (i := 4) (v := .int .i64 s.now) [7, 8, 9, 10] rfl (by kernel_rfl) (by kernel_rfl) (by kernel_rfl) (by kernel_rfl) (by kernel_rfl) (fun _ _ _ h => h) (.inl ⟨by kernel_rfl, ?_⟩) hk ?_
  · intro wx hSw
    have cc := hSw.1
    clear hSw hk
    go_simp
    try first | with_reducible rfl | kernel_rfl
  simp only [Act.put, List.getElem_toArray, List.getElem_cons_succ, List.getElem_cons_zero, List.setIfInBounds_toArray, List.set_cons_succ, List.set_cons_zero]
  refine Wl.take (i := 5) (v := .int .i64 t) [6, 7, 8, 9, 10] rfl (by kernel_rfl) (by kernel_rfl) (by kernel_rfl) (by kernel_rfl) (by kernel_rfl) (fun _ _ _ h => h) (.inl ⟨by kernel_rfl, ?_⟩) hk ?_
  · intro wx hSw
    clear hSw hk
    go_simp
    try first | with_reducible rfl | kernel_rfl
  simp only [Act.put, List.getElem_toArray, List.getElem_cons_succ, List.getElem_cons_zero, List.setIfInBounds_toArray, List.set_cons_succ, List.set_cons_zero]
  refine Wl.one (i := 6) (by kernel_rfl) rfl (fun K hK => ?_)
  go_simp
  refine (Ls.time_any t _).mono ?_
  rintro e wx ⟨rfl, rfl⟩
  refine hK.out _ _ (Wl.Kn.on HC0.out trivial) (fun hk => ?_)
  clear hK K
  refine Wl.take (i := 7) (v := .int .i64 nw) [8, 9, 10] rfl (by kernel_rfl) (by kernel_rfl) (by kernel_rfl) (by kernel_rfl) (by kernel_rfl) (fun _ _ _ h => h) (.inl ⟨by kernel_rfl, ?_⟩) hk ?_
  · intro wx hSw
    have cc := HNW.out
    clear hSw hk
    go_simp
    try first | with_reducible rfl | kernel_rfl
  simp only [Act.put, List.getElem_toArray, List.getElem_cons_succ, List.getElem_cons_zero, List.setIfInBounds_toArray, List.set_cons_succ, List.set_cons_zero]
  refine Wl.take (i := 8) (v := .pointer (some ⟨q, 0, none⟩)) [9, 10] rfl (by kernel_rfl) (by kernel_rfl) (by kernel_rfl) (by kernel_rfl) (by kernel_rfl) (fun _ _ _ h => h) (.inl ⟨by kernel_rfl, ?_⟩) hk ?_
  · intro wx hSw
    clear hSw hk
    go_simp
    try first | with_reducible rfl | kernel_rfl
  simp only [Act.put, List.getElem_toArray, List.getElem_cons_succ, List.getElem_cons_zero, List.setIfInBounds_toArray, List.set_cons_succ, List.set_cons_zero]
  refine Wl.take (i := 9) (v := .pointer (some ⟨q, 1, none⟩)) [10] rfl (by kernel_rfl) (by kernel_rfl) (by kernel_rfl) (by kernel_rfl) (by kernel_rfl) (fun _ _ _ h => h) (.inl ⟨by kernel_rfl, ?_⟩) hk ?_
  · intro wx hSw
    clear hSw hk
    go_simp
    try first | with_reducible rfl | kernel_rfl
  simp only [Act.put, List.getElem_toArray, List.getElem_cons_succ, List.getElem_cons_zero, List.setIfInBounds_toArray, List.set_cons_succ, List.set_cons_zero]
  refine Wl.one (i := 10) (by kernel_rfl) rfl (fun K hK => ?_)
  go_simp
  try rw [hW3]
  refine hK.out _ _ (Wl.Kn.off (by kernel_rfl) trivial) (fun hk => ?_)
  clear hK K
  refine Wl.done (by kernel_rfl) ?_ _
  clear hk
  clear e1 f1 hW3
  go_wp2_with fail
  clear c12
  go_loopw [5, 6, 24] (fun u5 u6 i wr => ∃ (j : Nat) (v5 v6 : Value), v5 = u5 ∧ v6 = u6 ∧ j ≤ m ∧ i = .int .i64 (j : Int) ∧ Hid (OwnR 3 trC TXT wr W3.heap.size v5 (stayV nw (s.L.take j)) ∧ OwnR 3 trC TXT wr W3.heap.size v6 (endV nw (s.L.take j)) ∧ (∀ k, v5.ownBlock = some k → v6.ownBlock ≠ some k) ∧ Below W3.heap.size W3 wr)) (fun _ _ i _ => m - (intOf i).toNat)
  case atStart => exact ⟨0, _, _, rfl, rfl, Nat.zero_le _, rfl, Lib.hid ⟨OwnR.nil _ _ _, OwnR.nil _ _ _, (fun k hk => by cases hk), Below.refl _ _⟩⟩
  case round =>
    obtain ⟨j, v5, v6, rfl, rfl, hj, rfl, HR⟩ := hrel
    by_cases hlt : j < m
    · have hlti : (j : Int) < (m : Int) := by omega
      obtain ⟨x, hx⟩ : ∃ x, s.L[j]? = some x := ⟨_, List.getElem?_eq_getElem (by rw [HM.out]; exact hlt)⟩
      obtain ⟨b0, off, rfl, y0, y1, y2⟩ : ∃ b off, al = some ⟨b, off, none⟩ ∧ wr.cell? ⟨b, off + j * 3, none⟩ = some (.int .i64 x.tok) ∧ wr.cell? ⟨b, off + j * 3 + 1, none⟩ = some (.int .u64 x.ser) ∧ wr.cell? ⟨b, off + j * 3 + 2, none⟩ = some (.int .i64 x.til) := by
        rcases SlR.cases (HS5.out wr HR.out.2.2.2).1 with ⟨a9, c9, e, hnil⟩ | ⟨b, off, c9, e, -, -, -, -, hc⟩
        · rw [hnil] at hx; simp at hx
        · simp only [Value.slice.injEq] at e
          exact ⟨b, off, e.1, tr_cells (hc j _ hx)⟩
      obtain ⟨g2, hg2⟩ : ∃ z, wr.heap.size = z := ⟨_, rfl⟩
      obtain ⟨W6, hW6⟩ : ∃ z, wr.alloc (.cells #[.int .i64 x.tok, .int .u64 x.ser, .int .i64 x.til] TXT) = z := ⟨_, rfl⟩
      have hr6 : W6.heap[g2]? = some (.cells #[.int .i64 x.tok, .int .u64 x.ser, .int .i64 x.til] TXT (0, 0)) := by rw [← hW6, ← hg2]; exact heap_alloc_new _ _
      have H6 : Hid (OwnR 3 trC TXT W6 W3.heap.size v5 (stayV nw (s.L.take j)) ∧ OwnR 3 trC TXT W6 W3.heap.size v6 (endV nw (s.L.take j)) ∧ (∀ k, v5.ownBlock = some k → v6.ownBlock ≠ some k) ∧ Below W3.heap.size W3 W6) := Lib.hid (by rw [← hW6]; exact ⟨HR.out.1.alloc _, HR.out.2.1.alloc _, HR.out.2.2.1, HR.out.2.2.2.alloc HR.out.2.2.2.size _⟩)
      have d0 : W6.cell? ⟨g2, 0, none⟩ = some (.int .i64 x.tok) := (cell_of_row _ _ 0 _ _ _ hr6).trans rfl
      have d1 : W6.cell? ⟨g2, 1, none⟩ = some (.int .u64 x.ser) := (cell_of_row _ _ 1 _ _ _ hr6).trans rfl
      have d2 : W6.cell? ⟨g2, 2, none⟩ = some (.int .i64 x.til) := (cell_of_row _ _ 2 _ _ _ hr6).trans rfl
      have c1 : W6.cell? ⟨q, 1, none⟩ = some (.int .i64 nw) := (HS5.out W6 H6.out.2.2.2).2
      have HJL : Hid ((endV nw (s.L.take j)).length ≤ j ∧ (stayV nw (s.L.take j)).length ≤ j ∧ j < 1000) := Lib.hid ⟨end_len _ _ _, stay_len _ _ _, by omega⟩
      have HES := Lib.hid (end_step (now := nw) hx)
      have HSS := Lib.hid (stay_step (now := nw) hx)
      clear hr6 HR hx
      by_cases he : x.til ≤ nw
      · have HE1 : Hid (endV nw (s.L.take (j + 1)) = endV nw (s.L.take j) ++ [x]) := Lib.hid (by rw [HES.out, if_pos he])
        have HE2 : Hid (stayV nw (s.L.take (j + 1)) = stayV nw (s.L.take j)) := Lib.hid (by rw [HSS.out, if_pos he, List.append_nil])
        clear HES HSS
        go_upto_region 6 with (first | rw [hW6, hg2])
        clear y0 y1 y2 hW6 hg2
        go_region
        obtain ⟨W7, hW7⟩ : ∃ z, W6.drew = z := ⟨_, rfl⟩
        have H7 : Hid (OwnR 3 trC TXT W7 W3.heap.size v5 (stayV nw (s.L.take j)) ∧ OwnR 3 trC TXT W7 W3.heap.size v6 (endV nw (s.L.take j)) ∧ (∀ k, v5.ownBlock = some k → v6.ownBlock ≠ some k) ∧ Below W3.heap.size W3 W7) := Lib.hid (by rw [← hW7]; exact ⟨H6.out.1, H6.out.2.1, H6.out.2.2.1, H6.out.2.2.2.drew⟩)
        have h0 : W7.cell? ⟨g2, 0, none⟩ = some (.int .i64 x.tok) := by rw [← hW7]; exact d0
        have h1 : W7.cell? ⟨g2, 1, none⟩ = some (.int .u64 x.ser) := by rw [← hW7]; exact d1
        have h2 : W7.cell? ⟨g2, 2, none⟩ = some (.int .i64 x.til) := by rw [← hW7]; exact d2
        have HZ7 : Hid (W3.heap.size ≤ W7.heap.size) := Lib.hid (by rw [← hW7]; exact H6.out.2.2.2.size)
        rw [hW7]
        clear d0 d1 d2 c1 hW7 H6
        obtain ⟨W8, hW8⟩ : ∃ z, W7.alloc (.cells #[.int .i64 x.tok, .int .u64 x.ser, .int .i64 x.til] TXT) = z := ⟨_, rfl⟩
        have HLIT : Hid (SlR 3 trC W8 (.slice (some ⟨W7.heap.size, 0, none⟩) 1 1) [x]) := Lib.hid (by rw [← hW8]; exact SlR.one trC_len W7 _ rfl _ x rfl)
        have H8 : Hid (OwnR 3 trC TXT W8 W3.heap.size v5 (stayV nw (s.L.take j)) ∧ OwnR 3 trC TXT W8 W3.heap.size v6 (endV nw (s.L.take j)) ∧ (∀ k, v5.ownBlock = some k → v6.ownBlock ≠ some k) ∧ Below W3.heap.size W3 W8) := Lib.hid (by rw [← hW8]; exact ⟨H7.out.1.alloc _, H7.out.2.1.alloc _, H7.out.2.2.1, H7.out.2.2.2.alloc H7.out.2.2.2.size _⟩)
        clear H7 HZ7
        go_wp2_with (first | rw [hW8] | (at_builtin; refine appRq trC_len Try.underlying64 rfl (by decide) info_trx rfl (.tmp 35) (.tmp 37) rfl W3.heap.size v6 (endV nw (s.L.take j)) rfl H8.out.2.1 (.slice (some ⟨W7.heap.size, 0, none⟩) 1 1) [x] rfl HLIT.out Nat.zero_lt_one (fun y _ => trC_one y) (by have := HJL.out; unfold maxLen; simp only [List.length_singleton]; omega) (by have := HJL.out; simp only [List.length_singleton]; omega) H8.out.2.2.2.size ?_; intro gb cap w9 own9 gr9 ly9; have H9 := Lib.hid (And.intro own9 (And.intro gr9 ly9)); clear own9 gr9 ly9))
        have H10 : Hid (OwnR 3 trC TXT w9 W3.heap.size v5 (stayV nw (s.L.take (j + 1))) ∧ OwnR 3 trC TXT w9 W3.heap.size (Value.slice (some ⟨gb, 0, none⟩) ((endV nw (s.L.take j)).length + 1) cap) (endV nw (s.L.take (j + 1))) ∧ (∀ k, v5.ownBlock = some k → (Value.slice (some ⟨gb, 0, none⟩) ((endV nw (s.L.take j)).length + 1) cap).ownBlock ≠ some k) ∧ Below W3.heap.size W3 w9) := Lib.hid ⟨by rw [HE2.out]; exact own_keep H8.out.1 (fun k hk hl => H9.out.2.1.block k hl (fun e => H8.out.2.2.1 k hk e.symm)), by rw [HE1.out]; exact H9.out.1,
                  fun k hk e => by
                    simp only [Value.ownBlock, Option.some.injEq] at e
                    subst e
                    rcases H9.out.2.2 with c | c
                    · exact H8.out.2.2.1 _ hk c
                    · have := (World.ownsRow.lt H8.out.1 _ hk).2; omega, Below.own H8.out.2.2.2 H8.out.2.2.2.size H8.out.2.1 H9.out.2.1⟩
        clear H8 H9 h0 h1 h2 hW8
        go_roundw
        case rel => exact ⟨j + 1, _, _, rfl, rfl, by omega, by go_num, H10⟩
        case measure => simp [intOf]; omega
      · have HE1 : Hid (endV nw (s.L.take (j + 1)) = endV nw (s.L.take j)) := Lib.hid (by rw [HES.out, if_neg he, List.append_nil])
        have HE2 : Hid (stayV nw (s.L.take (j + 1)) = stayV nw (s.L.take j) ++ [x]) := Lib.hid (by rw [HSS.out, if_neg he])
        clear HES HSS
        go_upto_region 6 with (first | rw [hW6, hg2])
        clear y0 y1 y2 hW6 hg2
        go_region
        obtain ⟨W7, hW7⟩ : ∃ z, W6.drew = z := ⟨_, rfl⟩
        have H7 : Hid (OwnR 3 trC TXT W7 W3.heap.size v5 (stayV nw (s.L.take j)) ∧ OwnR 3 trC TXT W7 W3.heap.size v6 (endV nw (s.L.take j)) ∧ (∀ k, v5.ownBlock = some k → v6.ownBlock ≠ some k) ∧ Below W3.heap.size W3 W7) := Lib.hid (by rw [← hW7]; exact ⟨H6.out.1, H6.out.2.1, H6.out.2.2.1, H6.out.2.2.2.drew⟩)
        have h0 : W7.cell? ⟨g2, 0, none⟩ = some (.int .i64 x.tok) := by rw [← hW7]; exact d0
        have h1 : W7.cell? ⟨g2, 1, none⟩ = some (.int .u64 x.ser) := by rw [← hW7]; exact d1
        have h2 : W7.cell? ⟨g2, 2, none⟩ = some (.int .i64 x.til) := by rw [← hW7]; exact d2
        have HZ7 : Hid (W3.heap.size ≤ W7.heap.size) := Lib.hid (by rw [← hW7]; exact H6.out.2.2.2.size)
        rw [hW7]
        clear d0 d1 d2 c1 hW7 H6
        obtain ⟨W8, hW8⟩ : ∃ z, W7.alloc (.cells #[.int .i64 x.tok, .int .u64 x.ser, .int .i64 x.til] TXT) = z := ⟨_, rfl⟩
        have HLIT : Hid (SlR 3 trC W8 (.slice (some ⟨W7.heap.size, 0, none⟩) 1 1) [x]) := Lib.hid (by rw [← hW8]; exact SlR.one trC_len W7 _ rfl _ x rfl)
        have H8 : Hid (OwnR 3 trC TXT W8 W3.heap.size v5 (stayV nw (s.L.take j)) ∧ OwnR 3 trC TXT W8 W3.heap.size v6 (endV nw (s.L.take j)) ∧ (∀ k, v5.ownBlock = some k → v6.ownBlock ≠ some k) ∧ Below W3.heap.size W3 W8) := Lib.hid (by rw [← hW8]; exact ⟨H7.out.1.alloc _, H7.out.2.1.alloc _, H7.out.2.2.1, H7.out.2.2.2.alloc H7.out.2.2.2.size _⟩)
        clear H7 HZ7
        go_wp2_with (first | rw [hW8] | (at_builtin; refine appRq trC_len Try.underlying64 rfl (by decide) info_trx rfl (.tmp 39) (.tmp 41) rfl W3.heap.size v5 (stayV nw (s.L.take j)) rfl H8.out.1 (.slice (some ⟨W7.heap.size, 0, none⟩) 1 1) [x] rfl HLIT.out Nat.zero_lt_one (fun y _ => trC_one y) (by have := HJL.out; unfold maxLen; simp only [List.length_singleton]; omega) (by have := HJL.out; simp only [List.length_singleton]; omega) H8.out.2.2.2.size ?_; intro gb cap w9 own9 gr9 ly9; have H9 := Lib.hid (And.intro own9 (And.intro gr9 ly9)); clear own9 gr9 ly9))
        have H10 : Hid (OwnR 3 trC TXT w9 W3.heap.size (Value.slice (some ⟨gb, 0, none⟩) ((stayV nw (s.L.take j)).length + 1) cap) (stayV nw (s.L.take (j + 1))) ∧ OwnR 3 trC TXT w9 W3.heap.size v6 (endV nw (s.L.take (j + 1))) ∧ (∀ k, (Value.slice (some ⟨gb, 0, none⟩) ((stayV nw (s.L.take j)).length + 1) cap).ownBlock = some k → v6.ownBlock ≠ some k) ∧ Below W3.heap.size W3 w9) := Lib.hid ⟨by rw [HE2.out]; exact H9.out.1, by rw [HE1.out]; exact own_keep H8.out.2.1 (fun k hk hl => H9.out.2.1.block k hl (fun e => H8.out.2.2.1 k e.symm hk)),
                  fun k hk e => by
                    simp only [Value.ownBlock, Option.some.injEq] at hk
                    subst hk
                    rcases H9.out.2.2 with c | c
                    · exact H8.out.2.2.1 _ c e
                    · have := (World.ownsRow.lt H8.out.2.1 _ e).2; omega, Below.own H8.out.2.2.2 H8.out.2.2.2.size H8.out.1 H9.out.2.1⟩
        clear H8 H9 h0 h1 h2 hW8
        go_roundw
        case rel => exact ⟨j + 1, _, _, rfl, rfl, by omega, by go_num, H10⟩
        case measure => simp [intOf]; omega
    · obtain rfl : j = m := by omega
      have HE := Lib.hid HR.out
      clear HR
      obtain ⟨a5, c5, rfl⟩ := own_slice HE.out.1
      have hr9 := (HE.out.2.2.2.block q (row_lt H3.out.1.row)).trans H3.out.1.row
      have e12 := (cell_of_row wr _ 12 _ _ _ hr9).trans rfl
      have f12 : wr.frozen? ⟨q, 12, none⟩ = false := frozen_of_row wr _ _ _ _ hr9
      have HEL : Hid (s.L.take j = s.L) := Lib.hid (by rw [← HM.out, List.take_length])
      have HF : Hid ((∃ S', RwX q n { s with now := nw, L := stayV nw s.L } (wr.setCell ⟨q, 12, none⟩ (.slice a5 (stayV nw (s.L.take j)).length c5)) S' ∧ (∀ k, S' k → Grow S w (wr.setCell ⟨q, 12, none⟩ (.slice a5 (stayV nw (s.L.take j)).length c5)) k) ∧ ∀ k, v6.ownBlock = some k → ¬ S' k) ∧ Only S w (wr.setCell ⟨q, 12, none⟩ (.slice a5 (stayV nw (s.L.take j)).length c5)) ∧ OwnR 3 trC TXT (wr.setCell ⟨q, 12, none⟩ (.slice a5 (stayV nw (s.L.take j)).length c5)) w.heap.size v6 (endV nw s.L)) := Lib.hid (by
        obtain ⟨i1, i2, i3⟩ := H3.out.1.sets HE.out.2.2.2 (HE.out.1) (by rw [HEL.out]; exact H3.out.1.srt.stay nw) (fun x hx => H3.out.1.wf x (by rw [HEL.out] at hx; exact (List.mem_filter.1 hx).1))
        have hv6 : ∀ k, v6.ownBlock = some k → k ≠ q ∧ W3.heap.size ≤ k := fun k hk => by have := World.ownsRow.lt HE.out.2.1 k hk; have := row_lt H3.out.1.row; omega
        have hz := H3.out.2.2
        refine ⟨⟨_, ⟨_, _, by rw [HEL.out] at i1; rw [HEL.out]; exact i1⟩, fun k hk => ?_, fun k hk hS => ?_⟩, H3.out.2.1.trans i2, ?_⟩
        · rcases hk with rfl | hk
          · exact .inl H.out.sq
          · have := World.ownsRow.lt HE.out.1 k (by rw [HEL.out]; exact hk)
            exact .inr ⟨by omega, by rw [i3]; omega⟩
        · rcases hS with e | e
          · exact (hv6 k hk).1 e
          · exact HE.out.2.2.1 k (by rw [HEL.out]; exact e) hk
        · have := own_keep HE.out.2.1 (w' := wr.setCell ⟨q, 12, none⟩ (.slice a5 (stayV nw (s.L.take j)).length c5)) (fun k hk _ => heap_setCell_other wr ⟨q, 12, none⟩ k _ (hv6 k hk).1)
          rw [HEL.out] at this ⊢
          rw [← hz]
          exact this)
      obtain ⟨W9, hW9⟩ : ∃ z, wr.setCell ⟨q, 12, none⟩ (.slice a5 (stayV nw (s.L.take j)).length c5) = z := ⟨_, rfl⟩
      rw [hW9] at HF
      clear hr9 HE
      go_wp2_with (first | rw [hW9])
      go_ret
      exact ⟨_, rfl, HF.out.2.2, HF.out.1, HF.out.2.1⟩
end Lt
end Go.Proofs.Ytgbblegcjladaaa
