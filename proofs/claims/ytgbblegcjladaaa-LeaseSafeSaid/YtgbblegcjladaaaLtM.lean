/- Package lease's wallet, as landed: At. No condition. -/
import Derived.Test.YtgbblegcjladaaaLu1
import Derived.Test.YtgbblegcjladaaaLsB
import Derived.Test.YtgbblegcjladaaaMcO
namespace Go.Proofs.Ytgbblegcjladaaa
open Go.ChangeShapes Go.WideShapes Go.ChangeAt Go.RowKit Go.Deep Go.Maps Go.ChangeMaps Go.MapKept
set_option linter.unusedVariables false
set_option maxRecDepth 100000
set_option linter.unusedSimpArgs false
/-- append of elements to what the call owns: where the answer lies, told -/
theorem appRq {α : Type} {sz : Nat} {C : α → List Value} {P : Program} (hC : ∀ x, (C x).length = sz) {t e : TypeId} (ht : P.underlying t = some (.slice e)) {z : Value} {bytes : Nat} (hzs : z.cells.size = sz) (hsz : 0 < sz) (hinfo : (P.info? e).map (fun i => (i.zero, i.size, i.bytes)) = some (some z, sz, bytes))
    {w : World} {ops : Array Oper} {rest : List Oper} {o : Oper} {a : Act} {Q : Exit → Act → World → Prop} (hgd : o.guard = none) (s x : Operand)
    (ho : o.op = .call { callee := .builtin .append, args := #[s, x], argTypes := #[t, t] }) (base : Nat)
    (v : Value) (xs : List α) (hs : a.eval s = v) (hown : OwnR sz C e w base v xs) (u : Value) (zs : List α) (hx : a.eval x = u) (hsl : SlR sz C w u zs) (hne : 0 < zs.length) (h1c : ∀ x ∈ zs, ∀ u ∈ C x, u.oneCell' = true)
    (h63 : xs.length + zs.length ≤ maxLen) (hb : (xs.length + zs.length) * bytes ≤ 140737488355328) (hbase : base ≤ w.heap.size)
    (h : ∀ g cap w', OwnR sz C e w' base (.slice (some ⟨g, 0, none⟩) (xs.length + zs.length) cap) (xs ++ zs) → w.grownBy w' v.ownBlock → (v.ownBlock = some g ∨ g = w.heap.size) → wpList P ops Q rest (a.put o.dst (.slice (some ⟨g, 0, none⟩) (xs.length + zs.length) cap)) w') : wpList P ops Q (o :: rest) a w := by
  obtain ⟨i0, hi, hz0, hz1, hz2⟩ := info_parts hinfo
  rcases hsl.src hC with ⟨_, h0, _⟩ | ⟨ad, c, rfl, hc⟩
  · omega
  · refine wpList_append_lies w hgd s x t ho base e i0 z sz bytes ht hi hz0 hz1 hz2 hzs hsz v xs.length _ hs hown ad zs.length c (zs.flatMap C) hx (flat_len hC zs) hc (fun u hu => ?_) hne h63 hb hbase w.heap.size rfl fun g cap w' h2 h3 h4 _ => h g cap w' ?_ h3 h4
    · obtain ⟨y, hy1, hy⟩ := List.mem_flatMap.1 hu
      exact h1c y hy1 u hy
    · unfold OwnR
      rw [List.flatMap_append, List.length_append]
      exact h2
namespace Lt
open Mp Mc
variable {w w' : World} {S : Nat → Prop} {p g : Nat} {n : Int} {s : Wa}
theorem WaG.only {T : Nat → Prop} (h : WaG p n s g w S) (ho : Only T w w') (hT : ∀ k, S k → ¬ T k) : WaG p n s g w' S := h.keep (fun k hk => only_at ho (h.low k hk) (hT k hk)) ho.2.2.2.1
set_option maxRecDepth 100000 in
set_option maxHeartbeats 16000000 in
theorem at_any (t : Int) (w : World) (h : WaX p n s w S) (hn : s.L.length ≤ 1000) :
    Calls Try.prog 26 #[.pointer (some ⟨p, 0, none⟩), .int .i64 t] w fun e w' => ∃ v, e = .returned v ∧ OwnR 3 trC 115 w' w.heap.size v (endV (max s.now (Ls.timeV t)) s.L) ∧ WaX p n { s with now := max s.now (Ls.timeV t), L := stayV (max s.now (Ls.timeV t)) s.L } w' S ∧ Only S w w' := by
  obtain ⟨g, h⟩ := h
  obtain ⟨nw, hnw⟩ : ∃ z, max s.now (Ls.timeV t) = z := ⟨_, rfl⟩
  rw [hnw]
  have HNW := Lib.hid hnw
  have H := Lib.hid h
  have HC0 : Hid (w.drew.cell? ⟨p, 1, none⟩ = some (.int .i64 s.now)) := Lib.hid ((cell_of_row w _ 1 _ _ _ h.row).trans rfl)
  have e1 : w.drew.cell? ⟨p, 1, none⟩ = some (.int .i64 s.now) := HC0.out
  have f1 : w.drew.frozen? ⟨p, 1, none⟩ = false := frozen_of_row w _ _ _ _ h.row
  obtain ⟨W3, hW3⟩ : ∃ z, w.drew.setCell ⟨p, 1, none⟩ (.int .i64 nw) = z := ⟨_, rfl⟩
  have hr3 : W3.heap[p]? = some (.cells (waA n { s with now := nw } g) TW (0, 0)) := by rw [← hW3]; exact (heap_setCell_same w.drew p 1 _ TW _ h.row).trans rfl
  have hpg : g ≠ p := h.m.2.2.row_ne h.row
  have hm3 : TrM W3 g s.L := h.m.block (by rw [← hW3]; exact heap_setCell_other w.drew ⟨p, 1, none⟩ _ _ hpg)
  have ho3 : Only S w W3 := by rw [← hW3]; exact Only.setCell w.drew ⟨p, 1, none⟩ _ h.sp
  have H3 : Hid (WaG p n { s with now := nw } g W3 S ∧ Only S w W3) := Lib.hid ⟨⟨hr3, h.sp, h.sg, hm3, fun k hk => Nat.lt_of_lt_of_le (h.low k hk) ho3.2.2.2.1⟩, ho3⟩
  have HALL := Lib.hid (all_any W3 ⟨g, H3.out.1⟩ hn)
  have HN := Lib.hid hn
  have HSR := Lib.hid h.m.1
  have HWF := Lib.hid h.m.2.1
  clear hnw hr3 hpg hm3 ho3 h
  go_enter Try.func26, Try.ntmps26
  go_upto_region 3 with fail
  refine Wl.start 10 (fun u => u.cell? ⟨p, 1, none⟩ = some (.int .i64 s.now)) (fun _ => True) (by kernel_rfl) HC0.out trivial (fun hk => ?_)
  refine Wl.take (i := 0) (v := .pointer (some ⟨p, 0, none⟩)) [8, 9, 10] rfl (by kernel_rfl) (by kernel_rfl) (by kernel_rfl) (by kernel_rfl) (by kernel_rfl) (fun _ _ _ h => h) (.inl ⟨by kernel_rfl, ?_⟩) hk ?_
  · intro wx hSw
    clear hSw hk
    go_simp
    try first | with_reducible rfl | kernel_rfl
  simp only [Act.put, List.getElem_toArray, List.getElem_cons_succ, List.getElem_cons_zero, List.setIfInBounds_toArray, List.set_cons_succ, List.set_cons_zero]
  refine Wl.take (i := 1) (v := .pointer (some ⟨p, 0, none⟩)) [2, 3, 4, 7, 8, 9, 10] rfl (by kernel_rfl) (by kernel_rfl) (by kernel_rfl) (by kernel_rfl) (by kernel_rfl) (fun _ _ _ h => h) (.inl ⟨by kernel_rfl, ?_⟩) hk ?_
  · intro wx hSw
    clear hSw hk
    go_simp
    try first | with_reducible rfl | kernel_rfl
  simp only [Act.put, List.getElem_toArray, List.getElem_cons_succ, List.getElem_cons_zero, List.setIfInBounds_toArray, List.set_cons_succ, List.set_cons_zero]
  refine Wl.take (i := 2) (v := .pointer (some ⟨p, 0, none⟩)) [3, 4, 7, 8, 9, 10] rfl (by kernel_rfl) (by kernel_rfl) (by kernel_rfl) (by kernel_rfl) (by kernel_rfl) (fun _ _ _ h => h) (.inl ⟨by kernel_rfl, ?_⟩) hk ?_
  · intro wx hSw
    clear hSw hk
    go_simp
    try first | with_reducible rfl | kernel_rfl
  simp only [Act.put, List.getElem_toArray, List.getElem_cons_succ, List.getElem_cons_zero, List.setIfInBounds_toArray, List.set_cons_succ, List.set_cons_zero]
  refine Wl.take (i := 3) (v := .pointer (some ⟨p, 1, none⟩)) [4, 7, 8, 9, 10] rfl (by kernel_rfl) (by kernel_rfl) (by kernel_rfl) (by kernel_rfl) (by kernel_rfl) (fun _ _ _ h => h) (.inl ⟨by kernel_rfl, ?_⟩) hk ?_
  · intro wx hSw
    clear hSw hk
    go_simp
    try first | with_reducible rfl | kernel_rfl
  simp only [Act.put, List.getElem_toArray, List.getElem_cons_succ, List.getElem_cons_zero, List.setIfInBounds_toArray, List.set_cons_succ, List.set_cons_zero]
  refine Wl.take (i := 4) (v := .int .i64 s.now) [7, 8, 9, 10] rfl (by kernel_rfl) (by kernel_rfl) (by kernel_rfl) (by kernel_rfl) (by kernel_rfl) (fun _ _ _ h => h) (.inl ⟨by kernel_rfl, ?_⟩) hk ?_
  · intro wx hSw
    have cc := hSw.1
    clear hSw hk
    go_simp
    try first | with_reducible rfl | kernel_rfl
  simp only [Act.put, List.getElem_toArray, List.getElem_cons_succ, List.getElem_cons_zero, List.setIfInBounds_toArray, List.set_cons_succ, List.set_cons_zero]
  refine Wl.take (i := 5) (v := .int .i64 t) [6, 7, 8, 9, 10] rfl (by kernel_rfl) (by kernel_rfl) (by kernel_rfl) (by kernel_rfl) (by kernel_rfl) (fun _ _ _ h => h) (.inl ⟨by kernel_rfl, ?_⟩) hk ?_
  · intro wx hSw
    clear hSw hk
    go_simp
    try first | with_reducible rfl | kernel_rfl
  simp only [Act.put, List.getElem_toArray, List.getElem_cons_succ, List.getElem_cons_zero, List.setIfInBounds_toArray, List.set_cons_succ, List.set_cons_zero]
  refine Wl.one (i := 6) (by kernel_rfl) rfl (fun K hK => ?_)
  go_simp
  refine (Ls.clamp_any t _).mono ?_
  rintro e wx ⟨rfl, rfl⟩
  refine hK.out _ _ (Wl.Kn.on HC0.out trivial) (fun hk => ?_)
  clear hK K
  refine Wl.take (i := 7) (v := .int .i64 nw) [8, 9, 10] rfl (by kernel_rfl) (by kernel_rfl) (by kernel_rfl) (by kernel_rfl) (by kernel_rfl) (fun _ _ _ h => h) (.inl ⟨by kernel_rfl, ?_⟩) hk ?_
  · intro wx hSw
    have cc := HNW.out
    clear hSw hk
    go_simp
    try first | with_reducible rfl | kernel_rfl
  simp only [Act.put, List.getElem_toArray, List.getElem_cons_succ, List.getElem_cons_zero, List.setIfInBounds_toArray, List.set_cons_succ, List.set_cons_zero]
  refine Wl.take (i := 8) (v := .pointer (some ⟨p, 0, none⟩)) [9, 10] rfl (by kernel_rfl) (by kernel_rfl) (by kernel_rfl) (by kernel_rfl) (by kernel_rfl) (fun _ _ _ h => h) (.inl ⟨by kernel_rfl, ?_⟩) hk ?_
  · intro wx hSw
    clear hSw hk
    go_simp
    try first | with_reducible rfl | kernel_rfl
  simp only [Act.put, List.getElem_toArray, List.getElem_cons_succ, List.getElem_cons_zero, List.setIfInBounds_toArray, List.set_cons_succ, List.set_cons_zero]
  refine Wl.take (i := 9) (v := .pointer (some ⟨p, 1, none⟩)) [10] rfl (by kernel_rfl) (by kernel_rfl) (by kernel_rfl) (by kernel_rfl) (by kernel_rfl) (fun _ _ _ h => h) (.inl ⟨by kernel_rfl, ?_⟩) hk ?_
  · intro wx hSw
    clear hSw hk
    go_simp
    try first | with_reducible rfl | kernel_rfl
  simp only [Act.put, List.getElem_toArray, List.getElem_cons_succ, List.getElem_cons_zero, List.setIfInBounds_toArray, List.set_cons_succ, List.set_cons_zero]
  refine Wl.one (i := 10) (by kernel_rfl) rfl (fun K hK => ?_)
  go_simp
  try rw [hW3]
  refine hK.out _ _ (Wl.Kn.off (by kernel_rfl) trivial) (fun hk => ?_)
  clear hK K
  refine Wl.done (by kernel_rfl) ?_ _
  clear hk
  clear e1 f1 hW3
  go_wp2_with (first | ((with_reducible refine HALL.out.mono ?_); rintro e w5 ⟨v, rfl, o5, b5⟩; obtain ⟨al, cl, rfl⟩ := own_slice o5; have H5 : Hid (OwnR 3 trC 115 w5 W3.heap.size (.slice al s.L.length cl) s.L ∧ Below W3.heap.size W3 w5) := Lib.hid (And.intro o5 b5); clear o5 b5))
  have HG5 : Hid (WaG p n { s with now := nw } g w5 S ∧ Only S w w5) := Lib.hid ⟨H3.out.1.keep (fun k hk => H5.out.2.block k (H3.out.1.low k hk)) H5.out.2.size, H3.out.2.trans (Below.only H5.out.2 S)⟩
  have HS5 : Hid (∀ wr, Only S w5 wr → SlR 3 trC wr (.slice al s.L.length cl) s.L) := Lib.hid (fun wr ho => OwnR.sl trC_len (show OwnR 3 trC 115 _ _ _ _ from own_keep H5.out.1 (fun k hk hl => ho.2.2.2.2 k hl (fun hs => by have := H3.out.1.low k hs; have := (World.ownsRow.lt H5.out.1 k hk).1; omega))))
  obtain ⟨m, hm⟩ : ∃ z, s.L.length = z := ⟨_, rfl⟩
  have HM := Lib.hid hm
  have hlm : (m : Int) ≤ 1000 := by have := HN.out; omega
  rw [hm] at HS5 ⊢
  clear hm HALL H5 hn
  go_loopw [5, 23] (fun u i wr => ∃ (j : Nat) (v : Value), v = u ∧ j ≤ m ∧ i = .int .i64 (j : Int) ∧ Hid (OwnR 3 trC 115 wr w5.heap.size v (endV nw (s.L.take j)) ∧ WaG p n { s with now := nw, L := midV nw s.L j } g wr S ∧ Only S w5 wr)) (fun _ i _ => m - (intOf i).toNat)
  case atStart => exact ⟨0, _, rfl, Nat.zero_le _, rfl, Lib.hid ⟨OwnR.nil _ _ _, HG5.out.1, Only.refl _ _⟩⟩
  case round =>
    obtain ⟨j, v, rfl, hj, rfl, HR⟩ := hrel
    by_cases hlt : j < m
    · have hlti : (j : Int) < (m : Int) := by omega
      obtain ⟨x, hx⟩ : ∃ x, s.L[j]? = some x := ⟨_, List.getElem?_eq_getElem (by rw [HM.out]; exact hlt)⟩
      have HX := Lib.hid hx
      obtain ⟨b0, off, rfl, y0, y1, y2⟩ : ∃ b off, al = some ⟨b, off, none⟩ ∧ wr.cell? ⟨b, off + j * 3, none⟩ = some (.int .i64 x.tok) ∧ wr.cell? ⟨b, off + j * 3 + 1, none⟩ = some (.int .u64 x.ser) ∧ wr.cell? ⟨b, off + j * 3 + 2, none⟩ = some (.int .i64 x.til) := by
        rcases SlR.cases (HS5.out wr HR.out.2.2) with ⟨a9, c9, e, hnil⟩ | ⟨b, off, c9, e, -, -, -, -, hc⟩
        · rw [hnil] at hx; simp at hx
        · simp only [Value.slice.injEq] at e
          exact ⟨b, off, e.1, tr_cells (hc j _ hx)⟩
      obtain ⟨g2, hg2⟩ : ∃ z, wr.heap.size = z := ⟨_, rfl⟩
      obtain ⟨W6, hW6⟩ : ∃ z, wr.alloc (.cells #[.int .i64 x.tok, .int .u64 x.ser, .int .i64 x.til] 115) = z := ⟨_, rfl⟩
      have hr6 : W6.heap[g2]? = some (.cells #[.int .i64 x.tok, .int .u64 x.ser, .int .i64 x.til] 115 (0, 0)) := by rw [← hW6, ← hg2]; exact heap_alloc_new _ _
      have hb6 : Below wr.heap.size wr W6 := by rw [← hW6]; exact (Below.refl _ _).alloc (Nat.le_refl _) _
      have H6 : Hid (OwnR 3 trC 115 W6 w5.heap.size v (endV nw (s.L.take j)) ∧ WaG p n { s with now := nw, L := midV nw s.L j } g W6 S ∧ Only S w5 W6) := Lib.hid ⟨by rw [← hW6]; exact HR.out.1.alloc _, HR.out.2.1.keep (fun k hk => hb6.block k (HR.out.2.1.low k hk)) hb6.size, HR.out.2.2.trans (Below.only hb6 S)⟩
      have HG2 : Hid (W6.heap[g2]? = some (.cells #[.int .i64 x.tok, .int .u64 x.ser, .int .i64 x.til] 115 (0, 0)) ∧ w5.heap.size ≤ g2 ∧ ∀ k, v.ownBlock = some k → k < g2) := Lib.hid ⟨hr6, by rw [← hg2]; exact HR.out.2.2.2.2.2.1, fun k hk => by rw [← hg2]; exact (World.ownsRow.lt HR.out.1 k hk).2⟩
      have d0 : W6.cell? ⟨g2, 0, none⟩ = some (.int .i64 x.tok) := (cell_of_row _ _ 0 _ _ _ hr6).trans rfl
      have d1 : W6.cell? ⟨g2, 1, none⟩ = some (.int .u64 x.ser) := (cell_of_row _ _ 1 _ _ _ hr6).trans rfl
      have d2 : W6.cell? ⟨g2, 2, none⟩ = some (.int .i64 x.til) := (cell_of_row _ _ 2 _ _ _ hr6).trans rfl
      have c1 : W6.cell? ⟨p, 1, none⟩ = some (.int .i64 nw) := (cell_of_row _ _ 1 _ _ _ H6.out.2.1.row).trans rfl
      have HJL : Hid ((endV nw (s.L.take j)).length ≤ j ∧ j < 1000 ∧ w5.heap.size ≤ W6.heap.size) := Lib.hid ⟨end_len _ _ _, by omega, H6.out.2.2.2.2.2.1⟩
      have HES := Lib.hid (end_step (now := nw) hx)
      clear hr6 hb6 HR hx
      by_cases he : x.til ≤ nw
      · have HE2 : Hid (endV nw (s.L.take (j + 1)) = endV nw (s.L.take j) ++ [x]) := Lib.hid (by rw [HES.out, if_pos he])
        have HMD : Hid (midV nw s.L (j + 1) = woV x.tok (midV nw s.L j)) := Lib.hid (mid_struck HSR.out HX.out he)
        clear HES
        go_upto_region 8 with (first | rw [hW6, hg2])
        clear y0 y1 y2 hW6 hg2
        go_region
        obtain ⟨W7, hW7⟩ : ∃ z, W6.drew = z := ⟨_, rfl⟩
        have H7 : Hid (OwnR 3 trC 115 W7 w5.heap.size v (endV nw (s.L.take j)) ∧ WaG p n { s with now := nw, L := midV nw s.L j } g W7 S ∧ Only S w5 W7) := Lib.hid (by rw [← hW7]; exact ⟨H6.out.1, H6.out.2.1.keep (fun _ _ => rfl) (Nat.le_refl _), H6.out.2.2⟩)
        have h0 : W7.cell? ⟨g2, 0, none⟩ = some (.int .i64 x.tok) := by rw [← hW7]; exact d0
        have h1 : W7.cell? ⟨g2, 1, none⟩ = some (.int .u64 x.ser) := by rw [← hW7]; exact d1
        have h2 : W7.cell? ⟨g2, 2, none⟩ = some (.int .i64 x.til) := by rw [← hW7]; exact d2
        rw [hW7]
        have HG7 : Hid (W7.heap[g2]? = some (.cells #[.int .i64 x.tok, .int .u64 x.ser, .int .i64 x.til] 115 (0, 0))) := Lib.hid (by rw [← hW7]; exact HG2.out.1)
        have HZ7 : Hid (w5.heap.size ≤ W7.heap.size) := Lib.hid (by rw [← hW7]; exact HJL.out.2.2)
        clear d0 d1 d2 c1 hW7 H6
        obtain ⟨W8, hW8⟩ : ∃ z, W7.alloc (.cells #[.int .i64 x.tok, .int .u64 x.ser, .int .i64 x.til] 115) = z := ⟨_, rfl⟩
        have HLIT : Hid (SlR 3 trC W8 (.slice (some ⟨W7.heap.size, 0, none⟩) 1 1) [x]) := Lib.hid (by rw [← hW8]; exact SlR.one trC_len W7 _ rfl _ x rfl)
        have hb8 : Below W7.heap.size W7 W8 := by rw [← hW8]; exact (Below.refl _ _).alloc (Nat.le_refl _) _
        have H8 : Hid (OwnR 3 trC 115 W8 w5.heap.size v (endV nw (s.L.take j)) ∧ WaG p n { s with now := nw, L := midV nw s.L j } g W8 S ∧ Only S w5 W8) := Lib.hid ⟨by rw [← hW8]; exact H7.out.1.alloc _, H7.out.2.1.keep (fun k hk => hb8.block k (H7.out.2.1.low k hk)) hb8.size, H7.out.2.2.trans (Below.only hb8 S)⟩
        have HG8 : Hid (W8.heap[g2]? = some (.cells #[.int .i64 x.tok, .int .u64 x.ser, .int .i64 x.til] 115 (0, 0)) ∧ w5.heap.size ≤ W8.heap.size) := Lib.hid ⟨(hb8.block g2 (row_lt HG7.out)).trans HG7.out, Nat.le_trans HZ7.out hb8.size⟩
        clear hb8 H7 HG7 HZ7
        go_upto_region 10 with (first | rw [hW8] | (at_builtin; refine appRq trC_len Try.underlying66 rfl (by decide) info_tr rfl (.tmp 34) (.tmp 36) rfl w5.heap.size v (endV nw (s.L.take j)) rfl H8.out.1 (.slice (some ⟨W7.heap.size, 0, none⟩) 1 1) [x] rfl HLIT.out Nat.zero_lt_one (fun y _ => trC_one y) (by have := HJL.out; unfold maxLen; simp only [List.length_singleton]; omega) (by have := HJL.out; simp only [List.length_singleton]; omega) HG8.out.2 ?_; intro gb cap w9 own9 gr9 ly9; have H9 := Lib.hid (And.intro own9 gr9); clear own9 gr9 ly9))
        have hg9 : w9.heap[g2]? = some (.cells #[.int .i64 x.tok, .int .u64 x.ser, .int .i64 x.til] 115 (0, 0)) := (H9.out.2.block g2 (row_lt HG8.out.1) (fun e => by have := HG2.out.2.2 g2 e.symm; omega)).trans HG8.out.1
        have hs9 : ∀ k, S k → w9.heap[k]? = W8.heap[k]? := fun k hk => H9.out.2.block k (H8.out.2.1.low k hk) (fun e => by have := (World.ownsRow.lt H8.out.1 k e.symm).1; have := HG5.out.1.low k hk; omega)
        have hw9 : WaG p n { s with now := nw, L := midV nw s.L j } g w9 S := H8.out.2.1.keep hs9 H9.out.2.size
        have ho9 : Only S w5 w9 := H8.out.2.2.after (T := fun k => v.ownBlock = some k) (Only.grown H9.out.2 (fun _ h => h)) (fun k hk hv => absurd hk (by have := (World.ownsRow.lt H8.out.1 k hv).1; omega))
        have HC9 : Hid (w9.drew.cell? ⟨p, 11, none⟩ = some (.map (some g)) ∧ w9.drew.cell? ⟨g2, 0, none⟩ = some (.int .i64 x.tok)) := Lib.hid ⟨(cell_of_row w9 _ 11 _ _ _ hw9.row).trans rfl, (cell_of_row w9 _ 0 _ _ _ hg9).trans rfl⟩
        have hw9d : WaG p n { s with now := nw, L := midV nw s.L j } g w9.drew S := hw9.keep (fun _ _ => rfl) (Nat.le_refl _)
        obtain ⟨w10, hrun, hm10, hg10⟩ := hw9d.m.2.2.del tokK Try.underlying116 (x := x.tok) (HWF.out x (List.mem_of_getElem? HX.out)).1 0
        have HRUN := Lib.hid hrun
        have H10 : Hid (OwnR 3 trC 115 w10 w5.heap.size (.slice (some ⟨gb, 0, none⟩) ((endV nw (s.L.take j)).length + 1) cap) (endV nw (s.L.take (j + 1))) ∧ WaG p n { s with now := nw, L := midV nw s.L (j + 1) } g w10 S ∧ Only S w5 w10) := Lib.hid ⟨by
            rw [HE2.out]
            exact own_keep H9.out.1 (fun k hk hl => hg10.block k hl (fun e => by cases e; have := (World.ownsRow.lt H9.out.1 _ hk).1; have := HG5.out.1.low _ hw9.sg; omega)), by
            rw [HMD.out]
            exact hw9d.del hm10 hg10, (show Only S w5 w9.drew from ho9).trans (only_grown hg10 hw9.sg)⟩
        clear hg9 hs9 hw9 ho9 hw9d hrun hm10 hg10 H9 HG8 H8 h0 h1 h2 hW8
        refine Wl.start 6 (fun u => u.cell? ⟨p, 11, none⟩ = some (.map (some g)) ∧ u.cell? ⟨g2, 0, none⟩ = some (.int .i64 x.tok)) (fun _ => True) (by kernel_rfl) HC9.out trivial (fun hk => ?_)
        refine Wl.take (i := 0) (v := .pointer (some ⟨p, 0, none⟩)) [1, 2, 3, 6] rfl (by kernel_rfl) (by kernel_rfl) (by kernel_rfl) (by kernel_rfl) (by kernel_rfl) (fun _ _ _ h => h) (.inl ⟨by kernel_rfl, ?_⟩) hk ?_
        · intro wx hSw
          clear hSw hk
          go_simp
          try first | with_reducible rfl | kernel_rfl
        simp only [Act.put, List.getElem_toArray, List.getElem_cons_succ, List.getElem_cons_zero, List.setIfInBounds_toArray, List.set_cons_succ, List.set_cons_zero]
        refine Wl.take (i := 1) (v := .pointer (some ⟨p, 0, none⟩)) [2, 3, 6] rfl (by kernel_rfl) (by kernel_rfl) (by kernel_rfl) (by kernel_rfl) (by kernel_rfl) (fun _ _ _ h => h) (.inl ⟨by kernel_rfl, ?_⟩) hk ?_
        · intro wx hSw
          clear hSw hk
          go_simp
          try first | with_reducible rfl | kernel_rfl
        simp only [Act.put, List.getElem_toArray, List.getElem_cons_succ, List.getElem_cons_zero, List.setIfInBounds_toArray, List.set_cons_succ, List.set_cons_zero]
        refine Wl.take (i := 2) (v := .pointer (some ⟨p, 11, none⟩)) [3, 6] rfl (by kernel_rfl) (by kernel_rfl) (by kernel_rfl) (by kernel_rfl) (by kernel_rfl) (fun _ _ _ h => h) (.inl ⟨by kernel_rfl, ?_⟩) hk ?_
        · intro wx hSw
          clear hSw hk
          go_simp
          try first | with_reducible rfl | kernel_rfl
        simp only [Act.put, List.getElem_toArray, List.getElem_cons_succ, List.getElem_cons_zero, List.setIfInBounds_toArray, List.set_cons_succ, List.set_cons_zero]
        refine Wl.take (i := 3) (v := .map (some g)) [6] rfl (by kernel_rfl) (by kernel_rfl) (by kernel_rfl) (by kernel_rfl) (by kernel_rfl) (fun _ _ _ h => h) (.inl ⟨by kernel_rfl, ?_⟩) hk ?_
        · intro wx hSw
          have cc := hSw.1.1
          clear hSw hk
          go_simp
          try first | with_reducible rfl | kernel_rfl
        simp only [Act.put, List.getElem_toArray, List.getElem_cons_succ, List.getElem_cons_zero, List.setIfInBounds_toArray, List.set_cons_succ, List.set_cons_zero]
        refine Wl.take (i := 4) (v := .pointer (some ⟨g2, 0, none⟩)) [5, 6] rfl (by kernel_rfl) (by kernel_rfl) (by kernel_rfl) (by kernel_rfl) (by kernel_rfl) (fun _ _ _ h => h) (.inl ⟨by kernel_rfl, ?_⟩) hk ?_
        · intro wx hSw
          clear hSw hk
          go_simp
          try first | with_reducible rfl | kernel_rfl
        simp only [Act.put, List.getElem_toArray, List.getElem_cons_succ, List.getElem_cons_zero, List.setIfInBounds_toArray, List.set_cons_succ, List.set_cons_zero]
        refine Wl.take (i := 5) (v := .int .i64 x.tok) [6] rfl (by kernel_rfl) (by kernel_rfl) (by kernel_rfl) (by kernel_rfl) (by kernel_rfl) (fun _ _ _ h => h) (.inl ⟨by kernel_rfl, ?_⟩) hk ?_
        · intro wx hSw
          have cc := hSw.1.2
          clear hSw hk
          go_simp
          try first | with_reducible rfl | kernel_rfl
        simp only [Act.put, List.getElem_toArray, List.getElem_cons_succ, List.getElem_cons_zero, List.setIfInBounds_toArray, List.set_cons_succ, List.set_cons_zero]
        refine Wl.one (i := 6) (by kernel_rfl) rfl (fun K hK => ?_)
        go_simp
        have hrun := HRUN.out
        go_simp
        clear hrun
        refine hK.out _ _ (Wl.Kn.off (by kernel_rfl) trivial) (fun hk => ?_)
        clear hK K
        refine Wl.done (by kernel_rfl) ?_ _
        clear hk
        go_wp2
        go_roundw
        case rel => exact ⟨j + 1, _, rfl, by omega, by go_num, H10⟩
        case measure => simp [intOf]; omega
      · have HE2 : Hid (endV nw (s.L.take (j + 1)) = endV nw (s.L.take j)) := Lib.hid (by rw [HES.out, if_neg he, List.append_nil])
        have HMD : Hid (midV nw s.L (j + 1) = midV nw s.L j) := Lib.hid (mid_stay HX.out he)
        clear HES
        go_upto_region 8 with (first | rw [hW6, hg2])
        clear y0 y1 y2 hW6 hg2
        go_region
        have H7 : Hid (OwnR 3 trC 115 W6.drew w5.heap.size v (endV nw (s.L.take (j + 1))) ∧ WaG p n { s with now := nw, L := midV nw s.L (j + 1) } g W6.drew S ∧ Only S w5 W6.drew) := Lib.hid (by rw [HE2.out, HMD.out]; exact ⟨H6.out.1, H6.out.2.1.keep (fun _ _ => rfl) (Nat.le_refl _), H6.out.2.2⟩)
        clear d0 d1 d2 c1
        go_wp2
        go_roundw
        case rel => exact ⟨j + 1, _, rfl, by omega, by go_num, H7⟩
        case measure => simp [intOf]; omega
    · obtain rfl : j = m := by omega
      have HE := Lib.hid HR.out
      clear HR
      go_wp2
      go_ret
      refine ⟨_, rfl, ?_, ⟨g, ?_⟩, HG5.out.2.trans HE.out.2.2⟩
      · have := HE.out.1
        rw [← HM.out, List.take_length] at this
        exact ownsRow_base_a this HG5.out.2.2.2.2.1
      · have := HE.out.2.1
        rw [← HM.out, mid_end] at this
        exact this
end Lt
end Go.Proofs.Ytgbblegcjladaaa
