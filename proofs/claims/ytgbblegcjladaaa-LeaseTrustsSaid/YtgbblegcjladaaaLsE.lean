/- The document's keeper: Leads, Due; the law's sameCmds and its example of a keeper. No condition. -/
import Derived.Test.YtgbblegcjladaaaLsC
import Derived.Test.YtgbblegcjladaaaLsD
import Derived.Test.YtgbblegcjladaaaCmdS
namespace Go.Proofs.Ytgbblegcjladaaa
open Go.ChangeShapes Go.WideShapes Go.ChangeAt Go.RowKit Go.Deep Go.Maps Go.ChangeMaps Go.MapKept
set_option linter.unusedVariables false
set_option maxRecDepth 100000
set_option linter.unusedSimpArgs false
namespace Ls
open Mc
variable {w w' w0 w1 a : World} {S : Nat → Prop} {p q B : Nat} {n now : Int} {vh vl vx : Value} {L : List Row}
set_option maxHeartbeats 4000000 in
theorem rleads_any (now : Int) (l : Led) (w : World) (h : KxV w S q n vx L) (hL : SlR 5 heldC w vh l.held) (hSL : ∀ w', Only S w w' → SlR 5 heldC w' vh l.held) (hlen : l.held.length ≤ 1000) (hw : ∀ x ∈ l.held, x.wf) (hn : (l.held.map keyR).Nodup) :
    Calls Try.prog 13 #[.pointer (some ⟨q, 0, none⟩), .int .i64 now, .agg (lArr l vh vl)] w (KxR (.tuple #[]) q n (seesV now [] l.held) S w) := by
  obtain ⟨gl, hgl⟩ : ∃ q, w.heap.size = q := ⟨_, rfl⟩
  obtain ⟨W1, hW1⟩ : ∃ q, w.alloc (.cells (lArr l vh vl) 35) = q := ⟨_, rfl⟩
  have hb1 : Below w.heap.size w W1 := by rw [← hW1]; exact (Below.refl _ _).alloc (Nat.le_refl _) _
  have hr1 : W1.heap[gl]? = some (.cells (lArr l vh vl) 35 (0, 0)) := by rw [← hW1, ← hgl]; exact heap_alloc_new _ _
  have h1 : KxV W1 S q n vx L := h.keep (fun k hk => hb1.block k (h.low k hk)) hb1.size
  have hpl : q ≠ gl := by have := row_lt h.row; omega
  obtain ⟨W2, hW2⟩ : ∃ z, W1.setCell ⟨q, 1, none⟩ (.slice none 0 0) = z := ⟨_, rfl⟩
  have hp2 : W2.heap[q]? = some (.cells #[.int .i64 n, .slice none 0 0] TQ (0, 0)) := by rw [← hW2]; exact xset1 h1.row
  have hr2 : W2.heap[gl]? = some (.cells (lArr l vh vl) 35 (0, 0)) := by rw [← hW2]; exact (heap_setCell_other W1 ⟨q, 1, none⟩ gl _ hpl.symm).trans hr1
  have ho : Only S w W2 := (Below.only hb1 S).trans (by rw [← hW2]; exact Only.setCell W1 ⟨q, 1, none⟩ _ h.sp)
  have hz2 : W2.heap.size = W1.heap.size := by rw [← hW2]; simp
  have H2 : Hid (KxV W2 S q n (.slice none 0 0) []) := Lib.hid ⟨hp2, h.sp, OwnR.nil _ _ _, (fun k hk => by cases hk), fun k hk => by have := h.low k hk; have := hb1.size; omega⟩
  have HO := Lib.hid ho
  have hc := rsees_any (vl := vl) now l W2 H2.out OkL.nil (hSL W2 ho) hlen (Nat.zero_le _) hw hn
  have HC := Lib.hid hc
  obtain ⟨ax, cx, rfl⟩ := own_slice h1.l
  have c12 := (xrow h1.row).2.1
  have z1 := (xrow h1.row).2.2
  have k0 : W2.cell? ⟨gl, 0, none⟩ = some (.int .i64 l.limit) := (cell_of_row _ _ 0 _ _ _ hr2).trans rfl
  have k1 : W2.cell? ⟨gl, 1, none⟩ = some (.int .u64 l.next) := (cell_of_row _ _ 1 _ _ _ hr2).trans rfl
  have k2 : W2.cell? ⟨gl, 2, none⟩ = some vh := (cell_of_row _ _ 2 _ _ _ hr2).trans rfl
  have k3 : W2.cell? ⟨gl, 3, none⟩ = some vl := (cell_of_row _ _ 3 _ _ _ hr2).trans rfl
  clear hL hSL hlen hw hn hb1 hr1 h1 hp2 hr2 ho hz2 h hc
  go_enter Try.func13, Try.ntmps13
  go_wp2_with (first | rw [hW1] | rw [hW2] | ((with_reducible refine HC.out.mono ?_); rintro e w9 ⟨rfl, h9⟩; have H9 := Lib.hid h9; clear h9))
  (try simp only [Exit.inBlock, Exit.then])
  refine bodyPost_end (results_none rfl _ _ _) rfl ?_
  exact ⟨rfl, Mc.Left.step HO.out (fun k hk => .inl hk) H9.out⟩
/-! ### Due -/
def DueX (q : Nat) (n now : Int) (L : List Row) (S : Nat → Prop) (w : World) (e : Ending) (w' : World) : Prop := ∃ vd, e = .returned vd ∧ OwnR 8 rcC TCm w' w.heap.size vd (dueK n now L) ∧ KxX q n (doneV n now L) w' S ∧ Only S w w'
def midL (n now : Int) (L : List Row) (j : Nat) : List Row := (L.take j).map (anew n now) ++ L.drop j
theorem mid_len (n now : Int) (L : List Row) (j : Nat) : (midL n now L j).length = L.length := by
  unfold midL; rw [List.length_append, List.length_map, List.length_take, List.length_drop]; omega
theorem mid_at {n now : Int} {L : List Row} {j : Nat} {x : Row} (h : L[j]? = some x) : (midL n now L j)[j]? = some x := by
  have hj := (List.getElem?_eq_some_iff.1 h).1
  unfold midL
  rw [List.getElem?_append_right (by simp; omega), List.length_map, List.length_take, Nat.min_eq_left (Nat.le_of_lt hj), Nat.sub_self, List.getElem?_drop, Nat.add_zero]
  exact h
theorem mid_set {n now : Int} {L : List Row} {j : Nat} {x : Row} (h : L[j]? = some x) : (midL n now L j).set j (anew n now x) = midL n now L (j + 1) := by
  have hj := (List.getElem?_eq_some_iff.1 h).1
  unfold midL
  have e : L.drop j = x :: L.drop (j + 1) := by rw [List.drop_eq_getElem_cons hj]; congr 1; exact (List.getElem?_eq_some_iff.1 h).2
  rw [List.set_append, if_neg (by simp; omega), List.length_map, List.length_take, Nat.min_eq_left (Nat.le_of_lt hj), Nat.sub_self, e, List.set_cons_zero, List.take_add_one, h, List.map_append]
  simp
theorem mid_same {n now : Int} {L : List Row} {j : Nat} {x : Row} (h : L[j]? = some x) (he : anew n now x = x) : midL n now L j = midL n now L (j + 1) := by
  rw [← mid_set h, he]
  apply List.ext_getElem?
  intro i
  rw [List.getElem?_set]
  split
  · rename_i e
    subst e
    split
    · exact mid_at h
    · rename_i hl
      rw [List.getElem?_eq_none (by omega)]
  · rfl
set_option maxHeartbeats 8000000 in
theorem rdue_any (now : Int) (w : World) (h : KxV w S q n vx L) (hok : OkL L) (hn : 1 ≤ n ∧ n ≤ 1073741824) (hlen : L.length ≤ 1000) :
    Calls Try.prog 18 #[.pointer (some ⟨q, 0, none⟩), .int .i64 now] w (DueX q n now L S w) := by
  obtain ⟨nt, hnt⟩ : ∃ q, timeV now = q := ⟨_, rfl⟩
  have HNT := Lib.hid hnt
  have HNR : Hid (0 ≤ nt ∧ nt ≤ 4611686018427387904) := Lib.hid (by have := time_lo now; rw [hnt] at this; exact this)
  obtain ⟨ax, cx, hvx⟩ := own_slice h.l
  subst hvx
  have H := Lib.hid h
  have HOK := Lib.hid hok
  have c1 := (xrow h.row).2.1
  clear h hok hnt
  go_enter Try.func18, Try.ntmps18
  go_wp2_with fail
  clear c1
  go_loopw [5, 13] (fun vd i wr => ∃ (j : Nat) (v : Value), v = vd ∧ j ≤ L.length ∧ i = .int .i64 (j : Int) ∧ Hid (KxV wr S q n (.slice ax L.length cx) (midL n now L j) ∧ Only S w wr ∧ OwnR 8 rcC TCm wr w.heap.size v (dueK n now (L.take j)))) (fun _ i _ => L.length - (intOf i).toNat)
  case atStart => exact ⟨0, _, rfl, Nat.zero_le _, rfl, Lib.hid ⟨H.out, Only.refl _ _, OwnR.nil _ _ _⟩⟩
  case round =>
    obtain ⟨j, v, rfl, hj, rfl, HR⟩ := hrel
    by_cases hlt : j < L.length
    · have hlti : (j : Int) < (L.length : Int) := by omega
      obtain ⟨x, hx⟩ : ∃ x, L[j]? = some x := ⟨_, List.getElem?_eq_getElem hlt⟩
      obtain ⟨z, hz⟩ : ∃ q, keyX x = q := ⟨_, rfl⟩
      have hxm := List.mem_of_getElem? hx
      have HTK : Hid (dueK n now (L.take (j + 1)) = dueK n now (L.take j) ++ (if isDue n now x then [z] else [])) := Lib.hid (by rw [List.take_add_one, hx, Option.toList_some, dueK_snoc, hz])
      have HJL : Hid ((dueK n now (L.take j)).length ≤ 1000) := Lib.hid (by unfold dueK; rw [List.length_map]; refine Nat.le_trans (List.length_filter_le _ _) ?_; rw [List.length_take]; omega)
      have hsr := HOK.out.t x hxm
      unfold top at hsr
      have HWR : Hid (IntKind.i64.wrap (nt - x.since) = nt - x.since) := Lib.hid (by rw [IntKind.wrap_i64]; have := HNR.out; omega)
      obtain ⟨dd, hdd⟩ : ∃ q, decide (n ≤ nt - x.since) = q := ⟨_, rfl⟩
      have HDD := Lib.hid hdd
      have HDX : Hid (isDue n now x = dd) := Lib.hid (by unfold isDue; rw [HNT.out, hdd])
      have HXJ := Lib.hid hx
      have HKZ := Lib.hid hz
      obtain ⟨bx, rfl, x0, x1, x2, x3, x4, x5⟩ : ∃ b, ax = some ⟨b, 0, none⟩ ∧ wr.cell? ⟨b, j * 6, none⟩ = some (.int .i64 x.h.token) ∧ wr.cell? ⟨b, j * 6 + 1, none⟩ = some (.int .i64 x.h.node) ∧ wr.cell? ⟨b, j * 6 + 2, none⟩ = some (.int .u64 x.h.boot) ∧ wr.cell? ⟨b, j * 6 + 3, none⟩ = some (.int .u64 x.h.serial) ∧ wr.cell? ⟨b, j * 6 + 4, none⟩ = some (.int .u64 x.h.stamp) ∧ wr.cell? ⟨b, j * 6 + 5, none⟩ = some (.int .i64 x.since) := by
        rcases own_form HR.out.1.l with ⟨e1, e2⟩ | ⟨b, c2, cur, e1, -, -⟩
        · rw [mid_len] at e2; omega
        · simp only [Value.slice.injEq] at e1
          have hs := HR.out.1.l.sl rxC_len
          rcases SlR.cases hs with ⟨a2, c3, e, hnil⟩ | ⟨b3, off, c3, e, -, -, -, -, hc⟩
          · have := congrArg List.length hnil; rw [mid_len, List.length_nil] at this; omega
          · simp only [Value.slice.injEq] at e
            obtain ⟨e, -, -⟩ := e
            rw [e1.1] at e
            simp only [Option.some.injEq, Addr.mk.injEq, and_true] at e
            obtain ⟨rfl, rfl⟩ := e
            have h6 := rx_cells (hc j x (mid_at hx))
            simp only [Nat.zero_add] at h6
            exact ⟨b, e1.1, h6⟩
      obtain ⟨g3, hg3⟩ : ∃ q, wr.heap.size = q := ⟨_, rfl⟩
      obtain ⟨W5, hW5⟩ : ∃ q, wr.alloc (.cells (rxA x) TX) = q := ⟨_, rfl⟩
      have hb5 : Below wr.heap.size wr W5.drew := by rw [← hW5]; exact ((Below.refl _ _).alloc (Nat.le_refl _) _).drew
      have hr5 : W5.drew.heap[g3]? = some (.cells (rxA x) TX (0, 0)) := by rw [← hW5, ← hg3]; exact heap_alloc_new _ _
      have HS5 : Hid (KxV W5.drew S q n (.slice (some ⟨bx, 0, none⟩) L.length cx) (midL n now L j) ∧ Only S w W5.drew ∧ OwnR 8 rcC TCm W5.drew w.heap.size v (dueK n now (L.take j))) := Lib.hid ⟨HR.out.1.keep (fun k hk => hb5.block k (HR.out.1.low k hk)) hb5.size, HR.out.2.1.trans (Below.only hb5 S), own_keep HR.out.2.2 (fun k _ hk => hb5.block k hk)⟩
      have HQ5 : Hid (W5.drew.heap[g3]? = some (.cells (rxA x) TX (0, 0)) ∧ W5.drew.cell? ⟨q, 0, none⟩ = some (.int .i64 n)) := Lib.hid ⟨hr5, (xrow HS5.out.1.row).1⟩
      have HJ : Hid (j < L.length ∧ (j : Int) < (L.length : Int)) := Lib.hid ⟨hlt, hlti⟩
      have HAN : Hid (anew n now x = if dd then ⟨x.h, nt⟩ else x) := Lib.hid (by unfold anew; rw [HDX.out, HNT.out])
      clear hx hxm hz hsr hdd hb5 hr5 HR
      go_upto_region 5 with (first | rw [hW5])
      clear x0 x1 x2 x3 x4 x5 hW5 hg3
      refine Wl.start 999 (fun _ => True) (fun u => u.heap[g3]? = some (.cells (rxA x) TX (0, 0)) ∧ u.cell? ⟨q, 0, none⟩ = some (.int .i64 n)) (by kernel_rfl) trivial HQ5.out (fun hk => ?_)
      refine Wl.take0 (i := 0) (v := .int .i64 now) rfl (by kernel_rfl) (by kernel_rfl) (by kernel_rfl) (by kernel_rfl) (fun _ _ _ h => h) (.inl ⟨by kernel_rfl, ?_⟩) hk ?_
      · intro wx hSw
        clear hSw hk
        go_simp
        try first | with_reducible rfl | kernel_rfl
      simp only [Act.put, List.getElem_toArray, List.getElem_cons_succ, List.getElem_cons_zero, List.setIfInBounds_toArray, List.set_cons_succ, List.set_cons_zero]
      refine Wl.take0 (i := 2) (v := .pointer (some ⟨g3, 5, none⟩)) rfl (by kernel_rfl) (by kernel_rfl) (by kernel_rfl) (by kernel_rfl) (fun _ _ _ h => h) (.inl ⟨by kernel_rfl, ?_⟩) hk ?_
      · intro wx hSw
        clear hSw hk
        go_simp
        try first | with_reducible rfl | kernel_rfl
      simp only [Act.put, List.getElem_toArray, List.getElem_cons_succ, List.getElem_cons_zero, List.setIfInBounds_toArray, List.set_cons_succ, List.set_cons_zero]
      refine Wl.take0 (i := 3) (v := .int .i64 x.since) rfl (by kernel_rfl) (by kernel_rfl) (by kernel_rfl) (by kernel_rfl) (fun _ _ _ h => h) (.inl ⟨by kernel_rfl, ?_⟩) hk ?_
      · intro wx hSw
        have cc : wx.cell? ⟨g3, 5, none⟩ = some (.int .i64 x.since) := (cell_of_row _ _ 5 _ _ _ hSw.1).trans rfl
        clear hSw hk
        go_simp
        try first | with_reducible rfl | kernel_rfl
      simp only [Act.put, List.getElem_toArray, List.getElem_cons_succ, List.getElem_cons_zero, List.setIfInBounds_toArray, List.set_cons_succ, List.set_cons_zero]
      refine Wl.take0 (i := 5) (v := .pointer (some ⟨q, 0, none⟩)) rfl (by kernel_rfl) (by kernel_rfl) (by kernel_rfl) (by kernel_rfl) (fun _ _ _ h => h) (.inl ⟨by kernel_rfl, ?_⟩) hk ?_
      · intro wx hSw
        clear hSw hk
        go_simp
        try first | with_reducible rfl | kernel_rfl
      simp only [Act.put, List.getElem_toArray, List.getElem_cons_succ, List.getElem_cons_zero, List.setIfInBounds_toArray, List.set_cons_succ, List.set_cons_zero]
      refine Wl.take0 (i := 6) (v := .pointer (some ⟨q, 0, none⟩)) rfl (by kernel_rfl) (by kernel_rfl) (by kernel_rfl) (by kernel_rfl) (fun _ _ _ h => h) (.inl ⟨by kernel_rfl, ?_⟩) hk ?_
      · intro wx hSw
        clear hSw hk
        go_simp
        try first | with_reducible rfl | kernel_rfl
      simp only [Act.put, List.getElem_toArray, List.getElem_cons_succ, List.getElem_cons_zero, List.setIfInBounds_toArray, List.set_cons_succ, List.set_cons_zero]
      refine Wl.take0 (i := 7) (v := .pointer (some ⟨q, 0, none⟩)) rfl (by kernel_rfl) (by kernel_rfl) (by kernel_rfl) (by kernel_rfl) (fun _ _ _ h => h) (.inl ⟨by kernel_rfl, ?_⟩) hk ?_
      · intro wx hSw
        clear hSw hk
        go_simp
        try first | with_reducible rfl | kernel_rfl
      simp only [Act.put, List.getElem_toArray, List.getElem_cons_succ, List.getElem_cons_zero, List.setIfInBounds_toArray, List.set_cons_succ, List.set_cons_zero]
      refine Wl.take0 (i := 8) (v := .int .i64 n) rfl (by kernel_rfl) (by kernel_rfl) (by kernel_rfl) (by kernel_rfl) (fun _ _ _ h => h) (.inl ⟨by kernel_rfl, ?_⟩) hk ?_
      · intro wx hSw
        have cc := hSw.2
        clear hSw hk
        go_simp
        try first | with_reducible rfl | kernel_rfl
      simp only [Act.put, List.getElem_toArray, List.getElem_cons_succ, List.getElem_cons_zero, List.setIfInBounds_toArray, List.set_cons_succ, List.set_cons_zero]
      refine Wl.one (i := 1) (by kernel_rfl) rfl (fun K hK => ?_)
      go_simp
      refine (time_any now _).mono ?_
      rintro e w' ⟨rfl, rfl⟩
      rw [HNT.out]
      refine hK.out _ _ (Wl.Kn.on trivial HQ5.out) (fun hk => ?_)
      clear hK K
      refine Wl.take0 (i := 4) (v := .int .i64 (nt - x.since)) rfl (by kernel_rfl) (by kernel_rfl) (by kernel_rfl) (by kernel_rfl) (fun _ _ _ h => h) (.inl ⟨by kernel_rfl, ?_⟩) hk ?_
      · intro wx hSw
        have cc := HWR.out
        clear hSw hk
        go_simp
        try first | with_reducible rfl | kernel_rfl
      simp only [Act.put, List.getElem_toArray, List.getElem_cons_succ, List.getElem_cons_zero, List.setIfInBounds_toArray, List.set_cons_succ, List.set_cons_zero]
      refine Wl.take0 (i := 9) (v := .bool dd) rfl (by kernel_rfl) (by kernel_rfl) (by kernel_rfl) (by kernel_rfl) (fun _ _ _ h => h) (.inl ⟨by kernel_rfl, ?_⟩) hk ?_
      · intro wx hSw
        have cc := HDD.out
        clear hSw hk
        go_simp
        try first | with_reducible rfl | kernel_rfl
      simp only [Act.put, List.getElem_toArray, List.getElem_cons_succ, List.getElem_cons_zero, List.setIfInBounds_toArray, List.set_cons_succ, List.set_cons_zero]
      refine Wl.done (by kernel_rfl) ?_ _
      clear hk
      obtain ⟨wd, hwd⟩ : ∃ q, W5.drew = q := ⟨_, rfl⟩
      rw [hwd] at HS5 HQ5 ⊢
      clear hwd
      cases dd
      · rw [HDX.out, if_neg (by decide), List.append_nil] at HTK
        simp only [Bool.false_eq_true, if_false] at HAN
        go_wp2_with fail
        go_roundw
        case rel => exact ⟨j + 1, _, rfl, by omega, by go_num, Lib.hid (by rw [HTK.out, ← mid_same HXJ.out HAN.out]; exact HS5.out)⟩
        case measure => simp [intOf]; omega
      · rw [HDX.out, if_pos rfl] at HTK
        simp only [if_true] at HAN
        have d0 : wd.cell? ⟨g3, 0, none⟩ = some (.int .i64 z.token) := by rw [← HKZ.out]; exact (cell_of_row _ _ 0 _ _ _ HQ5.out.1).trans rfl
        have d1 : wd.cell? ⟨g3, 3, none⟩ = some (.int .u64 z.serial) := by rw [← HKZ.out]; exact (cell_of_row _ _ 3 _ _ _ HQ5.out.1).trans rfl
        have d2 : wd.cell? ⟨g3, 4, none⟩ = some (.int .u64 z.stamp) := by rw [← HKZ.out]; exact (cell_of_row _ _ 4 _ _ _ HQ5.out.1).trans rfl
        obtain ⟨W6, hW6⟩ : ∃ q, wd.alloc (.cells (rcA z) TCm) = q := ⟨_, rfl⟩
        have hb6 : Below wd.heap.size wd W6 := by rw [← hW6]; exact (Below.refl _ _).alloc (Nat.le_refl _) _
        have HS6 : Hid (KxV W6 S q n (.slice (some ⟨bx, 0, none⟩) L.length cx) (midL n now L j) ∧ Only S w W6 ∧ OwnR 8 rcC TCm W6 w.heap.size v (dueK n now (L.take j))) := Lib.hid ⟨HS5.out.1.keep (fun k hk => hb6.block k (HS5.out.1.low k hk)) hb6.size, HS5.out.2.1.trans (Below.only hb6 S), own_keep HS5.out.2.2 (fun k _ hk => hb6.block k hk)⟩
        have HLIT : Hid (SlR 8 rcC W6 (.slice (some ⟨wd.heap.size, 0, none⟩) 1 1) [z]) := Lib.hid (by rw [← hW6]; exact SlR.one rcC_len wd _ rfl _ z rfl)
        have HZS : Hid (w.heap.size ≤ W6.heap.size) := Lib.hid HS6.out.2.1.2.2.2.1
        clear hb6 HQ5 HS5
        go_upto_region 7 with (first | rw [hW6] | (at_builtin; refine appR rcC_len rcC_one Try.underlying42 rfl (by decide) info_cm rfl (.tmp 28) (.tmp 39) rfl w.heap.size v (dueK n now (L.take j)) rfl HS6.out.2.2 (.slice (some ⟨wd.heap.size, 0, none⟩) 1 1) [z] rfl HLIT.out (by have := HJL.out; unfold maxLen; simp only [List.length_singleton]; omega) (by have := HJL.out; simp only [List.length_singleton]; omega) HZS.out ?_; intro v7 w7 own7 bel7; have HO7 := Lib.hid own7; have HB7 := Lib.hid bel7; clear own7 bel7))
        clear d0 d1 d2 hW6
        have hs7 : KxV w7 S q n (.slice (some ⟨bx, 0, none⟩) L.length cx) (midL n now L j) := HS6.out.1.keep (fun k hk => HB7.out.block k (H.out.low k hk)) HB7.out.size
        have ho7 : Only S w w7 := ⟨HB7.out.os.trans HS6.out.2.1.1, HB7.out.tape.trans HS6.out.2.1.2.1, HB7.out.output.trans HS6.out.2.1.2.2.1, Nat.le_trans HS6.out.2.1.2.2.2.1 HB7.out.size, fun k hk hs => (HB7.out.block k hk).trans (HS6.out.2.1.2.2.2.2 k hk hs)⟩
        have hbS : S bx := hs7.ls bx rfl
        have hbl := H.out.low bx hbS
        have hbq : bx ≠ q := own_ty hs7.l hs7.row (by decide) bx rfl
        obtain ⟨cur, hcur⟩ : ∃ cur, w7.heap[bx]? = some (.cells cur TX (0, 0)) := by
          rcases own_form hs7.l with ⟨e, -⟩ | ⟨b, c2, cur, e1, e2, -⟩
          · cases e
          · simp only [Value.slice.injEq, Option.some.injEq, Addr.mk.injEq, and_true] at e1
            obtain ⟨rfl, -, -⟩ := e1
            exact ⟨cur, e2⟩
        have hc5 : w7.cell? ⟨bx, j * 6 + 5, none⟩ = some (.int .i64 x.since) := by
          rcases SlR.cases (hs7.l.sl rxC_len) with ⟨a2, c3, e, hnil⟩ | ⟨b3, off, c3, e, -, -, -, -, hc⟩
          · have := congrArg List.length hnil; rw [mid_len, List.length_nil] at this; omega
          · simp only [Value.slice.injEq, Option.some.injEq, Addr.mk.injEq, and_true] at e
            obtain ⟨⟨rfl, rfl⟩, -, -⟩ := e
            have h6 := rx_cells (hc j x (mid_at HXJ.out))
            simp only [Nat.zero_add] at h6
            exact h6.2.2.2.2.2
        have HC8 : Hid (w7.drew.cell? ⟨q, 1, none⟩ = some (.slice (some ⟨bx, 0, none⟩) L.length cx)) := Lib.hid (xrow hs7.row).2.1
        have HF8 : Hid (w7.drew.cell? ⟨bx, j * 6 + 5, none⟩ = some (.int .i64 x.since) ∧ w7.drew.frozen? ⟨bx, j * 6 + 5, none⟩ = false) := Lib.hid ⟨hc5, frozen_of_row w7 _ _ _ _ hcur⟩
        obtain ⟨W9, hW9⟩ : ∃ q, w7.drew.setCell ⟨bx, j * 6 + 5, none⟩ (.int .i64 nt) = q := ⟨_, rfl⟩
        have HS9 : Hid (KxV W9 S q n (.slice (some ⟨bx, 0, none⟩) L.length cx) (midL n now L (j + 1)) ∧ Only S w W9 ∧ OwnR 8 rcC TCm W9 w.heap.size v7 (dueK n now (L.take j) ++ [z])) := Lib.hid (by
          have hsd : KxV w7.drew S q n (.slice (some ⟨bx, 0, none⟩) L.length cx) (midL n now L j) := hs7.keep (fun _ _ => rfl) (Nat.le_refl _)
          have hset := own_set rxC_len hsd.l (mid_at HXJ.out) (x' := ⟨x.h, nt⟩) (i := 5) (by decide) (u := .int .i64 nt) rfl
          rw [← HAN.out, mid_set HXJ.out] at hset
          rw [← hW9]
          refine ⟨⟨(heap_setCell_other w7.drew ⟨bx, j * 6 + 5, none⟩ q _ hbq.symm).trans hsd.row, hsd.sp, ?_, hsd.ls, fun k hk => by have := hsd.low k hk; simpa using this⟩, ?_, ?_⟩
          · exact hset
          · exact (show Only S w w7.drew from ho7).trans (Only.setCell w7.drew ⟨bx, j * 6 + 5, none⟩ _ hbS)
          · exact own_keep (w := w7) HO7.out (fun k hk _ => heap_setCell_other w7.drew ⟨bx, j * 6 + 5, none⟩ k _ (fun (e : k = bx) => by have := (World.ownsRow.lt HO7.out k hk).1; omega)))
        obtain ⟨a7, c7, hv7⟩ := own_slice HS9.out.2.2
        clear hs7 ho7 hbS hbl hbq hcur hc5 hv7
        refine Wl.start 9 (fun u => u.cell? ⟨q, 1, none⟩ = some (.slice (some ⟨bx, 0, none⟩) L.length cx)) (fun _ => True) (by kernel_rfl) HC8.out trivial (fun hk => ?_)
        refine Wl.take (i := 0) (v := .pointer (some ⟨q, 0, none⟩)) [1, 2, 3, 7, 8, 9] rfl (by kernel_rfl) (by kernel_rfl) (by kernel_rfl) (by kernel_rfl) (by kernel_rfl) (fun _ _ _ h => h) (.inl ⟨by kernel_rfl, ?_⟩) hk ?_
        · intro wx hSw
          clear hSw hk
          go_simp
          try first | with_reducible rfl | kernel_rfl
        simp only [Act.put, List.getElem_toArray, List.getElem_cons_succ, List.getElem_cons_zero, List.setIfInBounds_toArray, List.set_cons_succ, List.set_cons_zero]
        refine Wl.take (i := 1) (v := .pointer (some ⟨q, 0, none⟩)) [2, 3, 7, 8, 9] rfl (by kernel_rfl) (by kernel_rfl) (by kernel_rfl) (by kernel_rfl) (by kernel_rfl) (fun _ _ _ h => h) (.inl ⟨by kernel_rfl, ?_⟩) hk ?_
        · intro wx hSw
          clear hSw hk
          go_simp
          try first | with_reducible rfl | kernel_rfl
        simp only [Act.put, List.getElem_toArray, List.getElem_cons_succ, List.getElem_cons_zero, List.setIfInBounds_toArray, List.set_cons_succ, List.set_cons_zero]
        refine Wl.take (i := 2) (v := .pointer (some ⟨q, 1, none⟩)) [3, 7, 8, 9] rfl (by kernel_rfl) (by kernel_rfl) (by kernel_rfl) (by kernel_rfl) (by kernel_rfl) (fun _ _ _ h => h) (.inl ⟨by kernel_rfl, ?_⟩) hk ?_
        · intro wx hSw
          clear hSw hk
          go_simp
          try first | with_reducible rfl | kernel_rfl
        simp only [Act.put, List.getElem_toArray, List.getElem_cons_succ, List.getElem_cons_zero, List.setIfInBounds_toArray, List.set_cons_succ, List.set_cons_zero]
        refine Wl.take (i := 3) (v := .slice (some ⟨bx, 0, none⟩) L.length cx) [7, 8, 9] rfl (by kernel_rfl) (by kernel_rfl) (by kernel_rfl) (by kernel_rfl) (by kernel_rfl) (fun _ _ _ h => h) (.inl ⟨by kernel_rfl, ?_⟩) hk ?_
        · intro wx hSw
          have cc := hSw.1
          clear hSw hk
          go_simp
          try first | with_reducible rfl | kernel_rfl
        simp only [Act.put, List.getElem_toArray, List.getElem_cons_succ, List.getElem_cons_zero, List.setIfInBounds_toArray, List.set_cons_succ, List.set_cons_zero]
        refine Wl.take (i := 4) (v := .int .i64 (j : Int)) [7, 8, 9] rfl (by kernel_rfl) (by kernel_rfl) (by kernel_rfl) (by kernel_rfl) (by kernel_rfl) (fun _ _ _ h => h) (.inl ⟨by kernel_rfl, ?_⟩) hk ?_
        · intro wx hSw
          clear hSw hk
          go_simp
          try first | with_reducible rfl | kernel_rfl
        simp only [Act.put, List.getElem_toArray, List.getElem_cons_succ, List.getElem_cons_zero, List.setIfInBounds_toArray, List.set_cons_succ, List.set_cons_zero]
        refine Wl.take (i := 5) (v := .int .i64 now) [6, 7, 8, 9] rfl (by kernel_rfl) (by kernel_rfl) (by kernel_rfl) (by kernel_rfl) (by kernel_rfl) (fun _ _ _ h => h) (.inl ⟨by kernel_rfl, ?_⟩) hk ?_
        · intro wx hSw
          clear hSw hk
          go_simp
          try first | with_reducible rfl | kernel_rfl
        simp only [Act.put, List.getElem_toArray, List.getElem_cons_succ, List.getElem_cons_zero, List.setIfInBounds_toArray, List.set_cons_succ, List.set_cons_zero]
        refine Wl.one (i := 6) (by kernel_rfl) rfl (fun K hK => ?_)
        go_simp
        refine (time_any now _).mono ?_
        rintro e w' ⟨rfl, rfl⟩
        rw [HNT.out]
        refine hK.out _ _ (Wl.Kn.on HC8.out trivial) (fun hk => ?_)
        clear hK K
        refine Wl.take (i := 7) (v := .pointer (some ⟨bx, j * 6, none⟩)) [8, 9] rfl (by kernel_rfl) (by kernel_rfl) (by kernel_rfl) (by kernel_rfl) (by kernel_rfl) (fun _ _ _ h => h) (.inl ⟨by kernel_rfl, ?_⟩) hk ?_
        · intro wx hSw
          have hjl := HJ.out.1
          have hji := HJ.out.2
          clear hSw hk
          go_simp
          try first | with_reducible rfl | kernel_rfl
        simp only [Act.put, List.getElem_toArray, List.getElem_cons_succ, List.getElem_cons_zero, List.setIfInBounds_toArray, List.set_cons_succ, List.set_cons_zero]
        refine Wl.take (i := 8) (v := .pointer (some ⟨bx, j * 6 + 5, none⟩)) [9] rfl (by kernel_rfl) (by kernel_rfl) (by kernel_rfl) (by kernel_rfl) (by kernel_rfl) (fun _ _ _ h => h) (.inl ⟨by kernel_rfl, ?_⟩) hk ?_
        · intro wx hSw
          clear hSw hk
          go_simp
          try first | with_reducible rfl | kernel_rfl
        simp only [Act.put, List.getElem_toArray, List.getElem_cons_succ, List.getElem_cons_zero, List.setIfInBounds_toArray, List.set_cons_succ, List.set_cons_zero]
        refine Wl.one (i := 9) (by kernel_rfl) rfl (fun K hK => ?_)
        have f1 := HF8.out.1
        have f2 := HF8.out.2
        go_simp
        try rw [hW9]
        refine hK.out _ _ (Wl.Kn.off (by kernel_rfl) trivial) (fun hk => ?_)
        clear hK K f1 f2
        refine Wl.done (by kernel_rfl) ?_ _
        clear hk
        clear hW9
        go_wp2_with fail
        go_roundw
        case rel => exact ⟨j + 1, _, rfl, by omega, by go_num, Lib.hid (by rw [HTK.out]; exact HS9.out)⟩
        case measure => simp [intOf]; omega
    · obtain rfl : j = L.length := by omega
      have HF : Hid (DueX q n now L S w (.returned v) wr) := Lib.hid (by
        have h1 := HR.out
        have e : midL n now L L.length = doneV n now L := by unfold midL doneV; rw [List.take_length, List.drop_length, List.append_nil]
        rw [List.take_length, e] at h1
        exact ⟨_, rfl, h1.2.2, ⟨_, h1.1⟩, h1.2.1⟩)
      clear HR
      go_wp2
      go_ret
      exact HF.out
/-! ### the law's sameCmds, of the same -/
def recK (x : KR) : Cmd := ⟨6, 0, x.token, [], 0, 0, x.serial, x.stamp⟩
theorem isc (z : KR) (h : z.wf) (w : World) : IsCmd w (.agg (rcA z)) (recK z) :=
  ⟨.slice none 0 0, rfl, ⟨none, 0, rfl, Nat.le_refl _, Nat.zero_le _, by simp [recK], .inl ⟨rfl, rfl, rfl⟩⟩, rfl, rfl, h.1, rfl, rfl, h.2.1, h.2.2⟩
theorem rng_below {b o : Nat} {l : List Value} (h : w.rangeAt b o l) (hb : Below w.heap.size w w') : w'.rangeAt b o l := fun j v hv => by
  have h1 := h j v hv
  have h2 := World.block_lt_of_cell? _ _ h1
  exact (hb.cell (p := ⟨b, o + j, none⟩) h2).trans h1
theorem rng_at {a : Option Addr} {m c j : Nat} {K : List KR} {z : KR} (h : SlR 8 rcC w (.slice a m c) K) (hz : K[j]? = some z) : ∃ b o, a = some ⟨b, o, none⟩ ∧ w.rangeAt b (o + j * 8) (rcC z) := by
  rcases SlR.cases h with ⟨a2, c3, e, hnil⟩ | ⟨b, off, c3, e, -, -, -, -, hc⟩
  · rw [hnil] at hz; cases hz
  · simp only [Value.slice.injEq] at e
    exact ⟨b, off, e.1, fun i v hv => by rw [Nat.add_assoc]; exact hc j z hz i v hv⟩
set_option maxHeartbeats 4000000 in
theorem sameCmds_any (K : List KR) (v u : Value) (w : World) (hv : SlR 8 rcC w v K) (hu : SlR 8 rcC w u K) (hw : ∀ z ∈ K, z.wf) :
    Calls Try.prog 16 #[v, u] w fun e w' => e = .returned (.bool true) ∧ Below w.heap.size w w' := by
  obtain ⟨a1, c1, rfl, l1, m1, -⟩ := id hv
  obtain ⟨a2, c2, rfl, l2, m2, -⟩ := id hu
  unfold maxLen at m1 m2
  have HV := Lib.hid hv
  have HU := Lib.hid hu
  have HW := Lib.hid hw
  clear hv hu hw
  go_enter Try.func16, Try.ntmps16
  go_wp2_with fail
  go_loopw [13] (fun i wr => ∃ (j : Nat), j ≤ K.length ∧ i = .int .i64 (j : Int) ∧ Hid (Below w.heap.size w wr)) (fun i _ => K.length - (intOf i).toNat)
  case atStart => exact ⟨0, Nat.zero_le _, rfl, Lib.hid (Below.refl _ _)⟩
  case round =>
    obtain ⟨j, hj, rfl, HRJ⟩ := hrel
    by_cases hlt : j < K.length
    · have hlti : (j : Int) < (K.length : Int) := by omega
      obtain ⟨z, hz⟩ : ∃ z, K[j]? = some z := ⟨_, List.getElem?_eq_getElem hlt⟩
      have HZW := Lib.hid (HW.out z (List.mem_of_getElem? hz))
      have HBR : Hid (Below w.heap.size w wr.drew) := Lib.hid HRJ.out.drew
      obtain ⟨b1, o1, rfl, r1⟩ := rng_at (HV.out.below HBR.out (Nat.le_refl _)) hz
      obtain ⟨b2, o2, rfl, r2⟩ := rng_at (HU.out.below HBR.out (Nat.le_refl _)) hz
      have HR := Lib.hid (And.intro r1 r2)
      have HJ : Hid (j < K.length ∧ (j : Int) < (K.length : Int)) := Lib.hid ⟨hlt, hlti⟩
      clear hz r1 r2
      go_upto_region 6 with fail
      refine Wl.start 999 (fun _ => True) (fun u => u.rangeAt b1 (o1 + j * 8) (rcC z) ∧ u.rangeAt b2 (o2 + j * 8) (rcC z)) (by kernel_rfl) trivial HR.out (fun hk => ?_)
      refine Wl.take0 (i := 0) (v := .slice (some ⟨b1, o1, none⟩) K.length c1) rfl (by kernel_rfl) (by kernel_rfl) (by kernel_rfl) (by kernel_rfl) (fun _ _ _ h => h) (.inl ⟨by kernel_rfl, ?_⟩) hk ?_
      · intro wx hSw
        clear hSw hk
        go_simp
        try first | with_reducible rfl | kernel_rfl
      simp only [Act.put, List.getElem_toArray, List.getElem_cons_succ, List.getElem_cons_zero, List.setIfInBounds_toArray, List.set_cons_succ, List.set_cons_zero]
      refine Wl.take0 (i := 1) (v := .int .i64 (j : Int)) rfl (by kernel_rfl) (by kernel_rfl) (by kernel_rfl) (by kernel_rfl) (fun _ _ _ h => h) (.inl ⟨by kernel_rfl, ?_⟩) hk ?_
      · intro wx hSw
        clear hSw hk
        go_simp
        try first | with_reducible rfl | kernel_rfl
      simp only [Act.put, List.getElem_toArray, List.getElem_cons_succ, List.getElem_cons_zero, List.setIfInBounds_toArray, List.set_cons_succ, List.set_cons_zero]
      refine Wl.take0 (i := 2) (v := .pointer (some ⟨b1, o1 + j * 8, none⟩)) rfl (by kernel_rfl) (by kernel_rfl) (by kernel_rfl) (by kernel_rfl) (fun _ _ _ h => h) (.inl ⟨by kernel_rfl, ?_⟩) hk ?_
      · intro wx hSw
        have hjl := HJ.out.1
        have hji := HJ.out.2
        clear hSw hk
        go_simp
        try first | with_reducible rfl | kernel_rfl
      simp only [Act.put, List.getElem_toArray, List.getElem_cons_succ, List.getElem_cons_zero, List.setIfInBounds_toArray, List.set_cons_succ, List.set_cons_zero]
      refine Wl.take0 (i := 3) (v := .agg (rcA z)) rfl (by kernel_rfl) (by kernel_rfl) (by kernel_rfl) (by kernel_rfl) (fun _ _ _ h => h) (yieldsIf_load_mid (by rfl) _ _ rfl _ _ rfl (rcC z) _ (fun w h => h.1) Try.underlying58 rfl (by kernel_rfl)) hk ?_
      simp only [Act.put, List.getElem_toArray, List.getElem_cons_succ, List.getElem_cons_zero, List.setIfInBounds_toArray, List.set_cons_succ, List.set_cons_zero]
      refine Wl.take0 (i := 4) (v := .slice (some ⟨b2, o2, none⟩) K.length c2) rfl (by kernel_rfl) (by kernel_rfl) (by kernel_rfl) (by kernel_rfl) (fun _ _ _ h => h) (.inl ⟨by kernel_rfl, ?_⟩) hk ?_
      · intro wx hSw
        clear hSw hk
        go_simp
        try first | with_reducible rfl | kernel_rfl
      simp only [Act.put, List.getElem_toArray, List.getElem_cons_succ, List.getElem_cons_zero, List.setIfInBounds_toArray, List.set_cons_succ, List.set_cons_zero]
      refine Wl.take0 (i := 5) (v := .int .i64 (j : Int)) rfl (by kernel_rfl) (by kernel_rfl) (by kernel_rfl) (by kernel_rfl) (fun _ _ _ h => h) (.inl ⟨by kernel_rfl, ?_⟩) hk ?_
      · intro wx hSw
        clear hSw hk
        go_simp
        try first | with_reducible rfl | kernel_rfl
      simp only [Act.put, List.getElem_toArray, List.getElem_cons_succ, List.getElem_cons_zero, List.setIfInBounds_toArray, List.set_cons_succ, List.set_cons_zero]
      refine Wl.take0 (i := 6) (v := .pointer (some ⟨b2, o2 + j * 8, none⟩)) rfl (by kernel_rfl) (by kernel_rfl) (by kernel_rfl) (by kernel_rfl) (fun _ _ _ h => h) (.inl ⟨by kernel_rfl, ?_⟩) hk ?_
      · intro wx hSw
        have hjl := HJ.out.1
        have hji := HJ.out.2
        clear hSw hk
        go_simp
        try first | with_reducible rfl | kernel_rfl
      simp only [Act.put, List.getElem_toArray, List.getElem_cons_succ, List.getElem_cons_zero, List.setIfInBounds_toArray, List.set_cons_succ, List.set_cons_zero]
      refine Wl.take0 (i := 7) (v := .agg (rcA z)) rfl (by kernel_rfl) (by kernel_rfl) (by kernel_rfl) (by kernel_rfl) (fun _ _ _ h => h) (yieldsIf_load_mid (by rfl) _ _ rfl _ _ rfl (rcC z) _ (fun w h => h.2) Try.underlying58 rfl (by kernel_rfl)) hk ?_
      simp only [Act.put, List.getElem_toArray, List.getElem_cons_succ, List.getElem_cons_zero, List.setIfInBounds_toArray, List.set_cons_succ, List.set_cons_zero]
      refine Wl.one (i := 8) (by kernel_rfl) rfl (fun K hK => ?_)
      go_simp
      refine (Cm.same_true (recK z) _ _ _ (isc z HZW.out _) (isc z HZW.out _)).mono ?_
      rintro e w5 ⟨rfl, hb5⟩
      have HB5 := Lib.hid (HBR.out.trans (hb5.mono HBR.out.size))
      have HR5 := Lib.hid (And.intro (rng_below HR.out.1 hb5) (rng_below HR.out.2 hb5))
      clear hb5
      refine hK.out _ _ (Wl.Kn.on trivial HR5.out) (fun hk => ?_)
      clear hK K
      refine Wl.take0 (i := 9) (v := .bool false) rfl (by kernel_rfl) (by kernel_rfl) (by kernel_rfl) (by kernel_rfl) (fun _ _ _ h => h) (.inl ⟨by kernel_rfl, ?_⟩) hk ?_
      · intro wx hSw
        clear hSw hk
        go_simp
        try first | with_reducible rfl | kernel_rfl
      simp only [Act.put, List.getElem_toArray, List.getElem_cons_succ, List.getElem_cons_zero, List.setIfInBounds_toArray, List.set_cons_succ, List.set_cons_zero]
      refine Wl.done (by kernel_rfl) ?_ _
      clear hk
      clear HR HR5
      go_wp2_with fail
      go_roundw
      case rel => exact ⟨j + 1, by omega, by go_num, HB5⟩
      case measure => simp [intOf]; omega
    · obtain rfl : j = K.length := by omega
      go_wp2
      go_ret
      exact ⟨rfl, HRJ.out⟩
end Ls
end Go.Proofs.Ytgbblegcjladaaa
