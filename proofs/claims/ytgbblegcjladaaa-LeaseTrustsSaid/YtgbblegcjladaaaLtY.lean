/- The document's wallet in memory: New. No condition. The document's wallet: without. No condition. The document's wallet: Drop. No condition. -/
import Derived.Test.YtgbblegcjladaaaLtH
namespace Go.Proofs.Ytgbblegcjladaaa
open Go.ChangeShapes Go.WideShapes Go.ChangeAt Go.RowKit Go.Deep Go.Maps Go.ChangeMaps Go.MapKept
set_option linter.unusedVariables false
set_option maxRecDepth 100000
set_option linter.unusedSimpArgs false
namespace Lt
open Mp Mc
abbrev TX : TypeId := 120
abbrev TXT : TypeId := 121
abbrev rwA (n now sent : Int) (is : Bool) (c : Cmd) (vl : Value) : Array Value := #[.int .i64 n, .int .i64 now, .int .i64 sent, .bool is, .int .i64 c.kind, .int .i64 c.node, .int .i64 c.token, .slice none 0 0, .int .u64 c.boot, .int .u64 c.seq, .int .u64 c.serial, .int .u64 c.stamp, vl]
/-- the document's wallet in the state s: when was asked is kept behind the answer, so it is free where nothing is asked -/
structure RwG (q : Nat) (n : Int) (s : Wa) (sent : Int) (vl : Value) (w : World) (S : Nat → Prop) : Prop where
  row : w.heap[q]? = some (.cells (rwA n s.now sent (s.c.kind != 0) s.c vl) TX (0, 0))
  sq : S q
  at_ : s.c.kind ≠ 0 → sent = s.made
  srt : Srt s.L
  wf : ∀ x ∈ s.L, x.wf
  l : OwnR 3 trC TXT w 0 vl s.L
  hs : ∀ k, vl.ownBlock = some k → S k
  low : ∀ k, S k → k < w.heap.size
def RwX (q : Nat) (n : Int) (s : Wa) (w : World) (S : Nat → Prop) : Prop := ∃ sent vl, RwG q n s sent vl w S
variable {w w' : World} {S : Nat → Prop} {q : Nat} {n sent : Int} {s : Wa} {vl : Value}
theorem RwG.keep (h : RwG q n s sent vl w S) (hb : ∀ k, S k → w'.heap[k]? = w.heap[k]?) (hz : w.heap.size ≤ w'.heap.size) : RwG q n s sent vl w' S :=
  ⟨(hb q h.sq).trans h.row, h.sq, h.at_, h.srt, h.wf, own_keep h.l (fun k hk _ => hb k (h.hs k hk)), h.hs, fun k hk => Nat.lt_of_lt_of_le (h.low k hk) hz⟩
theorem goodR (q : Nat) (n : Int) (s : Wa) : Mc.Good (RwX q n s) :=
  ⟨fun ⟨_, _, h⟩ => h.low, fun ⟨_, _, h⟩ hb hz => ⟨_, _, h.keep hb hz⟩⟩
def RnewW (n : Int) (w : World) (e : Ending) (w' : World) : Prop :=
  (0 ≤ n ∧ n ≤ 1073741824 ∧ (∃ q, e = .returned (.tuple #[.pointer (some ⟨q, 0, none⟩), .int .i64 0]) ∧ RwX q n newW w' (fun k => k = q) ∧ w.heap.size ≤ q) ∧ Below w.heap.size w w') ∨ (¬ (0 ≤ n ∧ n ≤ 1073741824) ∧ e = .returned (.tuple #[.pointer none, .int .i64 1]) ∧ w' = w)
set_option maxHeartbeats 4000000 in
theorem rnew_any (n : Int) (w : World) : Calls Try.prog 23 #[.int .i64 n] w (RnewW n w) := by
  by_cases h1 : n < 0
  · have HF : Hid (¬ (0 ≤ n ∧ n ≤ 1073741824)) := Lib.hid (by omega)
    go_enter Try.func23, Try.ntmps23
    go_wp2
    go_ret2
    exact .inr ⟨HF.out, rfl, rfl⟩
  by_cases h2 : 1073741824 < n
  · have HF : Hid (¬ (0 ≤ n ∧ n ≤ 1073741824)) := Lib.hid (by omega)
    go_enter Try.func23, Try.ntmps23
    go_wp2
    go_ret2
    exact .inr ⟨HF.out, rfl, rfl⟩
  obtain ⟨q, hq⟩ : ∃ z, w.heap.size = z := ⟨_, rfl⟩
  obtain ⟨W1, hW1⟩ : ∃ z, w.alloc (.cells #[.int .i64 n, .int .i64 0, .int .i64 0, .bool false, .int .i64 0, .int .i64 0, .int .i64 0, .slice none 0 0, .int .u64 0, .int .u64 0, .int .u64 0, .int .u64 0, .slice none 0 0] TX) = z := ⟨_, rfl⟩
  have hb1 : Below w.heap.size w W1 := by rw [← hW1]; exact (Below.refl _ _).alloc (Nat.le_refl _) _
  have hr : W1.heap[q]? = some (.cells (rwA n 0 0 false zCm (.slice none 0 0)) TX (0, 0)) := by rw [← hW1, ← hq]; exact heap_alloc_new _ _
  have HF : Hid (RwX q n newW W1 (fun k => k = q) ∧ w.heap.size ≤ q ∧ Below w.heap.size w W1) := Lib.hid
    ⟨⟨0, .slice none 0 0, hr, rfl, fun _ => rfl, Srt.nil, fun _ h => absurd h List.not_mem_nil, OwnR.nil _ _ _, (fun k hk => by cases hk), fun k hk => hk ▸ row_lt hr⟩, Nat.le_of_eq hq, hb1⟩
  have HN : Hid (0 ≤ n ∧ n ≤ 1073741824) := Lib.hid (by omega)
  clear hr hb1
  go_enter Try.func23, Try.ntmps23
  go_wp2_with (first | rw [hW1, hq])
  go_ret2
  exact .inl ⟨HN.out.1, HN.out.2, ⟨q, rfl, HF.out.1, HF.out.2.1⟩, HF.out.2.2⟩
end Lt
end Go.Proofs.Ytgbblegcjladaaa
namespace Go.Proofs.Ytgbblegcjladaaa
open Go.ChangeShapes Go.WideShapes Go.ChangeAt Go.RowKit Go.Deep Go.Maps Go.ChangeMaps Go.MapKept
set_option linter.unusedVariables false
set_option maxRecDepth 100000
set_option linter.unusedSimpArgs false
namespace Lt
open Mp Mc
variable {w w' : World} {S : Nat → Prop} {q : Nat} {n sent : Int} {s : Wa} {vl : Value}
theorem info_trx : (Try.prog.info? TXT).map (fun i => (i.zero, i.size, i.bytes)) = some (some (.agg #[.int .i64 0, .int .u64 0, .int .i64 0]), 3, 24) := by kernel_rfl
theorem tr_cells {b off j : Nat} {x : Tr} (h : ∀ i u, (trC x)[i]? = some u → w.cell? ⟨b, off + (j * 3 + i), none⟩ = some u) : w.cell? ⟨b, off + j * 3, none⟩ = some (.int .i64 x.tok) ∧ w.cell? ⟨b, off + j * 3 + 1, none⟩ = some (.int .u64 x.ser) ∧ w.cell? ⟨b, off + j * 3 + 2, none⟩ = some (.int .i64 x.til) :=
  ⟨h 0 _ rfl, h 1 _ rfl, h 2 _ rfl⟩
set_option maxRecDepth 100000 in
set_option maxHeartbeats 16000000 in
theorem rwo_any (t : Int) (w : World) (h : RwX q n s w S) (hn : s.L.length ≤ 1000) :
    Calls Try.prog 54 #[.pointer (some ⟨q, 0, none⟩), .int .i64 t] w fun e w' => ∃ v, e = .returned v ∧ OwnR 3 trC TXT w' w.heap.size v (woV t s.L) ∧ Below w.heap.size w w' := by
  obtain ⟨sent, vl, h⟩ := h
  obtain ⟨al, cl, rfl⟩ := own_slice h.l
  have c12 : w.cell? ⟨q, 12, none⟩ = some (.slice al s.L.length cl) := (cell_of_row _ _ 12 _ _ _ h.row).trans rfl
  have HS : Hid (∀ w', Below w.heap.size w w' → SlR 3 trC w' (.slice al s.L.length cl) s.L) := Lib.hid (fun w' hb => (h.l.below hb (Nat.le_refl _)).sl trC_len)
  obtain ⟨L, hL⟩ : ∃ z, s.L = z := ⟨_, rfl⟩
  rw [hL] at c12 HS hn ⊢
  have hlm : (L.length : Int) ≤ 1000 := by omega
  clear h hL
  go_enter Try.func54, Try.ntmps54
  go_wp2_with fail
  clear c12
  go_loopw [5, 13] (fun u i wr => ∃ (j : Nat) (v : Value), v = u ∧ j ≤ L.length ∧ i = .int .i64 (j : Int) ∧ Hid (OwnR 3 trC TXT wr w.heap.size v (woV t (L.take j)) ∧ Below w.heap.size w wr)) (fun _ i _ => L.length - (intOf i).toNat)
  case atStart => exact ⟨0, _, rfl, Nat.zero_le _, rfl, Lib.hid ⟨OwnR.nil _ _ _, Below.refl _ _⟩⟩
  case round =>
    obtain ⟨j, v, rfl, hj, rfl, HR⟩ := hrel
    by_cases hlt : j < L.length
    · have hlti : (j : Int) < (L.length : Int) := by omega
      obtain ⟨x, hx⟩ : ∃ x, L[j]? = some x := ⟨_, List.getElem?_eq_getElem hlt⟩
      have HTK : Hid (woV t (L.take (j + 1)) = woV t (L.take j) ++ (if x.tok != t then [x] else [])) := Lib.hid (by
        unfold woV
        rw [List.take_add_one, hx, List.filter_append]
        congr 1
        simp only [Option.toList_some, List.filter_cons, List.filter_nil])
      obtain ⟨b0, off, rfl, y0, y1, y2⟩ : ∃ b off, al = some ⟨b, off, none⟩ ∧ wr.cell? ⟨b, off + j * 3, none⟩ = some (.int .i64 x.tok) ∧ wr.cell? ⟨b, off + j * 3 + 1, none⟩ = some (.int .u64 x.ser) ∧ wr.cell? ⟨b, off + j * 3 + 2, none⟩ = some (.int .i64 x.til) := by
        rcases SlR.cases (HS.out wr HR.out.2) with ⟨a9, c9, e, hnil⟩ | ⟨b, off, c9, e, -, -, -, -, hc⟩
        · rw [hnil] at hlt; simp at hlt
        · simp only [Value.slice.injEq] at e
          exact ⟨b, off, e.1, tr_cells (hc j _ hx)⟩
      obtain ⟨g2, hg2⟩ : ∃ z, wr.heap.size = z := ⟨_, rfl⟩
      obtain ⟨W5, hW5⟩ : ∃ z, wr.alloc (.cells #[.int .i64 x.tok, .int .u64 x.ser, .int .i64 x.til] TXT) = z := ⟨_, rfl⟩
      have hr5 : W5.heap[g2]? = some (.cells #[.int .i64 x.tok, .int .u64 x.ser, .int .i64 x.til] TXT (0, 0)) := by rw [← hW5, ← hg2]; exact heap_alloc_new _ _
      have HO5 : Hid (OwnR 3 trC TXT W5 w.heap.size v (woV t (L.take j)) ∧ Below w.heap.size w W5) := Lib.hid (by rw [← hW5]; exact ⟨HR.out.1.alloc _, HR.out.2.alloc HR.out.2.size _⟩)
      have d0 : W5.cell? ⟨g2, 0, none⟩ = some (.int .i64 x.tok) := (cell_of_row _ _ 0 _ _ _ hr5).trans rfl
      have d1 : W5.cell? ⟨g2, 1, none⟩ = some (.int .u64 x.ser) := (cell_of_row _ _ 1 _ _ _ hr5).trans rfl
      have d2 : W5.cell? ⟨g2, 2, none⟩ = some (.int .i64 x.til) := (cell_of_row _ _ 2 _ _ _ hr5).trans rfl
      have HJL : Hid ((woV t (L.take j)).length ≤ j ∧ j < 1000) := Lib.hid ⟨Nat.le_trans (List.length_filter_le _ _) (List.length_take_le _ _), by omega⟩
      clear hr5 HR hx
      cases hb : (x.tok != t)
      · rw [hb] at HTK
        have HTK2 : Hid (woV t (L.take (j + 1)) = woV t (L.take j)) := Lib.hid (by rw [HTK.out]; simp)
        clear HTK
        go_wp2_with (first | rw [hW5, hg2])
        go_roundw
        case rel => exact ⟨j + 1, _, rfl, by omega, by go_num, Lib.hid ⟨by rw [HTK2.out]; exact HO5.out.1, HO5.out.2⟩⟩
        case measure => simp [intOf]; omega
      · rw [hb] at HTK
        have HTK2 : Hid (woV t (L.take (j + 1)) = woV t (L.take j) ++ [x]) := Lib.hid (by rw [HTK.out]; simp)
        clear HTK
        obtain ⟨W6, hW6⟩ : ∃ z, W5.alloc (.cells #[.int .i64 x.tok, .int .u64 x.ser, .int .i64 x.til] TXT) = z := ⟨_, rfl⟩
        have HLIT : Hid (SlR 3 trC W6 (.slice (some ⟨W5.heap.size, 0, none⟩) 1 1) [x]) := Lib.hid (by rw [← hW6]; exact SlR.one trC_len W5 _ rfl _ x rfl)
        have HO6 : Hid (OwnR 3 trC TXT W6 w.heap.size v (woV t (L.take j)) ∧ Below w.heap.size w W6) := Lib.hid (by rw [← hW6]; exact ⟨HO5.out.1.alloc _, HO5.out.2.alloc HO5.out.2.size _⟩)
        go_wp2_with (first | rw [hW5, hg2] | rw [hW6] | (at_builtin; refine appR trC_len trC_one Try.underlying64 rfl (by decide) info_trx rfl (.tmp 21) (.tmp 23) rfl w.heap.size v (woV t (L.take j)) rfl HO6.out.1 (.slice (some ⟨W5.heap.size, 0, none⟩) 1 1) [x] rfl HLIT.out (by have := HJL.out; unfold maxLen; simp only [List.length_singleton]; omega) (by have := HJL.out; simp only [List.length_singleton]; omega) HO6.out.2.size ?_; intro v7 w7 own7 bel7; have HO7 := Lib.hid own7; have HB7 := Lib.hid (HO6.out.2.trans bel7); clear own7 bel7))
        go_roundw
        case rel => exact ⟨j + 1, _, rfl, by omega, by go_num, Lib.hid ⟨by rw [HTK2.out]; exact HO7.out, HB7.out⟩⟩
        case measure => simp [intOf]; omega
    · obtain rfl : j = L.length := by omega
      have HE := Lib.hid HR.out
      clear HR
      go_wp2
      go_ret
      exact ⟨_, rfl, by have := HE.out.1; rw [List.take_length] at this; exact this, HE.out.2⟩
end Lt
end Go.Proofs.Ytgbblegcjladaaa
namespace Go.Proofs.Ytgbblegcjladaaa
open Go.ChangeShapes Go.WideShapes Go.ChangeAt Go.RowKit Go.Deep Go.Maps Go.ChangeMaps Go.MapKept
set_option linter.unusedVariables false
set_option maxRecDepth 100000
set_option linter.unusedSimpArgs false
namespace Lt
open Mp Mc
variable {w w' w5 : World} {S : Nat → Prop} {q : Nat} {n sent : Int} {s : Wa} {vl v : Value} {L' : List Tr}
/-- a new list is stored -/
theorem RwG.setl (h : RwG q n s sent vl w S) (hb : Below w.heap.size w w5) (hv : OwnR 3 trC TXT w5 w.heap.size v L') (hs : Srt L') (hw : ∀ x ∈ L', x.wf) : Mc.Left (RwX q n { s with L := L' }) S w (w5.setCell ⟨q, 12, none⟩ v) := by
  have hq := row_lt h.row
  have hr5 := (hb.block q hq).trans h.row
  have hne : ∀ k, v.ownBlock = some k → k ≠ q ∧ w.heap.size ≤ k ∧ k < w5.heap.size := fun k hk => by have := World.ownsRow.lt hv k hk; omega
  have hz : (w5.setCell ⟨q, 12, none⟩ v).heap.size = w5.heap.size := by simp
  have hl : OwnR 3 trC TXT (w5.setCell ⟨q, 12, none⟩ v) w.heap.size v L' := own_keep hv (fun k hk _ => heap_setCell_other w5 ⟨q, 12, none⟩ k _ (hne k hk).1)
  refine ⟨⟨fun k => k = q ∨ v.ownBlock = some k, ⟨sent, v, (heap_setCell_same w5 q 12 _ TX v hr5).trans rfl, .inl rfl, h.at_, hs, hw, ownsRow_base_a hl (Nat.zero_le _), fun k hk => .inr hk, fun k hk => ?_⟩, fun k hk => ?_⟩, (Below.only hb S).trans (Only.setCell w5 ⟨q, 12, none⟩ _ h.sq)⟩
  · rw [hz]
    rcases hk with rfl | hk
    · have := hb.size; omega
    · exact (hne k hk).2.2
  · rcases hk with rfl | hk
    · exact .inl h.sq
    · exact .inr ⟨(hne k hk).2.1, by rw [hz]; exact (hne k hk).2.2⟩
set_option maxHeartbeats 8000000 in
theorem rdrop_any (t : Int) (w : World) (h : RwX q n s w S) (hn : s.L.length ≤ 1000) :
    Calls Try.prog 33 #[.pointer (some ⟨q, 0, none⟩), .int .i64 t] w fun e w' => e = .returned (.int .i64 (if (fnd s.L t).isSome then 0 else 4)) ∧ Mc.Left (RwX q n { s with L := woV t s.L }) S w w' := by
  have HX := Lib.hid h
  obtain ⟨sent, vl, h⟩ := h
  obtain ⟨al, cl, rfl⟩ := own_slice h.l
  have c12 : w.cell? ⟨q, 12, none⟩ = some (.slice al s.L.length cl) := (cell_of_row _ _ 12 _ _ _ h.row).trans rfl
  have H := Lib.hid h
  have HN := Lib.hid hn
  clear h
  cases hf : fnd s.L t with
  | none =>
    have HW0 : Hid (woV t s.L = s.L) := Lib.hid (wo_same hf)
    simp only [Option.isSome_none, Bool.false_eq_true, if_false]
    clear hf
    go_enter Try.func33, Try.ntmps33
    go_wp2_with fail
    refine (rwo_any t w HX.out HN.out).mono ?_
    rintro e w5 ⟨v, rfl, ho, hb⟩
    obtain ⟨av, cv, rfl⟩ := own_slice ho
    have hr5 := (hb.block q (row_lt H.out.row)).trans H.out.row
    have e12 : w5.cell? ⟨q, 12, none⟩ = some (.slice al s.L.length cl) := (cell_of_row _ _ 12 _ _ _ hr5).trans rfl
    have f12 : w5.frozen? ⟨q, 12, none⟩ = false := frozen_of_row w5 _ _ _ _ hr5
    obtain ⟨W6, hW6⟩ : ∃ z, w5.setCell ⟨q, 12, none⟩ (.slice av (woV t s.L).length cv) = z := ⟨_, rfl⟩
    have g12 : W6.cell? ⟨q, 12, none⟩ = some (.slice av (woV t s.L).length cv) := by
      have : W6.heap[q]? = some (.cells (rwA n s.now sent (s.c.kind != 0) s.c (.slice av (woV t s.L).length cv)) TX (0, 0)) := by rw [← hW6]; exact (heap_setCell_same w5 q 12 _ TX _ hr5).trans rfl
      exact (cell_of_row _ _ 12 _ _ _ this).trans rfl
    have HF : Hid (Mc.Left (RwX q n { s with L := woV t s.L }) S w W6) := Lib.hid (by rw [← hW6]; exact H.out.setl hb ho (H.out.srt.wo t) (fun x hx => H.out.wf x (mem_wo.1 hx).1))
    clear ho hb hr5 c12
    obtain ⟨m, hm⟩ : ∃ z, (woV t s.L).length = z := ⟨_, rfl⟩
    have he : ((m : Int) == (s.L.length : Int)) = true := by rw [← hm, HW0.out]; simp
    have he3 : (m == s.L.length) = true := by rw [← hm, HW0.out]; simp
    rw [hm] at hW6 g12 ⊢
    go_wp2_with (first | rw [hW6])
    go_ret
    exact ⟨rfl, HF.out⟩
  | some x =>
    have HL : Hid ((woV t s.L).length < s.L.length) := Lib.hid (wo_len H.out.srt hf)
    simp only [Option.isSome_some, if_true]
    clear hf
    go_enter Try.func33, Try.ntmps33
    go_wp2_with fail
    refine (rwo_any t w HX.out HN.out).mono ?_
    rintro e w5 ⟨v, rfl, ho, hb⟩
    obtain ⟨av, cv, rfl⟩ := own_slice ho
    have hr5 := (hb.block q (row_lt H.out.row)).trans H.out.row
    have e12 : w5.cell? ⟨q, 12, none⟩ = some (.slice al s.L.length cl) := (cell_of_row _ _ 12 _ _ _ hr5).trans rfl
    have f12 : w5.frozen? ⟨q, 12, none⟩ = false := frozen_of_row w5 _ _ _ _ hr5
    obtain ⟨W6, hW6⟩ : ∃ z, w5.setCell ⟨q, 12, none⟩ (.slice av (woV t s.L).length cv) = z := ⟨_, rfl⟩
    have g12 : W6.cell? ⟨q, 12, none⟩ = some (.slice av (woV t s.L).length cv) := by
      have : W6.heap[q]? = some (.cells (rwA n s.now sent (s.c.kind != 0) s.c (.slice av (woV t s.L).length cv)) TX (0, 0)) := by rw [← hW6]; exact (heap_setCell_same w5 q 12 _ TX _ hr5).trans rfl
      exact (cell_of_row _ _ 12 _ _ _ this).trans rfl
    have HF : Hid (Mc.Left (RwX q n { s with L := woV t s.L }) S w W6) := Lib.hid (by rw [← hW6]; exact H.out.setl hb ho (H.out.srt.wo t) (fun x hx => H.out.wf x (mem_wo.1 hx).1))
    clear ho hb hr5 c12
    have he2 : ¬ (woV t s.L).length = s.L.length := by have := HL.out; omega
    have he : (((woV t s.L).length : Int) == (s.L.length : Int)) = false := beq_eq_false_iff_ne.2 (by omega)
    go_wp2_with (first | rw [hW6])
    go_ret
    exact ⟨rfl, HF.out⟩
end Lt
end Go.Proofs.Ytgbblegcjladaaa
