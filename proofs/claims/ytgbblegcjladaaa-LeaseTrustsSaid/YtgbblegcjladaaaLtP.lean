/- The document's wallet: with. No condition. -/
import Derived.Test.YtgbblegcjladaaaLtM
namespace Go.Proofs.Ytgbblegcjladaaa
open Go.ChangeShapes Go.WideShapes Go.ChangeAt Go.RowKit Go.Deep Go.Maps Go.ChangeMaps Go.MapKept
set_option linter.unusedVariables false
set_option maxRecDepth 100000
set_option linter.unusedSimpArgs false
namespace Lt
open Mp Mc
variable {w w' w5 : World} {S : Nat → Prop} {q : Nat} {n sent : Int} {s : Wa} {vl v : Value} {L' : List Tr}
set_option maxRecDepth 100000 in
set_option maxHeartbeats 16000000 in
theorem rwi_any (x : Tr) (w : World) (h : RwX q n s w S) (hn : s.L.length ≤ 1000) :
    Calls Try.prog 53 #[.pointer (some ⟨q, 0, none⟩), .agg #[.int .i64 x.tok, .int .u64 x.ser, .int .i64 x.til]] w fun e w' => ∃ v, e = .returned v ∧ OwnR 3 trC TXT w' w.heap.size v (wiV x s.L) ∧ Below w.heap.size w w' := by
  obtain ⟨g3, hg3⟩ : ∃ z, w.heap.size = z := ⟨_, rfl⟩
  obtain ⟨W1, hW1⟩ : ∃ z, w.alloc (.cells #[.int .i64 x.tok, .int .u64 x.ser, .int .i64 x.til] TXT) = z := ⟨_, rfl⟩
  have hb1 : Below w.heap.size w W1 := by rw [← hW1]; exact (Below.refl _ _).alloc (Nat.le_refl _) _
  have hr1 : W1.heap[g3]? = some (.cells #[.int .i64 x.tok, .int .u64 x.ser, .int .i64 x.til] TXT (0, 0)) := by rw [← hW1, ← hg3]; exact heap_alloc_new _ _
  have HX1 := Lib.hid ((goodR q n s).below h hb1)
  have HB1 := Lib.hid hb1
  have HR1 := Lib.hid hr1
  have x0 : W1.cell? ⟨g3, 0, none⟩ = some (.int .i64 x.tok) := (cell_of_row _ _ 0 _ _ _ hr1).trans rfl
  have x1 : W1.cell? ⟨g3, 1, none⟩ = some (.int .u64 x.ser) := (cell_of_row _ _ 1 _ _ _ hr1).trans rfl
  have x2 : W1.cell? ⟨g3, 2, none⟩ = some (.int .i64 x.til) := (cell_of_row _ _ 2 _ _ _ hr1).trans rfl
  have HN := Lib.hid hn
  clear h hb1 hr1
  go_enter Try.func53, Try.ntmps53
  go_wp2_with (first | rw [hW1, hg3])
  refine (rwo_any x.tok W1 HX1.out HN.out).mono ?_
  rintro e w2 ⟨v1, rfl, ho2, hb2⟩
  obtain ⟨M, hM⟩ : ∃ z, woV x.tok s.L = z := ⟨_, rfl⟩
  have HM := Lib.hid hM
  rw [hM] at ho2
  obtain ⟨al, cl, rfl⟩ := own_slice ho2
  have hml : M.length ≤ 1000 := by rw [← hM]; exact Nat.le_trans (List.length_filter_le _ _) HN.out
  have hlm : (M.length : Int) ≤ 1000 := by omega
  have HR2 : Hid (w2.heap[g3]? = some (.cells #[.int .i64 x.tok, .int .u64 x.ser, .int .i64 x.til] TXT (0, 0))) := Lib.hid ((hb2.block g3 (row_lt HR1.out)).trans HR1.out)
  have HS5 : Hid (∀ wr, Below w2.heap.size w2 wr → SlR 3 trC wr (.slice al M.length cl) M ∧ wr.heap[g3]? = some (.cells #[.int .i64 x.tok, .int .u64 x.ser, .int .i64 x.til] TXT (0, 0))) := Lib.hid (fun wr hb => ⟨(ho2.below hb (Nat.le_refl _)).sl trC_len, (hb.block g3 (row_lt HR2.out)).trans HR2.out⟩)
  have HB2 := Lib.hid (HB1.out.trans (hb2.mono HB1.out.size))
  clear hM ho2 hb2 x0 x1 x2 hW1 hn
  go_wp2_with fail
  go_loopw [5, 6, 14] (fun u5 u6 i wr => ∃ (j : Nat) (v : Value), v = u5 ∧ u6 = .bool (insK x M j).2 ∧ j ≤ M.length ∧ i = .int .i64 (j : Int) ∧ Hid (OwnR 3 trC TXT wr w2.heap.size v (insK x M j).1 ∧ Below w2.heap.size w2 wr)) (fun _ _ i _ => M.length - (intOf i).toNat)
  case atStart => exact ⟨0, _, rfl, rfl, Nat.zero_le _, rfl, Lib.hid ⟨OwnR.nil _ _ _, Below.refl _ _⟩⟩
  case round =>
    obtain ⟨j, v, rfl, rfl, hj, rfl, HR⟩ := hrel
    obtain ⟨d, hd⟩ : ∃ z, (insK x M j).2 = z := ⟨_, rfl⟩
    have HD := Lib.hid hd
    rw [hd]
    clear hd
    have hxr := (HS5.out wr HR.out.2).2
    have x0 : wr.cell? ⟨g3, 0, none⟩ = some (.int .i64 x.tok) := (cell_of_row _ _ 0 _ _ _ hxr).trans rfl
    have x1 : wr.cell? ⟨g3, 1, none⟩ = some (.int .u64 x.ser) := (cell_of_row _ _ 1 _ _ _ hxr).trans rfl
    have x2 : wr.cell? ⟨g3, 2, none⟩ = some (.int .i64 x.til) := (cell_of_row _ _ 2 _ _ _ hxr).trans rfl
    by_cases hlt : j < M.length
    · have hlti : (j : Int) < (M.length : Int) := by omega
      obtain ⟨y, hy⟩ : ∃ y, M[j]? = some y := ⟨_, List.getElem?_eq_getElem hlt⟩
      obtain ⟨b0, off, rfl, y0, y1, y2⟩ : ∃ b off, al = some ⟨b, off, none⟩ ∧ wr.cell? ⟨b, off + j * 3, none⟩ = some (.int .i64 y.tok) ∧ wr.cell? ⟨b, off + j * 3 + 1, none⟩ = some (.int .u64 y.ser) ∧ wr.cell? ⟨b, off + j * 3 + 2, none⟩ = some (.int .i64 y.til) := by
        rcases SlR.cases (HS5.out wr HR.out.2).1 with ⟨a9, c9, e, hnil⟩ | ⟨b, off, c9, e, -, -, -, -, hc⟩
        · rw [hnil] at hy; simp at hy
        · simp only [Value.slice.injEq] at e
          exact ⟨b, off, e.1, tr_cells (hc j _ hy)⟩
      obtain ⟨g2, hg2⟩ : ∃ z, wr.heap.size = z := ⟨_, rfl⟩
      obtain ⟨W6, hW6⟩ : ∃ z, wr.alloc (.cells #[.int .i64 y.tok, .int .u64 y.ser, .int .i64 y.til] TXT) = z := ⟨_, rfl⟩
      have hr6 : W6.heap[g2]? = some (.cells #[.int .i64 y.tok, .int .u64 y.ser, .int .i64 y.til] TXT (0, 0)) := by rw [← hW6, ← hg2]; exact heap_alloc_new _ _
      have H6 : Hid (OwnR 3 trC TXT W6 w2.heap.size v (insK x M j).1 ∧ Below w2.heap.size w2 W6 ∧ W6.heap[g2]? = some (.cells #[.int .i64 y.tok, .int .u64 y.ser, .int .i64 y.til] TXT (0, 0)) ∧ w2.heap.size ≤ g2 ∧ ∀ k, v.ownBlock = some k → k < g2) := Lib.hid ⟨by rw [← hW6]; exact HR.out.1.alloc _, by rw [← hW6]; exact HR.out.2.alloc HR.out.2.size _, hr6, by rw [← hg2]; exact HR.out.2.size, fun k hk => by rw [← hg2]; exact (World.ownsRow.lt HR.out.1 k hk).2⟩
      have d0 : W6.cell? ⟨g2, 0, none⟩ = some (.int .i64 y.tok) := (cell_of_row _ _ 0 _ _ _ hr6).trans rfl
      have d1 : W6.cell? ⟨g2, 1, none⟩ = some (.int .u64 y.ser) := (cell_of_row _ _ 1 _ _ _ hr6).trans rfl
      have d2 : W6.cell? ⟨g2, 2, none⟩ = some (.int .i64 y.til) := (cell_of_row _ _ 2 _ _ _ hr6).trans rfl
      have hx6 := (HS5.out W6 H6.out.2.1).2
      have z0 : W6.cell? ⟨g3, 0, none⟩ = some (.int .i64 x.tok) := (cell_of_row _ _ 0 _ _ _ hx6).trans rfl
      have z1 : W6.cell? ⟨g3, 1, none⟩ = some (.int .u64 x.ser) := (cell_of_row _ _ 1 _ _ _ hx6).trans rfl
      have z2 : W6.cell? ⟨g3, 2, none⟩ = some (.int .i64 x.til) := (cell_of_row _ _ 2 _ _ _ hx6).trans rfl
      have HJL : Hid ((insK x M j).1.length ≤ j + 1 ∧ j < 1000) := Lib.hid ⟨insK_len _ _ _, by omega⟩
      clear hr6 HR hxr hx6
      cases d
      · by_cases hc : x.tok < y.tok
        · have HWHY := Lib.hid (insK_now hy HD.out hc)
          clear hy
          obtain ⟨W7, hW7⟩ : ∃ z, W6.alloc (.cells #[.int .i64 x.tok, .int .u64 x.ser, .int .i64 x.til] TXT) = z := ⟨_, rfl⟩
          have HLIX : Hid (SlR 3 trC W7 (.slice (some ⟨W6.heap.size, 0, none⟩) 1 1) [x]) := Lib.hid (by rw [← hW7]; exact SlR.one trC_len W6 _ rfl _ x rfl)
          have hb7 : Below W6.heap.size W6 W7 := by rw [← hW7]; exact (Below.refl _ _).alloc (Nat.le_refl _) _
          have H7 : Hid (OwnR 3 trC TXT W7 w2.heap.size v (insK x M j).1 ∧ Below w2.heap.size w2 W7 ∧ W7.heap[g2]? = some (.cells #[.int .i64 y.tok, .int .u64 y.ser, .int .i64 y.til] TXT (0, 0))) := Lib.hid ⟨by rw [← hW7]; exact H6.out.1.alloc _, by rw [← hW7]; exact H6.out.2.1.alloc H6.out.2.1.size _, (hb7.block g2 (row_lt H6.out.2.2.1)).trans H6.out.2.2.1⟩
          clear hb7
          go_upto_region 9 with (first | rw [hW6, hg2] | rw [hW7] | (at_builtin; refine appRq trC_len Try.underlying64 rfl (by decide) info_trx rfl (.tmp 27) (.tmp 29) rfl w2.heap.size v ((insK x M j).1) rfl H7.out.1 (.slice (some ⟨W6.heap.size, 0, none⟩) 1 1) [x] rfl HLIX.out Nat.zero_lt_one (fun y _ => trC_one y) (by have := HJL.out; unfold maxLen; simp only [List.length_singleton, List.length_append]; omega) (by have := HJL.out; simp only [List.length_singleton, List.length_append]; omega) H7.out.2.1.size ?_; intro gb5 cap5 w5 own5 gr5 ly5; have H5 := Lib.hid (And.intro own5 gr5); clear own5 gr5 ly5))
          clear d0 d1 d2 z0 z1 z2 x0 x1 x2 y0 y1 y2 hW7 hW6 hg2
          have hr5 : w5.heap[g2]? = some (.cells #[.int .i64 y.tok, .int .u64 y.ser, .int .i64 y.til] TXT (0, 0)) := (H5.out.2.block g2 (row_lt H7.out.2.2) (fun e => by have := H6.out.2.2.2.2 g2 e.symm; omega)).trans H7.out.2.2
          have d0 : w5.cell? ⟨g2, 0, none⟩ = some (.int .i64 y.tok) := (cell_of_row _ _ 0 _ _ _ hr5).trans rfl
          have d1 : w5.cell? ⟨g2, 1, none⟩ = some (.int .u64 y.ser) := (cell_of_row _ _ 1 _ _ _ hr5).trans rfl
          have d2 : w5.cell? ⟨g2, 2, none⟩ = some (.int .i64 y.til) := (cell_of_row _ _ 2 _ _ _ hr5).trans rfl
          obtain ⟨W8, hW8⟩ : ∃ z, w5.alloc (.cells #[.int .i64 y.tok, .int .u64 y.ser, .int .i64 y.til] TXT) = z := ⟨_, rfl⟩
          have HLIT : Hid (SlR 3 trC W8 (.slice (some ⟨w5.heap.size, 0, none⟩) 1 1) [y]) := Lib.hid (by rw [← hW8]; exact SlR.one trC_len w5 _ rfl _ y rfl)
          have hb5 : Below w2.heap.size w2 w5 := Below.own H7.out.2.1 H7.out.2.1.size H7.out.1 H5.out.2
          have H8 : Hid (OwnR 3 trC TXT W8 w2.heap.size (.slice (some ⟨gb5, 0, none⟩) ((insK x M j).1.length + 1) cap5) ((insK x M j).1 ++ [x]) ∧ Below w2.heap.size w2 W8) := Lib.hid (by rw [← hW8]; exact ⟨OwnR.alloc (show OwnR 3 trC TXT w5 w2.heap.size _ ((insK x M j).1 ++ [x]) from H5.out.1) _, hb5.alloc hb5.size _⟩)
          clear hr5 hb5 H7
          go_wp2_with (first | rw [hW8] | (at_builtin; refine appRq trC_len Try.underlying64 rfl (by decide) info_trx rfl (.tmp 31) (.tmp 33) rfl w2.heap.size (.slice (some ⟨gb5, 0, none⟩) ((insK x M j).1.length + 1) cap5) ((insK x M j).1 ++ [x]) rfl H8.out.1 (.slice (some ⟨w5.heap.size, 0, none⟩) 1 1) [y] rfl HLIT.out Nat.zero_lt_one (fun y _ => trC_one y) (by have := HJL.out; unfold maxLen; simp only [List.length_singleton, List.length_append]; omega) (by have := HJL.out; simp only [List.length_singleton, List.length_append]; omega) H8.out.2.size ?_; intro gb9 cap9 w9 own9 gr9 ly9; have H9 := Lib.hid (And.intro own9 gr9); clear own9 gr9 ly9))
          have H10 : Hid (OwnR 3 trC TXT w9 w2.heap.size (.slice (some ⟨gb9, 0, none⟩) ((insK x M j).1.length + 1 + 1) cap9) (insK x M (j + 1)).1 ∧ Below w2.heap.size w2 w9) := Lib.hid ⟨by rw [HWHY.out]; have h := H9.out.1; rw [List.length_append] at h; exact h, Below.own H8.out.2 H8.out.2.size H8.out.1 H9.out.2⟩
          have HFL : Hid ((insK x M (j + 1)).2 = true) := Lib.hid (by rw [HWHY.out])
          clear H8 H9 hW8 d0 d1 d2
          go_roundw
          case rel => exact ⟨j + 1, _, rfl, by rw [HFL.out], by omega, by go_num, H10⟩
          case measure => simp [intOf]; omega
        · have HWHY := Lib.hid (insK_not hy HD.out hc)
          clear hy
          obtain ⟨W8, hW8⟩ : ∃ z, W6.alloc (.cells #[.int .i64 y.tok, .int .u64 y.ser, .int .i64 y.til] TXT) = z := ⟨_, rfl⟩
          have HLIT : Hid (SlR 3 trC W8 (.slice (some ⟨W6.heap.size, 0, none⟩) 1 1) [y]) := Lib.hid (by rw [← hW8]; exact SlR.one trC_len W6 _ rfl _ y rfl)
          have H8 : Hid (OwnR 3 trC TXT W8 w2.heap.size v ((insK x M j).1) ∧ Below w2.heap.size w2 W8) := Lib.hid (by rw [← hW8]; exact ⟨H6.out.1.alloc _, H6.out.2.1.alloc H6.out.2.1.size _⟩)
          go_wp2_with (first | rw [hW6, hg2] | rw [hW8] | (at_builtin; refine appRq trC_len Try.underlying64 rfl (by decide) info_trx rfl (.tmp 31) (.tmp 33) rfl w2.heap.size v ((insK x M j).1) rfl H8.out.1 (.slice (some ⟨W6.heap.size, 0, none⟩) 1 1) [y] rfl HLIT.out Nat.zero_lt_one (fun y _ => trC_one y) (by have := HJL.out; unfold maxLen; simp only [List.length_singleton, List.length_append]; omega) (by have := HJL.out; simp only [List.length_singleton, List.length_append]; omega) H8.out.2.size ?_; intro gb9 cap9 w9 own9 gr9 ly9; have H9 := Lib.hid (And.intro own9 gr9); clear own9 gr9 ly9))
          have H10 : Hid (OwnR 3 trC TXT w9 w2.heap.size (.slice (some ⟨gb9, 0, none⟩) (((insK x M j).1).length + 1) cap9) (insK x M (j + 1)).1 ∧ Below w2.heap.size w2 w9) := Lib.hid ⟨by rw [HWHY.out]; exact H9.out.1, Below.own H8.out.2 H8.out.2.size H8.out.1 H9.out.2⟩
          have HFL : Hid ((insK x M (j + 1)).2 = false) := Lib.hid (by rw [HWHY.out])
          clear H8 H9 hW8
          go_roundw
          case rel => exact ⟨j + 1, _, rfl, by rw [HFL.out], by omega, by go_num, H10⟩
          case measure => simp [intOf]; omega
      · have HWHY := Lib.hid (insK_was hy HD.out)
        clear hy
        obtain ⟨W8, hW8⟩ : ∃ z, W6.alloc (.cells #[.int .i64 y.tok, .int .u64 y.ser, .int .i64 y.til] TXT) = z := ⟨_, rfl⟩
        have HLIT : Hid (SlR 3 trC W8 (.slice (some ⟨W6.heap.size, 0, none⟩) 1 1) [y]) := Lib.hid (by rw [← hW8]; exact SlR.one trC_len W6 _ rfl _ y rfl)
        have H8 : Hid (OwnR 3 trC TXT W8 w2.heap.size v ((insK x M j).1) ∧ Below w2.heap.size w2 W8) := Lib.hid (by rw [← hW8]; exact ⟨H6.out.1.alloc _, H6.out.2.1.alloc H6.out.2.1.size _⟩)
        go_wp2_with (first | rw [hW6, hg2] | rw [hW8] | (at_builtin; refine appRq trC_len Try.underlying64 rfl (by decide) info_trx rfl (.tmp 31) (.tmp 33) rfl w2.heap.size v ((insK x M j).1) rfl H8.out.1 (.slice (some ⟨W6.heap.size, 0, none⟩) 1 1) [y] rfl HLIT.out Nat.zero_lt_one (fun y _ => trC_one y) (by have := HJL.out; unfold maxLen; simp only [List.length_singleton, List.length_append]; omega) (by have := HJL.out; simp only [List.length_singleton, List.length_append]; omega) H8.out.2.size ?_; intro gb9 cap9 w9 own9 gr9 ly9; have H9 := Lib.hid (And.intro own9 gr9); clear own9 gr9 ly9))
        have H10 : Hid (OwnR 3 trC TXT w9 w2.heap.size (.slice (some ⟨gb9, 0, none⟩) (((insK x M j).1).length + 1) cap9) (insK x M (j + 1)).1 ∧ Below w2.heap.size w2 w9) := Lib.hid ⟨by rw [HWHY.out]; exact H9.out.1, Below.own H8.out.2 H8.out.2.size H8.out.1 H9.out.2⟩
        have HFL : Hid ((insK x M (j + 1)).2 = true) := Lib.hid (by rw [HWHY.out])
        clear H8 H9 hW8
        go_roundw
        case rel => exact ⟨j + 1, _, rfl, by rw [HFL.out], by omega, by go_num, H10⟩
        case measure => simp [intOf]; omega
    · obtain rfl : j = M.length := by omega
      have HE := Lib.hid HR.out
      have HWE : Hid (wiV x s.L = if (insK x M M.length).2 then (insK x M M.length).1 else (insK x M M.length).1 ++ [x]) := Lib.hid (by unfold wiV; rw [HM.out]; exact insK_end x M)
      clear HR hxr
      cases d
      · obtain ⟨W8, hW8⟩ : ∃ z, wr.alloc (.cells #[.int .i64 x.tok, .int .u64 x.ser, .int .i64 x.til] TXT) = z := ⟨_, rfl⟩
        have HLIT : Hid (SlR 3 trC W8 (.slice (some ⟨wr.heap.size, 0, none⟩) 1 1) [x]) := Lib.hid (by rw [← hW8]; exact SlR.one trC_len wr _ rfl _ x rfl)
        have H8 : Hid (OwnR 3 trC TXT W8 w2.heap.size v (insK x M M.length).1 ∧ Below w2.heap.size w2 W8) := Lib.hid (by rw [← hW8]; exact ⟨HE.out.1.alloc _, HE.out.2.alloc HE.out.2.size _⟩)
        have HJL : Hid ((insK x M M.length).1.length ≤ M.length + 1 ∧ M.length ≤ 1000) := Lib.hid ⟨insK_len _ _ _, hml⟩
        go_wp2_with (first | rw [hW8] | (at_builtin; refine appRq trC_len Try.underlying64 rfl (by decide) info_trx rfl (.tmp 38) (.tmp 40) rfl w2.heap.size v ((insK x M M.length).1) rfl H8.out.1 (.slice (some ⟨wr.heap.size, 0, none⟩) 1 1) [x] rfl HLIT.out Nat.zero_lt_one (fun y _ => trC_one y) (by have := HJL.out; unfold maxLen; simp only [List.length_singleton, List.length_append]; omega) (by have := HJL.out; simp only [List.length_singleton, List.length_append]; omega) H8.out.2.size ?_; intro gb9 cap9 w9 own9 gr9 ly9; have H9 := Lib.hid (And.intro own9 gr9); clear own9 gr9 ly9))
        go_ret
        refine ⟨_, rfl, ?_, HB2.out.trans ((Below.own H8.out.2 H8.out.2.size H8.out.1 H9.out.2).mono HB2.out.size)⟩
        rw [HWE.out, HD.out]
        exact ownsRow_base_a H9.out.1 HB2.out.size
      · go_wp2
        go_ret
        refine ⟨_, rfl, ?_, HB2.out.trans (HE.out.2.mono HB2.out.size)⟩
        rw [HWE.out, HD.out]
        exact ownsRow_base_a HE.out.1 HB2.out.size
end Lt
end Go.Proofs.Ytgbblegcjladaaa
