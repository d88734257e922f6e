/- The law LeaseSafe returns true for every drift, lease and list of acts: whatever the delays, and whatever two clocks do that keep rho, no token is taken back while its holder trusts it. No condition. -/
import Derived.Test.YtgbblegcjladaaaBse
import Derived.Test.YtgbblegcjladaaaSu3
import Derived.Test.YtgbblegcjladaaaWl
import Derived.Deep.QuietTactic
import Derived.BigQuiet
namespace Go.Proofs.Ytgbblegcjladaaa.leaseSafe
open Go.ChangeShapes Go.WideShapes Go.ChangeAt Go.RowKit
open Go.ChangeMaps (open_string shut_string)
set_option linter.unusedVariables false

theorem own : ownKnob Try.prog.godebug = none := by kernel_rfl
theorem laidOut : laidOutB Try.prog = true := by kernel_rfl

open Go.Proofs.Ytgbblegcjladaaa.Sf Go.Proofs.Ytgbblegcjladaaa.Lt Go.Proofs.Ytgbblegcjladaaa.Mc Go.Proofs.Ytgbblegcjladaaa.Mp
open Go.Proofs.Ytgbblegcjladaaa.Ls (seesV goodK leda_of)
open Go.Proofs.Ytgbblegcjladaaa.La (aA doL)
set_option linter.unusedSimpArgs false
theorem goes_up {w wa wr : World} (h1 : Below w.heap.size w wa) (h2 : Below wa.heap.size wa wr) : Below w.heap.size w wr := h1.trans (h2.mono h1.size)
theorem store3a (x : La.Ans) {W : World} {r : Nat} {ty : TypeId} {x0 x1 x2 : Value} (h : W.heap[r]? = some (.cells #[x0, x1, x2] ty (0, 0))) :
    ((((W.setCell ⟨r, 0, none⟩ (.int .i64 x.code)).setCell ⟨r, 1, none⟩ (.int .i64 x.token)).setCell ⟨r, 2, none⟩ (.int .u64 x.serial)).drew.heap[r]? = some (.cells #[.int .i64 x.code, .int .i64 x.token, .int .u64 x.serial] ty (0, 0))) ∧
    ∀ {B : Nat} {a : World}, B ≤ r → Below B a W → Below B a (((W.setCell ⟨r, 0, none⟩ (.int .i64 x.code)).setCell ⟨r, 1, none⟩ (.int .i64 x.token)).setCell ⟨r, 2, none⟩ (.int .u64 x.serial)) := by
  have h0 : (W.setCell ⟨r, 0, none⟩ (.int .i64 x.code)).heap[r]? = some (.cells #[.int .i64 x.code, x1, x2] ty (0, 0)) := (heap_setCell_same W r 0 _ ty _ h).trans rfl
  have h1 : ((W.setCell ⟨r, 0, none⟩ (.int .i64 x.code)).setCell ⟨r, 1, none⟩ (.int .i64 x.token)).heap[r]? = some (.cells #[.int .i64 x.code, .int .i64 x.token, x2] ty (0, 0)) := (heap_setCell_same _ r 1 _ ty _ h0).trans rfl
  exact ⟨(heap_setCell_same _ r 2 _ ty _ h1).trans rfl, fun hB hb => ((hb.setCell (p := ⟨r, 0, none⟩) hB _).setCell (p := ⟨r, 1, none⟩) hB _).setCell (p := ⟨r, 2, none⟩) hB _⟩
theorem pl_drop {w a : World} {O : Nat → Prop} {P pw pk N B : Nat} {short n : Int} {x : Pl} (h : PlV P pw pk short n N x O B a w) : PlV P pw pk short n N x (fun _ => False) B a w := by
  obtain ⟨vh, vl, va, g, Q, h⟩ := h
  exact ⟨_, _, _, _, _, h.mono (fun k hk => hk.elim)⟩
theorem pl_cells {w a : World} {Q O : Nat → Prop} {P pw pk g N B : Nat} {short n : Int} {x : Pl} {vh vl va : Value} (h : PlG P pw pk short n x vh vl va g N Q O B a w) : w.cell? ⟨P, 1, none⟩ = some (.pointer (some ⟨pk, 0, none⟩)) ∧ w.cell? ⟨P, 7, none⟩ = some (.int .i64 x.b) ∧ w.rangeAt P 2 [.int .i64 x.l.limit, .int .u64 x.l.next, vh, vl] :=
  ⟨(cell_of_row _ _ 1 _ _ _ h.row).trans rfl, (cell_of_row _ _ 7 _ _ _ h.row).trans rfl, rng_part 2 h.row rfl⟩
set_option maxRecDepth 100000 in
set_option maxHeartbeats 64000000 in
theorem walk (a0 : Int) (a1 : Int) (v2 : Value) (x2 : (List ActR)) (w : World) (w0 : (Lit.int .i64 a0).wf = true) (w1 : (Lit.int .i64 a1).wf = true) (w2 : IsActs w v2 x2) (b2 : IsActs.fits x2) :
    Calls Try.prog 5 #[.int .i64 a0, .int .i64 a1, v2] w fun e w' => e = .returned (.bool true) ∧ Below w.heap.size w w' := by
  have HW2 := Lib.hid w2
  obtain ⟨a9, c9, rfl, hl1, hm1, -⟩ := id w2.1
  unfold maxLen at hm1
  clear w2
  go_enter Try.func5, Try.ntmps5
  go_upto_region 2 with (first | ((with_reducible refine (Ls.keeps_any _).mono ?_); rintro e wb ⟨rfl, hbb⟩; have HBB := Lib.hid hbb; clear hbb) | ((with_reducible refine (trusts_any _).mono ?_); rintro e wa ⟨rfl, hba⟩; have HBA := Lib.hid (goes_up HBB.out hba); clear hba))
  by_cases hok : 0 ≤ a0 ∧ a0 ≤ 500 ∧ 1 ≤ a1 ∧ a1 ≤ 1073741824
  rotate_left
  · go_wp2_with fail
    refine (Dr.rshort_no a0 a1 wa hok).mono ?_
    rintro e w3 ⟨rfl, rfl⟩
    go_wp2
    go_ret
    exact ⟨rfl, HBA.out⟩
  have HRR : Hid (0 ≤ a0 ∧ a0 ≤ 500) := Lib.hid ⟨hok.1, hok.2.1⟩
  have HNN : Hid (1 ≤ a1 ∧ a1 ≤ 1073741824) := Lib.hid hok.2.2
  have HSH := Lib.hid (short_le HRR.out HNN.out)
  have HOK := Lib.hid hok
  clear hok
  go_wp2_with fail
  refine (Dr.rshort_yes a0 a1 wa HOK.out).mono ?_
  rintro e w3 ⟨rfl, rfl⟩
  by_cases h200 : 200 < x2.length
  · have hli : (200 : Int) < (x2.length : Int) := by omega
    go_wp2
    go_ret
    exact ⟨rfl, HBA.out⟩
  have hli : ¬ (200 : Int) < (x2.length : Int) := by omega
  have HLX : Hid (x2.length ≤ 200) := Lib.hid (by omega)
  clear h200
  go_wp2_with fail
  refine (Lt.new_any (Dr.sh a0 a1) wa).mono ?_
  rintro e w4 (⟨-, -, ⟨pw, rfl, hk⟩, hb4⟩ | ⟨hno, -⟩)
  rotate_left
  · exact absurd ⟨HSH.out.2.1, by have := HSH.out.2.2; have := HNN.out; omega⟩ hno
  have HKW := Lib.hid (And.intro hk hb4)
  clear hk hb4
  go_wp2_with fail
  refine (Ls.new_any a1 w4).mono ?_
  rintro e w5 (⟨-, -, ⟨pk, rfl, hk, hp⟩, hb5⟩ | ⟨hno, -⟩)
  rotate_left
  · exact absurd HNN.out hno
  obtain ⟨B, hB⟩ : ∃ z, wa.heap.size = z := ⟨_, rfl⟩
  have H5 : Hid (TwoO (WaX pw (Dr.sh a0 a1) newW) (Ls.KpX pk a1 []) (fun _ => False) B wa w5) := Lib.hid (by
    rw [← hB]
    refine ⟨_, _, (goodW pw _ newW).below HKW.out.1 hb5, ⟨_, _, hk⟩, fun k e1 e2 => ?_, fun k e => e.1, fun k e => e ▸ Nat.le_trans HKW.out.2.size hp, fun k e => e.elim, HKW.out.2.trans (hb5.mono HKW.out.2.size), Nat.le_trans HKW.out.2.size hb5.size⟩
    have := e1.2
    have e2 : k = pk := e2
    omega)
  have HBW : Hid (∀ w', Below B wa w' → Below w.heap.size w w') := Lib.hid (fun w' h => goes_up HBA.out (hB ▸ h))
  have HAR : Hid (∀ w', Below B wa w' → IsActs w' (.slice a9 x2.length c9) x2) := Lib.hid (fun w' h => HW2.out.below (HBW.out w' h) (Nat.le_refl _))
  clear hk hp hb5 hB
  obtain ⟨gm, hgm⟩ : ∃ z, w5.heap.size = z := ⟨_, rfl⟩
  obtain ⟨W6, hW6⟩ : ∃ z, w5.alloc (.map #[] 0) = z := ⟨_, rfl⟩
  obtain ⟨P, hP⟩ : ∃ z, W6.heap.size = z := ⟨_, rfl⟩
  obtain ⟨W7, hW7⟩ : ∃ z, W6.alloc (.cells (plA pw pk pl0 (.slice none 0 0) (.slice none 0 0) (.slice none 0 0) gm) TP) = z := ⟨_, rfl⟩
  have HPL := Lib.hid (start_play H5.out hgm hW6 hP hW7)
  have hmm := @run_makeMap Try.prog
  unfold plA pl0 led0 at hW7
  go_wp2_with (first | rw [hW6, hgm] | rw [hW7, hP])
  clear hmm hW6 hgm hW7 hP
  go_loopw [77] (fun i wr => ∃ (j : Nat) (x : Pl), j ≤ x2.length ∧ i = .int .i64 (j : Int) ∧ Hid (Inv a0 (Dr.sh a0 a1) j (65 * j) x ∧ ∃ N, N ≤ j ∧ PlV P pw pk (Dr.sh a0 a1) a1 N x (fun _ => False) B wa wr)) (fun i _ => x2.length - (intOf i).toNat)
  case atStart => exact ⟨0, pl0, Nat.zero_le _, rfl, Lib.hid ⟨inv0 _ _, 0, Nat.le_refl _, HPL.out⟩⟩
  case round =>
    obtain ⟨j, x, hj, rfl, HR⟩ := hrel
    clear HPL
    obtain ⟨N, hNj, vh, vl, va, g, Q, hG⟩ := HR.out.2
    have HI := Lib.hid HR.out.1
    have HNJ := Lib.hid hNj
    by_cases hlt : j < x2.length
    · have hlti : (j : Int) < (x2.length : Int) := by omega
      have HJ : Hid (j < 200) := Lib.hid (by have := HLX.out; omega)
      obtain ⟨r, hr⟩ : ∃ r, x2[j]? = some r := ⟨_, List.getElem?_eq_getElem hlt⟩
      obtain ⟨b, off, rfl, y0, y1, y2, y3, y4⟩ : ∃ b off, a9 = some ⟨b, off, none⟩ ∧ wr.cell? ⟨b, off + j * 5, none⟩ = some (.int .i64 r.kind) ∧ wr.cell? ⟨b, off + j * 5 + 1, none⟩ = some (.int .i64 r.n) ∧ wr.cell? ⟨b, off + j * 5 + 2, none⟩ = some (.int .i64 r.real) ∧ wr.cell? ⟨b, off + j * 5 + 3, none⟩ = some (.int .i64 r.da) ∧ wr.cell? ⟨b, off + j * 5 + 4, none⟩ = some (.int .i64 r.db) := by
        rcases SlR.cases (HAR.out wr hG.bel.1).1 with ⟨a8, c8, e, hnil⟩ | ⟨b, off, c8, e, -, -, -, -, hc⟩
        · rw [hnil] at hlt; simp at hlt
        · simp only [Value.slice.injEq] at e
          have hc := hc j r hr
          exact ⟨b, off, e.1, acC_cells (fun i u hu => by rw [Nat.add_assoc]; exact hc i u hu)⟩
      have HLN : Hid (x.s.L.length ≤ 1000) := Lib.hid (by have := HI.out.len.1; have := HJ.out; omega)
      obtain ⟨g2, hg2⟩ : ∃ z, wr.heap.size = z := ⟨_, rfl⟩
      obtain ⟨W5, hW5⟩ : ∃ z, wr.alloc (.cells #[.int .i64 r.kind, .int .i64 r.n, .int .i64 r.real, .int .i64 r.da, .int .i64 r.db] 83) = z := ⟨_, rfl⟩
      have hb5 : Below wr.heap.size wr W5 := by rw [← hW5]; exact (Below.refl _ _).alloc (Nat.le_refl _) _
      have hr5 : W5.heap[g2]? = some (.cells #[.int .i64 r.kind, .int .i64 r.n, .int .i64 r.real, .int .i64 r.da, .int .i64 r.db] 83 (0, 0)) := by rw [← hW5, ← hg2]; exact heap_alloc_new _ _
      have e0 : W5.cell? ⟨g2, 0, none⟩ = some (.int .i64 r.kind) := (cell_of_row _ _ 0 _ _ _ hr5).trans rfl; have e1 : W5.cell? ⟨g2, 1, none⟩ = some (.int .i64 r.n) := (cell_of_row _ _ 1 _ _ _ hr5).trans rfl; have e2 : W5.cell? ⟨g2, 2, none⟩ = some (.int .i64 r.real) := (cell_of_row _ _ 2 _ _ _ hr5).trans rfl; have e3 : W5.cell? ⟨g2, 3, none⟩ = some (.int .i64 r.da) := (cell_of_row _ _ 3 _ _ _ hr5).trans rfl; have e4 : W5.cell? ⟨g2, 4, none⟩ = some (.int .i64 r.db) := (cell_of_row _ _ 4 _ _ _ hr5).trans rfl
      obtain ⟨OW, hOW⟩ : ∃ O : Nat → Prop, O = (fun k => False ∨ (wr.heap.size ≤ k ∧ k < W5.heap.size)) := ⟨_, rfl⟩
      have HG5 : Hid (PlG P pw pk (Dr.sh a0 a1) a1 x vh vl va g N Q OW B wa W5) := Lib.hid (by rw [hOW]; exact hG.more hb5)
      have HOG : Hid (OW g2) := Lib.hid (by rw [hOW]; exact .inr ⟨Nat.le_of_eq hg2, row_lt hr5⟩)
      have HRG := Lib.hid hr5
      clear hr hr5 hb5 hOW hG HR hNj
      go_upto_region 14 with (first | rw [hW5, hg2])
      clear y0 y1 y2 y3 y4 hW5 hg2
      by_cases hk0 : r.kind = 0
      · as_aux_lemma =>
          have hkb : (r.kind == 0) = true := beq_iff_eq.2 hk0
          clear hk0
          have HQ0 : Hid ((fun u => u.cell? ⟨g2, 2, none⟩ = some (.int .i64 r.real) ∧ u.cell? ⟨g2, 3, none⟩ = some (.int .i64 r.da) ∧ u.cell? ⟨g2, 4, none⟩ = some (.int .i64 r.db) ∧ u.cell? ⟨P, 6, none⟩ = some (.int .i64 x.a) ∧ u.cell? ⟨P, 7, none⟩ = some (.int .i64 x.b)) W5.drew) := Lib.hid ⟨e2, e3, e4, (cell_of_row W5 _ 6 _ _ _ HG5.out.row).trans rfl, (cell_of_row W5 _ 7 _ _ _ HG5.out.row).trans rfl⟩
          go_upto_region 15 with fail
          clear e0 e1 e2 e3 e4
          cases hma : Dr.mayB a0 r.real r.da
          · have HMA := Lib.hid hma
            clear hma
            refine Wl.start 999 (fun _ => True) (fun u => u.cell? ⟨g2, 2, none⟩ = some (.int .i64 r.real) ∧ u.cell? ⟨g2, 3, none⟩ = some (.int .i64 r.da) ∧ u.cell? ⟨g2, 4, none⟩ = some (.int .i64 r.db) ∧ u.cell? ⟨P, 6, none⟩ = some (.int .i64 x.a) ∧ u.cell? ⟨P, 7, none⟩ = some (.int .i64 x.b)) (by kernel_rfl) trivial HQ0.out (fun hk => ?_)
            refine Wl.take0 (i := 0) (v := .int .i64 a0) rfl (by kernel_rfl) (by kernel_rfl) (by kernel_rfl) (by kernel_rfl) (fun _ _ _ h => h) (.inl ⟨by kernel_rfl, ?_⟩) hk ?_
            · intro wx hSw
              clear hSw hk
              go_simp
              try first | with_reducible rfl | kernel_rfl
            simp only [Act.put, List.getElem_toArray, List.getElem_cons_succ, List.getElem_cons_zero, List.setIfInBounds_toArray, List.set_cons_succ, List.set_cons_zero]
            refine Wl.take0 (i := 1) (v := .pointer (some ⟨g2, 2, none⟩)) rfl (by kernel_rfl) (by kernel_rfl) (by kernel_rfl) (by kernel_rfl) (fun _ _ _ h => h) (.inl ⟨by kernel_rfl, ?_⟩) hk ?_
            · intro wx hSw
              clear hSw hk
              go_simp
              try first | with_reducible rfl | kernel_rfl
            simp only [Act.put, List.getElem_toArray, List.getElem_cons_succ, List.getElem_cons_zero, List.setIfInBounds_toArray, List.set_cons_succ, List.set_cons_zero]
            refine Wl.take0 (i := 2) (v := .int .i64 r.real) rfl (by kernel_rfl) (by kernel_rfl) (by kernel_rfl) (by kernel_rfl) (fun _ _ _ h => h) (.inl ⟨by kernel_rfl, ?_⟩) hk ?_
            · intro wx hSw
              have cc := hSw.1
              clear hSw hk
              go_simp
              try first | with_reducible rfl | kernel_rfl
            simp only [Act.put, List.getElem_toArray, List.getElem_cons_succ, List.getElem_cons_zero, List.setIfInBounds_toArray, List.set_cons_succ, List.set_cons_zero]
            refine Wl.take0 (i := 3) (v := .pointer (some ⟨g2, 3, none⟩)) rfl (by kernel_rfl) (by kernel_rfl) (by kernel_rfl) (by kernel_rfl) (fun _ _ _ h => h) (.inl ⟨by kernel_rfl, ?_⟩) hk ?_
            · intro wx hSw
              clear hSw hk
              go_simp
              try first | with_reducible rfl | kernel_rfl
            simp only [Act.put, List.getElem_toArray, List.getElem_cons_succ, List.getElem_cons_zero, List.setIfInBounds_toArray, List.set_cons_succ, List.set_cons_zero]
            refine Wl.take0 (i := 4) (v := .int .i64 r.da) rfl (by kernel_rfl) (by kernel_rfl) (by kernel_rfl) (by kernel_rfl) (fun _ _ _ h => h) (.inl ⟨by kernel_rfl, ?_⟩) hk ?_
            · intro wx hSw
              have cc := hSw.2.1
              clear hSw hk
              go_simp
              try first | with_reducible rfl | kernel_rfl
            simp only [Act.put, List.getElem_toArray, List.getElem_cons_succ, List.getElem_cons_zero, List.setIfInBounds_toArray, List.set_cons_succ, List.set_cons_zero]
            refine Wl.one (i := 5) (by kernel_rfl) rfl (fun K hK => ?_)
            go_simp
            refine (Dr.rmay_any a0 r.real r.da _).mono ?_
            rintro e wx ⟨rfl, rfl⟩
            rw [HMA.out]
            refine hK.out _ _ (Wl.Kn.on trivial HQ0.out) (fun hk => ?_)
            clear hK K
            refine Wl.take0 (i := 6) (v := .bool false) rfl (by kernel_rfl) (by kernel_rfl) (by kernel_rfl) (by kernel_rfl) (fun _ _ _ h => h) (.inl ⟨by kernel_rfl, ?_⟩) hk ?_
            · intro wx hSw
              clear hSw hk
              go_simp
              try first | with_reducible rfl | kernel_rfl
            simp only [Act.put, List.getElem_toArray, List.getElem_cons_succ, List.getElem_cons_zero, List.setIfInBounds_toArray, List.set_cons_succ, List.set_cons_zero]
            refine Wl.take0 (i := 7) (v := undef) rfl (by kernel_rfl) (by kernel_rfl) (by kernel_rfl) (by kernel_rfl) (fun _ _ _ h => h) (.inr ⟨by kernel_rfl, rfl⟩) hk ?_
            simp only [Act.put, List.getElem_toArray, List.getElem_cons_succ, List.getElem_cons_zero, List.setIfInBounds_toArray, List.set_cons_succ, List.set_cons_zero]
            refine Wl.take0 (i := 8) (v := undef) rfl (by kernel_rfl) (by kernel_rfl) (by kernel_rfl) (by kernel_rfl) (fun _ _ _ h => h) (.inr ⟨by kernel_rfl, rfl⟩) hk ?_
            simp only [Act.put, List.getElem_toArray, List.getElem_cons_succ, List.getElem_cons_zero, List.setIfInBounds_toArray, List.set_cons_succ, List.set_cons_zero]
            refine Wl.take0 (i := 9) (v := undef) rfl (by kernel_rfl) (by kernel_rfl) (by kernel_rfl) (by kernel_rfl) (fun _ _ _ h => h) (.inr ⟨by kernel_rfl, rfl⟩) hk ?_
            simp only [Act.put, List.getElem_toArray, List.getElem_cons_succ, List.getElem_cons_zero, List.setIfInBounds_toArray, List.set_cons_succ, List.set_cons_zero]
            refine Wl.take0 (i := 10) (v := undef) rfl (by kernel_rfl) (by kernel_rfl) (by kernel_rfl) (by kernel_rfl) (fun _ _ _ h => h) (.inr ⟨by kernel_rfl, rfl⟩) hk ?_
            simp only [Act.put, List.getElem_toArray, List.getElem_cons_succ, List.getElem_cons_zero, List.setIfInBounds_toArray, List.set_cons_succ, List.set_cons_zero]
            refine Wl.take0 (i := 11) (v := undef) rfl (by kernel_rfl) (by kernel_rfl) (by kernel_rfl) (by kernel_rfl) (fun _ _ _ h => h) (.inr ⟨by kernel_rfl, rfl⟩) hk ?_
            simp only [Act.put, List.getElem_toArray, List.getElem_cons_succ, List.getElem_cons_zero, List.setIfInBounds_toArray, List.set_cons_succ, List.set_cons_zero]
            refine Wl.take0 (i := 12) (v := undef) rfl (by kernel_rfl) (by kernel_rfl) (by kernel_rfl) (by kernel_rfl) (fun _ _ _ h => h) (.inr ⟨by kernel_rfl, rfl⟩) hk ?_
            simp only [Act.put, List.getElem_toArray, List.getElem_cons_succ, List.getElem_cons_zero, List.setIfInBounds_toArray, List.set_cons_succ, List.set_cons_zero]
            refine Wl.take0 (i := 13) (v := .bool false) rfl (by kernel_rfl) (by kernel_rfl) (by kernel_rfl) (by kernel_rfl) (fun _ _ _ h => h) (.inl ⟨by kernel_rfl, ?_⟩) hk ?_
            · intro wx hSw
              clear hSw hk
              go_simp
              try first | with_reducible rfl | kernel_rfl
            simp only [Act.put, List.getElem_toArray, List.getElem_cons_succ, List.getElem_cons_zero, List.setIfInBounds_toArray, List.set_cons_succ, List.set_cons_zero]
            refine Wl.take0 (i := 14) (v := .bool false) rfl (by kernel_rfl) (by kernel_rfl) (by kernel_rfl) (by kernel_rfl) (fun _ _ _ h => h) (.inl ⟨by kernel_rfl, ?_⟩) hk ?_
            · intro wx hSw
              clear hSw hk
              go_simp
              try first | with_reducible rfl | kernel_rfl
            simp only [Act.put, List.getElem_toArray, List.getElem_cons_succ, List.getElem_cons_zero, List.setIfInBounds_toArray, List.set_cons_succ, List.set_cons_zero]
            refine Wl.take0 (i := 15) (v := undef) rfl (by kernel_rfl) (by kernel_rfl) (by kernel_rfl) (by kernel_rfl) (fun _ _ _ h => h) (.inr ⟨by kernel_rfl, rfl⟩) hk ?_
            simp only [Act.put, List.getElem_toArray, List.getElem_cons_succ, List.getElem_cons_zero, List.setIfInBounds_toArray, List.set_cons_succ, List.set_cons_zero]
            refine Wl.take0 (i := 16) (v := undef) rfl (by kernel_rfl) (by kernel_rfl) (by kernel_rfl) (by kernel_rfl) (fun _ _ _ h => h) (.inr ⟨by kernel_rfl, rfl⟩) hk ?_
            simp only [Act.put, List.getElem_toArray, List.getElem_cons_succ, List.getElem_cons_zero, List.setIfInBounds_toArray, List.set_cons_succ, List.set_cons_zero]
            refine Wl.take0 (i := 17) (v := undef) rfl (by kernel_rfl) (by kernel_rfl) (by kernel_rfl) (by kernel_rfl) (fun _ _ _ h => h) (.inr ⟨by kernel_rfl, rfl⟩) hk ?_
            simp only [Act.put, List.getElem_toArray, List.getElem_cons_succ, List.getElem_cons_zero, List.setIfInBounds_toArray, List.set_cons_succ, List.set_cons_zero]
            refine Wl.take0 (i := 18) (v := undef) rfl (by kernel_rfl) (by kernel_rfl) (by kernel_rfl) (by kernel_rfl) (fun _ _ _ h => h) (.inr ⟨by kernel_rfl, rfl⟩) hk ?_
            simp only [Act.put, List.getElem_toArray, List.getElem_cons_succ, List.getElem_cons_zero, List.setIfInBounds_toArray, List.set_cons_succ, List.set_cons_zero]
            refine Wl.take0 (i := 19) (v := undef) rfl (by kernel_rfl) (by kernel_rfl) (by kernel_rfl) (by kernel_rfl) (fun _ _ _ h => h) (.inr ⟨by kernel_rfl, rfl⟩) hk ?_
            simp only [Act.put, List.getElem_toArray, List.getElem_cons_succ, List.getElem_cons_zero, List.setIfInBounds_toArray, List.set_cons_succ, List.set_cons_zero]
            refine Wl.take0 (i := 20) (v := undef) rfl (by kernel_rfl) (by kernel_rfl) (by kernel_rfl) (by kernel_rfl) (fun _ _ _ h => h) (.inr ⟨by kernel_rfl, rfl⟩) hk ?_
            simp only [Act.put, List.getElem_toArray, List.getElem_cons_succ, List.getElem_cons_zero, List.setIfInBounds_toArray, List.set_cons_succ, List.set_cons_zero]
            refine Wl.take0 (i := 21) (v := undef) rfl (by kernel_rfl) (by kernel_rfl) (by kernel_rfl) (by kernel_rfl) (fun _ _ _ h => h) (.inr ⟨by kernel_rfl, rfl⟩) hk ?_
            simp only [Act.put, List.getElem_toArray, List.getElem_cons_succ, List.getElem_cons_zero, List.setIfInBounds_toArray, List.set_cons_succ, List.set_cons_zero]
            refine Wl.take0 (i := 22) (v := undef) rfl (by kernel_rfl) (by kernel_rfl) (by kernel_rfl) (by kernel_rfl) (fun _ _ _ h => h) (.inr ⟨by kernel_rfl, rfl⟩) hk ?_
            simp only [Act.put, List.getElem_toArray, List.getElem_cons_succ, List.getElem_cons_zero, List.setIfInBounds_toArray, List.set_cons_succ, List.set_cons_zero]
            refine Wl.take0 (i := 23) (v := .bool false) rfl (by kernel_rfl) (by kernel_rfl) (by kernel_rfl) (by kernel_rfl) (fun _ _ _ h => h) (.inl ⟨by kernel_rfl, ?_⟩) hk ?_
            · intro wx hSw
              clear hSw hk
              go_simp
              try first | with_reducible rfl | kernel_rfl
            simp only [Act.put, List.getElem_toArray, List.getElem_cons_succ, List.getElem_cons_zero, List.setIfInBounds_toArray, List.set_cons_succ, List.set_cons_zero]
            refine Wl.take0 (i := 24) (v := .bool false) rfl (by kernel_rfl) (by kernel_rfl) (by kernel_rfl) (by kernel_rfl) (fun _ _ _ h => h) (.inl ⟨by kernel_rfl, ?_⟩) hk ?_
            · intro wx hSw
              clear hSw hk
              go_simp
              try first | with_reducible rfl | kernel_rfl
            simp only [Act.put, List.getElem_toArray, List.getElem_cons_succ, List.getElem_cons_zero, List.setIfInBounds_toArray, List.set_cons_succ, List.set_cons_zero]
            refine Wl.take0 (i := 25) (v := undef) rfl (by kernel_rfl) (by kernel_rfl) (by kernel_rfl) (by kernel_rfl) (fun _ _ _ h => h) (.inr ⟨by kernel_rfl, rfl⟩) hk ?_
            simp only [Act.put, List.getElem_toArray, List.getElem_cons_succ, List.getElem_cons_zero, List.setIfInBounds_toArray, List.set_cons_succ, List.set_cons_zero]
            refine Wl.take0 (i := 26) (v := undef) rfl (by kernel_rfl) (by kernel_rfl) (by kernel_rfl) (by kernel_rfl) (fun _ _ _ h => h) (.inr ⟨by kernel_rfl, rfl⟩) hk ?_
            simp only [Act.put, List.getElem_toArray, List.getElem_cons_succ, List.getElem_cons_zero, List.setIfInBounds_toArray, List.set_cons_succ, List.set_cons_zero]
            refine Wl.take0 (i := 27) (v := undef) rfl (by kernel_rfl) (by kernel_rfl) (by kernel_rfl) (by kernel_rfl) (fun _ _ _ h => h) (.inr ⟨by kernel_rfl, rfl⟩) hk ?_
            simp only [Act.put, List.getElem_toArray, List.getElem_cons_succ, List.getElem_cons_zero, List.setIfInBounds_toArray, List.set_cons_succ, List.set_cons_zero]
            refine Wl.take0 (i := 28) (v := undef) rfl (by kernel_rfl) (by kernel_rfl) (by kernel_rfl) (by kernel_rfl) (fun _ _ _ h => h) (.inr ⟨by kernel_rfl, rfl⟩) hk ?_
            simp only [Act.put, List.getElem_toArray, List.getElem_cons_succ, List.getElem_cons_zero, List.setIfInBounds_toArray, List.set_cons_succ, List.set_cons_zero]
            refine Wl.take0 (i := 29) (v := undef) rfl (by kernel_rfl) (by kernel_rfl) (by kernel_rfl) (by kernel_rfl) (fun _ _ _ h => h) (.inr ⟨by kernel_rfl, rfl⟩) hk ?_
            simp only [Act.put, List.getElem_toArray, List.getElem_cons_succ, List.getElem_cons_zero, List.setIfInBounds_toArray, List.set_cons_succ, List.set_cons_zero]
            refine Wl.take0 (i := 30) (v := undef) rfl (by kernel_rfl) (by kernel_rfl) (by kernel_rfl) (by kernel_rfl) (fun _ _ _ h => h) (.inr ⟨by kernel_rfl, rfl⟩) hk ?_
            simp only [Act.put, List.getElem_toArray, List.getElem_cons_succ, List.getElem_cons_zero, List.setIfInBounds_toArray, List.set_cons_succ, List.set_cons_zero]
            refine Wl.take0 (i := 31) (v := undef) rfl (by kernel_rfl) (by kernel_rfl) (by kernel_rfl) (by kernel_rfl) (fun _ _ _ h => h) (.inr ⟨by kernel_rfl, rfl⟩) hk ?_
            simp only [Act.put, List.getElem_toArray, List.getElem_cons_succ, List.getElem_cons_zero, List.setIfInBounds_toArray, List.set_cons_succ, List.set_cons_zero]
            refine Wl.take0 (i := 32) (v := undef) rfl (by kernel_rfl) (by kernel_rfl) (by kernel_rfl) (by kernel_rfl) (fun _ _ _ h => h) (.inr ⟨by kernel_rfl, rfl⟩) hk ?_
            simp only [Act.put, List.getElem_toArray, List.getElem_cons_succ, List.getElem_cons_zero, List.setIfInBounds_toArray, List.set_cons_succ, List.set_cons_zero]
            refine Wl.take0 (i := 33) (v := .bool false) rfl (by kernel_rfl) (by kernel_rfl) (by kernel_rfl) (by kernel_rfl) (fun _ _ _ h => h) (.inl ⟨by kernel_rfl, ?_⟩) hk ?_
            · intro wx hSw
              clear hSw hk
              go_simp
              try first | with_reducible rfl | kernel_rfl
            simp only [Act.put, List.getElem_toArray, List.getElem_cons_succ, List.getElem_cons_zero, List.setIfInBounds_toArray, List.set_cons_succ, List.set_cons_zero]
            refine Wl.done (by kernel_rfl) ?_ _
            clear hk
            have HEND : Hid (Inv a0 (Dr.sh a0 a1) (j + 1) (65 * (j + 1)) (x) ∧ ∃ N, N ≤ j + 1 ∧ PlV P pw pk (Dr.sh a0 a1) a1 N (x) (fun _ => False) B wa W5.drew) := Lib.hid ⟨HI.out.more (by omega) (by omega), _, Nat.le_succ_of_le HNJ.out, pl_drop (⟨_, _, _, _, _, HG5.out.drew⟩)⟩
            go_wp2_with fail
            go_roundw
            case rel => exact ⟨j + 1, x, by omega, by go_num, HEND⟩
            case measure => simp [intOf]; omega
          have HMA := Lib.hid hma
          clear hma
          cases hmb : Dr.mayB a0 r.real r.db
          · have HMB := Lib.hid hmb
            clear hmb
            refine Wl.start 999 (fun _ => True) (fun u => u.cell? ⟨g2, 2, none⟩ = some (.int .i64 r.real) ∧ u.cell? ⟨g2, 3, none⟩ = some (.int .i64 r.da) ∧ u.cell? ⟨g2, 4, none⟩ = some (.int .i64 r.db) ∧ u.cell? ⟨P, 6, none⟩ = some (.int .i64 x.a) ∧ u.cell? ⟨P, 7, none⟩ = some (.int .i64 x.b)) (by kernel_rfl) trivial HQ0.out (fun hk => ?_)
            refine Wl.take0 (i := 0) (v := .int .i64 a0) rfl (by kernel_rfl) (by kernel_rfl) (by kernel_rfl) (by kernel_rfl) (fun _ _ _ h => h) (.inl ⟨by kernel_rfl, ?_⟩) hk ?_
            · intro wx hSw
              clear hSw hk
              go_simp
              try first | with_reducible rfl | kernel_rfl
            simp only [Act.put, List.getElem_toArray, List.getElem_cons_succ, List.getElem_cons_zero, List.setIfInBounds_toArray, List.set_cons_succ, List.set_cons_zero]
            refine Wl.take0 (i := 1) (v := .pointer (some ⟨g2, 2, none⟩)) rfl (by kernel_rfl) (by kernel_rfl) (by kernel_rfl) (by kernel_rfl) (fun _ _ _ h => h) (.inl ⟨by kernel_rfl, ?_⟩) hk ?_
            · intro wx hSw
              clear hSw hk
              go_simp
              try first | with_reducible rfl | kernel_rfl
            simp only [Act.put, List.getElem_toArray, List.getElem_cons_succ, List.getElem_cons_zero, List.setIfInBounds_toArray, List.set_cons_succ, List.set_cons_zero]
            refine Wl.take0 (i := 2) (v := .int .i64 r.real) rfl (by kernel_rfl) (by kernel_rfl) (by kernel_rfl) (by kernel_rfl) (fun _ _ _ h => h) (.inl ⟨by kernel_rfl, ?_⟩) hk ?_
            · intro wx hSw
              have cc := hSw.1
              clear hSw hk
              go_simp
              try first | with_reducible rfl | kernel_rfl
            simp only [Act.put, List.getElem_toArray, List.getElem_cons_succ, List.getElem_cons_zero, List.setIfInBounds_toArray, List.set_cons_succ, List.set_cons_zero]
            refine Wl.take0 (i := 3) (v := .pointer (some ⟨g2, 3, none⟩)) rfl (by kernel_rfl) (by kernel_rfl) (by kernel_rfl) (by kernel_rfl) (fun _ _ _ h => h) (.inl ⟨by kernel_rfl, ?_⟩) hk ?_
            · intro wx hSw
              clear hSw hk
              go_simp
              try first | with_reducible rfl | kernel_rfl
            simp only [Act.put, List.getElem_toArray, List.getElem_cons_succ, List.getElem_cons_zero, List.setIfInBounds_toArray, List.set_cons_succ, List.set_cons_zero]
            refine Wl.take0 (i := 4) (v := .int .i64 r.da) rfl (by kernel_rfl) (by kernel_rfl) (by kernel_rfl) (by kernel_rfl) (fun _ _ _ h => h) (.inl ⟨by kernel_rfl, ?_⟩) hk ?_
            · intro wx hSw
              have cc := hSw.2.1
              clear hSw hk
              go_simp
              try first | with_reducible rfl | kernel_rfl
            simp only [Act.put, List.getElem_toArray, List.getElem_cons_succ, List.getElem_cons_zero, List.setIfInBounds_toArray, List.set_cons_succ, List.set_cons_zero]
            refine Wl.one (i := 5) (by kernel_rfl) rfl (fun K hK => ?_)
            go_simp
            refine (Dr.rmay_any a0 r.real r.da _).mono ?_
            rintro e wx ⟨rfl, rfl⟩
            rw [HMA.out]
            refine hK.out _ _ (Wl.Kn.on trivial HQ0.out) (fun hk => ?_)
            clear hK K
            refine Wl.take0 (i := 6) (v := .bool true) rfl (by kernel_rfl) (by kernel_rfl) (by kernel_rfl) (by kernel_rfl) (fun _ _ _ h => h) (.inl ⟨by kernel_rfl, ?_⟩) hk ?_
            · intro wx hSw
              clear hSw hk
              go_simp
              try first | with_reducible rfl | kernel_rfl
            simp only [Act.put, List.getElem_toArray, List.getElem_cons_succ, List.getElem_cons_zero, List.setIfInBounds_toArray, List.set_cons_succ, List.set_cons_zero]
            refine Wl.take0 (i := 7) (v := .int .i64 a0) rfl (by kernel_rfl) (by kernel_rfl) (by kernel_rfl) (by kernel_rfl) (fun _ _ _ h => h) (.inl ⟨by kernel_rfl, ?_⟩) hk ?_
            · intro wx hSw
              clear hSw hk
              go_simp
              try first | with_reducible rfl | kernel_rfl
            simp only [Act.put, List.getElem_toArray, List.getElem_cons_succ, List.getElem_cons_zero, List.setIfInBounds_toArray, List.set_cons_succ, List.set_cons_zero]
            refine Wl.take0 (i := 8) (v := .pointer (some ⟨g2, 2, none⟩)) rfl (by kernel_rfl) (by kernel_rfl) (by kernel_rfl) (by kernel_rfl) (fun _ _ _ h => h) (.inl ⟨by kernel_rfl, ?_⟩) hk ?_
            · intro wx hSw
              clear hSw hk
              go_simp
              try first | with_reducible rfl | kernel_rfl
            simp only [Act.put, List.getElem_toArray, List.getElem_cons_succ, List.getElem_cons_zero, List.setIfInBounds_toArray, List.set_cons_succ, List.set_cons_zero]
            refine Wl.take0 (i := 9) (v := .int .i64 r.real) rfl (by kernel_rfl) (by kernel_rfl) (by kernel_rfl) (by kernel_rfl) (fun _ _ _ h => h) (.inl ⟨by kernel_rfl, ?_⟩) hk ?_
            · intro wx hSw
              have cc := hSw.1
              clear hSw hk
              go_simp
              try first | with_reducible rfl | kernel_rfl
            simp only [Act.put, List.getElem_toArray, List.getElem_cons_succ, List.getElem_cons_zero, List.setIfInBounds_toArray, List.set_cons_succ, List.set_cons_zero]
            refine Wl.take0 (i := 10) (v := .pointer (some ⟨g2, 4, none⟩)) rfl (by kernel_rfl) (by kernel_rfl) (by kernel_rfl) (by kernel_rfl) (fun _ _ _ h => h) (.inl ⟨by kernel_rfl, ?_⟩) hk ?_
            · intro wx hSw
              clear hSw hk
              go_simp
              try first | with_reducible rfl | kernel_rfl
            simp only [Act.put, List.getElem_toArray, List.getElem_cons_succ, List.getElem_cons_zero, List.setIfInBounds_toArray, List.set_cons_succ, List.set_cons_zero]
            refine Wl.take0 (i := 11) (v := .int .i64 r.db) rfl (by kernel_rfl) (by kernel_rfl) (by kernel_rfl) (by kernel_rfl) (fun _ _ _ h => h) (.inl ⟨by kernel_rfl, ?_⟩) hk ?_
            · intro wx hSw
              have cc := hSw.2.2.1
              clear hSw hk
              go_simp
              try first | with_reducible rfl | kernel_rfl
            simp only [Act.put, List.getElem_toArray, List.getElem_cons_succ, List.getElem_cons_zero, List.setIfInBounds_toArray, List.set_cons_succ, List.set_cons_zero]
            refine Wl.one (i := 12) (by kernel_rfl) rfl (fun K hK => ?_)
            go_simp
            refine (Dr.rmay_any a0 r.real r.db _).mono ?_
            rintro e wx ⟨rfl, rfl⟩
            rw [HMB.out]
            refine hK.out _ _ (Wl.Kn.on trivial HQ0.out) (fun hk => ?_)
            clear hK K
            refine Wl.take0 (i := 13) (v := .bool false) rfl (by kernel_rfl) (by kernel_rfl) (by kernel_rfl) (by kernel_rfl) (fun _ _ _ h => h) (.inl ⟨by kernel_rfl, ?_⟩) hk ?_
            · intro wx hSw
              clear hSw hk
              go_simp
              try first | with_reducible rfl | kernel_rfl
            simp only [Act.put, List.getElem_toArray, List.getElem_cons_succ, List.getElem_cons_zero, List.setIfInBounds_toArray, List.set_cons_succ, List.set_cons_zero]
            refine Wl.take0 (i := 14) (v := .bool false) rfl (by kernel_rfl) (by kernel_rfl) (by kernel_rfl) (by kernel_rfl) (fun _ _ _ h => h) (.inl ⟨by kernel_rfl, ?_⟩) hk ?_
            · intro wx hSw
              clear hSw hk
              go_simp
              try first | with_reducible rfl | kernel_rfl
            simp only [Act.put, List.getElem_toArray, List.getElem_cons_succ, List.getElem_cons_zero, List.setIfInBounds_toArray, List.set_cons_succ, List.set_cons_zero]
            refine Wl.take0 (i := 15) (v := undef) rfl (by kernel_rfl) (by kernel_rfl) (by kernel_rfl) (by kernel_rfl) (fun _ _ _ h => h) (.inr ⟨by kernel_rfl, rfl⟩) hk ?_
            simp only [Act.put, List.getElem_toArray, List.getElem_cons_succ, List.getElem_cons_zero, List.setIfInBounds_toArray, List.set_cons_succ, List.set_cons_zero]
            refine Wl.take0 (i := 16) (v := undef) rfl (by kernel_rfl) (by kernel_rfl) (by kernel_rfl) (by kernel_rfl) (fun _ _ _ h => h) (.inr ⟨by kernel_rfl, rfl⟩) hk ?_
            simp only [Act.put, List.getElem_toArray, List.getElem_cons_succ, List.getElem_cons_zero, List.setIfInBounds_toArray, List.set_cons_succ, List.set_cons_zero]
            refine Wl.take0 (i := 17) (v := undef) rfl (by kernel_rfl) (by kernel_rfl) (by kernel_rfl) (by kernel_rfl) (fun _ _ _ h => h) (.inr ⟨by kernel_rfl, rfl⟩) hk ?_
            simp only [Act.put, List.getElem_toArray, List.getElem_cons_succ, List.getElem_cons_zero, List.setIfInBounds_toArray, List.set_cons_succ, List.set_cons_zero]
            refine Wl.take0 (i := 18) (v := undef) rfl (by kernel_rfl) (by kernel_rfl) (by kernel_rfl) (by kernel_rfl) (fun _ _ _ h => h) (.inr ⟨by kernel_rfl, rfl⟩) hk ?_
            simp only [Act.put, List.getElem_toArray, List.getElem_cons_succ, List.getElem_cons_zero, List.setIfInBounds_toArray, List.set_cons_succ, List.set_cons_zero]
            refine Wl.take0 (i := 19) (v := undef) rfl (by kernel_rfl) (by kernel_rfl) (by kernel_rfl) (by kernel_rfl) (fun _ _ _ h => h) (.inr ⟨by kernel_rfl, rfl⟩) hk ?_
            simp only [Act.put, List.getElem_toArray, List.getElem_cons_succ, List.getElem_cons_zero, List.setIfInBounds_toArray, List.set_cons_succ, List.set_cons_zero]
            refine Wl.take0 (i := 20) (v := undef) rfl (by kernel_rfl) (by kernel_rfl) (by kernel_rfl) (by kernel_rfl) (fun _ _ _ h => h) (.inr ⟨by kernel_rfl, rfl⟩) hk ?_
            simp only [Act.put, List.getElem_toArray, List.getElem_cons_succ, List.getElem_cons_zero, List.setIfInBounds_toArray, List.set_cons_succ, List.set_cons_zero]
            refine Wl.take0 (i := 21) (v := undef) rfl (by kernel_rfl) (by kernel_rfl) (by kernel_rfl) (by kernel_rfl) (fun _ _ _ h => h) (.inr ⟨by kernel_rfl, rfl⟩) hk ?_
            simp only [Act.put, List.getElem_toArray, List.getElem_cons_succ, List.getElem_cons_zero, List.setIfInBounds_toArray, List.set_cons_succ, List.set_cons_zero]
            refine Wl.take0 (i := 22) (v := undef) rfl (by kernel_rfl) (by kernel_rfl) (by kernel_rfl) (by kernel_rfl) (fun _ _ _ h => h) (.inr ⟨by kernel_rfl, rfl⟩) hk ?_
            simp only [Act.put, List.getElem_toArray, List.getElem_cons_succ, List.getElem_cons_zero, List.setIfInBounds_toArray, List.set_cons_succ, List.set_cons_zero]
            refine Wl.take0 (i := 23) (v := .bool false) rfl (by kernel_rfl) (by kernel_rfl) (by kernel_rfl) (by kernel_rfl) (fun _ _ _ h => h) (.inl ⟨by kernel_rfl, ?_⟩) hk ?_
            · intro wx hSw
              clear hSw hk
              go_simp
              try first | with_reducible rfl | kernel_rfl
            simp only [Act.put, List.getElem_toArray, List.getElem_cons_succ, List.getElem_cons_zero, List.setIfInBounds_toArray, List.set_cons_succ, List.set_cons_zero]
            refine Wl.take0 (i := 24) (v := .bool false) rfl (by kernel_rfl) (by kernel_rfl) (by kernel_rfl) (by kernel_rfl) (fun _ _ _ h => h) (.inl ⟨by kernel_rfl, ?_⟩) hk ?_
            · intro wx hSw
              clear hSw hk
              go_simp
              try first | with_reducible rfl | kernel_rfl
            simp only [Act.put, List.getElem_toArray, List.getElem_cons_succ, List.getElem_cons_zero, List.setIfInBounds_toArray, List.set_cons_succ, List.set_cons_zero]
            refine Wl.take0 (i := 25) (v := undef) rfl (by kernel_rfl) (by kernel_rfl) (by kernel_rfl) (by kernel_rfl) (fun _ _ _ h => h) (.inr ⟨by kernel_rfl, rfl⟩) hk ?_
            simp only [Act.put, List.getElem_toArray, List.getElem_cons_succ, List.getElem_cons_zero, List.setIfInBounds_toArray, List.set_cons_succ, List.set_cons_zero]
            refine Wl.take0 (i := 26) (v := undef) rfl (by kernel_rfl) (by kernel_rfl) (by kernel_rfl) (by kernel_rfl) (fun _ _ _ h => h) (.inr ⟨by kernel_rfl, rfl⟩) hk ?_
            simp only [Act.put, List.getElem_toArray, List.getElem_cons_succ, List.getElem_cons_zero, List.setIfInBounds_toArray, List.set_cons_succ, List.set_cons_zero]
            refine Wl.take0 (i := 27) (v := undef) rfl (by kernel_rfl) (by kernel_rfl) (by kernel_rfl) (by kernel_rfl) (fun _ _ _ h => h) (.inr ⟨by kernel_rfl, rfl⟩) hk ?_
            simp only [Act.put, List.getElem_toArray, List.getElem_cons_succ, List.getElem_cons_zero, List.setIfInBounds_toArray, List.set_cons_succ, List.set_cons_zero]
            refine Wl.take0 (i := 28) (v := undef) rfl (by kernel_rfl) (by kernel_rfl) (by kernel_rfl) (by kernel_rfl) (fun _ _ _ h => h) (.inr ⟨by kernel_rfl, rfl⟩) hk ?_
            simp only [Act.put, List.getElem_toArray, List.getElem_cons_succ, List.getElem_cons_zero, List.setIfInBounds_toArray, List.set_cons_succ, List.set_cons_zero]
            refine Wl.take0 (i := 29) (v := undef) rfl (by kernel_rfl) (by kernel_rfl) (by kernel_rfl) (by kernel_rfl) (fun _ _ _ h => h) (.inr ⟨by kernel_rfl, rfl⟩) hk ?_
            simp only [Act.put, List.getElem_toArray, List.getElem_cons_succ, List.getElem_cons_zero, List.setIfInBounds_toArray, List.set_cons_succ, List.set_cons_zero]
            refine Wl.take0 (i := 30) (v := undef) rfl (by kernel_rfl) (by kernel_rfl) (by kernel_rfl) (by kernel_rfl) (fun _ _ _ h => h) (.inr ⟨by kernel_rfl, rfl⟩) hk ?_
            simp only [Act.put, List.getElem_toArray, List.getElem_cons_succ, List.getElem_cons_zero, List.setIfInBounds_toArray, List.set_cons_succ, List.set_cons_zero]
            refine Wl.take0 (i := 31) (v := undef) rfl (by kernel_rfl) (by kernel_rfl) (by kernel_rfl) (by kernel_rfl) (fun _ _ _ h => h) (.inr ⟨by kernel_rfl, rfl⟩) hk ?_
            simp only [Act.put, List.getElem_toArray, List.getElem_cons_succ, List.getElem_cons_zero, List.setIfInBounds_toArray, List.set_cons_succ, List.set_cons_zero]
            refine Wl.take0 (i := 32) (v := undef) rfl (by kernel_rfl) (by kernel_rfl) (by kernel_rfl) (by kernel_rfl) (fun _ _ _ h => h) (.inr ⟨by kernel_rfl, rfl⟩) hk ?_
            simp only [Act.put, List.getElem_toArray, List.getElem_cons_succ, List.getElem_cons_zero, List.setIfInBounds_toArray, List.set_cons_succ, List.set_cons_zero]
            refine Wl.take0 (i := 33) (v := .bool false) rfl (by kernel_rfl) (by kernel_rfl) (by kernel_rfl) (by kernel_rfl) (fun _ _ _ h => h) (.inl ⟨by kernel_rfl, ?_⟩) hk ?_
            · intro wx hSw
              clear hSw hk
              go_simp
              try first | with_reducible rfl | kernel_rfl
            simp only [Act.put, List.getElem_toArray, List.getElem_cons_succ, List.getElem_cons_zero, List.setIfInBounds_toArray, List.set_cons_succ, List.set_cons_zero]
            refine Wl.done (by kernel_rfl) ?_ _
            clear hk
            have HEND : Hid (Inv a0 (Dr.sh a0 a1) (j + 1) (65 * (j + 1)) (x) ∧ ∃ N, N ≤ j + 1 ∧ PlV P pw pk (Dr.sh a0 a1) a1 N (x) (fun _ => False) B wa W5.drew) := Lib.hid ⟨HI.out.more (by omega) (by omega), _, Nat.le_succ_of_le HNJ.out, pl_drop (⟨_, _, _, _, _, HG5.out.drew⟩)⟩
            go_wp2_with fail
            go_roundw
            case rel => exact ⟨j + 1, x, by omega, by go_num, HEND⟩
            case measure => simp [intOf]; omega
          have HMB := Lib.hid hmb
          clear hmb
          have HBD : Hid (0 ≤ r.da ∧ r.da ≤ 1099511627776 ∧ 0 ≤ r.db ∧ r.db ≤ 1099511627776) := Lib.hid (by
            obtain ⟨-, a1, a2, a3, a4⟩ := phi_up (a := x.a) (b := x.b) HRR.out HMA.out HMB.out
            exact ⟨a1, a3, a2, a4⟩)
          have HWA : Hid (IntKind.i64.wrap (x.a + r.da) = x.a + r.da) := Lib.hid (by have := HBD.out; have := HI.out.ra; rw [IntKind.wrap_i64]; omega)
          have HWB : Hid (IntKind.i64.wrap (x.b + r.db) = x.b + r.db) := Lib.hid (by have := HBD.out; have := HI.out.rb; rw [IntKind.wrap_i64]; omega)
          by_cases hca : x.a + r.da ≤ 1125899906842624
          rotate_left
          · have HCA := Lib.hid hca
            clear hca
            refine Wl.start 999 (fun _ => True) (fun u => u.cell? ⟨g2, 2, none⟩ = some (.int .i64 r.real) ∧ u.cell? ⟨g2, 3, none⟩ = some (.int .i64 r.da) ∧ u.cell? ⟨g2, 4, none⟩ = some (.int .i64 r.db) ∧ u.cell? ⟨P, 6, none⟩ = some (.int .i64 x.a) ∧ u.cell? ⟨P, 7, none⟩ = some (.int .i64 x.b)) (by kernel_rfl) trivial HQ0.out (fun hk => ?_)
            refine Wl.take0 (i := 0) (v := .int .i64 a0) rfl (by kernel_rfl) (by kernel_rfl) (by kernel_rfl) (by kernel_rfl) (fun _ _ _ h => h) (.inl ⟨by kernel_rfl, ?_⟩) hk ?_
            · intro wx hSw
              clear hSw hk
              go_simp
              try first | with_reducible rfl | kernel_rfl
            simp only [Act.put, List.getElem_toArray, List.getElem_cons_succ, List.getElem_cons_zero, List.setIfInBounds_toArray, List.set_cons_succ, List.set_cons_zero]
            refine Wl.take0 (i := 1) (v := .pointer (some ⟨g2, 2, none⟩)) rfl (by kernel_rfl) (by kernel_rfl) (by kernel_rfl) (by kernel_rfl) (fun _ _ _ h => h) (.inl ⟨by kernel_rfl, ?_⟩) hk ?_
            · intro wx hSw
              clear hSw hk
              go_simp
              try first | with_reducible rfl | kernel_rfl
            simp only [Act.put, List.getElem_toArray, List.getElem_cons_succ, List.getElem_cons_zero, List.setIfInBounds_toArray, List.set_cons_succ, List.set_cons_zero]
            refine Wl.take0 (i := 2) (v := .int .i64 r.real) rfl (by kernel_rfl) (by kernel_rfl) (by kernel_rfl) (by kernel_rfl) (fun _ _ _ h => h) (.inl ⟨by kernel_rfl, ?_⟩) hk ?_
            · intro wx hSw
              have cc := hSw.1
              clear hSw hk
              go_simp
              try first | with_reducible rfl | kernel_rfl
            simp only [Act.put, List.getElem_toArray, List.getElem_cons_succ, List.getElem_cons_zero, List.setIfInBounds_toArray, List.set_cons_succ, List.set_cons_zero]
            refine Wl.take0 (i := 3) (v := .pointer (some ⟨g2, 3, none⟩)) rfl (by kernel_rfl) (by kernel_rfl) (by kernel_rfl) (by kernel_rfl) (fun _ _ _ h => h) (.inl ⟨by kernel_rfl, ?_⟩) hk ?_
            · intro wx hSw
              clear hSw hk
              go_simp
              try first | with_reducible rfl | kernel_rfl
            simp only [Act.put, List.getElem_toArray, List.getElem_cons_succ, List.getElem_cons_zero, List.setIfInBounds_toArray, List.set_cons_succ, List.set_cons_zero]
            refine Wl.take0 (i := 4) (v := .int .i64 r.da) rfl (by kernel_rfl) (by kernel_rfl) (by kernel_rfl) (by kernel_rfl) (fun _ _ _ h => h) (.inl ⟨by kernel_rfl, ?_⟩) hk ?_
            · intro wx hSw
              have cc := hSw.2.1
              clear hSw hk
              go_simp
              try first | with_reducible rfl | kernel_rfl
            simp only [Act.put, List.getElem_toArray, List.getElem_cons_succ, List.getElem_cons_zero, List.setIfInBounds_toArray, List.set_cons_succ, List.set_cons_zero]
            refine Wl.one (i := 5) (by kernel_rfl) rfl (fun K hK => ?_)
            go_simp
            refine (Dr.rmay_any a0 r.real r.da _).mono ?_
            rintro e wx ⟨rfl, rfl⟩
            rw [HMA.out]
            refine hK.out _ _ (Wl.Kn.on trivial HQ0.out) (fun hk => ?_)
            clear hK K
            refine Wl.take0 (i := 6) (v := .bool true) rfl (by kernel_rfl) (by kernel_rfl) (by kernel_rfl) (by kernel_rfl) (fun _ _ _ h => h) (.inl ⟨by kernel_rfl, ?_⟩) hk ?_
            · intro wx hSw
              clear hSw hk
              go_simp
              try first | with_reducible rfl | kernel_rfl
            simp only [Act.put, List.getElem_toArray, List.getElem_cons_succ, List.getElem_cons_zero, List.setIfInBounds_toArray, List.set_cons_succ, List.set_cons_zero]
            refine Wl.take0 (i := 7) (v := .int .i64 a0) rfl (by kernel_rfl) (by kernel_rfl) (by kernel_rfl) (by kernel_rfl) (fun _ _ _ h => h) (.inl ⟨by kernel_rfl, ?_⟩) hk ?_
            · intro wx hSw
              clear hSw hk
              go_simp
              try first | with_reducible rfl | kernel_rfl
            simp only [Act.put, List.getElem_toArray, List.getElem_cons_succ, List.getElem_cons_zero, List.setIfInBounds_toArray, List.set_cons_succ, List.set_cons_zero]
            refine Wl.take0 (i := 8) (v := .pointer (some ⟨g2, 2, none⟩)) rfl (by kernel_rfl) (by kernel_rfl) (by kernel_rfl) (by kernel_rfl) (fun _ _ _ h => h) (.inl ⟨by kernel_rfl, ?_⟩) hk ?_
            · intro wx hSw
              clear hSw hk
              go_simp
              try first | with_reducible rfl | kernel_rfl
            simp only [Act.put, List.getElem_toArray, List.getElem_cons_succ, List.getElem_cons_zero, List.setIfInBounds_toArray, List.set_cons_succ, List.set_cons_zero]
            refine Wl.take0 (i := 9) (v := .int .i64 r.real) rfl (by kernel_rfl) (by kernel_rfl) (by kernel_rfl) (by kernel_rfl) (fun _ _ _ h => h) (.inl ⟨by kernel_rfl, ?_⟩) hk ?_
            · intro wx hSw
              have cc := hSw.1
              clear hSw hk
              go_simp
              try first | with_reducible rfl | kernel_rfl
            simp only [Act.put, List.getElem_toArray, List.getElem_cons_succ, List.getElem_cons_zero, List.setIfInBounds_toArray, List.set_cons_succ, List.set_cons_zero]
            refine Wl.take0 (i := 10) (v := .pointer (some ⟨g2, 4, none⟩)) rfl (by kernel_rfl) (by kernel_rfl) (by kernel_rfl) (by kernel_rfl) (fun _ _ _ h => h) (.inl ⟨by kernel_rfl, ?_⟩) hk ?_
            · intro wx hSw
              clear hSw hk
              go_simp
              try first | with_reducible rfl | kernel_rfl
            simp only [Act.put, List.getElem_toArray, List.getElem_cons_succ, List.getElem_cons_zero, List.setIfInBounds_toArray, List.set_cons_succ, List.set_cons_zero]
            refine Wl.take0 (i := 11) (v := .int .i64 r.db) rfl (by kernel_rfl) (by kernel_rfl) (by kernel_rfl) (by kernel_rfl) (fun _ _ _ h => h) (.inl ⟨by kernel_rfl, ?_⟩) hk ?_
            · intro wx hSw
              have cc := hSw.2.2.1
              clear hSw hk
              go_simp
              try first | with_reducible rfl | kernel_rfl
            simp only [Act.put, List.getElem_toArray, List.getElem_cons_succ, List.getElem_cons_zero, List.setIfInBounds_toArray, List.set_cons_succ, List.set_cons_zero]
            refine Wl.one (i := 12) (by kernel_rfl) rfl (fun K hK => ?_)
            go_simp
            refine (Dr.rmay_any a0 r.real r.db _).mono ?_
            rintro e wx ⟨rfl, rfl⟩
            rw [HMB.out]
            refine hK.out _ _ (Wl.Kn.on trivial HQ0.out) (fun hk => ?_)
            clear hK K
            refine Wl.take0 (i := 13) (v := .bool true) rfl (by kernel_rfl) (by kernel_rfl) (by kernel_rfl) (by kernel_rfl) (fun _ _ _ h => h) (.inl ⟨by kernel_rfl, ?_⟩) hk ?_
            · intro wx hSw
              clear hSw hk
              go_simp
              try first | with_reducible rfl | kernel_rfl
            simp only [Act.put, List.getElem_toArray, List.getElem_cons_succ, List.getElem_cons_zero, List.setIfInBounds_toArray, List.set_cons_succ, List.set_cons_zero]
            refine Wl.take0 (i := 14) (v := .bool true) rfl (by kernel_rfl) (by kernel_rfl) (by kernel_rfl) (by kernel_rfl) (fun _ _ _ h => h) (.inl ⟨by kernel_rfl, ?_⟩) hk ?_
            · intro wx hSw
              clear hSw hk
              go_simp
              try first | with_reducible rfl | kernel_rfl
            simp only [Act.put, List.getElem_toArray, List.getElem_cons_succ, List.getElem_cons_zero, List.setIfInBounds_toArray, List.set_cons_succ, List.set_cons_zero]
            refine Wl.take0 (i := 15) (v := .pointer (some ⟨P, 0, none⟩)) rfl (by kernel_rfl) (by kernel_rfl) (by kernel_rfl) (by kernel_rfl) (fun _ _ _ h => h) (.inl ⟨by kernel_rfl, ?_⟩) hk ?_
            · intro wx hSw
              clear hSw hk
              go_simp
              try first | with_reducible rfl | kernel_rfl
            simp only [Act.put, List.getElem_toArray, List.getElem_cons_succ, List.getElem_cons_zero, List.setIfInBounds_toArray, List.set_cons_succ, List.set_cons_zero]
            refine Wl.take0 (i := 16) (v := .pointer (some ⟨P, 0, none⟩)) rfl (by kernel_rfl) (by kernel_rfl) (by kernel_rfl) (by kernel_rfl) (fun _ _ _ h => h) (.inl ⟨by kernel_rfl, ?_⟩) hk ?_
            · intro wx hSw
              clear hSw hk
              go_simp
              try first | with_reducible rfl | kernel_rfl
            simp only [Act.put, List.getElem_toArray, List.getElem_cons_succ, List.getElem_cons_zero, List.setIfInBounds_toArray, List.set_cons_succ, List.set_cons_zero]
            refine Wl.take0 (i := 17) (v := .pointer (some ⟨P, 6, none⟩)) rfl (by kernel_rfl) (by kernel_rfl) (by kernel_rfl) (by kernel_rfl) (fun _ _ _ h => h) (.inl ⟨by kernel_rfl, ?_⟩) hk ?_
            · intro wx hSw
              clear hSw hk
              go_simp
              try first | with_reducible rfl | kernel_rfl
            simp only [Act.put, List.getElem_toArray, List.getElem_cons_succ, List.getElem_cons_zero, List.setIfInBounds_toArray, List.set_cons_succ, List.set_cons_zero]
            refine Wl.take0 (i := 18) (v := .int .i64 x.a) rfl (by kernel_rfl) (by kernel_rfl) (by kernel_rfl) (by kernel_rfl) (fun _ _ _ h => h) (.inl ⟨by kernel_rfl, ?_⟩) hk ?_
            · intro wx hSw
              have cc := hSw.2.2.2.1
              clear hSw hk
              go_simp
              try first | with_reducible rfl | kernel_rfl
            simp only [Act.put, List.getElem_toArray, List.getElem_cons_succ, List.getElem_cons_zero, List.setIfInBounds_toArray, List.set_cons_succ, List.set_cons_zero]
            refine Wl.take0 (i := 19) (v := .pointer (some ⟨g2, 3, none⟩)) rfl (by kernel_rfl) (by kernel_rfl) (by kernel_rfl) (by kernel_rfl) (fun _ _ _ h => h) (.inl ⟨by kernel_rfl, ?_⟩) hk ?_
            · intro wx hSw
              clear hSw hk
              go_simp
              try first | with_reducible rfl | kernel_rfl
            simp only [Act.put, List.getElem_toArray, List.getElem_cons_succ, List.getElem_cons_zero, List.setIfInBounds_toArray, List.set_cons_succ, List.set_cons_zero]
            refine Wl.take0 (i := 20) (v := .int .i64 r.da) rfl (by kernel_rfl) (by kernel_rfl) (by kernel_rfl) (by kernel_rfl) (fun _ _ _ h => h) (.inl ⟨by kernel_rfl, ?_⟩) hk ?_
            · intro wx hSw
              have cc := hSw.2.1
              clear hSw hk
              go_simp
              try first | with_reducible rfl | kernel_rfl
            simp only [Act.put, List.getElem_toArray, List.getElem_cons_succ, List.getElem_cons_zero, List.setIfInBounds_toArray, List.set_cons_succ, List.set_cons_zero]
            refine Wl.take0 (i := 21) (v := .int .i64 (x.a + r.da)) rfl (by kernel_rfl) (by kernel_rfl) (by kernel_rfl) (by kernel_rfl) (fun _ _ _ h => h) (.inl ⟨by kernel_rfl, ?_⟩) hk ?_
            · intro wx hSw
              have e := HWA.out
              clear hSw hk
              go_simp
              try first | with_reducible rfl | kernel_rfl
            simp only [Act.put, List.getElem_toArray, List.getElem_cons_succ, List.getElem_cons_zero, List.setIfInBounds_toArray, List.set_cons_succ, List.set_cons_zero]
            refine Wl.take0 (i := 22) (v := .bool false) rfl (by kernel_rfl) (by kernel_rfl) (by kernel_rfl) (by kernel_rfl) (fun _ _ _ h => h) (.inl ⟨by kernel_rfl, ?_⟩) hk ?_
            · intro wx hSw
              have e := HCA.out
              clear hSw hk
              go_simp
              try first | with_reducible rfl | kernel_rfl
            simp only [Act.put, List.getElem_toArray, List.getElem_cons_succ, List.getElem_cons_zero, List.setIfInBounds_toArray, List.set_cons_succ, List.set_cons_zero]
            refine Wl.take0 (i := 23) (v := .bool false) rfl (by kernel_rfl) (by kernel_rfl) (by kernel_rfl) (by kernel_rfl) (fun _ _ _ h => h) (.inl ⟨by kernel_rfl, ?_⟩) hk ?_
            · intro wx hSw
              clear hSw hk
              go_simp
              try first | with_reducible rfl | kernel_rfl
            simp only [Act.put, List.getElem_toArray, List.getElem_cons_succ, List.getElem_cons_zero, List.setIfInBounds_toArray, List.set_cons_succ, List.set_cons_zero]
            refine Wl.take0 (i := 24) (v := .bool false) rfl (by kernel_rfl) (by kernel_rfl) (by kernel_rfl) (by kernel_rfl) (fun _ _ _ h => h) (.inl ⟨by kernel_rfl, ?_⟩) hk ?_
            · intro wx hSw
              clear hSw hk
              go_simp
              try first | with_reducible rfl | kernel_rfl
            simp only [Act.put, List.getElem_toArray, List.getElem_cons_succ, List.getElem_cons_zero, List.setIfInBounds_toArray, List.set_cons_succ, List.set_cons_zero]
            refine Wl.take0 (i := 25) (v := undef) rfl (by kernel_rfl) (by kernel_rfl) (by kernel_rfl) (by kernel_rfl) (fun _ _ _ h => h) (.inr ⟨by kernel_rfl, rfl⟩) hk ?_
            simp only [Act.put, List.getElem_toArray, List.getElem_cons_succ, List.getElem_cons_zero, List.setIfInBounds_toArray, List.set_cons_succ, List.set_cons_zero]
            refine Wl.take0 (i := 26) (v := undef) rfl (by kernel_rfl) (by kernel_rfl) (by kernel_rfl) (by kernel_rfl) (fun _ _ _ h => h) (.inr ⟨by kernel_rfl, rfl⟩) hk ?_
            simp only [Act.put, List.getElem_toArray, List.getElem_cons_succ, List.getElem_cons_zero, List.setIfInBounds_toArray, List.set_cons_succ, List.set_cons_zero]
            refine Wl.take0 (i := 27) (v := undef) rfl (by kernel_rfl) (by kernel_rfl) (by kernel_rfl) (by kernel_rfl) (fun _ _ _ h => h) (.inr ⟨by kernel_rfl, rfl⟩) hk ?_
            simp only [Act.put, List.getElem_toArray, List.getElem_cons_succ, List.getElem_cons_zero, List.setIfInBounds_toArray, List.set_cons_succ, List.set_cons_zero]
            refine Wl.take0 (i := 28) (v := undef) rfl (by kernel_rfl) (by kernel_rfl) (by kernel_rfl) (by kernel_rfl) (fun _ _ _ h => h) (.inr ⟨by kernel_rfl, rfl⟩) hk ?_
            simp only [Act.put, List.getElem_toArray, List.getElem_cons_succ, List.getElem_cons_zero, List.setIfInBounds_toArray, List.set_cons_succ, List.set_cons_zero]
            refine Wl.take0 (i := 29) (v := undef) rfl (by kernel_rfl) (by kernel_rfl) (by kernel_rfl) (by kernel_rfl) (fun _ _ _ h => h) (.inr ⟨by kernel_rfl, rfl⟩) hk ?_
            simp only [Act.put, List.getElem_toArray, List.getElem_cons_succ, List.getElem_cons_zero, List.setIfInBounds_toArray, List.set_cons_succ, List.set_cons_zero]
            refine Wl.take0 (i := 30) (v := undef) rfl (by kernel_rfl) (by kernel_rfl) (by kernel_rfl) (by kernel_rfl) (fun _ _ _ h => h) (.inr ⟨by kernel_rfl, rfl⟩) hk ?_
            simp only [Act.put, List.getElem_toArray, List.getElem_cons_succ, List.getElem_cons_zero, List.setIfInBounds_toArray, List.set_cons_succ, List.set_cons_zero]
            refine Wl.take0 (i := 31) (v := undef) rfl (by kernel_rfl) (by kernel_rfl) (by kernel_rfl) (by kernel_rfl) (fun _ _ _ h => h) (.inr ⟨by kernel_rfl, rfl⟩) hk ?_
            simp only [Act.put, List.getElem_toArray, List.getElem_cons_succ, List.getElem_cons_zero, List.setIfInBounds_toArray, List.set_cons_succ, List.set_cons_zero]
            refine Wl.take0 (i := 32) (v := undef) rfl (by kernel_rfl) (by kernel_rfl) (by kernel_rfl) (by kernel_rfl) (fun _ _ _ h => h) (.inr ⟨by kernel_rfl, rfl⟩) hk ?_
            simp only [Act.put, List.getElem_toArray, List.getElem_cons_succ, List.getElem_cons_zero, List.setIfInBounds_toArray, List.set_cons_succ, List.set_cons_zero]
            refine Wl.take0 (i := 33) (v := .bool false) rfl (by kernel_rfl) (by kernel_rfl) (by kernel_rfl) (by kernel_rfl) (fun _ _ _ h => h) (.inl ⟨by kernel_rfl, ?_⟩) hk ?_
            · intro wx hSw
              clear hSw hk
              go_simp
              try first | with_reducible rfl | kernel_rfl
            simp only [Act.put, List.getElem_toArray, List.getElem_cons_succ, List.getElem_cons_zero, List.setIfInBounds_toArray, List.set_cons_succ, List.set_cons_zero]
            refine Wl.done (by kernel_rfl) ?_ _
            clear hk
            have HEND : Hid (Inv a0 (Dr.sh a0 a1) (j + 1) (65 * (j + 1)) (x) ∧ ∃ N, N ≤ j + 1 ∧ PlV P pw pk (Dr.sh a0 a1) a1 N (x) (fun _ => False) B wa W5.drew) := Lib.hid ⟨HI.out.more (by omega) (by omega), _, Nat.le_succ_of_le HNJ.out, pl_drop (⟨_, _, _, _, _, HG5.out.drew⟩)⟩
            go_wp2_with fail
            go_roundw
            case rel => exact ⟨j + 1, x, by omega, by go_num, HEND⟩
            case measure => simp [intOf]; omega
          have HCA := Lib.hid hca
          clear hca
          by_cases hcb : x.b + r.db ≤ 1125899906842624
          rotate_left
          · have HCB := Lib.hid hcb
            clear hcb
            refine Wl.start 999 (fun _ => True) (fun u => u.cell? ⟨g2, 2, none⟩ = some (.int .i64 r.real) ∧ u.cell? ⟨g2, 3, none⟩ = some (.int .i64 r.da) ∧ u.cell? ⟨g2, 4, none⟩ = some (.int .i64 r.db) ∧ u.cell? ⟨P, 6, none⟩ = some (.int .i64 x.a) ∧ u.cell? ⟨P, 7, none⟩ = some (.int .i64 x.b)) (by kernel_rfl) trivial HQ0.out (fun hk => ?_)
            refine Wl.take0 (i := 0) (v := .int .i64 a0) rfl (by kernel_rfl) (by kernel_rfl) (by kernel_rfl) (by kernel_rfl) (fun _ _ _ h => h) (.inl ⟨by kernel_rfl, ?_⟩) hk ?_
            · intro wx hSw
              clear hSw hk
              go_simp
              try first | with_reducible rfl | kernel_rfl
            simp only [Act.put, List.getElem_toArray, List.getElem_cons_succ, List.getElem_cons_zero, List.setIfInBounds_toArray, List.set_cons_succ, List.set_cons_zero]
            refine Wl.take0 (i := 1) (v := .pointer (some ⟨g2, 2, none⟩)) rfl (by kernel_rfl) (by kernel_rfl) (by kernel_rfl) (by kernel_rfl) (fun _ _ _ h => h) (.inl ⟨by kernel_rfl, ?_⟩) hk ?_
            · intro wx hSw
              clear hSw hk
              go_simp
              try first | with_reducible rfl | kernel_rfl
            simp only [Act.put, List.getElem_toArray, List.getElem_cons_succ, List.getElem_cons_zero, List.setIfInBounds_toArray, List.set_cons_succ, List.set_cons_zero]
            refine Wl.take0 (i := 2) (v := .int .i64 r.real) rfl (by kernel_rfl) (by kernel_rfl) (by kernel_rfl) (by kernel_rfl) (fun _ _ _ h => h) (.inl ⟨by kernel_rfl, ?_⟩) hk ?_
            · intro wx hSw
              have cc := hSw.1
              clear hSw hk
              go_simp
              try first | with_reducible rfl | kernel_rfl
            simp only [Act.put, List.getElem_toArray, List.getElem_cons_succ, List.getElem_cons_zero, List.setIfInBounds_toArray, List.set_cons_succ, List.set_cons_zero]
            refine Wl.take0 (i := 3) (v := .pointer (some ⟨g2, 3, none⟩)) rfl (by kernel_rfl) (by kernel_rfl) (by kernel_rfl) (by kernel_rfl) (fun _ _ _ h => h) (.inl ⟨by kernel_rfl, ?_⟩) hk ?_
            · intro wx hSw
              clear hSw hk
              go_simp
              try first | with_reducible rfl | kernel_rfl
            simp only [Act.put, List.getElem_toArray, List.getElem_cons_succ, List.getElem_cons_zero, List.setIfInBounds_toArray, List.set_cons_succ, List.set_cons_zero]
            refine Wl.take0 (i := 4) (v := .int .i64 r.da) rfl (by kernel_rfl) (by kernel_rfl) (by kernel_rfl) (by kernel_rfl) (fun _ _ _ h => h) (.inl ⟨by kernel_rfl, ?_⟩) hk ?_
            · intro wx hSw
              have cc := hSw.2.1
              clear hSw hk
              go_simp
              try first | with_reducible rfl | kernel_rfl
            simp only [Act.put, List.getElem_toArray, List.getElem_cons_succ, List.getElem_cons_zero, List.setIfInBounds_toArray, List.set_cons_succ, List.set_cons_zero]
            refine Wl.one (i := 5) (by kernel_rfl) rfl (fun K hK => ?_)
            go_simp
            refine (Dr.rmay_any a0 r.real r.da _).mono ?_
            rintro e wx ⟨rfl, rfl⟩
            rw [HMA.out]
            refine hK.out _ _ (Wl.Kn.on trivial HQ0.out) (fun hk => ?_)
            clear hK K
            refine Wl.take0 (i := 6) (v := .bool true) rfl (by kernel_rfl) (by kernel_rfl) (by kernel_rfl) (by kernel_rfl) (fun _ _ _ h => h) (.inl ⟨by kernel_rfl, ?_⟩) hk ?_
            · intro wx hSw
              clear hSw hk
              go_simp
              try first | with_reducible rfl | kernel_rfl
            simp only [Act.put, List.getElem_toArray, List.getElem_cons_succ, List.getElem_cons_zero, List.setIfInBounds_toArray, List.set_cons_succ, List.set_cons_zero]
            refine Wl.take0 (i := 7) (v := .int .i64 a0) rfl (by kernel_rfl) (by kernel_rfl) (by kernel_rfl) (by kernel_rfl) (fun _ _ _ h => h) (.inl ⟨by kernel_rfl, ?_⟩) hk ?_
            · intro wx hSw
              clear hSw hk
              go_simp
              try first | with_reducible rfl | kernel_rfl
            simp only [Act.put, List.getElem_toArray, List.getElem_cons_succ, List.getElem_cons_zero, List.setIfInBounds_toArray, List.set_cons_succ, List.set_cons_zero]
            refine Wl.take0 (i := 8) (v := .pointer (some ⟨g2, 2, none⟩)) rfl (by kernel_rfl) (by kernel_rfl) (by kernel_rfl) (by kernel_rfl) (fun _ _ _ h => h) (.inl ⟨by kernel_rfl, ?_⟩) hk ?_
            · intro wx hSw
              clear hSw hk
              go_simp
              try first | with_reducible rfl | kernel_rfl
            simp only [Act.put, List.getElem_toArray, List.getElem_cons_succ, List.getElem_cons_zero, List.setIfInBounds_toArray, List.set_cons_succ, List.set_cons_zero]
            refine Wl.take0 (i := 9) (v := .int .i64 r.real) rfl (by kernel_rfl) (by kernel_rfl) (by kernel_rfl) (by kernel_rfl) (fun _ _ _ h => h) (.inl ⟨by kernel_rfl, ?_⟩) hk ?_
            · intro wx hSw
              have cc := hSw.1
              clear hSw hk
              go_simp
              try first | with_reducible rfl | kernel_rfl
            simp only [Act.put, List.getElem_toArray, List.getElem_cons_succ, List.getElem_cons_zero, List.setIfInBounds_toArray, List.set_cons_succ, List.set_cons_zero]
            refine Wl.take0 (i := 10) (v := .pointer (some ⟨g2, 4, none⟩)) rfl (by kernel_rfl) (by kernel_rfl) (by kernel_rfl) (by kernel_rfl) (fun _ _ _ h => h) (.inl ⟨by kernel_rfl, ?_⟩) hk ?_
            · intro wx hSw
              clear hSw hk
              go_simp
              try first | with_reducible rfl | kernel_rfl
            simp only [Act.put, List.getElem_toArray, List.getElem_cons_succ, List.getElem_cons_zero, List.setIfInBounds_toArray, List.set_cons_succ, List.set_cons_zero]
            refine Wl.take0 (i := 11) (v := .int .i64 r.db) rfl (by kernel_rfl) (by kernel_rfl) (by kernel_rfl) (by kernel_rfl) (fun _ _ _ h => h) (.inl ⟨by kernel_rfl, ?_⟩) hk ?_
            · intro wx hSw
              have cc := hSw.2.2.1
              clear hSw hk
              go_simp
              try first | with_reducible rfl | kernel_rfl
            simp only [Act.put, List.getElem_toArray, List.getElem_cons_succ, List.getElem_cons_zero, List.setIfInBounds_toArray, List.set_cons_succ, List.set_cons_zero]
            refine Wl.one (i := 12) (by kernel_rfl) rfl (fun K hK => ?_)
            go_simp
            refine (Dr.rmay_any a0 r.real r.db _).mono ?_
            rintro e wx ⟨rfl, rfl⟩
            rw [HMB.out]
            refine hK.out _ _ (Wl.Kn.on trivial HQ0.out) (fun hk => ?_)
            clear hK K
            refine Wl.take0 (i := 13) (v := .bool true) rfl (by kernel_rfl) (by kernel_rfl) (by kernel_rfl) (by kernel_rfl) (fun _ _ _ h => h) (.inl ⟨by kernel_rfl, ?_⟩) hk ?_
            · intro wx hSw
              clear hSw hk
              go_simp
              try first | with_reducible rfl | kernel_rfl
            simp only [Act.put, List.getElem_toArray, List.getElem_cons_succ, List.getElem_cons_zero, List.setIfInBounds_toArray, List.set_cons_succ, List.set_cons_zero]
            refine Wl.take0 (i := 14) (v := .bool true) rfl (by kernel_rfl) (by kernel_rfl) (by kernel_rfl) (by kernel_rfl) (fun _ _ _ h => h) (.inl ⟨by kernel_rfl, ?_⟩) hk ?_
            · intro wx hSw
              clear hSw hk
              go_simp
              try first | with_reducible rfl | kernel_rfl
            simp only [Act.put, List.getElem_toArray, List.getElem_cons_succ, List.getElem_cons_zero, List.setIfInBounds_toArray, List.set_cons_succ, List.set_cons_zero]
            refine Wl.take0 (i := 15) (v := .pointer (some ⟨P, 0, none⟩)) rfl (by kernel_rfl) (by kernel_rfl) (by kernel_rfl) (by kernel_rfl) (fun _ _ _ h => h) (.inl ⟨by kernel_rfl, ?_⟩) hk ?_
            · intro wx hSw
              clear hSw hk
              go_simp
              try first | with_reducible rfl | kernel_rfl
            simp only [Act.put, List.getElem_toArray, List.getElem_cons_succ, List.getElem_cons_zero, List.setIfInBounds_toArray, List.set_cons_succ, List.set_cons_zero]
            refine Wl.take0 (i := 16) (v := .pointer (some ⟨P, 0, none⟩)) rfl (by kernel_rfl) (by kernel_rfl) (by kernel_rfl) (by kernel_rfl) (fun _ _ _ h => h) (.inl ⟨by kernel_rfl, ?_⟩) hk ?_
            · intro wx hSw
              clear hSw hk
              go_simp
              try first | with_reducible rfl | kernel_rfl
            simp only [Act.put, List.getElem_toArray, List.getElem_cons_succ, List.getElem_cons_zero, List.setIfInBounds_toArray, List.set_cons_succ, List.set_cons_zero]
            refine Wl.take0 (i := 17) (v := .pointer (some ⟨P, 6, none⟩)) rfl (by kernel_rfl) (by kernel_rfl) (by kernel_rfl) (by kernel_rfl) (fun _ _ _ h => h) (.inl ⟨by kernel_rfl, ?_⟩) hk ?_
            · intro wx hSw
              clear hSw hk
              go_simp
              try first | with_reducible rfl | kernel_rfl
            simp only [Act.put, List.getElem_toArray, List.getElem_cons_succ, List.getElem_cons_zero, List.setIfInBounds_toArray, List.set_cons_succ, List.set_cons_zero]
            refine Wl.take0 (i := 18) (v := .int .i64 x.a) rfl (by kernel_rfl) (by kernel_rfl) (by kernel_rfl) (by kernel_rfl) (fun _ _ _ h => h) (.inl ⟨by kernel_rfl, ?_⟩) hk ?_
            · intro wx hSw
              have cc := hSw.2.2.2.1
              clear hSw hk
              go_simp
              try first | with_reducible rfl | kernel_rfl
            simp only [Act.put, List.getElem_toArray, List.getElem_cons_succ, List.getElem_cons_zero, List.setIfInBounds_toArray, List.set_cons_succ, List.set_cons_zero]
            refine Wl.take0 (i := 19) (v := .pointer (some ⟨g2, 3, none⟩)) rfl (by kernel_rfl) (by kernel_rfl) (by kernel_rfl) (by kernel_rfl) (fun _ _ _ h => h) (.inl ⟨by kernel_rfl, ?_⟩) hk ?_
            · intro wx hSw
              clear hSw hk
              go_simp
              try first | with_reducible rfl | kernel_rfl
            simp only [Act.put, List.getElem_toArray, List.getElem_cons_succ, List.getElem_cons_zero, List.setIfInBounds_toArray, List.set_cons_succ, List.set_cons_zero]
            refine Wl.take0 (i := 20) (v := .int .i64 r.da) rfl (by kernel_rfl) (by kernel_rfl) (by kernel_rfl) (by kernel_rfl) (fun _ _ _ h => h) (.inl ⟨by kernel_rfl, ?_⟩) hk ?_
            · intro wx hSw
              have cc := hSw.2.1
              clear hSw hk
              go_simp
              try first | with_reducible rfl | kernel_rfl
            simp only [Act.put, List.getElem_toArray, List.getElem_cons_succ, List.getElem_cons_zero, List.setIfInBounds_toArray, List.set_cons_succ, List.set_cons_zero]
            refine Wl.take0 (i := 21) (v := .int .i64 (x.a + r.da)) rfl (by kernel_rfl) (by kernel_rfl) (by kernel_rfl) (by kernel_rfl) (fun _ _ _ h => h) (.inl ⟨by kernel_rfl, ?_⟩) hk ?_
            · intro wx hSw
              have e := HWA.out
              clear hSw hk
              go_simp
              try first | with_reducible rfl | kernel_rfl
            simp only [Act.put, List.getElem_toArray, List.getElem_cons_succ, List.getElem_cons_zero, List.setIfInBounds_toArray, List.set_cons_succ, List.set_cons_zero]
            refine Wl.take0 (i := 22) (v := .bool true) rfl (by kernel_rfl) (by kernel_rfl) (by kernel_rfl) (by kernel_rfl) (fun _ _ _ h => h) (.inl ⟨by kernel_rfl, ?_⟩) hk ?_
            · intro wx hSw
              have e := HCA.out
              clear hSw hk
              go_simp
              try first | with_reducible rfl | kernel_rfl
            simp only [Act.put, List.getElem_toArray, List.getElem_cons_succ, List.getElem_cons_zero, List.setIfInBounds_toArray, List.set_cons_succ, List.set_cons_zero]
            refine Wl.take0 (i := 23) (v := .bool true) rfl (by kernel_rfl) (by kernel_rfl) (by kernel_rfl) (by kernel_rfl) (fun _ _ _ h => h) (.inl ⟨by kernel_rfl, ?_⟩) hk ?_
            · intro wx hSw
              clear hSw hk
              go_simp
              try first | with_reducible rfl | kernel_rfl
            simp only [Act.put, List.getElem_toArray, List.getElem_cons_succ, List.getElem_cons_zero, List.setIfInBounds_toArray, List.set_cons_succ, List.set_cons_zero]
            refine Wl.take0 (i := 24) (v := .bool true) rfl (by kernel_rfl) (by kernel_rfl) (by kernel_rfl) (by kernel_rfl) (fun _ _ _ h => h) (.inl ⟨by kernel_rfl, ?_⟩) hk ?_
            · intro wx hSw
              clear hSw hk
              go_simp
              try first | with_reducible rfl | kernel_rfl
            simp only [Act.put, List.getElem_toArray, List.getElem_cons_succ, List.getElem_cons_zero, List.setIfInBounds_toArray, List.set_cons_succ, List.set_cons_zero]
            refine Wl.take0 (i := 25) (v := .pointer (some ⟨P, 0, none⟩)) rfl (by kernel_rfl) (by kernel_rfl) (by kernel_rfl) (by kernel_rfl) (fun _ _ _ h => h) (.inl ⟨by kernel_rfl, ?_⟩) hk ?_
            · intro wx hSw
              clear hSw hk
              go_simp
              try first | with_reducible rfl | kernel_rfl
            simp only [Act.put, List.getElem_toArray, List.getElem_cons_succ, List.getElem_cons_zero, List.setIfInBounds_toArray, List.set_cons_succ, List.set_cons_zero]
            refine Wl.take0 (i := 26) (v := .pointer (some ⟨P, 0, none⟩)) rfl (by kernel_rfl) (by kernel_rfl) (by kernel_rfl) (by kernel_rfl) (fun _ _ _ h => h) (.inl ⟨by kernel_rfl, ?_⟩) hk ?_
            · intro wx hSw
              clear hSw hk
              go_simp
              try first | with_reducible rfl | kernel_rfl
            simp only [Act.put, List.getElem_toArray, List.getElem_cons_succ, List.getElem_cons_zero, List.setIfInBounds_toArray, List.set_cons_succ, List.set_cons_zero]
            refine Wl.take0 (i := 27) (v := .pointer (some ⟨P, 7, none⟩)) rfl (by kernel_rfl) (by kernel_rfl) (by kernel_rfl) (by kernel_rfl) (fun _ _ _ h => h) (.inl ⟨by kernel_rfl, ?_⟩) hk ?_
            · intro wx hSw
              clear hSw hk
              go_simp
              try first | with_reducible rfl | kernel_rfl
            simp only [Act.put, List.getElem_toArray, List.getElem_cons_succ, List.getElem_cons_zero, List.setIfInBounds_toArray, List.set_cons_succ, List.set_cons_zero]
            refine Wl.take0 (i := 28) (v := .int .i64 x.b) rfl (by kernel_rfl) (by kernel_rfl) (by kernel_rfl) (by kernel_rfl) (fun _ _ _ h => h) (.inl ⟨by kernel_rfl, ?_⟩) hk ?_
            · intro wx hSw
              have cc := hSw.2.2.2.2
              clear hSw hk
              go_simp
              try first | with_reducible rfl | kernel_rfl
            simp only [Act.put, List.getElem_toArray, List.getElem_cons_succ, List.getElem_cons_zero, List.setIfInBounds_toArray, List.set_cons_succ, List.set_cons_zero]
            refine Wl.take0 (i := 29) (v := .pointer (some ⟨g2, 4, none⟩)) rfl (by kernel_rfl) (by kernel_rfl) (by kernel_rfl) (by kernel_rfl) (fun _ _ _ h => h) (.inl ⟨by kernel_rfl, ?_⟩) hk ?_
            · intro wx hSw
              clear hSw hk
              go_simp
              try first | with_reducible rfl | kernel_rfl
            simp only [Act.put, List.getElem_toArray, List.getElem_cons_succ, List.getElem_cons_zero, List.setIfInBounds_toArray, List.set_cons_succ, List.set_cons_zero]
            refine Wl.take0 (i := 30) (v := .int .i64 r.db) rfl (by kernel_rfl) (by kernel_rfl) (by kernel_rfl) (by kernel_rfl) (fun _ _ _ h => h) (.inl ⟨by kernel_rfl, ?_⟩) hk ?_
            · intro wx hSw
              have cc := hSw.2.2.1
              clear hSw hk
              go_simp
              try first | with_reducible rfl | kernel_rfl
            simp only [Act.put, List.getElem_toArray, List.getElem_cons_succ, List.getElem_cons_zero, List.setIfInBounds_toArray, List.set_cons_succ, List.set_cons_zero]
            refine Wl.take0 (i := 31) (v := .int .i64 (x.b + r.db)) rfl (by kernel_rfl) (by kernel_rfl) (by kernel_rfl) (by kernel_rfl) (fun _ _ _ h => h) (.inl ⟨by kernel_rfl, ?_⟩) hk ?_
            · intro wx hSw
              have e := HWB.out
              clear hSw hk
              go_simp
              try first | with_reducible rfl | kernel_rfl
            simp only [Act.put, List.getElem_toArray, List.getElem_cons_succ, List.getElem_cons_zero, List.setIfInBounds_toArray, List.set_cons_succ, List.set_cons_zero]
            refine Wl.take0 (i := 32) (v := .bool false) rfl (by kernel_rfl) (by kernel_rfl) (by kernel_rfl) (by kernel_rfl) (fun _ _ _ h => h) (.inl ⟨by kernel_rfl, ?_⟩) hk ?_
            · intro wx hSw
              have e := HCB.out
              clear hSw hk
              go_simp
              try first | with_reducible rfl | kernel_rfl
            simp only [Act.put, List.getElem_toArray, List.getElem_cons_succ, List.getElem_cons_zero, List.setIfInBounds_toArray, List.set_cons_succ, List.set_cons_zero]
            refine Wl.take0 (i := 33) (v := .bool false) rfl (by kernel_rfl) (by kernel_rfl) (by kernel_rfl) (by kernel_rfl) (fun _ _ _ h => h) (.inl ⟨by kernel_rfl, ?_⟩) hk ?_
            · intro wx hSw
              clear hSw hk
              go_simp
              try first | with_reducible rfl | kernel_rfl
            simp only [Act.put, List.getElem_toArray, List.getElem_cons_succ, List.getElem_cons_zero, List.setIfInBounds_toArray, List.set_cons_succ, List.set_cons_zero]
            refine Wl.done (by kernel_rfl) ?_ _
            clear hk
            have HEND : Hid (Inv a0 (Dr.sh a0 a1) (j + 1) (65 * (j + 1)) (x) ∧ ∃ N, N ≤ j + 1 ∧ PlV P pw pk (Dr.sh a0 a1) a1 N (x) (fun _ => False) B wa W5.drew) := Lib.hid ⟨HI.out.more (by omega) (by omega), _, Nat.le_succ_of_le HNJ.out, pl_drop (⟨_, _, _, _, _, HG5.out.drew⟩)⟩
            go_wp2_with fail
            go_roundw
            case rel => exact ⟨j + 1, x, by omega, by go_num, HEND⟩
            case measure => simp [intOf]; omega
          have HCB := Lib.hid hcb
          clear hcb
          obtain ⟨hph, hA0, hB0, hA1, hB1⟩ := phi_up (a := x.a) (b := x.b) HRR.out HMA.out HMB.out
          have HPH := Lib.hid (And.intro hph (And.intro hA0 hB0))
          clear hph hA0 hB0 hA1 hB1
          refine Wl.start 999 (fun _ => True) (fun u => u.cell? ⟨g2, 2, none⟩ = some (.int .i64 r.real) ∧ u.cell? ⟨g2, 3, none⟩ = some (.int .i64 r.da) ∧ u.cell? ⟨g2, 4, none⟩ = some (.int .i64 r.db) ∧ u.cell? ⟨P, 6, none⟩ = some (.int .i64 x.a) ∧ u.cell? ⟨P, 7, none⟩ = some (.int .i64 x.b)) (by kernel_rfl) trivial HQ0.out (fun hk => ?_)
          refine Wl.take0 (i := 0) (v := .int .i64 a0) rfl (by kernel_rfl) (by kernel_rfl) (by kernel_rfl) (by kernel_rfl) (fun _ _ _ h => h) (.inl ⟨by kernel_rfl, ?_⟩) hk ?_
          · intro wx hSw
            clear hSw hk
            go_simp
            try first | with_reducible rfl | kernel_rfl
          simp only [Act.put, List.getElem_toArray, List.getElem_cons_succ, List.getElem_cons_zero, List.setIfInBounds_toArray, List.set_cons_succ, List.set_cons_zero]
          refine Wl.take0 (i := 1) (v := .pointer (some ⟨g2, 2, none⟩)) rfl (by kernel_rfl) (by kernel_rfl) (by kernel_rfl) (by kernel_rfl) (fun _ _ _ h => h) (.inl ⟨by kernel_rfl, ?_⟩) hk ?_
          · intro wx hSw
            clear hSw hk
            go_simp
            try first | with_reducible rfl | kernel_rfl
          simp only [Act.put, List.getElem_toArray, List.getElem_cons_succ, List.getElem_cons_zero, List.setIfInBounds_toArray, List.set_cons_succ, List.set_cons_zero]
          refine Wl.take0 (i := 2) (v := .int .i64 r.real) rfl (by kernel_rfl) (by kernel_rfl) (by kernel_rfl) (by kernel_rfl) (fun _ _ _ h => h) (.inl ⟨by kernel_rfl, ?_⟩) hk ?_
          · intro wx hSw
            have cc := hSw.1
            clear hSw hk
            go_simp
            try first | with_reducible rfl | kernel_rfl
          simp only [Act.put, List.getElem_toArray, List.getElem_cons_succ, List.getElem_cons_zero, List.setIfInBounds_toArray, List.set_cons_succ, List.set_cons_zero]
          refine Wl.take0 (i := 3) (v := .pointer (some ⟨g2, 3, none⟩)) rfl (by kernel_rfl) (by kernel_rfl) (by kernel_rfl) (by kernel_rfl) (fun _ _ _ h => h) (.inl ⟨by kernel_rfl, ?_⟩) hk ?_
          · intro wx hSw
            clear hSw hk
            go_simp
            try first | with_reducible rfl | kernel_rfl
          simp only [Act.put, List.getElem_toArray, List.getElem_cons_succ, List.getElem_cons_zero, List.setIfInBounds_toArray, List.set_cons_succ, List.set_cons_zero]
          refine Wl.take0 (i := 4) (v := .int .i64 r.da) rfl (by kernel_rfl) (by kernel_rfl) (by kernel_rfl) (by kernel_rfl) (fun _ _ _ h => h) (.inl ⟨by kernel_rfl, ?_⟩) hk ?_
          · intro wx hSw
            have cc := hSw.2.1
            clear hSw hk
            go_simp
            try first | with_reducible rfl | kernel_rfl
          simp only [Act.put, List.getElem_toArray, List.getElem_cons_succ, List.getElem_cons_zero, List.setIfInBounds_toArray, List.set_cons_succ, List.set_cons_zero]
          refine Wl.one (i := 5) (by kernel_rfl) rfl (fun K hK => ?_)
          go_simp
          refine (Dr.rmay_any a0 r.real r.da _).mono ?_
          rintro e wx ⟨rfl, rfl⟩
          rw [HMA.out]
          refine hK.out _ _ (Wl.Kn.on trivial HQ0.out) (fun hk => ?_)
          clear hK K
          refine Wl.take0 (i := 6) (v := .bool true) rfl (by kernel_rfl) (by kernel_rfl) (by kernel_rfl) (by kernel_rfl) (fun _ _ _ h => h) (.inl ⟨by kernel_rfl, ?_⟩) hk ?_
          · intro wx hSw
            clear hSw hk
            go_simp
            try first | with_reducible rfl | kernel_rfl
          simp only [Act.put, List.getElem_toArray, List.getElem_cons_succ, List.getElem_cons_zero, List.setIfInBounds_toArray, List.set_cons_succ, List.set_cons_zero]
          refine Wl.take0 (i := 7) (v := .int .i64 a0) rfl (by kernel_rfl) (by kernel_rfl) (by kernel_rfl) (by kernel_rfl) (fun _ _ _ h => h) (.inl ⟨by kernel_rfl, ?_⟩) hk ?_
          · intro wx hSw
            clear hSw hk
            go_simp
            try first | with_reducible rfl | kernel_rfl
          simp only [Act.put, List.getElem_toArray, List.getElem_cons_succ, List.getElem_cons_zero, List.setIfInBounds_toArray, List.set_cons_succ, List.set_cons_zero]
          refine Wl.take0 (i := 8) (v := .pointer (some ⟨g2, 2, none⟩)) rfl (by kernel_rfl) (by kernel_rfl) (by kernel_rfl) (by kernel_rfl) (fun _ _ _ h => h) (.inl ⟨by kernel_rfl, ?_⟩) hk ?_
          · intro wx hSw
            clear hSw hk
            go_simp
            try first | with_reducible rfl | kernel_rfl
          simp only [Act.put, List.getElem_toArray, List.getElem_cons_succ, List.getElem_cons_zero, List.setIfInBounds_toArray, List.set_cons_succ, List.set_cons_zero]
          refine Wl.take0 (i := 9) (v := .int .i64 r.real) rfl (by kernel_rfl) (by kernel_rfl) (by kernel_rfl) (by kernel_rfl) (fun _ _ _ h => h) (.inl ⟨by kernel_rfl, ?_⟩) hk ?_
          · intro wx hSw
            have cc := hSw.1
            clear hSw hk
            go_simp
            try first | with_reducible rfl | kernel_rfl
          simp only [Act.put, List.getElem_toArray, List.getElem_cons_succ, List.getElem_cons_zero, List.setIfInBounds_toArray, List.set_cons_succ, List.set_cons_zero]
          refine Wl.take0 (i := 10) (v := .pointer (some ⟨g2, 4, none⟩)) rfl (by kernel_rfl) (by kernel_rfl) (by kernel_rfl) (by kernel_rfl) (fun _ _ _ h => h) (.inl ⟨by kernel_rfl, ?_⟩) hk ?_
          · intro wx hSw
            clear hSw hk
            go_simp
            try first | with_reducible rfl | kernel_rfl
          simp only [Act.put, List.getElem_toArray, List.getElem_cons_succ, List.getElem_cons_zero, List.setIfInBounds_toArray, List.set_cons_succ, List.set_cons_zero]
          refine Wl.take0 (i := 11) (v := .int .i64 r.db) rfl (by kernel_rfl) (by kernel_rfl) (by kernel_rfl) (by kernel_rfl) (fun _ _ _ h => h) (.inl ⟨by kernel_rfl, ?_⟩) hk ?_
          · intro wx hSw
            have cc := hSw.2.2.1
            clear hSw hk
            go_simp
            try first | with_reducible rfl | kernel_rfl
          simp only [Act.put, List.getElem_toArray, List.getElem_cons_succ, List.getElem_cons_zero, List.setIfInBounds_toArray, List.set_cons_succ, List.set_cons_zero]
          refine Wl.one (i := 12) (by kernel_rfl) rfl (fun K hK => ?_)
          go_simp
          refine (Dr.rmay_any a0 r.real r.db _).mono ?_
          rintro e wx ⟨rfl, rfl⟩
          rw [HMB.out]
          refine hK.out _ _ (Wl.Kn.on trivial HQ0.out) (fun hk => ?_)
          clear hK K
          refine Wl.take0 (i := 13) (v := .bool true) rfl (by kernel_rfl) (by kernel_rfl) (by kernel_rfl) (by kernel_rfl) (fun _ _ _ h => h) (.inl ⟨by kernel_rfl, ?_⟩) hk ?_
          · intro wx hSw
            clear hSw hk
            go_simp
            try first | with_reducible rfl | kernel_rfl
          simp only [Act.put, List.getElem_toArray, List.getElem_cons_succ, List.getElem_cons_zero, List.setIfInBounds_toArray, List.set_cons_succ, List.set_cons_zero]
          refine Wl.take0 (i := 14) (v := .bool true) rfl (by kernel_rfl) (by kernel_rfl) (by kernel_rfl) (by kernel_rfl) (fun _ _ _ h => h) (.inl ⟨by kernel_rfl, ?_⟩) hk ?_
          · intro wx hSw
            clear hSw hk
            go_simp
            try first | with_reducible rfl | kernel_rfl
          simp only [Act.put, List.getElem_toArray, List.getElem_cons_succ, List.getElem_cons_zero, List.setIfInBounds_toArray, List.set_cons_succ, List.set_cons_zero]
          refine Wl.take0 (i := 15) (v := .pointer (some ⟨P, 0, none⟩)) rfl (by kernel_rfl) (by kernel_rfl) (by kernel_rfl) (by kernel_rfl) (fun _ _ _ h => h) (.inl ⟨by kernel_rfl, ?_⟩) hk ?_
          · intro wx hSw
            clear hSw hk
            go_simp
            try first | with_reducible rfl | kernel_rfl
          simp only [Act.put, List.getElem_toArray, List.getElem_cons_succ, List.getElem_cons_zero, List.setIfInBounds_toArray, List.set_cons_succ, List.set_cons_zero]
          refine Wl.take0 (i := 16) (v := .pointer (some ⟨P, 0, none⟩)) rfl (by kernel_rfl) (by kernel_rfl) (by kernel_rfl) (by kernel_rfl) (fun _ _ _ h => h) (.inl ⟨by kernel_rfl, ?_⟩) hk ?_
          · intro wx hSw
            clear hSw hk
            go_simp
            try first | with_reducible rfl | kernel_rfl
          simp only [Act.put, List.getElem_toArray, List.getElem_cons_succ, List.getElem_cons_zero, List.setIfInBounds_toArray, List.set_cons_succ, List.set_cons_zero]
          refine Wl.take0 (i := 17) (v := .pointer (some ⟨P, 6, none⟩)) rfl (by kernel_rfl) (by kernel_rfl) (by kernel_rfl) (by kernel_rfl) (fun _ _ _ h => h) (.inl ⟨by kernel_rfl, ?_⟩) hk ?_
          · intro wx hSw
            clear hSw hk
            go_simp
            try first | with_reducible rfl | kernel_rfl
          simp only [Act.put, List.getElem_toArray, List.getElem_cons_succ, List.getElem_cons_zero, List.setIfInBounds_toArray, List.set_cons_succ, List.set_cons_zero]
          refine Wl.take0 (i := 18) (v := .int .i64 x.a) rfl (by kernel_rfl) (by kernel_rfl) (by kernel_rfl) (by kernel_rfl) (fun _ _ _ h => h) (.inl ⟨by kernel_rfl, ?_⟩) hk ?_
          · intro wx hSw
            have cc := hSw.2.2.2.1
            clear hSw hk
            go_simp
            try first | with_reducible rfl | kernel_rfl
          simp only [Act.put, List.getElem_toArray, List.getElem_cons_succ, List.getElem_cons_zero, List.setIfInBounds_toArray, List.set_cons_succ, List.set_cons_zero]
          refine Wl.take0 (i := 19) (v := .pointer (some ⟨g2, 3, none⟩)) rfl (by kernel_rfl) (by kernel_rfl) (by kernel_rfl) (by kernel_rfl) (fun _ _ _ h => h) (.inl ⟨by kernel_rfl, ?_⟩) hk ?_
          · intro wx hSw
            clear hSw hk
            go_simp
            try first | with_reducible rfl | kernel_rfl
          simp only [Act.put, List.getElem_toArray, List.getElem_cons_succ, List.getElem_cons_zero, List.setIfInBounds_toArray, List.set_cons_succ, List.set_cons_zero]
          refine Wl.take0 (i := 20) (v := .int .i64 r.da) rfl (by kernel_rfl) (by kernel_rfl) (by kernel_rfl) (by kernel_rfl) (fun _ _ _ h => h) (.inl ⟨by kernel_rfl, ?_⟩) hk ?_
          · intro wx hSw
            have cc := hSw.2.1
            clear hSw hk
            go_simp
            try first | with_reducible rfl | kernel_rfl
          simp only [Act.put, List.getElem_toArray, List.getElem_cons_succ, List.getElem_cons_zero, List.setIfInBounds_toArray, List.set_cons_succ, List.set_cons_zero]
          refine Wl.take0 (i := 21) (v := .int .i64 (x.a + r.da)) rfl (by kernel_rfl) (by kernel_rfl) (by kernel_rfl) (by kernel_rfl) (fun _ _ _ h => h) (.inl ⟨by kernel_rfl, ?_⟩) hk ?_
          · intro wx hSw
            have e := HWA.out
            clear hSw hk
            go_simp
            try first | with_reducible rfl | kernel_rfl
          simp only [Act.put, List.getElem_toArray, List.getElem_cons_succ, List.getElem_cons_zero, List.setIfInBounds_toArray, List.set_cons_succ, List.set_cons_zero]
          refine Wl.take0 (i := 22) (v := .bool true) rfl (by kernel_rfl) (by kernel_rfl) (by kernel_rfl) (by kernel_rfl) (fun _ _ _ h => h) (.inl ⟨by kernel_rfl, ?_⟩) hk ?_
          · intro wx hSw
            have e := HCA.out
            clear hSw hk
            go_simp
            try first | with_reducible rfl | kernel_rfl
          simp only [Act.put, List.getElem_toArray, List.getElem_cons_succ, List.getElem_cons_zero, List.setIfInBounds_toArray, List.set_cons_succ, List.set_cons_zero]
          refine Wl.take0 (i := 23) (v := .bool true) rfl (by kernel_rfl) (by kernel_rfl) (by kernel_rfl) (by kernel_rfl) (fun _ _ _ h => h) (.inl ⟨by kernel_rfl, ?_⟩) hk ?_
          · intro wx hSw
            clear hSw hk
            go_simp
            try first | with_reducible rfl | kernel_rfl
          simp only [Act.put, List.getElem_toArray, List.getElem_cons_succ, List.getElem_cons_zero, List.setIfInBounds_toArray, List.set_cons_succ, List.set_cons_zero]
          refine Wl.take0 (i := 24) (v := .bool true) rfl (by kernel_rfl) (by kernel_rfl) (by kernel_rfl) (by kernel_rfl) (fun _ _ _ h => h) (.inl ⟨by kernel_rfl, ?_⟩) hk ?_
          · intro wx hSw
            clear hSw hk
            go_simp
            try first | with_reducible rfl | kernel_rfl
          simp only [Act.put, List.getElem_toArray, List.getElem_cons_succ, List.getElem_cons_zero, List.setIfInBounds_toArray, List.set_cons_succ, List.set_cons_zero]
          refine Wl.take0 (i := 25) (v := .pointer (some ⟨P, 0, none⟩)) rfl (by kernel_rfl) (by kernel_rfl) (by kernel_rfl) (by kernel_rfl) (fun _ _ _ h => h) (.inl ⟨by kernel_rfl, ?_⟩) hk ?_
          · intro wx hSw
            clear hSw hk
            go_simp
            try first | with_reducible rfl | kernel_rfl
          simp only [Act.put, List.getElem_toArray, List.getElem_cons_succ, List.getElem_cons_zero, List.setIfInBounds_toArray, List.set_cons_succ, List.set_cons_zero]
          refine Wl.take0 (i := 26) (v := .pointer (some ⟨P, 0, none⟩)) rfl (by kernel_rfl) (by kernel_rfl) (by kernel_rfl) (by kernel_rfl) (fun _ _ _ h => h) (.inl ⟨by kernel_rfl, ?_⟩) hk ?_
          · intro wx hSw
            clear hSw hk
            go_simp
            try first | with_reducible rfl | kernel_rfl
          simp only [Act.put, List.getElem_toArray, List.getElem_cons_succ, List.getElem_cons_zero, List.setIfInBounds_toArray, List.set_cons_succ, List.set_cons_zero]
          refine Wl.take0 (i := 27) (v := .pointer (some ⟨P, 7, none⟩)) rfl (by kernel_rfl) (by kernel_rfl) (by kernel_rfl) (by kernel_rfl) (fun _ _ _ h => h) (.inl ⟨by kernel_rfl, ?_⟩) hk ?_
          · intro wx hSw
            clear hSw hk
            go_simp
            try first | with_reducible rfl | kernel_rfl
          simp only [Act.put, List.getElem_toArray, List.getElem_cons_succ, List.getElem_cons_zero, List.setIfInBounds_toArray, List.set_cons_succ, List.set_cons_zero]
          refine Wl.take0 (i := 28) (v := .int .i64 x.b) rfl (by kernel_rfl) (by kernel_rfl) (by kernel_rfl) (by kernel_rfl) (fun _ _ _ h => h) (.inl ⟨by kernel_rfl, ?_⟩) hk ?_
          · intro wx hSw
            have cc := hSw.2.2.2.2
            clear hSw hk
            go_simp
            try first | with_reducible rfl | kernel_rfl
          simp only [Act.put, List.getElem_toArray, List.getElem_cons_succ, List.getElem_cons_zero, List.setIfInBounds_toArray, List.set_cons_succ, List.set_cons_zero]
          refine Wl.take0 (i := 29) (v := .pointer (some ⟨g2, 4, none⟩)) rfl (by kernel_rfl) (by kernel_rfl) (by kernel_rfl) (by kernel_rfl) (fun _ _ _ h => h) (.inl ⟨by kernel_rfl, ?_⟩) hk ?_
          · intro wx hSw
            clear hSw hk
            go_simp
            try first | with_reducible rfl | kernel_rfl
          simp only [Act.put, List.getElem_toArray, List.getElem_cons_succ, List.getElem_cons_zero, List.setIfInBounds_toArray, List.set_cons_succ, List.set_cons_zero]
          refine Wl.take0 (i := 30) (v := .int .i64 r.db) rfl (by kernel_rfl) (by kernel_rfl) (by kernel_rfl) (by kernel_rfl) (fun _ _ _ h => h) (.inl ⟨by kernel_rfl, ?_⟩) hk ?_
          · intro wx hSw
            have cc := hSw.2.2.1
            clear hSw hk
            go_simp
            try first | with_reducible rfl | kernel_rfl
          simp only [Act.put, List.getElem_toArray, List.getElem_cons_succ, List.getElem_cons_zero, List.setIfInBounds_toArray, List.set_cons_succ, List.set_cons_zero]
          refine Wl.take0 (i := 31) (v := .int .i64 (x.b + r.db)) rfl (by kernel_rfl) (by kernel_rfl) (by kernel_rfl) (by kernel_rfl) (fun _ _ _ h => h) (.inl ⟨by kernel_rfl, ?_⟩) hk ?_
          · intro wx hSw
            have e := HWB.out
            clear hSw hk
            go_simp
            try first | with_reducible rfl | kernel_rfl
          simp only [Act.put, List.getElem_toArray, List.getElem_cons_succ, List.getElem_cons_zero, List.setIfInBounds_toArray, List.set_cons_succ, List.set_cons_zero]
          refine Wl.take0 (i := 32) (v := .bool true) rfl (by kernel_rfl) (by kernel_rfl) (by kernel_rfl) (by kernel_rfl) (fun _ _ _ h => h) (.inl ⟨by kernel_rfl, ?_⟩) hk ?_
          · intro wx hSw
            have e := HCB.out
            clear hSw hk
            go_simp
            try first | with_reducible rfl | kernel_rfl
          simp only [Act.put, List.getElem_toArray, List.getElem_cons_succ, List.getElem_cons_zero, List.setIfInBounds_toArray, List.set_cons_succ, List.set_cons_zero]
          refine Wl.take0 (i := 33) (v := .bool true) rfl (by kernel_rfl) (by kernel_rfl) (by kernel_rfl) (by kernel_rfl) (fun _ _ _ h => h) (.inl ⟨by kernel_rfl, ?_⟩) hk ?_
          · intro wx hSw
            clear hSw hk
            go_simp
            try first | with_reducible rfl | kernel_rfl
          simp only [Act.put, List.getElem_toArray, List.getElem_cons_succ, List.getElem_cons_zero, List.setIfInBounds_toArray, List.set_cons_succ, List.set_cons_zero]
          refine Wl.done (by kernel_rfl) ?_ _
          clear hk
          obtain ⟨W6, hW6⟩ : ∃ z, W5.drew = z := ⟨_, rfl⟩
          have H6 : Hid (PlG P pw pk (Dr.sh a0 a1) a1 x vh vl va g N Q OW B wa W6 ∧ W6.heap[g2]? = some (.cells #[.int .i64 r.kind, .int .i64 r.n, .int .i64 r.real, .int .i64 r.da, .int .i64 r.db] 83 (0, 0))) := Lib.hid (by rw [← hW6]; exact ⟨HG5.out.drew, HRG.out⟩)
          rw [hW6]
          clear hW6
          have HQ6 : Hid (W6.drew.cell? ⟨P, 6, none⟩ = some (.int .i64 x.a) ∧ W6.drew.cell? ⟨g2, 3, none⟩ = some (.int .i64 r.da)) := Lib.hid ⟨(cell_of_row W6 _ 6 _ _ _ H6.out.1.row).trans rfl, (cell_of_row W6 _ 3 _ _ _ H6.out.2).trans rfl⟩
          have ea : W6.drew.cell? ⟨P, 6, none⟩ = some (.int .i64 x.a) := HQ6.out.1
          have fa : W6.drew.frozen? ⟨P, 6, none⟩ = false := frozen_of_row W6 _ _ _ _ H6.out.1.row
          obtain ⟨W7, hW7⟩ : ∃ z, W6.drew.setCell ⟨P, 6, none⟩ (.int .i64 (x.a + r.da)) = z := ⟨_, rfl⟩
          have h7 : PlG P pw pk (Dr.sh a0 a1) a1 ({ x with a := x.a + r.da } : Pl) vh vl va g N Q OW B wa W7 ∧ ∀ k, OW k → W7.heap[k]? = W6.drew.heap[k]? := by rw [← hW7]; exact H6.out.1.drew.cell (x' := ({ x with a := x.a + r.da } : Pl)) rfl rfl rfl rfl rfl rfl
          have H7 : Hid (PlG P pw pk (Dr.sh a0 a1) a1 ({ x with a := x.a + r.da } : Pl) vh vl va g N Q OW B wa W7 ∧ W7.heap[g2]? = some (.cells #[.int .i64 r.kind, .int .i64 r.n, .int .i64 r.real, .int .i64 r.da, .int .i64 r.db] 83 (0, 0))) := Lib.hid ⟨h7.1, (h7.2 g2 HOG.out).trans H6.out.2⟩
          have HQ7 : Hid (W7.drew.cell? ⟨P, 7, none⟩ = some (.int .i64 x.b) ∧ W7.drew.cell? ⟨g2, 4, none⟩ = some (.int .i64 r.db)) := Lib.hid ⟨(cell_of_row W7 _ 7 _ _ _ H7.out.1.row).trans rfl, (cell_of_row W7 _ 4 _ _ _ H7.out.2).trans rfl⟩
          clear h7
          go_upto_region 16 with fail
          refine Wl.start 9 (fun u => u.cell? ⟨P, 6, none⟩ = some (.int .i64 x.a) ∧ u.cell? ⟨g2, 3, none⟩ = some (.int .i64 r.da)) (fun _ => True) (by kernel_rfl) HQ6.out trivial (fun hk => ?_)
          refine Wl.take (i := 0) (v := .pointer (some ⟨P, 0, none⟩)) [1, 2, 3, 6, 7, 8, 9] rfl (by kernel_rfl) (by kernel_rfl) (by kernel_rfl) (by kernel_rfl) (by kernel_rfl) (fun _ _ _ h => h) (.inl ⟨by kernel_rfl, ?_⟩) hk ?_
          · intro wx hSw
            clear hSw hk
            go_simp
            try first | with_reducible rfl | kernel_rfl
          simp only [Act.put, List.getElem_toArray, List.getElem_cons_succ, List.getElem_cons_zero, List.setIfInBounds_toArray, List.set_cons_succ, List.set_cons_zero]
          refine Wl.take (i := 1) (v := .pointer (some ⟨P, 0, none⟩)) [2, 3, 6, 7, 8, 9] rfl (by kernel_rfl) (by kernel_rfl) (by kernel_rfl) (by kernel_rfl) (by kernel_rfl) (fun _ _ _ h => h) (.inl ⟨by kernel_rfl, ?_⟩) hk ?_
          · intro wx hSw
            clear hSw hk
            go_simp
            try first | with_reducible rfl | kernel_rfl
          simp only [Act.put, List.getElem_toArray, List.getElem_cons_succ, List.getElem_cons_zero, List.setIfInBounds_toArray, List.set_cons_succ, List.set_cons_zero]
          refine Wl.take (i := 2) (v := .pointer (some ⟨P, 6, none⟩)) [3, 6, 7, 8, 9] rfl (by kernel_rfl) (by kernel_rfl) (by kernel_rfl) (by kernel_rfl) (by kernel_rfl) (fun _ _ _ h => h) (.inl ⟨by kernel_rfl, ?_⟩) hk ?_
          · intro wx hSw
            clear hSw hk
            go_simp
            try first | with_reducible rfl | kernel_rfl
          simp only [Act.put, List.getElem_toArray, List.getElem_cons_succ, List.getElem_cons_zero, List.setIfInBounds_toArray, List.set_cons_succ, List.set_cons_zero]
          refine Wl.take (i := 3) (v := .int .i64 x.a) [6, 7, 8, 9] rfl (by kernel_rfl) (by kernel_rfl) (by kernel_rfl) (by kernel_rfl) (by kernel_rfl) (fun _ _ _ h => h) (.inl ⟨by kernel_rfl, ?_⟩) hk ?_
          · intro wx hSw
            have cc := hSw.1.1
            clear hSw hk
            go_simp
            try first | with_reducible rfl | kernel_rfl
          simp only [Act.put, List.getElem_toArray, List.getElem_cons_succ, List.getElem_cons_zero, List.setIfInBounds_toArray, List.set_cons_succ, List.set_cons_zero]
          refine Wl.take (i := 4) (v := .pointer (some ⟨g2, 3, none⟩)) [5, 6, 7, 8, 9] rfl (by kernel_rfl) (by kernel_rfl) (by kernel_rfl) (by kernel_rfl) (by kernel_rfl) (fun _ _ _ h => h) (.inl ⟨by kernel_rfl, ?_⟩) hk ?_
          · intro wx hSw
            clear hSw hk
            go_simp
            try first | with_reducible rfl | kernel_rfl
          simp only [Act.put, List.getElem_toArray, List.getElem_cons_succ, List.getElem_cons_zero, List.setIfInBounds_toArray, List.set_cons_succ, List.set_cons_zero]
          refine Wl.take (i := 5) (v := .int .i64 r.da) [6, 7, 8, 9] rfl (by kernel_rfl) (by kernel_rfl) (by kernel_rfl) (by kernel_rfl) (by kernel_rfl) (fun _ _ _ h => h) (.inl ⟨by kernel_rfl, ?_⟩) hk ?_
          · intro wx hSw
            have cc := hSw.1.2
            clear hSw hk
            go_simp
            try first | with_reducible rfl | kernel_rfl
          simp only [Act.put, List.getElem_toArray, List.getElem_cons_succ, List.getElem_cons_zero, List.setIfInBounds_toArray, List.set_cons_succ, List.set_cons_zero]
          refine Wl.take (i := 6) (v := .int .i64 (x.a + r.da)) [7, 8, 9] rfl (by kernel_rfl) (by kernel_rfl) (by kernel_rfl) (by kernel_rfl) (by kernel_rfl) (fun _ _ _ h => h) (.inl ⟨by kernel_rfl, ?_⟩) hk ?_
          · intro wx hSw
            have e := HWA.out
            clear hSw hk
            go_simp
            try first | with_reducible rfl | kernel_rfl
          simp only [Act.put, List.getElem_toArray, List.getElem_cons_succ, List.getElem_cons_zero, List.setIfInBounds_toArray, List.set_cons_succ, List.set_cons_zero]
          refine Wl.take (i := 7) (v := .pointer (some ⟨P, 0, none⟩)) [8, 9] rfl (by kernel_rfl) (by kernel_rfl) (by kernel_rfl) (by kernel_rfl) (by kernel_rfl) (fun _ _ _ h => h) (.inl ⟨by kernel_rfl, ?_⟩) hk ?_
          · intro wx hSw
            clear hSw hk
            go_simp
            try first | with_reducible rfl | kernel_rfl
          simp only [Act.put, List.getElem_toArray, List.getElem_cons_succ, List.getElem_cons_zero, List.setIfInBounds_toArray, List.set_cons_succ, List.set_cons_zero]
          refine Wl.take (i := 8) (v := .pointer (some ⟨P, 6, none⟩)) [9] rfl (by kernel_rfl) (by kernel_rfl) (by kernel_rfl) (by kernel_rfl) (by kernel_rfl) (fun _ _ _ h => h) (.inl ⟨by kernel_rfl, ?_⟩) hk ?_
          · intro wx hSw
            clear hSw hk
            go_simp
            try first | with_reducible rfl | kernel_rfl
          simp only [Act.put, List.getElem_toArray, List.getElem_cons_succ, List.getElem_cons_zero, List.setIfInBounds_toArray, List.set_cons_succ, List.set_cons_zero]
          refine Wl.one (i := 9) (by kernel_rfl) rfl (fun K hK => ?_)
          go_simp
          try rw [hW7]
          refine hK.out _ _ (Wl.Kn.off (by kernel_rfl) trivial) (fun hk => ?_)
          clear hK K
          refine Wl.done (by kernel_rfl) ?_ _
          clear hk
          clear ea fa hW7
          have eb : W7.drew.cell? ⟨P, 7, none⟩ = some (.int .i64 x.b) := HQ7.out.1
          have fb : W7.drew.frozen? ⟨P, 7, none⟩ = false := frozen_of_row W7 _ _ _ _ H7.out.1.row
          obtain ⟨W8, hW8⟩ : ∃ z, W7.drew.setCell ⟨P, 7, none⟩ (.int .i64 (x.b + r.db)) = z := ⟨_, rfl⟩
          have H8 : Hid (PlG P pw pk (Dr.sh a0 a1) a1 ({ x with a := x.a + r.da, b := x.b + r.db } : Pl) vh vl va g N Q OW B wa W8) := Lib.hid (by rw [← hW8]; exact (H7.out.1.drew.cell (x' := ({ x with a := x.a + r.da, b := x.b + r.db } : Pl)) rfl rfl rfl rfl rfl rfl).1)
          have HQ8 : Hid (W8.drew.cell? ⟨P, 0, none⟩ = some (.pointer (some ⟨pw, 0, none⟩)) ∧ W8.drew.cell? ⟨P, 6, none⟩ = some (.int .i64 (x.a + r.da))) := Lib.hid ⟨(cell_of_row W8 _ 0 _ _ _ H8.out.row).trans rfl, (cell_of_row W8 _ 6 _ _ _ H8.out.row).trans rfl⟩
          have HAT : Hid (Calls Try.prog 26 #[.pointer (some ⟨pw, 0, none⟩), .int .i64 (x.a + r.da)] W8.drew fun e w' => (∃ v, e = .returned v) ∧ PlG P pw pk (Dr.sh a0 a1) a1 ({ x with a := x.a + r.da, b := x.b + r.db, s := atW (x.a + r.da) x.s } : Pl) vh vl va g N Q OW B wa w' ∧ ∀ k, OW k → w'.heap[k]? = W8.drew.heap[k]?) := Lib.hid (PlG.onW (s' := atW (x.a + r.da) x.s) (R := fun e _ => ∃ v, e = .returned v) H8.out.drew (fun S hv => (at_any (x.a + r.da) W8.drew hv HLN.out).mono (fun e w' ⟨v, h1, h2, h3, h4⟩ => ⟨⟨v, h1⟩, Mc.Left.mk (goodW pw _ _) h3 h4⟩)))
          go_upto_region 17 with fail
          refine Wl.start 9 (fun u => u.cell? ⟨P, 7, none⟩ = some (.int .i64 x.b) ∧ u.cell? ⟨g2, 4, none⟩ = some (.int .i64 r.db)) (fun _ => True) (by kernel_rfl) HQ7.out trivial (fun hk => ?_)
          refine Wl.take (i := 0) (v := .pointer (some ⟨P, 0, none⟩)) [1, 2, 3, 6, 7, 8, 9] rfl (by kernel_rfl) (by kernel_rfl) (by kernel_rfl) (by kernel_rfl) (by kernel_rfl) (fun _ _ _ h => h) (.inl ⟨by kernel_rfl, ?_⟩) hk ?_
          · intro wx hSw
            clear hSw hk
            go_simp
            try first | with_reducible rfl | kernel_rfl
          simp only [Act.put, List.getElem_toArray, List.getElem_cons_succ, List.getElem_cons_zero, List.setIfInBounds_toArray, List.set_cons_succ, List.set_cons_zero]
          refine Wl.take (i := 1) (v := .pointer (some ⟨P, 0, none⟩)) [2, 3, 6, 7, 8, 9] rfl (by kernel_rfl) (by kernel_rfl) (by kernel_rfl) (by kernel_rfl) (by kernel_rfl) (fun _ _ _ h => h) (.inl ⟨by kernel_rfl, ?_⟩) hk ?_
          · intro wx hSw
            clear hSw hk
            go_simp
            try first | with_reducible rfl | kernel_rfl
          simp only [Act.put, List.getElem_toArray, List.getElem_cons_succ, List.getElem_cons_zero, List.setIfInBounds_toArray, List.set_cons_succ, List.set_cons_zero]
          refine Wl.take (i := 2) (v := .pointer (some ⟨P, 7, none⟩)) [3, 6, 7, 8, 9] rfl (by kernel_rfl) (by kernel_rfl) (by kernel_rfl) (by kernel_rfl) (by kernel_rfl) (fun _ _ _ h => h) (.inl ⟨by kernel_rfl, ?_⟩) hk ?_
          · intro wx hSw
            clear hSw hk
            go_simp
            try first | with_reducible rfl | kernel_rfl
          simp only [Act.put, List.getElem_toArray, List.getElem_cons_succ, List.getElem_cons_zero, List.setIfInBounds_toArray, List.set_cons_succ, List.set_cons_zero]
          refine Wl.take (i := 3) (v := .int .i64 x.b) [6, 7, 8, 9] rfl (by kernel_rfl) (by kernel_rfl) (by kernel_rfl) (by kernel_rfl) (by kernel_rfl) (fun _ _ _ h => h) (.inl ⟨by kernel_rfl, ?_⟩) hk ?_
          · intro wx hSw
            have cc := hSw.1.1
            clear hSw hk
            go_simp
            try first | with_reducible rfl | kernel_rfl
          simp only [Act.put, List.getElem_toArray, List.getElem_cons_succ, List.getElem_cons_zero, List.setIfInBounds_toArray, List.set_cons_succ, List.set_cons_zero]
          refine Wl.take (i := 4) (v := .pointer (some ⟨g2, 4, none⟩)) [5, 6, 7, 8, 9] rfl (by kernel_rfl) (by kernel_rfl) (by kernel_rfl) (by kernel_rfl) (by kernel_rfl) (fun _ _ _ h => h) (.inl ⟨by kernel_rfl, ?_⟩) hk ?_
          · intro wx hSw
            clear hSw hk
            go_simp
            try first | with_reducible rfl | kernel_rfl
          simp only [Act.put, List.getElem_toArray, List.getElem_cons_succ, List.getElem_cons_zero, List.setIfInBounds_toArray, List.set_cons_succ, List.set_cons_zero]
          refine Wl.take (i := 5) (v := .int .i64 r.db) [6, 7, 8, 9] rfl (by kernel_rfl) (by kernel_rfl) (by kernel_rfl) (by kernel_rfl) (by kernel_rfl) (fun _ _ _ h => h) (.inl ⟨by kernel_rfl, ?_⟩) hk ?_
          · intro wx hSw
            have cc := hSw.1.2
            clear hSw hk
            go_simp
            try first | with_reducible rfl | kernel_rfl
          simp only [Act.put, List.getElem_toArray, List.getElem_cons_succ, List.getElem_cons_zero, List.setIfInBounds_toArray, List.set_cons_succ, List.set_cons_zero]
          refine Wl.take (i := 6) (v := .int .i64 (x.b + r.db)) [7, 8, 9] rfl (by kernel_rfl) (by kernel_rfl) (by kernel_rfl) (by kernel_rfl) (by kernel_rfl) (fun _ _ _ h => h) (.inl ⟨by kernel_rfl, ?_⟩) hk ?_
          · intro wx hSw
            have e := HWB.out
            clear hSw hk
            go_simp
            try first | with_reducible rfl | kernel_rfl
          simp only [Act.put, List.getElem_toArray, List.getElem_cons_succ, List.getElem_cons_zero, List.setIfInBounds_toArray, List.set_cons_succ, List.set_cons_zero]
          refine Wl.take (i := 7) (v := .pointer (some ⟨P, 0, none⟩)) [8, 9] rfl (by kernel_rfl) (by kernel_rfl) (by kernel_rfl) (by kernel_rfl) (by kernel_rfl) (fun _ _ _ h => h) (.inl ⟨by kernel_rfl, ?_⟩) hk ?_
          · intro wx hSw
            clear hSw hk
            go_simp
            try first | with_reducible rfl | kernel_rfl
          simp only [Act.put, List.getElem_toArray, List.getElem_cons_succ, List.getElem_cons_zero, List.setIfInBounds_toArray, List.set_cons_succ, List.set_cons_zero]
          refine Wl.take (i := 8) (v := .pointer (some ⟨P, 7, none⟩)) [9] rfl (by kernel_rfl) (by kernel_rfl) (by kernel_rfl) (by kernel_rfl) (by kernel_rfl) (fun _ _ _ h => h) (.inl ⟨by kernel_rfl, ?_⟩) hk ?_
          · intro wx hSw
            clear hSw hk
            go_simp
            try first | with_reducible rfl | kernel_rfl
          simp only [Act.put, List.getElem_toArray, List.getElem_cons_succ, List.getElem_cons_zero, List.setIfInBounds_toArray, List.set_cons_succ, List.set_cons_zero]
          refine Wl.one (i := 9) (by kernel_rfl) rfl (fun K hK => ?_)
          go_simp
          try rw [hW8]
          refine hK.out _ _ (Wl.Kn.off (by kernel_rfl) trivial) (fun hk => ?_)
          clear hK K
          refine Wl.done (by kernel_rfl) ?_ _
          clear hk
          clear eb fb hW8
          go_upto_region 18 with fail
          refine Wl.start 999 (fun _ => True) (fun u => u.cell? ⟨P, 0, none⟩ = some (.pointer (some ⟨pw, 0, none⟩)) ∧ u.cell? ⟨P, 6, none⟩ = some (.int .i64 (x.a + r.da))) (by kernel_rfl) trivial HQ8.out (fun hk => ?_)
          refine Wl.take0 (i := 0) (v := .pointer (some ⟨P, 0, none⟩)) rfl (by kernel_rfl) (by kernel_rfl) (by kernel_rfl) (by kernel_rfl) (fun _ _ _ h => h) (.inl ⟨by kernel_rfl, ?_⟩) hk ?_
          · intro wx hSw
            clear hSw hk
            go_simp
            try first | with_reducible rfl | kernel_rfl
          simp only [Act.put, List.getElem_toArray, List.getElem_cons_succ, List.getElem_cons_zero, List.setIfInBounds_toArray, List.set_cons_succ, List.set_cons_zero]
          refine Wl.take0 (i := 1) (v := .pointer (some ⟨P, 0, none⟩)) rfl (by kernel_rfl) (by kernel_rfl) (by kernel_rfl) (by kernel_rfl) (fun _ _ _ h => h) (.inl ⟨by kernel_rfl, ?_⟩) hk ?_
          · intro wx hSw
            clear hSw hk
            go_simp
            try first | with_reducible rfl | kernel_rfl
          simp only [Act.put, List.getElem_toArray, List.getElem_cons_succ, List.getElem_cons_zero, List.setIfInBounds_toArray, List.set_cons_succ, List.set_cons_zero]
          refine Wl.take0 (i := 2) (v := .pointer (some ⟨P, 0, none⟩)) rfl (by kernel_rfl) (by kernel_rfl) (by kernel_rfl) (by kernel_rfl) (fun _ _ _ h => h) (.inl ⟨by kernel_rfl, ?_⟩) hk ?_
          · intro wx hSw
            clear hSw hk
            go_simp
            try first | with_reducible rfl | kernel_rfl
          simp only [Act.put, List.getElem_toArray, List.getElem_cons_succ, List.getElem_cons_zero, List.setIfInBounds_toArray, List.set_cons_succ, List.set_cons_zero]
          refine Wl.take0 (i := 3) (v := .pointer (some ⟨pw, 0, none⟩)) rfl (by kernel_rfl) (by kernel_rfl) (by kernel_rfl) (by kernel_rfl) (fun _ _ _ h => h) (.inl ⟨by kernel_rfl, ?_⟩) hk ?_
          · intro wx hSw
            have cc := hSw.1
            clear hSw hk
            go_simp
            try first | with_reducible rfl | kernel_rfl
          simp only [Act.put, List.getElem_toArray, List.getElem_cons_succ, List.getElem_cons_zero, List.setIfInBounds_toArray, List.set_cons_succ, List.set_cons_zero]
          refine Wl.take0 (i := 4) (v := .pointer (some ⟨P, 0, none⟩)) rfl (by kernel_rfl) (by kernel_rfl) (by kernel_rfl) (by kernel_rfl) (fun _ _ _ h => h) (.inl ⟨by kernel_rfl, ?_⟩) hk ?_
          · intro wx hSw
            clear hSw hk
            go_simp
            try first | with_reducible rfl | kernel_rfl
          simp only [Act.put, List.getElem_toArray, List.getElem_cons_succ, List.getElem_cons_zero, List.setIfInBounds_toArray, List.set_cons_succ, List.set_cons_zero]
          refine Wl.take0 (i := 5) (v := .pointer (some ⟨P, 0, none⟩)) rfl (by kernel_rfl) (by kernel_rfl) (by kernel_rfl) (by kernel_rfl) (fun _ _ _ h => h) (.inl ⟨by kernel_rfl, ?_⟩) hk ?_
          · intro wx hSw
            clear hSw hk
            go_simp
            try first | with_reducible rfl | kernel_rfl
          simp only [Act.put, List.getElem_toArray, List.getElem_cons_succ, List.getElem_cons_zero, List.setIfInBounds_toArray, List.set_cons_succ, List.set_cons_zero]
          refine Wl.take0 (i := 6) (v := .pointer (some ⟨P, 6, none⟩)) rfl (by kernel_rfl) (by kernel_rfl) (by kernel_rfl) (by kernel_rfl) (fun _ _ _ h => h) (.inl ⟨by kernel_rfl, ?_⟩) hk ?_
          · intro wx hSw
            clear hSw hk
            go_simp
            try first | with_reducible rfl | kernel_rfl
          simp only [Act.put, List.getElem_toArray, List.getElem_cons_succ, List.getElem_cons_zero, List.setIfInBounds_toArray, List.set_cons_succ, List.set_cons_zero]
          refine Wl.take0 (i := 7) (v := .int .i64 (x.a + r.da)) rfl (by kernel_rfl) (by kernel_rfl) (by kernel_rfl) (by kernel_rfl) (fun _ _ _ h => h) (.inl ⟨by kernel_rfl, ?_⟩) hk ?_
          · intro wx hSw
            have cc := hSw.2
            clear hSw hk
            go_simp
            try first | with_reducible rfl | kernel_rfl
          simp only [Act.put, List.getElem_toArray, List.getElem_cons_succ, List.getElem_cons_zero, List.setIfInBounds_toArray, List.set_cons_succ, List.set_cons_zero]
          refine Wl.one (i := 8) (by kernel_rfl) rfl (fun K hK => ?_)
          go_simp
          refine HAT.out.mono ?_
          rintro e w9 ⟨⟨v9, rfl⟩, h9, k9⟩
          have H9 := Lib.hid h9
          have HQ9 : Hid (w9.cell? ⟨P, 0, none⟩ = some (.pointer (some ⟨pw, 0, none⟩)) ∧ w9.cell? ⟨P, 6, none⟩ = some (.int .i64 (x.a + r.da))) := Lib.hid ⟨(cell_of_row _ _ 0 _ _ _ h9.row).trans rfl, (cell_of_row _ _ 6 _ _ _ h9.row).trans rfl⟩
          clear h9 k9
          refine hK.out _ _ (Wl.Kn.on trivial HQ9.out) (fun hk => ?_)
          clear hK K
          refine Wl.done (by kernel_rfl) ?_ _
          clear hk
          have HEND : Hid (Inv a0 (Dr.sh a0 a1) (j + 1) (65 * (j + 1)) (({ x with a := x.a + r.da, b := x.b + r.db, s := atW (x.a + r.da) x.s } : Pl)) ∧ ∃ N, N ≤ j + 1 ∧ PlV P pw pk (Dr.sh a0 a1) a1 N (({ x with a := x.a + r.da, b := x.b + r.db, s := atW (x.a + r.da) x.s } : Pl)) (fun _ => False) B wa w9) := Lib.hid ⟨(HI.out.time HRR.out HPH.out.1 HPH.out.2.1 HPH.out.2.2 HCA.out HCB.out).more (by omega) (by omega), _, Nat.le_succ_of_le HNJ.out, pl_drop (⟨_, _, _, _, _, H9.out⟩)⟩
          go_wp2_with fail
          go_roundw
          case rel => exact ⟨j + 1, ({ x with a := x.a + r.da, b := x.b + r.db, s := atW (x.a + r.da) x.s } : Pl), by omega, by go_num, HEND⟩
          case measure => simp [intOf]; omega
      by_cases hk1 : r.kind = 1
      · as_aux_lemma =>
          have hkb : (r.kind == 1) = true := beq_iff_eq.2 hk1
          have hkb0 : (r.kind == 0) = false := beq_eq_false_iff_ne.2 hk0
          clear hk0 hk1
          have HPA := Lib.hid (pask_any r.n W5 ⟨_, _, _, _, _, HG5.out⟩ HLN.out ⟨HI.out.len.2.2.1, by have := HI.out.len.2.2.2.1; have := HJ.out; omega⟩ (by have := HI.out.len.2.1; have := HJ.out; omega))
          go_upto_region 20 with fail
          go_wp2_with fail
          refine HPA.out.mono ?_
          rintro e w6 ⟨rfl, c, hc, h6, k6⟩
          have H6 := Lib.hid h6
          have HIA : Hid (Inv a0 (Dr.sh a0 a1) (j + 1) (65 * (j + 1)) (if askE x.s c = 0 then { x with s := askV x.s c, seq := x.seq + 1, asked := x.asked ++ [c] } else x : Pl)) := Lib.hid (by
            split
            · rename_i he
              exact (HI.out.asks he hc.1 hc.2.1 hc.2.2.1 hc.2.2.2.1 hc.2.2.2.2).more (Nat.le_refl _) (by omega)
            · exact HI.out.more (by omega) (by omega))
          clear hc h6 k6
          clear e0 e1 e2 e3 e4
          have HEND : Hid (Inv a0 (Dr.sh a0 a1) (j + 1) (65 * (j + 1)) ((if askE x.s c = 0 then { x with s := askV x.s c, seq := x.seq + 1, asked := x.asked ++ [c] } else x : Pl)) ∧ ∃ N, N ≤ j + 1 ∧ PlV P pw pk (Dr.sh a0 a1) a1 N ((if askE x.s c = 0 then { x with s := askV x.s c, seq := x.seq + 1, asked := x.asked ++ [c] } else x : Pl)) (fun _ => False) B wa w6) := Lib.hid ⟨HIA.out, _, Nat.le_succ_of_le HNJ.out, pl_drop (H6.out)⟩
          go_wp2_with fail
          go_roundw
          case rel => exact ⟨j + 1, (if askE x.s c = 0 then { x with s := askV x.s c, seq := x.seq + 1, asked := x.asked ++ [c] } else x : Pl), by omega, by go_num, HEND⟩
          case measure => simp [intOf]; omega
      by_cases hk2 : r.kind = 2
      · as_aux_lemma =>
          have hkb : (r.kind == 2) = true := beq_iff_eq.2 hk2
          have hkb0 : (r.kind == 0) = false := beq_eq_false_iff_ne.2 hk0
          have hkb1 : (r.kind == 1) = false := beq_eq_false_iff_ne.2 hk1
          clear hk0 hk1 hk2
          obtain ⟨av, cv, hva⟩ := own_slice HG5.out.r.k
          subst hva
          have e10 : W5.cell? ⟨P, 10, none⟩ = some (.slice av x.asked.length cv) := (cell_of_row W5 _ 10 _ _ _ HG5.out.row).trans rfl
          by_cases hz0 : x.asked.length = 0
          · have hzb : ((x.asked.length : Int) == 0) = true := beq_iff_eq.2 (by omega)
            clear hz0
            clear e1 e2 e3 e4
            have HEND : Hid (Inv a0 (Dr.sh a0 a1) (j + 1) (65 * (j + 1)) (x) ∧ ∃ N, N ≤ j + 1 ∧ PlV P pw pk (Dr.sh a0 a1) a1 N (x) (fun _ => False) B wa W5) := Lib.hid ⟨HI.out.more (by omega) (by omega), _, Nat.le_succ_of_le HNJ.out, pl_drop (⟨_, _, _, _, _, HG5.out⟩)⟩
            go_wp2_with fail
            go_roundw
            case rel => exact ⟨j + 1, x, by omega, by go_num, HEND⟩
            case measure => simp [intOf]; omega
          have hzb : ((x.asked.length : Int) == 0) = false := beq_eq_false_iff_ne.2 (by omega)
          obtain ⟨la, hla⟩ : ∃ z : Int, (x.asked.length : Int) = z := ⟨_, rfl⟩
          have HLA : Hid ((x.asked.length : Int) = la) := Lib.hid hla
          have HLB : Hid (1 ≤ la ∧ la ≤ 200) := Lib.hid (by have := HI.out.len.2.1; have := HJ.out; omega)
          obtain ⟨q1, hq1⟩ : ∃ z, r.n.tmod la = z := ⟨_, rfl⟩
          obtain ⟨q3, hq3⟩ : ∃ z, (q1 + la).tmod la = z := ⟨_, rfl⟩
          have hb1 : -la < q1 ∧ q1 < la := by
            have := HLB.out
            rw [← hq1]
            refine ⟨?_, Int.tmod_lt_of_pos r.n (by omega)⟩
            have h9 := Int.tmod_lt_of_pos (-r.n) (show (0 : Int) < la by omega)
            rw [Int.neg_tmod] at h9
            omega
          have hb3 : 0 ≤ q3 ∧ q3 < la := by
            have := HLB.out
            rw [← hq3]
            exact ⟨Int.tmod_nonneg la (by omega), Int.tmod_lt_of_pos _ (by omega)⟩
          obtain ⟨t, ht⟩ : ∃ t : Nat, la - 1 - q3 = (t : Int) := ⟨(la - 1 - q3).toNat, by omega⟩
          have HTL : Hid (t < x.asked.length) := Lib.hid (by omega)
          have hne : ¬ la = 0 := by have := HLB.out; omega
          have hw1 : IntKind.i64.wrap (la - 1) = la - 1 := by have := HLB.out; rw [IntKind.wrap_i64]; omega
          have hw3 : IntKind.i64.wrap (q1 + la) = q1 + la := by have := HLB.out; rw [IntKind.wrap_i64]; omega
          have hw5 : IntKind.i64.wrap (la - 1 - q3) = (t : Int) := by have := HLB.out; rw [IntKind.wrap_i64]; omega
          clear hz0 hb1 hb3 ht
          go_upto_region 23 with fail
          clear e0 e2 e3 e4
          go_quiet (fail)
          rename_i nq
          clear e1 e10 hne hw1 hw3 hw5 hq1 hq3 hla
          obtain ⟨W6, hW6⟩ : ∃ z, W5.drewN nq = z := ⟨_, rfl⟩
          have H6 : Hid (PlG P pw pk (Dr.sh a0 a1) a1 x vh vl (.slice av x.asked.length cv) g N Q OW B wa W6) := Lib.hid (by rw [← hW6]; exact HG5.out.below (Nd.below_drewN _ _))
          rw [hW6]
          clear hW6
          obtain ⟨c, hc⟩ : ∃ c, x.asked[t]? = some c := ⟨_, List.getElem?_eq_getElem HTL.out⟩
          have HCM := Lib.hid (List.mem_of_getElem? hc)
          obtain ⟨bc, cur, rfl, -⟩ : ∃ b cur, av = some ⟨b, 0, none⟩ ∧ W6.heap[b]? = some (.cells cur TCmd (0, 0)) := by
            rcases own_form H6.out.r.k with ⟨-, h0⟩ | ⟨b, c, cur, e1, e2, e3⟩
            · have := HTL.out; omega
            · simp only [Value.slice.injEq] at e1
              exact ⟨b, cur, e1.1, e2⟩
          obtain ⟨y0, y1, y2, y3, y4, y5, y6, y7⟩ : W6.cell? ⟨bc, t * 8, none⟩ = some (.int .i64 c.kind) ∧ W6.cell? ⟨bc, t * 8 + 1, none⟩ = some (.int .i64 c.node) ∧ W6.cell? ⟨bc, t * 8 + 2, none⟩ = some (.int .i64 c.token) ∧ W6.cell? ⟨bc, t * 8 + 3, none⟩ = some (.slice none 0 0) ∧ W6.cell? ⟨bc, t * 8 + 4, none⟩ = some (.int .u64 c.boot) ∧ W6.cell? ⟨bc, t * 8 + 5, none⟩ = some (.int .u64 c.seq) ∧ W6.cell? ⟨bc, t * 8 + 6, none⟩ = some (.int .u64 c.serial) ∧ W6.cell? ⟨bc, t * 8 + 7, none⟩ = some (.int .u64 c.stamp) := by
            rcases SlR.cases (H6.out.r.k.sl cmL_len) with ⟨a8, c8, e, hnil⟩ | ⟨b, off, c8, e, -, -, -, -, hcc⟩
            · rw [hnil] at hc; simp at hc
            · simp only [Value.slice.injEq, Option.some.injEq, Addr.mk.injEq, and_true] at e
              obtain ⟨⟨rfl, rfl⟩, -, -⟩ := e
              have hcc := hcc t c hc
              simp only [Nat.zero_add] at hcc
              exact ⟨hcc 0 _ rfl, hcc 1 _ rfl, hcc 2 _ rfl, hcc 3 _ rfl, hcc 4 _ rfl, hcc 5 _ rfl, hcc 6 _ rfl, hcc 7 _ rfl⟩
          have e10 : W6.cell? ⟨P, 10, none⟩ = some (.slice (some ⟨bc, 0, none⟩) x.asked.length cv) := (cell_of_row W6 _ 10 _ _ _ H6.out.row).trans rfl
          obtain ⟨g18, hg18⟩ : ∃ z, W6.heap.size = z := ⟨_, rfl⟩
          obtain ⟨W7, hW7⟩ : ∃ z, W6.alloc (.cells (cmA c) 58) = z := ⟨_, rfl⟩
          have hb7 : Below W6.heap.size W6 W7 := by rw [← hW7]; exact (Below.refl _ _).alloc (Nat.le_refl _) _
          have hr7 : W7.heap[g18]? = some (.cells (cmA c) 58 (0, 0)) := by rw [← hW7, ← hg18]; exact heap_alloc_new _ _
          obtain ⟨OX, hOX⟩ : ∃ O : Nat → Prop, O = (fun k => OW k ∨ (W6.heap.size ≤ k ∧ k < W7.heap.size)) := ⟨_, rfl⟩
          have H7 : Hid (PlG P pw pk (Dr.sh a0 a1) a1 x vh vl (.slice (some ⟨bc, 0, none⟩) x.asked.length cv) g N Q OX B wa W7 ∧ W7.heap[g18]? = some (.cells (cmA c) 58 (0, 0)) ∧ OX g18) := Lib.hid ⟨by rw [hOX]; exact H6.out.more hb7, hr7, by rw [hOX]; exact .inr ⟨Nat.le_of_eq hg18, row_lt hr7⟩⟩
          have d0 : W7.cell? ⟨g18, 0, none⟩ = some (.int .i64 c.kind) := (cell_of_row _ _ 0 _ _ _ hr7).trans rfl; have d1 : W7.cell? ⟨g18, 1, none⟩ = some (.int .i64 c.node) := (cell_of_row _ _ 1 _ _ _ hr7).trans rfl; have d2 : W7.cell? ⟨g18, 2, none⟩ = some (.int .i64 c.token) := (cell_of_row _ _ 2 _ _ _ hr7).trans rfl; have d3 : W7.cell? ⟨g18, 3, none⟩ = some (.slice none 0 0) := (cell_of_row _ _ 3 _ _ _ hr7).trans rfl; have d4 : W7.cell? ⟨g18, 4, none⟩ = some (.int .u64 c.boot) := (cell_of_row _ _ 4 _ _ _ hr7).trans rfl; have d5 : W7.cell? ⟨g18, 5, none⟩ = some (.int .u64 c.seq) := (cell_of_row _ _ 5 _ _ _ hr7).trans rfl; have d6 : W7.cell? ⟨g18, 6, none⟩ = some (.int .u64 c.serial) := (cell_of_row _ _ 6 _ _ _ hr7).trans rfl; have d7 : W7.cell? ⟨g18, 7, none⟩ = some (.int .u64 c.stamp) := (cell_of_row _ _ 7 _ _ _ hr7).trans rfl
          have hask := HI.out.ask c HCM.out
          have hcok : cmdOk c := ⟨hask.wf, La.req_nodes hask.chk (by have := hask.kind; omega)⟩
          have hti : (t : Int) < (x.asked.length : Int) := by have := HTL.out; omega
          obtain ⟨hd1, hd2, hd3⟩ := HI.out.does HRR.out HCM.out (by have := HJ.out; omega)
          have HAP := Lib.hid (papply_any c W7 ⟨_, _, _, _, _, H7.out.1⟩ HI.out.led HI.out.kok hcok hd1 ⟨HI.out.len.2.2.2.2.1, by have := HI.out.len.2.2.2.2.2; have := HJ.out; omega⟩ hd3.led)
          have HDX := Lib.hid (And.intro hd2 hd3)
          have HAS := Lib.hid hask
          have HSU : Hid (okU c.seq) := Lib.hid hask.wf.2.2.2.2.1
          obtain ⟨a', ha'⟩ : ∃ z, (doL x.l (x.idx + 1) c).2 = z := ⟨_, rfl⟩
          rw [ha'] at HAP HDX
          have HAA := Lib.hid ha'
          clear hc hb7 hr7 hOX hask hcok hd1 hd2 hd3 ha'
          go_upto_region 25 with (first | rw [hW7, hg18])
          clear y0 y1 y2 y3 y4 y5 y6 y7 e10 hti hW7 hg18
          go_wp2_with fail
          refine HAP.out.mono ?_
          rintro e w8 ⟨rfl, h8, k8⟩
          obtain ⟨vhA, vlA, vaA, gA, QA, h8⟩ := h8
          obtain ⟨g19, hg19⟩ : ∃ z, w8.heap.size = z := ⟨_, rfl⟩
          obtain ⟨W9, hW9⟩ : ∃ z, w8.alloc (.cells (aA a') 60) = z := ⟨_, rfl⟩
          have hb9 : Below w8.heap.size w8 W9 := by rw [← hW9]; exact (Below.refl _ _).alloc (Nat.le_refl _) _
          have hr9 : W9.heap[g19]? = some (.cells (aA a') 60 (0, 0)) := by rw [← hW9, ← hg19]; exact heap_alloc_new _ _
          have hr18 : W9.heap[g18]? = some (.cells (cmA c) 58 (0, 0)) := (hb9.block g18 (h8.lt H7.out.2.2)).trans ((k8 g18 H7.out.2.2).trans H7.out.2.1)
          have H9 : Hid (PlG P pw pk (Dr.sh a0 a1) a1 (appX x c) vhA vlA vaA gA N QA OX B wa W9 ∧ W9.heap[g19]? = some (.cells (aA a') 60 (0, 0)) ∧ W9.heap[g18]? = some (.cells (cmA c) 58 (0, 0))) := Lib.hid ⟨h8.below hb9, hr9, hr18⟩
          clear h8 k8 hb9 hr9 hr18 d0 d1 d2 d3 d4 d5 d6 d7
          obtain ⟨tv, hs, hlka, hq3⟩ := look4 x.ans HSU.out
          obtain ⟨g21, hg21⟩ : ∃ z, W9.heap.size = z := ⟨_, rfl⟩
          obtain ⟨WA, hWA⟩ : ∃ z, W9.alloc (.cells #[.int .i64 0, .int .i64 0, .int .u64 0] 60) = z := ⟨_, rfl⟩
          have hbA : Below W9.heap.size W9 WA := by rw [← hWA]; exact (Below.refl _ _).alloc (Nat.le_refl _) _
          have hrz : WA.heap[g21]? = some (.cells #[.int .i64 0, .int .i64 0, .int .u64 0] 60 (0, 0)) := by rw [← hWA, ← hg21]; exact heap_alloc_new _ _
          have HAZ : Hid (Below W9.heap.size W9 WA ∧ WA.heap[g21]? = some (.cells #[.int .i64 0, .int .i64 0, .int .u64 0] 60 (0, 0)) ∧ W9.heap.size = g21) := Lib.hid ⟨hbA, hrz, hg21⟩
          have k0 : WA.cell? ⟨g21, 0, none⟩ = some (.int .i64 0) := (cell_of_row _ _ 0 _ _ _ hrz).trans rfl
          have k1 : WA.cell? ⟨g21, 1, none⟩ = some (.int .i64 0) := (cell_of_row _ _ 1 _ _ _ hrz).trans rfl
          have k2 : WA.cell? ⟨g21, 2, none⟩ = some (.int .u64 0) := (cell_of_row _ _ 2 _ _ _ hrz).trans rfl
          have f0 : WA.frozen? ⟨g21, 0, none⟩ = false := frozen_of_row WA _ _ _ _ hrz
          have f1 : WA.frozen? ⟨g21, 1, none⟩ = false := frozen_of_row WA _ _ _ _ hrz
          have f2 : WA.frozen? ⟨g21, 2, none⟩ = false := frozen_of_row WA _ _ _ _ hrz
          have cA : W9.cell? ⟨P, 11, none⟩ = some (.map (some gA)) := (cell_of_row _ _ 11 _ _ _ H9.out.1.row).trans rfl
          have cB : WA.cell? ⟨P, 11, none⟩ = some (.map (some gA)) := (cell_of_row _ _ 11 _ _ _ ((hbA.block P (row_lt H9.out.1.row)).trans H9.out.1.row)).trans rfl
          have qA : W9.cell? ⟨g18, 5, none⟩ = some (.int .u64 c.seq) := (cell_of_row _ _ 5 _ _ _ H9.out.2.2).trans rfl
          have qB : WA.cell? ⟨g18, 5, none⟩ = some (.int .u64 c.seq) := (cell_of_row _ _ 5 _ _ _ ((hbA.block g18 (row_lt H9.out.2.2)).trans H9.out.2.2)).trans rfl
          have hlk := hlka W9.drew gA N (H9.out.1.r.m.block rfl)
          have hlkA := hlka WA.drew gA N (H9.out.1.r.m.block (w' := WA.drew) (hbA.block gA H9.out.1.r.m.lt))
          have HQ3 := Lib.hid hq3
          clear hq3 hlka
          go_upto_region 28 with (first | rw [hW9, hg19])
          clear hW9 hg19
          go_region
          obtain ⟨W10, hW10⟩ : ∃ z, (((WA.setCell ⟨g21, 0, none⟩ (.int .i64 tv.code)).setCell ⟨g21, 1, none⟩ (.int .i64 tv.token)).setCell ⟨g21, 2, none⟩ (.int .u64 tv.serial)).drew = z := ⟨_, rfl⟩
          have hb10 : Below W9.heap.size W9 W10 := by rw [← hW10]; exact Below.drew ((store3a tv HAZ.out.2.1).2 (Nat.le_of_eq HAZ.out.2.2) HAZ.out.1)
          have H10 : Hid (PlG P pw pk (Dr.sh a0 a1) a1 (appX x c) vhA vlA vaA gA N QA OX B wa W10 ∧ W10.heap[g19]? = some (.cells (aA a') 60 (0, 0)) ∧ W10.heap[g18]? = some (.cells (cmA c) 58 (0, 0))) := Lib.hid ⟨H9.out.1.below hb10, (hb10.block g19 (row_lt H9.out.2.1)).trans H9.out.2.1, (hb10.block g18 (row_lt H9.out.2.2)).trans H9.out.2.2⟩
          have n0 : W10.cell? ⟨g19, 0, none⟩ = some (.int .i64 a'.code) := (cell_of_row _ _ 0 _ _ _ H10.out.2.1).trans rfl
          rw [hW10]
          clear k0 k1 k2 f0 f1 f2 hlk hlkA cA cB qA qB hrz hbA
          clear hb10 hW10 hWA hg21 H9
          have HSAME : recA x c a' = x.ans → Inv a0 (Dr.sh a0 a1) (j + 1) (65 * (j + 1)) (appX x c) := fun e => by
            have h := HDX.out.2
            rw [e] at h
            exact Inv.more h (by omega) (by omega)
          rcases HQ3.out with ⟨hf, rfl⟩ | ⟨hf, rfl⟩
          rotate_left
          · have HIA := Lib.hid (HSAME (by unfold recA; rw [if_neg]; rintro ⟨h0, -⟩; rw [hf] at h0; cases h0))
            clear hf HSAME
            have HEND : Hid (Inv a0 (Dr.sh a0 a1) (j + 1) (65 * (j + 1)) ((appX x c)) ∧ ∃ N, N ≤ j + 1 ∧ PlV P pw pk (Dr.sh a0 a1) a1 N ((appX x c)) (fun _ => False) B wa W10) := Lib.hid ⟨HIA.out, _, Nat.le_succ_of_le HNJ.out, pl_drop (⟨_, _, _, _, _, H10.out.1⟩)⟩
            go_wp2_with fail
            go_roundw
            case rel => exact ⟨j + 1, (appX x c), by omega, by go_num, HEND⟩
            case measure => simp [intOf]; omega
          by_cases h6 : a'.code = 6
          · have h6b : (a'.code != 6) = false := by rw [h6]; rfl
            have HIA := Lib.hid (HSAME (by unfold recA; rw [if_neg]; rintro ⟨-, h0⟩; exact h0 h6))
            clear hf HSAME h6
            have HEND : Hid (Inv a0 (Dr.sh a0 a1) (j + 1) (65 * (j + 1)) ((appX x c)) ∧ ∃ N, N ≤ j + 1 ∧ PlV P pw pk (Dr.sh a0 a1) a1 N ((appX x c)) (fun _ => False) B wa W10) := Lib.hid ⟨HIA.out, _, Nat.le_succ_of_le HNJ.out, pl_drop (⟨_, _, _, _, _, H10.out.1⟩)⟩
            go_wp2_with fail
            go_roundw
            case rel => exact ⟨j + 1, (appX x c), by omega, by go_num, HEND⟩
            case measure => simp [intOf]; omega
          have h6b : (a'.code != 6) = true := bne_iff_ne.2 h6
          have HREC : Hid (recA x c a' = fun q => if q = c.seq then some a' else x.ans q) := Lib.hid (by unfold recA; rw [if_pos ⟨hf, h6⟩])
          clear hf h6 HSAME
          have h10d := H10.out.1.drew
          obtain ⟨w11, hrun, hm11, hg11⟩ := h10d.r.m.put (u64K Try.underlying31) Try.underlying79 (by have := HNJ.out; have := HJ.out; unfold maxLen; omega) HSU.out (ansV a')
          have HRUN := Lib.hid hrun
          have hnt := h10d.note hm11 hg11
          have XI : Hid (Inv a0 (Dr.sh a0 a1) (j + 1) (65 * (j + 1)) { appX x c with ans := fun q => if q = c.seq then some a' else x.ans q }) := Lib.hid (by
            have h := HDX.out.2
            rw [HREC.out] at h
            exact Inv.more h (by omega) (by omega))
          have H11 := Lib.hid hnt.1
          have HQ30 : Hid ((fun u => u.cell? ⟨P, 11, none⟩ = some (.map (some gA)) ∧ u.cell? ⟨g18, 5, none⟩ = some (.int .u64 c.seq) ∧ u.rangeAt g19 0 [.int .i64 a'.code, .int .i64 a'.token, .int .u64 a'.serial]) W10.drew) := Lib.hid ⟨(cell_of_row W10 _ 11 _ _ _ H10.out.1.row).trans rfl, (cell_of_row W10 _ 5 _ _ _ H10.out.2.2).trans rfl, Wl.rng_of_row (w := W10.drew) H10.out.2.1⟩
          clear h10d hrun hm11 hg11 hnt
          go_upto_region 30 with fail
          clear n0
          refine Wl.start 7 (fun u => u.cell? ⟨P, 11, none⟩ = some (.map (some gA)) ∧ u.cell? ⟨g18, 5, none⟩ = some (.int .u64 c.seq) ∧ u.rangeAt g19 0 [.int .i64 a'.code, .int .i64 a'.token, .int .u64 a'.serial]) (fun _ => True) (by kernel_rfl) HQ30.out trivial (fun hk => ?_)
          refine Wl.take (i := 0) (v := .pointer (some ⟨P, 0, none⟩)) [1, 2, 3, 7] rfl (by kernel_rfl) (by kernel_rfl) (by kernel_rfl) (by kernel_rfl) (by kernel_rfl) (fun _ _ _ h => h) (.inl ⟨by kernel_rfl, ?_⟩) hk ?_
          · intro wx hSw
            clear hSw hk
            go_simp
            try first | with_reducible rfl | kernel_rfl
          simp only [Act.put, List.getElem_toArray, List.getElem_cons_succ, List.getElem_cons_zero, List.setIfInBounds_toArray, List.set_cons_succ, List.set_cons_zero]
          refine Wl.take (i := 1) (v := .pointer (some ⟨P, 0, none⟩)) [2, 3, 7] rfl (by kernel_rfl) (by kernel_rfl) (by kernel_rfl) (by kernel_rfl) (by kernel_rfl) (fun _ _ _ h => h) (.inl ⟨by kernel_rfl, ?_⟩) hk ?_
          · intro wx hSw
            clear hSw hk
            go_simp
            try first | with_reducible rfl | kernel_rfl
          simp only [Act.put, List.getElem_toArray, List.getElem_cons_succ, List.getElem_cons_zero, List.setIfInBounds_toArray, List.set_cons_succ, List.set_cons_zero]
          refine Wl.take (i := 2) (v := .pointer (some ⟨P, 11, none⟩)) [3, 7] rfl (by kernel_rfl) (by kernel_rfl) (by kernel_rfl) (by kernel_rfl) (by kernel_rfl) (fun _ _ _ h => h) (.inl ⟨by kernel_rfl, ?_⟩) hk ?_
          · intro wx hSw
            clear hSw hk
            go_simp
            try first | with_reducible rfl | kernel_rfl
          simp only [Act.put, List.getElem_toArray, List.getElem_cons_succ, List.getElem_cons_zero, List.setIfInBounds_toArray, List.set_cons_succ, List.set_cons_zero]
          refine Wl.take (i := 3) (v := .map (some gA)) [7] rfl (by kernel_rfl) (by kernel_rfl) (by kernel_rfl) (by kernel_rfl) (by kernel_rfl) (fun _ _ _ h => h) (.inl ⟨by kernel_rfl, ?_⟩) hk ?_
          · intro wx hSw
            have cc := hSw.1.1
            clear hSw hk
            go_simp
            try first | with_reducible rfl | kernel_rfl
          simp only [Act.put, List.getElem_toArray, List.getElem_cons_succ, List.getElem_cons_zero, List.setIfInBounds_toArray, List.set_cons_succ, List.set_cons_zero]
          refine Wl.take (i := 4) (v := .pointer (some ⟨g18, 5, none⟩)) [5, 7] rfl (by kernel_rfl) (by kernel_rfl) (by kernel_rfl) (by kernel_rfl) (by kernel_rfl) (fun _ _ _ h => h) (.inl ⟨by kernel_rfl, ?_⟩) hk ?_
          · intro wx hSw
            clear hSw hk
            go_simp
            try first | with_reducible rfl | kernel_rfl
          simp only [Act.put, List.getElem_toArray, List.getElem_cons_succ, List.getElem_cons_zero, List.setIfInBounds_toArray, List.set_cons_succ, List.set_cons_zero]
          refine Wl.take (i := 5) (v := .int .u64 c.seq) [7] rfl (by kernel_rfl) (by kernel_rfl) (by kernel_rfl) (by kernel_rfl) (by kernel_rfl) (fun _ _ _ h => h) (.inl ⟨by kernel_rfl, ?_⟩) hk ?_
          · intro wx hSw
            have cc := hSw.1.2.1
            clear hSw hk
            go_simp
            try first | with_reducible rfl | kernel_rfl
          simp only [Act.put, List.getElem_toArray, List.getElem_cons_succ, List.getElem_cons_zero, List.setIfInBounds_toArray, List.set_cons_succ, List.set_cons_zero]
          refine Wl.take (i := 6) (v := .agg #[.int .i64 a'.code, .int .i64 a'.token, .int .u64 a'.serial]) [7] rfl (by kernel_rfl) (by kernel_rfl) (by kernel_rfl) (by kernel_rfl) (by kernel_rfl) (fun _ _ _ h => h) (yieldsIf_load_mid (by rfl) _ _ rfl _ _ rfl [.int .i64 a'.code, .int .i64 a'.token, .int .u64 a'.serial] _ (fun w h => h.1.2.2) Try.underlying60 rfl (by kernel_rfl)) hk ?_
          simp only [Act.put, List.getElem_toArray, List.getElem_cons_succ, List.getElem_cons_zero, List.setIfInBounds_toArray, List.set_cons_succ, List.set_cons_zero]
          refine Wl.one (i := 7) (by kernel_rfl) rfl (fun K hK => ?_)
          go_simp
          have hrun := HRUN.out
          go_simp
          clear hrun
          refine hK.out _ _ (Wl.Kn.off (by kernel_rfl) trivial) (fun hk => ?_)
          clear hK K
          refine Wl.done (by kernel_rfl) ?_ _
          clear hk
          have HEND : Hid (Inv a0 (Dr.sh a0 a1) (j + 1) (65 * (j + 1)) (({ appX x c with ans := fun q => if q = c.seq then some a' else x.ans q } : Pl)) ∧ ∃ N, N ≤ j + 1 ∧ PlV P pw pk (Dr.sh a0 a1) a1 N (({ appX x c with ans := fun q => if q = c.seq then some a' else x.ans q } : Pl)) (fun _ => False) B wa w11) := Lib.hid ⟨XI.out, _, Nat.succ_le_succ HNJ.out, pl_drop (⟨_, _, _, _, _, H11.out⟩)⟩
          go_wp2_with fail
          go_roundw
          case rel => exact ⟨j + 1, ({ appX x c with ans := fun q => if q = c.seq then some a' else x.ans q } : Pl), by omega, by go_num, HEND⟩
          case measure => simp [intOf]; omega
      by_cases hk3 : r.kind = 3
      · as_aux_lemma =>
          have hkb : (r.kind == 3) = true := beq_iff_eq.2 hk3
          have hkb0 : (r.kind == 0) = false := beq_eq_false_iff_ne.2 hk0
          have hkb1 : (r.kind == 1) = false := beq_eq_false_iff_ne.2 hk1
          have hkb2 : (r.kind == 2) = false := beq_eq_false_iff_ne.2 hk2
          clear hk0 hk1 hk2 hk3
          obtain ⟨kd, hkd⟩ : ∃ z, (x.s.c.kind != 0) = z := ⟨_, rfl⟩
          have HKD := Lib.hid hkd
          have HAS : Hid (Calls Try.prog 40 #[.pointer (some ⟨pw, 0, none⟩)] W5 fun e w' => e = .returned (.tuple #[.agg (cmA x.s.c), .bool kd]) ∧ Below W5.heap.size W5 w') := Lib.hid (by
            obtain ⟨S1, S2, hv, -⟩ := HG5.out.two
            rw [← hkd]
            exact asked_any W5 hv)
          have ep : W5.cell? ⟨P, 0, none⟩ = some (.pointer (some ⟨pw, 0, none⟩)) := (cell_of_row W5 _ 0 _ _ _ HG5.out.row).trans rfl
          clear hkd
          go_upto_region 32 with fail
          clear e0 e1 e2 e3 e4
          go_wp2_with fail
          refine HAS.out.mono ?_
          rintro e w6 ⟨rfl, hb6⟩
          obtain ⟨g23, hg23⟩ : ∃ z, w6.heap.size = z := ⟨_, rfl⟩
          obtain ⟨W7, hW7⟩ : ∃ z, w6.alloc (.cells (cmA x.s.c) 58) = z := ⟨_, rfl⟩
          have hb7 : Below W5.heap.size W5 W7 := by rw [← hW7]; exact hb6.alloc hb6.size _
          have hr7 : W7.heap[g23]? = some (.cells (cmA x.s.c) 58 (0, 0)) := by rw [← hW7, ← hg23]; exact heap_alloc_new _ _
          have H7 : Hid (PlG P pw pk (Dr.sh a0 a1) a1 x vh vl va g N Q OW B wa W7 ∧ W7.heap[g23]? = some (.cells (cmA x.s.c) 58 (0, 0))) := Lib.hid ⟨HG5.out.below hb7, hr7⟩
          have hcw := HI.out.ok.cmd.1
          clear hb6 hb7 hr7 ep
          obtain ⟨tv, hs, hlka, hq3⟩ := look4 x.ans (show okU x.s.c.seq from hcw.2.2.2.2.1)
          obtain ⟨g25, hg25⟩ : ∃ z, W7.heap.size = z := ⟨_, rfl⟩
          obtain ⟨WA, hWA⟩ : ∃ z, W7.alloc (.cells #[.int .i64 0, .int .i64 0, .int .u64 0] 60) = z := ⟨_, rfl⟩
          have hbA : Below W7.heap.size W7 WA := by rw [← hWA]; exact (Below.refl _ _).alloc (Nat.le_refl _) _
          have hrz : WA.heap[g25]? = some (.cells #[.int .i64 0, .int .i64 0, .int .u64 0] 60 (0, 0)) := by rw [← hWA, ← hg25]; exact heap_alloc_new _ _
          have HAZ : Hid (Below W7.heap.size W7 WA ∧ WA.heap[g25]? = some (.cells #[.int .i64 0, .int .i64 0, .int .u64 0] 60 (0, 0)) ∧ W7.heap.size = g25) := Lib.hid ⟨hbA, hrz, hg25⟩
          have k0 : WA.cell? ⟨g25, 0, none⟩ = some (.int .i64 0) := (cell_of_row _ _ 0 _ _ _ hrz).trans rfl
          have k1 : WA.cell? ⟨g25, 1, none⟩ = some (.int .i64 0) := (cell_of_row _ _ 1 _ _ _ hrz).trans rfl
          have k2 : WA.cell? ⟨g25, 2, none⟩ = some (.int .u64 0) := (cell_of_row _ _ 2 _ _ _ hrz).trans rfl
          have f0 : WA.frozen? ⟨g25, 0, none⟩ = false := frozen_of_row WA _ _ _ _ hrz
          have f1 : WA.frozen? ⟨g25, 1, none⟩ = false := frozen_of_row WA _ _ _ _ hrz
          have f2 : WA.frozen? ⟨g25, 2, none⟩ = false := frozen_of_row WA _ _ _ _ hrz
          have cA : W7.cell? ⟨P, 11, none⟩ = some (.map (some g)) := (cell_of_row _ _ 11 _ _ _ H7.out.1.row).trans rfl
          have cB : WA.cell? ⟨P, 11, none⟩ = some (.map (some g)) := (cell_of_row _ _ 11 _ _ _ ((hbA.block P (row_lt H7.out.1.row)).trans H7.out.1.row)).trans rfl
          have qA : W7.cell? ⟨g23, 5, none⟩ = some (.int .u64 x.s.c.seq) := (cell_of_row _ _ 5 _ _ _ H7.out.2).trans rfl
          have qB : WA.cell? ⟨g23, 5, none⟩ = some (.int .u64 x.s.c.seq) := (cell_of_row _ _ 5 _ _ _ ((hbA.block g23 (row_lt H7.out.2)).trans H7.out.2)).trans rfl
          have hlk := hlka W7.drew g N (H7.out.1.r.m.block rfl)
          have hlkA := hlka WA.drew g N (H7.out.1.r.m.block (w' := WA.drew) (hbA.block g H7.out.1.r.m.lt))
          have HQ3 := Lib.hid hq3
          clear hq3 hlka hcw
          go_upto_region 33 with (first | rw [hW7, hg23])
          clear hW7 hg23
          go_region
          obtain ⟨W10, hW10⟩ : ∃ z, (((WA.setCell ⟨g25, 0, none⟩ (.int .i64 tv.code)).setCell ⟨g25, 1, none⟩ (.int .i64 tv.token)).setCell ⟨g25, 2, none⟩ (.int .u64 tv.serial)).drew = z := ⟨_, rfl⟩
          have hb10 : Below W7.heap.size W7 W10 := by rw [← hW10]; exact Below.drew ((store3a tv HAZ.out.2.1).2 (Nat.le_of_eq HAZ.out.2.2) HAZ.out.1)
          have hr25 : W10.heap[g25]? = some (.cells (aA tv) 60 (0, 0)) := by rw [← hW10]; exact (store3a tv HAZ.out.2.1).1
          obtain ⟨OX, hOX⟩ : ∃ O : Nat → Prop, O = (fun k => OW k ∨ (W7.heap.size ≤ k ∧ k < W10.heap.size)) := ⟨_, rfl⟩
          have H10 : Hid (PlG P pw pk (Dr.sh a0 a1) a1 x vh vl va g N Q OX B wa W10) := Lib.hid (by rw [hOX]; exact H7.out.1.more hb10)
          have HZ25 : Hid (W10.heap[g25]? = some (.cells (aA tv) 60 (0, 0)) ∧ OX g25) := Lib.hid ⟨hr25, by rw [hOX]; exact .inr ⟨by have := HAZ.out.2.2; omega, row_lt hr25⟩⟩
          rw [hW10]
          clear k0 k1 k2 f0 f1 f2 hlk hlkA cA cB qA qB hrz hbA
          clear hb10 hr25 hOX hW10 hWA hg25
          cases kd
          · have HEND : Hid (Inv a0 (Dr.sh a0 a1) (j + 1) (65 * (j + 1)) (x) ∧ ∃ N, N ≤ j + 1 ∧ PlV P pw pk (Dr.sh a0 a1) a1 N (x) (fun _ => False) B wa W10) := Lib.hid ⟨HI.out.more (by omega) (by omega), _, Nat.le_succ_of_le HNJ.out, pl_drop (⟨_, _, _, _, _, H10.out⟩)⟩
            go_wp2_with fail
            go_roundw
            case rel => exact ⟨j + 1, x, by omega, by go_num, HEND⟩
            case measure => simp [intOf]; omega
          rcases HQ3.out with ⟨hf, rfl⟩ | ⟨hf, rfl⟩
          · clear hf
            have HEND : Hid (Inv a0 (Dr.sh a0 a1) (j + 1) (65 * (j + 1)) (x) ∧ ∃ N, N ≤ j + 1 ∧ PlV P pw pk (Dr.sh a0 a1) a1 N (x) (fun _ => False) B wa W10) := Lib.hid ⟨HI.out.more (by omega) (by omega), _, Nat.le_succ_of_le HNJ.out, pl_drop (⟨_, _, _, _, _, H10.out⟩)⟩
            go_wp2_with fail
            go_roundw
            case rel => exact ⟨j + 1, x, by omega, by go_num, HEND⟩
            case measure => simp [intOf]; omega
          have HKN : Hid (x.s.c.kind ≠ 0) := Lib.hid (bne_iff_ne.1 HKD.out)
          have HTW := Lib.hid (HI.out.keys _ _ hf).2
          have HIT := Lib.hid ((HI.out.told HKN.out hf HSH.out.2.1).more (Nat.le_refl _) (show 65 * j ≤ 65 * (j + 1) by omega))
          have HTO : Hid (Calls Try.prog 30 #[.pointer (some ⟨pw, 0, none⟩), .agg #[.int .i64 tv.code, .int .i64 tv.token, .int .u64 tv.serial]] W10.drew fun e w' => (∃ v, e = .returned v) ∧ PlG P pw pk (Dr.sh a0 a1) a1 ({ x with s := toldV (Dr.sh a0 a1) x.s tv } : Pl) vh vl va g N Q OX B wa w' ∧ ∀ k, OX k → w'.heap[k]? = W10.drew.heap[k]?) := Lib.hid (PlG.onW (s' := toldV (Dr.sh a0 a1) x.s tv) (R := fun e _ => ∃ v, e = .returned v) H10.out.drew (fun S hv => (told_any tv W10.drew hv HLN.out HI.out.ok.cmd.1.2.2.1 HTW.out.2 HI.out.ok.tim ⟨HSH.out.2.1, by have := HSH.out.2.2; have := HNN.out; omega⟩).mono (fun e w' ⟨h1, h2⟩ => ⟨⟨_, h1⟩, h2⟩)))
          have HQ35 : Hid ((fun u => u.cell? ⟨P, 0, none⟩ = some (.pointer (some ⟨pw, 0, none⟩)) ∧ u.rangeAt g25 0 [.int .i64 tv.code, .int .i64 tv.token, .int .u64 tv.serial]) W10.drew) := Lib.hid ⟨(cell_of_row W10 _ 0 _ _ _ H10.out.row).trans rfl, Wl.rng_of_row (w := W10.drew) HZ25.out.1⟩
          clear hf
          go_upto_region 35 with fail
          refine Wl.start 999 (fun _ => True) (fun u => u.cell? ⟨P, 0, none⟩ = some (.pointer (some ⟨pw, 0, none⟩)) ∧ u.rangeAt g25 0 [.int .i64 tv.code, .int .i64 tv.token, .int .u64 tv.serial]) (by kernel_rfl) trivial HQ35.out (fun hk => ?_)
          refine Wl.take0 (i := 0) (v := .pointer (some ⟨P, 0, none⟩)) rfl (by kernel_rfl) (by kernel_rfl) (by kernel_rfl) (by kernel_rfl) (fun _ _ _ h => h) (.inl ⟨by kernel_rfl, ?_⟩) hk ?_
          · intro wx hSw
            clear hSw hk
            go_simp
            try first | with_reducible rfl | kernel_rfl
          simp only [Act.put, List.getElem_toArray, List.getElem_cons_succ, List.getElem_cons_zero, List.setIfInBounds_toArray, List.set_cons_succ, List.set_cons_zero]
          refine Wl.take0 (i := 1) (v := .pointer (some ⟨P, 0, none⟩)) rfl (by kernel_rfl) (by kernel_rfl) (by kernel_rfl) (by kernel_rfl) (fun _ _ _ h => h) (.inl ⟨by kernel_rfl, ?_⟩) hk ?_
          · intro wx hSw
            clear hSw hk
            go_simp
            try first | with_reducible rfl | kernel_rfl
          simp only [Act.put, List.getElem_toArray, List.getElem_cons_succ, List.getElem_cons_zero, List.setIfInBounds_toArray, List.set_cons_succ, List.set_cons_zero]
          refine Wl.take0 (i := 2) (v := .pointer (some ⟨P, 0, none⟩)) rfl (by kernel_rfl) (by kernel_rfl) (by kernel_rfl) (by kernel_rfl) (fun _ _ _ h => h) (.inl ⟨by kernel_rfl, ?_⟩) hk ?_
          · intro wx hSw
            clear hSw hk
            go_simp
            try first | with_reducible rfl | kernel_rfl
          simp only [Act.put, List.getElem_toArray, List.getElem_cons_succ, List.getElem_cons_zero, List.setIfInBounds_toArray, List.set_cons_succ, List.set_cons_zero]
          refine Wl.take0 (i := 3) (v := .pointer (some ⟨pw, 0, none⟩)) rfl (by kernel_rfl) (by kernel_rfl) (by kernel_rfl) (by kernel_rfl) (fun _ _ _ h => h) (.inl ⟨by kernel_rfl, ?_⟩) hk ?_
          · intro wx hSw
            have cc := hSw.1
            clear hSw hk
            go_simp
            try first | with_reducible rfl | kernel_rfl
          simp only [Act.put, List.getElem_toArray, List.getElem_cons_succ, List.getElem_cons_zero, List.setIfInBounds_toArray, List.set_cons_succ, List.set_cons_zero]
          refine Wl.take0 (i := 4) (v := .agg #[.int .i64 tv.code, .int .i64 tv.token, .int .u64 tv.serial]) rfl (by kernel_rfl) (by kernel_rfl) (by kernel_rfl) (by kernel_rfl) (fun _ _ _ h => h) (yieldsIf_load_mid (by rfl) _ _ rfl _ _ rfl [.int .i64 tv.code, .int .i64 tv.token, .int .u64 tv.serial] _ (fun w h => h.2) Try.underlying60 rfl (by kernel_rfl)) hk ?_
          simp only [Act.put, List.getElem_toArray, List.getElem_cons_succ, List.getElem_cons_zero, List.setIfInBounds_toArray, List.set_cons_succ, List.set_cons_zero]
          refine Wl.one (i := 5) (by kernel_rfl) rfl (fun K hK => ?_)
          go_simp
          refine HTO.out.mono ?_
          rintro e w11 ⟨⟨ve, rfl⟩, h11, k11⟩
          have H11 := Lib.hid h11
          have HQ11 : Hid (w11.cell? ⟨P, 0, none⟩ = some (.pointer (some ⟨pw, 0, none⟩)) ∧ w11.rangeAt g25 0 [.int .i64 tv.code, .int .i64 tv.token, .int .u64 tv.serial]) := Lib.hid ⟨(cell_of_row _ _ 0 _ _ _ h11.row).trans rfl, Wl.rng_of_row (w := w11) ((k11 g25 HZ25.out.2).trans HZ25.out.1)⟩
          clear h11 k11
          refine hK.out _ _ (Wl.Kn.on trivial HQ11.out) (fun hk => ?_)
          clear hK K
          refine Wl.done (by kernel_rfl) ?_ _
          clear hk
          have HEND : Hid (Inv a0 (Dr.sh a0 a1) (j + 1) (65 * (j + 1)) (({ x with s := toldV (Dr.sh a0 a1) x.s tv } : Pl)) ∧ ∃ N, N ≤ j + 1 ∧ PlV P pw pk (Dr.sh a0 a1) a1 N (({ x with s := toldV (Dr.sh a0 a1) x.s tv } : Pl)) (fun _ => False) B wa w11) := Lib.hid ⟨HIT.out, _, Nat.le_succ_of_le HNJ.out, pl_drop (⟨_, _, _, _, _, H11.out⟩)⟩
          go_wp2_with fail
          go_roundw
          case rel => exact ⟨j + 1, ({ x with s := toldV (Dr.sh a0 a1) x.s tv } : Pl), by omega, by go_num, HEND⟩
          case measure => simp [intOf]; omega
      by_cases hk4 : r.kind = 4
      · as_aux_lemma =>
          have hkb : (r.kind == 4) = true := beq_iff_eq.2 hk4
          have hkb0 : (r.kind == 0) = false := beq_eq_false_iff_ne.2 hk0
          have hkb1 : (r.kind == 1) = false := beq_eq_false_iff_ne.2 hk1
          have hkb2 : (r.kind == 2) = false := beq_eq_false_iff_ne.2 hk2
          have hkb3 : (r.kind == 3) = false := beq_eq_false_iff_ne.2 hk3
          clear hk0 hk1 hk2 hk3 hk4
          have HPD := Lib.hid (pdue_any W5 ⟨_, _, _, _, _, HG5.out⟩ HI.out HRR.out HSH.out.1 HNN.out (by have := HJ.out; omega) (by have := HJ.out; omega))
          go_upto_region 37 with fail
          go_wp2_with fail
          refine HPD.out.mono ?_
          rintro e w6 ⟨rfl, y, hI, h6, k6⟩
          have H6 := Lib.hid h6
          have HIA := Lib.hid hI
          clear hI h6 k6
          clear e0 e1 e2 e3 e4
          have HEND : Hid (Inv a0 (Dr.sh a0 a1) (j + 1) (65 * (j + 1)) (y) ∧ ∃ N, N ≤ j + 1 ∧ PlV P pw pk (Dr.sh a0 a1) a1 N (y) (fun _ => False) B wa w6) := Lib.hid ⟨HIA.out.more (by omega) (by omega), _, Nat.le_succ_of_le HNJ.out, pl_drop (H6.out)⟩
          go_wp2_with fail
          go_roundw
          case rel => exact ⟨j + 1, y, by omega, by go_num, HEND⟩
          case measure => simp [intOf]; omega
      by_cases hk5 : r.kind = 5
      · as_aux_lemma =>
          have hkb : (r.kind == 5) = true := beq_iff_eq.2 hk5
          have hkb0 : (r.kind == 0) = false := beq_eq_false_iff_ne.2 hk0
          have hkb1 : (r.kind == 1) = false := beq_eq_false_iff_ne.2 hk1
          have hkb2 : (r.kind == 2) = false := beq_eq_false_iff_ne.2 hk2
          have hkb3 : (r.kind == 3) = false := beq_eq_false_iff_ne.2 hk3
          have hkb4 : (r.kind == 4) = false := beq_eq_false_iff_ne.2 hk4
          clear hk0 hk1 hk2 hk3 hk4 hk5
          have HQ5 : Hid ((fun u => u.cell? ⟨P, 1, none⟩ = some (.pointer (some ⟨pk, 0, none⟩)) ∧ u.cell? ⟨P, 7, none⟩ = some (.int .i64 x.b) ∧ u.rangeAt P 2 [.int .i64 x.l.limit, .int .u64 x.l.next, vh, vl]) W5.drew) := Lib.hid (pl_cells HG5.out.drew)
          have HLE : Hid (Calls Try.prog 12 #[.pointer (some ⟨pk, 0, none⟩), .int .i64 x.b, .agg #[.int .i64 x.l.limit, .int .u64 x.l.next, vh, vl]] W5.drew fun e w' => e = .returned (.tuple #[]) ∧ PlG P pw pk (Dr.sh a0 a1) a1 ({ x with K := seesV x.b [] x.l.held } : Pl) vh vl va g N Q OW B wa w' ∧ ∀ k, OW k → w'.heap[k]? = W5.drew.heap[k]?) := Lib.hid (by
            have hd := HG5.out.drew
            have hla := leda_of HI.out.led.1 HI.out.led.2
            refine PlG.onK (K' := seesV x.b [] x.l.held) (R := fun e _ => e = .returned (.tuple #[])) hd (fun S hv hkeep => ?_)
            obtain ⟨vk, b, hv⟩ := hv
            exact Ls.leads_any x.b x.l W5.drew hv (fun w' ho => OwnR.sl heldC_len (show OwnR 5 heldC THeld w' 0 vh x.l.held from own_keep hd.r.h (fun k hk _ => hkeep w' ho k (.inl (hd.r.oh k hk).1)))) hla.len hla.wf hla.nd)
          go_upto_region 40 with fail
          clear e0 e1 e2 e3 e4
          refine Wl.start 999 (fun _ => True) (fun u => u.cell? ⟨P, 1, none⟩ = some (.pointer (some ⟨pk, 0, none⟩)) ∧ u.cell? ⟨P, 7, none⟩ = some (.int .i64 x.b) ∧ u.rangeAt P 2 [.int .i64 x.l.limit, .int .u64 x.l.next, vh, vl]) (by kernel_rfl) trivial HQ5.out (fun hk => ?_)
          refine Wl.take0 (i := 0) (v := .pointer (some ⟨P, 0, none⟩)) rfl (by kernel_rfl) (by kernel_rfl) (by kernel_rfl) (by kernel_rfl) (fun _ _ _ h => h) (.inl ⟨by kernel_rfl, ?_⟩) hk ?_
          · intro wx hSw
            clear hSw hk
            go_simp
            try first | with_reducible rfl | kernel_rfl
          simp only [Act.put, List.getElem_toArray, List.getElem_cons_succ, List.getElem_cons_zero, List.setIfInBounds_toArray, List.set_cons_succ, List.set_cons_zero]
          refine Wl.take0 (i := 1) (v := .pointer (some ⟨P, 0, none⟩)) rfl (by kernel_rfl) (by kernel_rfl) (by kernel_rfl) (by kernel_rfl) (fun _ _ _ h => h) (.inl ⟨by kernel_rfl, ?_⟩) hk ?_
          · intro wx hSw
            clear hSw hk
            go_simp
            try first | with_reducible rfl | kernel_rfl
          simp only [Act.put, List.getElem_toArray, List.getElem_cons_succ, List.getElem_cons_zero, List.setIfInBounds_toArray, List.set_cons_succ, List.set_cons_zero]
          refine Wl.take0 (i := 2) (v := .pointer (some ⟨P, 1, none⟩)) rfl (by kernel_rfl) (by kernel_rfl) (by kernel_rfl) (by kernel_rfl) (fun _ _ _ h => h) (.inl ⟨by kernel_rfl, ?_⟩) hk ?_
          · intro wx hSw
            clear hSw hk
            go_simp
            try first | with_reducible rfl | kernel_rfl
          simp only [Act.put, List.getElem_toArray, List.getElem_cons_succ, List.getElem_cons_zero, List.setIfInBounds_toArray, List.set_cons_succ, List.set_cons_zero]
          refine Wl.take0 (i := 3) (v := .pointer (some ⟨pk, 0, none⟩)) rfl (by kernel_rfl) (by kernel_rfl) (by kernel_rfl) (by kernel_rfl) (fun _ _ _ h => h) (.inl ⟨by kernel_rfl, ?_⟩) hk ?_
          · intro wx hSw
            have cc := hSw.1
            clear hSw hk
            go_simp
            try first | with_reducible rfl | kernel_rfl
          simp only [Act.put, List.getElem_toArray, List.getElem_cons_succ, List.getElem_cons_zero, List.setIfInBounds_toArray, List.set_cons_succ, List.set_cons_zero]
          refine Wl.take0 (i := 4) (v := .pointer (some ⟨P, 0, none⟩)) rfl (by kernel_rfl) (by kernel_rfl) (by kernel_rfl) (by kernel_rfl) (fun _ _ _ h => h) (.inl ⟨by kernel_rfl, ?_⟩) hk ?_
          · intro wx hSw
            clear hSw hk
            go_simp
            try first | with_reducible rfl | kernel_rfl
          simp only [Act.put, List.getElem_toArray, List.getElem_cons_succ, List.getElem_cons_zero, List.setIfInBounds_toArray, List.set_cons_succ, List.set_cons_zero]
          refine Wl.take0 (i := 5) (v := .pointer (some ⟨P, 0, none⟩)) rfl (by kernel_rfl) (by kernel_rfl) (by kernel_rfl) (by kernel_rfl) (fun _ _ _ h => h) (.inl ⟨by kernel_rfl, ?_⟩) hk ?_
          · intro wx hSw
            clear hSw hk
            go_simp
            try first | with_reducible rfl | kernel_rfl
          simp only [Act.put, List.getElem_toArray, List.getElem_cons_succ, List.getElem_cons_zero, List.setIfInBounds_toArray, List.set_cons_succ, List.set_cons_zero]
          refine Wl.take0 (i := 6) (v := .pointer (some ⟨P, 7, none⟩)) rfl (by kernel_rfl) (by kernel_rfl) (by kernel_rfl) (by kernel_rfl) (fun _ _ _ h => h) (.inl ⟨by kernel_rfl, ?_⟩) hk ?_
          · intro wx hSw
            clear hSw hk
            go_simp
            try first | with_reducible rfl | kernel_rfl
          simp only [Act.put, List.getElem_toArray, List.getElem_cons_succ, List.getElem_cons_zero, List.setIfInBounds_toArray, List.set_cons_succ, List.set_cons_zero]
          refine Wl.take0 (i := 7) (v := .int .i64 x.b) rfl (by kernel_rfl) (by kernel_rfl) (by kernel_rfl) (by kernel_rfl) (fun _ _ _ h => h) (.inl ⟨by kernel_rfl, ?_⟩) hk ?_
          · intro wx hSw
            have cc := hSw.2.1
            clear hSw hk
            go_simp
            try first | with_reducible rfl | kernel_rfl
          simp only [Act.put, List.getElem_toArray, List.getElem_cons_succ, List.getElem_cons_zero, List.setIfInBounds_toArray, List.set_cons_succ, List.set_cons_zero]
          refine Wl.take0 (i := 8) (v := .pointer (some ⟨P, 0, none⟩)) rfl (by kernel_rfl) (by kernel_rfl) (by kernel_rfl) (by kernel_rfl) (fun _ _ _ h => h) (.inl ⟨by kernel_rfl, ?_⟩) hk ?_
          · intro wx hSw
            clear hSw hk
            go_simp
            try first | with_reducible rfl | kernel_rfl
          simp only [Act.put, List.getElem_toArray, List.getElem_cons_succ, List.getElem_cons_zero, List.setIfInBounds_toArray, List.set_cons_succ, List.set_cons_zero]
          refine Wl.take0 (i := 9) (v := .pointer (some ⟨P, 0, none⟩)) rfl (by kernel_rfl) (by kernel_rfl) (by kernel_rfl) (by kernel_rfl) (fun _ _ _ h => h) (.inl ⟨by kernel_rfl, ?_⟩) hk ?_
          · intro wx hSw
            clear hSw hk
            go_simp
            try first | with_reducible rfl | kernel_rfl
          simp only [Act.put, List.getElem_toArray, List.getElem_cons_succ, List.getElem_cons_zero, List.setIfInBounds_toArray, List.set_cons_succ, List.set_cons_zero]
          refine Wl.take0 (i := 10) (v := .pointer (some ⟨P, 2, none⟩)) rfl (by kernel_rfl) (by kernel_rfl) (by kernel_rfl) (by kernel_rfl) (fun _ _ _ h => h) (.inl ⟨by kernel_rfl, ?_⟩) hk ?_
          · intro wx hSw
            clear hSw hk
            go_simp
            try first | with_reducible rfl | kernel_rfl
          simp only [Act.put, List.getElem_toArray, List.getElem_cons_succ, List.getElem_cons_zero, List.setIfInBounds_toArray, List.set_cons_succ, List.set_cons_zero]
          refine Wl.take0 (i := 11) (v := .agg #[.int .i64 x.l.limit, .int .u64 x.l.next, vh, vl]) rfl (by kernel_rfl) (by kernel_rfl) (by kernel_rfl) (by kernel_rfl) (fun _ _ _ h => h) (yieldsIf_load_mid (by rfl) _ _ rfl _ _ rfl [.int .i64 x.l.limit, .int .u64 x.l.next, vh, vl] _ (fun w h => h.2.2) Try.underlying35 rfl (by kernel_rfl)) hk ?_
          simp only [Act.put, List.getElem_toArray, List.getElem_cons_succ, List.getElem_cons_zero, List.setIfInBounds_toArray, List.set_cons_succ, List.set_cons_zero]
          refine Wl.one (i := 12) (by kernel_rfl) rfl (fun K hK => ?_)
          go_simp
          refine HLE.out.mono ?_
          rintro e w6 ⟨rfl, h6, k6⟩
          have H6 := Lib.hid h6
          have HQ6 := Lib.hid (pl_cells h6)
          clear h6 k6
          refine hK.out _ _ (Wl.Kn.on trivial HQ6.out) (fun hk => ?_)
          clear hK K
          refine Wl.done (by kernel_rfl) ?_ _
          clear hk
          have HEND : Hid (Inv a0 (Dr.sh a0 a1) (j + 1) (65 * (j + 1)) (({ x with K := seesV x.b [] x.l.held } : Pl)) ∧ ∃ N, N ≤ j + 1 ∧ PlV P pw pk (Dr.sh a0 a1) a1 N (({ x with K := seesV x.b [] x.l.held } : Pl)) (fun _ => False) B wa w6) := Lib.hid ⟨(HI.out.leads HRR.out rfl).more (by omega) (by omega), _, Nat.le_succ_of_le HNJ.out, pl_drop (⟨_, _, _, _, _, H6.out⟩)⟩
          go_wp2_with fail
          go_roundw
          case rel => exact ⟨j + 1, ({ x with K := seesV x.b [] x.l.held } : Pl), by omega, by go_num, HEND⟩
          case measure => simp [intOf]; omega
      have hkb0 : (r.kind == 0) = false := beq_eq_false_iff_ne.2 hk0
      have hkb1 : (r.kind == 1) = false := beq_eq_false_iff_ne.2 hk1
      have hkb2 : (r.kind == 2) = false := beq_eq_false_iff_ne.2 hk2
      have hkb3 : (r.kind == 3) = false := beq_eq_false_iff_ne.2 hk3
      have hkb4 : (r.kind == 4) = false := beq_eq_false_iff_ne.2 hk4
      have hkb5 : (r.kind == 5) = false := beq_eq_false_iff_ne.2 hk5
      clear hk0 hk1 hk2 hk3 hk4 hk5
      clear e1 e2 e3 e4
      have HEND : Hid (Inv a0 (Dr.sh a0 a1) (j + 1) (65 * (j + 1)) (x) ∧ ∃ N, N ≤ j + 1 ∧ PlV P pw pk (Dr.sh a0 a1) a1 N (x) (fun _ => False) B wa W5) := Lib.hid ⟨HI.out.more (by omega) (by omega), _, Nat.le_succ_of_le HNJ.out, pl_drop (⟨_, _, _, _, _, HG5.out⟩)⟩
      go_wp2_with fail
      go_roundw
      case rel => exact ⟨j + 1, x, by omega, by go_num, HEND⟩
      case measure => simp [intOf]; omega
    · obtain rfl : j = x2.length := by omega
      have HEND := Lib.hid (HBW.out wr hG.bel.1)
      clear HR hG
      go_wp2
      go_ret
      exact ⟨rfl, HEND.out⟩

set_option maxRecDepth 100000 in
theorem contract (H : Type) (enc : TypeId × Value → H) (W : World) (base : Nat) (args : Array Value) (ds gs : List (DataW H)) (before : List MemPlace)
    (hval0 : ∀ (j : Nat) t v, Try.f5.params[j]? = some t → args[j]? = some v → Value.okWide Try.prog W .any base t v)
    (hW : DataW.Whole enc Try.prog Try.f5.params.toList Rows.leaseSafeSpec.vars false W args.toList ds gs before)
    (hsz0 : (DataW.weightsEach Try.prog (Try.f5.params.toList ++ Rows.leaseSafeSpec.plain.varTypes Try.prog) (ds ++ gs)).all (· ≤ reachBytes) = true) :
    Calls Try.prog 5 args W fun e W' => ∃ v, e = .returned v ∧ Rows.leaseSafeSpec.post enc Try.prog Try.f5 false true false false W args v W' := by
  have hval : ∀ (j : Nat) t v, Try.f5.params[j]? = some t → args[j]? = some v → Value.okWide Try.prog W .any base t v := hval0
  have hW' := hW
  obtain ⟨p, q, hA0, hV, rfl, hfz, hnd⟩ := hW
  have hA : DataW.TrodAll enc Try.prog W 0 (fun _ => true) true Try.f5.params.toList args.toList ds p := hA0
  rw [Try.params5] at hA hval
  have hsz := hsz0
  rw [Try.params5] at hsz
  obtain ⟨v0, vs0, d0, ds0, p0, q0, hargs, rfl, rfl, h0, r0⟩ := trodAll_cons hA
  obtain ⟨v1, vs1, d1, ds1, p1, q1, rfl, rfl, rfl, h1, r1⟩ := trodAll_cons r0
  obtain ⟨v2, vs2, d2, ds2, p2, q2, rfl, rfl, rfl, h2, r2⟩ := trodAll_cons r1
  obtain ⟨rfl, rfl, rfl⟩ := trodAll_nil r2
  obtain rfl : args = #[v0, v1, v2] := by cases args; simp_all
  obtain ⟨rfl, rfl⟩ := trodVars_none hV
  clear hA0 hval0
  have k0 := h0
  have lt0 : ∀ x ∈ p0, x.block < W.heap.size := by obtain ⟨m, hm⟩ := k0; exact DataW.trod_lt m _ _ _ hm
  have k1 := h1
  have lt1 : ∀ x ∈ p1, x.block < W.heap.size := by obtain ⟨m, hm⟩ := k1; exact DataW.trod_lt m _ _ _ hm
  have k2 := h2
  have lt2 : ∀ x ∈ p2, x.block < W.heap.size := by obtain ⟨m, hm⟩ := k2; exact DataW.trod_lt m _ _ _ hm
  obtain ⟨a0, rfl, -, -, w0⟩ := open_int Try.underlying3 (hval 0 3 v0 rfl rfl) h0
  obtain ⟨a1, rfl, -, -, w1⟩ := open_int Try.underlying2 (hval 1 2 v1 rfl rfl) h1
  obtain ⟨x2, w2, -, s2⟩ := open_acC (hval 2 75 v2 rfl rfl) k2
  have b2 : IsActs.fits x2 := s2 (wt_arg hsz (j := 2) rfl rfl)
  refine (walk a0 a1 v2 x2 W w0 w1 w2 b2).mono fun e W' ⟨he, bel⟩ => ?_
  subst he
  exact ⟨_, rfl, _, _, _, [], _, [], hW', trodAll_mk1 (shut_bool Try.underlying4 _), (trodAll_cons_mk (Below.trod laidOut (by kernel_rfl) (of_decide_eq_true (by kernel_rfl)) k0 bel lt0) (trodAll_cons_mk (Below.trod laidOut (by kernel_rfl) (of_decide_eq_true (by kernel_rfl)) k1 bel lt1) (trodAll_cons_mk (Below.trod laidOut (by kernel_rfl) (of_decide_eq_true (by kernel_rfl)) k2 bel lt2) trodAll_mk0))), rfl, bel.frame _, fun h => by cases h⟩

set_option maxRecDepth 100000 in
theorem lifted (os : Os) (started : os.Started) (H : Type) (enc : TypeId × Value → H) :
    ReturnsInHanded {} Try.checked os 5 .any (Rows.leaseSafeSpec.pre6 enc Try.prog Try.f5 Rows.leaseSafeRow.domain false) (Rows.leaseSafeSpec.post enc Try.prog Try.f5 false true false false) := by
  refine returnsInHanded_of_change_sized (C := Try.checked) own started (by kernel_rfl) Try.func5
    (ChangeSpec.witness6 (enc := enc) (C := Try.checked) false ⟨#[], #[.int .i64 0, .int .i64 0, .slice none 0 0], []⟩ 8 (by kernel_rfl) (by kernel_rfl) (by kernel_rfl) (by kernel_rfl)) ?_
  intro W base args ds gs before hval0 hW hcnd hsz _
  exact contract H enc W base args ds gs before hval0 hW hsz

theorem proved : Rows.LeaseSafeSaid :=
  OpenClaim.holds_of_wide 5 Try.f5 rfl rfl rfl rfl rfl rfl rfl ⟨rfl, rfl, rfl, rfl, rfl⟩ rfl rfl rfl rfl rfl (by kernel_rfl) Try.func5 (by kernel_rfl)
    (of_decide_eq_true (by kernel_rfl)) (by unfold Func.isWrapper; first | (rw [if_pos (by decide +kernel)]; kernel_rfl) | (rw [if_neg (by decide +kernel)]; exact ⟨rfl, rfl⟩))
    (fun os started H enc _ => lifted os started H enc)
end Go.Proofs.Ytgbblegcjladaaa.leaseSafe
