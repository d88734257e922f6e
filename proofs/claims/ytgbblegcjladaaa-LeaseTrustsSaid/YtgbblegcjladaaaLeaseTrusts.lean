/- The law LeaseTrusts returns true for every length of trust and list of calls: whatever is asked and told, a wallet trusts just what the document's own wallet trusts. No condition. -/
import Derived.Test.YtgbblegcjladaaaBse
import Derived.Test.YtgbblegcjladaaaLtZ
import Derived.Test.YtgbblegcjladaaaWl
namespace Go.Proofs.Ytgbblegcjladaaa.leaseTrusts
open Go.ChangeShapes Go.WideShapes Go.ChangeAt Go.RowKit
open Go.ChangeMaps (open_string shut_string)
set_option linter.unusedVariables false

theorem own : ownKnob Try.prog.godebug = none := by kernel_rfl
theorem laidOut : laidOutB Try.prog = true := by kernel_rfl

open Go.Proofs.Ytgbblegcjladaaa.Lt Go.Proofs.Ytgbblegcjladaaa.Mc
set_option linter.unusedSimpArgs false
def KO (O : Nat → Prop) (w w' : World) : Prop := ∀ k, O k → w'.heap[k]? = w.heap[k]?
theorem goes_up {w wa wr : World} (h1 : Below w.heap.size w wa) (h2 : Below wa.heap.size wa wr) : Below w.heap.size w wr := h1.trans (h2.mono h1.size)
theorem gone_len (t : Int) (s : Wa) : (goneW t s).length ≤ s.L.length := List.length_filter_le _ _
theorem rng_part {w : World} {g : Nat} {cs : Array Value} {t : TypeId} {fr : Nat × Nat} {l : List Value} (o : Nat) (h : w.heap[g]? = some (.cells cs t fr)) (hl : (cs.toList.drop o).take l.length = l) : w.rangeAt g o l := fun j v hv => by
  have hj : j < l.length := (List.getElem?_eq_some_iff.1 hv).1
  rw [cell_of_row _ _ _ _ _ _ h]
  rw [← hl] at hv
  rw [List.getElem?_take_of_lt hj, List.getElem?_drop, Array.getElem?_toList] at hv
  exact hv
set_option maxRecDepth 100000 in
set_option maxHeartbeats 64000000 in
theorem walk (a0 : Int) (v1 : Value) (x1 : (List ARow)) (w : World) (w0 : (Lit.int .i64 a0).wf = true) (w1 : IsAsks w v1 x1) (b1 : IsAsks.fits x1) :
    Calls Try.prog 4 #[.int .i64 a0, v1] w fun e w' => e = .returned (.bool true) ∧ Below w.heap.size w w' := by
  have HW1 := Lib.hid w1
  obtain ⟨a1, c1, rfl, hl1, hm1, -⟩ := id w1.1
  unfold maxLen at hm1
  clear w1
  go_enter Try.func4, Try.ntmps4
  go_upto_region 2 with (first | ((with_reducible refine (trusts_any _).mono ?_); rintro e wa ⟨rfl, hba⟩; have HBA := Lib.hid hba; clear hba))
  go_wp2_with fail
  refine (new_any a0 wa).mono ?_
  rintro e w2 (⟨hn1, hn2, ⟨p, rfl, hk⟩, hb2⟩ | ⟨hno, rfl, rfl⟩)
  rotate_left
  · go_wp2_with fail
    refine (rnew_any a0 _).mono ?_
    rintro e w3 (⟨hn1, hn2, -, -⟩ | ⟨-, rfl, rfl⟩)
    · exact absurd ⟨hn1, hn2⟩ hno
    · clear hno
      go_wp2
      go_ret
      exact ⟨rfl, HBA.out⟩
  have HNN : Hid (0 ≤ a0 ∧ a0 ≤ 1073741824) := Lib.hid ⟨hn1, hn2⟩
  have HKP := Lib.hid (And.intro hk hb2)
  clear hn1 hn2 hk hb2
  go_wp2_with fail
  refine (rnew_any a0 _).mono ?_
  rintro e w3 (⟨-, -, ⟨q, rfl, hk, hp⟩, hb3⟩ | ⟨hno, -⟩)
  rotate_left
  · exact absurd HNN.out hno
  obtain ⟨B, hB⟩ : ∃ z, wa.heap.size = z := ⟨_, rfl⟩
  have H3 : Hid (Two p q a0 newW newW (fun _ => False) B wa w3) := Lib.hid (by
    rw [← hB]
    refine ⟨_, _, (goodW p a0 newW).below HKP.out.1 hb3, hk, fun k e1 e2 => ?_, fun k e => e.1, fun k e => e ▸ Nat.le_trans HKP.out.2.size hp, fun k e => e.elim, HKP.out.2.trans (hb3.mono HKP.out.2.size), Nat.le_trans HKP.out.2.size hb3.size⟩
    have := e1.2
    omega)
  have HBW : Hid (∀ w', Below B wa w' → Below w.heap.size w w') := Lib.hid (fun w' h => goes_up HBA.out (hB ▸ h))
  have HAR : Hid (∀ w', Below B wa w' → IsAsks w' (.slice a1 x1.length c1) x1) := Lib.hid (fun w' h => HW1.out.below (HBW.out w' h) (Nat.le_refl _))
  clear hk hp hb3 hB HKP
  by_cases h100 : 100 < x1.length
  · have hli : (100 : Int) < (x1.length : Int) := by omega
    have HEND := Lib.hid (HBW.out w3 H3.out.bel.1)
    go_wp2
    go_ret
    exact ⟨rfl, HEND.out⟩
  have hli : ¬ (100 : Int) < (x1.length : Int) := by omega
  have HLX : Hid (x1.length ≤ 100) := Lib.hid (by omega)
  clear h100
  go_wp2_with fail
  go_loopw [6, 45] (fun k6 i wr => ∃ (j p : Nat) (s : Wa), j ≤ x1.length ∧ i = .int .i64 (j : Int) ∧ k6 = .pointer (some ⟨p, 0, none⟩) ∧ Hid (Two p q a0 s s (fun _ => False) B wa wr ∧ OkW s ∧ s.L.length ≤ j)) (fun _ i _ => x1.length - (intOf i).toNat)
  case atStart => exact ⟨0, p, newW, Nat.zero_le _, rfl, rfl, Lib.hid ⟨H3.out, okW_new, Nat.zero_le _⟩⟩
  case round =>
    obtain ⟨j, p, s, hj, rfl, rfl, HR⟩ := hrel
    clear H3
    by_cases hlt : j < x1.length
    · have hlti : (j : Int) < (x1.length : Int) := by omega
      obtain ⟨r, hr⟩ : ∃ r, x1[j]? = some r := ⟨_, List.getElem?_eq_getElem hlt⟩
      have hrm := List.mem_of_getElem? hr
      have hrw := (HAR.out wr HR.out.1.bel.1).2 _ hrm
      obtain ⟨an, cn, hvn, -⟩ := id hrw.1
      have HRW : Hid (∀ w', Below B wa w' → r.ok w') := Lib.hid (fun w' h => (HAR.out w' h).2 _ hrm)
      have HCW : Hid r.x.c.wf := Lib.hid hrw.2.1
      have HTW : Hid ((Lit.int .i64 r.x.tok).wf = true) := Lib.hid hrw.2.2.1
      have HAW : Hid ((Lit.int .i64 r.x.a.token).wf = true ∧ (Lit.int .u64 r.x.a.serial).wf = true) := Lib.hid hrw.2.2.2
      obtain ⟨b, off, rfl, y0, y1, y2, y3, y4, y5, y6, y7, y8, y9, y10, y11, y12, y13⟩ : ∃ b off, a1 = some ⟨b, off, none⟩ ∧ wr.cell? ⟨b, off + j * 14, none⟩ = some (.int .i64 r.x.kind) ∧ wr.cell? ⟨b, off + j * 14 + 1, none⟩ = some (.int .i64 r.x.tok) ∧ wr.cell? ⟨b, off + j * 14 + 2, none⟩ = some (.int .i64 r.x.now) ∧ wr.cell? ⟨b, off + j * 14 + 3, none⟩ = some (.int .i64 r.x.c.kind) ∧ wr.cell? ⟨b, off + j * 14 + 4, none⟩ = some (.int .i64 r.x.c.node) ∧ wr.cell? ⟨b, off + j * 14 + 5, none⟩ = some (.int .i64 r.x.c.token) ∧ wr.cell? ⟨b, off + j * 14 + 6, none⟩ = some (r.vn) ∧ wr.cell? ⟨b, off + j * 14 + 7, none⟩ = some (.int .u64 r.x.c.boot) ∧ wr.cell? ⟨b, off + j * 14 + 8, none⟩ = some (.int .u64 r.x.c.seq) ∧ wr.cell? ⟨b, off + j * 14 + 9, none⟩ = some (.int .u64 r.x.c.serial) ∧ wr.cell? ⟨b, off + j * 14 + 10, none⟩ = some (.int .u64 r.x.c.stamp) ∧ wr.cell? ⟨b, off + j * 14 + 11, none⟩ = some (.int .i64 r.x.a.code) ∧ wr.cell? ⟨b, off + j * 14 + 12, none⟩ = some (.int .i64 r.x.a.token) ∧ wr.cell? ⟨b, off + j * 14 + 13, none⟩ = some (.int .u64 r.x.a.serial) := by
        rcases SlR.cases (HAR.out wr HR.out.1.bel.1).1 with ⟨a9, c9, e, hnil⟩ | ⟨b, off, c9, e, -, -, -, -, hc⟩
        · rw [hnil] at hlt; simp at hlt
        · simp only [Value.slice.injEq] at e
          exact ⟨b, off, e.1, ar_cells (hc j _ hr)⟩
      have HLN : Hid (s.L.length ≤ 1000) := Lib.hid (by have := HR.out.2.2; have := HLX.out; omega)
      obtain ⟨g2, hg2⟩ : ∃ z, wr.heap.size = z := ⟨_, rfl⟩
      obtain ⟨W4, hW4⟩ : ∃ z, wr.alloc (.cells #[.int .i64 0, .int .i64 0, .int .i64 0, .int .i64 0, .int .i64 0, .int .i64 0, .slice none 0 0, .int .u64 0, .int .u64 0, .int .u64 0, .int .u64 0, .int .i64 0, .int .i64 0, .int .u64 0] 62) = z := ⟨_, rfl⟩
      have hb4 : Below wr.heap.size wr W4 := by rw [← hW4]; exact (Below.refl _ _).alloc (Nat.le_refl _) _
      have hr4 : W4.heap[g2]? = some (.cells #[.int .i64 0, .int .i64 0, .int .i64 0, .int .i64 0, .int .i64 0, .int .i64 0, .slice none 0 0, .int .u64 0, .int .u64 0, .int .u64 0, .int .u64 0, .int .i64 0, .int .i64 0, .int .u64 0] 62 (0, 0)) := by rw [← hW4, ← hg2]; exact heap_alloc_new _ _
      obtain ⟨W5, hW5⟩ : ∃ z, W4.setRow g2 (arA r) = z := ⟨_, rfl⟩
      have hb5 : Below wr.heap.size wr W5 := by rw [← hW5]; exact Ld.below_row hb4 (by omega) _
      have hr5 : W5.heap[g2]? = some (.cells (arA r) 62 (0, 0)) := by rw [← hW5]; exact setRow_heap _ _ _ _ _ _ hr4
      have e0 : W5.cell? ⟨g2, 0, none⟩ = some (.int .i64 r.x.kind) := (cell_of_row _ _ 0 _ _ _ hr5).trans rfl; have e1 : W5.cell? ⟨g2, 1, none⟩ = some (.int .i64 r.x.tok) := (cell_of_row _ _ 1 _ _ _ hr5).trans rfl; have e2 : W5.cell? ⟨g2, 2, none⟩ = some (.int .i64 r.x.now) := (cell_of_row _ _ 2 _ _ _ hr5).trans rfl; have e3 : W5.cell? ⟨g2, 3, none⟩ = some (.int .i64 r.x.c.kind) := (cell_of_row _ _ 3 _ _ _ hr5).trans rfl; have e4 : W5.cell? ⟨g2, 4, none⟩ = some (.int .i64 r.x.c.node) := (cell_of_row _ _ 4 _ _ _ hr5).trans rfl; have e5 : W5.cell? ⟨g2, 5, none⟩ = some (.int .i64 r.x.c.token) := (cell_of_row _ _ 5 _ _ _ hr5).trans rfl; have e6 : W5.cell? ⟨g2, 6, none⟩ = some (r.vn) := (cell_of_row _ _ 6 _ _ _ hr5).trans rfl; have e7 : W5.cell? ⟨g2, 7, none⟩ = some (.int .u64 r.x.c.boot) := (cell_of_row _ _ 7 _ _ _ hr5).trans rfl; have e8 : W5.cell? ⟨g2, 8, none⟩ = some (.int .u64 r.x.c.seq) := (cell_of_row _ _ 8 _ _ _ hr5).trans rfl; have e9 : W5.cell? ⟨g2, 9, none⟩ = some (.int .u64 r.x.c.serial) := (cell_of_row _ _ 9 _ _ _ hr5).trans rfl; have e10 : W5.cell? ⟨g2, 10, none⟩ = some (.int .u64 r.x.c.stamp) := (cell_of_row _ _ 10 _ _ _ hr5).trans rfl; have e11 : W5.cell? ⟨g2, 11, none⟩ = some (.int .i64 r.x.a.code) := (cell_of_row _ _ 11 _ _ _ hr5).trans rfl; have e12 : W5.cell? ⟨g2, 12, none⟩ = some (.int .i64 r.x.a.token) := (cell_of_row _ _ 12 _ _ _ hr5).trans rfl; have e13 : W5.cell? ⟨g2, 13, none⟩ = some (.int .u64 r.x.a.serial) := (cell_of_row _ _ 13 _ _ _ hr5).trans rfl
      obtain ⟨OW, hOW⟩ : ∃ O : Nat → Prop, O = (fun k => False ∨ (wr.heap.size ≤ k ∧ k < W5.heap.size)) := ⟨_, rfl⟩
      have HT5 : Hid (Two p q a0 s s OW B wa W5) := Lib.hid (by rw [hOW]; exact TwoO.more (goodW p a0 s) (goodR q a0 s) HR.out.1 hb5)
      have HG2 : Hid (∀ w' : World, (∀ k, OW k → w'.heap[k]? = W5.heap[k]?) → w'.heap[g2]? = some (.cells (arA r) 62 (0, 0))) := Lib.hid (fun w' h => (h g2 (by rw [hOW]; exact .inr ⟨Nat.le_of_eq hg2, row_lt hr5⟩)).trans hr5)
      have hone : (arA r).all (·.oneCell') = true := by simp [arA, hvn, Value.oneCell']
      clear hr hrm hrw hr5 hb5 hb4 hOW hvn
      go_upto_region 13 with (first | rw [hW4] | ((with_reducible refine wpList_store_row rfl 62 (.tmp 11) (.tmp 48) rfl g2 (arA r) rfl rfl 62 #[.int .i64 0, .int .i64 0, .int .i64 0, .int .i64 0, .int .i64 0, .int .i64 0, .slice none 0 0, .int .u64 0, .int .u64 0, .int .u64 0, .int .u64 0, .int .i64 0, .int .i64 0, .int .u64 0] hr4 (by kernel_rfl) rfl hone ?_); rw [hW5]))
      clear y0 y1 y2 y3 y4 y5 y6 y7 y8 y9 y10 y11 y12 y13 hW4 hW5 hg2 hr4 hone
      by_cases hk0 : r.x.kind = 0
      · have hkb : (r.x.kind == 0) = true := beq_iff_eq.2 hk0
        have HTd : Hid (Two p q a0 s s OW B wa W5.drew) := Lib.hid (TwoO.drew (goodW p a0 s) (goodR q a0 s) HT5.out)
        have HCd : Hid (W5.drew.cell? ⟨g2, 2, none⟩ = some (.int .i64 r.x.now)) := Lib.hid ((cell_of_row W5 _ 2 _ _ _ (HG2.out W5 (fun k hk => rfl))).trans rfl)
        clear hk0
        go_upto_region 14 with fail
        clear e0 e1 e2 e3 e4 e5 e6 e7 e8 e9 e10 e11 e12 e13
        refine Wl.start 999 (fun _ => True) (fun u => u.cell? ⟨g2, 2, none⟩ = some (.int .i64 r.x.now)) (by kernel_rfl) trivial HCd.out (fun hk => ?_)
        refine Wl.take0 (i := 0) (v := .pointer (some ⟨p, 0, none⟩)) rfl (by kernel_rfl) (by kernel_rfl) (by kernel_rfl) (by kernel_rfl) (fun _ _ _ h => h) (.inl ⟨by kernel_rfl, ?_⟩) hk ?_
        · intro wx hSw
          clear hSw hk
          go_simp
          try first | with_reducible rfl | kernel_rfl
        simp only [Act.put, List.getElem_toArray, List.getElem_cons_succ, List.getElem_cons_zero, List.setIfInBounds_toArray, List.set_cons_succ, List.set_cons_zero]
        refine Wl.take0 (i := 1) (v := .pointer (some ⟨g2, 2, none⟩)) rfl (by kernel_rfl) (by kernel_rfl) (by kernel_rfl) (by kernel_rfl) (fun _ _ _ h => h) (.inl ⟨by kernel_rfl, ?_⟩) hk ?_
        · intro wx hSw
          clear hSw hk
          go_simp
          try first | with_reducible rfl | kernel_rfl
        simp only [Act.put, List.getElem_toArray, List.getElem_cons_succ, List.getElem_cons_zero, List.setIfInBounds_toArray, List.set_cons_succ, List.set_cons_zero]
        refine Wl.take0 (i := 2) (v := .int .i64 r.x.now) rfl (by kernel_rfl) (by kernel_rfl) (by kernel_rfl) (by kernel_rfl) (fun _ _ _ h => h) (.inl ⟨by kernel_rfl, ?_⟩) hk ?_
        · intro wx hSw
          have cc := hSw
          clear hSw hk
          go_simp
          try first | with_reducible rfl | kernel_rfl
        simp only [Act.put, List.getElem_toArray, List.getElem_cons_succ, List.getElem_cons_zero, List.setIfInBounds_toArray, List.set_cons_succ, List.set_cons_zero]
        refine Wl.take0 (i := 5) (v := .pointer (some ⟨q, 0, none⟩)) rfl (by kernel_rfl) (by kernel_rfl) (by kernel_rfl) (by kernel_rfl) (fun _ _ _ h => h) (.inl ⟨by kernel_rfl, ?_⟩) hk ?_
        · intro wx hSw
          clear hSw hk
          go_simp
          try first | with_reducible rfl | kernel_rfl
        simp only [Act.put, List.getElem_toArray, List.getElem_cons_succ, List.getElem_cons_zero, List.setIfInBounds_toArray, List.set_cons_succ, List.set_cons_zero]
        refine Wl.take0 (i := 6) (v := .pointer (some ⟨g2, 2, none⟩)) rfl (by kernel_rfl) (by kernel_rfl) (by kernel_rfl) (by kernel_rfl) (fun _ _ _ h => h) (.inl ⟨by kernel_rfl, ?_⟩) hk ?_
        · intro wx hSw
          clear hSw hk
          go_simp
          try first | with_reducible rfl | kernel_rfl
        simp only [Act.put, List.getElem_toArray, List.getElem_cons_succ, List.getElem_cons_zero, List.setIfInBounds_toArray, List.set_cons_succ, List.set_cons_zero]
        refine Wl.take0 (i := 7) (v := .int .i64 r.x.now) rfl (by kernel_rfl) (by kernel_rfl) (by kernel_rfl) (by kernel_rfl) (fun _ _ _ h => h) (.inl ⟨by kernel_rfl, ?_⟩) hk ?_
        · intro wx hSw
          have cc := hSw
          clear hSw hk
          go_simp
          try first | with_reducible rfl | kernel_rfl
        simp only [Act.put, List.getElem_toArray, List.getElem_cons_succ, List.getElem_cons_zero, List.setIfInBounds_toArray, List.set_cons_succ, List.set_cons_zero]
        refine Wl.one (i := 3) (by kernel_rfl) rfl (fun K hK => ?_)
        go_simp
        refine (HTd.out.at1 r.x.now HLN.out).mono ?_
        rintro e w9 ⟨⟨v9, rfl, o9⟩, h9, k9⟩
        have H9 := Lib.hid h9
        have O9 := Lib.hid o9
        have HK9 : Hid (KO OW W5 w9) := Lib.hid k9
        have HC9 : Hid (w9.cell? ⟨g2, 2, none⟩ = some (.int .i64 r.x.now)) := Lib.hid ((cell_of_row w9 _ 2 _ _ _ (HG2.out w9 HK9.out)).trans rfl)
        clear h9 o9 k9
        refine hK.out _ _ (Wl.Kn.on trivial HC9.out) (fun hk => ?_)
        clear hK K
        refine Wl.one (i := 4) (by kernel_rfl) rfl (fun K hK => ?_)
        go_simp
        refine (own_any (goneW r.x.now s) v9 w9 (O9.out.sl trC_len) (Nat.le_trans (gone_len r.x.now s) HLN.out)).mono ?_
        rintro e w10 ⟨v10, rfl, o10, b10⟩
        have H10 : Hid (Two p q a0 (atW r.x.now s) s (fun k => OW k ∨ (w9.heap.size ≤ k ∧ k < w10.heap.size)) B wa w10) := Lib.hid (TwoO.more (goodW p a0 _) (goodR q a0 _) (TwoO.mono H9.out (O' := OW) (fun k hk => .inl hk)) b10)
        have O10 := Lib.hid o10
        have HK10 : Hid (KO OW W5 w10) := Lib.hid (fun k hk => (b10.block k (H9.out.lt (.inl hk))).trans (HK9.out k hk))
        have HC10 : Hid (w10.cell? ⟨g2, 2, none⟩ = some (.int .i64 r.x.now)) := Lib.hid ((cell_of_row w10 _ 2 _ _ _ (HG2.out w10 HK10.out)).trans rfl)
        clear o10 b10
        refine hK.out _ _ (Wl.Kn.on trivial HC10.out) (fun hk => ?_)
        clear hK K
        refine Wl.one (i := 8) (by kernel_rfl) rfl (fun K hK => ?_)
        go_simp
        refine (H10.out.at2 r.x.now HLN.out).mono ?_
        rintro e w11 ⟨⟨v11, rfl, o11⟩, h11, k11⟩
        have H11 : Hid (Two p q a0 (atW r.x.now s) (atW r.x.now s) OW B wa w11) := Lib.hid (TwoO.mono h11 (O' := OW) (fun k hk => .inl hk))
        have O11 := Lib.hid o11
        have O10b : Hid (OwnR 3 trC TXT w11 w9.heap.size v10 (goneW r.x.now s)) := Lib.hid (own_keep O10.out (fun k hk hl => k11 k (.inr (World.ownsRow.lt O10.out k hk))))
        have HK11 : Hid (KO OW W5 w11) := Lib.hid (fun k hk => (k11 k (.inl hk)).trans (HK10.out k hk))
        have HC11 : Hid (w11.cell? ⟨g2, 2, none⟩ = some (.int .i64 r.x.now)) := Lib.hid ((cell_of_row w11 _ 2 _ _ _ (HG2.out w11 HK11.out)).trans rfl)
        clear o11 h11 k11
        refine hK.out _ _ (Wl.Kn.on trivial HC11.out) (fun hk => ?_)
        clear hK K
        refine Wl.one (i := 9) (by kernel_rfl) rfl (fun K hK => ?_)
        go_simp
        refine (rsame_any (goneW r.x.now s) _ _ w11 (O10b.out.sl trC_len) (O11.out.sl trC_len)).mono ?_
        rintro e w12 ⟨rfl, b12⟩
        have H12 : Hid (Two p q a0 (atW r.x.now s) (atW r.x.now s) OW B wa w12) := Lib.hid (TwoO.below (goodW p a0 _) (goodR q a0 _) H11.out b12)
        have HC12 : Hid (w12.cell? ⟨g2, 2, none⟩ = some (.int .i64 r.x.now)) := Lib.hid ((cell_of_row w12 _ 2 _ _ _ (HG2.out w12 (fun k hk => (b12.block k (H11.out.lt hk)).trans (HK11.out k hk)))).trans rfl)
        clear b12
        refine hK.out _ _ (Wl.Kn.on trivial HC12.out) (fun hk => ?_)
        clear hK K
        refine Wl.take0 (i := 10) (v := .bool true) rfl (by kernel_rfl) (by kernel_rfl) (by kernel_rfl) (by kernel_rfl) (fun _ _ _ h => h) (.inl ⟨by kernel_rfl, ?_⟩) hk ?_
        · intro wx hSw
          clear hSw hk
          go_simp
          try first | with_reducible rfl | kernel_rfl
        simp only [Act.put, List.getElem_toArray, List.getElem_cons_succ, List.getElem_cons_zero, List.setIfInBounds_toArray, List.set_cons_succ, List.set_cons_zero]
        refine Wl.done (by kernel_rfl) ?_ _
        clear hk
        clear H9 H10 H11 O9 O10 O11 O10b HC9 HC10 HC11 HC12 HK9 HK10 HK11 HTd HCd
        have HOK9 : Hid (OkW (atW r.x.now s) ∧ (atW r.x.now s).L.length ≤ j + 1) := Lib.hid ⟨HR.out.2.1.at r.x.now, by have := at_len r.x.now s; have := HR.out.2.2; omega⟩
        go_wp2_with (first | ((with_reducible refine (lsame_any H12.out HOK9.out.1 (by have := HOK9.out.2; omega)).mono ?_); rintro e wz ⟨rfl, hz, kz⟩; have HZ : Hid (Two p q a0 (atW r.x.now s) (atW r.x.now s) (fun _ => False) B wa wz) := Lib.hid (TwoO.mono hz (fun k hk => hk.elim)); clear hz kz))
        go_roundw
        case rel => exact ⟨j + 1, p, atW r.x.now s, by omega, by go_num, rfl, Lib.hid ⟨HZ.out, HOK9.out⟩⟩
        case measure => simp [intOf]; omega
      by_cases hk1 : r.x.kind = 1
      · have hkb : (r.x.kind == 1) = true := beq_iff_eq.2 hk1
        have hkb0 : (r.x.kind == 0) = false := beq_eq_false_iff_ne.2 hk0
        have HTd : Hid (Two p q a0 s s OW B wa W5.drew) := Lib.hid (TwoO.drew (goodW p a0 s) (goodR q a0 s) HT5.out)
        have HCd : Hid (W5.drew.rangeAt g2 3 [.int .i64 r.x.c.kind, .int .i64 r.x.c.node, .int .i64 r.x.c.token, r.vn, .int .u64 r.x.c.boot, .int .u64 r.x.c.seq, .int .u64 r.x.c.serial, .int .u64 r.x.c.stamp]) := Lib.hid (rng_part 3 (HG2.out W5 (fun k hk => rfl)) rfl)
        obtain ⟨ze, hze⟩ : ∃ z, askE s r.x.c = z := ⟨_, rfl⟩
        have HE := Lib.hid hze
        have HEE : Hid ((ze == ze) = true) := Lib.hid (beq_self_eq_true ze)
        clear hze
        have HIC : Hid (∀ w', Below B wa w' → IsCmd w' (.agg #[.int .i64 r.x.c.kind, .int .i64 r.x.c.node, .int .i64 r.x.c.token, r.vn, .int .u64 r.x.c.boot, .int .u64 r.x.c.seq, .int .u64 r.x.c.serial, .int .u64 r.x.c.stamp]) r.x.c) := Lib.hid (fun w' hb => ⟨_, rfl, (HRW.out w' hb).1, (HRW.out w' hb).2.1⟩)
        clear hk0 hk1
        go_upto_region 16 with fail
        clear e0 e1 e2 e3 e4 e5 e6 e7 e8 e9 e10 e11 e12 e13
        refine Wl.start 999 (fun _ => True) (fun u => u.rangeAt g2 3 [.int .i64 r.x.c.kind, .int .i64 r.x.c.node, .int .i64 r.x.c.token, r.vn, .int .u64 r.x.c.boot, .int .u64 r.x.c.seq, .int .u64 r.x.c.serial, .int .u64 r.x.c.stamp]) (by kernel_rfl) trivial HCd.out (fun hk => ?_)
        refine Wl.take0 (i := 0) (v := .pointer (some ⟨p, 0, none⟩)) rfl (by kernel_rfl) (by kernel_rfl) (by kernel_rfl) (by kernel_rfl) (fun _ _ _ h => h) (.inl ⟨by kernel_rfl, ?_⟩) hk ?_
        · intro wx hSw
          clear hSw hk
          go_simp
          try first | with_reducible rfl | kernel_rfl
        simp only [Act.put, List.getElem_toArray, List.getElem_cons_succ, List.getElem_cons_zero, List.setIfInBounds_toArray, List.set_cons_succ, List.set_cons_zero]
        refine Wl.take0 (i := 1) (v := .pointer (some ⟨g2, 3, none⟩)) rfl (by kernel_rfl) (by kernel_rfl) (by kernel_rfl) (by kernel_rfl) (fun _ _ _ h => h) (.inl ⟨by kernel_rfl, ?_⟩) hk ?_
        · intro wx hSw
          clear hSw hk
          go_simp
          try first | with_reducible rfl | kernel_rfl
        simp only [Act.put, List.getElem_toArray, List.getElem_cons_succ, List.getElem_cons_zero, List.setIfInBounds_toArray, List.set_cons_succ, List.set_cons_zero]
        refine Wl.take0 (i := 2) (v := .agg #[.int .i64 r.x.c.kind, .int .i64 r.x.c.node, .int .i64 r.x.c.token, r.vn, .int .u64 r.x.c.boot, .int .u64 r.x.c.seq, .int .u64 r.x.c.serial, .int .u64 r.x.c.stamp]) rfl (by kernel_rfl) (by kernel_rfl) (by kernel_rfl) (by kernel_rfl) (fun _ _ _ h => h) (yieldsIf_load_mid (by rfl) _ _ rfl _ _ rfl [.int .i64 r.x.c.kind, .int .i64 r.x.c.node, .int .i64 r.x.c.token, r.vn, .int .u64 r.x.c.boot, .int .u64 r.x.c.seq, .int .u64 r.x.c.serial, .int .u64 r.x.c.stamp] _ (fun w h => h) Try.underlying58 rfl (by kernel_rfl)) hk ?_
        simp only [Act.put, List.getElem_toArray, List.getElem_cons_succ, List.getElem_cons_zero, List.setIfInBounds_toArray, List.set_cons_succ, List.set_cons_zero]
        refine Wl.take0 (i := 4) (v := .pointer (some ⟨q, 0, none⟩)) rfl (by kernel_rfl) (by kernel_rfl) (by kernel_rfl) (by kernel_rfl) (fun _ _ _ h => h) (.inl ⟨by kernel_rfl, ?_⟩) hk ?_
        · intro wx hSw
          clear hSw hk
          go_simp
          try first | with_reducible rfl | kernel_rfl
        simp only [Act.put, List.getElem_toArray, List.getElem_cons_succ, List.getElem_cons_zero, List.setIfInBounds_toArray, List.set_cons_succ, List.set_cons_zero]
        refine Wl.take0 (i := 5) (v := .pointer (some ⟨g2, 3, none⟩)) rfl (by kernel_rfl) (by kernel_rfl) (by kernel_rfl) (by kernel_rfl) (fun _ _ _ h => h) (.inl ⟨by kernel_rfl, ?_⟩) hk ?_
        · intro wx hSw
          clear hSw hk
          go_simp
          try first | with_reducible rfl | kernel_rfl
        simp only [Act.put, List.getElem_toArray, List.getElem_cons_succ, List.getElem_cons_zero, List.setIfInBounds_toArray, List.set_cons_succ, List.set_cons_zero]
        refine Wl.take0 (i := 6) (v := .agg #[.int .i64 r.x.c.kind, .int .i64 r.x.c.node, .int .i64 r.x.c.token, r.vn, .int .u64 r.x.c.boot, .int .u64 r.x.c.seq, .int .u64 r.x.c.serial, .int .u64 r.x.c.stamp]) rfl (by kernel_rfl) (by kernel_rfl) (by kernel_rfl) (by kernel_rfl) (fun _ _ _ h => h) (yieldsIf_load_mid (by rfl) _ _ rfl _ _ rfl [.int .i64 r.x.c.kind, .int .i64 r.x.c.node, .int .i64 r.x.c.token, r.vn, .int .u64 r.x.c.boot, .int .u64 r.x.c.seq, .int .u64 r.x.c.serial, .int .u64 r.x.c.stamp] _ (fun w h => h) Try.underlying58 rfl (by kernel_rfl)) hk ?_
        simp only [Act.put, List.getElem_toArray, List.getElem_cons_succ, List.getElem_cons_zero, List.setIfInBounds_toArray, List.set_cons_succ, List.set_cons_zero]
        refine Wl.one (i := 3) (by kernel_rfl) rfl (fun K hK => ?_)
        go_simp
        refine (HTd.out.ask1 (HIC.out W5.drew HTd.out.bel.1)).mono ?_
        rintro e w9 ⟨rfl, h9, k9⟩
        have H9 : Hid (Two p q a0 (askV s r.x.c) s OW B wa w9) := Lib.hid h9
        have HK9 : Hid (KO OW W5 w9) := Lib.hid k9
        have HC9 : Hid (w9.rangeAt g2 3 [.int .i64 r.x.c.kind, .int .i64 r.x.c.node, .int .i64 r.x.c.token, r.vn, .int .u64 r.x.c.boot, .int .u64 r.x.c.seq, .int .u64 r.x.c.serial, .int .u64 r.x.c.stamp]) := Lib.hid (rng_part 3 (HG2.out w9 HK9.out) rfl)
        clear h9 k9
        rw [HE.out]
        refine hK.out _ _ (Wl.Kn.on trivial HC9.out) (fun hk => ?_)
        clear hK K
        refine Wl.one (i := 7) (by kernel_rfl) rfl (fun K hK => ?_)
        go_simp
        refine (H9.out.ask2 (HIC.out w9 H9.out.bel.1)).mono ?_
        rintro e w10 ⟨rfl, h10, k10⟩
        have H10 : Hid (Two p q a0 (askV s r.x.c) (askV s r.x.c) OW B wa w10) := Lib.hid h10
        have HC10 : Hid (w10.rangeAt g2 3 [.int .i64 r.x.c.kind, .int .i64 r.x.c.node, .int .i64 r.x.c.token, r.vn, .int .u64 r.x.c.boot, .int .u64 r.x.c.seq, .int .u64 r.x.c.serial, .int .u64 r.x.c.stamp]) := Lib.hid (rng_part 3 (HG2.out w10 (fun k hk => (k10 k hk).trans (HK9.out k hk))) rfl)
        clear h10 k10
        rw [HE.out]
        refine hK.out _ _ (Wl.Kn.on trivial HC10.out) (fun hk => ?_)
        clear hK K
        refine Wl.take0 (i := 8) (v := .bool true) rfl (by kernel_rfl) (by kernel_rfl) (by kernel_rfl) (by kernel_rfl) (fun _ _ _ h => h) (.inl ⟨by kernel_rfl, ?_⟩) hk ?_
        · intro wx hSw
          have e := HEE.out
          clear hSw hk
          go_simp
          try first | with_reducible rfl | kernel_rfl
        simp only [Act.put, List.getElem_toArray, List.getElem_cons_succ, List.getElem_cons_zero, List.setIfInBounds_toArray, List.set_cons_succ, List.set_cons_zero]
        refine Wl.take0 (i := 9) (v := .bool true) rfl (by kernel_rfl) (by kernel_rfl) (by kernel_rfl) (by kernel_rfl) (fun _ _ _ h => h) (.inl ⟨by kernel_rfl, ?_⟩) hk ?_
        · intro wx hSw
          clear hSw hk
          go_simp
          try first | with_reducible rfl | kernel_rfl
        simp only [Act.put, List.getElem_toArray, List.getElem_cons_succ, List.getElem_cons_zero, List.setIfInBounds_toArray, List.set_cons_succ, List.set_cons_zero]
        refine Wl.done (by kernel_rfl) ?_ _
        clear hk
        clear H9 HC9 HC10 HK9 HTd HCd
        have HOK9 : Hid (OkW (askV s r.x.c) ∧ (askV s r.x.c).L.length ≤ j + 1) := Lib.hid ⟨HR.out.2.1.ask HCW.out, by rw [ask_L]; have := HR.out.2.2; omega⟩
        go_wp2_with (first | ((with_reducible refine (lsame_any H10.out HOK9.out.1 (by have := HOK9.out.2; omega)).mono ?_); rintro e wz ⟨rfl, hz, kz⟩; have HZ : Hid (Two p q a0 (askV s r.x.c) (askV s r.x.c) (fun _ => False) B wa wz) := Lib.hid (TwoO.mono hz (fun k hk => hk.elim)); clear hz kz))
        go_roundw
        case rel => exact ⟨j + 1, p, askV s r.x.c, by omega, by go_num, rfl, Lib.hid ⟨HZ.out, HOK9.out⟩⟩
        case measure => simp [intOf]; omega
      by_cases hk2 : r.x.kind = 2
      · have hkb : (r.x.kind == 2) = true := beq_iff_eq.2 hk2
        have hkb0 : (r.x.kind == 0) = false := beq_eq_false_iff_ne.2 hk0
        have hkb1 : (r.x.kind == 1) = false := beq_eq_false_iff_ne.2 hk1
        have HTd : Hid (Two p q a0 s s OW B wa W5.drew) := Lib.hid (TwoO.drew (goodW p a0 s) (goodR q a0 s) HT5.out)
        have HCd : Hid (W5.drew.rangeAt g2 11 [.int .i64 r.x.a.code, .int .i64 r.x.a.token, .int .u64 r.x.a.serial]) := Lib.hid (rng_part 11 (HG2.out W5 (fun k hk => rfl)) rfl)
        obtain ⟨ze, hze⟩ : ∃ z, toldE s = z := ⟨_, rfl⟩
        have HE := Lib.hid hze
        have HEE : Hid ((ze == ze) = true) := Lib.hid (beq_self_eq_true ze)
        clear hze
        clear hk0 hk1 hk2
        go_upto_region 18 with fail
        clear e0 e1 e2 e3 e4 e5 e6 e7 e8 e9 e10 e11 e12 e13
        refine Wl.start 999 (fun _ => True) (fun u => u.rangeAt g2 11 [.int .i64 r.x.a.code, .int .i64 r.x.a.token, .int .u64 r.x.a.serial]) (by kernel_rfl) trivial HCd.out (fun hk => ?_)
        refine Wl.take0 (i := 0) (v := .pointer (some ⟨p, 0, none⟩)) rfl (by kernel_rfl) (by kernel_rfl) (by kernel_rfl) (by kernel_rfl) (fun _ _ _ h => h) (.inl ⟨by kernel_rfl, ?_⟩) hk ?_
        · intro wx hSw
          clear hSw hk
          go_simp
          try first | with_reducible rfl | kernel_rfl
        simp only [Act.put, List.getElem_toArray, List.getElem_cons_succ, List.getElem_cons_zero, List.setIfInBounds_toArray, List.set_cons_succ, List.set_cons_zero]
        refine Wl.take0 (i := 1) (v := .pointer (some ⟨g2, 11, none⟩)) rfl (by kernel_rfl) (by kernel_rfl) (by kernel_rfl) (by kernel_rfl) (fun _ _ _ h => h) (.inl ⟨by kernel_rfl, ?_⟩) hk ?_
        · intro wx hSw
          clear hSw hk
          go_simp
          try first | with_reducible rfl | kernel_rfl
        simp only [Act.put, List.getElem_toArray, List.getElem_cons_succ, List.getElem_cons_zero, List.setIfInBounds_toArray, List.set_cons_succ, List.set_cons_zero]
        refine Wl.take0 (i := 2) (v := .agg #[.int .i64 r.x.a.code, .int .i64 r.x.a.token, .int .u64 r.x.a.serial]) rfl (by kernel_rfl) (by kernel_rfl) (by kernel_rfl) (by kernel_rfl) (fun _ _ _ h => h) (yieldsIf_load_mid (by rfl) _ _ rfl _ _ rfl [.int .i64 r.x.a.code, .int .i64 r.x.a.token, .int .u64 r.x.a.serial] _ (fun w h => h) Try.underlying60 rfl (by kernel_rfl)) hk ?_
        simp only [Act.put, List.getElem_toArray, List.getElem_cons_succ, List.getElem_cons_zero, List.setIfInBounds_toArray, List.set_cons_succ, List.set_cons_zero]
        refine Wl.take0 (i := 4) (v := .pointer (some ⟨q, 0, none⟩)) rfl (by kernel_rfl) (by kernel_rfl) (by kernel_rfl) (by kernel_rfl) (fun _ _ _ h => h) (.inl ⟨by kernel_rfl, ?_⟩) hk ?_
        · intro wx hSw
          clear hSw hk
          go_simp
          try first | with_reducible rfl | kernel_rfl
        simp only [Act.put, List.getElem_toArray, List.getElem_cons_succ, List.getElem_cons_zero, List.setIfInBounds_toArray, List.set_cons_succ, List.set_cons_zero]
        refine Wl.take0 (i := 5) (v := .pointer (some ⟨g2, 11, none⟩)) rfl (by kernel_rfl) (by kernel_rfl) (by kernel_rfl) (by kernel_rfl) (fun _ _ _ h => h) (.inl ⟨by kernel_rfl, ?_⟩) hk ?_
        · intro wx hSw
          clear hSw hk
          go_simp
          try first | with_reducible rfl | kernel_rfl
        simp only [Act.put, List.getElem_toArray, List.getElem_cons_succ, List.getElem_cons_zero, List.setIfInBounds_toArray, List.set_cons_succ, List.set_cons_zero]
        refine Wl.take0 (i := 6) (v := .agg #[.int .i64 r.x.a.code, .int .i64 r.x.a.token, .int .u64 r.x.a.serial]) rfl (by kernel_rfl) (by kernel_rfl) (by kernel_rfl) (by kernel_rfl) (fun _ _ _ h => h) (yieldsIf_load_mid (by rfl) _ _ rfl _ _ rfl [.int .i64 r.x.a.code, .int .i64 r.x.a.token, .int .u64 r.x.a.serial] _ (fun w h => h) Try.underlying60 rfl (by kernel_rfl)) hk ?_
        simp only [Act.put, List.getElem_toArray, List.getElem_cons_succ, List.getElem_cons_zero, List.setIfInBounds_toArray, List.set_cons_succ, List.set_cons_zero]
        refine Wl.one (i := 3) (by kernel_rfl) rfl (fun K hK => ?_)
        go_simp
        refine (HTd.out.told1 (a0 := r.x.a) HR.out.2.1 HLN.out HAW.out HNN.out).mono ?_
        rintro e w9 ⟨rfl, h9, k9⟩
        have H9 : Hid (Two p q a0 (toldV a0 s r.x.a) s OW B wa w9) := Lib.hid h9
        have HK9 : Hid (KO OW W5 w9) := Lib.hid k9
        have HC9 : Hid (w9.rangeAt g2 11 [.int .i64 r.x.a.code, .int .i64 r.x.a.token, .int .u64 r.x.a.serial]) := Lib.hid (rng_part 11 (HG2.out w9 HK9.out) rfl)
        clear h9 k9
        rw [HE.out]
        refine hK.out _ _ (Wl.Kn.on trivial HC9.out) (fun hk => ?_)
        clear hK K
        refine Wl.one (i := 7) (by kernel_rfl) rfl (fun K hK => ?_)
        go_simp
        refine (H9.out.told2 (a0 := r.x.a) HR.out.2.1 HLN.out HAW.out HNN.out).mono ?_
        rintro e w10 ⟨rfl, h10, k10⟩
        have H10 : Hid (Two p q a0 (toldV a0 s r.x.a) (toldV a0 s r.x.a) OW B wa w10) := Lib.hid h10
        have HC10 : Hid (w10.rangeAt g2 11 [.int .i64 r.x.a.code, .int .i64 r.x.a.token, .int .u64 r.x.a.serial]) := Lib.hid (rng_part 11 (HG2.out w10 (fun k hk => (k10 k hk).trans (HK9.out k hk))) rfl)
        clear h10 k10
        rw [HE.out]
        refine hK.out _ _ (Wl.Kn.on trivial HC10.out) (fun hk => ?_)
        clear hK K
        refine Wl.take0 (i := 8) (v := .bool true) rfl (by kernel_rfl) (by kernel_rfl) (by kernel_rfl) (by kernel_rfl) (fun _ _ _ h => h) (.inl ⟨by kernel_rfl, ?_⟩) hk ?_
        · intro wx hSw
          have e := HEE.out
          clear hSw hk
          go_simp
          try first | with_reducible rfl | kernel_rfl
        simp only [Act.put, List.getElem_toArray, List.getElem_cons_succ, List.getElem_cons_zero, List.setIfInBounds_toArray, List.set_cons_succ, List.set_cons_zero]
        refine Wl.take0 (i := 9) (v := .bool true) rfl (by kernel_rfl) (by kernel_rfl) (by kernel_rfl) (by kernel_rfl) (fun _ _ _ h => h) (.inl ⟨by kernel_rfl, ?_⟩) hk ?_
        · intro wx hSw
          clear hSw hk
          go_simp
          try first | with_reducible rfl | kernel_rfl
        simp only [Act.put, List.getElem_toArray, List.getElem_cons_succ, List.getElem_cons_zero, List.setIfInBounds_toArray, List.set_cons_succ, List.set_cons_zero]
        refine Wl.done (by kernel_rfl) ?_ _
        clear hk
        clear H9 HC9 HC10 HK9 HTd HCd
        have HOK9 : Hid (OkW (toldV a0 s r.x.a) ∧ (toldV a0 s r.x.a).L.length ≤ j + 1) := Lib.hid ⟨HR.out.2.1.told a0 r.x.a, by have := told_len a0 s r.x.a; have := HR.out.2.2; omega⟩
        go_wp2_with (first | ((with_reducible refine (lsame_any H10.out HOK9.out.1 (by have := HOK9.out.2; omega)).mono ?_); rintro e wz ⟨rfl, hz, kz⟩; have HZ : Hid (Two p q a0 (toldV a0 s r.x.a) (toldV a0 s r.x.a) (fun _ => False) B wa wz) := Lib.hid (TwoO.mono hz (fun k hk => hk.elim)); clear hz kz))
        go_roundw
        case rel => exact ⟨j + 1, p, toldV a0 s r.x.a, by omega, by go_num, rfl, Lib.hid ⟨HZ.out, HOK9.out⟩⟩
        case measure => simp [intOf]; omega
      by_cases hk3 : r.x.kind = 3
      · have hkb : (r.x.kind == 3) = true := beq_iff_eq.2 hk3
        have hkb0 : (r.x.kind == 0) = false := beq_eq_false_iff_ne.2 hk0
        have hkb1 : (r.x.kind == 1) = false := beq_eq_false_iff_ne.2 hk1
        have hkb2 : (r.x.kind == 2) = false := beq_eq_false_iff_ne.2 hk2
        have HTd : Hid (Two p q a0 s s OW B wa W5.drew) := Lib.hid (TwoO.drew (goodW p a0 s) (goodR q a0 s) HT5.out)
        have HCd : Hid (W5.drew.cell? ⟨g2, 1, none⟩ = some (.int .i64 r.x.tok)) := Lib.hid ((cell_of_row W5 _ 1 _ _ _ (HG2.out W5 (fun k hk => rfl))).trans rfl)
        obtain ⟨ze, hze⟩ : ∃ z, dropE s r.x.tok = z := ⟨_, rfl⟩
        have HE := Lib.hid hze
        have HEE : Hid ((ze == ze) = true) := Lib.hid (beq_self_eq_true ze)
        clear hze
        clear hk0 hk1 hk2 hk3
        go_upto_region 20 with fail
        clear e0 e1 e2 e3 e4 e5 e6 e7 e8 e9 e10 e11 e12 e13
        refine Wl.start 999 (fun _ => True) (fun u => u.cell? ⟨g2, 1, none⟩ = some (.int .i64 r.x.tok)) (by kernel_rfl) trivial HCd.out (fun hk => ?_)
        refine Wl.take0 (i := 0) (v := .pointer (some ⟨p, 0, none⟩)) rfl (by kernel_rfl) (by kernel_rfl) (by kernel_rfl) (by kernel_rfl) (fun _ _ _ h => h) (.inl ⟨by kernel_rfl, ?_⟩) hk ?_
        · intro wx hSw
          clear hSw hk
          go_simp
          try first | with_reducible rfl | kernel_rfl
        simp only [Act.put, List.getElem_toArray, List.getElem_cons_succ, List.getElem_cons_zero, List.setIfInBounds_toArray, List.set_cons_succ, List.set_cons_zero]
        refine Wl.take0 (i := 1) (v := .pointer (some ⟨g2, 1, none⟩)) rfl (by kernel_rfl) (by kernel_rfl) (by kernel_rfl) (by kernel_rfl) (fun _ _ _ h => h) (.inl ⟨by kernel_rfl, ?_⟩) hk ?_
        · intro wx hSw
          clear hSw hk
          go_simp
          try first | with_reducible rfl | kernel_rfl
        simp only [Act.put, List.getElem_toArray, List.getElem_cons_succ, List.getElem_cons_zero, List.setIfInBounds_toArray, List.set_cons_succ, List.set_cons_zero]
        refine Wl.take0 (i := 2) (v := .int .i64 r.x.tok) rfl (by kernel_rfl) (by kernel_rfl) (by kernel_rfl) (by kernel_rfl) (fun _ _ _ h => h) (.inl ⟨by kernel_rfl, ?_⟩) hk ?_
        · intro wx hSw
          have cc := hSw
          clear hSw hk
          go_simp
          try first | with_reducible rfl | kernel_rfl
        simp only [Act.put, List.getElem_toArray, List.getElem_cons_succ, List.getElem_cons_zero, List.setIfInBounds_toArray, List.set_cons_succ, List.set_cons_zero]
        refine Wl.take0 (i := 4) (v := .pointer (some ⟨q, 0, none⟩)) rfl (by kernel_rfl) (by kernel_rfl) (by kernel_rfl) (by kernel_rfl) (fun _ _ _ h => h) (.inl ⟨by kernel_rfl, ?_⟩) hk ?_
        · intro wx hSw
          clear hSw hk
          go_simp
          try first | with_reducible rfl | kernel_rfl
        simp only [Act.put, List.getElem_toArray, List.getElem_cons_succ, List.getElem_cons_zero, List.setIfInBounds_toArray, List.set_cons_succ, List.set_cons_zero]
        refine Wl.take0 (i := 5) (v := .pointer (some ⟨g2, 1, none⟩)) rfl (by kernel_rfl) (by kernel_rfl) (by kernel_rfl) (by kernel_rfl) (fun _ _ _ h => h) (.inl ⟨by kernel_rfl, ?_⟩) hk ?_
        · intro wx hSw
          clear hSw hk
          go_simp
          try first | with_reducible rfl | kernel_rfl
        simp only [Act.put, List.getElem_toArray, List.getElem_cons_succ, List.getElem_cons_zero, List.setIfInBounds_toArray, List.set_cons_succ, List.set_cons_zero]
        refine Wl.take0 (i := 6) (v := .int .i64 r.x.tok) rfl (by kernel_rfl) (by kernel_rfl) (by kernel_rfl) (by kernel_rfl) (fun _ _ _ h => h) (.inl ⟨by kernel_rfl, ?_⟩) hk ?_
        · intro wx hSw
          have cc := hSw
          clear hSw hk
          go_simp
          try first | with_reducible rfl | kernel_rfl
        simp only [Act.put, List.getElem_toArray, List.getElem_cons_succ, List.getElem_cons_zero, List.setIfInBounds_toArray, List.set_cons_succ, List.set_cons_zero]
        refine Wl.one (i := 3) (by kernel_rfl) rfl (fun K hK => ?_)
        go_simp
        refine (HTd.out.drop1 HLN.out HTW.out).mono ?_
        rintro e w9 ⟨rfl, h9, k9⟩
        have H9 : Hid (Two p q a0 ({ s with L := woV r.x.tok s.L }) s OW B wa w9) := Lib.hid h9
        have HK9 : Hid (KO OW W5 w9) := Lib.hid k9
        have HC9 : Hid (w9.cell? ⟨g2, 1, none⟩ = some (.int .i64 r.x.tok)) := Lib.hid ((cell_of_row w9 _ 1 _ _ _ (HG2.out w9 HK9.out)).trans rfl)
        clear h9 k9
        rw [HE.out]
        refine hK.out _ _ (Wl.Kn.on trivial HC9.out) (fun hk => ?_)
        clear hK K
        refine Wl.one (i := 7) (by kernel_rfl) rfl (fun K hK => ?_)
        go_simp
        refine (H9.out.drop2 HLN.out r.x.tok).mono ?_
        rintro e w10 ⟨rfl, h10, k10⟩
        have H10 : Hid (Two p q a0 ({ s with L := woV r.x.tok s.L }) ({ s with L := woV r.x.tok s.L }) OW B wa w10) := Lib.hid h10
        have HC10 : Hid (w10.cell? ⟨g2, 1, none⟩ = some (.int .i64 r.x.tok)) := Lib.hid ((cell_of_row w10 _ 1 _ _ _ (HG2.out w10 (fun k hk => (k10 k hk).trans (HK9.out k hk)))).trans rfl)
        clear h10 k10
        rw [HE.out]
        refine hK.out _ _ (Wl.Kn.on trivial HC10.out) (fun hk => ?_)
        clear hK K
        refine Wl.take0 (i := 8) (v := .bool true) rfl (by kernel_rfl) (by kernel_rfl) (by kernel_rfl) (by kernel_rfl) (fun _ _ _ h => h) (.inl ⟨by kernel_rfl, ?_⟩) hk ?_
        · intro wx hSw
          have e := HEE.out
          clear hSw hk
          go_simp
          try first | with_reducible rfl | kernel_rfl
        simp only [Act.put, List.getElem_toArray, List.getElem_cons_succ, List.getElem_cons_zero, List.setIfInBounds_toArray, List.set_cons_succ, List.set_cons_zero]
        refine Wl.take0 (i := 9) (v := .bool true) rfl (by kernel_rfl) (by kernel_rfl) (by kernel_rfl) (by kernel_rfl) (fun _ _ _ h => h) (.inl ⟨by kernel_rfl, ?_⟩) hk ?_
        · intro wx hSw
          clear hSw hk
          go_simp
          try first | with_reducible rfl | kernel_rfl
        simp only [Act.put, List.getElem_toArray, List.getElem_cons_succ, List.getElem_cons_zero, List.setIfInBounds_toArray, List.set_cons_succ, List.set_cons_zero]
        refine Wl.done (by kernel_rfl) ?_ _
        clear hk
        clear H9 HC9 HC10 HK9 HTd HCd
        have HOK9 : Hid (OkW ({ s with L := woV r.x.tok s.L }) ∧ ({ s with L := woV r.x.tok s.L }).L.length ≤ j + 1) := Lib.hid ⟨HR.out.2.1.drop r.x.tok, by have := drop_len r.x.tok s.L; have := HR.out.2.2; dsimp only; omega⟩
        go_wp2_with (first | ((with_reducible refine (lsame_any H10.out HOK9.out.1 (by have := HOK9.out.2; omega)).mono ?_); rintro e wz ⟨rfl, hz, kz⟩; have HZ : Hid (Two p q a0 ({ s with L := woV r.x.tok s.L }) ({ s with L := woV r.x.tok s.L }) (fun _ => False) B wa wz) := Lib.hid (TwoO.mono hz (fun k hk => hk.elim)); clear hz kz))
        go_roundw
        case rel => exact ⟨j + 1, p, { s with L := woV r.x.tok s.L }, by omega, by go_num, rfl, Lib.hid ⟨HZ.out, HOK9.out⟩⟩
        case measure => simp [intOf]; omega
      by_cases hk4 : r.x.kind = 4
      · have hkb : (r.x.kind == 4) = true := beq_iff_eq.2 hk4
        have hkb0 : (r.x.kind == 0) = false := beq_eq_false_iff_ne.2 hk0
        have hkb1 : (r.x.kind == 1) = false := beq_eq_false_iff_ne.2 hk1
        have hkb2 : (r.x.kind == 2) = false := beq_eq_false_iff_ne.2 hk2
        have hkb3 : (r.x.kind == 3) = false := beq_eq_false_iff_ne.2 hk3
        clear hk0 hk1 hk2 hk3 hk4
        go_upto_region 22 with fail
        clear e0 e1 e2 e3 e4 e5 e6 e7 e8 e9 e10 e11 e12 e13
        go_wp2_with fail
        refine (HT5.out.clone).mono ?_
        rintro e w9 ⟨cp, rfl, h9, k9⟩
        have H9 := Lib.hid h9
        clear h9 k9
        go_wp2_with fail
        refine (H9.out.at 4611686018427387904 HLN.out).mono ?_
        rintro e w10 ⟨⟨v10, rfl⟩, h10, k10⟩
        have H10 := Lib.hid h10
        clear h10 k10
        go_wp2_with fail
        refine (H10.out.told (a0 := La.zAns) (HR.out.2.1.at _) (Nat.le_trans (at_len _ s) HLN.out) ⟨rfl, rfl⟩ HNN.out).mono ?_
        rintro e w11 ⟨⟨v11, rfl⟩, h11, k11⟩
        have H11 : Hid (Two cp q a0 s s OW B wa w11) := Lib.hid (ThreeO.drop h11)
        clear h11 k11
        have HOK9 : Hid (OkW (s) ∧ (s).L.length ≤ j + 1) := Lib.hid ⟨HR.out.2.1, by have := HR.out.2.2; omega⟩
        go_wp2_with (first | ((with_reducible refine (lsame_any H11.out HOK9.out.1 (by have := HOK9.out.2; omega)).mono ?_); rintro e wz ⟨rfl, hz, kz⟩; have HZ : Hid (Two cp q a0 (s) (s) (fun _ => False) B wa wz) := Lib.hid (TwoO.mono hz (fun k hk => hk.elim)); clear hz kz))
        go_roundw
        case rel => exact ⟨j + 1, cp, s, by omega, by go_num, rfl, Lib.hid ⟨HZ.out, HOK9.out⟩⟩
        case measure => simp [intOf]; omega
      have hkb0 : (r.x.kind == 0) = false := beq_eq_false_iff_ne.2 hk0
      have hkb1 : (r.x.kind == 1) = false := beq_eq_false_iff_ne.2 hk1
      have hkb2 : (r.x.kind == 2) = false := beq_eq_false_iff_ne.2 hk2
      have hkb3 : (r.x.kind == 3) = false := beq_eq_false_iff_ne.2 hk3
      have hkb4 : (r.x.kind == 4) = false := beq_eq_false_iff_ne.2 hk4
      clear hk0 hk1 hk2 hk3 hk4
      clear e1 e2 e3 e4 e5 e6 e7 e8 e9 e10 e11 e12 e13
      have HOK9 : Hid (OkW (s) ∧ (s).L.length ≤ j + 1) := Lib.hid ⟨HR.out.2.1, by have := HR.out.2.2; omega⟩
      go_wp2_with (first | ((with_reducible refine (lsame_any HT5.out HOK9.out.1 (by have := HOK9.out.2; omega)).mono ?_); rintro e wz ⟨rfl, hz, kz⟩; have HZ : Hid (Two p q a0 (s) (s) (fun _ => False) B wa wz) := Lib.hid (TwoO.mono hz (fun k hk => hk.elim)); clear hz kz))
      go_roundw
      case rel => exact ⟨j + 1, p, s, by omega, by go_num, rfl, Lib.hid ⟨HZ.out, HOK9.out⟩⟩
      case measure => simp [intOf]; omega
    · obtain rfl : j = x1.length := by omega
      have HEND := Lib.hid (HBW.out wr HR.out.1.bel.1)
      clear HR
      go_wp2
      go_ret
      exact ⟨rfl, HEND.out⟩

set_option maxRecDepth 100000 in
theorem contract (H : Type) (enc : TypeId × Value → H) (W : World) (base : Nat) (args : Array Value) (ds gs : List (DataW H)) (before : List MemPlace)
    (hval0 : ∀ (j : Nat) t v, Try.f4.params[j]? = some t → args[j]? = some v → Value.okWide Try.prog W .any base t v)
    (hW : DataW.Whole enc Try.prog Try.f4.params.toList Rows.leaseTrustsSpec.vars false W args.toList ds gs before)
    (hsz0 : (DataW.weightsEach Try.prog (Try.f4.params.toList ++ Rows.leaseTrustsSpec.plain.varTypes Try.prog) (ds ++ gs)).all (· ≤ reachBytes) = true) :
    Calls Try.prog 4 args W fun e W' => ∃ v, e = .returned v ∧ Rows.leaseTrustsSpec.post enc Try.prog Try.f4 false true false false W args v W' := by
  have hval : ∀ (j : Nat) t v, Try.f4.params[j]? = some t → args[j]? = some v → Value.okWide Try.prog W .any base t v := hval0
  have hW' := hW
  obtain ⟨p, q, hA0, hV, rfl, hfz, hnd⟩ := hW
  have hA : DataW.TrodAll enc Try.prog W 0 (fun _ => true) true Try.f4.params.toList args.toList ds p := hA0
  rw [Try.params4] at hA hval
  have hsz := hsz0
  rw [Try.params4] at hsz
  obtain ⟨v0, vs0, d0, ds0, p0, q0, hargs, rfl, rfl, h0, r0⟩ := trodAll_cons hA
  obtain ⟨v1, vs1, d1, ds1, p1, q1, rfl, rfl, rfl, h1, r1⟩ := trodAll_cons r0
  obtain ⟨rfl, rfl, rfl⟩ := trodAll_nil r1
  obtain rfl : args = #[v0, v1] := by cases args; simp_all
  obtain ⟨rfl, rfl⟩ := trodVars_none hV
  clear hA0 hval0
  have k0 := h0
  have lt0 : ∀ x ∈ p0, x.block < W.heap.size := by obtain ⟨m, hm⟩ := k0; exact DataW.trod_lt m _ _ _ hm
  have k1 := h1
  have lt1 : ∀ x ∈ p1, x.block < W.heap.size := by obtain ⟨m, hm⟩ := k1; exact DataW.trod_lt m _ _ _ hm
  obtain ⟨a0, rfl, -, -, w0⟩ := open_int Try.underlying2 (hval 0 2 v0 rfl rfl) h0
  obtain ⟨x1, w1, -, s1⟩ := open_asks (hval 1 49 v1 rfl rfl) k1
  have b1 : IsAsks.fits x1 := s1 (wt_arg hsz (j := 1) rfl rfl)
  refine (walk a0 v1 x1 W w0 w1 b1).mono fun e W' ⟨he, bel⟩ => ?_
  subst he
  exact ⟨_, rfl, _, _, _, [], _, [], hW', trodAll_mk1 (shut_bool Try.underlying4 _), (trodAll_cons_mk (Below.trod laidOut (by kernel_rfl) (of_decide_eq_true (by kernel_rfl)) k0 bel lt0) (trodAll_cons_mk (Below.trod laidOut (by kernel_rfl) (of_decide_eq_true (by kernel_rfl)) k1 bel lt1) trodAll_mk0)), rfl, bel.frame _, fun h => by cases h⟩

set_option maxRecDepth 100000 in
theorem lifted (os : Os) (started : os.Started) (H : Type) (enc : TypeId × Value → H) :
    ReturnsInHanded {} Try.checked os 4 .any (Rows.leaseTrustsSpec.pre6 enc Try.prog Try.f4 Rows.leaseTrustsRow.domain false) (Rows.leaseTrustsSpec.post enc Try.prog Try.f4 false true false false) := by
  refine returnsInHanded_of_change_sized (C := Try.checked) own started (by kernel_rfl) Try.func4
    (ChangeSpec.witness6 (enc := enc) (C := Try.checked) false ⟨#[], #[.int .i64 0, .slice none 0 0], []⟩ 8 (by kernel_rfl) (by kernel_rfl) (by kernel_rfl) (by kernel_rfl)) ?_
  intro W base args ds gs before hval0 hW hcnd hsz _
  exact contract H enc W base args ds gs before hval0 hW hsz

theorem proved : Rows.LeaseTrustsSaid :=
  OpenClaim.holds_of_wide 4 Try.f4 rfl rfl rfl rfl rfl rfl rfl ⟨rfl, rfl, rfl, rfl, rfl⟩ rfl rfl rfl rfl rfl (by kernel_rfl) Try.func4 (by kernel_rfl)
    (of_decide_eq_true (by kernel_rfl)) (by unfold Func.isWrapper; first | (rw [if_pos (by decide +kernel)]; kernel_rfl) | (rw [if_neg (by decide +kernel)]; exact ⟨rfl, rfl⟩))
    (fun os started H enc _ => lifted os started H enc)
end Go.Proofs.Ytgbblegcjladaaa.leaseTrusts
