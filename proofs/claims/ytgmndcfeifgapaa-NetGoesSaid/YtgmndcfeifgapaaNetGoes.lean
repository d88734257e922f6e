/- The law NetGoes returns true for every list of calls: whatever is done, a net answers, and is, just what the document says, and the chapter's example holds. No condition. -/
import Derived.Test.YtgmndcfeifgapaaRd
import Derived.Test.YtgmndcfeifgapaaNtF
namespace Go.Proofs.Ytgmndcfeifgapaa.netGoes
open Go.ChangeShapes Go.WideShapes Go.ChangeAt Go.RowKit
open Go.ChangeMaps (open_string shut_string)
set_option linter.unusedVariables false

theorem own : ownKnob Try.prog.godebug = none := by kernel_rfl
theorem laidOut : laidOutB Try.prog = true := by kernel_rfl

set_option linter.unusedSimpArgs false
theorem bsz {B : Nat} {a w : World} (h : Below B a w) (e : a.heap.size = B) : B ≤ w.heap.size := e ▸ h.size
theorem op_cells {w : World} {b off k : Nat} {x : NOp} (h : ∀ j u, (opC x)[j]? = some u → w.cell? ⟨b, off + (k * 5 + j), none⟩ = some u) :
    w.cell? ⟨b, off + k * 5, none⟩ = some (.int .i64 x.kind) ∧ w.cell? ⟨b, off + k * 5 + 1, none⟩ = some (.int .i64 x.i) ∧ w.cell? ⟨b, off + k * 5 + 2, none⟩ = some (.int .i64 x.l.src) ∧ w.cell? ⟨b, off + k * 5 + 3, none⟩ = some (.int .i64 x.l.dst) ∧ w.cell? ⟨b, off + k * 5 + 4, none⟩ = some (.string x.l.bytes) := by
  have h0 := h 0 _ rfl; have h1 := h 1 _ rfl; have h2 := h 2 _ rfl; have h3 := h 3 _ rfl; have h4 := h 4 _ rfl
  simp only [← Nat.add_assoc, Nat.add_zero] at h0 h1 h2 h3 h4
  exact ⟨h0, h1, h2, h3, h4⟩
set_option maxRecDepth 100000 in
set_option maxHeartbeats 8000000 in
theorem walk (v0 : Value) (x0 : (List NOp)) (w : World) (w0 : IsNOps w v0 x0) (b0 : IsNOps.fits x0) :
    Calls Try.prog 3 #[v0] w fun e w' => e = .returned (.bool true) ∧ Below w.heap.size w w' := by
  have HW := Lib.hid w0.1
  clear b0
  go_enter Try.func3, Try.ntmps3
  go_wp2_with fail
  refine (Nt.live_any _).mono ?_
  rintro e w1 ⟨rfl, hb1⟩
  have HB1 := Lib.hid hb1
  clear hb1
  go_wp2_with fail
  refine (Nt.new_any _).mono ?_
  rintro e w2 ⟨rfl, hn, hb2⟩
  obtain ⟨B, hB⟩ : ∃ q, w1.heap.size = q := ⟨_, rfl⟩
  rw [hB] at hn hb2 ⊢
  have HBZ := Lib.hid hB
  have HN2 := Lib.hid hn
  have HB2 := Lib.hid hb2
  obtain ⟨W3, hW3⟩ : ∃ q, w2.alloc (.cells #[.slice none 0 0] 29) = q := ⟨_, rfl⟩
  have hb3 : Below w2.heap.size w2 W3 := by rw [← hW3]; exact (Below.refl _ _).alloc (Nat.le_refl _) _
  obtain ⟨gx, hgx⟩ : ∃ q, w2.heap.size = q := ⟨_, rfl⟩
  have HX3 : Hid (Nt.NetR W3 B gx (.slice none 0 0) []) := Lib.hid ⟨by rw [← hW3, ← hgx]; exact heap_alloc_new _ _, OwnR.nil _ _ _, by rw [← hgx]; exact bsz hb2 hB⟩
  have HN3 := Lib.hid (hn.below hb3)
  have HB3 : Hid (Below B w1 W3) := Lib.hid (hb2.trans (hb3.mono (bsz hb2 hB)))
  clear hn hb2 hb3
  obtain ⟨a, cap, e0, h1, h2, -⟩ := id w0.1
  subst e0
  by_cases hl : 300 < x0.length
  · have hli : (300 : Int) < (x0.length : Int) := by omega
    clear w0
    go_wp2
    go_ret
    exact ⟨rfl, HB1.out.trans (HB3.out.mono (by rw [← HBZ.out]; exact HB1.out.size))⟩
  have hli : ¬ (300 : Int) < (x0.length : Int) := by omega
  clear w0
  go_wp2_with fail
  clear hW3
  go_loopw [4, 32] (fun n i wr => ∃ (k p : Nat) (v u : Value) (ls : List Letr), k ≤ x0.length ∧ i = .int .i64 (k : Int) ∧ n = .pointer (some ⟨p, 0, none⟩) ∧ Hid (Nt.NetN wr B p v ls ∧ Nt.NetR wr B gx u ls ∧ Nt.okL ls ∧ Below B w1 wr)) (fun _ i _ => x0.length - (intOf i).toNat)
  case atStart => exact ⟨0, _, _, _, [], Nat.zero_le _, rfl, rfl, Lib.hid ⟨HN3.out, HX3.out, Nt.okL.nil, HB3.out⟩⟩
  case round =>
    clear HN3 HX3 HB3
    obtain ⟨k, p, v, u, ls, hk, rfl, rfl, HR⟩ := hrel
    by_cases hlt : k < x0.length
    · have hlti : (k : Int) < (x0.length : Int) := by omega
      obtain ⟨b, off, cp, e1, -, -, -, -, hcs⟩ : ∃ b off cp, Value.slice a x0.length cap = .slice (some ⟨b, off, none⟩) x0.length cp ∧ 0 < x0.length ∧ x0.length ≤ cp ∧ cp ≤ 9223372036854775807 ∧ b < w.heap.size ∧ ∀ i x, x0[i]? = some x → ∀ j u, (opC x)[j]? = some u → w.cell? ⟨b, off + (i * 5 + j), none⟩ = some u := by
        rcases SlR.cases HW.out with ⟨a2, c2, e, hnil⟩ | h
        · rw [hnil] at hlt; simp at hlt
        · exact h
      simp only [Value.slice.injEq] at e1
      obtain ⟨rfl, -, rfl⟩ := e1
      obtain ⟨x, hx⟩ : ∃ x, x0[k]? = some x := ⟨_, List.getElem?_eq_getElem hlt⟩
      have hcl : ∀ {ad : Addr} {q : Value}, w.cell? ad = some q → wr.cell? ad = some q := fun {ad q} h => by
        have hlt := World.block_lt_of_cell? _ _ h
        unfold World.cell? at h ⊢
        rw [HR.out.2.2.2.block _ (by have := HB1.out.size; have := HBZ.out; omega), HB1.out.block _ hlt]
        exact h
      obtain ⟨q0, q1, q2, q3, q4⟩ := op_cells (w := wr) (fun j u hu => hcl (hcs k x hx j u hu))
      have hoffk : off + k * 5 + 5 ≤ off + k * 5 + 5 := Nat.le_refl _
      obtain ⟨W0, hW0⟩ : ∃ q, wr.alloc (.cells #[.int .i64 x.kind, .int .i64 x.i, .int .i64 x.l.src, .int .i64 x.l.dst, .string x.l.bytes] 33) = q := ⟨_, rfl⟩
      have hb0 : Below wr.heap.size wr W0 := by rw [← hW0]; exact (Below.refl _ _).alloc (Nat.le_refl _) _
      obtain ⟨ob, hob⟩ : ∃ q, wr.heap.size = q := ⟨_, rfl⟩
      have HQW : Hid (W0.heap[ob]? = some (.cells #[.int .i64 x.kind, .int .i64 x.i, .int .i64 x.l.src, .int .i64 x.l.dst, .string x.l.bytes] 33 (0, 0))) := Lib.hid (by rw [← hW0, ← hob]; exact heap_alloc_new _ _)
      have HNW := Lib.hid (HR.out.1.below hb0)
      have HXW := Lib.hid (HR.out.2.1.below hb0)
      have HOK := Lib.hid HR.out.2.2.1
      have HBW := Lib.hid (HR.out.2.2.2.trans (hb0.mono (bsz HR.out.2.2.2 HBZ.out)))
      have HSW : Hid (B ≤ W0.heap.size) := Lib.hid (bsz HBW.out HBZ.out)
      have HOB : Hid (ob ≠ p ∧ ob ≠ gx) := Lib.hid (by have := row_lt HR.out.1.1; have := row_lt HR.out.2.1.1; omega)
      have ck0 : W0.cell? ⟨ob, 0, none⟩ = some (.int .i64 x.kind) := (cell_of_row W0 _ 0 _ _ _ HQW.out).trans rfl
      have ck1 : W0.cell? ⟨ob, 1, none⟩ = some (.int .i64 x.i) := (cell_of_row W0 _ 1 _ _ _ HQW.out).trans rfl
      clear hcs hcl hb0 HR hx
      go_upto_region 10 with fail
      clear hW0 q0 q1 q2 q3 q4
      have HND := Lib.hid (HNW.out.below (w' := W0.drew) ((Below.refl W0.heap.size W0).drew))
      rcases Decidable.em (x.kind = 0) with g0 | g0
      · have d0 : (x.kind == 0) = true := by rw [g0]; rfl
        have HN0 : Hid (Nt.NetN W0.drew B p v ls) := HND
        have HX0 : Hid (Nt.NetR W0.drew B gx u ls) := Lib.hid (HXW.out.below ((Below.refl W0.heap.size W0).drew))
        have HQ0 : Hid (W0.drew.heap[ob]? = some (.cells #[.int .i64 x.kind, .int .i64 x.i, .int .i64 x.l.src, .int .i64 x.l.dst, .string x.l.bytes] 33 (0, 0))) := Lib.hid HQW.out
        have HB0 : Hid (Below B w1 W0.drew) := Lib.hid HBW.out.drew
        have HS0 : Hid (B ≤ W0.drew.heap.size) := Lib.hid HSW.out
        clear g0
        go_upto_region 12 with fail
        refine Wl.start 999 (fun _ => True) (fun u => u.heap[ob]? = some (.cells #[.int .i64 x.kind, .int .i64 x.i, .int .i64 x.l.src, .int .i64 x.l.dst, .string x.l.bytes] 33 (0, 0))) (by kernel_rfl) trivial HQ0.out (fun hk => ?_)
        refine Wl.take0 (i := 0) (v := .pointer (some ⟨p, 0, none⟩)) rfl (by kernel_rfl) (by kernel_rfl) (by kernel_rfl) (by kernel_rfl) (fun _ _ _ h => h) (.inl ⟨by kernel_rfl, ?_⟩) hk ?_
        · intro wx hSw
          clear hSw hk
          go_simp
          try first | with_reducible rfl | kernel_rfl
        simp only [Act.put, List.getElem_toArray, List.getElem_cons_succ, List.getElem_cons_zero, List.setIfInBounds_toArray, List.set_cons_succ, List.set_cons_zero]
        refine Wl.take0 (i := 1) (v := .pointer (some ⟨ob, 2, none⟩)) rfl (by kernel_rfl) (by kernel_rfl) (by kernel_rfl) (by kernel_rfl) (fun _ _ _ h => h) (.inl ⟨by kernel_rfl, ?_⟩) hk ?_
        · intro wx hSw
          clear hSw hk
          go_simp
          try first | with_reducible rfl | kernel_rfl
        simp only [Act.put, List.getElem_toArray, List.getElem_cons_succ, List.getElem_cons_zero, List.setIfInBounds_toArray, List.set_cons_succ, List.set_cons_zero]
        refine Wl.take0 (i := 2) (v := .agg #[.int .i64 x.l.src, .int .i64 x.l.dst, .string x.l.bytes]) rfl (by kernel_rfl) (by kernel_rfl) (by kernel_rfl) (by kernel_rfl) (fun _ _ _ h => h) (yieldsIf_load_mid (by rfl) _ _ rfl _ _ rfl (letC x.l) _ (fun w h => (fun j v hv => by have := Wl.rng_of_row h (j + 2) v (by simpa using hv); rw [Nat.zero_add] at this; rw [Nat.add_comm 2 j]; exact this)) Try.underlying31 rfl (by kernel_rfl)) hk ?_
        simp only [Act.put, List.getElem_toArray, List.getElem_cons_succ, List.getElem_cons_zero, List.setIfInBounds_toArray, List.set_cons_succ, List.set_cons_zero]
        refine Wl.take0 (i := 4) (v := .pointer (some ⟨gx, 0, none⟩)) rfl (by kernel_rfl) (by kernel_rfl) (by kernel_rfl) (by kernel_rfl) (fun _ _ _ h => h) (.inl ⟨by kernel_rfl, ?_⟩) hk ?_
        · intro wx hSw
          clear hSw hk
          go_simp
          try first | with_reducible rfl | kernel_rfl
        simp only [Act.put, List.getElem_toArray, List.getElem_cons_succ, List.getElem_cons_zero, List.setIfInBounds_toArray, List.set_cons_succ, List.set_cons_zero]
        refine Wl.take0 (i := 5) (v := .pointer (some ⟨ob, 2, none⟩)) rfl (by kernel_rfl) (by kernel_rfl) (by kernel_rfl) (by kernel_rfl) (fun _ _ _ h => h) (.inl ⟨by kernel_rfl, ?_⟩) hk ?_
        · intro wx hSw
          clear hSw hk
          go_simp
          try first | with_reducible rfl | kernel_rfl
        simp only [Act.put, List.getElem_toArray, List.getElem_cons_succ, List.getElem_cons_zero, List.setIfInBounds_toArray, List.set_cons_succ, List.set_cons_zero]
        refine Wl.take0 (i := 6) (v := .agg #[.int .i64 x.l.src, .int .i64 x.l.dst, .string x.l.bytes]) rfl (by kernel_rfl) (by kernel_rfl) (by kernel_rfl) (by kernel_rfl) (fun _ _ _ h => h) (yieldsIf_load_mid (by rfl) _ _ rfl _ _ rfl (letC x.l) _ (fun w h => (fun j v hv => by have := Wl.rng_of_row h (j + 2) v (by simpa using hv); rw [Nat.zero_add] at this; rw [Nat.add_comm 2 j]; exact this)) Try.underlying31 rfl (by kernel_rfl)) hk ?_
        simp only [Act.put, List.getElem_toArray, List.getElem_cons_succ, List.getElem_cons_zero, List.setIfInBounds_toArray, List.set_cons_succ, List.set_cons_zero]
        refine Wl.one (i := 3) (by kernel_rfl) rfl (fun K hK => ?_)
        go_simp
        refine (Nt.send_any x.l _ HN0.out HS0.out (by have := HOK.out.1; omega)).mono ?_
        rintro e w5 ⟨rfl, v5, hn, ho, -⟩
        have HX5 := Lib.hid (Nt.NetAt.far HX0.out HN0.out ho (by decide) (by decide) (by decide) (by decide))
        have HN5 := Lib.hid hn
        have HB5 : Hid (Below B w1 w5) := Lib.hid (ho.below HB0.out HS0.out (fun k hk => by rcases hk with rfl | hk; exact HN0.out.2.2; exact (World.ownsRow.lt HN0.out.2.1 k hk).1))
        have HQ5 : Hid (w5.heap[ob]? = some (.cells #[.int .i64 x.kind, .int .i64 x.i, .int .i64 x.l.src, .int .i64 x.l.dst, .string x.l.bytes] 33 (0, 0))) := Lib.hid ((ho.2.2.2.2 _ (row_lt HQ0.out) (fun hk => by rcases hk with e | hk; exact HOB.out.1 e; exact own_ty HN0.out.2.1 HQ0.out (by decide) _ hk rfl)).trans HQ0.out)
        have HS5 : Hid (B ≤ w5.heap.size) := Lib.hid (bsz HB5.out HBZ.out)
        clear hn ho
        refine hK.out _ _ (Wl.Kn.on trivial HQ5.out) (fun hk => ?_)
        clear hK K
        refine Wl.one (i := 7) (by kernel_rfl) rfl (fun K hK => ?_)
        go_simp
        refine (Nt.rsend_any x.l _ HX5.out HS5.out (by have := HOK.out.1; omega)).mono ?_
        rintro e w6 ⟨rfl, u6, hn, ho, -⟩
        have HN6 := Lib.hid (Nt.NetAt.far HN5.out HX5.out ho (by decide) (by decide) (by decide) (by decide))
        have HX6 := Lib.hid hn
        have HB6 : Hid (Below B w1 w6) := Lib.hid (ho.below HB5.out HS5.out (fun k hk => by rcases hk with rfl | hk; exact HX5.out.2.2; exact (World.ownsRow.lt HX5.out.2.1 k hk).1))
        have HQ6 : Hid (w6.heap[ob]? = some (.cells #[.int .i64 x.kind, .int .i64 x.i, .int .i64 x.l.src, .int .i64 x.l.dst, .string x.l.bytes] 33 (0, 0))) := Lib.hid ((ho.2.2.2.2 _ (row_lt HQ5.out) (fun hk => by rcases hk with e | hk; exact HOB.out.2 e; exact own_ty HX5.out.2.1 HQ5.out (by decide) _ hk rfl)).trans HQ5.out)
        clear hn ho
        refine hK.out _ _ (Wl.Kn.on trivial HQ6.out) (fun hk => ?_)
        clear hK K
        refine Wl.take0 (i := 8) (v := .bool true) rfl (by kernel_rfl) (by kernel_rfl) (by kernel_rfl) (by kernel_rfl) (fun _ _ _ h => h) (.inl ⟨by kernel_rfl, ?_⟩) hk ?_
        · intro wx hSw
          clear hSw hk
          go_simp
          try first | with_reducible rfl | kernel_rfl
        simp only [Act.put, List.getElem_toArray, List.getElem_cons_succ, List.getElem_cons_zero, List.setIfInBounds_toArray, List.set_cons_succ, List.set_cons_zero]
        refine Wl.take0 (i := 9) (v := .bool true) rfl (by kernel_rfl) (by kernel_rfl) (by kernel_rfl) (by kernel_rfl) (fun _ _ _ h => h) (.inl ⟨by kernel_rfl, ?_⟩) hk ?_
        · intro wx hSw
          clear hSw hk
          go_simp
          try first | with_reducible rfl | kernel_rfl
        simp only [Act.put, List.getElem_toArray, List.getElem_cons_succ, List.getElem_cons_zero, List.setIfInBounds_toArray, List.set_cons_succ, List.set_cons_zero]
        refine Wl.done (by kernel_rfl) ?_ _
        clear hk
        go_wp2_with fail
        refine (Nt.same_any _ HN6.out HX6.out (Nt.okL.send (x := x.l) HOK.out).1).mono ?_
        rintro e w9 ⟨rfl, hb⟩
        have HN9 := Lib.hid (Nt.NetAt.below HN6.out hb)
        have HX9 := Lib.hid (Nt.NetAt.below HX6.out hb)
        have HO9 := Lib.hid (Nt.okL.send (x := x.l) HOK.out)
        have HB9 := Lib.hid (HB6.out.trans (hb.mono (bsz HB6.out HBZ.out)))
        clear hb
        go_wp2_with fail
        go_roundw
        case rel => exact ⟨k + 1, _, _, _, _, by omega, by go_num, rfl, Lib.hid ⟨HN9.out, HX9.out, HO9.out, HB9.out⟩⟩
        case measure => simp [intOf]; omega
      rcases Decidable.em (x.kind = 1) with g1 | g1
      · have d0 : (x.kind == 0) = false := by rw [g1]; rfl
        have d1 : (x.kind == 1) = true := by rw [g1]; rfl
        clear g0 g1
        go_wp2_with fail
        refine (Nt.take_any x.i _ HNW.out (by have := HOK.out.1; omega)).mono ?_
        rintro e w5 ⟨rfl, v5, hn, ho, -⟩
        have HX5 := Lib.hid (Nt.NetAt.far HXW.out HNW.out ho (by decide) (by decide) (by decide) (by decide))
        have HN5 := Lib.hid hn
        have HB5 : Hid (Below B w1 w5) := Lib.hid (ho.below HBW.out HSW.out (fun k hk => by rcases hk with rfl | hk; exact HNW.out.2.2; exact (World.ownsRow.lt HNW.out.2.1 k hk).1))
        have HQ5 : Hid (w5.heap[ob]? = some (.cells #[.int .i64 x.kind, .int .i64 x.i, .int .i64 x.l.src, .int .i64 x.l.dst, .string x.l.bytes] 33 (0, 0))) := Lib.hid ((ho.2.2.2.2 _ (row_lt HQW.out) (fun hk => by rcases hk with e | hk; exact HOB.out.1 e; exact own_ty HNW.out.2.1 HQW.out (by decide) _ hk rfl)).trans HQW.out)
        obtain ⟨y, hy⟩ : ∃ y, Nt.takeX ls x.i = y := ⟨_, rfl⟩
        obtain ⟨te, hte⟩ : ∃ y, Nt.takeE ls x.i = y := ⟨_, rfl⟩
        rw [hy, hte]
        have HY := Lib.hid hy
        have HTE := Lib.hid hte
        obtain ⟨W5, hW5⟩ : ∃ q, w5.alloc (.cells #[.int .i64 y.src, .int .i64 y.dst, .string y.bytes] 31) = q := ⟨_, rfl⟩
        have hb5 : Below w5.heap.size w5 W5 := by rw [← hW5]; exact (Below.refl _ _).alloc (Nat.le_refl _) _
        have HL5 : Hid (W5.heap[w5.heap.size]? = some (.cells #[.int .i64 y.src, .int .i64 y.dst, .string y.bytes] 31 (0, 0))) := Lib.hid (by rw [← hW5]; exact heap_alloc_new _ _)
        have HN5a := Lib.hid (HN5.out.below hb5)
        have HX5a := Lib.hid (HX5.out.below hb5)
        have HB5a := Lib.hid (HB5.out.trans (hb5.mono (bsz HB5.out HBZ.out)))
        have ck5 : W5.cell? ⟨ob, 1, none⟩ = some (.int .i64 x.i) := (cell_of_row W5 _ 1 _ _ _ ((hb5.block _ (row_lt HQ5.out)).trans HQ5.out)).trans rfl
        clear hn ho hb5 hy hte ck0 ck1
        go_wp2_with fail
        clear hW5
        refine (Nt.rtake_any x.i _ HX5a.out (bsz HB5a.out HBZ.out) (by have := HOK.out.1; omega)).mono ?_
        rintro e w6 ⟨rfl, u6, hn, ho, -⟩
        rw [HY.out, HTE.out]
        have HN6 := Lib.hid (Nt.NetAt.far HN5a.out HX5a.out ho (by decide) (by decide) (by decide) (by decide))
        have HX6 := Lib.hid hn
        have HB6 : Hid (Below B w1 w6) := Lib.hid (ho.below HB5a.out (bsz HB5a.out HBZ.out) (fun k hk => by rcases hk with rfl | hk; exact HX5a.out.2.2; exact (World.ownsRow.lt HX5a.out.2.1 k hk).1))
        have hne5 : w5.heap.size ≠ gx := by have := row_lt HX5.out.1; omega
        have hl6 : w6.heap[w5.heap.size]? = some (.cells #[.int .i64 y.src, .int .i64 y.dst, .string y.bytes] 31 (0, 0)) := (ho.2.2.2.2 _ (row_lt HL5.out) (fun hk => by rcases hk with e | hk; exact hne5 e; exact own_ty HX5a.out.2.1 HL5.out (by decide) _ hk rfl)).trans HL5.out
        obtain ⟨W6, hW6⟩ : ∃ q, w6.alloc (.cells #[.int .i64 y.src, .int .i64 y.dst, .string y.bytes] 37) = q := ⟨_, rfl⟩
        have hb6 : Below w6.heap.size w6 W6 := by rw [← hW6]; exact (Below.refl _ _).alloc (Nat.le_refl _) _
        have hr6 : W6.heap[w6.heap.size]? = some (.cells #[.int .i64 y.src, .int .i64 y.dst, .string y.bytes] 37 (0, 0)) := by rw [← hW6]; exact heap_alloc_new _ _
        have hl7 := (hb6.block _ (row_lt hl6)).trans hl6
        have HN6a := Lib.hid (HN6.out.below hb6)
        have HX6a := Lib.hid (HX6.out.below hb6)
        have HB6a := Lib.hid (HB6.out.trans (hb6.mono (bsz HB6.out HBZ.out)))
        have HOKt := Lib.hid (Nt.okL.take (i := x.i) HOK.out)
        have yl0 := (cell_of_row W6 _ 0 _ _ _ hl7).trans rfl
        have yl1 := (cell_of_row W6 _ 1 _ _ _ hl7).trans rfl
        have yl2 := (cell_of_row W6 _ 2 _ _ _ hl7).trans rfl
        have yr0 := (cell_of_row W6 _ 0 _ _ _ hr6).trans rfl
        have yr1 := (cell_of_row W6 _ 1 _ _ _ hr6).trans rfl
        have yr2 := (cell_of_row W6 _ 2 _ _ _ hr6).trans rfl
        clear hn ho hb6 ck5 hl6 hl7 hr6 hne5
        go_wp2_with fail
        clear hW6
        refine (Nt.same_any _ HN6a.out HX6a.out HOKt.out.1).mono ?_
        rintro e w9 ⟨rfl, hb⟩
        have HN9 := Lib.hid (Nt.NetAt.below HN6a.out hb)
        have HX9 := Lib.hid (Nt.NetAt.below HX6a.out hb)
        have HO9 := Lib.hid HOKt.out
        have HB9 := Lib.hid (HB6a.out.trans (hb.mono (bsz HB6a.out HBZ.out)))
        clear hb
        go_wp2_with fail
        go_roundw
        case rel => exact ⟨k + 1, _, _, _, _, by omega, by go_num, rfl, Lib.hid ⟨HN9.out, HX9.out, HO9.out, HB9.out⟩⟩
        case measure => simp [intOf]; omega
      rcases Decidable.em (x.kind = 2) with g2 | g2
      · have d0 : (x.kind == 0) = false := by rw [g2]; rfl
        have d1 : (x.kind == 1) = false := by rw [g2]; rfl
        have d2 : (x.kind == 2) = true := by rw [g2]; rfl
        have HN0 : Hid (Nt.NetN W0.drew B p v ls) := HND
        have HX0 : Hid (Nt.NetR W0.drew B gx u ls) := Lib.hid (HXW.out.below ((Below.refl W0.heap.size W0).drew))
        have HQ0 : Hid (W0.drew.heap[ob]? = some (.cells #[.int .i64 x.kind, .int .i64 x.i, .int .i64 x.l.src, .int .i64 x.l.dst, .string x.l.bytes] 33 (0, 0))) := Lib.hid HQW.out
        have HB0 : Hid (Below B w1 W0.drew) := Lib.hid HBW.out.drew
        have HS0 : Hid (B ≤ W0.drew.heap.size) := Lib.hid HSW.out
        clear g0 g1 g2
        go_upto_region 18 with fail
        refine Wl.start 999 (fun _ => True) (fun u => u.heap[ob]? = some (.cells #[.int .i64 x.kind, .int .i64 x.i, .int .i64 x.l.src, .int .i64 x.l.dst, .string x.l.bytes] 33 (0, 0))) (by kernel_rfl) trivial HQ0.out (fun hk => ?_)
        refine Wl.take0 (i := 0) (v := .pointer (some ⟨p, 0, none⟩)) rfl (by kernel_rfl) (by kernel_rfl) (by kernel_rfl) (by kernel_rfl) (fun _ _ _ h => h) (.inl ⟨by kernel_rfl, ?_⟩) hk ?_
        · intro wx hSw
          clear hSw hk
          go_simp
          try first | with_reducible rfl | kernel_rfl
        simp only [Act.put, List.getElem_toArray, List.getElem_cons_succ, List.getElem_cons_zero, List.setIfInBounds_toArray, List.set_cons_succ, List.set_cons_zero]
        refine Wl.take0 (i := 1) (v := .pointer (some ⟨ob, 1, none⟩)) rfl (by kernel_rfl) (by kernel_rfl) (by kernel_rfl) (by kernel_rfl) (fun _ _ _ h => h) (.inl ⟨by kernel_rfl, ?_⟩) hk ?_
        · intro wx hSw
          clear hSw hk
          go_simp
          try first | with_reducible rfl | kernel_rfl
        simp only [Act.put, List.getElem_toArray, List.getElem_cons_succ, List.getElem_cons_zero, List.setIfInBounds_toArray, List.set_cons_succ, List.set_cons_zero]
        refine Wl.take0 (i := 2) (v := .int .i64 x.i) rfl (by kernel_rfl) (by kernel_rfl) (by kernel_rfl) (by kernel_rfl) (fun _ _ _ h => h) (.inl ⟨by kernel_rfl, ?_⟩) hk ?_
        · intro wx hSw
          have cc := (cell_of_row wx _ 1 _ _ _ hSw).trans rfl
          clear hSw hk
          go_simp
          try first | with_reducible rfl | kernel_rfl
        simp only [Act.put, List.getElem_toArray, List.getElem_cons_succ, List.getElem_cons_zero, List.setIfInBounds_toArray, List.set_cons_succ, List.set_cons_zero]
        refine Wl.take0 (i := 4) (v := .pointer (some ⟨gx, 0, none⟩)) rfl (by kernel_rfl) (by kernel_rfl) (by kernel_rfl) (by kernel_rfl) (fun _ _ _ h => h) (.inl ⟨by kernel_rfl, ?_⟩) hk ?_
        · intro wx hSw
          clear hSw hk
          go_simp
          try first | with_reducible rfl | kernel_rfl
        simp only [Act.put, List.getElem_toArray, List.getElem_cons_succ, List.getElem_cons_zero, List.setIfInBounds_toArray, List.set_cons_succ, List.set_cons_zero]
        refine Wl.take0 (i := 5) (v := .pointer (some ⟨ob, 1, none⟩)) rfl (by kernel_rfl) (by kernel_rfl) (by kernel_rfl) (by kernel_rfl) (fun _ _ _ h => h) (.inl ⟨by kernel_rfl, ?_⟩) hk ?_
        · intro wx hSw
          clear hSw hk
          go_simp
          try first | with_reducible rfl | kernel_rfl
        simp only [Act.put, List.getElem_toArray, List.getElem_cons_succ, List.getElem_cons_zero, List.setIfInBounds_toArray, List.set_cons_succ, List.set_cons_zero]
        refine Wl.take0 (i := 6) (v := .int .i64 x.i) rfl (by kernel_rfl) (by kernel_rfl) (by kernel_rfl) (by kernel_rfl) (fun _ _ _ h => h) (.inl ⟨by kernel_rfl, ?_⟩) hk ?_
        · intro wx hSw
          have cc := (cell_of_row wx _ 1 _ _ _ hSw).trans rfl
          clear hSw hk
          go_simp
          try first | with_reducible rfl | kernel_rfl
        simp only [Act.put, List.getElem_toArray, List.getElem_cons_succ, List.getElem_cons_zero, List.setIfInBounds_toArray, List.set_cons_succ, List.set_cons_zero]
        refine Wl.one (i := 3) (by kernel_rfl) rfl (fun K hK => ?_)
        go_simp
        refine (Nt.double_any x.i _ HN0.out HS0.out (by have := HOK.out.1; omega)).mono ?_
        rintro e w5 ⟨rfl, v5, hn, ho, -⟩
        have HX5 := Lib.hid (Nt.NetAt.far HX0.out HN0.out ho (by decide) (by decide) (by decide) (by decide))
        have HN5 := Lib.hid hn
        have HB5 : Hid (Below B w1 w5) := Lib.hid (ho.below HB0.out HS0.out (fun k hk => by rcases hk with rfl | hk; exact HN0.out.2.2; exact (World.ownsRow.lt HN0.out.2.1 k hk).1))
        have HQ5 : Hid (w5.heap[ob]? = some (.cells #[.int .i64 x.kind, .int .i64 x.i, .int .i64 x.l.src, .int .i64 x.l.dst, .string x.l.bytes] 33 (0, 0))) := Lib.hid ((ho.2.2.2.2 _ (row_lt HQ0.out) (fun hk => by rcases hk with e | hk; exact HOB.out.1 e; exact own_ty HN0.out.2.1 HQ0.out (by decide) _ hk rfl)).trans HQ0.out)
        have HS5 : Hid (B ≤ w5.heap.size) := Lib.hid (bsz HB5.out HBZ.out)
        clear hn ho
        refine hK.out _ _ (Wl.Kn.on trivial HQ5.out) (fun hk => ?_)
        clear hK K
        refine Wl.one (i := 7) (by kernel_rfl) rfl (fun K hK => ?_)
        go_simp
        refine (Nt.rdouble_any x.i _ HX5.out HS5.out HOK.out).mono ?_
        rintro e w6 ⟨rfl, u6, hn, ho, -⟩
        have HN6 := Lib.hid (Nt.NetAt.far HN5.out HX5.out ho (by decide) (by decide) (by decide) (by decide))
        have HX6 := Lib.hid hn
        have HB6 : Hid (Below B w1 w6) := Lib.hid (ho.below HB5.out HS5.out (fun k hk => by rcases hk with rfl | hk; exact HX5.out.2.2; exact (World.ownsRow.lt HX5.out.2.1 k hk).1))
        have HQ6 : Hid (w6.heap[ob]? = some (.cells #[.int .i64 x.kind, .int .i64 x.i, .int .i64 x.l.src, .int .i64 x.l.dst, .string x.l.bytes] 33 (0, 0))) := Lib.hid ((ho.2.2.2.2 _ (row_lt HQ5.out) (fun hk => by rcases hk with e | hk; exact HOB.out.2 e; exact own_ty HX5.out.2.1 HQ5.out (by decide) _ hk rfl)).trans HQ5.out)
        clear hn ho
        refine hK.out _ _ (Wl.Kn.on trivial HQ6.out) (fun hk => ?_)
        clear hK K
        refine Wl.take0 (i := 8) (v := .bool true) rfl (by kernel_rfl) (by kernel_rfl) (by kernel_rfl) (by kernel_rfl) (fun _ _ _ h => h) (.inl ⟨by kernel_rfl, ?_⟩) hk ?_
        · intro wx hSw
          clear hSw hk
          go_simp
          try first | with_reducible rfl | kernel_rfl
        simp only [Act.put, List.getElem_toArray, List.getElem_cons_succ, List.getElem_cons_zero, List.setIfInBounds_toArray, List.set_cons_succ, List.set_cons_zero]
        refine Wl.take0 (i := 9) (v := .bool true) rfl (by kernel_rfl) (by kernel_rfl) (by kernel_rfl) (by kernel_rfl) (fun _ _ _ h => h) (.inl ⟨by kernel_rfl, ?_⟩) hk ?_
        · intro wx hSw
          clear hSw hk
          go_simp
          try first | with_reducible rfl | kernel_rfl
        simp only [Act.put, List.getElem_toArray, List.getElem_cons_succ, List.getElem_cons_zero, List.setIfInBounds_toArray, List.set_cons_succ, List.set_cons_zero]
        refine Wl.done (by kernel_rfl) ?_ _
        clear hk
        go_wp2_with fail
        refine (Nt.same_any _ HN6.out HX6.out (Nt.okL.dbl (i := x.i) HOK.out).1).mono ?_
        rintro e w9 ⟨rfl, hb⟩
        have HN9 := Lib.hid (Nt.NetAt.below HN6.out hb)
        have HX9 := Lib.hid (Nt.NetAt.below HX6.out hb)
        have HO9 := Lib.hid (Nt.okL.dbl (i := x.i) HOK.out)
        have HB9 := Lib.hid (HB6.out.trans (hb.mono (bsz HB6.out HBZ.out)))
        clear hb
        go_wp2_with fail
        go_roundw
        case rel => exact ⟨k + 1, _, _, _, _, by omega, by go_num, rfl, Lib.hid ⟨HN9.out, HX9.out, HO9.out, HB9.out⟩⟩
        case measure => simp [intOf]; omega
      rcases Decidable.em (x.kind = 3) with g3 | g3
      · have d0 : (x.kind == 0) = false := by rw [g3]; rfl
        have d1 : (x.kind == 1) = false := by rw [g3]; rfl
        have d2 : (x.kind == 2) = false := by rw [g3]; rfl
        have d3 : (x.kind == 3) = true := by rw [g3]; rfl
        clear g0 g1 g2 g3
        go_wp2_with fail
        refine (Nt.clone_net _ HNW.out (by have := HOK.out.1; omega)).mono ?_
        rintro e w5 ⟨p5, u5, rfl, hn, hb⟩
        have hzz := HSW.out
        have HN5 := Lib.hid (HNW.out.below hb)
        have HX5 := Lib.hid (HXW.out.below hb)
        have HC5 : Hid (Nt.NetN w5 B p5 u5 ls) := Lib.hid ⟨hn.1, own_up hn.2.1 (fun q hq => Nat.le_trans hzz (World.ownsRow.lt hn.2.1 q hq).1), Nat.le_trans hzz hn.2.2⟩
        have HCF : Hid (W0.heap.size ≤ p5 ∧ ∀ q, u5.ownBlock = some q → W0.heap.size ≤ q) := Lib.hid ⟨hn.2.2, fun q hq => (World.ownsRow.lt hn.2.1 q hq).1⟩
        have HB5 := Lib.hid (HBW.out.trans (hb.mono hzz))
        have HPW : Hid (p < W0.heap.size ∧ ∀ q, v.ownBlock = some q → q < W0.heap.size) := Lib.hid ⟨row_lt HNW.out.1, fun q hq => (World.ownsRow.lt HNW.out.2.1 q hq).2⟩
        clear hn hb hzz
        go_wp2_with fail
        refine (Nt.send_any ⟨1, 2, { data := #[122, 122] }⟩ _ HN5.out (bsz HB5.out HBZ.out) (by have := HOK.out.1; omega)).mono ?_
        rintro e w6 ⟨rfl, v6, hn, ho, hloc⟩
        have HN6 := Lib.hid hn
        have HX6 := Lib.hid (Nt.NetAt.far HX5.out HN5.out ho (by decide) (by decide) (by decide) (by decide))
        have HB6 : Hid (Below B w1 w6) := Lib.hid (ho.below HB5.out (bsz HB5.out HBZ.out) (fun k hk => by rcases hk with rfl | hk; exact HN5.out.2.2; exact (World.ownsRow.lt HN5.out.2.1 k hk).1))
        have HC6 : Hid (Nt.NetN w6 B p5 u5 ls) := Lib.hid (by
          have h1 := HCF.out
          have h2 := HPW.out
          refine ⟨(ho.2.2.2.2 _ (row_lt HC5.out.1) ?_).trans HC5.out.1, own_keep HC5.out.2.1 (fun q hq hl => ho.2.2.2.2 _ hl ?_), HC5.out.2.2⟩
          · rintro (e | e)
            · omega
            · have := h2.2 _ e; omega
          · have := h1.2 q hq
            rintro (e | e)
            · omega
            · have := h2.2 _ e; omega)
        have HLOC : Hid (∀ q, v6.ownBlock = some q → q < W0.heap.size ∨ w5.heap.size ≤ q) := Lib.hid (fun q hq => by
          rcases hloc with e | e
          · rw [e] at hq; exact .inl (HPW.out.2 q hq)
          · exact .inr (e q hq))
        have HCL : Hid (p5 < w5.heap.size ∧ ∀ q, u5.ownBlock = some q → q < w5.heap.size) := Lib.hid ⟨row_lt HC5.out.1, fun q hq => (World.ownsRow.lt HC5.out.2.1 q hq).2⟩
        have hl6 : (Nt.sendL ls ⟨1, 2, { data := #[122, 122] }⟩).length ≤ 1000 := by have := (Nt.okL.send (x := ⟨1, 2, { data := #[122, 122] }⟩) HOK.out).1; omega
        clear hn ho hloc
        go_wp2_with fail
        refine (Nt.take_any 0 _ HN6.out hl6).mono ?_
        rintro e w7 ⟨rfl, v7, hn, ho, -⟩
        have HX7 := Lib.hid (Nt.NetAt.far HX6.out HN6.out ho (by decide) (by decide) (by decide) (by decide))
        have HB7 : Hid (Below B w1 w7) := Lib.hid (ho.below HB6.out (bsz HB6.out HBZ.out) (fun k hk => by rcases hk with rfl | hk; exact HN6.out.2.2; exact (World.ownsRow.lt HN6.out.2.1 k hk).1))
        have HC7 : Hid (Nt.NetN w7 B p5 u5 ls) := Lib.hid (by
          have h1 := HCF.out
          have h2 := HPW.out
          have h3 := HCL.out
          refine ⟨(ho.2.2.2.2 _ (row_lt HC6.out.1) ?_).trans HC6.out.1, own_keep HC6.out.2.1 (fun q hq hl => ho.2.2.2.2 _ hl ?_), HC6.out.2.2⟩
          · rintro (e | e)
            · omega
            · have := HLOC.out _ e; omega
          · have h4 := h1.2 q hq
            have h5 := h3.2 q hq
            rintro (e | e)
            · omega
            · have := HLOC.out _ e; omega)
        clear hn ho hl6
        go_wp2_with fail
        refine (Nt.same_any _ HC7.out HX7.out HOK.out.1).mono ?_
        rintro e w9 ⟨rfl, hb⟩
        have HN9 := Lib.hid (Nt.NetAt.below HC7.out hb)
        have HX9 := Lib.hid (Nt.NetAt.below HX7.out hb)
        have HO9 := Lib.hid HOK.out
        have HB9 := Lib.hid (HB7.out.trans (hb.mono (bsz HB7.out HBZ.out)))
        clear hb
        go_wp2_with fail
        go_roundw
        case rel => exact ⟨k + 1, _, _, _, _, by omega, by go_num, rfl, Lib.hid ⟨HN9.out, HX9.out, HO9.out, HB9.out⟩⟩
        case measure => simp [intOf]; omega
      · have d0 : (x.kind == 0) = false := beq_eq_false_iff_ne.2 g0
        have d1 : (x.kind == 1) = false := beq_eq_false_iff_ne.2 g1
        have d2 : (x.kind == 2) = false := beq_eq_false_iff_ne.2 g2
        have d3 : (x.kind == 3) = false := beq_eq_false_iff_ne.2 g3
        clear g0 g1 g2 g3
        go_wp2_with fail
        refine (Nt.same_any _ HNW.out HXW.out HOK.out.1).mono ?_
        rintro e w9 ⟨rfl, hb⟩
        have HN9 := Lib.hid (Nt.NetAt.below HNW.out hb)
        have HX9 := Lib.hid (Nt.NetAt.below HXW.out hb)
        have HO9 := Lib.hid HOK.out
        have HB9 := Lib.hid (HBW.out.trans (hb.mono (bsz HBW.out HBZ.out)))
        clear hb
        go_wp2_with fail
        go_roundw
        case rel => exact ⟨k + 1, _, _, _, _, by omega, by go_num, rfl, Lib.hid ⟨HN9.out, HX9.out, HO9.out, HB9.out⟩⟩
        case measure => simp [intOf]; omega
    · obtain rfl : k = x0.length := by omega
      go_wp2
      go_ret
      exact ⟨rfl, HB1.out.trans (HR.out.2.2.2.mono (by rw [← HBZ.out]; exact HB1.out.size))⟩

set_option maxRecDepth 100000 in
theorem contract (H : Type) (enc : TypeId × Value → H) (W : World) (base : Nat) (args : Array Value) (ds gs : List (DataW H)) (before : List MemPlace)
    (hval0 : ∀ (j : Nat) t v, Try.f3.params[j]? = some t → args[j]? = some v → Value.okWide Try.prog W .any base t v)
    (hW : DataW.Whole enc Try.prog Try.f3.params.toList Rows.netGoesSpec.vars false W args.toList ds gs before)
    (hsz0 : (DataW.weightsEach Try.prog (Try.f3.params.toList ++ Rows.netGoesSpec.plain.varTypes Try.prog) (ds ++ gs)).all (· ≤ reachBytes) = true) :
    Calls Try.prog 3 args W fun e W' => ∃ v, e = .returned v ∧ Rows.netGoesSpec.post enc Try.prog Try.f3 false true false false W args v W' := by
  have hval : ∀ (j : Nat) t v, Try.f3.params[j]? = some t → args[j]? = some v → Value.okWide Try.prog W .any base t v := hval0
  have hW' := hW
  obtain ⟨p, q, hA0, hV, rfl, hfz, hnd⟩ := hW
  have hA : DataW.TrodAll enc Try.prog W 0 (fun _ => true) true Try.f3.params.toList args.toList ds p := hA0
  rw [Try.params3] at hA hval
  have hsz := hsz0
  rw [Try.params3] at hsz
  obtain ⟨v0, vs0, d0, ds0, p0, q0, hargs, rfl, rfl, h0, r0⟩ := trodAll_cons hA
  obtain ⟨rfl, rfl, rfl⟩ := trodAll_nil r0
  obtain rfl : args = #[v0] := by cases args; simp_all
  obtain ⟨rfl, rfl⟩ := trodVars_none hV
  clear hA0 hval0
  have k0 := h0
  have lt0 : ∀ x ∈ p0, x.block < W.heap.size := by obtain ⟨m, hm⟩ := k0; exact DataW.trod_lt m _ _ _ hm
  obtain ⟨x0, w0, -, s0⟩ := open_nops (hval 0 22 v0 rfl rfl) k0
  have b0 : IsNOps.fits x0 := s0 (wt_arg hsz (j := 0) rfl rfl)
  refine (walk v0 x0 W w0 b0).mono fun e W' ⟨he, bel⟩ => ?_
  subst he
  exact ⟨_, rfl, _, _, _, [], _, [], hW', trodAll_mk1 (shut_bool Try.underlying4 _), (trodAll_cons_mk (Below.trod laidOut (by kernel_rfl) (of_decide_eq_true (by kernel_rfl)) k0 bel lt0) trodAll_mk0), rfl, bel.frame _, fun h => by cases h⟩

set_option maxRecDepth 100000 in
theorem lifted (os : Os) (started : os.Started) (H : Type) (enc : TypeId × Value → H) :
    ReturnsInHanded {} Try.checked os 3 .any (Rows.netGoesSpec.pre6 enc Try.prog Try.f3 Rows.netGoesRow.domain false) (Rows.netGoesSpec.post enc Try.prog Try.f3 false true false false) := by
  refine returnsInHanded_of_change_sized (C := Try.checked) own started (by kernel_rfl) Try.func3
    (ChangeSpec.witness6 (enc := enc) (C := Try.checked) false ⟨#[], #[.slice none 0 0], []⟩ 8 (by kernel_rfl) (by kernel_rfl) (by kernel_rfl) (by kernel_rfl)) ?_
  intro W base args ds gs before hval0 hW hcnd hsz _
  exact contract H enc W base args ds gs before hval0 hW hsz

theorem proved : Rows.NetGoesSaid :=
  OpenClaim.holds_of_wide 3 Try.f3 rfl rfl rfl rfl rfl rfl rfl ⟨rfl, rfl, rfl, rfl, rfl⟩ rfl rfl rfl rfl rfl (by kernel_rfl) Try.func3 (by kernel_rfl)
    (of_decide_eq_true (by kernel_rfl)) (by unfold Func.isWrapper; first | (rw [if_pos (by decide +kernel)]; kernel_rfl) | (rw [if_neg (by decide +kernel)]; exact ⟨rfl, rfl⟩))
    (fun os started H enc _ => lifted os started H enc)
end Go.Proofs.Ytgmndcfeifgapaa.netGoes
