/- The law PoolFair returns true for every list of calls: whoever gets a connection that was freed, or opened, is the one who has waited longest, and all others go on waiting, in order; and the chapter's example holds. No condition. -/
import Derived.Test.YtmjodhhcdigagaaRd
import Derived.Test.YtmjodhhcdigagaaPlG
namespace Go.Proofs.Ytmjodhhcdigagaa.poolFair
open Go.ChangeShapes Go.WideShapes Go.ChangeAt Go.RowKit
open Go.ChangeMaps (open_string shut_string)
set_option linter.unusedVariables false

theorem own : ownKnob Try.prog.godebug = none := by kernel_rfl
theorem laidOut : laidOutB Try.prog = true := by kernel_rfl

set_option linter.unusedSimpArgs false
theorem bsz {B : Nat} {a w : World} (h : Below B a w) (e : a.heap.size = B) : B ≤ w.heap.size := e ▸ h.size
theorem op_cells {w : World} {b off k : Nat} {x : POp} (h : ∀ j u, (popC x)[j]? = some u → w.cell? ⟨b, off + (k * 2 + j), none⟩ = some u) :
    w.cell? ⟨b, off + k * 2, none⟩ = some (.int .i64 x.kind) ∧ w.cell? ⟨b, off + k * 2 + 1, none⟩ = some (.int .i64 x.n) := by
  have h0 := h 0 _ rfl; have h1 := h 1 _ rfl
  simp only [← Nat.add_assoc, Nat.add_zero] at h0 h1
  exact ⟨h0, h1⟩
theorem slr_tail {w : World} {gb n cp : Nat} {s : Int} {r : List Int} {AD : Addr} (h : SlR 1 intC w (.slice (some ⟨gb, 0, none⟩) n cp) (s :: r)) (hAD : (if cp = 1 then (⟨gb, 0, none⟩ : Addr) else ⟨gb, 1, none⟩) = AD) : SlR 1 intC w (.slice (some AD) (n - 1) (cp - 1)) r := by
  obtain ⟨a, cap, e, h1, h2, h4⟩ := h
  simp only [Value.slice.injEq] at e
  obtain ⟨rfl, rfl, rfl⟩ := e
  simp only [List.length_cons] at h1 ⊢
  refine ⟨some AD, cp - 1, rfl, by omega, by omega, .inr ?_⟩
  rcases h4 with ⟨e, -⟩ | ⟨b, off, sp, e, h5⟩
  · cases e
  · simp only [Option.some.injEq, Addr.mk.injEq] at e
    obtain ⟨rfl, rfl, rfl⟩ := e
    by_cases hr : r = []
    · obtain ⟨b, o, q⟩ := AD
      exact ⟨b, o, q, rfl, .inl hr⟩
    · have : 0 < r.length := by cases r with | nil => exact absurd rfl hr | cons _ _ => simp
      rw [if_neg (by omega)] at hAD
      subst hAD
      rcases h5 with h5 | ⟨-, hlt, hc⟩
      · cases h5
      · refine ⟨_, _, _, rfl, .inr ⟨rfl, hlt, fun i x hx j u hu => ?_⟩⟩
        have := hc (i + 1) x (by rw [List.getElem?_cons_succ]; exact hx) j u hu
        rw [← this]
        congr 2
        omega
set_option maxRecDepth 100000 in
set_option maxHeartbeats 8000000 in
theorem walk (v0 : Value) (x0 : (List POp)) (w : World) (w0 : IsPOps w v0 x0) (b0 : IsPOps.fits x0) :
    Calls Try.prog 5 #[v0] w fun e w' => e = .returned (.bool true) ∧ Below w.heap.size w w' := by
  have HW := Lib.hid w0.1
  clear b0
  go_enter Try.func5, Try.ntmps5
  go_wp2_with fail
  refine (Pl.live_any _).mono ?_
  rintro e w1 ⟨rfl, hb1⟩
  have HB1 := Lib.hid hb1
  clear hb1
  go_wp2_with fail
  refine (Pl.new_any _).mono ?_
  rintro e w2 ⟨rfl, hn, hb2⟩
  obtain ⟨B, hB⟩ : ∃ q, w1.heap.size = q := ⟨_, rfl⟩
  rw [hB] at hn hb2 ⊢
  have HBZ := Lib.hid hB
  have HP2 := Lib.hid hn
  have HB2 := Lib.hid hb2
  clear hn hb2
  obtain ⟨a, cap, e0, h1, h2, -⟩ := id w0.1
  subst e0
  by_cases hl : 300 < x0.length
  · have hli : (300 : Int) < (x0.length : Int) := by omega
    clear w0
    go_wp2
    go_ret
    exact ⟨rfl, HB1.out.trans (HB2.out.mono (by rw [← HBZ.out]; exact HB1.out.size))⟩
  have hli : ¬ (300 : Int) < (x0.length : Int) := by omega
  clear w0
  go_wp2_with fail
  go_loopw [25] (fun i wr => ∃ (k : Nat) (cs : List Cn) (ws : List Int), k ≤ x0.length ∧ i = .int .i64 (k : Int) ∧ Hid (Pl.PoolAt wr B cs ws ∧ Pl.OkP cs ws ∧ Below B w1 wr)) (fun i _ => x0.length - (intOf i).toNat)
  case atStart => exact ⟨0, [], [], Nat.zero_le _, rfl, Lib.hid ⟨HP2.out, Pl.OkP.nil, HB2.out⟩⟩
  case round =>
    clear HP2 HB2
    obtain ⟨k, cs, ws, hk, rfl, HR⟩ := hrel
    by_cases hlt : k < x0.length
    · have hlti : (k : Int) < (x0.length : Int) := by omega
      obtain ⟨b, off, cp, e1, -, -, -, -, hcs⟩ : ∃ b off cp, Value.slice a x0.length cap = .slice (some ⟨b, off, none⟩) x0.length cp ∧ 0 < x0.length ∧ x0.length ≤ cp ∧ cp ≤ 9223372036854775807 ∧ b < w.heap.size ∧ ∀ i x, x0[i]? = some x → ∀ j u, (popC x)[j]? = some u → w.cell? ⟨b, off + (i * 2 + j), none⟩ = some u := by
        rcases SlR.cases HW.out with ⟨a2, c2, e, hnil⟩ | h
        · rw [hnil] at hlt; simp at hlt
        · exact h
      simp only [Value.slice.injEq] at e1
      obtain ⟨rfl, -, rfl⟩ := e1
      obtain ⟨x, hx⟩ : ∃ x, x0[k]? = some x := ⟨_, List.getElem?_eq_getElem hlt⟩
      have hcl : ∀ {ad : Addr} {q : Value}, w.cell? ad = some q → wr.cell? ad = some q := fun {ad q} h => by
        have hlt := World.block_lt_of_cell? _ _ h
        unfold World.cell? at h ⊢
        rw [HR.out.2.2.block _ (by have := HB1.out.size; have := HBZ.out; omega), HB1.out.block _ hlt]
        exact h
      obtain ⟨q0, q1⟩ := op_cells (w := wr) (fun j u hu => hcl (hcs k x hx j u hu))
      obtain ⟨W0, hW0⟩ : ∃ q, wr.alloc (.cells #[.int .i64 x.kind, .int .i64 x.n] 32) = q := ⟨_, rfl⟩
      have hb0 : Below wr.heap.size wr W0 := by rw [← hW0]; exact (Below.refl _ _).alloc (Nat.le_refl _) _
      obtain ⟨ob, hob⟩ : ∃ q, wr.heap.size = q := ⟨_, rfl⟩
      have HQW : Hid (W0.heap[ob]? = some (.cells #[.int .i64 x.kind, .int .i64 x.n] 32 (0, 0))) := Lib.hid (by rw [← hW0, ← hob]; exact heap_alloc_new _ _)
      have HPW := Lib.hid (Pl.PoolAt.below HR.out.1 hb0)
      have HOK := Lib.hid HR.out.2.1
      have HBW := Lib.hid (HR.out.2.2.trans (hb0.mono (bsz HR.out.2.2 HBZ.out)))
      have HOB : Hid (ob ≠ B) := Lib.hid (by have := HR.out.1.1.lt; omega)
      have ck0 : W0.cell? ⟨ob, 0, none⟩ = some (.int .i64 x.kind) := (cell_of_row W0 _ 0 _ _ _ HQW.out).trans rfl
      have ck1 : W0.cell? ⟨ob, 1, none⟩ = some (.int .i64 x.n) := (cell_of_row W0 _ 1 _ _ _ HQW.out).trans rfl
      clear hcs hcl hb0 HR hx
      go_wp2_with fail
      clear hW0 q0 q1
      refine (Pl.Waits_any _ HPW.out).mono ?_
      rintro e w3 ⟨v7, rfl, own7, hb⟩
      have HP3 := Lib.hid (Pl.PoolAt.below HPW.out hb)
      have HB3 := Lib.hid (HBW.out.trans (hb.mono (bsz HBW.out HBZ.out)))
      have HQ3 := Lib.hid ((hb.block _ (row_lt HQW.out)).trans HQW.out)
      have HO3 := Lib.hid own7
      have HWB : Hid (B < W0.heap.size) := Lib.hid HPW.out.1.lt
      have dk0 : w3.cell? ⟨ob, 0, none⟩ = some (.int .i64 x.kind) := (cell_of_row w3 _ 0 _ _ _ HQ3.out).trans rfl
      have dk1 : w3.cell? ⟨ob, 1, none⟩ = some (.int .i64 x.n) := (cell_of_row w3 _ 1 _ _ _ HQ3.out).trans rfl
      clear own7 hb ck0 ck1
      go_wp2_with fail
      refine (Pl.do_any x _ HP3.out HOK.out.sorted).mono ?_
      rintro e w4 ⟨rfl, hp4, ho4⟩
      have HB4x : Hid (Below B w1 w4) := Lib.hid (ho4.below HB3.out (bsz HB3.out HBZ.out) (fun k hk => by rw [hk]; exact Nat.le_refl _))
      have HP4x := Lib.hid hp4
      have HOK4 := Lib.hid (Pl.ok_do HOK.out x)
      have hq4 := (ho4.2.2.2.2 _ (row_lt HQ3.out) HOB.out).trans HQ3.out
      have ek0 : w4.cell? ⟨ob, 0, none⟩ = some (.int .i64 x.kind) := (cell_of_row w4 _ 0 _ _ _ hq4).trans rfl
      have HO4x : Hid (OwnR 1 intC 3 w4 W0.heap.size v7 ws) := Lib.hid (own_keep HO3.out (fun q hq hl => ho4.2.2.2.2 _ hl (fun e => by have := (World.ownsRow.lt HO3.out q hq).1; have := HWB.out; omega)))
      clear hp4 ho4 hq4 dk0 dk1
      by_cases g1 : x.kind = 1
      · have d1 : (x.kind == 1) = true := by rw [g1]; rfl
        clear g1
        go_wp2_with fail
        go_roundw
        case rel => exact ⟨k + 1, _, _, by omega, by go_num, Lib.hid ⟨HP4x.out, HOK4.out, HB4x.out⟩⟩
        case measure => simp [intOf]; omega
      have d1 : (x.kind == 1) = false := by simpa using g1
      clear g1
      by_cases g4 : 4 < x.kind
      · go_wp2_with fail
        go_roundw
        case rel => exact ⟨k + 1, _, _, by omega, by go_num, Lib.hid ⟨HP4x.out, HOK4.out, HB4x.out⟩⟩
        case measure => simp [intOf]; omega
      by_cases g0 : x.kind < 0
      · go_wp2_with fail
        go_roundw
        case rel => exact ⟨k + 1, _, _, by omega, by go_num, Lib.hid ⟨HP4x.out, HOK4.out, HB4x.out⟩⟩
        case measure => simp [intOf]; omega
      have HFD := Lib.hid (Pl.fair_do HOK.out x)
      obtain ⟨s, hs⟩ : ∃ q, Pl.doV x cs ws = q := ⟨_, rfl⟩
      rw [hs]
      by_cases hs0 : s = 0
      · subst hs0
        clear hs
        go_upto_region 11 with fail
        clear ek0
        refine Wl.start 999 (fun _ => True) (fun _ => True) (by kernel_rfl) trivial trivial (fun hk => ?_)
        refine Wl.take0 (i := 0) (v := .int .i64 0) rfl (by kernel_rfl) (by kernel_rfl) (by kernel_rfl) (by kernel_rfl) (fun _ _ _ h => h) (.inl ⟨by kernel_rfl, ?_⟩) hk ?_
        · intro wx hSw
          clear hSw hk
          go_simp
          try first | with_reducible rfl | kernel_rfl
        simp only [Act.put, List.getElem_toArray, List.getElem_cons_succ, List.getElem_cons_zero, List.setIfInBounds_toArray, List.set_cons_succ, List.set_cons_zero]
        refine Wl.take0 (i := 1) (v := .bool false) rfl (by kernel_rfl) (by kernel_rfl) (by kernel_rfl) (by kernel_rfl) (fun _ _ _ h => h) (.inl ⟨by kernel_rfl, ?_⟩) hk ?_
        · intro wx hSw
          clear hSw hk
          go_simp
          try first | with_reducible rfl | kernel_rfl
        simp only [Act.put, List.getElem_toArray, List.getElem_cons_succ, List.getElem_cons_zero, List.setIfInBounds_toArray, List.set_cons_succ, List.set_cons_zero]
        refine Wl.take0 (i := 2) (v := .bool false) rfl (by kernel_rfl) (by kernel_rfl) (by kernel_rfl) (by kernel_rfl) (fun _ _ _ h => h) (.inl ⟨by kernel_rfl, ?_⟩) hk ?_
        · intro wx hSw
          clear hSw hk
          go_simp
          try first | with_reducible rfl | kernel_rfl
        simp only [Act.put, List.getElem_toArray, List.getElem_cons_succ, List.getElem_cons_zero, List.setIfInBounds_toArray, List.set_cons_succ, List.set_cons_zero]
        refine Wl.take0 (i := 3) (v := undef) rfl (by kernel_rfl) (by kernel_rfl) (by kernel_rfl) (by kernel_rfl) (fun _ _ _ h => h) (.inr ⟨by kernel_rfl, rfl⟩) hk ?_
        simp only [Act.put, List.getElem_toArray, List.getElem_cons_succ, List.getElem_cons_zero, List.setIfInBounds_toArray, List.set_cons_succ, List.set_cons_zero]
        refine Wl.take0 (i := 4) (v := undef) rfl (by kernel_rfl) (by kernel_rfl) (by kernel_rfl) (by kernel_rfl) (fun _ _ _ h => h) (.inr ⟨by kernel_rfl, rfl⟩) hk ?_
        simp only [Act.put, List.getElem_toArray, List.getElem_cons_succ, List.getElem_cons_zero, List.setIfInBounds_toArray, List.set_cons_succ, List.set_cons_zero]
        refine Wl.take0 (i := 5) (v := undef) rfl (by kernel_rfl) (by kernel_rfl) (by kernel_rfl) (by kernel_rfl) (fun _ _ _ h => h) (.inr ⟨by kernel_rfl, rfl⟩) hk ?_
        simp only [Act.put, List.getElem_toArray, List.getElem_cons_succ, List.getElem_cons_zero, List.setIfInBounds_toArray, List.set_cons_succ, List.set_cons_zero]
        refine Wl.take0 (i := 6) (v := undef) rfl (by kernel_rfl) (by kernel_rfl) (by kernel_rfl) (by kernel_rfl) (fun _ _ _ h => h) (.inr ⟨by kernel_rfl, rfl⟩) hk ?_
        simp only [Act.put, List.getElem_toArray, List.getElem_cons_succ, List.getElem_cons_zero, List.setIfInBounds_toArray, List.set_cons_succ, List.set_cons_zero]
        refine Wl.take0 (i := 7) (v := undef) rfl (by kernel_rfl) (by kernel_rfl) (by kernel_rfl) (by kernel_rfl) (fun _ _ _ h => h) (.inr ⟨by kernel_rfl, rfl⟩) hk ?_
        simp only [Act.put, List.getElem_toArray, List.getElem_cons_succ, List.getElem_cons_zero, List.setIfInBounds_toArray, List.set_cons_succ, List.set_cons_zero]
        refine Wl.take0 (i := 8) (v := undef) rfl (by kernel_rfl) (by kernel_rfl) (by kernel_rfl) (by kernel_rfl) (fun _ _ _ h => h) (.inr ⟨by kernel_rfl, rfl⟩) hk ?_
        simp only [Act.put, List.getElem_toArray, List.getElem_cons_succ, List.getElem_cons_zero, List.setIfInBounds_toArray, List.set_cons_succ, List.set_cons_zero]
        refine Wl.take0 (i := 9) (v := undef) rfl (by kernel_rfl) (by kernel_rfl) (by kernel_rfl) (by kernel_rfl) (fun _ _ _ h => h) (.inr ⟨by kernel_rfl, rfl⟩) hk ?_
        simp only [Act.put, List.getElem_toArray, List.getElem_cons_succ, List.getElem_cons_zero, List.setIfInBounds_toArray, List.set_cons_succ, List.set_cons_zero]
        refine Wl.take0 (i := 10) (v := undef) rfl (by kernel_rfl) (by kernel_rfl) (by kernel_rfl) (by kernel_rfl) (fun _ _ _ h => h) (.inr ⟨by kernel_rfl, rfl⟩) hk ?_
        simp only [Act.put, List.getElem_toArray, List.getElem_cons_succ, List.getElem_cons_zero, List.setIfInBounds_toArray, List.set_cons_succ, List.set_cons_zero]
        refine Wl.take0 (i := 11) (v := undef) rfl (by kernel_rfl) (by kernel_rfl) (by kernel_rfl) (by kernel_rfl) (fun _ _ _ h => h) (.inr ⟨by kernel_rfl, rfl⟩) hk ?_
        simp only [Act.put, List.getElem_toArray, List.getElem_cons_succ, List.getElem_cons_zero, List.setIfInBounds_toArray, List.set_cons_succ, List.set_cons_zero]
        refine Wl.take0 (i := 12) (v := undef) rfl (by kernel_rfl) (by kernel_rfl) (by kernel_rfl) (by kernel_rfl) (fun _ _ _ h => h) (.inr ⟨by kernel_rfl, rfl⟩) hk ?_
        simp only [Act.put, List.getElem_toArray, List.getElem_cons_succ, List.getElem_cons_zero, List.setIfInBounds_toArray, List.set_cons_succ, List.set_cons_zero]
        refine Wl.take0 (i := 13) (v := undef) rfl (by kernel_rfl) (by kernel_rfl) (by kernel_rfl) (by kernel_rfl) (fun _ _ _ h => h) (.inr ⟨by kernel_rfl, rfl⟩) hk ?_
        simp only [Act.put, List.getElem_toArray, List.getElem_cons_succ, List.getElem_cons_zero, List.setIfInBounds_toArray, List.set_cons_succ, List.set_cons_zero]
        refine Wl.take0 (i := 14) (v := undef) rfl (by kernel_rfl) (by kernel_rfl) (by kernel_rfl) (by kernel_rfl) (fun _ _ _ h => h) (.inr ⟨by kernel_rfl, rfl⟩) hk ?_
        simp only [Act.put, List.getElem_toArray, List.getElem_cons_succ, List.getElem_cons_zero, List.setIfInBounds_toArray, List.set_cons_succ, List.set_cons_zero]
        refine Wl.take0 (i := 15) (v := undef) rfl (by kernel_rfl) (by kernel_rfl) (by kernel_rfl) (by kernel_rfl) (fun _ _ _ h => h) (.inr ⟨by kernel_rfl, rfl⟩) hk ?_
        simp only [Act.put, List.getElem_toArray, List.getElem_cons_succ, List.getElem_cons_zero, List.setIfInBounds_toArray, List.set_cons_succ, List.set_cons_zero]
        refine Wl.take0 (i := 16) (v := undef) rfl (by kernel_rfl) (by kernel_rfl) (by kernel_rfl) (by kernel_rfl) (fun _ _ _ h => h) (.inr ⟨by kernel_rfl, rfl⟩) hk ?_
        simp only [Act.put, List.getElem_toArray, List.getElem_cons_succ, List.getElem_cons_zero, List.setIfInBounds_toArray, List.set_cons_succ, List.set_cons_zero]
        refine Wl.take0 (i := 17) (v := undef) rfl (by kernel_rfl) (by kernel_rfl) (by kernel_rfl) (by kernel_rfl) (fun _ _ _ h => h) (.inr ⟨by kernel_rfl, rfl⟩) hk ?_
        simp only [Act.put, List.getElem_toArray, List.getElem_cons_succ, List.getElem_cons_zero, List.setIfInBounds_toArray, List.set_cons_succ, List.set_cons_zero]
        refine Wl.take0 (i := 18) (v := undef) rfl (by kernel_rfl) (by kernel_rfl) (by kernel_rfl) (by kernel_rfl) (fun _ _ _ h => h) (.inr ⟨by kernel_rfl, rfl⟩) hk ?_
        simp only [Act.put, List.getElem_toArray, List.getElem_cons_succ, List.getElem_cons_zero, List.setIfInBounds_toArray, List.set_cons_succ, List.set_cons_zero]
        refine Wl.take0 (i := 19) (v := undef) rfl (by kernel_rfl) (by kernel_rfl) (by kernel_rfl) (by kernel_rfl) (fun _ _ _ h => h) (.inr ⟨by kernel_rfl, rfl⟩) hk ?_
        simp only [Act.put, List.getElem_toArray, List.getElem_cons_succ, List.getElem_cons_zero, List.setIfInBounds_toArray, List.set_cons_succ, List.set_cons_zero]
        refine Wl.take0 (i := 20) (v := undef) rfl (by kernel_rfl) (by kernel_rfl) (by kernel_rfl) (by kernel_rfl) (fun _ _ _ h => h) (.inr ⟨by kernel_rfl, rfl⟩) hk ?_
        simp only [Act.put, List.getElem_toArray, List.getElem_cons_succ, List.getElem_cons_zero, List.setIfInBounds_toArray, List.set_cons_succ, List.set_cons_zero]
        refine Wl.take0 (i := 21) (v := undef) rfl (by kernel_rfl) (by kernel_rfl) (by kernel_rfl) (by kernel_rfl) (fun _ _ _ h => h) (.inr ⟨by kernel_rfl, rfl⟩) hk ?_
        simp only [Act.put, List.getElem_toArray, List.getElem_cons_succ, List.getElem_cons_zero, List.setIfInBounds_toArray, List.set_cons_succ, List.set_cons_zero]
        refine Wl.take0 (i := 22) (v := undef) rfl (by kernel_rfl) (by kernel_rfl) (by kernel_rfl) (by kernel_rfl) (fun _ _ _ h => h) (.inr ⟨by kernel_rfl, rfl⟩) hk ?_
        simp only [Act.put, List.getElem_toArray, List.getElem_cons_succ, List.getElem_cons_zero, List.setIfInBounds_toArray, List.set_cons_succ, List.set_cons_zero]
        refine Wl.take0 (i := 23) (v := undef) rfl (by kernel_rfl) (by kernel_rfl) (by kernel_rfl) (by kernel_rfl) (fun _ _ _ h => h) (.inr ⟨by kernel_rfl, rfl⟩) hk ?_
        simp only [Act.put, List.getElem_toArray, List.getElem_cons_succ, List.getElem_cons_zero, List.setIfInBounds_toArray, List.set_cons_succ, List.set_cons_zero]
        refine Wl.take0 (i := 24) (v := undef) rfl (by kernel_rfl) (by kernel_rfl) (by kernel_rfl) (by kernel_rfl) (fun _ _ _ h => h) (.inr ⟨by kernel_rfl, rfl⟩) hk ?_
        simp only [Act.put, List.getElem_toArray, List.getElem_cons_succ, List.getElem_cons_zero, List.setIfInBounds_toArray, List.set_cons_succ, List.set_cons_zero]
        refine Wl.take0 (i := 25) (v := undef) rfl (by kernel_rfl) (by kernel_rfl) (by kernel_rfl) (by kernel_rfl) (fun _ _ _ h => h) (.inr ⟨by kernel_rfl, rfl⟩) hk ?_
        simp only [Act.put, List.getElem_toArray, List.getElem_cons_succ, List.getElem_cons_zero, List.setIfInBounds_toArray, List.set_cons_succ, List.set_cons_zero]
        refine Wl.take0 (i := 26) (v := undef) rfl (by kernel_rfl) (by kernel_rfl) (by kernel_rfl) (by kernel_rfl) (fun _ _ _ h => h) (.inr ⟨by kernel_rfl, rfl⟩) hk ?_
        simp only [Act.put, List.getElem_toArray, List.getElem_cons_succ, List.getElem_cons_zero, List.setIfInBounds_toArray, List.set_cons_succ, List.set_cons_zero]
        refine Wl.take0 (i := 27) (v := .bool false) rfl (by kernel_rfl) (by kernel_rfl) (by kernel_rfl) (by kernel_rfl) (fun _ _ _ h => h) (.inl ⟨by kernel_rfl, ?_⟩) hk ?_
        · intro wx hSw
          clear hSw hk
          go_simp
          try first | with_reducible rfl | kernel_rfl
        simp only [Act.put, List.getElem_toArray, List.getElem_cons_succ, List.getElem_cons_zero, List.setIfInBounds_toArray, List.set_cons_succ, List.set_cons_zero]
        refine Wl.done (by kernel_rfl) ?_ _
        clear hk
        go_wp2_with fail
        go_roundw
        case rel => exact ⟨k + 1, _, _, by omega, by go_num, Lib.hid ⟨HP4x.out.drew, HOK4.out, HB4x.out.drew⟩⟩
        case measure => simp [intOf]; omega
      · have hsn : (s != 0) = true := by simpa using hs0
        have hfd := HFD.out (by rw [hs]; exact hs0)
        rw [hs] at hfd
        obtain ⟨hws, hht⟩ := hfd
        obtain ⟨r, hr⟩ : ∃ q, Pl.doW x cs ws = q := ⟨_, rfl⟩
        obtain ⟨C, hC⟩ : ∃ q, Pl.doC x cs ws = q := ⟨_, rfl⟩
        obtain ⟨ht, hHT⟩ : ∃ q, Pl.hasT s (Pl.doC x cs ws) = q := ⟨_, rfl⟩
        rw [hHT] at hht
        rw [hr] at hws
        have HT : Hid (Pl.hasT s C = ht) := Lib.hid (by rw [← hC]; exact hHT)
        have HP4 : Hid (Pl.PoolAt w4.drew B C r) := Lib.hid (by rw [← hC, ← hr]; exact HP4x.out.drew)
        have HOK5 : Hid (Pl.OkP C r) := Lib.hid (by rw [← hC, ← hr]; exact HOK4.out)
        have hsl := HO4x.out.sl intC_len
        have HO4 : Hid (OwnR 1 intC 3 w4 W0.heap.size v7 (s :: r)) := Lib.hid (by rw [← hws]; exact HO4x.out)
        rcases own_form HO4.out with ⟨-, e⟩ | ⟨gb, cp, cur, rfl, hg, -⟩
        · simp at e
        obtain ⟨n, hn⟩ : ∃ n, (s :: r).length = n := ⟨_, rfl⟩
        rw [hws, hn] at hsl
        rw [hn]
        have HSL := Lib.hid hsl
        have hcap : n ≤ cp ∧ cp ≤ 9223372036854775807 := by
          obtain ⟨a2, c2, e, g1, g2, -⟩ := hsl
          simp only [Value.slice.injEq] at e
          obtain ⟨-, -, rfl⟩ := e
          rw [hn] at g1
          exact ⟨g1, g2⟩
        obtain ⟨hc1, hc2⟩ := hcap
        have hn0 : 0 < n := by rw [← hn]; simp
        have hne : ((n : Int) == 0) = false := beq_eq_false_iff_ne.2 (by omega)
        have hni : (0 : Int) < (n : Int) := by omega
        have hhz : (ht == 0) = false := beq_eq_false_iff_ne.2 hht
        have HQ4 : Hid (w4.drew.cell? ⟨gb, 0, none⟩ = some (.int .i64 s)) := Lib.hid (by
          rcases hsl with ⟨a2, c2, e, -, -, ⟨rfl, -⟩ | ⟨b, off, sp, rfl, h5⟩⟩
          · cases e
          · simp only [Value.slice.injEq, Option.some.injEq, Addr.mk.injEq] at e
            obtain ⟨⟨rfl, rfl, rfl⟩, -, -⟩ := e
            rcases h5 with h5 | ⟨-, -, hc⟩
            · cases h5
            · simpa using hc 0 s rfl 0 _ rfl)
        have HGL : Hid (gb < w4.drew.heap.size) := Lib.hid (row_lt hg)
        have HB4 : Hid (Below B w1 w4.drew) := Lib.hid HB4x.out.drew
        obtain ⟨AD, hAD⟩ : ∃ q, (if cp = 1 then (⟨gb, 0, none⟩ : Addr) else ⟨gb, 1, none⟩) = q := ⟨_, rfl⟩
        have HS4 : Hid (SlR 1 intC w4.drew (.slice (some AD) (n - 1) (cp - 1)) r) := Lib.hid (slr_tail (hsl.below (B := w4.heap.size) (w' := w4.drew) ((Below.refl _ _).drew) (Nat.le_refl _)) hAD)
        clear hs hsl hg hht hHT HFD HP4x HO4x HOK4 HO3 HO4 hC hr hws hn
        go_upto_region 11 with fail
        clear ek0
        refine Wl.start 999 (fun _ => True) (fun u => u.cell? ⟨gb, 0, none⟩ = some (.int .i64 s)) (by kernel_rfl) trivial HQ4.out (fun hk => ?_)
        refine Wl.take0 (i := 0) (v := .int .i64 s) rfl (by kernel_rfl) (by kernel_rfl) (by kernel_rfl) (by kernel_rfl) (fun _ _ _ h => h) (.inl ⟨by kernel_rfl, ?_⟩) hk ?_
        · intro wx hSw
          clear hSw hk
          go_simp
          try first | with_reducible rfl | kernel_rfl
        simp only [Act.put, List.getElem_toArray, List.getElem_cons_succ, List.getElem_cons_zero, List.setIfInBounds_toArray, List.set_cons_succ, List.set_cons_zero]
        refine Wl.take0 (i := 1) (v := .bool true) rfl (by kernel_rfl) (by kernel_rfl) (by kernel_rfl) (by kernel_rfl) (fun _ _ _ h => h) (.inl ⟨by kernel_rfl, ?_⟩) hk ?_
        · intro wx hSw
          clear hSw hk
          go_simp
          try first | with_reducible rfl | kernel_rfl
        simp only [Act.put, List.getElem_toArray, List.getElem_cons_succ, List.getElem_cons_zero, List.setIfInBounds_toArray, List.set_cons_succ, List.set_cons_zero]
        refine Wl.take0 (i := 2) (v := .bool true) rfl (by kernel_rfl) (by kernel_rfl) (by kernel_rfl) (by kernel_rfl) (fun _ _ _ h => h) (.inl ⟨by kernel_rfl, ?_⟩) hk ?_
        · intro wx hSw
          clear hSw hk
          go_simp
          try first | with_reducible rfl | kernel_rfl
        simp only [Act.put, List.getElem_toArray, List.getElem_cons_succ, List.getElem_cons_zero, List.setIfInBounds_toArray, List.set_cons_succ, List.set_cons_zero]
        refine Wl.take0 (i := 3) (v := .slice (some ⟨gb, 0, none⟩) n cp) rfl (by kernel_rfl) (by kernel_rfl) (by kernel_rfl) (by kernel_rfl) (fun _ _ _ h => h) (.inl ⟨by kernel_rfl, ?_⟩) hk ?_
        · intro wx hSw
          clear hSw hk
          go_simp
          try first | with_reducible rfl | kernel_rfl
        simp only [Act.put, List.getElem_toArray, List.getElem_cons_succ, List.getElem_cons_zero, List.setIfInBounds_toArray, List.set_cons_succ, List.set_cons_zero]
        refine Wl.take0 (i := 4) (v := .int .i64 (n : Int)) rfl (by kernel_rfl) (by kernel_rfl) (by kernel_rfl) (by kernel_rfl) (fun _ _ _ h => h) (.inl ⟨by kernel_rfl, ?_⟩) hk ?_
        · intro wx hSw
          clear hSw hk
          go_simp
          try first | with_reducible rfl | kernel_rfl
        simp only [Act.put, List.getElem_toArray, List.getElem_cons_succ, List.getElem_cons_zero, List.setIfInBounds_toArray, List.set_cons_succ, List.set_cons_zero]
        refine Wl.take0 (i := 5) (v := .bool false) rfl (by kernel_rfl) (by kernel_rfl) (by kernel_rfl) (by kernel_rfl) (fun _ _ _ h => h) (.inl ⟨by kernel_rfl, ?_⟩) hk ?_
        · intro wx hSw
          clear hSw hk
          go_simp
          try first | with_reducible rfl | kernel_rfl
        simp only [Act.put, List.getElem_toArray, List.getElem_cons_succ, List.getElem_cons_zero, List.setIfInBounds_toArray, List.set_cons_succ, List.set_cons_zero]
        refine Wl.take0 (i := 6) (v := .bool false) rfl (by kernel_rfl) (by kernel_rfl) (by kernel_rfl) (by kernel_rfl) (fun _ _ _ h => h) (.inl ⟨by kernel_rfl, ?_⟩) hk ?_
        · intro wx hSw
          clear hSw hk
          go_simp
          try first | with_reducible rfl | kernel_rfl
        simp only [Act.put, List.getElem_toArray, List.getElem_cons_succ, List.getElem_cons_zero, List.setIfInBounds_toArray, List.set_cons_succ, List.set_cons_zero]
        refine Wl.take0 (i := 7) (v := .slice (some ⟨gb, 0, none⟩) n cp) rfl (by kernel_rfl) (by kernel_rfl) (by kernel_rfl) (by kernel_rfl) (fun _ _ _ h => h) (.inl ⟨by kernel_rfl, ?_⟩) hk ?_
        · intro wx hSw
          clear hSw hk
          go_simp
          try first | with_reducible rfl | kernel_rfl
        simp only [Act.put, List.getElem_toArray, List.getElem_cons_succ, List.getElem_cons_zero, List.setIfInBounds_toArray, List.set_cons_succ, List.set_cons_zero]
        refine Wl.take0 (i := 8) (v := .pointer (some ⟨gb, 0, none⟩)) rfl (by kernel_rfl) (by kernel_rfl) (by kernel_rfl) (by kernel_rfl) (fun _ _ _ h => h) (.inl ⟨by kernel_rfl, ?_⟩) hk ?_
        · intro wx hSw
          clear hSw hk
          go_simp
          try first | with_reducible rfl | kernel_rfl
        simp only [Act.put, List.getElem_toArray, List.getElem_cons_succ, List.getElem_cons_zero, List.setIfInBounds_toArray, List.set_cons_succ, List.set_cons_zero]
        refine Wl.take0 (i := 9) (v := .int .i64 s) rfl (by kernel_rfl) (by kernel_rfl) (by kernel_rfl) (by kernel_rfl) (fun _ _ _ h => h) (.inl ⟨by kernel_rfl, ?_⟩) hk ?_
        · intro wx hSw
          have cc := hSw
          clear hSw hk
          go_simp
          try first | with_reducible rfl | kernel_rfl
        simp only [Act.put, List.getElem_toArray, List.getElem_cons_succ, List.getElem_cons_zero, List.setIfInBounds_toArray, List.set_cons_succ, List.set_cons_zero]
        refine Wl.take0 (i := 10) (v := .int .i64 s) rfl (by kernel_rfl) (by kernel_rfl) (by kernel_rfl) (by kernel_rfl) (fun _ _ _ h => h) (.inl ⟨by kernel_rfl, ?_⟩) hk ?_
        · intro wx hSw
          clear hSw hk
          go_simp
          try first | with_reducible rfl | kernel_rfl
        simp only [Act.put, List.getElem_toArray, List.getElem_cons_succ, List.getElem_cons_zero, List.setIfInBounds_toArray, List.set_cons_succ, List.set_cons_zero]
        refine Wl.take0 (i := 11) (v := .bool false) rfl (by kernel_rfl) (by kernel_rfl) (by kernel_rfl) (by kernel_rfl) (fun _ _ _ h => h) (.inl ⟨by kernel_rfl, ?_⟩) hk ?_
        · intro wx hSw
          clear hSw hk
          go_simp
          try first | with_reducible rfl | kernel_rfl
        simp only [Act.put, List.getElem_toArray, List.getElem_cons_succ, List.getElem_cons_zero, List.setIfInBounds_toArray, List.set_cons_succ, List.set_cons_zero]
        refine Wl.take0 (i := 12) (v := .bool false) rfl (by kernel_rfl) (by kernel_rfl) (by kernel_rfl) (by kernel_rfl) (fun _ _ _ h => h) (.inl ⟨by kernel_rfl, ?_⟩) hk ?_
        · intro wx hSw
          clear hSw hk
          go_simp
          try first | with_reducible rfl | kernel_rfl
        simp only [Act.put, List.getElem_toArray, List.getElem_cons_succ, List.getElem_cons_zero, List.setIfInBounds_toArray, List.set_cons_succ, List.set_cons_zero]
        refine Wl.take0 (i := 13) (v := .bool false) rfl (by kernel_rfl) (by kernel_rfl) (by kernel_rfl) (by kernel_rfl) (fun _ _ _ h => h) (.inl ⟨by kernel_rfl, ?_⟩) hk ?_
        · intro wx hSw
          clear hSw hk
          go_simp
          try first | with_reducible rfl | kernel_rfl
        simp only [Act.put, List.getElem_toArray, List.getElem_cons_succ, List.getElem_cons_zero, List.setIfInBounds_toArray, List.set_cons_succ, List.set_cons_zero]
        refine Wl.take0 (i := 14) (v := .pointer (some ⟨B, 0, none⟩)) rfl (by kernel_rfl) (by kernel_rfl) (by kernel_rfl) (by kernel_rfl) (fun _ _ _ h => h) (.inl ⟨by kernel_rfl, ?_⟩) hk ?_
        · intro wx hSw
          clear hSw hk
          go_simp
          try first | with_reducible rfl | kernel_rfl
        simp only [Act.put, List.getElem_toArray, List.getElem_cons_succ, List.getElem_cons_zero, List.setIfInBounds_toArray, List.set_cons_succ, List.set_cons_zero]
        refine Wl.take0 (i := 15) (v := .int .i64 s) rfl (by kernel_rfl) (by kernel_rfl) (by kernel_rfl) (by kernel_rfl) (fun _ _ _ h => h) (.inl ⟨by kernel_rfl, ?_⟩) hk ?_
        · intro wx hSw
          clear hSw hk
          go_simp
          try first | with_reducible rfl | kernel_rfl
        simp only [Act.put, List.getElem_toArray, List.getElem_cons_succ, List.getElem_cons_zero, List.setIfInBounds_toArray, List.set_cons_succ, List.set_cons_zero]
        refine Wl.one (i := 16) (by kernel_rfl) rfl (fun K hK => ?_)
        rw [if_pos (by kernel_rfl)]
        go_simp
        refine (Pl.has_any s _ HP4.out).mono ?_
        rintro e w5 ⟨rfl, hp, hb⟩
        rw [HT.out]
        have HP5 := Lib.hid hp
        have HB5 := Lib.hid (HB4.out.trans (hb.mono (bsz HB4.out HBZ.out)))
        have HQ5 : Hid (w5.cell? ⟨gb, 0, none⟩ = some (.int .i64 s)) := Lib.hid ((hb.cell (p := ⟨gb, 0, none⟩) HGL.out).trans HQ4.out)
        have HS5 := Lib.hid (HS4.out.below hb (Nat.le_refl _))
        have HL5 : Hid (gb < w5.heap.size) := Lib.hid (Nat.lt_of_lt_of_le HGL.out hb.size)
        clear hp hb
        refine hK.out _ _ (Wl.Kn.on trivial HQ5.out) (fun hk => ?_)
        clear hK K
        refine Wl.take0 (i := 17) (v := .bool false) rfl (by kernel_rfl) (by kernel_rfl) (by kernel_rfl) (by kernel_rfl) (fun _ _ _ h => h) (.inl ⟨by kernel_rfl, ?_⟩) hk ?_
        · intro wx hSw
          clear hSw hk
          go_simp
          try first | with_reducible rfl | kernel_rfl
        simp only [Act.put, List.getElem_toArray, List.getElem_cons_succ, List.getElem_cons_zero, List.setIfInBounds_toArray, List.set_cons_succ, List.set_cons_zero]
        refine Wl.take0 (i := 18) (v := .bool false) rfl (by kernel_rfl) (by kernel_rfl) (by kernel_rfl) (by kernel_rfl) (fun _ _ _ h => h) (.inl ⟨by kernel_rfl, ?_⟩) hk ?_
        · intro wx hSw
          clear hSw hk
          go_simp
          try first | with_reducible rfl | kernel_rfl
        simp only [Act.put, List.getElem_toArray, List.getElem_cons_succ, List.getElem_cons_zero, List.setIfInBounds_toArray, List.set_cons_succ, List.set_cons_zero]
        refine Wl.take0 (i := 19) (v := .bool false) rfl (by kernel_rfl) (by kernel_rfl) (by kernel_rfl) (by kernel_rfl) (fun _ _ _ h => h) (.inl ⟨by kernel_rfl, ?_⟩) hk ?_
        · intro wx hSw
          clear hSw hk
          go_simp
          try first | with_reducible rfl | kernel_rfl
        simp only [Act.put, List.getElem_toArray, List.getElem_cons_succ, List.getElem_cons_zero, List.setIfInBounds_toArray, List.set_cons_succ, List.set_cons_zero]
        refine Wl.take0 (i := 20) (v := .pointer (some ⟨B, 0, none⟩)) rfl (by kernel_rfl) (by kernel_rfl) (by kernel_rfl) (by kernel_rfl) (fun _ _ _ h => h) (.inl ⟨by kernel_rfl, ?_⟩) hk ?_
        · intro wx hSw
          clear hSw hk
          go_simp
          try first | with_reducible rfl | kernel_rfl
        simp only [Act.put, List.getElem_toArray, List.getElem_cons_succ, List.getElem_cons_zero, List.setIfInBounds_toArray, List.set_cons_succ, List.set_cons_zero]
        refine Wl.take0 (i := 22) (v := .slice (some ⟨gb, 0, none⟩) n cp) rfl (by kernel_rfl) (by kernel_rfl) (by kernel_rfl) (by kernel_rfl) (fun _ _ _ h => h) (.inl ⟨by kernel_rfl, ?_⟩) hk ?_
        · intro wx hSw
          clear hSw hk
          go_simp
          try first | with_reducible rfl | kernel_rfl
        simp only [Act.put, List.getElem_toArray, List.getElem_cons_succ, List.getElem_cons_zero, List.setIfInBounds_toArray, List.set_cons_succ, List.set_cons_zero]
        refine Wl.take0 (i := 23) (v := .slice (some AD) (n - 1) (cp - 1)) rfl (by kernel_rfl) (by kernel_rfl) (by kernel_rfl) (by kernel_rfl) (fun _ _ _ h => h) (.inl ⟨by kernel_rfl, ?_⟩) hk ?_
        · intro wx hSw
          rw [← hAD]
          by_cases hc : cp = 1
          · subst hc
            have hn1 : n = 1 := by omega
            subst hn1
            clear hSw hk
            go_simp
            try first | with_reducible rfl | kernel_rfl
          have hq1 : (1 : Int) ≤ (n : Int) := by omega
          clear hSw hk
          go_simp
          try first | with_reducible rfl | kernel_rfl
        simp only [Act.put, List.getElem_toArray, List.getElem_cons_succ, List.getElem_cons_zero, List.setIfInBounds_toArray, List.set_cons_succ, List.set_cons_zero]
        refine Wl.one (i := 21) (by kernel_rfl) rfl (fun K hK => ?_)
        rw [if_pos (by kernel_rfl)]
        go_simp
        refine (Pl.Waits_any _ HP5.out).mono ?_
        rintro e w6 ⟨u2, rfl, own2, hb⟩
        have HP6 := Lib.hid (Pl.PoolAt.below HP5.out hb)
        have HB6 := Lib.hid (HB5.out.trans (hb.mono (bsz HB5.out HBZ.out)))
        have HQ6 : Hid (w6.cell? ⟨gb, 0, none⟩ = some (.int .i64 s)) := Lib.hid ((hb.cell (p := ⟨gb, 0, none⟩) HL5.out).trans HQ5.out)
        have HS6 := Lib.hid (HS5.out.below hb (Nat.le_refl _))
        have HL6 : Hid (gb < w6.heap.size) := Lib.hid (Nat.lt_of_lt_of_le HL5.out hb.size)
        have HO6 := Lib.hid (own2.sl intC_len)
        clear own2 hb
        refine hK.out _ _ (Wl.Kn.on trivial HQ6.out) (fun hk => ?_)
        clear hK K
        refine Wl.one (i := 24) (by kernel_rfl) rfl (fun K hK => ?_)
        rw [if_pos (by kernel_rfl)]
        go_simp
        refine (Pl.same_eq _ HO6.out HS6.out).mono ?_
        rintro e w7 ⟨rfl, hb⟩
        have HP7 := Lib.hid (Pl.PoolAt.below HP6.out hb)
        have HB7 := Lib.hid (HB6.out.trans (hb.mono (bsz HB6.out HBZ.out)))
        have HQ7 : Hid (w7.cell? ⟨gb, 0, none⟩ = some (.int .i64 s)) := Lib.hid ((hb.cell (p := ⟨gb, 0, none⟩) HL6.out).trans HQ6.out)
        clear hb
        refine hK.out _ _ (Wl.Kn.on trivial HQ7.out) (fun hk => ?_)
        clear hK K
        refine Wl.take0 (i := 25) (v := .bool false) rfl (by kernel_rfl) (by kernel_rfl) (by kernel_rfl) (by kernel_rfl) (fun _ _ _ h => h) (.inl ⟨by kernel_rfl, ?_⟩) hk ?_
        · intro wx hSw
          clear hSw hk
          go_simp
          try first | with_reducible rfl | kernel_rfl
        simp only [Act.put, List.getElem_toArray, List.getElem_cons_succ, List.getElem_cons_zero, List.setIfInBounds_toArray, List.set_cons_succ, List.set_cons_zero]
        refine Wl.take0 (i := 26) (v := .bool false) rfl (by kernel_rfl) (by kernel_rfl) (by kernel_rfl) (by kernel_rfl) (fun _ _ _ h => h) (.inl ⟨by kernel_rfl, ?_⟩) hk ?_
        · intro wx hSw
          clear hSw hk
          go_simp
          try first | with_reducible rfl | kernel_rfl
        simp only [Act.put, List.getElem_toArray, List.getElem_cons_succ, List.getElem_cons_zero, List.setIfInBounds_toArray, List.set_cons_succ, List.set_cons_zero]
        refine Wl.take0 (i := 27) (v := .bool false) rfl (by kernel_rfl) (by kernel_rfl) (by kernel_rfl) (by kernel_rfl) (fun _ _ _ h => h) (.inl ⟨by kernel_rfl, ?_⟩) hk ?_
        · intro wx hSw
          clear hSw hk
          go_simp
          try first | with_reducible rfl | kernel_rfl
        simp only [Act.put, List.getElem_toArray, List.getElem_cons_succ, List.getElem_cons_zero, List.setIfInBounds_toArray, List.set_cons_succ, List.set_cons_zero]
        refine Wl.done (by kernel_rfl) ?_ _
        clear hk
        go_wp2_with fail
        go_roundw
        case rel => exact ⟨k + 1, C, r, by omega, by go_num, Lib.hid ⟨HP7.out, HOK5.out, HB7.out⟩⟩
        case measure => simp [intOf]; omega
    · obtain rfl : k = x0.length := by omega
      go_wp2
      go_ret
      exact ⟨rfl, HB1.out.trans (HR.out.2.2.mono (by rw [← HBZ.out]; exact HB1.out.size))⟩

set_option maxRecDepth 100000 in
theorem contract (H : Type) (enc : TypeId × Value → H) (W : World) (base : Nat) (args : Array Value) (ds gs : List (DataW H)) (before : List MemPlace)
    (hval0 : ∀ (j : Nat) t v, Try.f5.params[j]? = some t → args[j]? = some v → Value.okWide Try.prog W .any base t v)
    (hW : DataW.Whole enc Try.prog Try.f5.params.toList Rows.poolFairSpec.vars false W args.toList ds gs before)
    (hsz0 : (DataW.weightsEach Try.prog (Try.f5.params.toList ++ Rows.poolFairSpec.plain.varTypes Try.prog) (ds ++ gs)).all (· ≤ reachBytes) = true) :
    Calls Try.prog 5 args W fun e W' => ∃ v, e = .returned v ∧ Rows.poolFairSpec.post enc Try.prog Try.f5 false true false false W args v W' := by
  have hval : ∀ (j : Nat) t v, Try.f5.params[j]? = some t → args[j]? = some v → Value.okWide Try.prog W .any base t v := hval0
  have hW' := hW
  obtain ⟨p, q, hA0, hV, rfl, hfz, hnd⟩ := hW
  have hA : DataW.TrodAll enc Try.prog W 0 (fun _ => true) true Try.f5.params.toList args.toList ds p := hA0
  rw [Try.params5] at hA hval
  have hsz := hsz0
  rw [Try.params5] at hsz
  obtain ⟨v0, vs0, d0, ds0, p0, q0, hargs, rfl, rfl, h0, r0⟩ := trodAll_cons hA
  obtain ⟨rfl, rfl, rfl⟩ := trodAll_nil r0
  obtain rfl : args = #[v0] := by cases args; simp_all
  obtain ⟨rfl, rfl⟩ := trodVars_none hV
  clear hA0 hval0
  have k0 := h0
  have lt0 : ∀ x ∈ p0, x.block < W.heap.size := by obtain ⟨m, hm⟩ := k0; exact DataW.trod_lt m _ _ _ hm
  obtain ⟨x0, w0, -, s0⟩ := open_pops (hval 0 22 v0 rfl rfl) k0
  have b0 : IsPOps.fits x0 := s0 (wt_arg hsz (j := 0) rfl rfl)
  refine (walk v0 x0 W w0 b0).mono fun e W' ⟨he, bel⟩ => ?_
  subst he
  exact ⟨_, rfl, _, _, _, [], _, [], hW', trodAll_mk1 (shut_bool Try.underlying4 _), (trodAll_cons_mk (Below.trod laidOut (by kernel_rfl) (of_decide_eq_true (by kernel_rfl)) k0 bel lt0) trodAll_mk0), rfl, bel.frame _, fun h => by cases h⟩

set_option maxRecDepth 100000 in
theorem lifted (os : Os) (started : os.Started) (H : Type) (enc : TypeId × Value → H) :
    ReturnsInHanded {} Try.checked os 5 .any (Rows.poolFairSpec.pre6 enc Try.prog Try.f5 Rows.poolFairRow.domain false) (Rows.poolFairSpec.post enc Try.prog Try.f5 false true false false) := by
  refine returnsInHanded_of_change_sized (C := Try.checked) own started (by kernel_rfl) Try.func5
    (ChangeSpec.witness6 (enc := enc) (C := Try.checked) false ⟨#[], #[.slice none 0 0], []⟩ 8 (by kernel_rfl) (by kernel_rfl) (by kernel_rfl) (by kernel_rfl)) ?_
  intro W base args ds gs before hval0 hW hcnd hsz _
  exact contract H enc W base args ds gs before hval0 hW hsz

theorem proved : Rows.PoolFairSaid :=
  OpenClaim.holds_of_wide 5 Try.f5 rfl rfl rfl rfl rfl rfl rfl ⟨rfl, rfl, rfl, rfl, rfl⟩ rfl rfl rfl rfl rfl (by kernel_rfl) Try.func5 (by kernel_rfl)
    (of_decide_eq_true (by kernel_rfl)) (by unfold Func.isWrapper; first | (rw [if_pos (by decide +kernel)]; kernel_rfl) | (rw [if_neg (by decide +kernel)]; exact ⟨rfl, rfl⟩))
    (fun os started H enc _ => lifted os started H enc)
end Go.Proofs.Ytmjodhhcdigagaa.poolFair
