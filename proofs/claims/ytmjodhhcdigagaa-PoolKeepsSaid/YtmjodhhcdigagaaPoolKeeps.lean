/- The law PoolKeeps returns true for every list of calls: no session has two connections, none has one and waits; while one waits, none is idle; there are no more than there may be; and the chapter's example holds. No condition. -/
import Derived.Test.YtmjodhhcdigagaaRd
import Derived.Test.YtmjodhhcdigagaaPkA
namespace Go.Proofs.Ytmjodhhcdigagaa.poolKeeps
open Go.ChangeShapes Go.WideShapes Go.ChangeAt Go.RowKit
open Go.ChangeMaps (open_string shut_string)
set_option linter.unusedVariables false

theorem own : ownKnob Try.prog.godebug = none := by kernel_rfl
theorem laidOut : laidOutB Try.prog = true := by kernel_rfl

open Go.Maps
set_option linter.unusedSimpArgs false
theorem bsz {B : Nat} {a w : World} (h : Below B a w) (e : a.heap.size = B) : B ≤ w.heap.size := e ▸ h.size
theorem op_cells {w : World} {b off k : Nat} {x : POp} (h : ∀ j u, (popC x)[j]? = some u → w.cell? ⟨b, off + (k * 2 + j), none⟩ = some u) :
    w.cell? ⟨b, off + k * 2, none⟩ = some (.int .i64 x.kind) ∧ w.cell? ⟨b, off + k * 2 + 1, none⟩ = some (.int .i64 x.n) := by
  have h0 := h 0 _ rfl; have h1 := h 1 _ rfl
  simp only [← Nat.add_assoc, Nat.add_zero] at h0 h1
  exact ⟨h0, h1⟩
theorem slr_tail {w : World} {gb n cp : Nat} {s : Int} {r : List Int} {AD : Addr} (h : SlR 1 intC w (.slice (some ⟨gb, 0, none⟩) n cp) (s :: r)) (hAD : (if cp = 1 then (⟨gb, 0, none⟩ : Addr) else ⟨gb, 1, none⟩) = AD) : SlR 1 intC w (.slice (some AD) (n - 1) (cp - 1)) r := by
  obtain ⟨a, cap, e, h1, h2, h4⟩ := h
  simp only [Value.slice.injEq] at e
  obtain ⟨rfl, rfl, rfl⟩ := e
  simp only [List.length_cons] at h1 ⊢
  refine ⟨some AD, cp - 1, rfl, by omega, by omega, .inr ?_⟩
  rcases h4 with ⟨e, -⟩ | ⟨b, off, sp, e, h5⟩
  · cases e
  · simp only [Option.some.injEq, Addr.mk.injEq] at e
    obtain ⟨rfl, rfl, rfl⟩ := e
    by_cases hr : r = []
    · obtain ⟨b, o, q⟩ := AD
      exact ⟨b, o, q, rfl, .inl hr⟩
    · have : 0 < r.length := by cases r with | nil => exact absurd rfl hr | cons _ _ => simp
      rw [if_neg (by omega)] at hAD
      subst hAD
      rcases h5 with h5 | ⟨-, hlt, hc⟩
      · cases h5
      · refine ⟨_, _, _, rfl, .inr ⟨rfl, hlt, fun i x hx j u hu => ?_⟩⟩
        have := hc (i + 1) x (by rw [List.getElem?_cons_succ]; exact hx) j u hu
        rw [← this]
        congr 2
        omega
set_option maxRecDepth 100000 in
set_option maxHeartbeats 32000000 in
theorem walk (v0 : Value) (x0 : (List POp)) (w : World) (w0 : IsPOps w v0 x0) (b0 : IsPOps.fits x0) :
    Calls Try.prog 4 #[v0] w fun e w' => e = .returned (.bool true) ∧ Below w.heap.size w w' := by
  have HW := Lib.hid w0.1
  clear b0
  have hmm := @run_makeMap Try.prog
  go_enter Try.func4, Try.ntmps4
  go_wp2_with fail
  refine (Pl.live_any _).mono ?_
  rintro e w1 ⟨rfl, hb1⟩
  have HB1 := Lib.hid hb1
  clear hb1
  go_wp2_with fail
  refine (Pl.new_any _).mono ?_
  rintro e w2 ⟨rfl, hn, hb2⟩
  obtain ⟨B, hB⟩ : ∃ q, w1.heap.size = q := ⟨_, rfl⟩
  rw [hB] at hn hb2 ⊢
  have HBZ := Lib.hid hB
  have HP2 := Lib.hid hn
  have HB2 := Lib.hid hb2
  clear hn hb2
  obtain ⟨a, cap, e0, h1, h2, -⟩ := id w0.1
  subst e0
  by_cases hl : 300 < x0.length
  · have hli : (300 : Int) < (x0.length : Int) := by omega
    clear w0
    go_wp2
    go_ret
    exact ⟨rfl, HB1.out.trans (HB2.out.mono (by rw [← HBZ.out]; exact HB1.out.size))⟩
  have hli : ¬ (300 : Int) < (x0.length : Int) := by omega
  clear w0
  go_wp2_with fail
  go_loopw [30] (fun i wr => ∃ (k : Nat) (cs : List Cn) (ws : List Int), k ≤ x0.length ∧ i = .int .i64 (k : Int) ∧ Hid (Pl.PoolAt wr B cs ws ∧ Pl.OkP cs ws ∧ Below B w1 wr)) (fun i _ => x0.length - (intOf i).toNat)
  case atStart => exact ⟨0, [], [], Nat.zero_le _, rfl, Lib.hid ⟨HP2.out, Pl.OkP.nil, HB2.out⟩⟩
  case round =>
    clear HP2 HB2
    obtain ⟨k, cs, ws, hk, rfl, HR⟩ := hrel
    by_cases hlt : k < x0.length
    · have hlti : (k : Int) < (x0.length : Int) := by omega
      obtain ⟨b, off, cp, e1, -, -, -, -, hcs⟩ : ∃ b off cp, Value.slice a x0.length cap = .slice (some ⟨b, off, none⟩) x0.length cp ∧ 0 < x0.length ∧ x0.length ≤ cp ∧ cp ≤ 9223372036854775807 ∧ b < w.heap.size ∧ ∀ i x, x0[i]? = some x → ∀ j u, (popC x)[j]? = some u → w.cell? ⟨b, off + (i * 2 + j), none⟩ = some u := by
        rcases SlR.cases HW.out with ⟨a2, c2, e, hnil⟩ | h
        · rw [hnil] at hlt; simp at hlt
        · exact h
      simp only [Value.slice.injEq] at e1
      obtain ⟨rfl, -, rfl⟩ := e1
      obtain ⟨x, hx⟩ : ∃ x, x0[k]? = some x := ⟨_, List.getElem?_eq_getElem hlt⟩
      have hcl : ∀ {ad : Addr} {q : Value}, w.cell? ad = some q → wr.cell? ad = some q := fun {ad q} h => by
        have hlt := World.block_lt_of_cell? _ _ h
        unfold World.cell? at h ⊢
        rw [HR.out.2.2.block _ (by have := HB1.out.size; have := HBZ.out; omega), HB1.out.block _ hlt]
        exact h
      obtain ⟨q0, q1⟩ := op_cells (w := wr) (fun j u hu => hcl (hcs k x hx j u hu))
      obtain ⟨W0, hW0⟩ : ∃ q, wr.alloc (.cells #[.int .i64 x.kind, .int .i64 x.n] 32) = q := ⟨_, rfl⟩
      have hb0 : Below wr.heap.size wr W0 := by rw [← hW0]; exact (Below.refl _ _).alloc (Nat.le_refl _) _
      obtain ⟨ob, hob⟩ : ∃ q, wr.heap.size = q := ⟨_, rfl⟩
      have HQW : Hid (W0.heap[ob]? = some (.cells #[.int .i64 x.kind, .int .i64 x.n] 32 (0, 0))) := Lib.hid (by rw [← hW0, ← hob]; exact heap_alloc_new _ _)
      have HPW := Lib.hid (Pl.PoolAt.below HR.out.1 hb0)
      have HOK := Lib.hid HR.out.2.1
      have HBW := Lib.hid (HR.out.2.2.trans (hb0.mono (bsz HR.out.2.2 HBZ.out)))
      have HOB : Hid (ob ≠ B) := Lib.hid (by have := HR.out.1.1.lt; omega)
      have ck0 : W0.cell? ⟨ob, 0, none⟩ = some (.int .i64 x.kind) := (cell_of_row W0 _ 0 _ _ _ HQW.out).trans rfl
      have ck1 : W0.cell? ⟨ob, 1, none⟩ = some (.int .i64 x.n) := (cell_of_row W0 _ 1 _ _ _ HQW.out).trans rfl
      clear hcs hcl hb0 HR hx
      go_wp2_with fail
      clear hW0 q0 q1
      refine (Pl.do_any x _ HPW.out HOK.out.sorted).mono ?_
      rintro e w4 ⟨rfl, hp4, ho4⟩
      have hok4 := Pl.ok_do HOK.out x
      obtain ⟨C, hC⟩ : ∃ q, Pl.doC x cs ws = q := ⟨_, rfl⟩
      obtain ⟨W, hW⟩ : ∃ q, Pl.doW x cs ws = q := ⟨_, rfl⟩
      rw [hC, hW] at hp4 hok4
      have HOK4 := Lib.hid hok4
      have HB4 : Hid (Below B w1 w4) := Lib.hid (ho4.below HBW.out (bsz HBW.out HBZ.out) (fun k hk => by rw [hk]; exact Nat.le_refl _))
      obtain ⟨W5, hW5⟩ : ∃ q, w4.alloc (.map #[] 0) = q := ⟨_, rfl⟩
      obtain ⟨bm, hbm⟩ : ∃ q, w4.heap.size = q := ⟨_, rfl⟩
      have hb5 : Below w4.heap.size w4 W5 := by rw [← hW5]; exact (Below.refl _ _).alloc (Nat.le_refl _) _
      have HM5 : Hid (Pk.OM W5 bm 0 (.map [])) := Lib.hid (by rw [← hW5, ← hbm]; exact World.ownsMap_made _ _ _ _)
      have HP5 := Lib.hid (Pl.PoolAt.below hp4 hb5)
      have HB5 := Lib.hid (HB4.out.trans (hb5.mono (bsz HB4.out HBZ.out)))
      have HBM : Hid (B ≤ bm) := Lib.hid (by rw [← hbm]; exact bsz HB4.out HBZ.out)
      have HC8 : Hid (C.length ≤ 8 ∧ W.length ≤ 4) := Lib.hid hp4.2
      clear hp4 ho4 hok4 hb5 ck0 ck1 HPW HBW HQW HOK hC hW
      go_wp2_with fail
      clear hW5 hbm
      refine (Pl.Conns_any _ HP5.out).mono ?_
      rintro e w6 ⟨u6, rfl, own6, hb⟩
      obtain ⟨a6, c6, rfl⟩ := own_slice own6
      obtain ⟨S5, hS5⟩ : ∃ q, W5.heap.size = q := ⟨_, rfl⟩
      have HP6 := Lib.hid (Pl.PoolAt.below HP5.out hb)
      have HB6 := Lib.hid (HB5.out.trans (hb.mono (bsz HB5.out HBZ.out)))
      have HM6 := Lib.hid (Pk.om_below HM5.out hb)
      have HO6 : Hid (OwnR 2 cnC 44 w6 S5 (.slice a6 C.length c6) C) := Lib.hid (by rw [← hS5]; exact own6)
      clear own6 hb hS5
      go_wp2_with fail
      go_loopw [8, 9, 41] (fun l i jv wr => ∃ (j : Nat) (I : Bool) (D : DataW Unit), j ≤ C.length ∧ l = .int .i64 (Pk.lastT C j) ∧ i = .bool I ∧ jv = .int .i64 (j : Int) ∧ Hid (I = true → ∃ (i : Nat) (x : Cn), C[i]? = some x ∧ x.sess = 0) ∧ Hid (Pl.PoolAt wr B C W ∧ Below B w1 wr ∧ Pk.OM wr bm j D ∧ Pk.Says D (Pk.seenC C j) ∧ OwnR 2 cnC 44 wr S5 (.slice a6 C.length c6) C)) (fun _ _ jv _ => C.length - (intOf jv).toNat)
      case atStart => exact ⟨0, false, .map [], Nat.zero_le _, rfl, rfl, rfl, Lib.hid (fun q => by cases q), Lib.hid ⟨HP6.out, HB6.out, HM6.out, Pk.Says.nil, HO6.out⟩⟩
      case round =>
        clear HP6 HB6 HM6 HO6 HP5 HB5 HM5
        obtain ⟨j, I, D, hj, rfl, rfl, rfl, HI, HS⟩ := hrel
        have hb8 : C.length ≤ 8 := HC8.out.1
        have hb4 : W.length ≤ 4 := HC8.out.2
        by_cases hjl : j < C.length
        · have hjli : (j : Int) < (C.length : Int) := by omega
          obtain ⟨b2, off2, cp2, e2, -, -, -, hb2l, hcs2⟩ : ∃ b off cp, Value.slice a6 C.length c6 = .slice (some ⟨b, off, none⟩) C.length cp ∧ 0 < C.length ∧ C.length ≤ cp ∧ cp ≤ 9223372036854775807 ∧ b < wr.heap.size ∧ ∀ i x, C[i]? = some x → ∀ j u, (cnC x)[j]? = some u → wr.cell? ⟨b, off + (i * 2 + j), none⟩ = some u := by
            rcases SlR.cases (HS.out.2.2.2.2.sl cnC_len) with ⟨a2, c2, e, hnil⟩ | h
            · rw [hnil] at hjl; simp at hjl
            · exact h
          simp only [Value.slice.injEq] at e2
          obtain ⟨rfl, -, rfl⟩ := e2
          obtain ⟨⟨tk, ss⟩, hx⟩ : ∃ x, C[j]? = some x := ⟨_, List.getElem?_eq_getElem hjl⟩
          obtain ⟨y0, y1⟩ := Pl.cn_cells (hcs2 j _ hx)
          have HG := Lib.hid hx
          have hle : ¬ tk ≤ Pk.lastT C j := by have := Pk.lastT_lt HOK4.out hx; simp only at this; omega
          have HLS : Hid (Value.int .i64 tk = .int .i64 (Pk.lastT C (j + 1))) := Lib.hid (by rw [Pk.lastT_succ hx])
          have hse := HOK4.out.sess _ _ hx
          have hs1 : ¬ ss < 0 := by simp only at hse; omega
          have hs2 : ¬ 6 < ss := by simp only at hse; omega
          obtain ⟨L, hL⟩ : ∃ q, Pk.lastT C j = q := ⟨_, rfl⟩
          rw [hL] at hle ⊢
          have HWF : Hid ((Lit.int .i64 ss).wf = true) := Lib.hid (Pk.wf_sess hse)
          obtain ⟨W7, hW7⟩ : ∃ q, wr.alloc (.cells #[.int .i64 tk, .int .i64 ss] 44) = q := ⟨_, rfl⟩
          obtain ⟨cb, hcb⟩ : ∃ q, wr.heap.size = q := ⟨_, rfl⟩
          have hb7 : Below wr.heap.size wr W7.drew := by rw [← hW7]; exact ((Below.refl _ _).alloc (Nat.le_refl _) _).drew
          have HBX : Hid (W7.drew.heap[cb]? = some (.cells #[.int .i64 tk, .int .i64 ss] 44 (0, 0))) := Lib.hid (by rw [← hW7, ← hcb]; exact heap_alloc_new _ _)
          have HP8 := Lib.hid (Pl.PoolAt.below HS.out.1 hb7)
          have HB8 := Lib.hid (HS.out.2.1.trans (hb7.mono (bsz HS.out.2.1 HBZ.out)))
          have HM8 := Lib.hid (Pk.om_below HS.out.2.2.1 hb7)
          have HSY := Lib.hid HS.out.2.2.2.1
          have HO8 := Lib.hid (HS.out.2.2.2.2.below hb7 (Nat.le_refl _))
          have k0 : W7.drew.cell? ⟨cb, 0, none⟩ = some (.int .i64 tk) := (cell_of_row W7.drew _ 0 _ _ _ HBX.out).trans rfl
          have k1 : W7.drew.cell? ⟨cb, 1, none⟩ = some (.int .i64 ss) := (cell_of_row W7.drew _ 1 _ _ _ HBX.out).trans rfl
          have HQ8 : Hid (W7.drew.cell? ⟨cb, 0, none⟩ = some (.int .i64 tk) ∧ W7.drew.cell? ⟨cb, 1, none⟩ = some (.int .i64 ss) ∧ (Instr.lookup Pk.mT (.map (some bm)) (.int .i64 ss) false).run Try.prog W7.drew = .ok (.bool (Pk.seenC C j ss)) W7.drew) := Lib.hid ⟨k0, k1, Pk.look HM8.out HSY.out HWF.out⟩
          clear hcs2 hx hb7 HS hse hb2l hL
          go_upto_region 15 with fail
          clear hW7 y0 y1 hcb
          by_cases hs0 : ss = 0
          · subst hs0
            clear hs1 hs2
            refine Wl.start 999 (fun _ => True) (fun u => u.cell? ⟨cb, 0, none⟩ = some (.int .i64 tk) ∧ u.cell? ⟨cb, 1, none⟩ = some (.int .i64 0) ∧ (Instr.lookup Pk.mT (.map (some bm)) (.int .i64 0) false).run Try.prog u = .ok (.bool (Pk.seenC C j 0)) u) (by kernel_rfl) trivial HQ8.out (fun hk => ?_)
            refine Wl.take0 (i := 0) (v := .pointer (some ⟨cb, 0, none⟩)) rfl (by kernel_rfl) (by kernel_rfl) (by kernel_rfl) (by kernel_rfl) (fun _ _ _ h => h) (.inl ⟨by kernel_rfl, ?_⟩) hk ?_
            · intro wx hSw
              clear hSw hk
              go_simp
              try first | with_reducible rfl | kernel_rfl
            simp only [Act.put, List.getElem_toArray, List.getElem_cons_succ, List.getElem_cons_zero, List.setIfInBounds_toArray, List.set_cons_succ, List.set_cons_zero]
            refine Wl.take0 (i := 1) (v := .int .i64 tk) rfl (by kernel_rfl) (by kernel_rfl) (by kernel_rfl) (by kernel_rfl) (fun _ _ _ h => h) (.inl ⟨by kernel_rfl, ?_⟩) hk ?_
            · intro wx hSw
              have cc := hSw.1
              clear hSw hk
              go_simp
              try first | with_reducible rfl | kernel_rfl
            simp only [Act.put, List.getElem_toArray, List.getElem_cons_succ, List.getElem_cons_zero, List.setIfInBounds_toArray, List.set_cons_succ, List.set_cons_zero]
            refine Wl.take0 (i := 2) (v := .int .i64 L) rfl (by kernel_rfl) (by kernel_rfl) (by kernel_rfl) (by kernel_rfl) (fun _ _ _ h => h) (.inl ⟨by kernel_rfl, ?_⟩) hk ?_
            · intro wx hSw
              clear hSw hk
              go_simp
              try first | with_reducible rfl | kernel_rfl
            simp only [Act.put, List.getElem_toArray, List.getElem_cons_succ, List.getElem_cons_zero, List.setIfInBounds_toArray, List.set_cons_succ, List.set_cons_zero]
            refine Wl.take0 (i := 3) (v := .bool false) rfl (by kernel_rfl) (by kernel_rfl) (by kernel_rfl) (by kernel_rfl) (fun _ _ _ h => h) (.inl ⟨by kernel_rfl, ?_⟩) hk ?_
            · intro wx hSw
              clear hSw hk
              go_simp
              try first | with_reducible rfl | kernel_rfl
            simp only [Act.put, List.getElem_toArray, List.getElem_cons_succ, List.getElem_cons_zero, List.setIfInBounds_toArray, List.set_cons_succ, List.set_cons_zero]
            refine Wl.take0 (i := 4) (v := .bool false) rfl (by kernel_rfl) (by kernel_rfl) (by kernel_rfl) (by kernel_rfl) (fun _ _ _ h => h) (.inl ⟨by kernel_rfl, ?_⟩) hk ?_
            · intro wx hSw
              clear hSw hk
              go_simp
              try first | with_reducible rfl | kernel_rfl
            simp only [Act.put, List.getElem_toArray, List.getElem_cons_succ, List.getElem_cons_zero, List.setIfInBounds_toArray, List.set_cons_succ, List.set_cons_zero]
            refine Wl.take0 (i := 5) (v := .pointer (some ⟨cb, 1, none⟩)) rfl (by kernel_rfl) (by kernel_rfl) (by kernel_rfl) (by kernel_rfl) (fun _ _ _ h => h) (.inl ⟨by kernel_rfl, ?_⟩) hk ?_
            · intro wx hSw
              clear hSw hk
              go_simp
              try first | with_reducible rfl | kernel_rfl
            simp only [Act.put, List.getElem_toArray, List.getElem_cons_succ, List.getElem_cons_zero, List.setIfInBounds_toArray, List.set_cons_succ, List.set_cons_zero]
            refine Wl.take0 (i := 6) (v := .int .i64 0) rfl (by kernel_rfl) (by kernel_rfl) (by kernel_rfl) (by kernel_rfl) (fun _ _ _ h => h) (.inl ⟨by kernel_rfl, ?_⟩) hk ?_
            · intro wx hSw
              have cc := hSw.2.1
              clear hSw hk
              go_simp
              try first | with_reducible rfl | kernel_rfl
            simp only [Act.put, List.getElem_toArray, List.getElem_cons_succ, List.getElem_cons_zero, List.setIfInBounds_toArray, List.set_cons_succ, List.set_cons_zero]
            refine Wl.take0 (i := 7) (v := .bool false) rfl (by kernel_rfl) (by kernel_rfl) (by kernel_rfl) (by kernel_rfl) (fun _ _ _ h => h) (.inl ⟨by kernel_rfl, ?_⟩) hk ?_
            · intro wx hSw
              clear hSw hk
              go_simp
              try first | with_reducible rfl | kernel_rfl
            simp only [Act.put, List.getElem_toArray, List.getElem_cons_succ, List.getElem_cons_zero, List.setIfInBounds_toArray, List.set_cons_succ, List.set_cons_zero]
            refine Wl.take0 (i := 8) (v := .bool false) rfl (by kernel_rfl) (by kernel_rfl) (by kernel_rfl) (by kernel_rfl) (fun _ _ _ h => h) (.inl ⟨by kernel_rfl, ?_⟩) hk ?_
            · intro wx hSw
              clear hSw hk
              go_simp
              try first | with_reducible rfl | kernel_rfl
            simp only [Act.put, List.getElem_toArray, List.getElem_cons_succ, List.getElem_cons_zero, List.setIfInBounds_toArray, List.set_cons_succ, List.set_cons_zero]
            refine Wl.take0 (i := 9) (v := .bool false) rfl (by kernel_rfl) (by kernel_rfl) (by kernel_rfl) (by kernel_rfl) (fun _ _ _ h => h) (.inl ⟨by kernel_rfl, ?_⟩) hk ?_
            · intro wx hSw
              clear hSw hk
              go_simp
              try first | with_reducible rfl | kernel_rfl
            simp only [Act.put, List.getElem_toArray, List.getElem_cons_succ, List.getElem_cons_zero, List.setIfInBounds_toArray, List.set_cons_succ, List.set_cons_zero]
            refine Wl.take0 (i := 10) (v := .pointer (some ⟨cb, 1, none⟩)) rfl (by kernel_rfl) (by kernel_rfl) (by kernel_rfl) (by kernel_rfl) (fun _ _ _ h => h) (.inl ⟨by kernel_rfl, ?_⟩) hk ?_
            · intro wx hSw
              clear hSw hk
              go_simp
              try first | with_reducible rfl | kernel_rfl
            simp only [Act.put, List.getElem_toArray, List.getElem_cons_succ, List.getElem_cons_zero, List.setIfInBounds_toArray, List.set_cons_succ, List.set_cons_zero]
            refine Wl.take0 (i := 11) (v := .int .i64 0) rfl (by kernel_rfl) (by kernel_rfl) (by kernel_rfl) (by kernel_rfl) (fun _ _ _ h => h) (.inl ⟨by kernel_rfl, ?_⟩) hk ?_
            · intro wx hSw
              have cc := hSw.2.1
              clear hSw hk
              go_simp
              try first | with_reducible rfl | kernel_rfl
            simp only [Act.put, List.getElem_toArray, List.getElem_cons_succ, List.getElem_cons_zero, List.setIfInBounds_toArray, List.set_cons_succ, List.set_cons_zero]
            refine Wl.take0 (i := 12) (v := .bool false) rfl (by kernel_rfl) (by kernel_rfl) (by kernel_rfl) (by kernel_rfl) (fun _ _ _ h => h) (.inl ⟨by kernel_rfl, ?_⟩) hk ?_
            · intro wx hSw
              clear hSw hk
              go_simp
              try first | with_reducible rfl | kernel_rfl
            simp only [Act.put, List.getElem_toArray, List.getElem_cons_succ, List.getElem_cons_zero, List.setIfInBounds_toArray, List.set_cons_succ, List.set_cons_zero]
            refine Wl.take0 (i := 13) (v := .bool false) rfl (by kernel_rfl) (by kernel_rfl) (by kernel_rfl) (by kernel_rfl) (fun _ _ _ h => h) (.inl ⟨by kernel_rfl, ?_⟩) hk ?_
            · intro wx hSw
              clear hSw hk
              go_simp
              try first | with_reducible rfl | kernel_rfl
            simp only [Act.put, List.getElem_toArray, List.getElem_cons_succ, List.getElem_cons_zero, List.setIfInBounds_toArray, List.set_cons_succ, List.set_cons_zero]
            refine Wl.take0 (i := 14) (v := .bool false) rfl (by kernel_rfl) (by kernel_rfl) (by kernel_rfl) (by kernel_rfl) (fun _ _ _ h => h) (.inl ⟨by kernel_rfl, ?_⟩) hk ?_
            · intro wx hSw
              clear hSw hk
              go_simp
              try first | with_reducible rfl | kernel_rfl
            simp only [Act.put, List.getElem_toArray, List.getElem_cons_succ, List.getElem_cons_zero, List.setIfInBounds_toArray, List.set_cons_succ, List.set_cons_zero]
            refine Wl.take0 (i := 15) (v := .pointer (some ⟨cb, 1, none⟩)) rfl (by kernel_rfl) (by kernel_rfl) (by kernel_rfl) (by kernel_rfl) (fun _ _ _ h => h) (.inl ⟨by kernel_rfl, ?_⟩) hk ?_
            · intro wx hSw
              clear hSw hk
              go_simp
              try first | with_reducible rfl | kernel_rfl
            simp only [Act.put, List.getElem_toArray, List.getElem_cons_succ, List.getElem_cons_zero, List.setIfInBounds_toArray, List.set_cons_succ, List.set_cons_zero]
            refine Wl.take0 (i := 16) (v := .int .i64 0) rfl (by kernel_rfl) (by kernel_rfl) (by kernel_rfl) (by kernel_rfl) (fun _ _ _ h => h) (.inl ⟨by kernel_rfl, ?_⟩) hk ?_
            · intro wx hSw
              have cc := hSw.2.1
              clear hSw hk
              go_simp
              try first | with_reducible rfl | kernel_rfl
            simp only [Act.put, List.getElem_toArray, List.getElem_cons_succ, List.getElem_cons_zero, List.setIfInBounds_toArray, List.set_cons_succ, List.set_cons_zero]
            refine Wl.take0 (i := 17) (v := .bool false) rfl (by kernel_rfl) (by kernel_rfl) (by kernel_rfl) (by kernel_rfl) (fun _ _ _ h => h) (.inl ⟨by kernel_rfl, ?_⟩) hk ?_
            · intro wx hSw
              clear hSw hk
              go_simp
              try first | with_reducible rfl | kernel_rfl
            simp only [Act.put, List.getElem_toArray, List.getElem_cons_succ, List.getElem_cons_zero, List.setIfInBounds_toArray, List.set_cons_succ, List.set_cons_zero]
            refine Wl.take0 (i := 18) (v := .bool false) rfl (by kernel_rfl) (by kernel_rfl) (by kernel_rfl) (by kernel_rfl) (fun _ _ _ h => h) (.inl ⟨by kernel_rfl, ?_⟩) hk ?_
            · intro wx hSw
              clear hSw hk
              go_simp
              try first | with_reducible rfl | kernel_rfl
            simp only [Act.put, List.getElem_toArray, List.getElem_cons_succ, List.getElem_cons_zero, List.setIfInBounds_toArray, List.set_cons_succ, List.set_cons_zero]
            refine Wl.take0 (i := 19) (v := undef) rfl (by kernel_rfl) (by kernel_rfl) (by kernel_rfl) (by kernel_rfl) (fun _ _ _ h => h) (.inr ⟨by kernel_rfl, rfl⟩) hk ?_
            simp only [Act.put, List.getElem_toArray, List.getElem_cons_succ, List.getElem_cons_zero, List.setIfInBounds_toArray, List.set_cons_succ, List.set_cons_zero]
            refine Wl.take0 (i := 20) (v := undef) rfl (by kernel_rfl) (by kernel_rfl) (by kernel_rfl) (by kernel_rfl) (fun _ _ _ h => h) (.inr ⟨by kernel_rfl, rfl⟩) hk ?_
            simp only [Act.put, List.getElem_toArray, List.getElem_cons_succ, List.getElem_cons_zero, List.setIfInBounds_toArray, List.set_cons_succ, List.set_cons_zero]
            refine Wl.take0 (i := 21) (v := undef) rfl (by kernel_rfl) (by kernel_rfl) (by kernel_rfl) (by kernel_rfl) (fun _ _ _ h => h) (.inr ⟨by kernel_rfl, rfl⟩) hk ?_
            simp only [Act.put, List.getElem_toArray, List.getElem_cons_succ, List.getElem_cons_zero, List.setIfInBounds_toArray, List.set_cons_succ, List.set_cons_zero]
            refine Wl.take0 (i := 22) (v := undef) rfl (by kernel_rfl) (by kernel_rfl) (by kernel_rfl) (by kernel_rfl) (fun _ _ _ h => h) (.inr ⟨by kernel_rfl, rfl⟩) hk ?_
            simp only [Act.put, List.getElem_toArray, List.getElem_cons_succ, List.getElem_cons_zero, List.setIfInBounds_toArray, List.set_cons_succ, List.set_cons_zero]
            refine Wl.take0 (i := 23) (v := .bool false) rfl (by kernel_rfl) (by kernel_rfl) (by kernel_rfl) (by kernel_rfl) (fun _ _ _ h => h) (.inl ⟨by kernel_rfl, ?_⟩) hk ?_
            · intro wx hSw
              clear hSw hk
              go_simp
              try first | with_reducible rfl | kernel_rfl
            simp only [Act.put, List.getElem_toArray, List.getElem_cons_succ, List.getElem_cons_zero, List.setIfInBounds_toArray, List.set_cons_succ, List.set_cons_zero]
            refine Wl.take0 (i := 24) (v := .bool false) rfl (by kernel_rfl) (by kernel_rfl) (by kernel_rfl) (by kernel_rfl) (fun _ _ _ h => h) (.inl ⟨by kernel_rfl, ?_⟩) hk ?_
            · intro wx hSw
              clear hSw hk
              go_simp
              try first | with_reducible rfl | kernel_rfl
            simp only [Act.put, List.getElem_toArray, List.getElem_cons_succ, List.getElem_cons_zero, List.setIfInBounds_toArray, List.set_cons_succ, List.set_cons_zero]
            refine Wl.take0 (i := 25) (v := .bool false) rfl (by kernel_rfl) (by kernel_rfl) (by kernel_rfl) (by kernel_rfl) (fun _ _ _ h => h) (.inl ⟨by kernel_rfl, ?_⟩) hk ?_
            · intro wx hSw
              clear hSw hk
              go_simp
              try first | with_reducible rfl | kernel_rfl
            simp only [Act.put, List.getElem_toArray, List.getElem_cons_succ, List.getElem_cons_zero, List.setIfInBounds_toArray, List.set_cons_succ, List.set_cons_zero]
            refine Wl.take0 (i := 26) (v := .pointer (some ⟨cb, 1, none⟩)) rfl (by kernel_rfl) (by kernel_rfl) (by kernel_rfl) (by kernel_rfl) (fun _ _ _ h => h) (.inl ⟨by kernel_rfl, ?_⟩) hk ?_
            · intro wx hSw
              clear hSw hk
              go_simp
              try first | with_reducible rfl | kernel_rfl
            simp only [Act.put, List.getElem_toArray, List.getElem_cons_succ, List.getElem_cons_zero, List.setIfInBounds_toArray, List.set_cons_succ, List.set_cons_zero]
            refine Wl.take0 (i := 27) (v := .int .i64 0) rfl (by kernel_rfl) (by kernel_rfl) (by kernel_rfl) (by kernel_rfl) (fun _ _ _ h => h) (.inl ⟨by kernel_rfl, ?_⟩) hk ?_
            · intro wx hSw
              have cc := hSw.2.1
              clear hSw hk
              go_simp
              try first | with_reducible rfl | kernel_rfl
            simp only [Act.put, List.getElem_toArray, List.getElem_cons_succ, List.getElem_cons_zero, List.setIfInBounds_toArray, List.set_cons_succ, List.set_cons_zero]
            refine Wl.take0 (i := 28) (v := .bool false) rfl (by kernel_rfl) (by kernel_rfl) (by kernel_rfl) (by kernel_rfl) (fun _ _ _ h => h) (.inl ⟨by kernel_rfl, ?_⟩) hk ?_
            · intro wx hSw
              clear hSw hk
              go_simp
              try first | with_reducible rfl | kernel_rfl
            simp only [Act.put, List.getElem_toArray, List.getElem_cons_succ, List.getElem_cons_zero, List.setIfInBounds_toArray, List.set_cons_succ, List.set_cons_zero]
            refine Wl.take0 (i := 29) (v := .bool false) rfl (by kernel_rfl) (by kernel_rfl) (by kernel_rfl) (by kernel_rfl) (fun _ _ _ h => h) (.inl ⟨by kernel_rfl, ?_⟩) hk ?_
            · intro wx hSw
              clear hSw hk
              go_simp
              try first | with_reducible rfl | kernel_rfl
            simp only [Act.put, List.getElem_toArray, List.getElem_cons_succ, List.getElem_cons_zero, List.setIfInBounds_toArray, List.set_cons_succ, List.set_cons_zero]
            refine Wl.take0 (i := 30) (v := undef) rfl (by kernel_rfl) (by kernel_rfl) (by kernel_rfl) (by kernel_rfl) (fun _ _ _ h => h) (.inr ⟨by kernel_rfl, rfl⟩) hk ?_
            simp only [Act.put, List.getElem_toArray, List.getElem_cons_succ, List.getElem_cons_zero, List.setIfInBounds_toArray, List.set_cons_succ, List.set_cons_zero]
            refine Wl.take0 (i := 31) (v := undef) rfl (by kernel_rfl) (by kernel_rfl) (by kernel_rfl) (by kernel_rfl) (fun _ _ _ h => h) (.inr ⟨by kernel_rfl, rfl⟩) hk ?_
            simp only [Act.put, List.getElem_toArray, List.getElem_cons_succ, List.getElem_cons_zero, List.setIfInBounds_toArray, List.set_cons_succ, List.set_cons_zero]
            refine Wl.take0 (i := 32) (v := undef) rfl (by kernel_rfl) (by kernel_rfl) (by kernel_rfl) (by kernel_rfl) (fun _ _ _ h => h) (.inr ⟨by kernel_rfl, rfl⟩) hk ?_
            simp only [Act.put, List.getElem_toArray, List.getElem_cons_succ, List.getElem_cons_zero, List.setIfInBounds_toArray, List.set_cons_succ, List.set_cons_zero]
            refine Wl.take0 (i := 33) (v := undef) rfl (by kernel_rfl) (by kernel_rfl) (by kernel_rfl) (by kernel_rfl) (fun _ _ _ h => h) (.inr ⟨by kernel_rfl, rfl⟩) hk ?_
            simp only [Act.put, List.getElem_toArray, List.getElem_cons_succ, List.getElem_cons_zero, List.setIfInBounds_toArray, List.set_cons_succ, List.set_cons_zero]
            refine Wl.take0 (i := 34) (v := undef) rfl (by kernel_rfl) (by kernel_rfl) (by kernel_rfl) (by kernel_rfl) (fun _ _ _ h => h) (.inr ⟨by kernel_rfl, rfl⟩) hk ?_
            simp only [Act.put, List.getElem_toArray, List.getElem_cons_succ, List.getElem_cons_zero, List.setIfInBounds_toArray, List.set_cons_succ, List.set_cons_zero]
            refine Wl.take0 (i := 35) (v := undef) rfl (by kernel_rfl) (by kernel_rfl) (by kernel_rfl) (by kernel_rfl) (fun _ _ _ h => h) (.inr ⟨by kernel_rfl, rfl⟩) hk ?_
            simp only [Act.put, List.getElem_toArray, List.getElem_cons_succ, List.getElem_cons_zero, List.setIfInBounds_toArray, List.set_cons_succ, List.set_cons_zero]
            refine Wl.take0 (i := 36) (v := undef) rfl (by kernel_rfl) (by kernel_rfl) (by kernel_rfl) (by kernel_rfl) (fun _ _ _ h => h) (.inr ⟨by kernel_rfl, rfl⟩) hk ?_
            simp only [Act.put, List.getElem_toArray, List.getElem_cons_succ, List.getElem_cons_zero, List.setIfInBounds_toArray, List.set_cons_succ, List.set_cons_zero]
            refine Wl.take0 (i := 37) (v := .bool false) rfl (by kernel_rfl) (by kernel_rfl) (by kernel_rfl) (by kernel_rfl) (fun _ _ _ h => h) (.inl ⟨by kernel_rfl, ?_⟩) hk ?_
            · intro wx hSw
              clear hSw hk
              go_simp
              try first | with_reducible rfl | kernel_rfl
            simp only [Act.put, List.getElem_toArray, List.getElem_cons_succ, List.getElem_cons_zero, List.setIfInBounds_toArray, List.set_cons_succ, List.set_cons_zero]
            refine Wl.take0 (i := 38) (v := .bool false) rfl (by kernel_rfl) (by kernel_rfl) (by kernel_rfl) (by kernel_rfl) (fun _ _ _ h => h) (.inl ⟨by kernel_rfl, ?_⟩) hk ?_
            · intro wx hSw
              clear hSw hk
              go_simp
              try first | with_reducible rfl | kernel_rfl
            simp only [Act.put, List.getElem_toArray, List.getElem_cons_succ, List.getElem_cons_zero, List.setIfInBounds_toArray, List.set_cons_succ, List.set_cons_zero]
            refine Wl.done (by kernel_rfl) ?_ _
            clear hk
            have HSP : Hid (Pk.Says (D.put (.int .i64 0) (Pk.lb true)) (Pk.seenC C (j + 1))) := Lib.hid (by have := HSY.out.put HWF.out true; rw [Pk.seenC_succ HG.out] at this; exact this)
            cases I with
            | true =>
              go_wp2_with (at_mapUpdate; refine wpList_mapUpdate_own _ rfl _ _ _ Pk.mT rfl 3 4 Pk.lawI Try.underlying40 _ bm j D rfl HM8.out (by have := HC8.out; unfold maxLen; omega) (.int .i64 0) (.bool true) (.int .i64 0) rfl rfl (keyOf_int_mk Try.underlying3 HWF.out) _ [] (plainElem_bool Try.underlying4 true) ?_; intro w9 hownm hgrow; have HP9 := Lib.hid (Pk.pool_map HM8.out HP8.out hgrow); have HM9 := Lib.hid hownm; have HB9 := Lib.hid (Pk.below_map HB8.out hgrow HBM.out (bsz HB8.out HBZ.out)); have HO9 := Lib.hid (Pk.own_mapR HM8.out HO8.out hgrow); have hx9 := Pk.row_map HM8.out HBX.out hgrow; have k19 : w9.cell? ⟨cb, 1, none⟩ = some (.int .i64 0) := (cell_of_row w9 _ 1 _ _ _ hx9).trans rfl; clear hgrow hownm hx9 k0 k1)
              go_roundw
              case rel => exact ⟨j + 1, true, _, by omega, HLS.out, rfl, by go_num, Lib.hid (fun _ => HI.out rfl), Lib.hid ⟨HP9.out, HB9.out, HM9.out, HSP.out, HO9.out⟩⟩
              case measure => simp [intOf]; omega
            | false =>
              go_wp2_with (at_mapUpdate; refine wpList_mapUpdate_own _ rfl _ _ _ Pk.mT rfl 3 4 Pk.lawI Try.underlying40 _ bm j D rfl HM8.out (by have := HC8.out; unfold maxLen; omega) (.int .i64 0) (.bool true) (.int .i64 0) rfl rfl (keyOf_int_mk Try.underlying3 HWF.out) _ [] (plainElem_bool Try.underlying4 true) ?_; intro w9 hownm hgrow; have HP9 := Lib.hid (Pk.pool_map HM8.out HP8.out hgrow); have HM9 := Lib.hid hownm; have HB9 := Lib.hid (Pk.below_map HB8.out hgrow HBM.out (bsz HB8.out HBZ.out)); have HO9 := Lib.hid (Pk.own_mapR HM8.out HO8.out hgrow); have hx9 := Pk.row_map HM8.out HBX.out hgrow; have k19 : w9.cell? ⟨cb, 1, none⟩ = some (.int .i64 0) := (cell_of_row w9 _ 1 _ _ _ hx9).trans rfl; clear hgrow hownm hx9 k0 k1)
              go_roundw
              case rel => exact ⟨j + 1, true, _, by omega, HLS.out, rfl, by go_num, Lib.hid (fun _ => ⟨_, _, HG.out, rfl⟩), Lib.hid ⟨HP9.out, HB9.out, HM9.out, HSP.out, HO9.out⟩⟩
              case measure => simp [intOf]; omega
          · have hsn : (ss != 0) = true := by simpa using hs0
            have hsz : (ss == 0) = false := by simpa using hs0
            have hsno : Pk.seenC C j ss = false := Pk.seenC_no HOK4.out HG.out hs0
            have HHS : Hid (Pl.hasT ss C = tk) := Lib.hid (Pl.has_eq HOK4.out HG.out hs0)
            clear hs0
            refine Wl.start 999 (fun _ => True) (fun u => u.cell? ⟨cb, 0, none⟩ = some (.int .i64 tk) ∧ u.cell? ⟨cb, 1, none⟩ = some (.int .i64 ss) ∧ (Instr.lookup Pk.mT (.map (some bm)) (.int .i64 ss) false).run Try.prog u = .ok (.bool (Pk.seenC C j ss)) u) (by kernel_rfl) trivial HQ8.out (fun hk => ?_)
            refine Wl.take0 (i := 0) (v := .pointer (some ⟨cb, 0, none⟩)) rfl (by kernel_rfl) (by kernel_rfl) (by kernel_rfl) (by kernel_rfl) (fun _ _ _ h => h) (.inl ⟨by kernel_rfl, ?_⟩) hk ?_
            · intro wx hSw
              clear hSw hk
              go_simp
              try first | with_reducible rfl | kernel_rfl
            simp only [Act.put, List.getElem_toArray, List.getElem_cons_succ, List.getElem_cons_zero, List.setIfInBounds_toArray, List.set_cons_succ, List.set_cons_zero]
            refine Wl.take0 (i := 1) (v := .int .i64 tk) rfl (by kernel_rfl) (by kernel_rfl) (by kernel_rfl) (by kernel_rfl) (fun _ _ _ h => h) (.inl ⟨by kernel_rfl, ?_⟩) hk ?_
            · intro wx hSw
              have cc := hSw.1
              clear hSw hk
              go_simp
              try first | with_reducible rfl | kernel_rfl
            simp only [Act.put, List.getElem_toArray, List.getElem_cons_succ, List.getElem_cons_zero, List.setIfInBounds_toArray, List.set_cons_succ, List.set_cons_zero]
            refine Wl.take0 (i := 2) (v := .int .i64 L) rfl (by kernel_rfl) (by kernel_rfl) (by kernel_rfl) (by kernel_rfl) (fun _ _ _ h => h) (.inl ⟨by kernel_rfl, ?_⟩) hk ?_
            · intro wx hSw
              clear hSw hk
              go_simp
              try first | with_reducible rfl | kernel_rfl
            simp only [Act.put, List.getElem_toArray, List.getElem_cons_succ, List.getElem_cons_zero, List.setIfInBounds_toArray, List.set_cons_succ, List.set_cons_zero]
            refine Wl.take0 (i := 3) (v := .bool false) rfl (by kernel_rfl) (by kernel_rfl) (by kernel_rfl) (by kernel_rfl) (fun _ _ _ h => h) (.inl ⟨by kernel_rfl, ?_⟩) hk ?_
            · intro wx hSw
              clear hSw hk
              go_simp
              try first | with_reducible rfl | kernel_rfl
            simp only [Act.put, List.getElem_toArray, List.getElem_cons_succ, List.getElem_cons_zero, List.setIfInBounds_toArray, List.set_cons_succ, List.set_cons_zero]
            refine Wl.take0 (i := 4) (v := .bool false) rfl (by kernel_rfl) (by kernel_rfl) (by kernel_rfl) (by kernel_rfl) (fun _ _ _ h => h) (.inl ⟨by kernel_rfl, ?_⟩) hk ?_
            · intro wx hSw
              clear hSw hk
              go_simp
              try first | with_reducible rfl | kernel_rfl
            simp only [Act.put, List.getElem_toArray, List.getElem_cons_succ, List.getElem_cons_zero, List.setIfInBounds_toArray, List.set_cons_succ, List.set_cons_zero]
            refine Wl.take0 (i := 5) (v := .pointer (some ⟨cb, 1, none⟩)) rfl (by kernel_rfl) (by kernel_rfl) (by kernel_rfl) (by kernel_rfl) (fun _ _ _ h => h) (.inl ⟨by kernel_rfl, ?_⟩) hk ?_
            · intro wx hSw
              clear hSw hk
              go_simp
              try first | with_reducible rfl | kernel_rfl
            simp only [Act.put, List.getElem_toArray, List.getElem_cons_succ, List.getElem_cons_zero, List.setIfInBounds_toArray, List.set_cons_succ, List.set_cons_zero]
            refine Wl.take0 (i := 6) (v := .int .i64 ss) rfl (by kernel_rfl) (by kernel_rfl) (by kernel_rfl) (by kernel_rfl) (fun _ _ _ h => h) (.inl ⟨by kernel_rfl, ?_⟩) hk ?_
            · intro wx hSw
              have cc := hSw.2.1
              clear hSw hk
              go_simp
              try first | with_reducible rfl | kernel_rfl
            simp only [Act.put, List.getElem_toArray, List.getElem_cons_succ, List.getElem_cons_zero, List.setIfInBounds_toArray, List.set_cons_succ, List.set_cons_zero]
            refine Wl.take0 (i := 7) (v := .bool false) rfl (by kernel_rfl) (by kernel_rfl) (by kernel_rfl) (by kernel_rfl) (fun _ _ _ h => h) (.inl ⟨by kernel_rfl, ?_⟩) hk ?_
            · intro wx hSw
              clear hSw hk
              go_simp
              try first | with_reducible rfl | kernel_rfl
            simp only [Act.put, List.getElem_toArray, List.getElem_cons_succ, List.getElem_cons_zero, List.setIfInBounds_toArray, List.set_cons_succ, List.set_cons_zero]
            refine Wl.take0 (i := 8) (v := .bool false) rfl (by kernel_rfl) (by kernel_rfl) (by kernel_rfl) (by kernel_rfl) (fun _ _ _ h => h) (.inl ⟨by kernel_rfl, ?_⟩) hk ?_
            · intro wx hSw
              clear hSw hk
              go_simp
              try first | with_reducible rfl | kernel_rfl
            simp only [Act.put, List.getElem_toArray, List.getElem_cons_succ, List.getElem_cons_zero, List.setIfInBounds_toArray, List.set_cons_succ, List.set_cons_zero]
            refine Wl.take0 (i := 9) (v := .bool false) rfl (by kernel_rfl) (by kernel_rfl) (by kernel_rfl) (by kernel_rfl) (fun _ _ _ h => h) (.inl ⟨by kernel_rfl, ?_⟩) hk ?_
            · intro wx hSw
              clear hSw hk
              go_simp
              try first | with_reducible rfl | kernel_rfl
            simp only [Act.put, List.getElem_toArray, List.getElem_cons_succ, List.getElem_cons_zero, List.setIfInBounds_toArray, List.set_cons_succ, List.set_cons_zero]
            refine Wl.take0 (i := 10) (v := .pointer (some ⟨cb, 1, none⟩)) rfl (by kernel_rfl) (by kernel_rfl) (by kernel_rfl) (by kernel_rfl) (fun _ _ _ h => h) (.inl ⟨by kernel_rfl, ?_⟩) hk ?_
            · intro wx hSw
              clear hSw hk
              go_simp
              try first | with_reducible rfl | kernel_rfl
            simp only [Act.put, List.getElem_toArray, List.getElem_cons_succ, List.getElem_cons_zero, List.setIfInBounds_toArray, List.set_cons_succ, List.set_cons_zero]
            refine Wl.take0 (i := 11) (v := .int .i64 ss) rfl (by kernel_rfl) (by kernel_rfl) (by kernel_rfl) (by kernel_rfl) (fun _ _ _ h => h) (.inl ⟨by kernel_rfl, ?_⟩) hk ?_
            · intro wx hSw
              have cc := hSw.2.1
              clear hSw hk
              go_simp
              try first | with_reducible rfl | kernel_rfl
            simp only [Act.put, List.getElem_toArray, List.getElem_cons_succ, List.getElem_cons_zero, List.setIfInBounds_toArray, List.set_cons_succ, List.set_cons_zero]
            refine Wl.take0 (i := 12) (v := .bool false) rfl (by kernel_rfl) (by kernel_rfl) (by kernel_rfl) (by kernel_rfl) (fun _ _ _ h => h) (.inl ⟨by kernel_rfl, ?_⟩) hk ?_
            · intro wx hSw
              clear hSw hk
              go_simp
              try first | with_reducible rfl | kernel_rfl
            simp only [Act.put, List.getElem_toArray, List.getElem_cons_succ, List.getElem_cons_zero, List.setIfInBounds_toArray, List.set_cons_succ, List.set_cons_zero]
            refine Wl.take0 (i := 13) (v := .bool false) rfl (by kernel_rfl) (by kernel_rfl) (by kernel_rfl) (by kernel_rfl) (fun _ _ _ h => h) (.inl ⟨by kernel_rfl, ?_⟩) hk ?_
            · intro wx hSw
              clear hSw hk
              go_simp
              try first | with_reducible rfl | kernel_rfl
            simp only [Act.put, List.getElem_toArray, List.getElem_cons_succ, List.getElem_cons_zero, List.setIfInBounds_toArray, List.set_cons_succ, List.set_cons_zero]
            refine Wl.take0 (i := 14) (v := .bool false) rfl (by kernel_rfl) (by kernel_rfl) (by kernel_rfl) (by kernel_rfl) (fun _ _ _ h => h) (.inl ⟨by kernel_rfl, ?_⟩) hk ?_
            · intro wx hSw
              clear hSw hk
              go_simp
              try first | with_reducible rfl | kernel_rfl
            simp only [Act.put, List.getElem_toArray, List.getElem_cons_succ, List.getElem_cons_zero, List.setIfInBounds_toArray, List.set_cons_succ, List.set_cons_zero]
            refine Wl.take0 (i := 15) (v := .pointer (some ⟨cb, 1, none⟩)) rfl (by kernel_rfl) (by kernel_rfl) (by kernel_rfl) (by kernel_rfl) (fun _ _ _ h => h) (.inl ⟨by kernel_rfl, ?_⟩) hk ?_
            · intro wx hSw
              clear hSw hk
              go_simp
              try first | with_reducible rfl | kernel_rfl
            simp only [Act.put, List.getElem_toArray, List.getElem_cons_succ, List.getElem_cons_zero, List.setIfInBounds_toArray, List.set_cons_succ, List.set_cons_zero]
            refine Wl.take0 (i := 16) (v := .int .i64 ss) rfl (by kernel_rfl) (by kernel_rfl) (by kernel_rfl) (by kernel_rfl) (fun _ _ _ h => h) (.inl ⟨by kernel_rfl, ?_⟩) hk ?_
            · intro wx hSw
              have cc := hSw.2.1
              clear hSw hk
              go_simp
              try first | with_reducible rfl | kernel_rfl
            simp only [Act.put, List.getElem_toArray, List.getElem_cons_succ, List.getElem_cons_zero, List.setIfInBounds_toArray, List.set_cons_succ, List.set_cons_zero]
            refine Wl.take0 (i := 17) (v := .bool true) rfl (by kernel_rfl) (by kernel_rfl) (by kernel_rfl) (by kernel_rfl) (fun _ _ _ h => h) (.inl ⟨by kernel_rfl, ?_⟩) hk ?_
            · intro wx hSw
              clear hSw hk
              go_simp
              try first | with_reducible rfl | kernel_rfl
            simp only [Act.put, List.getElem_toArray, List.getElem_cons_succ, List.getElem_cons_zero, List.setIfInBounds_toArray, List.set_cons_succ, List.set_cons_zero]
            refine Wl.take0 (i := 18) (v := .bool true) rfl (by kernel_rfl) (by kernel_rfl) (by kernel_rfl) (by kernel_rfl) (fun _ _ _ h => h) (.inl ⟨by kernel_rfl, ?_⟩) hk ?_
            · intro wx hSw
              clear hSw hk
              go_simp
              try first | with_reducible rfl | kernel_rfl
            simp only [Act.put, List.getElem_toArray, List.getElem_cons_succ, List.getElem_cons_zero, List.setIfInBounds_toArray, List.set_cons_succ, List.set_cons_zero]
            refine Wl.take0 (i := 19) (v := .map (some bm)) rfl (by kernel_rfl) (by kernel_rfl) (by kernel_rfl) (by kernel_rfl) (fun _ _ _ h => h) (.inl ⟨by kernel_rfl, ?_⟩) hk ?_
            · intro wx hSw
              clear hSw hk
              go_simp
              try first | with_reducible rfl | kernel_rfl
            simp only [Act.put, List.getElem_toArray, List.getElem_cons_succ, List.getElem_cons_zero, List.setIfInBounds_toArray, List.set_cons_succ, List.set_cons_zero]
            refine Wl.take0 (i := 20) (v := .pointer (some ⟨cb, 1, none⟩)) rfl (by kernel_rfl) (by kernel_rfl) (by kernel_rfl) (by kernel_rfl) (fun _ _ _ h => h) (.inl ⟨by kernel_rfl, ?_⟩) hk ?_
            · intro wx hSw
              clear hSw hk
              go_simp
              try first | with_reducible rfl | kernel_rfl
            simp only [Act.put, List.getElem_toArray, List.getElem_cons_succ, List.getElem_cons_zero, List.setIfInBounds_toArray, List.set_cons_succ, List.set_cons_zero]
            refine Wl.take0 (i := 21) (v := .int .i64 ss) rfl (by kernel_rfl) (by kernel_rfl) (by kernel_rfl) (by kernel_rfl) (fun _ _ _ h => h) (.inl ⟨by kernel_rfl, ?_⟩) hk ?_
            · intro wx hSw
              have cc := hSw.2.1
              clear hSw hk
              go_simp
              try first | with_reducible rfl | kernel_rfl
            simp only [Act.put, List.getElem_toArray, List.getElem_cons_succ, List.getElem_cons_zero, List.setIfInBounds_toArray, List.set_cons_succ, List.set_cons_zero]
            refine Wl.take0 (i := 22) (v := .bool false) rfl (by kernel_rfl) (by kernel_rfl) (by kernel_rfl) (by kernel_rfl) (fun _ _ _ h => h) (.inl ⟨by kernel_rfl, ?_⟩) hk ?_
            · intro wx hSw
              have hl := hSw.2.2
              clear hSw hk
              go_simp
              try first | with_reducible rfl | kernel_rfl
            simp only [Act.put, List.getElem_toArray, List.getElem_cons_succ, List.getElem_cons_zero, List.setIfInBounds_toArray, List.set_cons_succ, List.set_cons_zero]
            refine Wl.take0 (i := 23) (v := .bool false) rfl (by kernel_rfl) (by kernel_rfl) (by kernel_rfl) (by kernel_rfl) (fun _ _ _ h => h) (.inl ⟨by kernel_rfl, ?_⟩) hk ?_
            · intro wx hSw
              clear hSw hk
              go_simp
              try first | with_reducible rfl | kernel_rfl
            simp only [Act.put, List.getElem_toArray, List.getElem_cons_succ, List.getElem_cons_zero, List.setIfInBounds_toArray, List.set_cons_succ, List.set_cons_zero]
            refine Wl.take0 (i := 24) (v := .bool false) rfl (by kernel_rfl) (by kernel_rfl) (by kernel_rfl) (by kernel_rfl) (fun _ _ _ h => h) (.inl ⟨by kernel_rfl, ?_⟩) hk ?_
            · intro wx hSw
              clear hSw hk
              go_simp
              try first | with_reducible rfl | kernel_rfl
            simp only [Act.put, List.getElem_toArray, List.getElem_cons_succ, List.getElem_cons_zero, List.setIfInBounds_toArray, List.set_cons_succ, List.set_cons_zero]
            refine Wl.take0 (i := 25) (v := .bool false) rfl (by kernel_rfl) (by kernel_rfl) (by kernel_rfl) (by kernel_rfl) (fun _ _ _ h => h) (.inl ⟨by kernel_rfl, ?_⟩) hk ?_
            · intro wx hSw
              clear hSw hk
              go_simp
              try first | with_reducible rfl | kernel_rfl
            simp only [Act.put, List.getElem_toArray, List.getElem_cons_succ, List.getElem_cons_zero, List.setIfInBounds_toArray, List.set_cons_succ, List.set_cons_zero]
            refine Wl.take0 (i := 26) (v := .pointer (some ⟨cb, 1, none⟩)) rfl (by kernel_rfl) (by kernel_rfl) (by kernel_rfl) (by kernel_rfl) (fun _ _ _ h => h) (.inl ⟨by kernel_rfl, ?_⟩) hk ?_
            · intro wx hSw
              clear hSw hk
              go_simp
              try first | with_reducible rfl | kernel_rfl
            simp only [Act.put, List.getElem_toArray, List.getElem_cons_succ, List.getElem_cons_zero, List.setIfInBounds_toArray, List.set_cons_succ, List.set_cons_zero]
            refine Wl.take0 (i := 27) (v := .int .i64 ss) rfl (by kernel_rfl) (by kernel_rfl) (by kernel_rfl) (by kernel_rfl) (fun _ _ _ h => h) (.inl ⟨by kernel_rfl, ?_⟩) hk ?_
            · intro wx hSw
              have cc := hSw.2.1
              clear hSw hk
              go_simp
              try first | with_reducible rfl | kernel_rfl
            simp only [Act.put, List.getElem_toArray, List.getElem_cons_succ, List.getElem_cons_zero, List.setIfInBounds_toArray, List.set_cons_succ, List.set_cons_zero]
            refine Wl.take0 (i := 28) (v := .bool true) rfl (by kernel_rfl) (by kernel_rfl) (by kernel_rfl) (by kernel_rfl) (fun _ _ _ h => h) (.inl ⟨by kernel_rfl, ?_⟩) hk ?_
            · intro wx hSw
              clear hSw hk
              go_simp
              try first | with_reducible rfl | kernel_rfl
            simp only [Act.put, List.getElem_toArray, List.getElem_cons_succ, List.getElem_cons_zero, List.setIfInBounds_toArray, List.set_cons_succ, List.set_cons_zero]
            refine Wl.take0 (i := 29) (v := .bool true) rfl (by kernel_rfl) (by kernel_rfl) (by kernel_rfl) (by kernel_rfl) (fun _ _ _ h => h) (.inl ⟨by kernel_rfl, ?_⟩) hk ?_
            · intro wx hSw
              clear hSw hk
              go_simp
              try first | with_reducible rfl | kernel_rfl
            simp only [Act.put, List.getElem_toArray, List.getElem_cons_succ, List.getElem_cons_zero, List.setIfInBounds_toArray, List.set_cons_succ, List.set_cons_zero]
            refine Wl.take0 (i := 30) (v := .pointer (some ⟨B, 0, none⟩)) rfl (by kernel_rfl) (by kernel_rfl) (by kernel_rfl) (by kernel_rfl) (fun _ _ _ h => h) (.inl ⟨by kernel_rfl, ?_⟩) hk ?_
            · intro wx hSw
              clear hSw hk
              go_simp
              try first | with_reducible rfl | kernel_rfl
            simp only [Act.put, List.getElem_toArray, List.getElem_cons_succ, List.getElem_cons_zero, List.setIfInBounds_toArray, List.set_cons_succ, List.set_cons_zero]
            refine Wl.take0 (i := 31) (v := .pointer (some ⟨cb, 1, none⟩)) rfl (by kernel_rfl) (by kernel_rfl) (by kernel_rfl) (by kernel_rfl) (fun _ _ _ h => h) (.inl ⟨by kernel_rfl, ?_⟩) hk ?_
            · intro wx hSw
              clear hSw hk
              go_simp
              try first | with_reducible rfl | kernel_rfl
            simp only [Act.put, List.getElem_toArray, List.getElem_cons_succ, List.getElem_cons_zero, List.setIfInBounds_toArray, List.set_cons_succ, List.set_cons_zero]
            refine Wl.take0 (i := 32) (v := .int .i64 ss) rfl (by kernel_rfl) (by kernel_rfl) (by kernel_rfl) (by kernel_rfl) (fun _ _ _ h => h) (.inl ⟨by kernel_rfl, ?_⟩) hk ?_
            · intro wx hSw
              have cc := hSw.2.1
              clear hSw hk
              go_simp
              try first | with_reducible rfl | kernel_rfl
            simp only [Act.put, List.getElem_toArray, List.getElem_cons_succ, List.getElem_cons_zero, List.setIfInBounds_toArray, List.set_cons_succ, List.set_cons_zero]
            refine Wl.take0 (i := 34) (v := .pointer (some ⟨cb, 0, none⟩)) rfl (by kernel_rfl) (by kernel_rfl) (by kernel_rfl) (by kernel_rfl) (fun _ _ _ h => h) (.inl ⟨by kernel_rfl, ?_⟩) hk ?_
            · intro wx hSw
              clear hSw hk
              go_simp
              try first | with_reducible rfl | kernel_rfl
            simp only [Act.put, List.getElem_toArray, List.getElem_cons_succ, List.getElem_cons_zero, List.setIfInBounds_toArray, List.set_cons_succ, List.set_cons_zero]
            refine Wl.take0 (i := 35) (v := .int .i64 tk) rfl (by kernel_rfl) (by kernel_rfl) (by kernel_rfl) (by kernel_rfl) (fun _ _ _ h => h) (.inl ⟨by kernel_rfl, ?_⟩) hk ?_
            · intro wx hSw
              have cc := hSw.1
              clear hSw hk
              go_simp
              try first | with_reducible rfl | kernel_rfl
            simp only [Act.put, List.getElem_toArray, List.getElem_cons_succ, List.getElem_cons_zero, List.setIfInBounds_toArray, List.set_cons_succ, List.set_cons_zero]
            refine Wl.one (i := 33) (by kernel_rfl) rfl (fun K hK => ?_)
            rw [if_pos (by kernel_rfl)]
            go_simp
            refine (Pl.has_any ss _ HP8.out).mono ?_
            rintro e w8 ⟨rfl, hp, hb⟩
            rw [HHS.out]
            have hq8 := (hb.block _ (row_lt (w := W7.drew) HBX.out)).trans HBX.out
            have HQ9 : Hid (w8.cell? ⟨cb, 0, none⟩ = some (.int .i64 tk) ∧ w8.cell? ⟨cb, 1, none⟩ = some (.int .i64 ss) ∧ (Instr.lookup Pk.mT (.map (some bm)) (.int .i64 ss) false).run Try.prog w8 = .ok (.bool (Pk.seenC C j ss)) w8) := Lib.hid ⟨(cell_of_row w8 _ 0 _ _ _ hq8).trans rfl, (cell_of_row w8 _ 1 _ _ _ hq8).trans rfl, Pk.look (Pk.om_below HM8.out hb) HSY.out HWF.out⟩
            have HBX9 := Lib.hid hq8
            have HP9 := Lib.hid hp
            have HM9 := Lib.hid (Pk.om_below HM8.out hb)
            have HB9 := Lib.hid (HB8.out.trans (hb.mono (bsz HB8.out HBZ.out)))
            have HO9 := Lib.hid (HO8.out.below hb (Nat.le_refl _))
            clear hp hb hq8
            refine hK.out _ _ (Wl.Kn.on trivial HQ9.out) (fun hk => ?_)
            clear hK K
            refine Wl.take0 (i := 36) (v := .bool false) rfl (by kernel_rfl) (by kernel_rfl) (by kernel_rfl) (by kernel_rfl) (fun _ _ _ h => h) (.inl ⟨by kernel_rfl, ?_⟩) hk ?_
            · intro wx hSw
              clear hSw hk
              go_simp
              try first | with_reducible rfl | kernel_rfl
            simp only [Act.put, List.getElem_toArray, List.getElem_cons_succ, List.getElem_cons_zero, List.setIfInBounds_toArray, List.set_cons_succ, List.set_cons_zero]
            refine Wl.take0 (i := 37) (v := .bool false) rfl (by kernel_rfl) (by kernel_rfl) (by kernel_rfl) (by kernel_rfl) (fun _ _ _ h => h) (.inl ⟨by kernel_rfl, ?_⟩) hk ?_
            · intro wx hSw
              clear hSw hk
              go_simp
              try first | with_reducible rfl | kernel_rfl
            simp only [Act.put, List.getElem_toArray, List.getElem_cons_succ, List.getElem_cons_zero, List.setIfInBounds_toArray, List.set_cons_succ, List.set_cons_zero]
            refine Wl.take0 (i := 38) (v := .bool false) rfl (by kernel_rfl) (by kernel_rfl) (by kernel_rfl) (by kernel_rfl) (fun _ _ _ h => h) (.inl ⟨by kernel_rfl, ?_⟩) hk ?_
            · intro wx hSw
              clear hSw hk
              go_simp
              try first | with_reducible rfl | kernel_rfl
            simp only [Act.put, List.getElem_toArray, List.getElem_cons_succ, List.getElem_cons_zero, List.setIfInBounds_toArray, List.set_cons_succ, List.set_cons_zero]
            refine Wl.done (by kernel_rfl) ?_ _
            clear hk
            clear k0 k1
            have k0 : w8.cell? ⟨cb, 0, none⟩ = some (.int .i64 tk) := HQ9.out.1
            have k1 : w8.cell? ⟨cb, 1, none⟩ = some (.int .i64 ss) := HQ9.out.2.1
            have HSP : Hid (Pk.Says (D.put (.int .i64 ss) (Pk.lb true)) (Pk.seenC C (j + 1))) := Lib.hid (by have := HSY.out.put HWF.out true; rw [Pk.seenC_succ HG.out] at this; exact this)
            cases I with
            | true =>
              go_wp2_with (at_mapUpdate; refine wpList_mapUpdate_own _ rfl _ _ _ Pk.mT rfl 3 4 Pk.lawI Try.underlying40 _ bm j D rfl HM9.out (by have := HC8.out; unfold maxLen; omega) (.int .i64 ss) (.bool true) (.int .i64 ss) rfl rfl (keyOf_int_mk Try.underlying3 HWF.out) _ [] (plainElem_bool Try.underlying4 true) ?_; intro wa hownm hgrow; have HPa := Lib.hid (Pk.pool_map HM9.out HP9.out hgrow); have HMa := Lib.hid hownm; have HBa := Lib.hid (Pk.below_map HB9.out hgrow HBM.out (bsz HB9.out HBZ.out)); have HOa := Lib.hid (Pk.own_mapR HM9.out HO9.out hgrow); have hxa := Pk.row_map HM9.out HBX9.out hgrow; have k1a : wa.cell? ⟨cb, 1, none⟩ = some (.int .i64 ss) := (cell_of_row wa _ 1 _ _ _ hxa).trans rfl; clear hgrow hownm hxa k0 k1)
              go_roundw
              case rel => exact ⟨j + 1, true, _, by omega, HLS.out, rfl, by go_num, Lib.hid (fun _ => HI.out rfl), Lib.hid ⟨HPa.out, HBa.out, HMa.out, HSP.out, HOa.out⟩⟩
              case measure => simp [intOf]; omega
            | false =>
              go_wp2_with (at_mapUpdate; refine wpList_mapUpdate_own _ rfl _ _ _ Pk.mT rfl 3 4 Pk.lawI Try.underlying40 _ bm j D rfl HM9.out (by have := HC8.out; unfold maxLen; omega) (.int .i64 ss) (.bool true) (.int .i64 ss) rfl rfl (keyOf_int_mk Try.underlying3 HWF.out) _ [] (plainElem_bool Try.underlying4 true) ?_; intro wa hownm hgrow; have HPa := Lib.hid (Pk.pool_map HM9.out HP9.out hgrow); have HMa := Lib.hid hownm; have HBa := Lib.hid (Pk.below_map HB9.out hgrow HBM.out (bsz HB9.out HBZ.out)); have HOa := Lib.hid (Pk.own_mapR HM9.out HO9.out hgrow); have hxa := Pk.row_map HM9.out HBX9.out hgrow; have k1a : wa.cell? ⟨cb, 1, none⟩ = some (.int .i64 ss) := (cell_of_row wa _ 1 _ _ _ hxa).trans rfl; clear hgrow hownm hxa k0 k1)
              go_roundw
              case rel => exact ⟨j + 1, false, _, by omega, HLS.out, rfl, by go_num, Lib.hid (fun q => by cases q), Lib.hid ⟨HPa.out, HBa.out, HMa.out, HSP.out, HOa.out⟩⟩
              case measure => simp [intOf]; omega
        · obtain rfl : j = C.length := by omega
          have HWF : Hid ((Lit.int .i64 (0 : Int)).wf = true) := Lib.hid (by decide)
          go_wp2_with (at_mapUpdate; refine wpList_mapUpdate_own _ rfl _ _ _ Pk.mT rfl 3 4 Pk.lawI Try.underlying40 _ bm C.length D rfl HS.out.2.2.1 (by have := HC8.out; unfold maxLen; omega) (.int .i64 0) (.bool false) (.int .i64 0) rfl rfl (keyOf_int_mk Try.underlying3 HWF.out) _ [] (plainElem_bool Try.underlying4 false) ?_; intro w7 hownm hgrow; have HP7 := Lib.hid (Pk.pool_map HS.out.2.2.1 HS.out.1 hgrow); have HM7 := Lib.hid hownm; have HB7 := Lib.hid (Pk.below_map HS.out.2.1 hgrow HBM.out (bsz HS.out.2.1 HBZ.out)); clear hgrow hownm)
          refine (Pl.Waits_any _ HP7.out).mono ?_
          rintro e w8 ⟨u8, rfl, own8, hb⟩
          obtain ⟨a8, c8, rfl⟩ := own_slice own8
          obtain ⟨S8, hS8⟩ : ∃ q, w7.heap.size = q := ⟨_, rfl⟩
          have HP8 := Lib.hid (Pl.PoolAt.below HP7.out hb)
          have HB8 := Lib.hid (HB7.out.trans (hb.mono (bsz HB7.out HBZ.out)))
          have HM8 := Lib.hid (Pk.om_below HM7.out hb)
          have HSZ : Hid (Pk.Says (D.put (.int .i64 0) (Pk.lb false)) (Pk.seenW C W 0)) := Lib.hid (by have := HS.out.2.2.2.1.put HWF.out false; rw [Pk.seenW_zero] at this; exact this)
          have HO8 : Hid (OwnR 1 intC 3 w8 S8 (.slice a8 W.length c8) W) := Lib.hid (by rw [← hS8]; exact own8)
          clear own8 hb hS8
          go_wp2_with fail
          go_loopw [100] (fun jv wr => ∃ (j : Nat) (D : DataW Unit), j ≤ W.length ∧ jv = .int .i64 (j : Int) ∧ Hid (Pl.PoolAt wr B C W ∧ Below B w1 wr ∧ Pk.OM wr bm (C.length + 1 + j) D ∧ Pk.Says D (Pk.seenW C W j) ∧ OwnR 1 intC 3 wr S8 (.slice a8 W.length c8) W)) (fun jv _ => W.length - (intOf jv).toNat)
          case atStart => exact ⟨0, _, Nat.zero_le _, rfl, Lib.hid ⟨HP8.out, HB8.out, HM8.out, HSZ.out, HO8.out⟩⟩
          case round =>
            clear HP8 HB8 HM8 HSZ HO8 HP7 HB7 HM7 HS HWF D
            obtain ⟨j, D, hj2, rfl, HS⟩ := hrel
            by_cases hjl : j < W.length
            · have hjli : (j : Int) < (W.length : Int) := by omega
              obtain ⟨b2, off2, cp2, e2, -, -, -, hb2l, hcs2⟩ : ∃ b off cp, Value.slice a8 W.length c8 = .slice (some ⟨b, off, none⟩) W.length cp ∧ 0 < W.length ∧ W.length ≤ cp ∧ cp ≤ 9223372036854775807 ∧ b < wr.heap.size ∧ ∀ i x, W[i]? = some x → ∀ j u, (intC x)[j]? = some u → wr.cell? ⟨b, off + (i * 1 + j), none⟩ = some u := by
                rcases SlR.cases (HS.out.2.2.2.2.sl intC_len) with ⟨a2, c2, e, hnil⟩ | h
                · rw [hnil] at hjl; simp at hjl
                · exact h
              simp only [Value.slice.injEq] at e2
              obtain ⟨rfl, -, rfl⟩ := e2
              obtain ⟨ss, hx⟩ : ∃ x, W[j]? = some x := ⟨_, List.getElem?_eq_getElem hjl⟩
              have y0 : wr.cell? ⟨b2, off2 + j, none⟩ = some (.int .i64 ss) := by simpa using hcs2 j _ hx 0 _ rfl
              have hwr := HOK4.out.wr ss (List.mem_of_getElem? hx)
              have HWF : Hid ((Lit.int .i64 ss).wf = true) := Lib.hid (Pk.wf_sess ⟨by omega, hwr.2⟩)
              have hs1 : ¬ ss < 1 := by omega
              have hs2 : ¬ 6 < ss := by omega
              have hlk : (Instr.lookup Pk.mT (.map (some bm)) (.int .i64 ss) false).run Try.prog wr = .ok (.bool false) wr := by
                have := Pk.look HS.out.2.2.1 HS.out.2.2.2.1 HWF.out
                rw [Pk.seenW_no HOK4.out hx] at this
                exact this
              have HSP : Hid (Pk.Says (D.put (.int .i64 ss) (Pk.lb true)) (Pk.seenW C W (j + 1))) := Lib.hid (by have := HS.out.2.2.2.1.put HWF.out true; rw [Pk.seenW_succ hx] at this; exact this)
              have hI : I = false := by
                cases I with
                | false => rfl
                | true =>
                  obtain ⟨i, y, hy, h0⟩ := HI.out rfl
                  exact absurd h0 (HOK4.out.busy (by intro e; rw [e] at hjl; simp at hjl) i y hy)
              subst hI
              have HPx := Lib.hid HS.out.1
              have HBx := Lib.hid HS.out.2.1
              have HMx := Lib.hid HS.out.2.2.1
              have HOx := Lib.hid HS.out.2.2.2.2
              clear hcs2 hx hwr HS hb2l
              go_wp2_with (at_mapUpdate; refine wpList_mapUpdate_own _ rfl _ _ _ Pk.mT rfl 3 4 Pk.lawI Try.underlying40 _ bm (C.length + 1 + j) D rfl HMx.out (by have := HC8.out; unfold maxLen; omega) (.int .i64 ss) (.bool true) (.int .i64 ss) rfl rfl (keyOf_int_mk Try.underlying3 HWF.out) _ [] (plainElem_bool Try.underlying4 true) ?_; intro w9 hownm hgrow; have HP9 := Lib.hid (Pk.pool_map HMx.out HPx.out hgrow); have HM9 := Lib.hid hownm; have HB9 := Lib.hid (Pk.below_map HBx.out hgrow HBM.out (bsz HBx.out HBZ.out)); have HO9 := Lib.hid (Pk.own_mapR HMx.out HOx.out hgrow); clear hgrow hownm)
              go_roundw
              case rel => exact ⟨j + 1, _, by omega, by go_num, Lib.hid ⟨HP9.out, HB9.out, HM9.out, HSP.out, HO9.out⟩⟩
              case measure => simp [intOf]; omega
            · obtain rfl : j = W.length := by omega
              have hC8 : ¬ (8 : Int) < (C.length : Int) := by have := HC8.out; omega
              have hW4 : ¬ (4 : Int) < (W.length : Int) := by have := HC8.out; omega
              have HPx := Lib.hid HS.out.1
              have HBx := Lib.hid HS.out.2.1
              clear HS HI
              go_wp2_with fail
              refine (Pl.Conns_any _ HPx.out).mono ?_
              rintro e w9 ⟨u9, rfl, own9, hb⟩
              obtain ⟨a9, c9, rfl⟩ := own_slice own9
              have HP9 := Lib.hid (Pl.PoolAt.below HPx.out hb)
              have HB9 := Lib.hid (HBx.out.trans (hb.mono (bsz HBx.out HBZ.out)))
              clear own9 hb
              go_wp2_with fail
              refine (Pl.Waits_any _ HP9.out).mono ?_
              rintro e w10 ⟨u10, rfl, own10, hb⟩
              obtain ⟨a10, c10, rfl⟩ := own_slice own10
              have HP10 := Lib.hid (Pl.PoolAt.below HP9.out hb)
              have HB10 := Lib.hid (HB9.out.trans (hb.mono (bsz HB9.out HBZ.out)))
              clear own10 hb
              go_wp2_with fail
              go_roundw
              case rel => exact ⟨k + 1, C, W, by omega, by go_num, Lib.hid ⟨HP10.out, HOK4.out, HB10.out⟩⟩
              case measure => simp [intOf]; omega
    · obtain rfl : k = x0.length := by omega
      go_wp2
      go_ret
      exact ⟨rfl, HB1.out.trans (HR.out.2.2.mono (by rw [← HBZ.out]; exact HB1.out.size))⟩

set_option maxRecDepth 100000 in
theorem contract (H : Type) (enc : TypeId × Value → H) (W : World) (base : Nat) (args : Array Value) (ds gs : List (DataW H)) (before : List MemPlace)
    (hval0 : ∀ (j : Nat) t v, Try.f4.params[j]? = some t → args[j]? = some v → Value.okWide Try.prog W .any base t v)
    (hW : DataW.Whole enc Try.prog Try.f4.params.toList Rows.poolKeepsSpec.vars false W args.toList ds gs before)
    (hsz0 : (DataW.weightsEach Try.prog (Try.f4.params.toList ++ Rows.poolKeepsSpec.plain.varTypes Try.prog) (ds ++ gs)).all (· ≤ reachBytes) = true) :
    Calls Try.prog 4 args W fun e W' => ∃ v, e = .returned v ∧ Rows.poolKeepsSpec.post enc Try.prog Try.f4 false true false false W args v W' := by
  have hval : ∀ (j : Nat) t v, Try.f4.params[j]? = some t → args[j]? = some v → Value.okWide Try.prog W .any base t v := hval0
  have hW' := hW
  obtain ⟨p, q, hA0, hV, rfl, hfz, hnd⟩ := hW
  have hA : DataW.TrodAll enc Try.prog W 0 (fun _ => true) true Try.f4.params.toList args.toList ds p := hA0
  rw [Try.params4] at hA hval
  have hsz := hsz0
  rw [Try.params4] at hsz
  obtain ⟨v0, vs0, d0, ds0, p0, q0, hargs, rfl, rfl, h0, r0⟩ := trodAll_cons hA
  obtain ⟨rfl, rfl, rfl⟩ := trodAll_nil r0
  obtain rfl : args = #[v0] := by cases args; simp_all
  obtain ⟨rfl, rfl⟩ := trodVars_none hV
  clear hA0 hval0
  have k0 := h0
  have lt0 : ∀ x ∈ p0, x.block < W.heap.size := by obtain ⟨m, hm⟩ := k0; exact DataW.trod_lt m _ _ _ hm
  obtain ⟨x0, w0, -, s0⟩ := open_pops (hval 0 22 v0 rfl rfl) k0
  have b0 : IsPOps.fits x0 := s0 (wt_arg hsz (j := 0) rfl rfl)
  refine (walk v0 x0 W w0 b0).mono fun e W' ⟨he, bel⟩ => ?_
  subst he
  exact ⟨_, rfl, _, _, _, [], _, [], hW', trodAll_mk1 (shut_bool Try.underlying4 _), (trodAll_cons_mk (Below.trod laidOut (by kernel_rfl) (of_decide_eq_true (by kernel_rfl)) k0 bel lt0) trodAll_mk0), rfl, bel.frame _, fun h => by cases h⟩

set_option maxRecDepth 100000 in
theorem lifted (os : Os) (started : os.Started) (H : Type) (enc : TypeId × Value → H) :
    ReturnsInHanded {} Try.checked os 4 .any (Rows.poolKeepsSpec.pre6 enc Try.prog Try.f4 Rows.poolKeepsRow.domain false) (Rows.poolKeepsSpec.post enc Try.prog Try.f4 false true false false) := by
  refine returnsInHanded_of_change_sized (C := Try.checked) own started (by kernel_rfl) Try.func4
    (ChangeSpec.witness6 (enc := enc) (C := Try.checked) false ⟨#[], #[.slice none 0 0], []⟩ 8 (by kernel_rfl) (by kernel_rfl) (by kernel_rfl) (by kernel_rfl)) ?_
  intro W base args ds gs before hval0 hW hcnd hsz _
  exact contract H enc W base args ds gs before hval0 hW hsz

theorem proved : Rows.PoolKeepsSaid :=
  OpenClaim.holds_of_wide 4 Try.f4 rfl rfl rfl rfl rfl rfl rfl ⟨rfl, rfl, rfl, rfl, rfl⟩ rfl rfl rfl rfl rfl (by kernel_rfl) Try.func4 (by kernel_rfl)
    (of_decide_eq_true (by kernel_rfl)) (by unfold Func.isWrapper; first | (rw [if_pos (by decide +kernel)]; kernel_rfl) | (rw [if_neg (by decide +kernel)]; exact ⟨rfl, rfl⟩))
    (fun os started H enc _ => lifted os started H enc)
end Go.Proofs.Ytmjodhhcdigagaa.poolKeeps
