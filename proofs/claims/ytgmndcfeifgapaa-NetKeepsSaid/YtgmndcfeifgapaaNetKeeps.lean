/- The law NetKeeps returns true for every list of calls: what is taken from a net was sent, or doubled, and not taken as often; what is under way is the rest; and the chapter's example holds. No condition. -/
import Derived.Test.YtgmndcfeifgapaaRd
import Derived.Test.YtgmndcfeifgapaaNkA
import Derived.Maps.AppendAt
namespace Go.Proofs.Ytgmndcfeifgapaa.netKeeps
open Go.ChangeShapes Go.WideShapes Go.ChangeAt Go.RowKit
open Go.ChangeMaps (open_string shut_string)
set_option linter.unusedVariables false

theorem own : ownKnob Try.prog.godebug = none := by kernel_rfl
theorem laidOut : laidOutB Try.prog = true := by kernel_rfl

set_option linter.unusedSimpArgs false
open Go.Maps
theorem bsz {B : Nat} {a w : World} (h : Below B a w) (e : a.heap.size = B) : B ≤ w.heap.size := e ▸ h.size
theorem op_cells {w : World} {b off k : Nat} {x : NOp} (h : ∀ j u, (opC x)[j]? = some u → w.cell? ⟨b, off + (k * 5 + j), none⟩ = some u) :
    w.cell? ⟨b, off + k * 5, none⟩ = some (.int .i64 x.kind) ∧ w.cell? ⟨b, off + k * 5 + 1, none⟩ = some (.int .i64 x.i) ∧ w.cell? ⟨b, off + k * 5 + 2, none⟩ = some (.int .i64 x.l.src) ∧ w.cell? ⟨b, off + k * 5 + 3, none⟩ = some (.int .i64 x.l.dst) ∧ w.cell? ⟨b, off + k * 5 + 4, none⟩ = some (.string x.l.bytes) := by
  have h0 := h 0 _ rfl; have h1 := h 1 _ rfl; have h2 := h 2 _ rfl; have h3 := h 3 _ rfl; have h4 := h 4 _ rfl
  simp only [← Nat.add_assoc, Nat.add_zero] at h0 h1 h2 h3 h4
  exact ⟨h0, h1, h2, h3, h4⟩
theorem wf_small {c : Int} (h : -1 ≤ c ∧ c ≤ 1000000) : (Lit.int .i64 c).wf = true := by
  simp [Lit.wf, IntKind.min, IntKind.max, IntKind.signed, IntKind.bits]; omega
set_option maxRecDepth 100000 in
set_option maxHeartbeats 16000000 in
theorem walk (v0 : Value) (x0 : (List NOp)) (w : World) (w0 : IsNOps w v0 x0) (b0 : IsNOps.fits x0) :
    Calls Try.prog 4 #[v0] w fun e w' => e = .returned (.bool true) ∧ Below w.heap.size w w' := by
  have HW := Lib.hid w0.1
  have HWX := Lib.hid w0.2
  clear b0
  have hmm := @run_makeMap Try.prog
  go_enter Try.func4, Try.ntmps4
  go_wp2_with fail
  refine (Nt.live_any _).mono ?_
  rintro e w1 ⟨rfl, hb1⟩
  have HB1 := Lib.hid hb1
  clear hb1
  go_wp2_with fail
  refine (Nt.new_any _).mono ?_
  rintro e w2 ⟨rfl, hn, hb2⟩
  obtain ⟨B, hB⟩ : ∃ q, w1.heap.size = q := ⟨_, rfl⟩
  rw [hB] at hn hb2 ⊢
  have HBZ := Lib.hid hB
  obtain ⟨W3, hW3⟩ : ∃ q, w2.alloc (.map #[] 0) = q := ⟨_, rfl⟩
  have hb3 : Below w2.heap.size w2 W3 := by rw [← hW3]; exact (Below.refl _ _).alloc (Nat.le_refl _) _
  obtain ⟨bm, hbm⟩ : ∃ q, w2.heap.size = q := ⟨_, rfl⟩
  have HM3 : Hid (Nk.OM W3 bm 0 (.map [])) := Lib.hid (by rw [← hW3, ← hbm]; exact World.ownsMap_made _ _ _ _)
  have HN3 := Lib.hid (hn.below hb3)
  have HB3 : Hid (Below B w1 W3) := Lib.hid (hb2.trans (hb3.mono (bsz hb2 hB)))
  have HB2 := Lib.hid hb2
  have HBM : Hid (B ≤ bm) := Lib.hid (by rw [← hbm]; exact bsz hb2 hB)
  clear hn hb2 hb3
  obtain ⟨a, cap, e0, h1, h2, -⟩ := id w0.1
  subst e0
  by_cases hl : 300 < x0.length
  · have hli : (300 : Int) < (x0.length : Int) := by omega
    clear w0
    go_wp2
    go_ret
    exact ⟨rfl, HB1.out.trans (HB2.out.mono (by rw [← HBZ.out]; exact HB1.out.size))⟩
  have hli : ¬ (300 : Int) < (x0.length : Int) := by omega
  clear w0
  go_wp2_with fail
  clear hW3
  go_loopw [6, 31] (fun m i wr => ∃ (k : Nat) (v : Value) (ls : List Letr) (D : DataW Unit) (n : Nat), k ≤ x0.length ∧ m = .int .i64 (ls.length : Int) ∧ i = .int .i64 (k : Int) ∧ Hid (Nt.NetN wr B B v ls ∧ Nt.okL ls ∧ Nk.OM wr bm n D ∧ n ≤ 2 * k ∧ Nk.Counts D ls ∧ Below B w1 wr)) (fun _ i _ => x0.length - (intOf i).toNat)
  case atStart => exact ⟨0, _, [], _, 0, Nat.zero_le _, rfl, rfl, Lib.hid ⟨HN3.out, Nt.okL.nil, HM3.out, Nat.zero_le _, Nk.counts_nil, HB3.out⟩⟩
  case round =>
    clear HN3 HM3 HB3
    obtain ⟨k, v, ls, D, n, hk, rfl, rfl, HR⟩ := hrel
    by_cases hlt : k < x0.length
    · have hlti : (k : Int) < (x0.length : Int) := by omega
      obtain ⟨b, off, cp, e1, -, -, -, -, hcs⟩ : ∃ b off cp, Value.slice a x0.length cap = .slice (some ⟨b, off, none⟩) x0.length cp ∧ 0 < x0.length ∧ x0.length ≤ cp ∧ cp ≤ 9223372036854775807 ∧ b < w.heap.size ∧ ∀ i x, x0[i]? = some x → ∀ j u, (opC x)[j]? = some u → w.cell? ⟨b, off + (i * 5 + j), none⟩ = some u := by
        rcases SlR.cases HW.out with ⟨a2, c2, e, hnil⟩ | h
        · rw [hnil] at hlt; simp at hlt
        · exact h
      simp only [Value.slice.injEq] at e1
      obtain ⟨rfl, -, rfl⟩ := e1
      obtain ⟨x, hx⟩ : ∃ x, x0[k]? = some x := ⟨_, List.getElem?_eq_getElem hlt⟩
      have hcl : ∀ {ad : Addr} {q : Value}, w.cell? ad = some q → wr.cell? ad = some q := fun {ad q} h => by
        have hlt := World.block_lt_of_cell? _ _ h
        unfold World.cell? at h ⊢
        rw [HR.out.2.2.2.2.2.block _ (by have := HB1.out.size; have := HBZ.out; omega), HB1.out.block _ hlt]
        exact h
      obtain ⟨q0, q1, q2, q3, q4⟩ := op_cells (w := wr) (fun j u hu => hcl (hcs k x hx j u hu))
      have hoffk : off + k * 5 + 5 ≤ off + k * 5 + 5 := Nat.le_refl _
      obtain ⟨W0, hW0⟩ : ∃ q, wr.alloc (.cells #[.int .i64 x.kind, .int .i64 x.i, .int .i64 x.l.src, .int .i64 x.l.dst, .string x.l.bytes] 33) = q := ⟨_, rfl⟩
      have hb0 : Below wr.heap.size wr W0 := by rw [← hW0]; exact (Below.refl _ _).alloc (Nat.le_refl _) _
      obtain ⟨ob, hob⟩ : ∃ q, wr.heap.size = q := ⟨_, rfl⟩
      have HQW : Hid (W0.heap[ob]? = some (.cells #[.int .i64 x.kind, .int .i64 x.i, .int .i64 x.l.src, .int .i64 x.l.dst, .string x.l.bytes] 33 (0, 0))) := Lib.hid (by rw [← hW0, ← hob]; exact heap_alloc_new _ _)
      have HNW := Lib.hid (HR.out.1.below hb0)
      have HMW := Lib.hid (Nk.om_below HR.out.2.2.1 hb0)
      have HOK := Lib.hid HR.out.2.1
      have HNK := Lib.hid HR.out.2.2.2.1
      have HCT := Lib.hid HR.out.2.2.2.2.1
      have HBW := Lib.hid (HR.out.2.2.2.2.2.trans (hb0.mono (bsz HR.out.2.2.2.2.2 HBZ.out)))
      have HSW : Hid (B ≤ W0.heap.size) := Lib.hid (bsz HBW.out HBZ.out)
      have HOB : Hid (ob ≠ B) := Lib.hid (by have := row_lt HR.out.1.1; omega)
      have HNB : Hid (n + 1 < maxLen) := Lib.hid (by have := HNK.out; unfold maxLen; omega)
      have HXW := Lib.hid (HWX.out x (List.mem_of_getElem? hx))
      have ck0 : W0.cell? ⟨ob, 0, none⟩ = some (.int .i64 x.kind) := (cell_of_row W0 _ 0 _ _ _ HQW.out).trans rfl
      have ck1 : W0.cell? ⟨ob, 1, none⟩ = some (.int .i64 x.i) := (cell_of_row W0 _ 1 _ _ _ HQW.out).trans rfl
      have ck2 : W0.cell? ⟨ob, 2, none⟩ = some (.int .i64 x.l.src) := (cell_of_row W0 _ 2 _ _ _ HQW.out).trans rfl
      have ck3 : W0.cell? ⟨ob, 3, none⟩ = some (.int .i64 x.l.dst) := (cell_of_row W0 _ 3 _ _ _ HQW.out).trans rfl
      have ck4 : W0.cell? ⟨ob, 4, none⟩ = some (.string x.l.bytes) := (cell_of_row W0 _ 4 _ _ _ HQW.out).trans rfl
      clear hcs hcl hb0 HR hx
      go_upto_region 10 with fail
      clear hW0 q0 q1 q2 q3 q4
      rcases Decidable.em (x.kind = 0) with g0 | g0
      · have d0 : (x.kind == 0) = true := by rw [g0]; rfl
        clear g0
        go_wp2_with fail
        refine (Nt.send_any x.l _ HNW.out HSW.out (by have := HOK.out.1; omega)).mono ?_
        rintro e w5s ⟨rfl, v5, hn, ho, -⟩
        have HM5s := Lib.hid (Nk.om_net HMW.out HNW.out ho)
        have HB5 : Hid (Below B w1 w5s) := Lib.hid (ho.below HBW.out HSW.out (fun k hk => by rcases hk with rfl | hk; exact HNW.out.2.2; exact (World.ownsRow.lt HNW.out.2.1 k hk).1))
        have hq5 : w5s.heap[ob]? = some (.cells #[.int .i64 x.kind, .int .i64 x.i, .int .i64 x.l.src, .int .i64 x.l.dst, .string x.l.bytes] 33 (0, 0)) := (ho.2.2.2.2 _ (row_lt HQW.out) (fun hk => by rcases hk with e | hk; exact HOB.out e; exact own_ty HNW.out.2.1 HQW.out (by decide) _ hk rfl)).trans HQW.out
        have HQ5s := Lib.hid hq5
        have HN5 := Lib.hid hn
        have HOKs := Lib.hid (Nt.okL.send (x := x.l) HOK.out)
        clear hn ho hq5 ck0 ck1 ck2 ck3 ck4
        rcases Nk.send_two ls x.l with ⟨s1, s2, s3, -⟩ | ⟨s1, s2⟩
        · rw [s1]
          rw [s2] at HN5 HOKs
          obtain ⟨c, hc⟩ : ∃ c : Int, (ls.count x.l : Int) = c := ⟨_, rfl⟩
          have HC : Hid (0 ≤ c ∧ c ≤ 200) := Lib.hid (by rw [← hc]; have := List.count_le_length (a := x.l) (l := ls); have := HOK.out.1; omega)
          have HYW : Hid (x.l.wf) := Lib.hid s3
          have HVW : Hid ((Lit.int .i64 (c + 1)).wf = true) := Lib.hid (wf_small (by have := HC.out; omega))
          have HM0 : Hid (Nk.OM w5s.drew bm n D) := Lib.hid HM5s.out
          have HQ0 : Hid (w5s.drew.heap[ob]? = some (.cells #[.int .i64 x.kind, .int .i64 x.i, .int .i64 x.l.src, .int .i64 x.l.dst, .string x.l.bytes] 33 (0, 0))) := Lib.hid HQ5s.out
          have HAT : Hid (D.atKey (Nk.kL x.l) (Nk.li 0) = Nk.li c) := Lib.hid (by rw [HCT.out _ s3, hc])
          have HCT6 : Hid (Nk.Counts (D.put (Nk.kL x.l) (Nk.li (c + 1))) (ls ++ [x.l])) := Lib.hid (Nk.counts_put HCT.out (Nk.isMap_of HM5s.out) s3 (by rw [(Nk.count_app (ls := ls) (x := x.l)).1, hc]) (Nk.count_app (ls := ls) (x := x.l)).2)
          clear s1 s2 s3 hc
          go_upto_region 13 with fail
          refine Wl.start 7 (fun u => ∃ n D, Nk.OM u bm n D ∧ D.atKey (Nk.kL x.l) (Nk.li 0) = Nk.li c) (fun u => u.heap[ob]? = some (.cells #[.int .i64 x.kind, .int .i64 x.i, .int .i64 x.l.src, .int .i64 x.l.dst, .string x.l.bytes] 33 (0, 0))) (by kernel_rfl) ⟨_, _, HM0.out, HAT.out⟩ HQ0.out (fun hk => ?_)
          refine Wl.take (i := 0) (v := .map (some bm)) [3, 4, 5, 6, 7] rfl (by kernel_rfl) (by kernel_rfl) (by kernel_rfl) (by kernel_rfl) (by kernel_rfl) (fun _ _ _ h => h) (.inl ⟨by kernel_rfl, ?_⟩) hk ?_
          · intro wx hSw
            clear hSw hk
            go_simp
            try first | with_reducible rfl | kernel_rfl
          simp only [Act.put, List.getElem_toArray, List.getElem_cons_succ, List.getElem_cons_zero, List.setIfInBounds_toArray, List.set_cons_succ, List.set_cons_zero]
          refine Wl.take (i := 1) (v := .pointer (some ⟨ob, 2, none⟩)) [2, 3, 4, 5, 6, 7] rfl (by kernel_rfl) (by kernel_rfl) (by kernel_rfl) (by kernel_rfl) (by kernel_rfl) (fun _ _ _ h => h) (.inl ⟨by kernel_rfl, ?_⟩) hk ?_
          · intro wx hSw
            clear hSw hk
            go_simp
            try first | with_reducible rfl | kernel_rfl
          simp only [Act.put, List.getElem_toArray, List.getElem_cons_succ, List.getElem_cons_zero, List.setIfInBounds_toArray, List.set_cons_succ, List.set_cons_zero]
          refine Wl.take (i := 2) (v := .agg #[.int .i64 x.l.src, .int .i64 x.l.dst, .string x.l.bytes]) [3, 4, 5, 6, 7] rfl (by kernel_rfl) (by kernel_rfl) (by kernel_rfl) (by kernel_rfl) (by kernel_rfl) (fun _ _ _ h => h) (yieldsIf_load_mid (by rfl) _ _ rfl _ _ rfl (letC x.l) _ (fun w h => (fun j v hv => by have := Wl.rng_of_row h.2 (j + 2) v (by simpa using hv); rw [Nat.zero_add] at this; rw [Nat.add_comm 2 j]; exact this)) Try.underlying31 rfl (by kernel_rfl)) hk ?_
          simp only [Act.put, List.getElem_toArray, List.getElem_cons_succ, List.getElem_cons_zero, List.setIfInBounds_toArray, List.set_cons_succ, List.set_cons_zero]
          refine Wl.take (i := 3) (v := .int .i64 c) [4, 7] rfl (by kernel_rfl) (by kernel_rfl) (by kernel_rfl) (by kernel_rfl) (by kernel_rfl) (fun _ _ _ h => h) (.inl ⟨by kernel_rfl, ?_⟩) hk ?_
          · intro wx hSw
            have hl := (fun (h : ∃ n D, Nk.OM wx bm n D ∧ D.atKey (Nk.kL x.l) (Nk.li 0) = Nk.li c) => Nk.lookup_c h.choose_spec.choose_spec.1 HYW.out h.choose_spec.choose_spec.2) hSw.1
            clear hSw hk
            go_simp
            try first | with_reducible rfl | kernel_rfl
          simp only [Act.put, List.getElem_toArray, List.getElem_cons_succ, List.getElem_cons_zero, List.setIfInBounds_toArray, List.set_cons_succ, List.set_cons_zero]
          refine Wl.take (i := 4) (v := .int .i64 (c + 1)) [7] rfl (by kernel_rfl) (by kernel_rfl) (by kernel_rfl) (by kernel_rfl) (by kernel_rfl) (fun _ _ _ h => h) (.inl ⟨by kernel_rfl, ?_⟩) hk ?_
          · intro wx hSw
            have hwr : IntKind.i64.wrap (c + 1) = (c + 1) := by rw [IntKind.wrap_i64]; have := HC.out; omega
            clear hSw hk
            go_simp
            try first | with_reducible rfl | kernel_rfl
          simp only [Act.put, List.getElem_toArray, List.getElem_cons_succ, List.getElem_cons_zero, List.setIfInBounds_toArray, List.set_cons_succ, List.set_cons_zero]
          refine Wl.one (i := 5) (by kernel_rfl) rfl (fun K hK => ?_)
          obtain ⟨v0, st, w5, hr5, hg5, ⟨D1, ho5, ha5⟩, hst5⟩ := Nk.entry_own HM0.out HNB.out HYW.out
          have hr5x : (Instr.mapEntry Nk.mT (.map (some bm)) (.agg #[.int .i64 x.l.src, .int .i64 x.l.dst, .string x.l.bytes])).run Try.prog w5s.drew = .ok (.tuple #[v0, .int .i64 (st : Nat)]) w5 := hr5
          go_simp
          have HQ5 : Hid ((fun u => u.heap[ob]? = some (.cells #[.int .i64 x.kind, .int .i64 x.i, .int .i64 x.l.src, .int .i64 x.l.dst, .string x.l.bytes] 33 (0, 0))) w5) := Lib.hid (Nk.row_map HM0.out HQ0.out hg5)
          have HST := Lib.hid hst5
          have HG5 := Lib.hid hg5
          have HM5 := Lib.hid ho5
          clear hr5 hr5x hst5 hg5
          refine hK.out _ _ (Wl.Kn.on ⟨_, _, HM5.out, ha5.trans HAT.out⟩ HQ5.out) (fun hk => ?_)
          clear hK K ha5
          refine Wl.take (i := 6) (v := .int .i64 (st : Nat)) [7] rfl (by kernel_rfl) (by kernel_rfl) (by kernel_rfl) (by kernel_rfl) (by kernel_rfl) (fun _ _ _ h => h) (.inl ⟨by kernel_rfl, ?_⟩) hk ?_
          · intro wx hSw
            clear hSw hk
            go_simp
            try first | with_reducible rfl | kernel_rfl
          simp only [Act.put, List.getElem_toArray, List.getElem_cons_succ, List.getElem_cons_zero, List.setIfInBounds_toArray, List.set_cons_succ, List.set_cons_zero]
          refine Wl.one (i := 7) (by kernel_rfl) rfl (fun K hK => ?_)
          obtain ⟨w6, hr6, hg6, ho6⟩ := HST.out w5 (c + 1) HVW.out rfl
          have hr6x : (Instr.entryStore Nk.mT (.map (some bm)) (.int .i64 (st : Nat)) (.int .i64 (c + 1))).run Try.prog w5 = .ok () w6 := hr6
          go_simp
          have HG6 : Hid (w5s.drew.grownBy w6 (some bm)) := Lib.hid (HG5.out.trans hg6)
          have HO6 := Lib.hid ho6
          have HQ6 : Hid ((fun u => u.heap[ob]? = some (.cells #[.int .i64 x.kind, .int .i64 x.i, .int .i64 x.l.src, .int .i64 x.l.dst, .string x.l.bytes] 33 (0, 0))) w6) := Lib.hid (Nk.row_map HM5.out HQ5.out hg6)
          clear hr6 hr6x hg6
          refine hK.out _ _ (Wl.Kn.off (by kernel_rfl) HQ6.out) (fun hk => ?_)
          clear hK K
          refine Wl.done (by kernel_rfl) ?_ _
          clear hk
          have HN6 : Hid (Nt.NetN w6 B B v5 (ls ++ [x.l])) := Lib.hid (Nk.net_map (HN5.out.below (w' := w5s.drew) ((Below.refl w5s.heap.size w5s).drew)) HM0.out HG6.out)
          have HB6 : Hid (Below B w1 w6) := Lib.hid (Nk.below_map HB5.out.drew HG6.out HBM.out (bsz HB5.out.drew HBZ.out))
          have hls : ls.length ≤ 200 := HOK.out.1
          have hwm : IntKind.i64.wrap ((ls.length : Int) + 1) = (ls.length : Int) + 1 := by rw [IntKind.wrap_i64]; omega
          have hne9 : ((((ls ++ [x.l]).length : Nat) : Int) != (ls.length : Int) + 1) = false := by rw [List.length_append]; simp
          go_wp2_with fail
          refine (Nt.len_any _ HN6.out).mono ?_
          rintro e w9 ⟨rfl, hw9⟩
          rw [hw9]
          clear hw9
          rw [show (((ls ++ [x.l]).length : Nat) : Int) = (ls.length : Int) + 1 by rw [List.length_append]; simp]
          clear hne9
          go_wp2_with fail
          go_roundw
          case rel => exact ⟨k + 1, v5, ls ++ [x.l], _, n + 1, by omega, by rw [List.length_append]; simp, by go_num, Lib.hid ⟨HN6.out, HOKs.out, HO6.out, by have := HNK.out; omega, HCT6.out, HB6.out⟩⟩
          case measure => simp [intOf]; omega
        · rw [s2] at HN5 HOKs
          have hes : (Nt.sendE ls x.l == 0) = false := beq_eq_false_iff_ne.2 s1
          clear s1 s2
          go_wp2_with fail
          refine (Nt.len_any _ HN5.out).mono ?_
          rintro e w9 ⟨rfl, hw9⟩
          rw [hw9]
          clear hw9
          go_wp2_with fail
          go_roundw
          case rel => exact ⟨k + 1, v5, ls, D, n, by omega, rfl, by go_num, Lib.hid ⟨HN5.out, HOKs.out, HM5s.out, by have := HNK.out; omega, HCT.out, HB5.out⟩⟩
          case measure => simp [intOf]; omega
      rcases Decidable.em (x.kind = 1) with g1 | g1
      · have d0 : (x.kind == 0) = false := by rw [g1]; rfl
        have d1 : (x.kind == 1) = true := by rw [g1]; rfl
        clear g0 g1 ck2 ck3 ck4
        go_wp2_with fail
        refine (Nt.take_any x.i _ HNW.out (by have := HOK.out.1; omega)).mono ?_
        rintro e w4s ⟨rfl, v5, hn, ho, -⟩
        have HM4 := Lib.hid (Nk.om_net HMW.out HNW.out ho)
        have HB4 : Hid (Below B w1 w4s) := Lib.hid (ho.below HBW.out HSW.out (fun k hk => by rcases hk with rfl | hk; exact HNW.out.2.2; exact (World.ownsRow.lt HNW.out.2.1 k hk).1))
        have HN4 := Lib.hid hn
        have HOKt := Lib.hid (Nt.okL.take (i := x.i) HOK.out)
        clear hn ho ck0 ck1
        obtain ⟨y, hy⟩ : ∃ y, Nt.takeX ls x.i = y := ⟨_, rfl⟩
        rw [hy]
        obtain ⟨w5s, hW5⟩ : ∃ q, w4s.alloc (.cells #[.int .i64 y.src, .int .i64 y.dst, .string y.bytes] 31) = q := ⟨_, rfl⟩
        have hb5 : Below w4s.heap.size w4s w5s := by rw [← hW5]; exact (Below.refl _ _).alloc (Nat.le_refl _) _
        obtain ⟨lb, hlb⟩ : ∃ q, w4s.heap.size = q := ⟨_, rfl⟩
        have HL5 : Hid (w5s.heap[lb]? = some (.cells #[.int .i64 y.src, .int .i64 y.dst, .string y.bytes] 31 (0, 0))) := Lib.hid (by rw [← hW5, ← hlb]; exact heap_alloc_new _ _)
        have HN5 := Lib.hid (HN4.out.below hb5)
        have HM5s := Lib.hid (Nk.om_below HM4.out hb5)
        have HB5 := Lib.hid (HB4.out.trans (hb5.mono (bsz HB4.out HBZ.out)))
        clear hb5
        by_cases hin : Nt.inP ls x.i
        · have te : Nt.takeE ls x.i = 0 := if_pos hin
          have tx : Nt.takeX ls x.i = ls.getD x.i.toNat zLet := if_pos hin
          have tl : Nt.takeL ls x.i = ls.take x.i.toNat ++ ls.drop (x.i.toNat + 1) := if_pos hin
          obtain ⟨j, hj⟩ : ∃ j : Nat, x.i.toNat = j := ⟨_, rfl⟩
          rw [hj] at tx tl
          have hjl : j < ls.length := by have := hin.1; have := hin.2; omega
          rw [te]
          rw [tx] at hy
          rw [tl] at HN5 HOKt
          have hmem : y ∈ ls := by rw [← hy, ← hj]; exact Nt.mem_getD hin
          obtain ⟨f1, f2, f3⟩ := Nk.count_cut hjl
          rw [hy] at f1 f2 f3
          obtain ⟨c, hc⟩ : ∃ c : Int, (ls.count y : Int) = c := ⟨_, rfl⟩
          have HC : Hid (1 ≤ c ∧ c ≤ 200) := Lib.hid (by rw [← hc]; have := List.count_le_length (a := y) (l := ls); have := HOK.out.1; omega)
          have HYW : Hid (y.wf) := Lib.hid (Nk.ok_wf HOK.out hmem)
          have HVW : Hid ((Lit.int .i64 (c - 1)).wf = true) := Lib.hid (wf_small (by have := HC.out; omega))
          have HM0 : Hid (Nk.OM w5s.drew bm n D) := Lib.hid HM5s.out
          have HQ0 : Hid (w5s.drew.heap[lb]? = some (.cells #[.int .i64 y.src, .int .i64 y.dst, .string y.bytes] 31 (0, 0))) := Lib.hid HL5.out
          have HAT : Hid (D.atKey (Nk.kL y) (Nk.li 0) = Nk.li c) := Lib.hid (by rw [HCT.out _ HYW.out, hc])
          have HCT6 : Hid (Nk.Counts (D.put (Nk.kL y) (Nk.li (c - 1))) (ls.take j ++ ls.drop (j + 1))) := Lib.hid (Nk.counts_put HCT.out (Nk.isMap_of HM5s.out) HYW.out (by rw [f1, hc]) f3)
          have HAT6 : Hid ((D.put (Nk.kL y) (Nk.li (c - 1))).atKey (Nk.kL y) (Nk.li 0) = Nk.li (c - 1)) := Lib.hid (atKey_put_same (Nk.isMap_of HM5s.out) (Nk.letLaw.key (Nk.keyL HYW.out)) _ _)
          have hll : ((ls.take j ++ ls.drop (j + 1)).length : Int) = (ls.length : Int) - 1 := by rw [List.length_append, List.length_take, List.length_drop]; omega
          have HLL := Lib.hid hll
          clear te tx tl hy hmem f1 f2 f3 hc hll hj hin
          go_upto_region 18 with fail
          clear hW5
          refine Wl.start 6 (fun u => ∃ n D, Nk.OM u bm n D ∧ D.atKey (Nk.kL y) (Nk.li 0) = Nk.li c) (fun u => u.heap[lb]? = some (.cells #[.int .i64 y.src, .int .i64 y.dst, .string y.bytes] 31 (0, 0))) (by kernel_rfl) ⟨_, _, HM0.out, HAT.out⟩ HQ0.out (fun hk => ?_)
          refine Wl.take (i := 0) (v := .map (some bm)) [2, 3, 4, 5, 6] rfl (by kernel_rfl) (by kernel_rfl) (by kernel_rfl) (by kernel_rfl) (by kernel_rfl) (fun _ _ _ h => h) (.inl ⟨by kernel_rfl, ?_⟩) hk ?_
          · intro wx hSw
            clear hSw hk
            go_simp
            try first | with_reducible rfl | kernel_rfl
          simp only [Act.put, List.getElem_toArray, List.getElem_cons_succ, List.getElem_cons_zero, List.setIfInBounds_toArray, List.set_cons_succ, List.set_cons_zero]
          refine Wl.take (i := 1) (v := .agg #[.int .i64 y.src, .int .i64 y.dst, .string y.bytes]) [2, 3, 4, 5, 6] rfl (by kernel_rfl) (by kernel_rfl) (by kernel_rfl) (by kernel_rfl) (by kernel_rfl) (fun _ _ _ h => h) (yieldsIf_load_mid (by rfl) _ _ rfl _ _ rfl (letC y) _ (fun w h => Wl.rng_of_row h.2) Try.underlying31 rfl (by kernel_rfl)) hk ?_
          simp only [Act.put, List.getElem_toArray, List.getElem_cons_succ, List.getElem_cons_zero, List.setIfInBounds_toArray, List.set_cons_succ, List.set_cons_zero]
          refine Wl.take (i := 2) (v := .int .i64 c) [3, 6] rfl (by kernel_rfl) (by kernel_rfl) (by kernel_rfl) (by kernel_rfl) (by kernel_rfl) (fun _ _ _ h => h) (.inl ⟨by kernel_rfl, ?_⟩) hk ?_
          · intro wx hSw
            have hl := (fun (h : ∃ n D, Nk.OM wx bm n D ∧ D.atKey (Nk.kL y) (Nk.li 0) = Nk.li c) => Nk.lookup_c h.choose_spec.choose_spec.1 HYW.out h.choose_spec.choose_spec.2) hSw.1
            clear hSw hk
            go_simp
            try first | with_reducible rfl | kernel_rfl
          simp only [Act.put, List.getElem_toArray, List.getElem_cons_succ, List.getElem_cons_zero, List.setIfInBounds_toArray, List.set_cons_succ, List.set_cons_zero]
          refine Wl.take (i := 3) (v := .int .i64 (c - 1)) [6] rfl (by kernel_rfl) (by kernel_rfl) (by kernel_rfl) (by kernel_rfl) (by kernel_rfl) (fun _ _ _ h => h) (.inl ⟨by kernel_rfl, ?_⟩) hk ?_
          · intro wx hSw
            have hwr : IntKind.i64.wrap (c - 1) = (c - 1) := by rw [IntKind.wrap_i64]; have := HC.out; omega
            clear hSw hk
            go_simp
            try first | with_reducible rfl | kernel_rfl
          simp only [Act.put, List.getElem_toArray, List.getElem_cons_succ, List.getElem_cons_zero, List.setIfInBounds_toArray, List.set_cons_succ, List.set_cons_zero]
          refine Wl.one (i := 4) (by kernel_rfl) rfl (fun K hK => ?_)
          obtain ⟨v0, st, w5, hr5, hg5, ⟨D1, ho5, ha5⟩, hst5⟩ := Nk.entry_own HM0.out HNB.out HYW.out
          have hr5x : (Instr.mapEntry Nk.mT (.map (some bm)) (.agg #[.int .i64 y.src, .int .i64 y.dst, .string y.bytes])).run Try.prog w5s.drew = .ok (.tuple #[v0, .int .i64 (st : Nat)]) w5 := hr5
          go_simp
          have HQ5 : Hid ((fun u => u.heap[lb]? = some (.cells #[.int .i64 y.src, .int .i64 y.dst, .string y.bytes] 31 (0, 0))) w5) := Lib.hid (Nk.row_map HM0.out HQ0.out hg5)
          have HST := Lib.hid hst5
          have HG5 := Lib.hid hg5
          have HM5 := Lib.hid ho5
          clear hr5 hr5x hst5 hg5
          refine hK.out _ _ (Wl.Kn.on ⟨_, _, HM5.out, ha5.trans HAT.out⟩ HQ5.out) (fun hk => ?_)
          clear hK K ha5
          refine Wl.take (i := 5) (v := .int .i64 (st : Nat)) [6] rfl (by kernel_rfl) (by kernel_rfl) (by kernel_rfl) (by kernel_rfl) (by kernel_rfl) (fun _ _ _ h => h) (.inl ⟨by kernel_rfl, ?_⟩) hk ?_
          · intro wx hSw
            clear hSw hk
            go_simp
            try first | with_reducible rfl | kernel_rfl
          simp only [Act.put, List.getElem_toArray, List.getElem_cons_succ, List.getElem_cons_zero, List.setIfInBounds_toArray, List.set_cons_succ, List.set_cons_zero]
          refine Wl.one (i := 6) (by kernel_rfl) rfl (fun K hK => ?_)
          obtain ⟨w6, hr6, hg6, ho6⟩ := HST.out w5 (c - 1) HVW.out rfl
          have hr6x : (Instr.entryStore Nk.mT (.map (some bm)) (.int .i64 (st : Nat)) (.int .i64 (c - 1))).run Try.prog w5 = .ok () w6 := hr6
          go_simp
          have HG6 : Hid (w5s.drew.grownBy w6 (some bm)) := Lib.hid (HG5.out.trans hg6)
          have HO6 := Lib.hid ho6
          have HQ6 : Hid ((fun u => u.heap[lb]? = some (.cells #[.int .i64 y.src, .int .i64 y.dst, .string y.bytes] 31 (0, 0))) w6) := Lib.hid (Nk.row_map HM5.out HQ5.out hg6)
          clear hr6 hr6x hg6
          refine hK.out _ _ (Wl.Kn.off (by kernel_rfl) HQ6.out) (fun hk => ?_)
          clear hK K
          refine Wl.done (by kernel_rfl) ?_ _
          clear hk
          have HN6 : Hid (Nt.NetN w6 B B v5 (ls.take j ++ ls.drop (j + 1))) := Lib.hid (Nk.net_map (HN5.out.below (w' := w5s.drew) ((Below.refl w5s.heap.size w5s).drew)) HM0.out HG6.out)
          have HB6 : Hid (Below B w1 w6) := Lib.hid (Nk.below_map HB5.out.drew HG6.out HBM.out (bsz HB5.out.drew HBZ.out))
          have hls : ls.length ≤ 200 := HOK.out.1
          have hwm : IntKind.i64.wrap ((ls.length : Int) - 1) = (ls.length : Int) - 1 := by rw [IntKind.wrap_i64]; omega
          have y0 := (cell_of_row w6 _ 0 _ _ _ HQ6.out).trans rfl
          have y1 := (cell_of_row w6 _ 1 _ _ _ HQ6.out).trans rfl
          have y2 := (cell_of_row w6 _ 2 _ _ _ HQ6.out).trans rfl
          have hl6 := Nk.lookup_c HO6.out HYW.out HAT6.out
          have hc0 : ¬ (c - 1 < 0) := by have := HC.out; omega
          go_wp2_with fail
          refine (Nt.len_any _ HN6.out).mono ?_
          rintro e w9 ⟨rfl, hw9⟩
          rw [hw9, HLL.out]
          clear hw9
          go_wp2_with fail
          go_roundw
          case rel => exact ⟨k + 1, v5, ls.take j ++ ls.drop (j + 1), _, n + 1, by omega, by rw [HLL.out], by go_num, Lib.hid ⟨HN6.out, HOKt.out, HO6.out, by have := HNK.out; omega, HCT6.out, HB6.out⟩⟩
          case measure => simp [intOf]; omega
        · have te : Nt.takeE ls x.i = 4 := if_neg hin
          have tl : Nt.takeL ls x.i = ls := if_neg hin
          rw [te]
          rw [tl] at HN5 HOKt
          clear te tl hy hin
          go_wp2_with fail
          clear hW5
          refine (Nt.len_any _ HN5.out).mono ?_
          rintro e w9 ⟨rfl, hw9⟩
          rw [hw9]
          clear hw9
          go_wp2_with fail
          go_roundw
          case rel => exact ⟨k + 1, v5, ls, D, n, by omega, rfl, by go_num, Lib.hid ⟨HN5.out, HOKt.out, HM5s.out, by have := HNK.out; omega, HCT.out, HB5.out⟩⟩
          case measure => simp [intOf]; omega
      rcases Decidable.em (x.kind = 2) with g2 | g2
      · have d0 : (x.kind == 0) = false := by rw [g2]; rfl
        have d1 : (x.kind == 1) = false := by rw [g2]; rfl
        have d2 : (x.kind == 2) = true := by rw [g2]; rfl
        clear g0 g1 g2 ck2 ck3 ck4
        go_wp2_with fail
        refine (Nt.all_any _ HNW.out (by have := HOK.out.1; omega)).mono ?_
        rintro e w4s ⟨vl, rfl, hown, hb⟩
        obtain ⟨al, cl, rfl⟩ := own_slice hown
        have HOW4 := Lib.hid hown
        have HN4 := Lib.hid (HNW.out.below hb)
        have HM4 := Lib.hid (Nk.om_below HMW.out hb)
        have HB4 := Lib.hid (HBW.out.trans (hb.mono HSW.out))
        have HQ4 := Lib.hid ((hb.block _ (row_lt HQW.out)).trans HQW.out)
        have HPW : Hid (B < W0.heap.size ∧ ∀ q, v.ownBlock = some q → q < W0.heap.size) := Lib.hid ⟨row_lt HNW.out.1, fun q hq => (World.ownsRow.lt HNW.out.2.1 q hq).2⟩
        have ck5 : w4s.cell? ⟨ob, 1, none⟩ = some (.int .i64 x.i) := (cell_of_row w4s _ 1 _ _ _ HQ4.out).trans rfl
        clear hown hb ck0 ck1
        go_wp2_with fail
        refine (Nt.double_any x.i _ HN4.out (bsz HB4.out HBZ.out) (by have := HOK.out.1; omega)).mono ?_
        rintro e w7s ⟨rfl, v7, hn, ho, -⟩
        have HM7 := Lib.hid (Nk.om_net HM4.out HN4.out ho)
        have HB7 : Hid (Below B w1 w7s) := Lib.hid (ho.below HB4.out (bsz HB4.out HBZ.out) (fun k hk => by rcases hk with rfl | hk; exact HN4.out.2.2; exact (World.ownsRow.lt HN4.out.2.1 k hk).1))
        have hq7 : w7s.heap[ob]? = some (.cells #[.int .i64 x.kind, .int .i64 x.i, .int .i64 x.l.src, .int .i64 x.l.dst, .string x.l.bytes] 33 (0, 0)) := (ho.2.2.2.2 _ (row_lt HQ4.out) (fun hk => by rcases hk with e | hk; exact HOB.out e; exact own_ty HN4.out.2.1 HQ4.out (by decide) _ hk rfl)).trans HQ4.out
        have HQ7 := Lib.hid hq7
        have HOW7 : Hid (OwnR 3 letC 31 w7s W0.heap.size (.slice al ls.length cl) ls) := Lib.hid (own_keep HOW4.out (fun q hq hl => ho.2.2.2.2 _ hl (by
          have h1 := (World.ownsRow.lt HOW4.out q hq).1
          have h2 := HPW.out
          rintro (e | e)
          · omega
          · have := h2.2 _ e; omega)))
        have HN7 := Lib.hid hn
        have HOKd := Lib.hid (Nt.okL.dbl (i := x.i) HOK.out)
        have ck7 : w7s.cell? ⟨ob, 1, none⟩ = some (.int .i64 x.i) := (cell_of_row w7s _ 1 _ _ _ hq7).trans rfl
        clear hn ho hq7 ck5
        rcases Nk.dbl_two (ls := ls) x.i with ⟨s1, hin, s2⟩ | ⟨s1, s2⟩
        · rw [s1]
          rw [s2] at HN7 HOKd
          obtain ⟨j, hj⟩ : ∃ j : Nat, x.i = (j : Int) := ⟨x.i.toNat, by have := hin.1; omega⟩
          have hjl : j < ls.length := by have := hin.2; omega
          have hmem := Nt.mem_getD hin
          rw [hj, Int.toNat_natCast] at hmem HN7 HOKd
          obtain ⟨gl, cl2, e3, hcl1, hcl2, -, -, -⟩ := Nt.let_cells HOW7.out hjl
          simp only [Value.slice.injEq] at e3
          obtain ⟨rfl, -, rfl⟩ := e3
          have hrg := Nt.rng_let HOW7.out hjl
          obtain ⟨y, hy⟩ : ∃ y, ls.getD j zLet = y := ⟨_, rfl⟩
          rw [hy] at hmem HN7 HOKd hrg
          obtain ⟨c, hc⟩ : ∃ c : Int, (ls.count y : Int) = c := ⟨_, rfl⟩
          have HC : Hid (0 ≤ c ∧ c ≤ 200) := Lib.hid (by rw [← hc]; have := List.count_le_length (a := y) (l := ls); have := HOK.out.1; omega)
          have HYW : Hid (y.wf) := Lib.hid (Nk.ok_wf HOK.out hmem)
          have HVW : Hid ((Lit.int .i64 (c + 1)).wf = true) := Lib.hid (wf_small (by have := HC.out; omega))
          have HM0 : Hid (Nk.OM w7s.drew bm n D) := Lib.hid HM7.out
          have hcells : ∃ cs fr, w7s.heap[gl]? = some (.cells cs 31 fr) := by
            rcases own_form HOW7.out with ⟨e, -⟩ | ⟨g2, c2, cur, e, hh, -⟩
            · cases e
            · simp only [Value.slice.injEq, Option.some.injEq, Addr.mk.injEq] at e
              rw [e.1.1]; exact ⟨_, _, hh⟩
          have HQ0 : Hid ((w7s.drew.heap[ob]? = some (.cells #[.int .i64 x.kind, .int .i64 x.i, .int .i64 x.l.src, .int .i64 x.l.dst, .string x.l.bytes] 33 (0, 0))) ∧ (∃ cs fr, w7s.drew.heap[gl]? = some (.cells cs 31 fr)) ∧ w7s.drew.rangeAt gl (j * 3) (letC y)) := Lib.hid ⟨HQ7.out, hcells, hrg⟩
          have HAT : Hid (D.atKey (Nk.kL y) (Nk.li 0) = Nk.li c) := Lib.hid (by rw [HCT.out _ HYW.out, hc])
          have HCT6 : Hid (Nk.Counts (D.put (Nk.kL y) (Nk.li (c + 1))) (ls ++ [y])) := Lib.hid (Nk.counts_put HCT.out (Nk.isMap_of HM7.out) HYW.out (by rw [(Nk.count_app (ls := ls) (x := y)).1, hc]) (Nk.count_app (ls := ls) (x := y)).2)
          have HXI : Hid (x.i = (j : Int)) := Lib.hid hj
          have i0 : ¬ (x.i < 0) := by have := hin.1; omega
          have i1 : ¬ ((ls.length : Int) ≤ x.i) := by have := hin.2; omega
          have hjli : (j : Int) < (ls.length : Int) := by omega
          have hj0 : (0 : Int) ≤ (j : Int) := by omega
          clear s1 s2 hc hy hmem hrg hcells hj hin
          go_upto_region 27 with fail
          refine Wl.start 10 (fun u => ∃ n D, Nk.OM u bm n D ∧ D.atKey (Nk.kL y) (Nk.li 0) = Nk.li c) (fun u => u.heap[ob]? = some (.cells #[.int .i64 x.kind, .int .i64 x.i, .int .i64 x.l.src, .int .i64 x.l.dst, .string x.l.bytes] 33 (0, 0)) ∧ (∃ cs fr, u.heap[gl]? = some (.cells cs 31 fr)) ∧ u.rangeAt gl (j * 3) (letC y)) (by kernel_rfl) ⟨_, _, HM0.out, HAT.out⟩ HQ0.out (fun hk => ?_)
          refine Wl.take (i := 0) (v := .map (some bm)) [6, 7, 8, 9, 10] rfl (by kernel_rfl) (by kernel_rfl) (by kernel_rfl) (by kernel_rfl) (by kernel_rfl) (fun _ _ _ h => h) (.inl ⟨by kernel_rfl, ?_⟩) hk ?_
          · intro wx hSw
            clear hSw hk
            go_simp
            try first | with_reducible rfl | kernel_rfl
          simp only [Act.put, List.getElem_toArray, List.getElem_cons_succ, List.getElem_cons_zero, List.setIfInBounds_toArray, List.set_cons_succ, List.set_cons_zero]
          refine Wl.take (i := 1) (v := .slice (some ⟨gl, 0, none⟩) ls.length cl) [4, 5, 6, 7, 8, 9, 10] rfl (by kernel_rfl) (by kernel_rfl) (by kernel_rfl) (by kernel_rfl) (by kernel_rfl) (fun _ _ _ h => h) (.inl ⟨by kernel_rfl, ?_⟩) hk ?_
          · intro wx hSw
            clear hSw hk
            go_simp
            try first | with_reducible rfl | kernel_rfl
          simp only [Act.put, List.getElem_toArray, List.getElem_cons_succ, List.getElem_cons_zero, List.setIfInBounds_toArray, List.set_cons_succ, List.set_cons_zero]
          refine Wl.take (i := 2) (v := .pointer (some ⟨ob, 1, none⟩)) [3, 4, 5, 6, 7, 8, 9, 10] rfl (by kernel_rfl) (by kernel_rfl) (by kernel_rfl) (by kernel_rfl) (by kernel_rfl) (fun _ _ _ h => h) (.inl ⟨by kernel_rfl, ?_⟩) hk ?_
          · intro wx hSw
            clear hSw hk
            go_simp
            try first | with_reducible rfl | kernel_rfl
          simp only [Act.put, List.getElem_toArray, List.getElem_cons_succ, List.getElem_cons_zero, List.setIfInBounds_toArray, List.set_cons_succ, List.set_cons_zero]
          refine Wl.take (i := 3) (v := .int .i64 (j : Int)) [4, 5, 6, 7, 8, 9, 10] rfl (by kernel_rfl) (by kernel_rfl) (by kernel_rfl) (by kernel_rfl) (by kernel_rfl) (fun _ _ _ h => h) (.inl ⟨by kernel_rfl, ?_⟩) hk ?_
          · intro wx hSw
            have cc := (cell_of_row wx _ 1 _ _ _ hSw.2.1).trans rfl
            rw [HXI.out] at cc
            clear hSw hk
            go_simp
            try first | with_reducible rfl | kernel_rfl
          simp only [Act.put, List.getElem_toArray, List.getElem_cons_succ, List.getElem_cons_zero, List.setIfInBounds_toArray, List.set_cons_succ, List.set_cons_zero]
          refine Wl.take (i := 4) (v := .pointer (some ⟨gl, j * 3, none⟩)) [5, 6, 7, 8, 9, 10] rfl (by kernel_rfl) (by kernel_rfl) (by kernel_rfl) (by kernel_rfl) (by kernel_rfl) (fun _ _ _ h => h) (.inl ⟨by kernel_rfl, ?_⟩) hk ?_
          · intro wx hSw
            clear hSw hk
            go_simp
            try first | with_reducible rfl | kernel_rfl
          simp only [Act.put, List.getElem_toArray, List.getElem_cons_succ, List.getElem_cons_zero, List.setIfInBounds_toArray, List.set_cons_succ, List.set_cons_zero]
          refine Wl.take (i := 5) (v := .agg #[.int .i64 y.src, .int .i64 y.dst, .string y.bytes]) [6, 7, 8, 9, 10] rfl (by kernel_rfl) (by kernel_rfl) (by kernel_rfl) (by kernel_rfl) (by kernel_rfl) (fun _ _ _ h => h) (yieldsIf_load_mid (by rfl) _ _ rfl _ _ rfl (letC y) _ (fun w h => h.2.2.2) Try.underlying31 rfl (by kernel_rfl)) hk ?_
          simp only [Act.put, List.getElem_toArray, List.getElem_cons_succ, List.getElem_cons_zero, List.setIfInBounds_toArray, List.set_cons_succ, List.set_cons_zero]
          refine Wl.take (i := 6) (v := .int .i64 c) [7, 10] rfl (by kernel_rfl) (by kernel_rfl) (by kernel_rfl) (by kernel_rfl) (by kernel_rfl) (fun _ _ _ h => h) (.inl ⟨by kernel_rfl, ?_⟩) hk ?_
          · intro wx hSw
            have hl := (fun (h : ∃ n D, Nk.OM wx bm n D ∧ D.atKey (Nk.kL y) (Nk.li 0) = Nk.li c) => Nk.lookup_c h.choose_spec.choose_spec.1 HYW.out h.choose_spec.choose_spec.2) hSw.1
            clear hSw hk
            go_simp
            try first | with_reducible rfl | kernel_rfl
          simp only [Act.put, List.getElem_toArray, List.getElem_cons_succ, List.getElem_cons_zero, List.setIfInBounds_toArray, List.set_cons_succ, List.set_cons_zero]
          refine Wl.take (i := 7) (v := .int .i64 (c + 1)) [10] rfl (by kernel_rfl) (by kernel_rfl) (by kernel_rfl) (by kernel_rfl) (by kernel_rfl) (fun _ _ _ h => h) (.inl ⟨by kernel_rfl, ?_⟩) hk ?_
          · intro wx hSw
            have hwr : IntKind.i64.wrap (c + 1) = (c + 1) := by rw [IntKind.wrap_i64]; have := HC.out; omega
            clear hSw hk
            go_simp
            try first | with_reducible rfl | kernel_rfl
          simp only [Act.put, List.getElem_toArray, List.getElem_cons_succ, List.getElem_cons_zero, List.setIfInBounds_toArray, List.set_cons_succ, List.set_cons_zero]
          refine Wl.one (i := 8) (by kernel_rfl) rfl (fun K hK => ?_)
          obtain ⟨v0, st, w5, hr5, hg5, ⟨D1, ho5, ha5⟩, hst5⟩ := Nk.entry_own HM0.out HNB.out HYW.out
          have hr5x : (Instr.mapEntry Nk.mT (.map (some bm)) (.agg #[.int .i64 y.src, .int .i64 y.dst, .string y.bytes])).run Try.prog w7s.drew = .ok (.tuple #[v0, .int .i64 (st : Nat)]) w5 := hr5
          go_simp
          have HQ5 : Hid ((fun u => u.heap[ob]? = some (.cells #[.int .i64 x.kind, .int .i64 x.i, .int .i64 x.l.src, .int .i64 x.l.dst, .string x.l.bytes] 33 (0, 0)) ∧ (∃ cs fr, u.heap[gl]? = some (.cells cs 31 fr)) ∧ u.rangeAt gl (j * 3) (letC y)) w5) := Lib.hid ⟨Nk.row_map HM0.out HQ0.out.1 hg5, ⟨_, _, Nk.row_map HM0.out HQ0.out.2.1.choose_spec.choose_spec hg5⟩, Nk.rng_map HM0.out HQ0.out.2.1.choose_spec.choose_spec HQ0.out.2.2 hg5⟩
          have HST := Lib.hid hst5
          have HG5 := Lib.hid hg5
          have HM5 := Lib.hid ho5
          clear hr5 hr5x hst5 hg5
          refine hK.out _ _ (Wl.Kn.on ⟨_, _, HM5.out, ha5.trans HAT.out⟩ HQ5.out) (fun hk => ?_)
          clear hK K ha5
          refine Wl.take (i := 9) (v := .int .i64 (st : Nat)) [10] rfl (by kernel_rfl) (by kernel_rfl) (by kernel_rfl) (by kernel_rfl) (by kernel_rfl) (fun _ _ _ h => h) (.inl ⟨by kernel_rfl, ?_⟩) hk ?_
          · intro wx hSw
            clear hSw hk
            go_simp
            try first | with_reducible rfl | kernel_rfl
          simp only [Act.put, List.getElem_toArray, List.getElem_cons_succ, List.getElem_cons_zero, List.setIfInBounds_toArray, List.set_cons_succ, List.set_cons_zero]
          refine Wl.one (i := 10) (by kernel_rfl) rfl (fun K hK => ?_)
          obtain ⟨w6, hr6, hg6, ho6⟩ := HST.out w5 (c + 1) HVW.out rfl
          have hr6x : (Instr.entryStore Nk.mT (.map (some bm)) (.int .i64 (st : Nat)) (.int .i64 (c + 1))).run Try.prog w5 = .ok () w6 := hr6
          go_simp
          have HG6 : Hid (w7s.drew.grownBy w6 (some bm)) := Lib.hid (HG5.out.trans hg6)
          have HO6 := Lib.hid ho6
          have HQ6 : Hid ((fun u => u.heap[ob]? = some (.cells #[.int .i64 x.kind, .int .i64 x.i, .int .i64 x.l.src, .int .i64 x.l.dst, .string x.l.bytes] 33 (0, 0)) ∧ (∃ cs fr, u.heap[gl]? = some (.cells cs 31 fr)) ∧ u.rangeAt gl (j * 3) (letC y)) w6) := Lib.hid ⟨Nk.row_map HM5.out HQ5.out.1 hg6, ⟨_, _, Nk.row_map HM5.out HQ5.out.2.1.choose_spec.choose_spec hg6⟩, Nk.rng_map HM5.out HQ5.out.2.1.choose_spec.choose_spec HQ5.out.2.2 hg6⟩
          clear hr6 hr6x hg6
          refine hK.out _ _ (Wl.Kn.off (by kernel_rfl) HQ6.out) (fun hk => ?_)
          clear hK K
          refine Wl.done (by kernel_rfl) ?_ _
          clear hk
          have HN6 : Hid (Nt.NetN w6 B B v7 (ls ++ [y])) := Lib.hid (Nk.net_map (HN7.out.below (w' := w7s.drew) ((Below.refl w7s.heap.size w7s).drew)) HM0.out HG6.out)
          have HB6 : Hid (Below B w1 w6) := Lib.hid (Nk.below_map HB7.out.drew HG6.out HBM.out (bsz HB7.out.drew HBZ.out))
          have hls : ls.length ≤ 200 := HOK.out.1
          have hwm : IntKind.i64.wrap ((ls.length : Int) + 1) = (ls.length : Int) + 1 := by rw [IntKind.wrap_i64]; omega
          go_wp2_with fail
          refine (Nt.len_any _ HN6.out).mono ?_
          rintro e w9 ⟨rfl, hw9⟩
          rw [hw9]
          clear hw9
          rw [show (((ls ++ [y]).length : Nat) : Int) = (ls.length : Int) + 1 by rw [List.length_append]; simp]
          go_wp2_with fail
          go_roundw
          case rel => exact ⟨k + 1, v7, ls ++ [y], _, n + 1, by omega, by rw [List.length_append]; simp, by go_num, Lib.hid ⟨HN6.out, HOKd.out, HO6.out, by have := HNK.out; omega, HCT6.out, HB6.out⟩⟩
          case measure => simp [intOf]; omega
        · rw [s2] at HN7 HOKd
          have hes : (Nt.dblE ls x.i == 0) = false := beq_eq_false_iff_ne.2 s1
          clear s1 s2
          go_wp2_with fail
          refine (Nt.len_any _ HN7.out).mono ?_
          rintro e w9 ⟨rfl, hw9⟩
          rw [hw9]
          clear hw9
          go_wp2_with fail
          go_roundw
          case rel => exact ⟨k + 1, v7, ls, D, n, by omega, rfl, by go_num, Lib.hid ⟨HN7.out, HOKd.out, HM7.out, by have := HNK.out; omega, HCT.out, HB7.out⟩⟩
          case measure => simp [intOf]; omega
      · have d0 : (x.kind == 0) = false := beq_eq_false_iff_ne.2 g0
        have d1 : (x.kind == 1) = false := beq_eq_false_iff_ne.2 g1
        have d2 : (x.kind == 2) = false := beq_eq_false_iff_ne.2 g2
        clear g0 g1 g2
        go_wp2_with fail
        refine (Nt.len_any _ HNW.out).mono ?_
        rintro e w9 ⟨rfl, hw9⟩
        rw [hw9]
        clear hw9
        go_wp2_with fail
        go_roundw
        case rel => exact ⟨k + 1, v, ls, D, n, by omega, rfl, by go_num, Lib.hid ⟨HNW.out, HOK.out, HMW.out, by have := HNK.out; omega, HCT.out, HBW.out⟩⟩
        case measure => simp [intOf]; omega
    · obtain rfl : k = x0.length := by omega
      have HNR := Lib.hid HR.out.1
      have HOK := Lib.hid HR.out.2.1
      have HMR := Lib.hid HR.out.2.2.1
      have HNK := Lib.hid HR.out.2.2.2.1
      have HCT := Lib.hid HR.out.2.2.2.2.1
      have HBR := Lib.hid HR.out.2.2.2.2.2
      clear HR
      go_wp2_with fail
      refine (Nt.all_any _ HNR.out (by have := HOK.out.1; omega)).mono ?_
      rintro e w4s ⟨vl, rfl, hown, hb⟩
      have HM4 := Lib.hid (Nk.om_below HMR.out hb)
      have HB4 := Lib.hid (HBR.out.trans (hb.mono (bsz HBR.out HBZ.out)))
      have HOW4 := Lib.hid hown
      obtain ⟨al, cl, rfl⟩ := own_slice hown
      have HFZ : Hid (B ≤ wr.heap.size) := Lib.hid (bsz HBR.out HBZ.out)
      obtain ⟨wo, hwo⟩ : ∃ q, q = wr := ⟨_, rfl⟩
      subst hwo
      clear hown hb
      go_wp2_with fail
      go_loopw [115] (fun i wr => ∃ (j : Nat) (D2 : DataW Unit) (m : Nat), j ≤ ls.length ∧ i = .int .i64 (j : Int) ∧ Hid (Nk.OM wr bm m D2 ∧ m ≤ n + j ∧ Nk.Counts D2 (ls.drop j) ∧ OwnR 3 letC 31 wr wo.heap.size (.slice al ls.length cl) ls ∧ Below B w1 wr)) (fun i _ => ls.length - (intOf i).toNat)
      case atStart => exact ⟨0, D, n, Nat.zero_le _, rfl, Lib.hid ⟨HM4.out, Nat.le_refl _, HCT.out, HOW4.out, HB4.out⟩⟩
      case round =>
        clear HM4 HB4 HOW4
        obtain ⟨j, D2, m, hj, rfl, HJ⟩ := hrel
        by_cases hjl : j < ls.length
        · have hjli : (j : Int) < (ls.length : Int) := by omega
          obtain ⟨gl, cl2, e3, hcl1, hcl2, -, -, a0, a1, a2⟩ := Nt.let_cells HJ.out.2.2.2.1 hjl
          simp only [Value.slice.injEq] at e3
          obtain ⟨rfl, -, rfl⟩ := e3
          obtain ⟨f2, f1, f3⟩ := Nk.drop_count hjl
          have hmem : ls.getD j zLet ∈ ls := by rw [List.getD_eq_getElem?_getD, List.getElem?_eq_getElem hjl]; exact List.getElem_mem hjl
          obtain ⟨y, hy⟩ : ∃ y, ls.getD j zLet = y := ⟨_, rfl⟩
          rw [hy] at a0 a1 a2 f1 f2 f3 hmem
          obtain ⟨c, hc⟩ : ∃ c : Int, ((ls.drop j).count y : Int) = c := ⟨_, rfl⟩
          have HC : Hid (1 ≤ c ∧ c ≤ 200) := Lib.hid (by rw [← hc]; have := List.count_le_length (a := y) (l := ls.drop j); rw [List.length_drop] at this; have := HOK.out.1; omega)
          have HYW : Hid (y.wf) := Lib.hid (Nk.ok_wf HOK.out hmem)
          have HVW : Hid ((Lit.int .i64 (c - 1)).wf = true) := Lib.hid (wf_small (by have := HC.out; omega))
          obtain ⟨wls, hWl⟩ : ∃ q, wr.alloc (.cells #[.int .i64 y.src, .int .i64 y.dst, .string y.bytes] 31) = q := ⟨_, rfl⟩
          have hbl : Below wr.heap.size wr wls := by rw [← hWl]; exact (Below.refl _ _).alloc (Nat.le_refl _) _
          obtain ⟨lb, hlb⟩ : ∃ q, wr.heap.size = q := ⟨_, rfl⟩
          have HQ0 : Hid (wls.drew.heap[lb]? = some (.cells #[.int .i64 y.src, .int .i64 y.dst, .string y.bytes] 31 (0, 0))) := Lib.hid (by rw [← hWl, ← hlb]; exact heap_alloc_new _ _)
          have HM0 : Hid (Nk.OM wls.drew bm m D2) := Lib.hid (Nk.om_below HJ.out.1 hbl.drew)
          have HOL : Hid (OwnR 3 letC 31 wls.drew wo.heap.size (.slice (some ⟨gl, 0, none⟩) ls.length cl) ls) := Lib.hid (HJ.out.2.2.2.1.below hbl.drew (Nat.le_refl _))
          have HBL : Hid (Below B w1 wls.drew) := Lib.hid ((HJ.out.2.2.2.2.trans (hbl.mono (bsz HJ.out.2.2.2.2 HBZ.out))).drew)
          have HNB : Hid (m + 1 < maxLen) := Lib.hid (by have := HJ.out.2.1; have := HNK.out; have := HOK.out.1; unfold maxLen; omega)
          have HAT : Hid (D2.atKey (Nk.kL y) (Nk.li 0) = Nk.li c) := Lib.hid (by rw [HJ.out.2.2.1 _ HYW.out, hc])
          have HMZ : Hid (m ≤ n + j) := Lib.hid HJ.out.2.1
          have HCT6 : Hid (Nk.Counts (D2.put (Nk.kL y) (Nk.li (c - 1))) (ls.drop (j + 1))) := Lib.hid (Nk.counts_put HJ.out.2.2.1 (Nk.isMap_of HJ.out.1) HYW.out (by rw [f1, hc]) f3)
          have HAT6 : Hid ((D2.put (Nk.kL y) (Nk.li (c - 1))).atKey (Nk.kL y) (Nk.li 0) = Nk.li (c - 1)) := Lib.hid (atKey_put_same (Nk.isMap_of HJ.out.1) (Nk.letLaw.key (Nk.keyL HYW.out)) _ _)
          clear f1 f2 f3 hmem hc hy hbl HJ
          go_upto_region 35 with fail
          clear hWl
          refine Wl.start 6 (fun u => ∃ n D, Nk.OM u bm n D ∧ D.atKey (Nk.kL y) (Nk.li 0) = Nk.li c) (fun u => u.heap[lb]? = some (.cells #[.int .i64 y.src, .int .i64 y.dst, .string y.bytes] 31 (0, 0))) (by kernel_rfl) ⟨_, _, HM0.out, HAT.out⟩ HQ0.out (fun hk => ?_)
          refine Wl.take (i := 0) (v := .map (some bm)) [2, 3, 4, 5, 6] rfl (by kernel_rfl) (by kernel_rfl) (by kernel_rfl) (by kernel_rfl) (by kernel_rfl) (fun _ _ _ h => h) (.inl ⟨by kernel_rfl, ?_⟩) hk ?_
          · intro wx hSw
            clear hSw hk
            go_simp
            try first | with_reducible rfl | kernel_rfl
          simp only [Act.put, List.getElem_toArray, List.getElem_cons_succ, List.getElem_cons_zero, List.setIfInBounds_toArray, List.set_cons_succ, List.set_cons_zero]
          refine Wl.take (i := 1) (v := .agg #[.int .i64 y.src, .int .i64 y.dst, .string y.bytes]) [2, 3, 4, 5, 6] rfl (by kernel_rfl) (by kernel_rfl) (by kernel_rfl) (by kernel_rfl) (by kernel_rfl) (fun _ _ _ h => h) (yieldsIf_load_mid (by rfl) _ _ rfl _ _ rfl (letC y) _ (fun w h => Wl.rng_of_row h.2) Try.underlying31 rfl (by kernel_rfl)) hk ?_
          simp only [Act.put, List.getElem_toArray, List.getElem_cons_succ, List.getElem_cons_zero, List.setIfInBounds_toArray, List.set_cons_succ, List.set_cons_zero]
          refine Wl.take (i := 2) (v := .int .i64 c) [3, 6] rfl (by kernel_rfl) (by kernel_rfl) (by kernel_rfl) (by kernel_rfl) (by kernel_rfl) (fun _ _ _ h => h) (.inl ⟨by kernel_rfl, ?_⟩) hk ?_
          · intro wx hSw
            have hl := (fun (h : ∃ n D, Nk.OM wx bm n D ∧ D.atKey (Nk.kL y) (Nk.li 0) = Nk.li c) => Nk.lookup_c h.choose_spec.choose_spec.1 HYW.out h.choose_spec.choose_spec.2) hSw.1
            clear hSw hk
            go_simp
            try first | with_reducible rfl | kernel_rfl
          simp only [Act.put, List.getElem_toArray, List.getElem_cons_succ, List.getElem_cons_zero, List.setIfInBounds_toArray, List.set_cons_succ, List.set_cons_zero]
          refine Wl.take (i := 3) (v := .int .i64 (c - 1)) [6] rfl (by kernel_rfl) (by kernel_rfl) (by kernel_rfl) (by kernel_rfl) (by kernel_rfl) (fun _ _ _ h => h) (.inl ⟨by kernel_rfl, ?_⟩) hk ?_
          · intro wx hSw
            have hwr : IntKind.i64.wrap (c - 1) = (c - 1) := by rw [IntKind.wrap_i64]; have := HC.out; omega
            clear hSw hk
            go_simp
            try first | with_reducible rfl | kernel_rfl
          simp only [Act.put, List.getElem_toArray, List.getElem_cons_succ, List.getElem_cons_zero, List.setIfInBounds_toArray, List.set_cons_succ, List.set_cons_zero]
          refine Wl.one (i := 4) (by kernel_rfl) rfl (fun K hK => ?_)
          obtain ⟨v0, st, w5, hr5, hg5, ⟨D1, ho5, ha5⟩, hst5⟩ := Nk.entry_own HM0.out HNB.out HYW.out
          have hr5x : (Instr.mapEntry Nk.mT (.map (some bm)) (.agg #[.int .i64 y.src, .int .i64 y.dst, .string y.bytes])).run Try.prog wls.drew = .ok (.tuple #[v0, .int .i64 (st : Nat)]) w5 := hr5
          go_simp
          have HQ5 : Hid ((fun u => u.heap[lb]? = some (.cells #[.int .i64 y.src, .int .i64 y.dst, .string y.bytes] 31 (0, 0))) w5) := Lib.hid (Nk.row_map HM0.out HQ0.out hg5)
          have HST := Lib.hid hst5
          have HG5 := Lib.hid hg5
          have HM5 := Lib.hid ho5
          clear hr5 hr5x hst5 hg5
          refine hK.out _ _ (Wl.Kn.on ⟨_, _, HM5.out, ha5.trans HAT.out⟩ HQ5.out) (fun hk => ?_)
          clear hK K ha5
          refine Wl.take (i := 5) (v := .int .i64 (st : Nat)) [6] rfl (by kernel_rfl) (by kernel_rfl) (by kernel_rfl) (by kernel_rfl) (by kernel_rfl) (fun _ _ _ h => h) (.inl ⟨by kernel_rfl, ?_⟩) hk ?_
          · intro wx hSw
            clear hSw hk
            go_simp
            try first | with_reducible rfl | kernel_rfl
          simp only [Act.put, List.getElem_toArray, List.getElem_cons_succ, List.getElem_cons_zero, List.setIfInBounds_toArray, List.set_cons_succ, List.set_cons_zero]
          refine Wl.one (i := 6) (by kernel_rfl) rfl (fun K hK => ?_)
          obtain ⟨w6, hr6, hg6, ho6⟩ := HST.out w5 (c - 1) HVW.out rfl
          have hr6x : (Instr.entryStore Nk.mT (.map (some bm)) (.int .i64 (st : Nat)) (.int .i64 (c - 1))).run Try.prog w5 = .ok () w6 := hr6
          go_simp
          have HG6 : Hid (wls.drew.grownBy w6 (some bm)) := Lib.hid (HG5.out.trans hg6)
          have HO6 := Lib.hid ho6
          have HQ6 : Hid ((fun u => u.heap[lb]? = some (.cells #[.int .i64 y.src, .int .i64 y.dst, .string y.bytes] 31 (0, 0))) w6) := Lib.hid (Nk.row_map HM5.out HQ5.out hg6)
          clear hr6 hr6x hg6
          refine hK.out _ _ (Wl.Kn.off (by kernel_rfl) HQ6.out) (fun hk => ?_)
          clear hK K
          refine Wl.done (by kernel_rfl) ?_ _
          clear hk
          have HO7 : Hid (OwnR 3 letC 31 w6 wo.heap.size (.slice (some ⟨gl, 0, none⟩) ls.length cl) ls) := Lib.hid (own_keep HOL.out (fun q hq hl => HG6.out.block _ hl (fun e => Nk.map_own HM0.out HOL.out q hq (Option.some.inj e).symm)))
          have HB6 : Hid (Below B w1 w6) := Lib.hid (Nk.below_map HBL.out HG6.out HBM.out (bsz HBL.out HBZ.out))
          have y0 := (cell_of_row w6 _ 0 _ _ _ HQ6.out).trans rfl
          have y1 := (cell_of_row w6 _ 1 _ _ _ HQ6.out).trans rfl
          have y2 := (cell_of_row w6 _ 2 _ _ _ HQ6.out).trans rfl
          have hl6 := Nk.lookup_c HO6.out HYW.out HAT6.out
          have hc0 : ¬ (c - 1 < 0) := by have := HC.out; omega
          clear a0 a1 a2
          go_wp2_with fail
          go_roundw
          case rel => exact ⟨j + 1, _, m + 1, by omega, by go_num, Lib.hid ⟨HO6.out, by have := HMZ.out; omega, HCT6.out, HO7.out, HB6.out⟩⟩
          case measure => simp [intOf]; omega
        · obtain rfl : j = ls.length := by omega
          go_wp2
          go_ret
          exact ⟨rfl, HB1.out.trans (HJ.out.2.2.2.2.mono (by rw [← HBZ.out]; exact HB1.out.size))⟩

set_option maxRecDepth 100000 in
theorem contract (H : Type) (enc : TypeId × Value → H) (W : World) (base : Nat) (args : Array Value) (ds gs : List (DataW H)) (before : List MemPlace)
    (hval0 : ∀ (j : Nat) t v, Try.f4.params[j]? = some t → args[j]? = some v → Value.okWide Try.prog W .any base t v)
    (hW : DataW.Whole enc Try.prog Try.f4.params.toList Rows.netKeepsSpec.vars false W args.toList ds gs before)
    (hsz0 : (DataW.weightsEach Try.prog (Try.f4.params.toList ++ Rows.netKeepsSpec.plain.varTypes Try.prog) (ds ++ gs)).all (· ≤ reachBytes) = true) :
    Calls Try.prog 4 args W fun e W' => ∃ v, e = .returned v ∧ Rows.netKeepsSpec.post enc Try.prog Try.f4 false true false false W args v W' := by
  have hval : ∀ (j : Nat) t v, Try.f4.params[j]? = some t → args[j]? = some v → Value.okWide Try.prog W .any base t v := hval0
  have hW' := hW
  obtain ⟨p, q, hA0, hV, rfl, hfz, hnd⟩ := hW
  have hA : DataW.TrodAll enc Try.prog W 0 (fun _ => true) true Try.f4.params.toList args.toList ds p := hA0
  rw [Try.params4] at hA hval
  have hsz := hsz0
  rw [Try.params4] at hsz
  obtain ⟨v0, vs0, d0, ds0, p0, q0, hargs, rfl, rfl, h0, r0⟩ := trodAll_cons hA
  obtain ⟨rfl, rfl, rfl⟩ := trodAll_nil r0
  obtain rfl : args = #[v0] := by cases args; simp_all
  obtain ⟨rfl, rfl⟩ := trodVars_none hV
  clear hA0 hval0
  have k0 := h0
  have lt0 : ∀ x ∈ p0, x.block < W.heap.size := by obtain ⟨m, hm⟩ := k0; exact DataW.trod_lt m _ _ _ hm
  obtain ⟨x0, w0, -, s0⟩ := open_nops (hval 0 22 v0 rfl rfl) k0
  have b0 : IsNOps.fits x0 := s0 (wt_arg hsz (j := 0) rfl rfl)
  refine (walk v0 x0 W w0 b0).mono fun e W' ⟨he, bel⟩ => ?_
  subst he
  exact ⟨_, rfl, _, _, _, [], _, [], hW', trodAll_mk1 (shut_bool Try.underlying4 _), (trodAll_cons_mk (Below.trod laidOut (by kernel_rfl) (of_decide_eq_true (by kernel_rfl)) k0 bel lt0) trodAll_mk0), rfl, bel.frame _, fun h => by cases h⟩

set_option maxRecDepth 100000 in
theorem lifted (os : Os) (started : os.Started) (H : Type) (enc : TypeId × Value → H) :
    ReturnsInHanded {} Try.checked os 4 .any (Rows.netKeepsSpec.pre6 enc Try.prog Try.f4 Rows.netKeepsRow.domain false) (Rows.netKeepsSpec.post enc Try.prog Try.f4 false true false false) := by
  refine returnsInHanded_of_change_sized (C := Try.checked) own started (by kernel_rfl) Try.func4
    (ChangeSpec.witness6 (enc := enc) (C := Try.checked) false ⟨#[], #[.slice none 0 0], []⟩ 8 (by kernel_rfl) (by kernel_rfl) (by kernel_rfl) (by kernel_rfl)) ?_
  intro W base args ds gs before hval0 hW hcnd hsz _
  exact contract H enc W base args ds gs before hval0 hW hsz

theorem proved : Rows.NetKeepsSaid :=
  OpenClaim.holds_of_wide 4 Try.f4 rfl rfl rfl rfl rfl rfl rfl ⟨rfl, rfl, rfl, rfl, rfl⟩ rfl rfl rfl rfl rfl (by kernel_rfl) Try.func4 (by kernel_rfl)
    (of_decide_eq_true (by kernel_rfl)) (by unfold Func.isWrapper; first | (rw [if_pos (by decide +kernel)]; kernel_rfl) | (rw [if_neg (by decide +kernel)]; exact ⟨rfl, rfl⟩))
    (fun os started H enc _ => lifted os started H enc)
end Go.Proofs.Ytgmndcfeifgapaa.netKeeps
