/- The law JudgeBudget returns true for every limit and every list of observations: what Judge takes is replayed, prefix by prefix, and no token is open twice, and no more are open than the limit. No condition. -/
import Derived.Test.YteihopgnpiajoaaRd
import Derived.Test.YteihopgnpiajoaaJjK
namespace Go.Proofs.Yteihopgnpiajoaa.judgeBudget
open Go.ChangeShapes Go.WideShapes Go.ChangeAt Go.RowKit
open Go.ChangeMaps (open_string shut_string)
set_option linter.unusedVariables false

theorem own : ownKnob Try.prog.godebug = none := by kernel_rfl
theorem laidOut : laidOutB Try.prog = true := by kernel_rfl

set_option linter.unusedSimpArgs false
open Jj Go.Deep Go.Maps
set_option maxRecDepth 100000 in
set_option maxHeartbeats 16000000 in
theorem walk (a0 : Int) (v1 : Value) (x1 : (List Sx)) (w : World) (w0 : (Lit.int .i64 a0).wf = true) (w1 : IsSeens w v1 x1) (b1 : IsSeens.fits x1) :
    Calls Try.prog 5 #[.int .i64 a0, v1] w fun e w' => e = .returned (.bool true) ∧ Below w.heap.size w w' := by
  have HV := Lib.hid w1.1
  have HWF := Lib.hid w1.2
  have HLM : Hid (Mp.okI a0) := Lib.hid w0
  obtain ⟨a, cap, e0, h1, h2, -⟩ := id w1.1
  unfold maxLen at h2
  subst e0
  clear w1 b1 w0
  go_enter Try.func5, Try.ntmps5
  go_wp2_with fail
  refine (judges_any _).mono ?_
  rintro e w2 ⟨rfl, hb⟩
  have HB2 := Lib.hid hb
  clear hb
  by_cases hl : 100 < x1.length
  · have hli : (100 : Int) < (x1.length : Int) := by omega
    go_wp2_with fail
    go_ret
    exact ⟨rfl, HB2.out⟩
  have hli : ¬ (100 : Int) < (x1.length : Int) := by omega
  have hl3 : x1.length ≤ 100 := by omega
  go_wp2_with fail
  refine (judge_any _ (HV.out.below HB2.out (Nat.le_refl _)) HWF.out HLM.out).mono ?_
  rintro e w3 ⟨i, ee, rfl, hj, hb⟩
  have HB3 := Lib.hid (HB2.out.trans (hb.mono HB2.out.size))
  obtain ⟨N, hN, hF, hcase⟩ : ∃ N : Nat, N ≤ x1.length ∧ Fine a0 x1 N ∧ ((ee ≠ 0 ∧ i = (N : Int) ∧ N < x1.length) ∨ (ee = 0 ∧ i = -1 ∧ N = x1.length)) := by
    rcases hj with ⟨q1, q2, q3⟩ | ⟨k, s, q1, q2, q3, q4, q5⟩
    · exact ⟨_, Nat.le_refl _, q3, .inr ⟨q2, q1, rfl⟩⟩
    · have := (List.getElem?_eq_some_iff.1 q1).1
      exact ⟨k, by omega, q2, .inl ⟨q4, q5, this⟩⟩
  have HF := Lib.hid hF
  clear hF hj hb HB2
  rcases hcase with ⟨he, rfl, hlt0⟩ | ⟨rfl, rfl, hNe⟩
  · have hne : (ee != 0) = true := by simpa using he
    have d1 : decide ((N : Int) < 0) = false := decide_eq_false (by omega)
    have d2 : decide (x1.length ≤ N) = false := decide_eq_false (by omega)
    have d3 : decide ((x1.length : Int) ≤ (N : Int)) = false := decide_eq_false (by omega)
    clear he
    go_wp2_with fail
    go_loopw [9] (fun i wr => ∃ k : Nat, k ≤ N + 1 ∧ i = .int .i64 (k : Int) ∧ Hid (Below w.heap.size w wr)) (fun i _ => N + 1 - (intOf i).toNat)
    case atStart => exact ⟨0, Nat.zero_le _, rfl, HB3⟩
    case round =>
      clear HB3
      obtain ⟨k, hk, rfl, HB⟩ := hrel
      by_cases hlt : k ≤ N
      · have hlti : (k : Int) ≤ (N : Int) := by omega
        have hkc : k ≤ cap := by omega
        have hkl : k ≤ x1.length := by omega
        have HT := Lib.hid (fine_take HF.out hlt hN)
        go_wp2_with fail
        refine (replay_any _ (SlR.take (HV.out.below HB.out (Nat.le_refl _)) k hkl) (fun x hx => HWF.out x (List.mem_of_mem_take hx)) HLM.out (by rw [List.length_take]; omega)).mono ?_
        rintro e w4 ⟨u, cs, i2, ee2, rfl, hj, ho, hb, -, hs⟩
        obtain ⟨rfl, rfl⟩ := hj.uniq HT.out.1
        have HS := Lib.hid (budget HT.out.2.1 (hs rfl))
        have HLN : Hid (cs.length ≤ x1.length) := Lib.hid (by
          have h1 := (hs rfl)
          have h2 := Mp.length_sub (a := cs) (c := openL (x1.take k)) (show cs.Nodup from h1.1.imp (fun {a b} h (q : a = b) => by subst q; exact lt_irrefl h)) (fun c hc => (h1.2 c).1 hc)
          have h3 := open_len (x1.take k)
          rw [List.length_take] at h3
          omega)
        have HB4 := Lib.hid (HB.out.trans (hb.mono HB.out.size))
        have HO4 := Lib.hid ho
        clear hj ho hb hs
        obtain ⟨ao, co, hao⟩ := own_slice HO4.out
        subst hao
        have hmm := @run_makeMap Try.prog
        obtain ⟨m, hm⟩ : ∃ q, w4.heap.size = q := ⟨_, rfl⟩
        obtain ⟨W5, hW5⟩ : ∃ q, w4.alloc (.map #[] 0) = q := ⟨_, rfl⟩
        have HM5 : Hid (MB W5 m 0 (fB [])) := Lib.hid (by rw [← hW5, ← hm]; exact (Mp.made _ _ _ _ _).congr (fun x _ => rfl))
        have HB5 : Hid (Below w4.heap.size w4 W5) := Lib.hid (by rw [← hW5]; exact (Below.refl _ _).alloc (Nat.le_refl _) _)
        have HMW : Hid (w4.heap.size ≤ m) := Lib.hid (by rw [hm]; exact Nat.le_refl _)
        have hlim : 0 < k → ¬ a0 < (cs.length : Int) := fun q => by have := HS.out.2.2 (HT.out.2.2 q); omega
        have hcut : (decide (0 < k) = false) ∨ (decide (0 < k) = true ∧ decide (a0 < (cs.length : Int)) = false) := by
          by_cases q : 0 < k
          · exact .inr ⟨decide_eq_true q, decide_eq_false (hlim q)⟩
          · exact .inl (decide_eq_false q)
        clear hlim
        have hcl : cs.length ≤ 100 := by have := HLN.out; omega
        rcases hcut with d0 | ⟨d0, d9⟩
        · go_wp2_with fail
          clear hmm hW5 hm
          go_loopw [68] (fun i wr => ∃ j : Nat, j ≤ cs.length ∧ i = .int .i64 (j : Int) ∧ Hid (MB wr m j (fB ((cs.take j).map Cx.tok))) ∧ Hid (Below w4.heap.size w4 wr)) (fun i _ => cs.length - (intOf i).toNat)
          case atStart => exact ⟨0, Nat.zero_le _, rfl, HM5, HB5⟩
          case round =>
            clear HM5 HB5
            obtain ⟨j, hj, rfl, HM, HBD⟩ := hrel
            by_cases hlt2 : j < cs.length
            · have hlti2 : (j : Int) < (cs.length : Int) := by omega
              obtain ⟨b, off, cp, e1, -, -, -, hbl, hcs⟩ : ∃ b off cp, Value.slice ao cs.length co = .slice (some ⟨b, off, none⟩) cs.length cp ∧ 0 < cs.length ∧ cs.length ≤ cp ∧ cp ≤ 9223372036854775807 ∧ b < w4.heap.size ∧ ∀ i x, cs[i]? = some x → ∀ j u, (cxC x)[j]? = some u → w4.cell? ⟨b, off + (i * 2 + j), none⟩ = some u := by
                rcases SlR.cases (HO4.out.sl cxC_len) with ⟨a2, c2, e, hnil⟩ | h
                · rw [hnil] at hlt2; simp at hlt2
                · exact h
              simp only [Value.slice.injEq] at e1
              obtain ⟨rfl, -, rfl⟩ := e1
              obtain ⟨c, hc⟩ : ∃ x, cs[j]? = some x := ⟨_, List.getElem?_eq_getElem hlt2⟩
              obtain ⟨x0, x1'⟩ := cxC_cells (w := wr) (b := b) (o := off + j * 2) (fun i u hu => by rw [Nat.add_assoc]; exact (HBD.out.cell (p := ⟨b, off + (j * 2 + i), none⟩) hbl).trans (hcs j c hc i u hu))
              have hcm := List.mem_of_getElem? hc
              have htk := HS.out.2.1 c hcm
              have HOI : Hid (Mp.okI c.tok) := Lib.hid (by
                have hl := HLM.out
                unfold Mp.okI at hl ⊢
                simp [Lit.wf, IntKind.min, IntKind.max, IntKind.signed, IntKind.bits] at hl ⊢
                omega)
              have htj : (cs.take (j + 1)).map Cx.tok = (cs.take j).map Cx.tok ++ [c.tok] := by rw [List.take_add_one, hc]; simp
              have HTJ := Lib.hid htj
              have hno : c.tok ∉ (cs.take j).map Cx.tok := fun q => by
                have hd := HS.out.1
                have e2 : cs.map Cx.tok = (cs.take (j + 1)).map Cx.tok ++ (cs.drop (j + 1)).map Cx.tok := by rw [← List.map_append, List.take_append_drop]
                rw [e2, htj] at hd
                have := (List.nodup_append.1 (List.nodup_append.1 hd).1).2.2 _ q c.tok (by simp)
                exact this rfl
              obtain ⟨g, hg⟩ : ∃ q, wr.heap.size = q := ⟨_, rfl⟩
              obtain ⟨W6, hW6⟩ : ∃ q, wr.alloc (.cells #[.int .i64 c.node, .int .i64 c.tok] 34) = q := ⟨_, rfl⟩
              have hg6 : W6.heap[g]? = some (.cells #[.int .i64 c.node, .int .i64 c.tok] 34 (0, 0)) := by rw [← hW6, ← hg]; exact heap_alloc_new _ _
              have HM6 : Hid (MB W6 m j (fB ((cs.take j).map Cx.tok))) := Lib.hid (by rw [← hW6]; exact HM.out.alloc _)
              have hlk := fB_none HM6.out HOI.out hno
              have y1 : W6.cell? ⟨g, 1, none⟩ = some (.int .i64 c.tok) := (cell_of_row W6 _ 1 _ _ _ hg6).trans rfl
              have HB6 : Hid (Below w4.heap.size w4 W6) := Lib.hid (by rw [← hW6]; exact HBD.out.alloc HBD.out.size _)
              have d1 : decide (c.tok < 1) = false := decide_eq_false (by omega)
              have d2 : decide (a0 < c.tok) = false := decide_eq_false (by omega)
              clear hcs hc hcm htk htj hno hg6
              go_wp2_with (at_mapUpdate; refine Mp.wp_put rfl _ _ _ _ rfl KI Try.underlying35 m j _ rfl HM6.out (by unfold maxLen; omega) c.tok HOI.out (.bool true) rfl rfl ?_; intro w7 hm7 hg7; have HM7 := Lib.hid hm7; have HB7 : Hid (Below w4.heap.size w4 w7) := Lib.hid ((Only.grown (S := fun k => k = m) hg7 (fun q hq => (Option.some.inj hq).symm)).below HB6.out HB6.out.size (fun k hk => by rw [hk]; exact HMW.out)); clear hm7 hg7)
              go_roundw
              case rel => exact ⟨j + 1, by omega, by go_num, Lib.hid (HM7.out.congr (fun x _ => by rw [fB_app, HTJ.out])), HB7⟩
              case measure => simp [intOf]; omega
            · obtain rfl : j = cs.length := by omega
              have HBF := Lib.hid (HB4.out.trans (HBD.out.mono HB4.out.size))
              go_wp2_with fail
              go_roundw
              case rel => exact ⟨k + 1, by omega, by go_num, HBF⟩
              case measure => simp [intOf]; omega
        · go_wp2_with fail
          clear hmm hW5 hm
          go_loopw [68] (fun i wr => ∃ j : Nat, j ≤ cs.length ∧ i = .int .i64 (j : Int) ∧ Hid (MB wr m j (fB ((cs.take j).map Cx.tok))) ∧ Hid (Below w4.heap.size w4 wr)) (fun i _ => cs.length - (intOf i).toNat)
          case atStart => exact ⟨0, Nat.zero_le _, rfl, HM5, HB5⟩
          case round =>
            clear HM5 HB5
            obtain ⟨j, hj, rfl, HM, HBD⟩ := hrel
            by_cases hlt2 : j < cs.length
            · have hlti2 : (j : Int) < (cs.length : Int) := by omega
              obtain ⟨b, off, cp, e1, -, -, -, hbl, hcs⟩ : ∃ b off cp, Value.slice ao cs.length co = .slice (some ⟨b, off, none⟩) cs.length cp ∧ 0 < cs.length ∧ cs.length ≤ cp ∧ cp ≤ 9223372036854775807 ∧ b < w4.heap.size ∧ ∀ i x, cs[i]? = some x → ∀ j u, (cxC x)[j]? = some u → w4.cell? ⟨b, off + (i * 2 + j), none⟩ = some u := by
                rcases SlR.cases (HO4.out.sl cxC_len) with ⟨a2, c2, e, hnil⟩ | h
                · rw [hnil] at hlt2; simp at hlt2
                · exact h
              simp only [Value.slice.injEq] at e1
              obtain ⟨rfl, -, rfl⟩ := e1
              obtain ⟨c, hc⟩ : ∃ x, cs[j]? = some x := ⟨_, List.getElem?_eq_getElem hlt2⟩
              obtain ⟨x0, x1'⟩ := cxC_cells (w := wr) (b := b) (o := off + j * 2) (fun i u hu => by rw [Nat.add_assoc]; exact (HBD.out.cell (p := ⟨b, off + (j * 2 + i), none⟩) hbl).trans (hcs j c hc i u hu))
              have hcm := List.mem_of_getElem? hc
              have htk := HS.out.2.1 c hcm
              have HOI : Hid (Mp.okI c.tok) := Lib.hid (by
                have hl := HLM.out
                unfold Mp.okI at hl ⊢
                simp [Lit.wf, IntKind.min, IntKind.max, IntKind.signed, IntKind.bits] at hl ⊢
                omega)
              have htj : (cs.take (j + 1)).map Cx.tok = (cs.take j).map Cx.tok ++ [c.tok] := by rw [List.take_add_one, hc]; simp
              have HTJ := Lib.hid htj
              have hno : c.tok ∉ (cs.take j).map Cx.tok := fun q => by
                have hd := HS.out.1
                have e2 : cs.map Cx.tok = (cs.take (j + 1)).map Cx.tok ++ (cs.drop (j + 1)).map Cx.tok := by rw [← List.map_append, List.take_append_drop]
                rw [e2, htj] at hd
                have := (List.nodup_append.1 (List.nodup_append.1 hd).1).2.2 _ q c.tok (by simp)
                exact this rfl
              obtain ⟨g, hg⟩ : ∃ q, wr.heap.size = q := ⟨_, rfl⟩
              obtain ⟨W6, hW6⟩ : ∃ q, wr.alloc (.cells #[.int .i64 c.node, .int .i64 c.tok] 34) = q := ⟨_, rfl⟩
              have hg6 : W6.heap[g]? = some (.cells #[.int .i64 c.node, .int .i64 c.tok] 34 (0, 0)) := by rw [← hW6, ← hg]; exact heap_alloc_new _ _
              have HM6 : Hid (MB W6 m j (fB ((cs.take j).map Cx.tok))) := Lib.hid (by rw [← hW6]; exact HM.out.alloc _)
              have hlk := fB_none HM6.out HOI.out hno
              have y1 : W6.cell? ⟨g, 1, none⟩ = some (.int .i64 c.tok) := (cell_of_row W6 _ 1 _ _ _ hg6).trans rfl
              have HB6 : Hid (Below w4.heap.size w4 W6) := Lib.hid (by rw [← hW6]; exact HBD.out.alloc HBD.out.size _)
              have d1 : decide (c.tok < 1) = false := decide_eq_false (by omega)
              have d2 : decide (a0 < c.tok) = false := decide_eq_false (by omega)
              clear hcs hc hcm htk htj hno hg6
              go_wp2_with (at_mapUpdate; refine Mp.wp_put rfl _ _ _ _ rfl KI Try.underlying35 m j _ rfl HM6.out (by unfold maxLen; omega) c.tok HOI.out (.bool true) rfl rfl ?_; intro w7 hm7 hg7; have HM7 := Lib.hid hm7; have HB7 : Hid (Below w4.heap.size w4 w7) := Lib.hid ((Only.grown (S := fun k => k = m) hg7 (fun q hq => (Option.some.inj hq).symm)).below HB6.out HB6.out.size (fun k hk => by rw [hk]; exact HMW.out)); clear hm7 hg7)
              go_roundw
              case rel => exact ⟨j + 1, by omega, by go_num, Lib.hid (HM7.out.congr (fun x _ => by rw [fB_app, HTJ.out])), HB7⟩
              case measure => simp [intOf]; omega
            · obtain rfl : j = cs.length := by omega
              have HBF := Lib.hid (HB4.out.trans (HBD.out.mono HB4.out.size))
              go_wp2_with fail
              go_roundw
              case rel => exact ⟨k + 1, by omega, by go_num, HBF⟩
              case measure => simp [intOf]; omega
      · have hlti : ¬ (k : Int) ≤ (N : Int) := by omega
        go_wp2_with fail
        go_ret
        exact ⟨rfl, HB.out⟩
  · subst hNe
    go_wp2_with fail
    go_loopw [9] (fun i wr => ∃ k : Nat, k ≤ x1.length + 1 ∧ i = .int .i64 (k : Int) ∧ Hid (Below w.heap.size w wr)) (fun i _ => x1.length + 1 - (intOf i).toNat)
    case atStart => exact ⟨0, Nat.zero_le _, rfl, HB3⟩
    case round =>
      clear HB3
      obtain ⟨k, hk, rfl, HB⟩ := hrel
      by_cases hlt : k ≤ x1.length
      · have hlti : (k : Int) ≤ (x1.length : Int) := by omega
        have hkc : k ≤ cap := by omega
        have hkl : k ≤ x1.length := by omega
        have HT := Lib.hid (fine_take HF.out hlt hN)
        go_wp2_with fail
        refine (replay_any _ (SlR.take (HV.out.below HB.out (Nat.le_refl _)) k hkl) (fun x hx => HWF.out x (List.mem_of_mem_take hx)) HLM.out (by rw [List.length_take]; omega)).mono ?_
        rintro e w4 ⟨u, cs, i2, ee2, rfl, hj, ho, hb, -, hs⟩
        obtain ⟨rfl, rfl⟩ := hj.uniq HT.out.1
        have HS := Lib.hid (budget HT.out.2.1 (hs rfl))
        have HLN : Hid (cs.length ≤ x1.length) := Lib.hid (by
          have h1 := (hs rfl)
          have h2 := Mp.length_sub (a := cs) (c := openL (x1.take k)) (show cs.Nodup from h1.1.imp (fun {a b} h (q : a = b) => by subst q; exact lt_irrefl h)) (fun c hc => (h1.2 c).1 hc)
          have h3 := open_len (x1.take k)
          rw [List.length_take] at h3
          omega)
        have HB4 := Lib.hid (HB.out.trans (hb.mono HB.out.size))
        have HO4 := Lib.hid ho
        clear hj ho hb hs
        obtain ⟨ao, co, hao⟩ := own_slice HO4.out
        subst hao
        have hmm := @run_makeMap Try.prog
        obtain ⟨m, hm⟩ : ∃ q, w4.heap.size = q := ⟨_, rfl⟩
        obtain ⟨W5, hW5⟩ : ∃ q, w4.alloc (.map #[] 0) = q := ⟨_, rfl⟩
        have HM5 : Hid (MB W5 m 0 (fB [])) := Lib.hid (by rw [← hW5, ← hm]; exact (Mp.made _ _ _ _ _).congr (fun x _ => rfl))
        have HB5 : Hid (Below w4.heap.size w4 W5) := Lib.hid (by rw [← hW5]; exact (Below.refl _ _).alloc (Nat.le_refl _) _)
        have HMW : Hid (w4.heap.size ≤ m) := Lib.hid (by rw [hm]; exact Nat.le_refl _)
        have hlim : 0 < k → ¬ a0 < (cs.length : Int) := fun q => by have := HS.out.2.2 (HT.out.2.2 q); omega
        have hcut : (decide (0 < k) = false) ∨ (decide (0 < k) = true ∧ decide (a0 < (cs.length : Int)) = false) := by
          by_cases q : 0 < k
          · exact .inr ⟨decide_eq_true q, decide_eq_false (hlim q)⟩
          · exact .inl (decide_eq_false q)
        clear hlim
        have hcl : cs.length ≤ 100 := by have := HLN.out; omega
        rcases hcut with d0 | ⟨d0, d9⟩
        · go_wp2_with fail
          clear hmm hW5 hm
          go_loopw [68] (fun i wr => ∃ j : Nat, j ≤ cs.length ∧ i = .int .i64 (j : Int) ∧ Hid (MB wr m j (fB ((cs.take j).map Cx.tok))) ∧ Hid (Below w4.heap.size w4 wr)) (fun i _ => cs.length - (intOf i).toNat)
          case atStart => exact ⟨0, Nat.zero_le _, rfl, HM5, HB5⟩
          case round =>
            clear HM5 HB5
            obtain ⟨j, hj, rfl, HM, HBD⟩ := hrel
            by_cases hlt2 : j < cs.length
            · have hlti2 : (j : Int) < (cs.length : Int) := by omega
              obtain ⟨b, off, cp, e1, -, -, -, hbl, hcs⟩ : ∃ b off cp, Value.slice ao cs.length co = .slice (some ⟨b, off, none⟩) cs.length cp ∧ 0 < cs.length ∧ cs.length ≤ cp ∧ cp ≤ 9223372036854775807 ∧ b < w4.heap.size ∧ ∀ i x, cs[i]? = some x → ∀ j u, (cxC x)[j]? = some u → w4.cell? ⟨b, off + (i * 2 + j), none⟩ = some u := by
                rcases SlR.cases (HO4.out.sl cxC_len) with ⟨a2, c2, e, hnil⟩ | h
                · rw [hnil] at hlt2; simp at hlt2
                · exact h
              simp only [Value.slice.injEq] at e1
              obtain ⟨rfl, -, rfl⟩ := e1
              obtain ⟨c, hc⟩ : ∃ x, cs[j]? = some x := ⟨_, List.getElem?_eq_getElem hlt2⟩
              obtain ⟨x0, x1'⟩ := cxC_cells (w := wr) (b := b) (o := off + j * 2) (fun i u hu => by rw [Nat.add_assoc]; exact (HBD.out.cell (p := ⟨b, off + (j * 2 + i), none⟩) hbl).trans (hcs j c hc i u hu))
              have hcm := List.mem_of_getElem? hc
              have htk := HS.out.2.1 c hcm
              have HOI : Hid (Mp.okI c.tok) := Lib.hid (by
                have hl := HLM.out
                unfold Mp.okI at hl ⊢
                simp [Lit.wf, IntKind.min, IntKind.max, IntKind.signed, IntKind.bits] at hl ⊢
                omega)
              have htj : (cs.take (j + 1)).map Cx.tok = (cs.take j).map Cx.tok ++ [c.tok] := by rw [List.take_add_one, hc]; simp
              have HTJ := Lib.hid htj
              have hno : c.tok ∉ (cs.take j).map Cx.tok := fun q => by
                have hd := HS.out.1
                have e2 : cs.map Cx.tok = (cs.take (j + 1)).map Cx.tok ++ (cs.drop (j + 1)).map Cx.tok := by rw [← List.map_append, List.take_append_drop]
                rw [e2, htj] at hd
                have := (List.nodup_append.1 (List.nodup_append.1 hd).1).2.2 _ q c.tok (by simp)
                exact this rfl
              obtain ⟨g, hg⟩ : ∃ q, wr.heap.size = q := ⟨_, rfl⟩
              obtain ⟨W6, hW6⟩ : ∃ q, wr.alloc (.cells #[.int .i64 c.node, .int .i64 c.tok] 34) = q := ⟨_, rfl⟩
              have hg6 : W6.heap[g]? = some (.cells #[.int .i64 c.node, .int .i64 c.tok] 34 (0, 0)) := by rw [← hW6, ← hg]; exact heap_alloc_new _ _
              have HM6 : Hid (MB W6 m j (fB ((cs.take j).map Cx.tok))) := Lib.hid (by rw [← hW6]; exact HM.out.alloc _)
              have hlk := fB_none HM6.out HOI.out hno
              have y1 : W6.cell? ⟨g, 1, none⟩ = some (.int .i64 c.tok) := (cell_of_row W6 _ 1 _ _ _ hg6).trans rfl
              have HB6 : Hid (Below w4.heap.size w4 W6) := Lib.hid (by rw [← hW6]; exact HBD.out.alloc HBD.out.size _)
              have d1 : decide (c.tok < 1) = false := decide_eq_false (by omega)
              have d2 : decide (a0 < c.tok) = false := decide_eq_false (by omega)
              clear hcs hc hcm htk htj hno hg6
              go_wp2_with (at_mapUpdate; refine Mp.wp_put rfl _ _ _ _ rfl KI Try.underlying35 m j _ rfl HM6.out (by unfold maxLen; omega) c.tok HOI.out (.bool true) rfl rfl ?_; intro w7 hm7 hg7; have HM7 := Lib.hid hm7; have HB7 : Hid (Below w4.heap.size w4 w7) := Lib.hid ((Only.grown (S := fun k => k = m) hg7 (fun q hq => (Option.some.inj hq).symm)).below HB6.out HB6.out.size (fun k hk => by rw [hk]; exact HMW.out)); clear hm7 hg7)
              go_roundw
              case rel => exact ⟨j + 1, by omega, by go_num, Lib.hid (HM7.out.congr (fun x _ => by rw [fB_app, HTJ.out])), HB7⟩
              case measure => simp [intOf]; omega
            · obtain rfl : j = cs.length := by omega
              have HBF := Lib.hid (HB4.out.trans (HBD.out.mono HB4.out.size))
              go_wp2_with fail
              go_roundw
              case rel => exact ⟨k + 1, by omega, by go_num, HBF⟩
              case measure => simp [intOf]; omega
        · go_wp2_with fail
          clear hmm hW5 hm
          go_loopw [68] (fun i wr => ∃ j : Nat, j ≤ cs.length ∧ i = .int .i64 (j : Int) ∧ Hid (MB wr m j (fB ((cs.take j).map Cx.tok))) ∧ Hid (Below w4.heap.size w4 wr)) (fun i _ => cs.length - (intOf i).toNat)
          case atStart => exact ⟨0, Nat.zero_le _, rfl, HM5, HB5⟩
          case round =>
            clear HM5 HB5
            obtain ⟨j, hj, rfl, HM, HBD⟩ := hrel
            by_cases hlt2 : j < cs.length
            · have hlti2 : (j : Int) < (cs.length : Int) := by omega
              obtain ⟨b, off, cp, e1, -, -, -, hbl, hcs⟩ : ∃ b off cp, Value.slice ao cs.length co = .slice (some ⟨b, off, none⟩) cs.length cp ∧ 0 < cs.length ∧ cs.length ≤ cp ∧ cp ≤ 9223372036854775807 ∧ b < w4.heap.size ∧ ∀ i x, cs[i]? = some x → ∀ j u, (cxC x)[j]? = some u → w4.cell? ⟨b, off + (i * 2 + j), none⟩ = some u := by
                rcases SlR.cases (HO4.out.sl cxC_len) with ⟨a2, c2, e, hnil⟩ | h
                · rw [hnil] at hlt2; simp at hlt2
                · exact h
              simp only [Value.slice.injEq] at e1
              obtain ⟨rfl, -, rfl⟩ := e1
              obtain ⟨c, hc⟩ : ∃ x, cs[j]? = some x := ⟨_, List.getElem?_eq_getElem hlt2⟩
              obtain ⟨x0, x1'⟩ := cxC_cells (w := wr) (b := b) (o := off + j * 2) (fun i u hu => by rw [Nat.add_assoc]; exact (HBD.out.cell (p := ⟨b, off + (j * 2 + i), none⟩) hbl).trans (hcs j c hc i u hu))
              have hcm := List.mem_of_getElem? hc
              have htk := HS.out.2.1 c hcm
              have HOI : Hid (Mp.okI c.tok) := Lib.hid (by
                have hl := HLM.out
                unfold Mp.okI at hl ⊢
                simp [Lit.wf, IntKind.min, IntKind.max, IntKind.signed, IntKind.bits] at hl ⊢
                omega)
              have htj : (cs.take (j + 1)).map Cx.tok = (cs.take j).map Cx.tok ++ [c.tok] := by rw [List.take_add_one, hc]; simp
              have HTJ := Lib.hid htj
              have hno : c.tok ∉ (cs.take j).map Cx.tok := fun q => by
                have hd := HS.out.1
                have e2 : cs.map Cx.tok = (cs.take (j + 1)).map Cx.tok ++ (cs.drop (j + 1)).map Cx.tok := by rw [← List.map_append, List.take_append_drop]
                rw [e2, htj] at hd
                have := (List.nodup_append.1 (List.nodup_append.1 hd).1).2.2 _ q c.tok (by simp)
                exact this rfl
              obtain ⟨g, hg⟩ : ∃ q, wr.heap.size = q := ⟨_, rfl⟩
              obtain ⟨W6, hW6⟩ : ∃ q, wr.alloc (.cells #[.int .i64 c.node, .int .i64 c.tok] 34) = q := ⟨_, rfl⟩
              have hg6 : W6.heap[g]? = some (.cells #[.int .i64 c.node, .int .i64 c.tok] 34 (0, 0)) := by rw [← hW6, ← hg]; exact heap_alloc_new _ _
              have HM6 : Hid (MB W6 m j (fB ((cs.take j).map Cx.tok))) := Lib.hid (by rw [← hW6]; exact HM.out.alloc _)
              have hlk := fB_none HM6.out HOI.out hno
              have y1 : W6.cell? ⟨g, 1, none⟩ = some (.int .i64 c.tok) := (cell_of_row W6 _ 1 _ _ _ hg6).trans rfl
              have HB6 : Hid (Below w4.heap.size w4 W6) := Lib.hid (by rw [← hW6]; exact HBD.out.alloc HBD.out.size _)
              have d1 : decide (c.tok < 1) = false := decide_eq_false (by omega)
              have d2 : decide (a0 < c.tok) = false := decide_eq_false (by omega)
              clear hcs hc hcm htk htj hno hg6
              go_wp2_with (at_mapUpdate; refine Mp.wp_put rfl _ _ _ _ rfl KI Try.underlying35 m j _ rfl HM6.out (by unfold maxLen; omega) c.tok HOI.out (.bool true) rfl rfl ?_; intro w7 hm7 hg7; have HM7 := Lib.hid hm7; have HB7 : Hid (Below w4.heap.size w4 w7) := Lib.hid ((Only.grown (S := fun k => k = m) hg7 (fun q hq => (Option.some.inj hq).symm)).below HB6.out HB6.out.size (fun k hk => by rw [hk]; exact HMW.out)); clear hm7 hg7)
              go_roundw
              case rel => exact ⟨j + 1, by omega, by go_num, Lib.hid (HM7.out.congr (fun x _ => by rw [fB_app, HTJ.out])), HB7⟩
              case measure => simp [intOf]; omega
            · obtain rfl : j = cs.length := by omega
              have HBF := Lib.hid (HB4.out.trans (HBD.out.mono HB4.out.size))
              go_wp2_with fail
              go_roundw
              case rel => exact ⟨k + 1, by omega, by go_num, HBF⟩
              case measure => simp [intOf]; omega
      · have hlti : ¬ (k : Int) ≤ (x1.length : Int) := by omega
        go_wp2_with fail
        go_ret
        exact ⟨rfl, HB.out⟩

set_option maxRecDepth 100000 in
theorem contract (H : Type) (enc : TypeId × Value → H) (W : World) (base : Nat) (args : Array Value) (ds gs : List (DataW H)) (before : List MemPlace)
    (hval0 : ∀ (j : Nat) t v, Try.f5.params[j]? = some t → args[j]? = some v → Value.okWide Try.prog W .any base t v)
    (hW : DataW.Whole enc Try.prog Try.f5.params.toList Rows.judgeBudgetSpec.vars false W args.toList ds gs before)
    (hsz0 : (DataW.weightsEach Try.prog (Try.f5.params.toList ++ Rows.judgeBudgetSpec.plain.varTypes Try.prog) (ds ++ gs)).all (· ≤ reachBytes) = true) :
    Calls Try.prog 5 args W fun e W' => ∃ v, e = .returned v ∧ Rows.judgeBudgetSpec.post enc Try.prog Try.f5 false true false false W args v W' := by
  have hval : ∀ (j : Nat) t v, Try.f5.params[j]? = some t → args[j]? = some v → Value.okWide Try.prog W .any base t v := hval0
  have hW' := hW
  obtain ⟨p, q, hA0, hV, rfl, hfz, hnd⟩ := hW
  have hA : DataW.TrodAll enc Try.prog W 0 (fun _ => true) true Try.f5.params.toList args.toList ds p := hA0
  rw [Try.params5] at hA hval
  have hsz := hsz0
  rw [Try.params5] at hsz
  obtain ⟨v0, vs0, d0, ds0, p0, q0, hargs, rfl, rfl, h0, r0⟩ := trodAll_cons hA
  obtain ⟨v1, vs1, d1, ds1, p1, q1, rfl, rfl, rfl, h1, r1⟩ := trodAll_cons r0
  obtain ⟨rfl, rfl, rfl⟩ := trodAll_nil r1
  obtain rfl : args = #[v0, v1] := by cases args; simp_all
  obtain ⟨rfl, rfl⟩ := trodVars_none hV
  clear hA0 hval0
  have k0 := h0
  have lt0 : ∀ x ∈ p0, x.block < W.heap.size := by obtain ⟨m, hm⟩ := k0; exact DataW.trod_lt m _ _ _ hm
  have k1 := h1
  have lt1 : ∀ x ∈ p1, x.block < W.heap.size := by obtain ⟨m, hm⟩ := k1; exact DataW.trod_lt m _ _ _ hm
  obtain ⟨a0, rfl, -, -, w0⟩ := open_int Try.underlying3 (hval 0 3 v0 rfl rfl) h0
  obtain ⟨x1, w1, -, s1⟩ := open_sxC (hval 1 22 v1 rfl rfl) k1
  have b1 : IsSeens.fits x1 := s1 (wt_arg hsz (j := 1) rfl rfl)
  refine (walk a0 v1 x1 W w0 w1 b1).mono fun e W' ⟨he, bel⟩ => ?_
  subst he
  exact ⟨_, rfl, _, _, _, [], _, [], hW', trodAll_mk1 (shut_bool Try.underlying4 _), (trodAll_cons_mk (Below.trod laidOut (by kernel_rfl) (of_decide_eq_true (by kernel_rfl)) k0 bel lt0) (trodAll_cons_mk (Below.trod laidOut (by kernel_rfl) (of_decide_eq_true (by kernel_rfl)) k1 bel lt1) trodAll_mk0)), rfl, bel.frame _, fun h => by cases h⟩

set_option maxRecDepth 100000 in
theorem lifted (os : Os) (started : os.Started) (H : Type) (enc : TypeId × Value → H) :
    ReturnsInHanded {} Try.checked os 5 .any (Rows.judgeBudgetSpec.pre6 enc Try.prog Try.f5 Rows.judgeBudgetRow.domain false) (Rows.judgeBudgetSpec.post enc Try.prog Try.f5 false true false false) := by
  refine returnsInHanded_of_change_sized (C := Try.checked) own started (by kernel_rfl) Try.func5
    (ChangeSpec.witness6 (enc := enc) (C := Try.checked) false ⟨#[], #[.int .i64 0, .slice none 0 0], []⟩ 8 (by kernel_rfl) (by kernel_rfl) (by kernel_rfl) (by kernel_rfl)) ?_
  intro W base args ds gs before hval0 hW hcnd hsz _
  exact contract H enc W base args ds gs before hval0 hW hsz

theorem proved : Rows.JudgeBudgetSaid :=
  OpenClaim.holds_of_wide 5 Try.f5 rfl rfl rfl rfl rfl rfl rfl ⟨rfl, rfl, rfl, rfl, rfl⟩ rfl rfl rfl rfl rfl (by kernel_rfl) Try.func5 (by kernel_rfl)
    (of_decide_eq_true (by kernel_rfl)) (by unfold Func.isWrapper; first | (rw [if_pos (by decide +kernel)]; kernel_rfl) | (rw [if_neg (by decide +kernel)]; exact ⟨rfl, rfl⟩))
    (fun os started H enc _ => lifted os started H enc)
end Go.Proofs.Yteihopgnpiajoaa.judgeBudget
