/- The document's wrong, Judge. No condition. -/
import Derived.Test.YteihopgnpiajoaaJjE
namespace Go.Proofs.Yteihopgnpiajoaa
open Go.ChangeShapes Go.WideShapes Go.ChangeAt Go.RowKit Go.Deep
set_option linter.unusedVariables false
set_option maxRecDepth 100000
set_option linter.unusedSimpArgs false
namespace Jj
variable {w w' : World} {p m n : Nat} {lim : Int} {cs : List Cx}
def g0B (lim : Int) (s : Sx) : Bool := decide (1 ≤ lim) && decide (1 ≤ s.node) && decide (s.node ≤ 7)
theorem good_eq (lim : Int) (s : Sx) : goodB lim s = (g0B lim s && (((decide (s.kind = 1) || decide (s.kind = 2)) && decide (1 ≤ s.tok) && decide (s.tok ≤ lim)) || (decide (s.kind = 3) && decide (s.tok = 0)))) := rfl
theorem is_succ {j : Nat} {c : Cx} (h : cs[j]? = some c) (s : Sx) : isB (cs.take (j + 1)) s = (isB (cs.take j) s || (decide (c.node = s.node) && decide (c.tok = s.tok))) := by
  have h1 : cs.take (j + 1) = cs.take j ++ [c] := by rw [List.take_add_one, h]; rfl
  unfold isB; rw [h1, List.any_append, List.any_cons, List.any_nil, Bool.or_false]
theorem other_succ {j : Nat} {c : Cx} (h : cs[j]? = some c) (s : Sx) : otherB (cs.take (j + 1)) s = (otherB (cs.take j) s || (!decide (c.node = s.node) && decide (c.tok = s.tok))) := by
  have h1 : cs.take (j + 1) = cs.take j ++ [c] := by rw [List.take_add_one, h]; rfl
  unfold otherB; rw [h1, List.any_append, List.any_cons, List.any_nil, Bool.or_false]
theorem many_succ {j : Nat} {c : Cx} (h : cs[j]? = some c) (i : Int) : manyN (cs.take (j + 1)) i = manyN (cs.take j) i + (if c.node = i then 1 else 0) := by
  have h1 : cs.take (j + 1) = cs.take j ++ [c] := by rw [List.take_add_one, h]; rfl
  rw [h1, many_app]
theorem many_le (cs : List Cx) (i : Int) : manyN cs i ≤ cs.length := List.countP_le_length
theorem sub_take {l : List Sx} {b off cp k : Nat} (h : SlR 3 sxC w (.slice (some ⟨b, off, none⟩) l.length cp) l) (hk : k ≤ l.length) : SlR 3 sxC w (.slice (some ⟨b, off, none⟩) k cp) (l.take k) := by
  obtain ⟨a, c, e, h1, h2, h3⟩ := h
  simp only [Value.slice.injEq] at e
  obtain ⟨rfl, -, rfl⟩ := e
  have hl : (l.take k).length = k := by rw [List.length_take]; omega
  refine ⟨_, cp, by rw [hl], by omega, h2, ?_⟩
  rcases h3 with ⟨h3, -⟩ | ⟨b', off', sp, h3, h4⟩
  · cases h3
  · refine .inr ⟨b', off', sp, h3, ?_⟩
    rcases h4 with rfl | ⟨h5, h6, h7⟩
    · exact .inl (by simp)
    · exact .inr ⟨h5, h6, fun i x hx j u hu => h7 i x (by
        rw [List.getElem?_take] at hx
        split at hx
        · exact hx
        · cases hx) j u hu⟩
set_option maxHeartbeats 16000000 in
theorem wrong_any {v : Value} {l : List Sx} {k : Nat} {s : Sx} (w : World) (hv : SlR 3 sxC w v l) (hx : l[k]? = some s) (hl : l.length ≤ 1000) :
    Calls Try.prog 23 #[.int .i64 lim, v, .int .i64 k] w fun e w' => e = .returned (.int .i64 (wrongE lim (openL (l.take k)) s)) ∧ Below w.heap.size w w' := by
  have hlt : k < l.length := (List.getElem?_eq_some_iff.1 hx).1
  obtain ⟨b, off, cp, e1, -, hlc, hcm, hbl, hcs⟩ : ∃ b off cp, v = .slice (some ⟨b, off, none⟩) l.length cp ∧ 0 < l.length ∧ l.length ≤ cp ∧ cp ≤ 9223372036854775807 ∧ b < w.heap.size ∧ ∀ i x, l[i]? = some x → ∀ j u, (sxC x)[j]? = some u → w.cell? ⟨b, off + (i * 3 + j), none⟩ = some u := by
    rcases SlR.cases hv with ⟨a2, c2, e, hnil⟩ | h
    · rw [hnil] at hlt; simp at hlt
    · exact h
  subst e1
  obtain ⟨q0, q1, q2⟩ := sxC_cells (w := w) (b := b) (o := off + k * 3) (fun j u hu => by rw [Nat.add_assoc]; exact hcs k s hx j u hu)
  have HV := Lib.hid hv
  have HX := Lib.hid hx
  have hki : (k : Int) < (l.length : Int) := by omega
  obtain ⟨W1, hW1⟩ : ∃ q, w.alloc (.cells #[.int .i64 s.kind, .int .i64 s.node, .int .i64 s.tok] TS) = q := ⟨_, rfl⟩
  have hb1 : Below w.heap.size w W1 := by rw [← hW1]; exact (Below.refl _ _).alloc (Nat.le_refl _) _
  obtain ⟨g, hg⟩ : ∃ q, w.heap.size = q := ⟨_, rfl⟩
  have hg1 : W1.heap[g]? = some (.cells #[.int .i64 s.kind, .int .i64 s.node, .int .i64 s.tok] TS (0, 0)) := by rw [← hW1, ← hg]; exact heap_alloc_new _ _
  have HG := Lib.hid hg1
  have HB := Lib.hid hb1
  have k0 : W1.cell? ⟨g, 0, none⟩ = some (.int .i64 s.kind) := (cell_of_row W1 _ 0 _ _ _ hg1).trans rfl
  have k1 : W1.cell? ⟨g, 1, none⟩ = some (.int .i64 s.node) := (cell_of_row W1 _ 1 _ _ _ hg1).trans rfl
  have k2 : W1.cell? ⟨g, 2, none⟩ = some (.int .i64 s.tok) := (cell_of_row W1 _ 2 _ _ _ hg1).trans rfl
  clear hv hcs hx hb1 hg1
  go_enter Try.func23, Try.ntmps23
  go_upto_region 2 with fail
  clear hW1 q0 q1 q2
  go_cut [8] (fun v wx => (∃ y, v = .bool y ∧ Hid (g0B lim s = y)) ∧ W1 = wx)
  case first =>
    by_cases a1 : 1 ≤ lim
    · by_cases a2 : 1 ≤ s.node
      · by_cases a3 : s.node ≤ 7
        · have HE : Hid (g0B lim s = true) := Lib.hid (by unfold g0B; rw [decide_eq_true a1, decide_eq_true a2, decide_eq_true a3]; rfl)
          go_wp2
          go_meet
          exact ⟨⟨_, rfl, HE⟩, rfl⟩
        · have HE : Hid (g0B lim s = false) := Lib.hid (by unfold g0B; rw [decide_eq_true a1, decide_eq_true a2, decide_eq_false a3]; rfl)
          have a3b : decide (s.node ≤ 7) = false := decide_eq_false a3
          go_wp2
          go_meet
          exact ⟨⟨_, rfl, HE⟩, rfl⟩
      · have HE : Hid (g0B lim s = false) := Lib.hid (by unfold g0B; rw [decide_eq_true a1, decide_eq_false a2]; rfl)
        have a2b : decide (1 ≤ s.node) = false := decide_eq_false a2
        go_wp2
        go_meet
        exact ⟨⟨_, rfl, HE⟩, rfl⟩
    · have HE : Hid (g0B lim s = false) := Lib.hid (by unfold g0B; rw [decide_eq_false a1]; rfl)
      have a1b : decide (1 ≤ lim) = false := decide_eq_false a1
      go_wp2
      go_meet
      exact ⟨⟨_, rfl, HE⟩, rfl⟩
  case rest =>
    obtain ⟨⟨y, rfl, HY⟩, hwx⟩ := hcut
    subst hwx
    go_upto_block 0 with fail
    go_cut [8] (fun v wx => (∃ y, v = .bool y ∧ Hid (goodB lim s = y)) ∧ W1 = wx)
    case first =>
      rcases Decidable.em (s.kind = 1) with g1 | g1
      · have f1 : (s.kind == 1) = true := by rw [g1]; rfl
        have HQ : Hid (goodB lim s = (y && (decide (1 ≤ s.tok) && decide (s.tok ≤ lim)))) := Lib.hid (by
          rw [good_eq, HY.out]
          have gd : (decide (s.kind = 1) || decide (s.kind = 2)) = true := by rw [g1]; rfl
          have g3 : decide (s.kind = 3) = false := decide_eq_false (by omega)
          rw [gd, g3, Bool.false_and, Bool.or_false, Bool.true_and])
        clear g1
        cases y
        · have HE : Hid (goodB lim s = false) := Lib.hid (by rw [HQ.out]; rfl)
          go_wp2_with fail
          go_meet
          exact ⟨⟨_, rfl, HE⟩, rfl⟩
        by_cases t1 : 1 ≤ s.tok
        · by_cases t2 : s.tok ≤ lim
          · have HE : Hid (goodB lim s = true) := Lib.hid (by rw [HQ.out, decide_eq_true t1, decide_eq_true t2]; rfl)
            go_wp2_with fail
            go_meet
            exact ⟨⟨_, rfl, HE⟩, rfl⟩
          · have HE : Hid (goodB lim s = false) := Lib.hid (by rw [HQ.out, decide_eq_true t1, decide_eq_false t2]; rfl)
            have t2b : decide (s.tok ≤ lim) = false := decide_eq_false t2
            go_wp2_with fail
            go_meet
            exact ⟨⟨_, rfl, HE⟩, rfl⟩
        · have HE : Hid (goodB lim s = false) := Lib.hid (by rw [HQ.out, decide_eq_false t1]; rfl)
          have t1b : decide (1 ≤ s.tok) = false := decide_eq_false t1
          go_wp2_with fail
          go_meet
          exact ⟨⟨_, rfl, HE⟩, rfl⟩
      rcases Decidable.em (s.kind = 2) with g2 | g2
      · have f1 : (s.kind == 1) = false := beq_eq_false_iff_ne.2 (by omega)
        have f2 : (s.kind == 2) = true := by rw [g2]; rfl
        have HQ : Hid (goodB lim s = (y && (decide (1 ≤ s.tok) && decide (s.tok ≤ lim)))) := Lib.hid (by
          rw [good_eq, HY.out]
          have gd : (decide (s.kind = 1) || decide (s.kind = 2)) = true := by rw [g2]; rfl
          have g3 : decide (s.kind = 3) = false := decide_eq_false (by omega)
          rw [gd, g3, Bool.false_and, Bool.or_false, Bool.true_and])
        clear g2
        cases y
        · have HE : Hid (goodB lim s = false) := Lib.hid (by rw [HQ.out]; rfl)
          go_wp2_with fail
          go_meet
          exact ⟨⟨_, rfl, HE⟩, rfl⟩
        by_cases t1 : 1 ≤ s.tok
        · by_cases t2 : s.tok ≤ lim
          · have HE : Hid (goodB lim s = true) := Lib.hid (by rw [HQ.out, decide_eq_true t1, decide_eq_true t2]; rfl)
            go_wp2_with fail
            go_meet
            exact ⟨⟨_, rfl, HE⟩, rfl⟩
          · have HE : Hid (goodB lim s = false) := Lib.hid (by rw [HQ.out, decide_eq_true t1, decide_eq_false t2]; rfl)
            have t2b : decide (s.tok ≤ lim) = false := decide_eq_false t2
            go_wp2_with fail
            go_meet
            exact ⟨⟨_, rfl, HE⟩, rfl⟩
        · have HE : Hid (goodB lim s = false) := Lib.hid (by rw [HQ.out, decide_eq_false t1]; rfl)
          have t1b : decide (1 ≤ s.tok) = false := decide_eq_false t1
          go_wp2_with fail
          go_meet
          exact ⟨⟨_, rfl, HE⟩, rfl⟩
      have HQ : Hid (goodB lim s = (y && (decide (s.kind = 3) && decide (s.tok = 0)))) := Lib.hid (by
        rw [good_eq, HY.out, decide_eq_false g1, decide_eq_false g2]; rfl)
      rcases Decidable.em (s.kind = 3) with g3 | g3
      · have f1 : (s.kind == 1) = false := beq_eq_false_iff_ne.2 (by omega)
        have f2 : (s.kind == 2) = false := beq_eq_false_iff_ne.2 (by omega)
        have f3 : (s.kind == 3) = true := by rw [g3]; rfl
        have g3b := decide_eq_true g3
        have HQ2 : Hid (goodB lim s = (y && decide (s.tok = 0))) := Lib.hid (by rw [HQ.out, g3b]; rfl)
        clear g1 g2 g3 g3b HQ
        cases y
        · have HE : Hid (goodB lim s = false) := Lib.hid (by rw [HQ2.out]; rfl)
          go_wp2_with fail
          go_meet
          exact ⟨⟨_, rfl, HE⟩, rfl⟩
        by_cases t0 : s.tok = 0
        · have ft : (s.tok == 0) = true := by simpa using t0
          have HE : Hid (goodB lim s = true) := Lib.hid (by rw [HQ2.out, decide_eq_true t0]; rfl)
          clear t0
          go_wp2_with fail
          go_meet
          exact ⟨⟨_, rfl, HE⟩, rfl⟩
        · have ft : (s.tok == 0) = false := by simpa using t0
          have HE : Hid (goodB lim s = false) := Lib.hid (by rw [HQ2.out, decide_eq_false t0]; rfl)
          clear t0
          go_wp2_with fail
          go_meet
          exact ⟨⟨_, rfl, HE⟩, rfl⟩
      · have f1 : (s.kind == 1) = false := beq_eq_false_iff_ne.2 g1
        have f2 : (s.kind == 2) = false := beq_eq_false_iff_ne.2 g2
        have f3 : (s.kind == 3) = false := beq_eq_false_iff_ne.2 g3
        have HE : Hid (goodB lim s = false) := Lib.hid (by rw [HQ.out, decide_eq_false g3]; simp)
        clear g1 g2 g3 HQ
        cases y
        all_goals
          go_wp2_with fail
          go_meet
          exact ⟨⟨_, rfl, HE⟩, rfl⟩
    case rest =>
      obtain ⟨⟨z, rfl, HZ⟩, hwx⟩ := hcut
      subst hwx
      cases z
      · have HE : Hid (wrongE lim (openL (l.take k)) s = 1) := Lib.hid (by unfold wrongE; rw [if_pos HZ.out])
        go_wp2_with fail
        go_ret
        exact ⟨by rw [HE.out]; rfl, HB.out⟩
      have HSV : Hid (SlR 3 sxC W1 (.slice (some ⟨b, off, none⟩) k cp) (l.take k)) := Lib.hid (sub_take (HV.out.below HB.out (Nat.le_refl _)) (by omega))
      have hk9 : (k : Int) ≤ (cp : Int) := by omega
      go_wp2_with fail
      refine (ropen_any _ HSV.out (by rw [List.length_take]; omega)).mono ?_
      rintro e w2 ⟨u, rfl, ho, hb⟩
      obtain ⟨cs, hcs⟩ : ∃ q, openL (l.take k) = q := ⟨_, rfl⟩
      have HLC : Hid (cs.length ≤ 1000) := Lib.hid (by rw [← hcs]; have := open_len (l.take k); rw [List.length_take] at this; omega)
      rw [hcs] at ho
      have HCS := Lib.hid hcs
      have HO := Lib.hid ho
      have HB2 : Hid (Below w.heap.size w w2) := Lib.hid (HB.out.trans (hb.mono (by have := HB.out.size; omega)))
      have hg2 := (hb.block _ (row_lt HG.out)).trans HG.out
      have HG2 := Lib.hid hg2
      obtain ⟨ao, co, hou⟩ := own_slice ho
      subst hou
      have hcl : cs.length ≤ 1000 := HLC.out
      clear ho hb hg2 k0 k1 k2 hcs
      go_wp2_with fail
      go_loopw [9, 10, 11, 62] (fun x y c i wr => ∃ j : Nat, j ≤ cs.length ∧ i = .int .i64 (j : Int) ∧ x = .bool (isB (cs.take j) s) ∧ y = .bool (otherB (cs.take j) s) ∧ c = .int .i64 (manyN (cs.take j) s.node) ∧ Hid (Below w2.heap.size w2 wr)) (fun _ _ _ i _ => cs.length - (intOf i).toNat)
      case atStart => exact ⟨0, Nat.zero_le _, rfl, rfl, rfl, rfl, Lib.hid (Below.refl _ _)⟩
      case round =>
        obtain ⟨j, hj, rfl, rfl, rfl, rfl, HBD⟩ := hrel
        by_cases hlt2 : j < cs.length
        · have hlti2 : (j : Int) < (cs.length : Int) := by omega
          obtain ⟨go, offo, cpo, e2, -, -, -, hgl, hcs2⟩ : ∃ b off cp, Value.slice ao cs.length co = .slice (some ⟨b, off, none⟩) cs.length cp ∧ 0 < cs.length ∧ cs.length ≤ cp ∧ cp ≤ 9223372036854775807 ∧ b < w2.heap.size ∧ ∀ i x, cs[i]? = some x → ∀ j u, (cxC x)[j]? = some u → w2.cell? ⟨b, off + (i * 2 + j), none⟩ = some u := by
            rcases SlR.cases (HO.out.sl cxC_len) with ⟨a2, c2, e, hnil⟩ | h
            · rw [hnil] at hlt2; simp at hlt2
            · exact h
          simp only [Value.slice.injEq] at e2
          obtain ⟨rfl, -, rfl⟩ := e2
          obtain ⟨c, hc⟩ : ∃ x, cs[j]? = some x := ⟨_, List.getElem?_eq_getElem hlt2⟩
          obtain ⟨x0, x1⟩ := cxC_cells (w := wr) (b := go) (o := offo + j * 2) (fun i u hu => by rw [Nat.add_assoc]; exact (HBD.out.cell (p := ⟨go, offo + (j * 2 + i), none⟩) hgl).trans (hcs2 j c hc i u hu))
          have hgs := (HBD.out.block _ (row_lt HG2.out)).trans HG2.out
          obtain ⟨W3, hW3⟩ : ∃ q, wr.alloc (.cells #[.int .i64 c.node, .int .i64 c.tok] 34) = q := ⟨_, rfl⟩
          have hb1 : Below wr.heap.size wr W3 := by rw [← hW3]; exact (Below.refl _ _).alloc (Nat.le_refl _) _
          obtain ⟨g2, hg2⟩ : ∃ q, wr.heap.size = q := ⟨_, rfl⟩
          have hc1 : W3.heap[g2]? = some (.cells #[.int .i64 c.node, .int .i64 c.tok] 34 (0, 0)) := by rw [← hW3, ← hg2]; exact heap_alloc_new _ _
          have hs1 := (hb1.block _ (row_lt hgs)).trans hgs
          have m1 : W3.cell? ⟨g, 1, none⟩ = some (.int .i64 s.node) := (cell_of_row W3 _ 1 _ _ _ hs1).trans rfl
          have m2 : W3.cell? ⟨g, 2, none⟩ = some (.int .i64 s.tok) := (cell_of_row W3 _ 2 _ _ _ hs1).trans rfl
          have y0 : W3.cell? ⟨g2, 0, none⟩ = some (.int .i64 c.node) := (cell_of_row W3 _ 0 _ _ _ hc1).trans rfl
          have y1 : W3.cell? ⟨g2, 1, none⟩ = some (.int .i64 c.tok) := (cell_of_row W3 _ 1 _ _ _ hc1).trans rfl
          have HBD3 : Hid (Below w2.heap.size w2 W3) := Lib.hid (HBD.out.trans (hb1.mono HBD.out.size))
          obtain ⟨bi, hbi⟩ : ∃ q, isB (cs.take j) s = q := ⟨_, rfl⟩
          obtain ⟨bo, hbo⟩ : ∃ q, otherB (cs.take j) s = q := ⟨_, rfl⟩
          obtain ⟨mz, hmz⟩ : ∃ q, (manyN (cs.take j) s.node : Int) = q := ⟨_, rfl⟩
          have HI1 := Lib.hid (is_succ hc s)
          have HO1 := Lib.hid (other_succ hc s)
          have HM1 := Lib.hid (many_succ hc s.node)
          have hmr : 0 ≤ mz ∧ mz ≤ 1000 := by have := many_le (cs.take j) s.node; rw [List.length_take] at this; omega
          have HMZ := Lib.hid hmz
          rw [hbi] at HI1
          rw [hbo] at HO1
          rw [hbi, hbo, hmz]
          clear hb1 hc1 hs1 hgs hcs2 hc hbi hbo hmz
          by_cases e1 : c.node = s.node
          · have f1 : (c.node == s.node) = true := by simpa using e1
            have f1n : (c.node != s.node) = false := by simpa using e1
            have HMS : Hid ((manyN (cs.take (j + 1)) s.node : Int) = mz + 1) := Lib.hid (by rw [HM1.out, if_pos e1]; have := HMZ.out; omega)
            by_cases e2 : c.tok = s.tok
            · have f2 : (c.tok == s.tok) = true := by simpa using e2
              rw [decide_eq_true e1, decide_eq_true e2] at HI1 HO1
              clear e1 e2
              cases bi <;> cases bo
              all_goals
                go_wp2_with fail
                go_roundw
                case rel => exact ⟨j + 1, by omega, by go_num, by rw [HI1.out]; rfl, by rw [HO1.out]; rfl, by rw [HMS.out], HBD3⟩
                case measure => simp [intOf]; omega
            · have f2 : (c.tok == s.tok) = false := by simpa using e2
              rw [decide_eq_true e1, decide_eq_false e2] at HI1 HO1
              clear e1 e2
              cases bi <;> cases bo
              all_goals
                go_wp2_with fail
                go_roundw
                case rel => exact ⟨j + 1, by omega, by go_num, by rw [HI1.out]; rfl, by rw [HO1.out]; rfl, by rw [HMS.out], HBD3⟩
                case measure => simp [intOf]; omega
          · have f1 : (c.node == s.node) = false := by simpa using e1
            have f1n : (c.node != s.node) = true := by simpa using e1
            have HMS : Hid ((manyN (cs.take (j + 1)) s.node : Int) = mz) := Lib.hid (by rw [HM1.out, if_neg e1]; have := HMZ.out; omega)
            by_cases e2 : c.tok = s.tok
            · have f2 : (c.tok == s.tok) = true := by simpa using e2
              rw [decide_eq_false e1, decide_eq_true e2] at HI1 HO1
              clear e1 e2
              cases bi <;> cases bo
              all_goals
                go_wp2_with fail
                go_roundw
                case rel => exact ⟨j + 1, by omega, by go_num, by rw [HI1.out]; rfl, by rw [HO1.out]; rfl, by rw [HMS.out], HBD3⟩
                case measure => simp [intOf]; omega
            · have f2 : (c.tok == s.tok) = false := by simpa using e2
              rw [decide_eq_false e1, decide_eq_false e2] at HI1 HO1
              clear e1 e2
              cases bi <;> cases bo
              all_goals
                go_wp2_with fail
                go_roundw
                case rel => exact ⟨j + 1, by omega, by go_num, by rw [HI1.out]; rfl, by rw [HO1.out]; rfl, by rw [HMS.out], HBD3⟩
                case measure => simp [intOf]; omega
        · obtain rfl : j = cs.length := by omega
          rw [List.take_length]
          have hgs := (HBD.out.block _ (row_lt HG2.out)).trans HG2.out
          have HBF : Hid (Below w.heap.size w wr) := Lib.hid (HB2.out.trans (HBD.out.mono HB2.out.size))
          have m0 : wr.cell? ⟨g, 0, none⟩ = some (.int .i64 s.kind) := (cell_of_row wr _ 0 _ _ _ hgs).trans rfl
          obtain ⟨bi, hbi⟩ : ∃ q, isB cs s = q := ⟨_, rfl⟩
          obtain ⟨bo, hbo⟩ : ∃ q, otherB cs s = q := ⟨_, rfl⟩
          obtain ⟨mn, hmn⟩ : ∃ q, manyN cs s.node = q := ⟨_, rfl⟩
          have HW : Hid (wrongE lim cs s = if s.kind = 1 then (if bi = true then 3 else if bo = true then 220 else if 8 ≤ mn then 6 else 0) else if s.kind = 2 then (if bi = true then 0 else 4) else 0) := Lib.hid (by unfold wrongE; rw [if_neg (by rw [HZ.out]; decide), hbi, hbo, hmn])
          rw [hbi, hbo, hmn]
          clear hgs hbi hbo hmn
          rcases Decidable.em (s.kind = 1) with g1 | g1
          · have f1 : (s.kind == 1) = true := by rw [g1]; rfl
            have f2 : (s.kind == 2) = false := by rw [g1]; rfl
            have HW1 : Hid (wrongE lim cs s = if bi = true then 3 else if bo = true then 220 else if 8 ≤ mn then 6 else 0) := Lib.hid (by rw [HW.out, if_pos g1])
            clear g1
            cases bi
            · cases bo
              · by_cases h8 : 8 ≤ mn
                · have h8i : decide ((8 : Int) ≤ (mn : Int)) = true := decide_eq_true (by omega)
                  have HE : Hid (wrongE lim cs s = 6) := Lib.hid (by rw [HW1.out, if_neg (by decide), if_neg (by decide), if_pos h8])
                  clear HW
                  go_wp2_with fail
                  go_ret
                  exact ⟨by rw [HCS.out, HE.out]; rfl, by first | exact HBF.out | (rw [← hg]; exact HBF.out)⟩
                · have h8i : decide ((8 : Int) ≤ (mn : Int)) = false := decide_eq_false (by omega)
                  have HE : Hid (wrongE lim cs s = 0) := Lib.hid (by rw [HW1.out, if_neg (by decide), if_neg (by decide), if_neg h8])
                  clear HW
                  go_wp2_with fail
                  go_ret
                  exact ⟨by rw [HCS.out, HE.out]; rfl, by first | exact HBF.out | (rw [← hg]; exact HBF.out)⟩
              · have HE : Hid (wrongE lim cs s = 220) := Lib.hid (by rw [HW1.out, if_neg (by decide), if_pos rfl])
                clear HW
                go_wp2_with fail
                go_ret
                exact ⟨by rw [HCS.out, HE.out]; rfl, by first | exact HBF.out | (rw [← hg]; exact HBF.out)⟩
            · have HE : Hid (wrongE lim cs s = 3) := Lib.hid (by rw [HW1.out, if_pos rfl])
              clear HW
              go_wp2_with fail
              go_ret
              exact ⟨by rw [HCS.out, HE.out]; rfl, by first | exact HBF.out | (rw [← hg]; exact HBF.out)⟩
          have f1 : (s.kind == 1) = false := beq_eq_false_iff_ne.2 g1
          rcases Decidable.em (s.kind = 2) with g2 | g2
          · have f2 : (s.kind == 2) = true := by rw [g2]; rfl
            have HW1 : Hid (wrongE lim cs s = if bi = true then 0 else 4) := Lib.hid (by rw [HW.out, if_neg g1, if_pos g2])
            clear g1 g2
            cases bi
            · have HE : Hid (wrongE lim cs s = 4) := Lib.hid (by rw [HW1.out, if_neg (by decide)])
              clear HW
              go_wp2_with fail
              go_ret
              exact ⟨by rw [HCS.out, HE.out]; rfl, by first | exact HBF.out | (rw [← hg]; exact HBF.out)⟩
            · have HE : Hid (wrongE lim cs s = 0) := Lib.hid (by rw [HW1.out, if_pos rfl])
              clear HW
              go_wp2_with fail
              go_ret
              exact ⟨by rw [HCS.out, HE.out]; rfl, by first | exact HBF.out | (rw [← hg]; exact HBF.out)⟩
          · have f2 : (s.kind == 2) = false := beq_eq_false_iff_ne.2 g2
            have HE : Hid (wrongE lim cs s = 0) := Lib.hid (by rw [HW.out, if_neg g1, if_neg g2])
            clear g1 g2
            clear HW
            go_wp2_with fail
            go_ret
            exact ⟨by rw [HCS.out, HE.out]; rfl, by first | exact HBF.out | (rw [← hg]; exact HBF.out)⟩

set_option maxHeartbeats 4000000 in
theorem rjudge_any {v : Value} {l : List Sx} (w : World) (hv : SlR 3 sxC w v l) (hl : l.length ≤ 1000) :
    Calls Try.prog 9 #[.int .i64 lim, v] w (Judged lim l w) := by
  have HV := Lib.hid hv
  obtain ⟨a, cap, rfl, hc1, hc2, -⟩ := id hv
  unfold maxLen at hc2
  clear hv
  go_enter Try.func9, Try.ntmps9
  go_wp2_with fail
  go_loopw [10] (fun i wr => ∃ k : Nat, k ≤ l.length ∧ i = .int .i64 (k : Int) ∧ Hid (Fine lim l k) ∧ Hid (Below w.heap.size w wr)) (fun i _ => l.length - (intOf i).toNat)
  case atStart => exact ⟨0, Nat.zero_le _, rfl, Lib.hid (Fine.zero _ _), Lib.hid (Below.refl _ _)⟩
  case round =>
    obtain ⟨k, hk, rfl, HF, HB⟩ := hrel
    by_cases hlt : k < l.length
    · have hlti : (k : Int) < (l.length : Int) := by omega
      obtain ⟨s, hx⟩ : ∃ x, l[k]? = some x := ⟨_, List.getElem?_eq_getElem hlt⟩
      have HX := Lib.hid hx
      have HVr := Lib.hid (HV.out.below HB.out (Nat.le_refl _))
      clear hx
      go_wp2_with fail
      refine (wrong_any (lim := lim) (s := s) _ HVr.out HX.out hl).mono ?_
      rintro e w3 ⟨rfl, hb⟩
      have HB3 := Lib.hid (HB.out.trans (hb.mono HB.out.size))
      clear hb
      by_cases he : wrongE lim (openL (l.take k)) s = 0
      · have HE := Lib.hid he
        rw [he]
        clear he
        have HF3 := Lib.hid (HF.out.succ HX.out HE.out)
        go_wp2_with fail
        go_roundw
        case rel => exact ⟨k + 1, by omega, by go_num, HF3, HB3⟩
        case measure => simp [intOf]; omega
      · obtain ⟨ez, hez⟩ : ∃ q, wrongE lim (openL (l.take k)) s = q := ⟨_, rfl⟩
        have HEZ := Lib.hid hez
        have hne : (ez != 0) = true := by rw [← hez]; simpa using he
        have HNE : Hid (ez ≠ 0) := Lib.hid (by rw [← hez]; exact he)
        rw [hez]
        clear hez he
        go_wp2_with fail
        go_ret2
        exact ⟨_, _, rfl, .inr ⟨k, s, HX.out, HF.out, HEZ.out, HNE.out, rfl⟩, HB3.out⟩
    · obtain rfl : k = l.length := by omega
      go_wp2_with fail
      go_ret2
      exact ⟨_, _, rfl, .inl ⟨rfl, rfl, HF.out⟩, HB.out⟩
end Jj
end Go.Proofs.Yteihopgnpiajoaa
