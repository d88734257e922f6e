/- Package judge: follow, Judge, as landed; the document's open. No condition. -/
import Derived.Test.YteihopgnpiajoaaJjD
namespace Go.Proofs.Yteihopgnpiajoaa
open Go.ChangeShapes Go.WideShapes Go.ChangeAt Go.RowKit Go.Deep
set_option linter.unusedVariables false
set_option maxRecDepth 100000
set_option linter.unusedSimpArgs false
namespace Jj
variable {w w' : World} {p m n : Nat} {lim : Int} {cs : List Cx}
def Followed (lim : Int) (l : List Sx) (w : World) (e : Ending) (w' : World) : Prop := ∃ (tv : Value) (i ee : Int), e = .returned (.tuple #[tv, .int .i64 i, .int .i64 ee]) ∧ JudP lim l i ee ∧ (ee = 0 → ∃ p m n, tv = .pointer (some ⟨p, 0, none⟩) ∧ Tw w' p m n lim (openL l) ∧ w.heap.size ≤ p ∧ w.heap.size ≤ m) ∧ Below w.heap.size w w'
def Judged (lim : Int) (l : List Sx) (w : World) (e : Ending) (w' : World) : Prop := ∃ (i ee : Int), e = .returned (.tuple #[.int .i64 i, .int .i64 ee]) ∧ JudP lim l i ee ∧ Below w.heap.size w w'
theorem trv0 (lim : Int) (m i : Nat) (h : i < 10) : (#[.int .i64 lim, .map (some m), .int .i64 0, .int .i64 0, .int .i64 0, .int .i64 0, .int .i64 0, .int .i64 0, .int .i64 0, .int .i64 0] : Array Value)[i]? = some (trV lim m [] i) := by
  match i, h with
  | 0, _ => rfl
  | 1, _ => rfl
  | 2, _ => rfl
  | 3, _ => rfl
  | 4, _ => rfl
  | 5, _ => rfl
  | 6, _ => rfl
  | 7, _ => rfl
  | 8, _ => rfl
  | 9, _ => rfl
set_option maxHeartbeats 4000000 in
theorem follow_any {v : Value} {l : List Sx} (w : World) (hv : SlR 3 sxC w v l) (hwf : ∀ x ∈ l, x.wf) (hlim : Mp.okI lim) :
    Calls Try.prog 22 #[.int .i64 lim, v] w (Followed lim l w) := by
  have HV := Lib.hid hv
  have HWF := Lib.hid hwf
  have HLM := Lib.hid hlim
  obtain ⟨a, cap, rfl, hc1, hc2, -⟩ := id hv
  unfold maxLen at hc2
  have hmm := @run_makeMap Try.prog
  obtain ⟨m, hm⟩ : ∃ q, w.heap.size = q := ⟨_, rfl⟩
  obtain ⟨W1, hW1⟩ : ∃ q, w.alloc (.map #[] 0) = q := ⟨_, rfl⟩
  obtain ⟨p, hp⟩ : ∃ q, W1.heap.size = q := ⟨_, rfl⟩
  obtain ⟨W2, hW2⟩ : ∃ q, W1.alloc (.cells #[.int .i64 lim, .map (some m), .int .i64 0, .int .i64 0, .int .i64 0, .int .i64 0, .int .i64 0, .int .i64 0, .int .i64 0, .int .i64 0] TT) = q := ⟨_, rfl⟩
  have hm1 : MI W1 m 0 (fun _ => none) := by rw [← hW1, ← hm]; exact Mp.made _ _ _ _ _
  have hb2 : Below w.heap.size w W2 := by rw [← hW2, ← hW1]; exact ((Below.refl _ _).alloc (Nat.le_refl _) _).alloc (by simp) _
  have HT : Hid (Tw W2 p m 0 lim []) := Lib.hid ⟨by rw [← hW2, ← hp]; exact World.rowIs_alloc W1 _ _ _ (fun i hi => trv0 lim m i (by simpa using hi)), (by rw [← hW2]; exact (hm1.alloc _).congr (fun x _ => rfl)), OkC.nil lim⟩
  have HB := Lib.hid hb2
  have HPM : Hid (w.heap.size ≤ p ∧ w.heap.size ≤ m) := Lib.hid (by rw [hm]; refine ⟨?_, Nat.le_refl _⟩; rw [← hp, ← hW1, ← hm]; simp)
  clear hv hwf hlim hm1 hb2
  go_enter Try.func22, Try.ntmps22
  go_wp2_with fail
  clear hW2 hW1 hmm hp hm
  go_loopw [17] (fun i wr => ∃ k : Nat, k ≤ l.length ∧ i = .int .i64 (k : Int) ∧ Hid (Fine lim l k) ∧ Hid (Tw wr p m k lim (openL (l.take k))) ∧ Hid (Below w.heap.size w wr)) (fun i _ => l.length - (intOf i).toNat)
  case atStart => exact ⟨0, Nat.zero_le _, rfl, Lib.hid (Fine.zero _ _), HT, HB⟩
  case round =>
    clear HT HB
    obtain ⟨k, hk, rfl, HF, HT, HB⟩ := hrel
    by_cases hlt : k < l.length
    · have hlti : (k : Int) < (l.length : Int) := by omega
      have BW := HB.out
      obtain ⟨b, off, cp, e1, -, -, -, hbl, hcs⟩ : ∃ b off cp, Value.slice a l.length cap = .slice (some ⟨b, off, none⟩) l.length cp ∧ 0 < l.length ∧ l.length ≤ cp ∧ cp ≤ 9223372036854775807 ∧ b < w.heap.size ∧ ∀ i x, l[i]? = some x → ∀ j u, (sxC x)[j]? = some u → w.cell? ⟨b, off + (i * 3 + j), none⟩ = some u := by
        rcases SlR.cases HV.out with ⟨a2, c2, e, hnil⟩ | h
        · rw [hnil] at hlt; simp at hlt
        · exact h
      simp only [Value.slice.injEq] at e1
      obtain ⟨rfl, -, rfl⟩ := e1
      obtain ⟨s, hx⟩ : ∃ x, l[k]? = some x := ⟨_, List.getElem?_eq_getElem hlt⟩
      obtain ⟨q0, q1, q2⟩ := sxC_cells (w := wr) (b := b) (o := off + k * 3) (fun j u hu => by rw [Nat.add_assoc]; exact (BW.cell (p := ⟨b, off + (k * 3 + j), none⟩) hbl).trans (hcs k s hx j u hu))
      have HX := Lib.hid hx
      clear hcs hx
      clear BW
      obtain ⟨W0, hW0⟩ : ∃ q, wr.alloc (.cells #[.int .i64 s.kind, .int .i64 s.node, .int .i64 s.tok] TS) = q := ⟨_, rfl⟩
      have hb0 : Below wr.heap.size wr W0 := by rw [← hW0]; exact (Below.refl _ _).alloc (Nat.le_refl _) _
      obtain ⟨g, hg⟩ : ∃ q, wr.heap.size = q := ⟨_, rfl⟩
      have hg0 : W0.heap[g]? = some (.cells #[.int .i64 s.kind, .int .i64 s.node, .int .i64 s.tok] TS (0, 0)) := by rw [← hW0, ← hg]; exact heap_alloc_new _ _
      have HT0 := Lib.hid (HT.out.below hb0)
      have HB0 := Lib.hid (HB.out.trans (hb0.mono HB.out.size))
      have k0 : W0.cell? ⟨g, 0, none⟩ = some (.int .i64 s.kind) := (cell_of_row W0 _ 0 _ _ _ hg0).trans rfl
      have k1 : W0.cell? ⟨g, 1, none⟩ = some (.int .i64 s.node) := (cell_of_row W0 _ 1 _ _ _ hg0).trans rfl
      have k2 : W0.cell? ⟨g, 2, none⟩ = some (.int .i64 s.tok) := (cell_of_row W0 _ 2 _ _ _ hg0).trans rfl
      clear hb0 hg0
      go_wp2_with fail
      clear hW0 q0 q1 q2 k0 k1 k2
      refine (step_any s _ HT0.out (HWF.out s (List.mem_of_getElem? HX.out)) HLM.out (by omega)).mono ?_
      rintro e w3 ⟨rfl, hs, ho⟩
      have HS := Lib.hid hs
      have HB3 : Hid (Below w.heap.size w w3) := Lib.hid (ho.below HB0.out HB0.out.size (fun q hq => by rcases hq with rfl | rfl; exact HPM.out.1; exact HPM.out.2))
      clear hs ho
      by_cases he : wrongE lim (openL (l.take k)) s = 0
      · have HE := Lib.hid he
        rw [he]
        clear he
        have HT3 : Hid (Tw w3 p m (k + 1) lim (openL (l.take (k + 1)))) := Lib.hid (by rw [open_succ HX.out]; exact HS.out HE.out)
        have HF3 := Lib.hid (HF.out.succ HX.out HE.out)
        go_wp2_with fail
        go_roundw
        case rel => exact ⟨k + 1, by omega, by go_num, HF3, HT3, HB3⟩
        case measure => simp [intOf]; omega
      · obtain ⟨ez, hez⟩ : ∃ q, wrongE lim (openL (l.take k)) s = q := ⟨_, rfl⟩
        have HEZ := Lib.hid hez
        have hne : (ez != 0) = true := by rw [← hez]; simpa using he
        have HNE : Hid (ez ≠ 0) := Lib.hid (by rw [← hez]; exact he)
        rw [hez]
        clear hez he
        go_wp2_with fail
        go_ret3
        exact ⟨_, _, _, rfl, .inr ⟨k, s, HX.out, HF.out, HEZ.out, HNE.out, rfl⟩, fun q => absurd q HNE.out, HB3.out⟩
    · obtain rfl : k = l.length := by omega
      go_wp2_with fail
      go_ret3
      exact ⟨_, _, _, rfl, .inl ⟨rfl, rfl, HF.out⟩, fun _ => ⟨p, m, _, rfl, by have := HT.out; rw [List.take_length] at this; exact this, HPM.out.1, HPM.out.2⟩, HB.out⟩
theorem judge_any {v : Value} {l : List Sx} (w : World) (hv : SlR 3 sxC w v l) (hwf : ∀ x ∈ l, x.wf) (hlim : Mp.okI lim) :
    Calls Try.prog 8 #[.int .i64 lim, v] w (Judged lim l w) := by
  have HV := Lib.hid hv
  have HWF := Lib.hid hwf
  have HLM := Lib.hid hlim
  clear hv hwf hlim
  go_enter Try.func8, Try.ntmps8
  go_wp2_with fail
  refine (follow_any w HV.out HWF.out HLM.out).mono ?_
  rintro e w2 ⟨tv, i, ee, rfl, hj, -, hb⟩
  have HJ := Lib.hid hj
  have HB := Lib.hid hb
  clear hj hb
  go_wp2_with fail
  go_ret2
  exact ⟨_, _, rfl, HJ.out, HB.out⟩
theorem info_cx : (Try.prog.info? 34).map (fun i => (i.zero, i.size, i.bytes)) = some (some (.agg #[.int .i64 0, .int .i64 0]), 2, 16) := by kernel_rfl
theorem info_sx : (Try.prog.info? 28).map (fun i => (i.zero, i.size, i.bytes)) = some (some (.agg #[.int .i64 0, .int .i64 0, .int .i64 0]), 3, 24) := by kernel_rfl
theorem open_len : ∀ (l : List Sx), (openL l).length ≤ l.length := by
  have h : ∀ (l : List Sx) (cs : List Cx), (l.foldl stepO cs).length ≤ cs.length + l.length := by
    intro l
    induction l with
    | nil => intro cs; simp
    | cons s l ih =>
      intro cs
      have h1 := ih (stepO cs s)
      have h2 : (stepO cs s).length ≤ cs.length + 1 := by
        unfold stepO
        split
        · simp
        · exact Nat.le_trans (List.length_filter_le _ _) (Nat.le_succ _)
      simp only [List.foldl_cons, List.length_cons]
      omega
  intro l
  have := h l []
  simp only [List.length_nil, Nat.zero_add] at this
  exact this

set_option maxHeartbeats 8000000 in
theorem ropen_any {v : Value} {l : List Sx} (w : World) (hv : SlR 3 sxC w v l) (hl : l.length ≤ 1000) :
    Calls Try.prog 28 #[v] w fun e w' => ∃ u, e = .returned u ∧ OwnR 2 cxC 34 w' w.heap.size u (openL l) ∧ Below w.heap.size w w' := by
  have HV := Lib.hid hv
  obtain ⟨a, cap, rfl, hc1, hc2, -⟩ := id hv
  unfold maxLen at hc2
  clear hv
  go_enter Try.func28, Try.ntmps28
  go_wp2_with fail
  go_loopw [3, 11] (fun o i wr => ∃ k : Nat, k ≤ l.length ∧ i = .int .i64 (k : Int) ∧ Hid (OwnR 2 cxC 34 wr w.heap.size o (openL (l.take k))) ∧ Hid (Below w.heap.size w wr)) (fun _ i _ => l.length - (intOf i).toNat)
  case atStart => exact ⟨0, Nat.zero_le _, rfl, Lib.hid (OwnR.nil _ _ _), Lib.hid (Below.refl _ _)⟩
  case round =>
    obtain ⟨k, hk, rfl, HO, HB⟩ := hrel
    have HLN : Hid ((openL (l.take k)).length ≤ 1000) := Lib.hid (by have := open_len (l.take k); rw [List.length_take] at this; omega)
    by_cases hlt : k < l.length
    · have hlti : (k : Int) < (l.length : Int) := by omega
      have BW := HB.out
      obtain ⟨b, off, cp, e1, -, -, -, hbl, hcs⟩ : ∃ b off cp, Value.slice a l.length cap = .slice (some ⟨b, off, none⟩) l.length cp ∧ 0 < l.length ∧ l.length ≤ cp ∧ cp ≤ 9223372036854775807 ∧ b < w.heap.size ∧ ∀ i x, l[i]? = some x → ∀ j u, (sxC x)[j]? = some u → w.cell? ⟨b, off + (i * 3 + j), none⟩ = some u := by
        rcases SlR.cases HV.out with ⟨a2, c2, e, hnil⟩ | h
        · rw [hnil] at hlt; simp at hlt
        · exact h
      simp only [Value.slice.injEq] at e1
      obtain ⟨rfl, -, rfl⟩ := e1
      obtain ⟨s, hx⟩ : ∃ x, l[k]? = some x := ⟨_, List.getElem?_eq_getElem hlt⟩
      obtain ⟨q0, q1, q2⟩ := sxC_cells (w := wr) (b := b) (o := off + k * 3) (fun j u hu => by rw [Nat.add_assoc]; exact (BW.cell (p := ⟨b, off + (k * 3 + j), none⟩) hbl).trans (hcs k s hx j u hu))
      have HX := Lib.hid hx
      clear hcs hx
      clear BW
      obtain ⟨W0, hW0⟩ : ∃ q, wr.alloc (.cells #[.int .i64 s.kind, .int .i64 s.node, .int .i64 s.tok] TS) = q := ⟨_, rfl⟩
      have hb0 : Below wr.heap.size wr W0 := by rw [← hW0]; exact (Below.refl _ _).alloc (Nat.le_refl _) _
      obtain ⟨g, hg⟩ : ∃ q, wr.heap.size = q := ⟨_, rfl⟩
      have hg0 : W0.heap[g]? = some (.cells #[.int .i64 s.kind, .int .i64 s.node, .int .i64 s.tok] TS (0, 0)) := by rw [← hW0, ← hg]; exact heap_alloc_new _ _
      have HB0 := Lib.hid (HB.out.trans (hb0.mono HB.out.size))
      have HO0 := Lib.hid (HO.out.below hb0 (Nat.le_refl _))
      have HG0 := Lib.hid hg0
      have k0 : W0.cell? ⟨g, 0, none⟩ = some (.int .i64 s.kind) := (cell_of_row W0 _ 0 _ _ _ hg0).trans rfl
      have k1 : W0.cell? ⟨g, 1, none⟩ = some (.int .i64 s.node) := (cell_of_row W0 _ 1 _ _ _ hg0).trans rfl
      have k2 : W0.cell? ⟨g, 2, none⟩ = some (.int .i64 s.tok) := (cell_of_row W0 _ 2 _ _ _ hg0).trans rfl
      have HSU := Lib.hid (open_succ HX.out)
      obtain ⟨cs, hcs⟩ : ∃ q, openL (l.take k) = q := ⟨_, rfl⟩
      rw [hcs] at HSU HLN HO0
      clear hb0 hg0 hcs HO
      by_cases hkd : s.kind = 1
      · have d1 : (s.kind == 1) = true := by rw [hkd]; rfl
        have HST : Hid (stepO cs s = cs ++ [⟨s.node, s.tok⟩]) := Lib.hid (by unfold stepO; rw [if_pos hkd])
        clear hkd
        obtain ⟨W1, hW1⟩ : ∃ q, W0.alloc (.cells #[.int .i64 s.node, .int .i64 s.tok] 34) = q := ⟨_, rfl⟩
        have HBA : Hid (Below w.heap.size w W1) := Lib.hid (by rw [← hW1]; exact HB0.out.alloc HB0.out.size _)
        have HO1 : Hid (OwnR 2 cxC 34 W1 w.heap.size u3 cs) := Lib.hid (by rw [← hW1]; exact HO0.out.alloc _)
        have HN1 : Hid (SlR 2 cxC W1 (.slice (some ⟨W0.heap.size, 0, none⟩) 1 1) [(⟨s.node, s.tok⟩ : Cx)]) := Lib.hid (by rw [← hW1]; exact SlR.one cxC_len W0 _ rfl _ ⟨s.node, s.tok⟩ rfl)
        go_wp2_with (at_builtin; refine appR cxC_len cxC_one Try.underlying30 rfl (by decide) info_cx rfl _ _ rfl w.heap.size _ _ rfl HO1.out (.slice (some ⟨W0.heap.size, 0, none⟩) 1 1) [(⟨s.node, s.tok⟩ : Cx)] rfl HN1.out (by have := HLN.out; simp only [List.length_singleton]; unfold maxLen; omega) (by have := HLN.out; simp only [List.length_singleton]; omega) HBA.out.size ?_; intro v3 w3 own3 hb3; rw [← HST.out, ← HSU.out] at own3; have HO3 := Lib.hid own3; have HB3 := Lib.hid (HBA.out.trans hb3); clear own3 hb3)
        go_roundw
        case rel => exact ⟨k + 1, by omega, by go_num, HO3, HB3⟩
        case measure => simp [intOf]; omega
      · have d1 : (s.kind == 1) = false := beq_eq_false_iff_ne.2 hkd
        have HST : Hid (stepO cs s = cs.filter (keepB s)) := Lib.hid (by unfold stepO; rw [if_neg hkd])
        clear hkd
        obtain ⟨ao, co, ho⟩ := own_slice HO0.out
        subst ho
        have HLO := Lib.hid HLN.out
        go_wp2_with fail
        clear hW0 q0 q1 q2
        obtain ⟨wo, hwo⟩ : ∃ q, q = wr := ⟨_, rfl⟩
        subst hwo
        have hcl : cs.length ≤ 1000 := HLN.out
        obtain ⟨D, hD⟩ : ∃ q, W0.heap.size = q := ⟨_, rfl⟩
        have HD := Lib.hid hD
        clear hD
        go_loopw [6, 28] (fun o i wr => ∃ j : Nat, j ≤ cs.length ∧ i = .int .i64 (j : Int) ∧ Hid (OwnR 2 cxC 34 wr D o ((cs.take j).filter (keepB s))) ∧ Hid (Below D W0 wr)) (fun _ i _ => cs.length - (intOf i).toNat)
        case atStart => exact ⟨0, Nat.zero_le _, rfl, Lib.hid (OwnR.nil _ _ _), Lib.hid (Below.refl _ _)⟩
        case round =>
          obtain ⟨j, hj, rfl, HOI, HBD⟩ := hrel
          by_cases hlt2 : j < cs.length
          · have hlti2 : (j : Int) < (cs.length : Int) := by omega
            obtain ⟨go, offo, cpo, e2, -, -, -, hgl, hcs2⟩ : ∃ b off cp, Value.slice ao cs.length co = .slice (some ⟨b, off, none⟩) cs.length cp ∧ 0 < cs.length ∧ cs.length ≤ cp ∧ cp ≤ 9223372036854775807 ∧ b < W0.heap.size ∧ ∀ i x, cs[i]? = some x → ∀ j u, (cxC x)[j]? = some u → W0.cell? ⟨b, off + (i * 2 + j), none⟩ = some u := by
              rcases SlR.cases (HO0.out.sl cxC_len) with ⟨a2, c2, e, hnil⟩ | h
              · rw [hnil] at hlt2; simp at hlt2
              · exact h
            simp only [Value.slice.injEq] at e2
            obtain ⟨rfl, -, rfl⟩ := e2
            obtain ⟨c, hc⟩ : ∃ x, cs[j]? = some x := ⟨_, List.getElem?_eq_getElem hlt2⟩
            obtain ⟨x0, x1⟩ := cxC_cells (w := wr) (b := go) (o := offo + j * 2) (fun i u hu => by rw [Nat.add_assoc]; exact (HBD.out.cell (p := ⟨go, offo + (j * 2 + i), none⟩) (by rw [← HD.out]; exact hgl)).trans (hcs2 j c hc i u hu))
            have HC := Lib.hid hc
            have hgs := (HBD.out.block _ (by rw [← HD.out]; exact row_lt HG0.out)).trans HG0.out
            obtain ⟨W1, hW1⟩ : ∃ q, wr.alloc (.cells #[.int .i64 c.node, .int .i64 c.tok] 34) = q := ⟨_, rfl⟩
            have hb1 : Below wr.heap.size wr W1 := by rw [← hW1]; exact (Below.refl _ _).alloc (Nat.le_refl _) _
            obtain ⟨g2, hg2⟩ : ∃ q, wr.heap.size = q := ⟨_, rfl⟩
            have hc1 : W1.heap[g2]? = some (.cells #[.int .i64 c.node, .int .i64 c.tok] 34 (0, 0)) := by rw [← hW1, ← hg2]; exact heap_alloc_new _ _
            have hs1 := (hb1.block _ (row_lt hgs)).trans hgs
            have m0 : W1.cell? ⟨g, 0, none⟩ = some (.int .i64 s.kind) := (cell_of_row W1 _ 0 _ _ _ hs1).trans rfl
            have m1 : W1.cell? ⟨g, 1, none⟩ = some (.int .i64 s.node) := (cell_of_row W1 _ 1 _ _ _ hs1).trans rfl
            have m2 : W1.cell? ⟨g, 2, none⟩ = some (.int .i64 s.tok) := (cell_of_row W1 _ 2 _ _ _ hs1).trans rfl
            have y0 : W1.cell? ⟨g2, 0, none⟩ = some (.int .i64 c.node) := (cell_of_row W1 _ 0 _ _ _ hc1).trans rfl
            have y1 : W1.cell? ⟨g2, 1, none⟩ = some (.int .i64 c.tok) := (cell_of_row W1 _ 1 _ _ _ hc1).trans rfl
            have hbD1 : Below D W0 W1 := HBD.out.trans (hb1.mono (by rw [← HD.out]; have := HBD.out.size; omega))
            have HBD1 := Lib.hid hbD1
            have HSZ : Hid (D ≤ W1.heap.size) := Lib.hid (by have := hbD1.size; have := HD.out; omega)
            have HO1 : Hid (OwnR 2 cxC 34 W1 D u6 ((cs.take j).filter (keepB s))) := Lib.hid (by rw [← hW1]; exact HOI.out.alloc _)
            have ht : (cs.take (j + 1)).filter (keepB s) = (cs.take j).filter (keepB s) ++ (if keepB s c = true then [c] else []) := by
              have h1 : cs.take (j + 1) = cs.take j ++ [c] := by rw [List.take_add_one, HC.out]; rfl
              rw [h1, List.filter_append]
              by_cases q : keepB s c = true
              · rw [if_pos q, List.filter_cons_of_pos q]; rfl
              · rw [if_neg q, List.filter_cons_of_neg q]; rfl
            have HFL : Hid (((cs.take j).filter (keepB s)).length ≤ 1000) := Lib.hid (by have := List.length_filter_le (keepB s) (cs.take j); rw [List.length_take] at this; have := HLN.out; omega)
            obtain ⟨W2, hW2⟩ : ∃ q, W1.alloc (.cells #[.int .i64 c.node, .int .i64 c.tok] 34) = q := ⟨_, rfl⟩
            have HBD2 : Hid (Below D W0 W2) := Lib.hid (by rw [← hW2]; exact hbD1.alloc HSZ.out _)
            have HSZ2 : Hid (D ≤ W2.heap.size) := Lib.hid (by have := HBD2.out.size; have := HD.out; omega)
            have HO2 : Hid (OwnR 2 cxC 34 W2 D u6 ((cs.take j).filter (keepB s))) := Lib.hid (by rw [← hW2]; exact HO1.out.alloc _)
            have HN2 : Hid (SlR 2 cxC W2 (.slice (some ⟨W1.heap.size, 0, none⟩) 1 1) [c]) := Lib.hid (by rw [← hW2]; exact SlR.one cxC_len W1 _ rfl _ c rfl)
            have HT := Lib.hid ht
            clear hb1 hc1 hs1 hgs hbD1 ht hcs2 hc
            by_cases e1 : c.node = s.node
            · have f1 : (c.node != s.node) = false := by simpa using e1
              by_cases e2 : s.kind = 2
              · have f2 : (s.kind == 2) = true := by simpa using e2
                by_cases e3 : c.tok = s.tok
                · have f3 : (c.tok != s.tok) = false := by simpa using e3
                  have HKP : Hid ((cs.take (j + 1)).filter (keepB s) = (cs.take j).filter (keepB s)) := Lib.hid (by rw [HT.out, if_neg (by unfold keepB; simp [e1, e3]), List.append_nil])
                  clear e1 e2 e3
                  go_wp2_with fail
                  go_roundw
                  case rel => exact ⟨j + 1, by omega, by go_num, Lib.hid (by rw [HKP.out]; exact HO1.out), HBD1⟩
                  case measure => simp [intOf]; omega
                · have f3 : (c.tok != s.tok) = true := by simpa using e3
                  have HKP : Hid ((cs.take (j + 1)).filter (keepB s) = (cs.take j).filter (keepB s) ++ [c]) := Lib.hid (by rw [HT.out, if_pos (by unfold keepB; simp [e1, e2, e3])])
                  clear e1 e2 e3
                  go_wp2_with (at_builtin; refine appR cxC_len cxC_one Try.underlying30 rfl (by decide) info_cx rfl _ _ rfl D _ _ rfl HO2.out (.slice (some ⟨W1.heap.size, 0, none⟩) 1 1) [c] rfl HN2.out (by have := HFL.out; simp only [List.length_singleton]; unfold maxLen; omega) (by have := HFL.out; simp only [List.length_singleton]; omega) HSZ2.out ?_; intro v3 w3 own3 hb3; rw [← HKP.out] at own3; have HO3 := Lib.hid own3; have HB3 := Lib.hid (HBD2.out.trans hb3); clear own3 hb3)
                  go_roundw
                  case rel => exact ⟨j + 1, by omega, by go_num, HO3, HB3⟩
                  case measure => simp [intOf]; omega
              · have f2 : (s.kind == 2) = false := by simpa using e2
                have HKP : Hid ((cs.take (j + 1)).filter (keepB s) = (cs.take j).filter (keepB s)) := Lib.hid (by rw [HT.out, if_neg (by unfold keepB; simp [e1, e2]), List.append_nil])
                clear e1 e2
                go_wp2_with fail
                go_roundw
                case rel => exact ⟨j + 1, by omega, by go_num, Lib.hid (by rw [HKP.out]; exact HO1.out), HBD1⟩
                case measure => simp [intOf]; omega
            · have f1 : (c.node != s.node) = true := by simpa using e1
              have HKP : Hid ((cs.take (j + 1)).filter (keepB s) = (cs.take j).filter (keepB s) ++ [c]) := Lib.hid (by rw [HT.out, if_pos (by unfold keepB; simp [e1])])
              clear e1
              go_wp2_with (at_builtin; refine appR cxC_len cxC_one Try.underlying30 rfl (by decide) info_cx rfl _ _ rfl D _ _ rfl HO2.out (.slice (some ⟨W1.heap.size, 0, none⟩) 1 1) [c] rfl HN2.out (by have := HFL.out; simp only [List.length_singleton]; unfold maxLen; omega) (by have := HFL.out; simp only [List.length_singleton]; omega) HSZ2.out ?_; intro v3 w3 own3 hb3; rw [← HKP.out] at own3; have HO3 := Lib.hid own3; have HB3 := Lib.hid (HBD2.out.trans hb3); clear own3 hb3)
              go_roundw
              case rel => exact ⟨j + 1, by omega, by go_num, HO3, HB3⟩
              case measure => simp [intOf]; omega
          · obtain rfl : j = cs.length := by omega
            have ho := HOI.out
            rw [List.take_length, ← HST.out, ← HSU.out] at ho
            have HOF : Hid (OwnR 2 cxC 34 wr w.heap.size u6 (openL (l.take (k + 1)))) := Lib.hid (own_up ho (fun q hq => Nat.le_trans (by rw [← HD.out]; exact HB0.out.size) (World.ownsRow.lt ho q hq).1))
            have HBF : Hid (Below w.heap.size w wr) := Lib.hid (HB0.out.trans (HBD.out.mono (by rw [← HD.out]; exact HB0.out.size)))
            clear ho
            go_wp2_with fail
            go_roundw
            case rel => exact ⟨k + 1, by omega, by go_num, HOF, HBF⟩
            case measure => simp [intOf]; omega
    · obtain rfl : k = l.length := by omega
      have ho := HO.out
      rw [List.take_length] at ho
      have HOF := Lib.hid ho
      clear ho
      go_wp2_with fail
      go_ret
      exact ⟨_, rfl, HOF.out, HB.out⟩
end Jj
end Go.Proofs.Yteihopgnpiajoaa
