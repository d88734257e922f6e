/- What is read as a message is written as these bytes: on lists. No condition. -/
import Derived.Test.YtbdjihmgdkailaaDoorMdG
namespace Go.Proofs.YtbdjihmgdkailaaDoor
open Go.ChangeShapes Go.WideShapes Go.ChangeAt Go.RowKit Go.Deep
set_option linter.unusedVariables false
set_option maxRecDepth 100000
namespace Ms
open Nv Cm Sc
theorem wfb_drop {zs : List Int} (h : WfB zs) (k : Nat) : WfB (zs.drop k) := fun x hx => h x (List.mem_of_mem_drop hx)
theorem rd_bw {zs : List Int} {n k : Nat} (hw : WfB zs) (h : Oc.rdL zs = (n, k, 0)) : zs = numI (n : Int) ++ zs.drop k := by
  obtain ⟨-, hk, -, hn⟩ := Oc.rd_back hw h
  unfold numI
  rw [show ((n : Int)).toNat = n by omega, hn, List.take_append_drop]
theorem num_bw (f : Nat) (s : MSt) (hw : WfB s.2.1) (h : (numP f s).2.2 = 0) : s.2.2 = 0 ∧ ∃ (n : Int) (rest : List Int), numP f s = (setN s.1 f n, (rest, 0)) ∧ s.2.1 = numI n ++ rest ∧ WfB rest := by
  obtain ⟨m, zs, e⟩ := s
  by_cases he : e = 0
  · subst he
    rcases hr : Oc.rdL zs with ⟨n, k, er⟩
    have e1 : numP f (m, (zs, 0)) = (setN m f (n : Int), (zs.drop k, er)) := by unfold numP; simp only [if_true, hr]
    rw [e1] at h ⊢
    dsimp only at h hw
    subst h
    exact ⟨rfl, n, zs.drop k, rfl, rd_bw hw hr, wfb_drop hw k⟩
  · have e1 : numP f (m, (zs, e)) = (m, (zs, e)) := if_neg he
    rw [e1] at h
    exact absurd h he
theorem flag_bw (s : MSt) (hw : WfB s.2.1) (h : (flagP s).2.2 = 0) : s.2.2 = 0 ∧ ∃ (b : Bool) (rest : List Int), flagP s = ({ s.1 with flag := b }, (rest, 0)) ∧ s.2.1 = (if b then 1 else 0) :: rest ∧ WfB rest := by
  obtain ⟨m, zs, e⟩ := s
  by_cases he : e = 0
  · subst he
    match zs, hw, h with
    | [], _, h => exact absurd (show (10 : Int) = 0 from h) (by decide)
    | x :: r, hw, h =>
      by_cases hx : 1 < x
      · have e1 : flagP (m, (x :: r, 0)) = (m, (x :: r, 11)) := by unfold flagP; simp only [if_true]; exact if_pos hx
        rw [e1] at h
        exact absurd (show (11 : Int) = 0 from h) (by decide)
      · have e1 : flagP (m, (x :: r, 0)) = ({ m with flag := x == 1 }, (r, 0)) := by unfold flagP; simp only [if_true]; exact if_neg hx
        have q := hw x (by simp)
        simp [Lit.wf, IntKind.min, IntKind.max, IntKind.signed, IntKind.bits] at q
        refine ⟨rfl, x == 1, r, e1, ?_, fun y hy => hw y (by simp [hy])⟩
        rcases (show x = 0 ∨ x = 1 by omega) with rfl | rfl <;> rfl
  · have e1 : flagP (m, (zs, e)) = (m, (zs, e)) := if_neg he
    rw [e1] at h
    exact absurd h he
theorem many_bw (st : Pst) (hw : WfB st.1) (h : (manyP st).2.2 = 0) : st.2 = 0 ∧ ∃ (n : Nat) (rest : List Int), manyP st = (n, (rest, 0)) ∧ st.1 = numI (n : Int) ++ rest ∧ WfB rest := by
  obtain ⟨zs, e⟩ := st
  by_cases he : e = 0
  · subst he
    rcases hr : Oc.rdL zs with ⟨n, k, er⟩
    by_cases hn : 4 < n
    · have e1 : manyP (zs, 0) = (0, (zs, 11)) := by unfold manyP; simp only [if_true, hr]; rw [if_pos hn]
      rw [e1] at h
      exact absurd (show (11 : Int) = 0 from h) (by decide)
    · have e1 : manyP (zs, 0) = (n, (zs.drop k, er)) := by unfold manyP; simp only [if_true, hr]; rw [if_neg hn]
      rw [e1] at h ⊢
      dsimp only at h hw
      subst h
      exact ⟨rfl, n, zs.drop k, rfl, rd_bw hw hr, wfb_drop hw k⟩
  · have e1 : manyP (zs, e) = (0, (zs, e)) := if_neg he
    rw [e1] at h
    exact absurd h he
theorem entD_bw {zs : List Int} {x : Ent} {k : Nat} (hw : WfB zs) (h : Rk.entD zs = (x, k, 0)) (hc : chkC x.cmd = true) : zs = Rk.entB x ++ zs.drop k := by
  rcases hr : Oc.rdL zs with ⟨n, j, er⟩
  rcases Oc.rd_err hr with hee | hee
  · subst hee
    rcases hd : decL (zs.drop j) with ⟨c, i, ec⟩
    by_cases h40 : ec = 40
    · subst h40
      have hcz : c = zeroC := by
        unfold decL at hd
        split at hd
        · split at hd
          · split at hd
            · split at hd
              · simp at hd
              · simp only [Prod.mk.injEq] at hd; exact hd.1.symm
            · simp only [Prod.mk.injEq] at hd; exact hd.1.symm
          · simp only [Prod.mk.injEq] at hd; exact hd.1.symm
        · simp only [Prod.mk.injEq] at hd; exact hd.1.symm
      rw [Rk.entD_40 hr hd] at h
      simp only [Prod.mk.injEq] at h
      obtain ⟨rfl, -⟩ := h
      rw [hcz] at hc
      exact absurd (show chkC zeroC = true from hc) (by decide)
    · by_cases h0 : ec = 0
      · subst h0
        rw [Rk.entD_ok hr hd] at h
        simp only [Prod.mk.injEq, and_true] at h
        obtain ⟨rfl, rfl⟩ := h
        obtain ⟨-, hi, hcn⟩ := Cm.dec_back (wfb_drop hw j) hd
        have h1 := rd_bw hw hr
        unfold Rk.entB
        dsimp only
        rw [← List.drop_drop, List.append_assoc]
        have h2 : zs.drop j = encL c ++ (zs.drop j).drop i := by rw [hcn, List.take_append_drop]
        rw [← h2]
        exact h1
      · rw [Rk.entD_no hr hd (beq_eq_false_iff_ne.2 h40) (beq_eq_false_iff_ne.2 h0)] at h
        simp only [Prod.mk.injEq] at h
        exact absurd h.2.2 h0
  · rw [Rk.entD_err hr hee] at h
    simp only [Prod.mk.injEq] at h
    rw [h.2.2] at hee
    exact absurd hee (by decide)
theorem entP_sub (s : MSt) : ∃ l, (entP s).1.ents = s.1.ents ++ l := by
  unfold entP
  split
  · dsimp only
    split
    · exact ⟨_, rfl⟩
    · exact ⟨[], by simp⟩
  · exact ⟨[], by simp⟩
theorem ents_bw : ∀ (j : Nat) (s : MSt), WfB s.2.1 → (entsP j s).2.2 = 0 → (∀ x ∈ (entsP j s).1.ents, chkC x.cmd = true) → s.2.2 = 0 ∧ ∃ (l : List Ent) (rest : List Int), l.length = j ∧ entsP j s = ({ s.1 with ents := s.1.ents ++ l }, (rest, 0)) ∧ s.2.1 = l.flatMap Rk.entB ++ rest ∧ WfB rest
  | 0, s, hw, h, _ => by
    refine ⟨h, [], s.2.1, rfl, ?_, by simp, hw⟩
    obtain ⟨m, zs, e⟩ := s
    have h : e = 0 := h
    subst h
    simp [entsP]
  | j + 1, s, hw, h, hc => by
    rw [entsP] at h hc ⊢
    obtain ⟨l0, hl0⟩ := entP_sub (entsP j s)
    have he : (entsP j s).2.2 = 0 := by
      by_cases q : (entsP j s).2.2 = 0
      · exact q
      · have e1 : entP (entsP j s) = entsP j s := if_neg q
        rw [e1] at h
        exact absurd h q
    obtain ⟨h0, l, rest, hl, hs, hz, hwr⟩ := ents_bw j s hw he (fun x hx => hc x (by rw [hl0]; exact List.mem_append_left _ hx))
    rw [hs] at h hc ⊢
    rcases hd : Rk.entD rest with ⟨x, k, er⟩
    have e2 : entP ({ s.1 with ents := s.1.ents ++ l }, (rest, 0)) = (if er = 0 then { s.1 with ents := s.1.ents ++ l ++ [x] } else { s.1 with ents := s.1.ents ++ l }, (rest.drop k, er)) := by
      unfold entP
      simp only [if_true, hd]
    rw [e2] at h hc ⊢
    dsimp only at h hc
    subst h
    simp only [if_true] at hc
    have hx := hc x (by simp)
    have hb := entD_bw hwr hd hx
    refine ⟨h0, l ++ [x], rest.drop k, by simp [hl], ?_, ?_, wfb_drop hwr k⟩
    · simp only [if_true, List.append_assoc]
    · rw [hz, List.flatMap_append, List.append_assoc]
      congr 1
      simpa using hb
theorem shot_bw (s : MSt) (hw : WfB s.2.1) (h : (shotP s).2.2 = 0) (ok : Sh.shotOk (shotP s).1.shot) : s.2.2 = 0 ∧ ∃ sh, shotP s = ({ s.1 with shot := sh }, ([], 0)) ∧ s.2.1 = shotB sh := by
  obtain ⟨m, zs, e⟩ := s
  by_cases he : e = 0
  · subst he
    rcases hd : decV zs with ⟨sh, z⟩
    by_cases hz : z ≠ 0 ∧ z ≠ 60
    · have e1 : shotP (m, (zs, 0)) = (m, (zs, z)) := by unfold shotP; simp only [if_true, hd]; rw [if_pos hz]
      rw [e1] at h
      exact absurd h hz.1
    · have e1 : shotP (m, (zs, 0)) = ({ m with shot := sh }, ([], 0)) := by unfold shotP; simp only [if_true, hd]; rw [if_neg hz]
      rw [e1] at ok
      refine ⟨rfl, sh, e1, ?_⟩
      by_cases h0 : z = 0
      · subst h0
        exact (Sc.dec_back hw hd).2.symm
      · have h6 : z = 60 := Classical.byContradiction fun q => hz ⟨h0, q⟩
        subst h6
        exfalso
        have hs : sh = zS := by
          by_cases hl : 8192 < zs.length
          · rw [dec_long hl] at hd; simp at hd
          · by_cases hee : errS zs = 0
            · by_cases hok : Sh.shotOk (shotS (zs, 0)).1
              · rw [dec_ok hl hee hok] at hd; simp at hd
              · rw [dec_no hl hee hok] at hd; simp only [Prod.mk.injEq] at hd; exact hd.1.symm
            · rw [dec_err hl hee] at hd; simp only [Prod.mk.injEq] at hd; exact hd.1.symm
        rw [hs] at ok
        exact absurd (show Nd.chk zS.nodes = true from ok.1) (by decide)
  · have e1 : shotP (m, (zs, e)) = (m, (zs, e)) := if_neg he
    rw [e1] at h
    exact absurd h he
theorem head_bw {xs : List Int} (hw : WfB xs) (h : (headP xs).2.2 = 0) : ∃ k a b rest, xs = [k, a, b] ++ rest ∧ headP xs = ({ nilM0 with kind := k, src := a, dst := b }, (rest, 0)) ∧ 1 ≤ k ∧ k ≤ 6 ∧ WfB rest := by
  have hk := headP_kind xs h
  match xs, hw, h, hk with
  | [], _, h, _ => exact absurd (show (10 : Int) = 0 from h) (by decide)
  | [x], _, h, _ =>
    by_cases hx : 1 ≤ x ∧ x ≤ 6
    · have e : headP [x] = ({ nilM0 with kind := x }, ([], 10)) := by unfold headP kindP; simp only [if_true, if_pos hx]; rfl
      rw [e] at h
      exact absurd (show (10 : Int) = 0 from h) (by decide)
    · have e : headP [x] = ({ nilM0 with kind := x }, ([x], 11)) := by unfold headP kindP; simp only [if_true, if_neg hx]; rfl
      rw [e] at h
      exact absurd (show (11 : Int) = 0 from h) (by decide)
  | [x, y], _, h, _ =>
    by_cases hx : 1 ≤ x ∧ x ≤ 6
    · have e : headP [x, y] = ({ nilM0 with kind := x, src := y }, ([], 10)) := by unfold headP kindP; simp only [if_true, if_pos hx]; rfl
      rw [e] at h
      exact absurd (show (10 : Int) = 0 from h) (by decide)
    · have e : headP [x, y] = ({ nilM0 with kind := x }, ([x, y], 11)) := by unfold headP kindP; simp only [if_true, if_neg hx]; rfl
      rw [e] at h
      exact absurd (show (11 : Int) = 0 from h) (by decide)
  | x :: y :: z :: r, hw, h, _ =>
    by_cases hx : 1 ≤ x ∧ x ≤ 6
    · exact ⟨x, y, z, r, rfl, head_fw hx r, hx.1, hx.2, fun q hq => hw q (by simp [hq])⟩
    · have e : headP (x :: y :: z :: r) = ({ nilM0 with kind := x }, (x :: y :: z :: r, 11)) := by unfold headP kindP; simp only [if_true, if_neg hx]; rfl
      rw [e] at h
      exact absurd (show (11 : Int) = 0 from h) (by decide)
theorem end_bw (s : MSt) (h : (endP s).2.2 = 0) : s.2.2 = 0 ∧ s.2.1 = [] ∧ (endP s).1 = s.1 := by
  obtain ⟨m, zs, e⟩ := s
  by_cases he : e = 0
  · subst he
    by_cases hz : zs = []
    · exact ⟨rfl, hz, rfl⟩
    · have e1 : endP (m, (zs, 0)) = (m, (zs, 11)) := by unfold endP; simp only [if_true, if_neg hz]
      rw [e1] at h
      exact absurd (show (11 : Int) = 0 from h) (by decide)
  · have e1 : endP (m, (zs, e)) = (m, (zs, e)) := if_neg he
    rw [e1] at h
    exact absurd h he
theorem fld5_bw (s : MSt) (hw : WfB s.2.1) (h : (fldP 5 s).2.2 = 0) (hc : ∀ x ∈ (fldP 5 s).1.ents, chkC x.cmd = true) (h0 : s.1.ents = []) : s.2.2 = 0 ∧ ∃ (l : List Ent) (rest : List Int), fldP 5 s = ({ s.1 with ents := l }, (rest, 0)) ∧ s.2.1 = numI (l.length : Int) ++ l.flatMap Rk.entB ++ rest ∧ WfB rest := by
  have e2 : fldP 5 s = entsP (manyP s.2).1 (s.1, (manyP s.2).2) := rfl
  rw [e2] at h hc ⊢
  have hwm : WfB (manyP s.2).2.1 := by
    unfold manyP
    split
    · split
      · exact hw
      · exact wfb_drop hw _
    · exact hw
  obtain ⟨h1, l, rest, hl, hs, hz, hwr⟩ := ents_bw _ _ hwm h hc
  obtain ⟨h2, n, r1, hm, hz1, -⟩ := many_bw s.2 hw h1
  rw [hm] at hl hz
  dsimp only at hl hz
  rw [h0, List.nil_append] at hs
  refine ⟨h2, l, rest, hs, ?_, hwr⟩
  rw [hz1, hz, hl, List.append_assoc]
theorem read_bw {xs : List Int} (hw : WfB xs) (he : (readP xs).2.2 = 0) (ok : msgOk (readP xs).1) : msgB (readP xs).1 = xs := by
  unfold readP at he ok ⊢
  obtain ⟨h1, h2, h3⟩ := end_bw _ he
  rw [h3] at ok ⊢
  have hh : (headP xs).2.2 = 0 := by
    have q : ∀ (l : List Int) (s : MSt), (fldsP l s).2.2 = 0 → s.2.2 = 0 := by
      intro l
      induction l with
      | nil => exact fun s h => h
      | cons f l ih =>
        intro s h
        have h5 := ih _ h
        by_cases q : s.2.2 = 0
        · exact q
        · exfalso
          apply q
          have hf : (fldP f.toNat s).2.2 = s.2.2 := by
            unfold fldP
            split
            · unfold flagP; rw [if_neg q]
            · split
              · have e1 : manyP s.2 = (0, s.2) := by unfold manyP; rw [if_neg q]
                rw [e1]
                rfl
              · split
                · unfold shotP; rw [if_neg q]
                · unfold numP; rw [if_neg q]
          rw [← hf]; exact h5
    exact q _ _ h1
  obtain ⟨k, a, b, rest, rfl, hhd, k1, k2, hwr⟩ := head_bw hw hh
  rw [hhd] at h1 h2 ok ⊢
  dsimp only at h1 h2 ok ⊢
  have hch : ∀ m : Mes, msgOk m → m.kind = 3 ∨ m.kind = 6 → ∀ x ∈ m.ents, chkC x.cmd = true := fun m ok hk x hx => by
    obtain ⟨-, -, -, -, -, g6, -, -, g3, -⟩ := ok
    rcases hk with q | q
    · exact feed_chk (g3 q).2 x hx
    · obtain ⟨y, hy, -, -, hc, -⟩ := g6 q
      rw [hy, List.mem_singleton] at hx
      subst hx
      exact hc
  rcases (show k = 1 ∨ k = 2 ∨ k = 3 ∨ k = 4 ∨ k = 5 ∨ k = 6 by omega) with rfl | rfl | rfl | rfl | rfl | rfl
  · have s : ∀ s, fldsP (fieldsM 1) s = numP 2 (numP 1 (numP 0 s)) := fun _ => rfl
    rw [s] at h1 h2 ok ⊢
    have z1 : (numP 1 (numP 0 ({ nilM0 with kind := 1, src := a, dst := b }, (rest, 0)))).2.2 = 0 := Classical.byContradiction fun q => q ((if_neg q : numP 2 _ = _) ▸ h1)
    have z0 : (numP 0 ({ nilM0 with kind := 1, src := a, dst := b }, (rest, 0))).2.2 = 0 := Classical.byContradiction fun q => q ((if_neg q : numP 1 _ = _) ▸ z1)
    obtain ⟨-, n0, r0, e0, b0, w0⟩ := num_bw 0 _ hwr z0
    rw [e0] at z1 h1 h2 ok ⊢
    obtain ⟨-, n1, r1, e1, b1, w1⟩ := num_bw 1 _ w0 z1
    rw [e1] at h1 h2 ok ⊢
    obtain ⟨-, n2, r2, e2, b2, w2⟩ := num_bw 2 _ w1 h1
    rw [e2] at h2 ok ⊢
    dsimp only at b0 b1 b2 h2 ⊢
    rw [b0, b1, b2, h2]
    rfl
  · have s : ∀ s, fldsP (fieldsM 2) s = flagP (numP 0 s) := fun _ => rfl
    rw [s] at h1 h2 ok ⊢
    have z0 : (numP 0 ({ nilM0 with kind := 2, src := a, dst := b }, (rest, 0))).2.2 = 0 := Classical.byContradiction fun q => q ((if_neg q : flagP _ = _) ▸ h1)
    obtain ⟨-, n0, r0, e0, b0, w0⟩ := num_bw 0 _ hwr z0
    rw [e0] at h1 h2 ok ⊢
    obtain ⟨-, n1, r1, e1, b1, w1⟩ := flag_bw _ w0 h1
    rw [e1] at h2 ok ⊢
    dsimp only at b0 b1 h2 ⊢
    rw [b0, b1, h2]
    rfl
  · have s : ∀ s, fldsP (fieldsM 3) s = fldP 5 (numP 3 (numP 2 (numP 1 (numP 0 s)))) := fun _ => rfl
    rw [s] at h1 h2 ok ⊢
    have st5 : ∀ s : MSt, s.2.2 ≠ 0 → fldP 5 s = s := fun s q => by
      have e1 : manyP s.2 = (0, s.2) := by unfold manyP; rw [if_neg q]
      show entsP (manyP s.2).1 (s.1, (manyP s.2).2) = s
      rw [e1]
      rfl
    have z3 : (numP 3 (numP 2 (numP 1 (numP 0 ({ nilM0 with kind := 3, src := a, dst := b }, (rest, 0)))))).2.2 = 0 := Classical.byContradiction fun q => q ((st5 _ q) ▸ h1)
    have z2 : (numP 2 (numP 1 (numP 0 ({ nilM0 with kind := 3, src := a, dst := b }, (rest, 0))))).2.2 = 0 := Classical.byContradiction fun q => q ((if_neg q : numP 3 _ = _) ▸ z3)
    have z1 : (numP 1 (numP 0 ({ nilM0 with kind := 3, src := a, dst := b }, (rest, 0)))).2.2 = 0 := Classical.byContradiction fun q => q ((if_neg q : numP 2 _ = _) ▸ z2)
    have z0 : (numP 0 ({ nilM0 with kind := 3, src := a, dst := b }, (rest, 0))).2.2 = 0 := Classical.byContradiction fun q => q ((if_neg q : numP 1 _ = _) ▸ z1)
    obtain ⟨-, n0, r0, e0, b0, w0⟩ := num_bw 0 _ hwr z0
    rw [e0] at z1 z2 z3 h1 h2 ok ⊢
    obtain ⟨-, n1, r1, e1, b1, w1⟩ := num_bw 1 _ w0 z1
    rw [e1] at z2 z3 h1 h2 ok ⊢
    obtain ⟨-, n2, r2, e2, b2, w2⟩ := num_bw 2 _ w1 z2
    rw [e2] at z3 h1 h2 ok ⊢
    obtain ⟨-, n3, r3, e3, b3, w3⟩ := num_bw 3 _ w2 z3
    rw [e3] at h1 h2 ok ⊢
    have hkk : (fldP 5 (setN (setN (setN (setN { nilM0 with kind := 3, src := a, dst := b } 0 n0) 1 n1) 2 n2) 3 n3, (r3, 0))).1.kind = 3 ∨ (fldP 5 (setN (setN (setN (setN { nilM0 with kind := 3, src := a, dst := b } 0 n0) 1 n1) 2 n2) 3 n3, (r3, 0))).1.kind = 6 := by
      have hg : ∀ (j : Nat) (s : MSt), (entsP j s).1.kind = s.1.kind := by
        intro j
        induction j with
        | zero => intro s; rfl
        | succ j ih => intro s; rw [entsP]; unfold entP; split
                       · dsimp only; split <;> exact ih s
                       · exact ih s
      exact .inl (hg _ _)
    obtain ⟨-, l, r4, e4, b4, w4⟩ := fld5_bw _ w3 h1 (hch _ ok hkk) rfl
    rw [e4] at h2 ok ⊢
    dsimp only at b0 b1 b2 b3 b4 h2 ⊢
    rw [b0, b1, b2, b3, b4, h2]
    show [3, a, b] ++ (numI n0 ++ (numI n1 ++ (numI n2 ++ (numI n3 ++ ((numI (l.length : Int) ++ l.flatMap Rk.entB) ++ []))))) = _
    rfl
  · have s : ∀ s, fldsP (fieldsM 4) s = numP 1 (flagP (numP 0 s)) := fun _ => rfl
    rw [s] at h1 h2 ok ⊢
    have z1 : (flagP (numP 0 ({ nilM0 with kind := 4, src := a, dst := b }, (rest, 0)))).2.2 = 0 := Classical.byContradiction fun q => q ((if_neg q : numP 1 _ = _) ▸ h1)
    have z0 : (numP 0 ({ nilM0 with kind := 4, src := a, dst := b }, (rest, 0))).2.2 = 0 := Classical.byContradiction fun q => q ((if_neg q : flagP _ = _) ▸ z1)
    obtain ⟨-, n0, r0, e0, b0, w0⟩ := num_bw 0 _ hwr z0
    rw [e0] at z1 h1 h2 ok ⊢
    obtain ⟨-, n1, r1, e1, b1, w1⟩ := flag_bw _ w0 z1
    rw [e1] at h1 h2 ok ⊢
    obtain ⟨-, n2, r2, e2, b2, w2⟩ := num_bw 1 _ w1 h1
    rw [e2] at h2 ok ⊢
    dsimp only at b0 b1 b2 h2 ⊢
    rw [b0, b1, b2, h2]
    rfl
  · have s : ∀ s, fldsP (fieldsM 5) s = shotP (numP 0 s) := fun _ => rfl
    rw [s] at h1 h2 ok ⊢
    have z0 : (numP 0 ({ nilM0 with kind := 5, src := a, dst := b }, (rest, 0))).2.2 = 0 := Classical.byContradiction fun q => q ((if_neg q : shotP _ = _) ▸ h1)
    obtain ⟨-, n0, r0, e0, b0, w0⟩ := num_bw 0 _ hwr z0
    rw [e0] at h1 h2 ok ⊢
    have hk5 : (shotP (setN { nilM0 with kind := 5, src := a, dst := b } 0 n0, (r0, 0))).1.kind = 5 := by
      unfold shotP
      split
      · split <;> rfl
      · rfl
    obtain ⟨-, sh, e1, b1⟩ := shot_bw _ w0 h1 (ok.2.2.2.2.2.2.2.2.2 hk5).1
    rw [e1] at h2 ok ⊢
    dsimp only at b0 b1 h2 ⊢
    rw [b0, b1]
    show [5, a, b] ++ (numI n0 ++ (shotB sh ++ [])) = _
    rw [List.append_nil]
  · have s : ∀ s, fldsP (fieldsM 6) s = fldP 5 s := fun _ => rfl
    rw [s] at h1 h2 ok ⊢
    have hkk : (fldP 5 ({ nilM0 with kind := 6, src := a, dst := b }, (rest, 0))).1.kind = 3 ∨ (fldP 5 ({ nilM0 with kind := 6, src := a, dst := b }, (rest, 0))).1.kind = 6 := by
      have hg : ∀ (j : Nat) (s : MSt), (entsP j s).1.kind = s.1.kind := by
        intro j
        induction j with
        | zero => intro s; rfl
        | succ j ih => intro s; rw [entsP]; unfold entP; split
                       · dsimp only; split <;> exact ih s
                       · exact ih s
      exact .inr (hg _ _)
    obtain ⟨-, l, r4, e4, b4, w4⟩ := fld5_bw _ hwr h1 (hch _ ok hkk) rfl
    rw [e4] at h2 ok ⊢
    dsimp only at b4 h2 ⊢
    rw [b4, h2]
    show [6, a, b] ++ ((numI (l.length : Int) ++ l.flatMap Rk.entB) ++ []) = _
    rfl
theorem dec_bw {xs : List Int} {m : Mes} (hw : WfB xs) (h : decM xs = (m, 0)) : msgB m = xs ∧ msgOk m := by
  unfold decM at h
  split at h
  · rename_i hq
    simp only [Prod.mk.injEq] at h
    exact absurd h.2 hq
  · rename_i hq
    have hz : (readP xs).2.2 = 0 := Classical.byContradiction hq
    split at h
    · rename_i hok
      simp only [Prod.mk.injEq, and_true] at h
      subst h
      exact ⟨read_bw hw hz hok, hok⟩
    · simp at h
end Ms
end Go.Proofs.YtbdjihmgdkailaaDoor
