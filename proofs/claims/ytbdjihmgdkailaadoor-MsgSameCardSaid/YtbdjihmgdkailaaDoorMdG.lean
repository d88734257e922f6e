/- A message's bytes read again, on lists: what was written is read as what it was. No condition. -/
import Derived.Test.YtbdjihmgdkailaaDoorMdL
import Derived.Test.YtbdjihmgdkailaaDoorMxA
namespace Go.Proofs.YtbdjihmgdkailaaDoor
open Go.ChangeShapes Go.WideShapes Go.ChangeAt Go.RowKit Go.Deep
set_option linter.unusedVariables false
set_option maxRecDepth 100000
namespace Ms
open Nv Cm Sc
theorem rd_numI {n : Int} (h : 0 ≤ n ∧ n ≤ 18446744073709551615) (rest : List Int) : Oc.rdL (numI n ++ rest) = (n.toNat, (numI n).length, 0) := by
  unfold numI
  rw [Oc.rd_num (by omega), Oc.numL_length]
theorem drop_self (a b : List Int) : (a ++ b).drop a.length = b := by rw [List.drop_left]
theorem num_fw (f : Nat) (m : Mes) {n : Int} (h : 0 ≤ n ∧ n ≤ 18446744073709551615) (rest : List Int) : numP f (m, (numI n ++ rest, 0)) = (setN m f n, (rest, 0)) := by
  unfold numP
  simp only [if_true, rd_numI h, drop_self]
  rw [show ((n.toNat : Nat) : Int) = n by omega]
theorem flag_fw (m : Mes) (b : Bool) (rest : List Int) : flagP (m, ((if b then 1 else 0) :: rest, 0)) = ({ m with flag := b }, (rest, 0)) := by
  cases b <;> rfl
theorem ent_fw {x : Ent} (hw : x.wf) (hc : chkC x.cmd = true) (rest : List Int) : Rk.entD (Rk.entB x ++ rest) = (x, (Rk.entB x).length, 0) := by
  have ht := bounds_u64 hw.1
  have h1 : Oc.rdL (Rk.entB x ++ rest) = (x.term.toNat, (numI x.term).length, 0) := by
    unfold Rk.entB
    rw [List.append_assoc]
    exact rd_numI ⟨by omega, by omega⟩ _
  have h2 : decL ((Rk.entB x ++ rest).drop (numI x.term).length) = (x.cmd, (encL x.cmd).length, 0) := by
    unfold Rk.entB
    rw [List.append_assoc, drop_self]
    exact Cm.dec_enc hw.2 hc rest
  rw [Rk.entD_ok h1 h2]
  have e : ((x.term.toNat : Nat) : Int) = x.term := by omega
  rw [e]
  unfold Rk.entB
  rw [List.length_append]
theorem entP_fw (m : Mes) {x : Ent} (hw : x.wf) (hc : chkC x.cmd = true) (rest : List Int) : entP (m, (Rk.entB x ++ rest, 0)) = ({ m with ents := m.ents ++ [x] }, (rest, 0)) := by
  unfold entP
  simp only [if_true, ent_fw hw hc, drop_self]
theorem ents_fw (m : Mes) (rest : List Int) (l : List Ent) (h : ∀ x ∈ l, x.wf ∧ chkC x.cmd = true) : ∀ j, j ≤ l.length → entsP j (m, (l.flatMap Rk.entB ++ rest, 0)) = ({ m with ents := m.ents ++ l.take j }, ((l.drop j).flatMap Rk.entB ++ rest, 0))
  | 0, _ => by simp [entsP]
  | j + 1, hj => by
    rw [entsP, ents_fw m rest l h j (by omega)]
    have e : l.drop j = l[j] :: l.drop (j + 1) := List.drop_eq_getElem_cons (by omega)
    have e2 : l.take (j + 1) = l.take j ++ [l[j]] := List.take_succ_eq_append_getElem (by omega)
    have hx := h l[j] (List.getElem_mem _)
    rw [e, List.flatMap_cons, List.append_assoc, entP_fw _ hx.1 hx.2, e2]
    simp only [List.append_assoc]
theorem many_fw {n : Nat} (h : n ≤ 4) (rest : List Int) : manyP (numI (n : Int) ++ rest, 0) = (n, (rest, 0)) := by
  unfold manyP
  simp only [if_true, rd_numI (n := (n : Int)) ⟨by omega, by omega⟩, Int.toNat_natCast, drop_self]
  rw [if_neg (by omega)]
theorem shot_fw (m : Mes) {s : Sho} (hw : s.wf) (ok : Sh.shotOk s) : shotP (m, (shotB s, 0)) = ({ m with shot := s }, ([], 0)) := by
  unfold shotP
  simp only [if_true, Sc.dec_enc hw ok]
  rw [if_neg (by decide)]
theorem fld5_fw (m mm : Mes) (rest : List Int) (h : FOk mm 5) (he : m.ents = []) : fldP 5 (m, (fldB mm 5 ++ rest, 0)) = ({ m with ents := mm.ents }, (rest, 0)) := by
  obtain ⟨h4, hx⟩ := h.1 rfl
  have e : fldB mm 5 = numI (mm.ents.length : Int) ++ mm.ents.flatMap Rk.entB := rfl
  have e2 : ∀ s : MSt, fldP 5 s = entsP (manyP s.2).1 (s.1, (manyP s.2).2) := fun _ => rfl
  rw [e2, e, List.append_assoc]
  dsimp only
  rw [many_fw h4, ents_fw m rest mm.ents hx _ (Nat.le_refl _), he]
  simp
theorem head_fw {k a b : Int} (hk : 1 ≤ k ∧ k ≤ 6) (rest : List Int) : headP ([k, a, b] ++ rest) = ({ nilM0 with kind := k, src := a, dst := b }, (rest, 0)) := by
  unfold headP kindP
  simp only [if_true, List.cons_append, List.nil_append, if_pos hk]
  rfl
theorem end_fw (m : Mes) : endP (m, ([], 0)) = (m, ([], 0)) := rfl
theorem mes_ext {a b : Mes} (h0 : a.kind = b.kind) (h1 : a.src = b.src) (h2 : a.dst = b.dst) (h3 : a.term = b.term) (h4 : a.index = b.index) (h5 : a.lterm = b.lterm) (h6 : a.commit = b.commit) (h7 : a.flag = b.flag) (h8 : a.ents = b.ents) (h9 : a.shot = b.shot) : a = b := by
  cases a; cases b
  simp only [] at *
  subst h0 h1 h2 h3 h4 h5 h6 h7 h8 h9
  rfl
theorem zsho_nil {s : Sho} (h : zSho s) : nilM0.shot = s := by
  obtain ⟨a, b, c, d⟩ := s
  obtain ⟨e, f, g, k⟩ := d
  obtain ⟨h1, h2, h3, h4, h5, h6, h7⟩ := h
  dsimp only at *
  have c0 := List.eq_nil_of_length_eq_zero h3
  have g0 := List.eq_nil_of_length_eq_zero h6
  have k0 := List.eq_nil_of_length_eq_zero h7
  subst h1 h2 h4 h5 c0 g0 k0
  rfl
theorem read_fw {m : Mes} {w : World} {v : Value} (h : IsMsg w v m) (ok : msgOk m) : readP (msgB m) = (m, ([], 0)) := by
  have hw := IsMsg.wf h
  have hfo := fun f hf => (fok_of h ok (f := f) hf).2.2
  have hk : 1 ≤ m.kind ∧ m.kind ≤ 6 := ok.1
  have hz := ok.2.2.2.2.1
  have bd := numM_bd hw
  unfold readP
  rw [show msgB m = [m.kind, m.src, m.dst] ++ fldsB m (fieldsM m.kind) from rfl, head_fw hk]
  dsimp only
  rcases (show m.kind = 1 ∨ m.kind = 2 ∨ m.kind = 3 ∨ m.kind = 4 ∨ m.kind = 5 ∨ m.kind = 6 by omega) with k | k | k | k | k | k
  all_goals
    rw [k] at hfo ⊢
    have hz2 : ∀ f : Nat, f < 7 → (f : Int) ∉ fieldsM m.kind → zF m f := hz
    rw [k] at hz2
  · have e : fldsB m (fieldsM 1) = numI m.term ++ (numI m.index ++ (numI m.lterm ++ [])) := rfl
    have s : ∀ s, fldsP (fieldsM 1) s = numP 2 (numP 1 (numP 0 s)) := fun _ => rfl
    rw [e, s, num_fw 0 _ (n := m.term) (bd 0), num_fw 1 _ (n := m.index) (bd 1), num_fw 2 _ (n := m.lterm) (bd 2), end_fw]
    refine Prod.ext (mes_ext k.symm rfl rfl rfl rfl rfl (Eq.symm ?_) (Eq.symm ?_) (Eq.symm ?_) ?_) rfl
    · exact hz2 3 (by decide) (by decide)
    · exact hz2 4 (by decide) (by decide)
    · exact List.eq_nil_of_length_eq_zero (hz2 5 (by decide) (by decide))
    · exact zsho_nil (hz2 6 (by decide) (by decide))
  · have e : fldsB m (fieldsM 2) = numI m.term ++ ((if m.flag then 1 else 0) :: []) := rfl
    have s : ∀ s, fldsP (fieldsM 2) s = flagP (numP 0 s) := fun _ => rfl
    rw [e, s, num_fw 0 _ (n := m.term) (bd 0), flag_fw, end_fw]
    refine Prod.ext (mes_ext k.symm rfl rfl rfl (Eq.symm ?_) (Eq.symm ?_) (Eq.symm ?_) rfl (Eq.symm ?_) ?_) rfl
    · exact hz2 1 (by decide) (by decide)
    · exact hz2 2 (by decide) (by decide)
    · exact hz2 3 (by decide) (by decide)
    · exact List.eq_nil_of_length_eq_zero (hz2 5 (by decide) (by decide))
    · exact zsho_nil (hz2 6 (by decide) (by decide))
  · have e : fldsB m (fieldsM 3) = numI m.term ++ (numI m.index ++ (numI m.lterm ++ (numI m.commit ++ (fldB m 5 ++ [])))) := rfl
    have s : ∀ s, fldsP (fieldsM 3) s = fldP 5 (numP 3 (numP 2 (numP 1 (numP 0 s)))) := fun _ => rfl
    rw [e, s, num_fw 0 _ (n := m.term) (bd 0), num_fw 1 _ (n := m.index) (bd 1), num_fw 2 _ (n := m.lterm) (bd 2), num_fw 3 _ (n := m.commit) (bd 3), fld5_fw _ m [] (hfo 5 (by decide)) rfl, end_fw]
    refine Prod.ext (mes_ext k.symm rfl rfl rfl rfl rfl rfl (Eq.symm ?_) rfl ?_) rfl
    · exact hz2 4 (by decide) (by decide)
    · exact zsho_nil (hz2 6 (by decide) (by decide))
  · have e : fldsB m (fieldsM 4) = numI m.term ++ ((if m.flag then 1 else 0) :: (numI m.index ++ [])) := rfl
    have s : ∀ s, fldsP (fieldsM 4) s = numP 1 (flagP (numP 0 s)) := fun _ => rfl
    rw [e, s, num_fw 0 _ (n := m.term) (bd 0), flag_fw, num_fw 1 _ (n := m.index) (bd 1), end_fw]
    refine Prod.ext (mes_ext k.symm rfl rfl rfl rfl (Eq.symm ?_) (Eq.symm ?_) rfl (Eq.symm ?_) ?_) rfl
    · exact hz2 2 (by decide) (by decide)
    · exact hz2 3 (by decide) (by decide)
    · exact List.eq_nil_of_length_eq_zero (hz2 5 (by decide) (by decide))
    · exact zsho_nil (hz2 6 (by decide) (by decide))
  · have e : fldsB m (fieldsM 5) = numI m.term ++ (shotB m.shot ++ []) := rfl
    have s : ∀ s, fldsP (fieldsM 5) s = shotP (numP 0 s) := fun _ => rfl
    rw [e, s, num_fw 0 _ (n := m.term) (bd 0), List.append_nil, shot_fw _ hw.2.2.2.2.2.2.2 ((hfo 6 (by decide)).2 rfl), end_fw]
    refine Prod.ext (mes_ext k.symm rfl rfl rfl (Eq.symm ?_) (Eq.symm ?_) (Eq.symm ?_) (Eq.symm ?_) (Eq.symm ?_) rfl) rfl
    · exact hz2 1 (by decide) (by decide)
    · exact hz2 2 (by decide) (by decide)
    · exact hz2 3 (by decide) (by decide)
    · exact hz2 4 (by decide) (by decide)
    · exact List.eq_nil_of_length_eq_zero (hz2 5 (by decide) (by decide))
  · have e : fldsB m (fieldsM 6) = fldB m 5 ++ [] := rfl
    have s : ∀ s, fldsP (fieldsM 6) s = fldP 5 s := fun _ => rfl
    rw [e, s, fld5_fw _ m [] (hfo 5 (by decide)) rfl, end_fw]
    refine Prod.ext (mes_ext k.symm rfl rfl (Eq.symm ?_) (Eq.symm ?_) (Eq.symm ?_) (Eq.symm ?_) (Eq.symm ?_) rfl ?_) rfl
    · exact hz2 0 (by decide) (by decide)
    · exact hz2 1 (by decide) (by decide)
    · exact hz2 2 (by decide) (by decide)
    · exact hz2 3 (by decide) (by decide)
    · exact hz2 4 (by decide) (by decide)
    · exact zsho_nil (hz2 6 (by decide) (by decide))
theorem dec_fw {m : Mes} {w : World} {v : Value} (h : IsMsg w v m) (ok : msgOk m) : decM (msgB m) = (m, 0) := by
  unfold decM
  rw [read_fw h ok]
  rw [if_neg (by simp), if_pos ok]
end Ms
end Go.Proofs.YtbdjihmgdkailaaDoor
