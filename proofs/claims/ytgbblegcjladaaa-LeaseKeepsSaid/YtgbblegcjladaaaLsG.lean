/- What is due behind one lease, and what it does to a ledger: lists alone. No condition. -/
import Derived.Test.YtgbblegcjladaaaLsF
import Derived.Test.YtgbblegcjladaaaLaC
namespace Go.Proofs.Ytgbblegcjladaaa
open Go.ChangeShapes Go.WideShapes Go.ChangeAt Go.RowKit Go.Deep
set_option linter.unusedVariables false
set_option maxRecDepth 100000
set_option linter.unusedSimpArgs false
namespace Ls
open La Cm Ld
theorem held_nd {l : Led} (h : LedP l) : (l.held.map keyR).Nodup := by
  have hp := h.2.2.2.2.1.1
  refine List.pairwise_map.2 (hp.imp ?_)
  intro x y hxy e
  have := congrArg KR.token e
  have h1 : x.token = y.token := this
  have := hxy.1
  omega
theorem sees_again {now now' : Int} {H : List Held} (hn : (H.map keyR).Nodup) : seesV now' (seesV now [] H) H = seesV now [] H := by
  unfold seesV
  apply List.map_congr_left
  intro h hh
  have hm : (⟨h, sinceOf [] (keyR h) (timeV now)⟩ : Row) ∈ H.map fun h => (⟨h, sinceOf [] (keyR h) (timeV now)⟩ : Row) := List.mem_map_of_mem hh
  have hnd : ((H.map fun h => (⟨h, sinceOf [] (keyR h) (timeV now)⟩ : Row)).map keyX).Nodup := by rw [List.map_map]; exact hn
  have hf := find_at hnd hm
  rw [show keyX (⟨h, sinceOf [] (keyR h) (timeV now)⟩ : Row) = keyR h from rfl] at hf
  congr 1
  unfold sinceOf at hf ⊢
  rw [hf]
  rfl
theorem time_id {t : Int} (h0 : 0 ≤ t) (h1 : t ≤ 4611686018427387904) : timeV t = t := by unfold timeV top; omega
theorem due_all {n now more : Int} {H : List Held} (h0 : 0 ≤ now) (h1 : now ≤ 1125899906842624) (h2 : 0 ≤ more) (h3 : more ≤ 1125899906842624) : dueK n (now + more) (seesV now [] H) = if more < n then [] else H.map keyR := by
  unfold dueK seesV
  by_cases h : more < n
  · rw [if_pos h, List.map_eq_nil_iff, List.filter_eq_nil_iff]
    intro x hx
    obtain ⟨y, -, rfl⟩ := List.mem_map.1 hx
    unfold isDue
    show ¬ decide (n ≤ timeV (now + more) - timeV now) = true
    rw [time_id h0 (by omega), time_id (by omega) (by omega)]
    simp; omega
  · rw [if_neg h, List.filter_eq_self.2, List.map_map]
    · rfl
    · intro x hx
      obtain ⟨y, -, rfl⟩ := List.mem_map.1 hx
      unfold isDue
      show decide (n ≤ timeV (now + more) - timeV now) = true
      rw [time_id h0 (by omega), time_id (by omega) (by omega)]
      simp; omega
theorem rec_chk {l : Led} {x : Held} (h : LedP l) (hw : x.wf) (hx : x ∈ l.held) : chkC (recK (keyR x)) = true := by
  obtain ⟨h1, h2, h3, h4, h5, h6, h7, h8⟩ := h.2.2.2.2.1.2 x hx
  have hl := h.2.1
  have b3 := bounds_u64 hw.2.2.2.1
  have b4 := bounds_u64 hw.2.2.2.2
  refine chk_all rfl (fun g hg => ?_)
  unfold okF
  match g, hg with
  | 0, _ => rfl
  | 1, _ => rfl
  | 2, _ => rfl
  | 3, _ =>
    rw [if_pos (by show _ ∈ fieldsL 6; decide)]
    show decide (1 ≤ u64 x.token ∧ u64 x.token ≤ 65535) = true
    unfold u64
    rw [if_pos (by omega)]
    simp; omega
  | 4, _ =>
    rw [if_pos (by show _ ∈ fieldsL 6; decide)]
    show decide (1 ≤ x.serial) = true
    simp; omega
  | 5, _ =>
    rw [if_pos (by show _ ∈ fieldsL 6; decide)]
    show decide (1 ≤ x.stamp) = true
    simp; omega
  | 6, _ => rfl
theorem rec_does {l : Led} {x : Held} {xs : List Held} (hl : l.held = x :: xs) (i : Int) : doL l i (recK (keyR x)) = ({ l with held := xs }, ⟨5, 0, 0⟩) := by
  have hn : named (recK (keyR x)) x = true := by unfold named; simp [recK, keyR]
  have hf : fitAt (recK (keyR x)) l.held = 0 := by unfold fitAt; rw [hl, List.findIdx_cons, hn]; rfl
  unfold doL
  rw [if_neg (by simp [recK]), if_pos (show (recK (keyR x)).kind = 6 from rfl)]
  unfold execL
  rw [if_neg (by simp [recK]), hf, hl]
  simp [recK, cutAt]
/-- the ledger with some rows left -/
def leftL (l : Led) (j : Nat) : Led := { l with held := l.held.drop j }
theorem left_ok {l : Led} (h : LedP l) (hw : l.wf) (j : Nat) : LedP (leftL l j) ∧ (leftL l j).wf := by
  obtain ⟨h1, h2, h3, h4, h5, h6⟩ := h
  refine ⟨⟨h1, h2, h3, ?_, ⟨h5.1.sublist (List.drop_sublist _ _), fun x hx => h5.2 x (List.mem_of_mem_drop hx)⟩, h6⟩, hw.1, hw.2.1, fun x hx => hw.2.2.1 x (List.mem_of_mem_drop hx), hw.2.2.2⟩
  show (l.held.drop j).length ≤ 64
  rw [List.length_drop]; omega
theorem left_step {l : Led} (h : LedP l) (hw : l.wf) {j : Nat} {x : Held} (hx : l.held[j]? = some x) (i : Int) (hi : i ≠ 0) : applyL (leftL l j) i (recK (keyR x)) = leftL l (j + 1) ∧ answerL (leftL l j) i (recK (keyR x)) = ⟨5, 0, 0⟩ ∧ errL (leftL l j) i (recK (keyR x)) = 0 := by
  have hj := (List.getElem?_eq_some_iff.1 hx).1
  have e : l.held.drop j = x :: l.held.drop (j + 1) := by rw [List.drop_eq_getElem_cons hj]; congr 1; exact (List.getElem?_eq_some_iff.1 hx).2
  obtain ⟨g1, g2⟩ := left_ok h hw j
  have hm : x ∈ (leftL l j).held := by show x ∈ l.held.drop j; rw [e]; exact List.mem_cons_self
  have h0 : errL (leftL l j) i (recK (keyR x)) = 0 := err_zero.2 ⟨led_iff.2 g1, rec_chk g1 (g2.2.2.1 x hm) hm, hi⟩
  have hd := rec_does (l := leftL l j) (x := x) (xs := l.held.drop (j + 1)) e i
  unfold applyL answerL
  rw [if_pos h0, if_pos h0, hd]
  exact ⟨rfl, rfl, h0⟩
end Ls
end Go.Proofs.Ytgbblegcjladaaa
