/- What stands behind what Merge tells, on lists. No condition. -/
import Derived.Test.YtlkgmjhejocobaaWyA
namespace Go.Proofs.Ytlkgmjhejocobaa
open Go.ChangeShapes Go.WideShapes Go.ChangeAt Go.RowKit Go.Deep
set_option linter.unusedVariables false
set_option maxRecDepth 100000
namespace Mg
open Hd Rc Rl Nv Vc
def runH (h : Har) (l : List RecR) : Har := l.foldl doH h
theorem run_ok : ∀ {l : List RecR} {h : Har}, hardOk h → stepsOk h l → hardOk (runH h l)
  | [], _, ok, _ => ok
  | r :: l, h, ok, hs => run_ok (l := l) hs.1.2.2.2 hs.2
theorem do_add (h : Har) (p : Int) (x : Ent) : doH h (addR p x) = { h with log := h.log ++ [x] } := by simp [doH, addR]
theorem do_cut (h : Har) (p : Int) : doH h (cutR p) = { h with log := h.log.take (p - h.shot.index - 1).toNat } := by simp [doH, cutR]
theorem run_adds : ∀ (l : List Ent) (h : Har) (p : Int), runH h (adds p l) = { h with log := h.log ++ l }
  | [], h, p => by simp [adds, runH]
  | x :: l, h, p => by
    have ih := run_adds l (doH h (addR p x)) (p + 1)
    unfold runH at ih ⊢
    simp only [adds, List.foldl_cons]
    rw [ih, do_add]
    simp
def mergedL (h : Har) (o : Nat) (l : List Ent) : List Ent := if freshN (lgO h o) l = l.length then h.log else h.log.take (o + freshN (lgO h o) l) ++ l.drop (freshN (lgO h o) l)
theorem run_part {h : Har} {o : Nat} {c : Int} {l : List Ent} {out : List RecR} (ho : o ≤ h.log.length) (hp : partV h o c l l.length = some out) : runH h out = { h with log := mergedL h o l } := by
  have hle := fresh_le (lgO h o) l
  rw [show (lgO h o).length = h.log.length - o by simp] at hle
  unfold mergedL
  by_cases e : freshN (lgO h o) l = l.length
  · rw [part_low (by omega)] at hp
    obtain rfl := Option.some.inj hp
    rw [if_pos e]
    rfl
  · rw [if_neg e]
    by_cases hn : o + freshN (lgO h o) l < h.log.length ∧ plc h o (freshN (lgO h o) l) ≤ c
    · rw [part_none (by omega) hn.1 hn.2] at hp
      cases hp
    · rw [part_some (by omega) hn] at hp
      obtain rfl := Option.some.inj hp
      generalize freshN (lgO h o) l = F at *
      rw [List.take_of_length_le (by rw [List.length_drop]; exact Nat.le_refl _)]
      unfold headV
      by_cases hc : o + F < h.log.length
      · rw [if_pos hc]
        have h2 := run_adds (l.drop F) (doH h (cutR (plc h o F))) (plc h o F)
        unfold runH at h2 ⊢
        rw [List.singleton_append, List.foldl_cons, h2, do_cut]
        have e2 : (plc h o F - h.shot.index - 1).toNat = o + F := by show (h.shot.index + (o : Int) + (F : Int) + 1 - h.shot.index - 1).toNat = o + F; omega
        rw [e2]
      · rw [if_neg hc, List.nil_append, run_adds, List.take_of_length_le (by omega)]
theorem mrg_low {h : Har} {o : Nat} {l : List Ent} {j : Nat} (ho : o ≤ h.log.length) (hj : j < o + freshN (lgO h o) l) : (mergedL h o l)[j]? = h.log[j]? := by
  have hle := fresh_le (lgO h o) l
  rw [show (lgO h o).length = h.log.length - o by simp] at hle
  unfold mergedL
  split
  · rfl
  · rw [List.getElem?_append_left (by rw [List.length_take]; omega), List.getElem?_take_of_lt hj]
theorem mrg_new {h : Har} {o : Nat} {l : List Ent} {i : Nat} {x : Ent} (ho : o ≤ h.log.length) (hx : l[i]? = some x) : ∃ a, (mergedL h o l)[o + i]? = some a ∧ a.term = x.term := by
  have hle := fresh_le (lgO h o) l
  rw [show (lgO h o).length = h.log.length - o by simp] at hle
  by_cases hi : i < freshN (lgO h o) l
  · obtain ⟨a, h1, h2⟩ := fresh_hit hi hx
    rw [List.getElem?_drop] at h1
    exact ⟨a, (mrg_low ho (by omega)).trans h1, h2⟩
  · have hlt := (List.getElem?_eq_some_iff.1 hx).1
    refine ⟨x, ?_, rfl⟩
    unfold mergedL
    rw [if_neg (by omega), List.getElem?_append_right (by rw [List.length_take]; omega), List.length_take, Nat.min_eq_left (by omega), List.getElem?_drop, ← hx]
    congr 1
    omega
theorem fresh_all {lg l : List Ent} (h : ∀ (i : Nat) (x : Ent), l[i]? = some x → ∃ a, lg[i]? = some a ∧ a.term = x.term) : freshN lg l = l.length := by
  rcases Nat.lt_or_ge (freshN lg l) l.length with g | g
  · have hx := List.getElem?_eq_getElem g
    obtain ⟨a, h1, h2⟩ := h _ _ hx
    exact absurd h2 (fresh_miss hx a h1)
  · exact Nat.le_antisymm (fresh_le lg l).1 g
theorem term_eqL {h : Har} {L : List Ent} {idx : Int} {a b : Ent} (h1 : h.shot.index < idx) (ha : h.log[(idx - h.shot.index).toNat - 1]? = some a) (hb : L[(idx - h.shot.index).toNat - 1]? = some b) (e : b.term = a.term) : termP h idx = (a.term, true) ∧ termP { h with log := L } idx = (a.term, true) := by
  have l1 := (List.getElem?_eq_some_iff.1 ha).1
  have l2 := (List.getElem?_eq_some_iff.1 hb).1
  constructor
  · exact termP_log h1 (by unfold lastI; omega) ha
  · rw [← e]
    exact termP_log (h := { h with log := L }) h1 (by unfold lastI; simp only []; omega) hb
/-- what was asked fits: the records may come, and behind them all is as it was asked -/
def FitsAll (h : Har) (i t c : Int) (l : List Ent) (recs : List RecR) : Prop :=
  stepsOk h recs ∧ hardOk (runH h recs) ∧
  (∀ idx : Int, h.shot.index ≤ idx → idx ≤ c → idx ≤ lastI h → ∃ u, termP h idx = (u, true) ∧ termP (runH h recs) idx = (u, true)) ∧
  (∀ (k : Nat) (x : Ent), l[k]? = some x → h.shot.index < i + (k : Int) + 1 → termP (runH h recs) (i + (k : Int) + 1) = (x.term, true)) ∧
  mergeV (runH h recs) i t c l = (1, [])
theorem tail_one {h : Har} {o : Nat} {c : Int} {l : List Ent} {recs : List RecR} (e : tailV h o c l = (1, recs)) : partV h o c l l.length = some recs ∧ stepsOk h recs := by
  cases hp : partV h o c l l.length with
  | none => rw [tail_none hp] at e; simp at e
  | some out =>
    by_cases hs : stepsOk h out
    · rw [tail_yes hp hs] at e
      simp only [Prod.mk.injEq, true_and] at e
      subst e
      exact ⟨rfl, hs⟩
    · rw [tail_no hp hs] at e; simp at e
theorem fits_tail {h : Har} {o : Nat} {c : Int} {l : List Ent} {recs : List RecR} (ok : hardOk h) (ho : o ≤ h.log.length) (e : tailV h o c l = (1, recs)) :
    stepsOk h recs ∧ hardOk (runH h recs) ∧ runH h recs = { h with log := mergedL h o l } ∧
    (∀ idx : Int, h.shot.index ≤ idx → idx ≤ c ∨ idx ≤ h.shot.index + o → idx ≤ lastI h → ∃ u, termP h idx = (u, true) ∧ termP (runH h recs) idx = (u, true)) ∧
    (∀ (k : Nat) (x : Ent), l[k]? = some x → termP (runH h recs) (h.shot.index + o + (k : Int) + 1) = (x.term, true)) ∧
    tailV (runH h recs) o c l = (1, []) := by
  obtain ⟨hp, hs⟩ := tail_one e
  have hr := run_part ho hp
  have hle := fresh_le (lgO h o) l
  rw [show (lgO h o).length = h.log.length - o by simp] at hle
  refine ⟨hs, run_ok ok hs, hr, fun idx h1 h2 h3 => ?_, fun k x hx => ?_, ?_⟩
  · rw [hr]
    by_cases e1 : idx = h.shot.index
    · exact ⟨h.shot.term, termP_shot e1, termP_shot (h := { h with log := mergedL h o l }) e1⟩
    · unfold lastI at h3
      have hlt : (idx - h.shot.index).toNat - 1 < h.log.length := by omega
      have hga := List.getElem?_eq_getElem hlt
      have hgb : (mergedL h o l)[(idx - h.shot.index).toNat - 1]? = h.log[(idx - h.shot.index).toNat - 1]? := by
        by_cases e2 : freshN (lgO h o) l = l.length
        · unfold mergedL; rw [if_pos e2]
        · by_cases hn : o + freshN (lgO h o) l < h.log.length ∧ plc h o (freshN (lgO h o) l) ≤ c
          · rw [part_none (by omega) hn.1 hn.2] at hp
            cases hp
          · refine mrg_low ho ?_
            rcases h2 with h2 | h2
            · rcases Nat.lt_or_ge (o + freshN (lgO h o) l) h.log.length with g | g
              · have hc : ¬ (h.shot.index + (o : Int) + (freshN (lgO h o) l : Int) + 1 ≤ c) := fun q => hn ⟨g, q⟩
                omega
              · omega
            · omega
      obtain ⟨q1, q2⟩ := term_eqL (by omega) hga (hgb.trans hga) rfl
      exact ⟨_, q1, q2⟩
  · rw [hr]
    obtain ⟨a, g1, g2⟩ := mrg_new ho hx
    rw [← g2]
    have hl := (List.getElem?_eq_some_iff.1 g1).1
    exact termP_log (h := { h with log := mergedL h o l }) (by simp only []; omega) (by unfold lastI; simp only []; omega) (by
      rw [show (h.shot.index + (o : Int) + (k : Int) + 1 - h.shot.index).toNat - 1 = o + k by omega]
      exact g1)
  · refine tail_yes (out := []) (part_low ?_) trivial
    have : freshN (lgO (runH h recs) o) l = l.length := fresh_all fun k x hx => by
      obtain ⟨a, g1, g2⟩ := mrg_new ho hx
      refine ⟨a, ?_, g2⟩
      rw [hr, List.getElem?_drop]
      exact g1
    omega
theorem merge_fits {h : Har} {i t c : Int} {l : List Ent} {recs : List RecR} (ok : hardOk h) (e : mergeV h i t c l = (1, recs)) : FitsAll h i t c l recs := by
  by_cases hi : i < h.shot.index
  · rw [merge_low ok hi] at e
    obtain ⟨f1, f2, f3, f4, f5, f6⟩ := fits_tail ok (Nat.zero_le _) e
    have hsh : (runH h recs).shot = h.shot := by rw [f3]
    refine ⟨f1, f2, fun idx h1 h2 h3 => f4 idx h1 (.inl h2) h3, fun k x hx hk => ?_, ?_⟩
    · have hd : (l.drop (h.shot.index - i).toNat)[k - (h.shot.index - i).toNat]? = some x := by
        rw [List.getElem?_drop, show (h.shot.index - i).toNat + (k - (h.shot.index - i).toNat) = k by omega]
        exact hx
      have q := f5 _ x hd
      rwa [show h.shot.index + ((0 : Nat) : Int) + ((k - (h.shot.index - i).toNat : Nat) : Int) + 1 = i + (k : Int) + 1 by omega] at q
    · rw [merge_low f2 (by rw [hsh]; exact hi), hsh]
      exact f6
  · by_cases ht : termP h i = (t, true)
    · have hin := term_in2 (h := h) (i := i) (by rw [ht])
      have ho : (i - h.shot.index).toNat ≤ h.log.length := by unfold lastI at hin; omega
      rw [merge_at ok hi ht] at e
      obtain ⟨f1, f2, f3, f4, f5, f6⟩ := fits_tail ok ho e
      have hsh : (runH h recs).shot = h.shot := by rw [f3]
      refine ⟨f1, f2, fun idx h1 h2 h3 => f4 idx h1 (.inl h2) h3, fun k x hx hk => ?_, ?_⟩
      · have q := f5 k x hx
        rwa [show h.shot.index + (((i - h.shot.index).toNat : Nat) : Int) + (k : Int) + 1 = i + (k : Int) + 1 by omega] at q
      · obtain ⟨u, g1, g2⟩ := f4 i hin.1 (.inr (by omega)) hin.2
        rw [ht] at g1
        rw [merge_at f2 (by rw [hsh]; exact hi) (by rw [g2, ← g1]), hsh]
        exact f6
    · rw [merge_lacks ok hi ht] at e
      simp at e
theorem merge_one {h : Har} {i t c : Int} {l : List Ent} (e : (mergeV h i t c l).1 = 1) : hardOk h := by
  by_cases ok : hardOk h
  · exact ok
  · rw [merge_bad ok] at e
    simp at e
theorem tail_else {h : Har} {o : Nat} {c : Int} {l : List Ent} (e : (tailV h o c l).1 ≠ 1) : (tailV h o c l).2 = [] := by
  cases hp : partV h o c l l.length with
  | none => rw [tail_none hp]
  | some out =>
    by_cases hs : stepsOk h out
    · rw [tail_yes hp hs] at e; simp at e
    · rw [tail_no hp hs]
theorem merge_else {h : Har} {i t c : Int} {l : List Ent} (e : (mergeV h i t c l).1 ≠ 1) : (mergeV h i t c l).2 = [] := by
  by_cases ok : hardOk h
  · by_cases hi : i < h.shot.index
    · rw [merge_low ok hi] at e ⊢
      exact tail_else e
    · by_cases ht : termP h i = (t, true)
      · rw [merge_at ok hi ht] at e ⊢
        exact tail_else e
      · rw [merge_lacks ok hi ht]
  · rw [merge_bad ok]
end Mg
end Go.Proofs.Ytlkgmjhejocobaa
