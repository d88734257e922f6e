/- What Merge is to do, on lists. No condition. -/
import Derived.Test.YtlkgmjhejocobaaMgA
namespace Go.Proofs.Ytlkgmjhejocobaa
open Go.ChangeShapes Go.WideShapes Go.ChangeAt Go.RowKit Go.Deep
set_option linter.unusedVariables false
set_option maxRecDepth 100000
namespace Mg
open Hd Rc Nv
/-- how many of the new entries stand there already -/
def freshN : List Ent → List Ent → Nat
  | a :: lg, x :: l => if a.term = x.term then freshN lg l + 1 else 0
  | _, _ => 0
theorem fresh_le : ∀ (lg l : List Ent), freshN lg l ≤ l.length ∧ freshN lg l ≤ lg.length
  | [], l => by simp [freshN]
  | a :: lg, [] => by simp [freshN]
  | a :: lg, x :: l => by
    have ih := fresh_le lg l
    unfold freshN
    split
    · simp only [List.length_cons]; omega
    · simp
theorem fresh_step : ∀ {lg l : List Ent} {k : Nat} {x : Ent}, k ≤ freshN lg l → l[k]? = some x → (k + 1 ≤ freshN lg l ↔ ∃ a, lg[k]? = some a ∧ a.term = x.term)
  | [], l, k, x, hk, hx => by simp [freshN]
  | a :: lg, [], k, x, hk, hx => by simp at hx
  | a :: lg, y :: l, 0, x, hk, hx => by
    simp only [List.getElem?_cons_zero, Option.some.injEq] at hx
    subst hx
    unfold freshN
    simp only [List.getElem?_cons_zero, Option.some.injEq, exists_eq_left']
    split
    · rename_i h; exact ⟨fun _ => h, fun _ => by omega⟩
    · rename_i h; exact ⟨fun q => by omega, fun q => absurd q h⟩
  | a :: lg, y :: l, k + 1, x, hk, hx => by
    unfold freshN at hk ⊢
    split at hk
    · rename_i h
      rw [if_pos h]
      simp only [List.getElem?_cons_succ] at hx ⊢
      have ih := fresh_step (lg := lg) (l := l) (k := k) (x := x) (by omega) hx
      rw [← ih]
      omega
    · omega
theorem fresh_hit {lg l : List Ent} {k : Nat} {x : Ent} (hk : k < freshN lg l) (hx : l[k]? = some x) : ∃ a, lg[k]? = some a ∧ a.term = x.term :=
  (fresh_step (Nat.le_of_lt hk) hx).1 hk
theorem fresh_miss {lg l : List Ent} {x : Ent} (hx : l[freshN lg l]? = some x) : ∀ a, lg[freshN lg l]? = some a → a.term ≠ x.term := fun a ha he => by
  have := (fresh_step (Nat.le_refl _) hx).2 ⟨a, ha, he⟩
  omega
def cutR (p : Int) : RecR := ⟨4, 0, 0, 0, p, zEntV, zShoV⟩
def addR (p : Int) (x : Ent) : RecR := ⟨3, 0, 0, 0, p, x, zShoV⟩
def adds : Int → List Ent → List RecR
  | _, [] => []
  | p, x :: l => addR p x :: adds (p + 1) l
theorem adds_snoc : ∀ (p : Int) (l : List Ent) (x : Ent), adds p (l ++ [x]) = adds p l ++ [addR (p + l.length) x]
  | p, [], x => by simp [adds]
  | p, y :: l, x => by
    simp only [List.cons_append, adds, adds_snoc (p + 1) l x, List.length_cons]
    rw [show p + 1 + (l.length : Int) = p + ((l.length + 1 : Nat) : Int) by omega]
abbrev lgO (h : Har) (o : Nat) : List Ent := h.log.drop o
abbrev plc (h : Har) (o i : Nat) : Int := h.shot.index + o + i + 1
def headV (h : Har) (o f : Nat) : List RecR := if o + f < h.log.length then [cutR (plc h o f)] else []
/-- the records when k of the new entries have been looked at; none: one that is committed would go -/
def partV (h : Har) (o : Nat) (c : Int) (l : List Ent) (k : Nat) : Option (List RecR) :=
  if k ≤ freshN (lgO h o) l then some []
  else if o + freshN (lgO h o) l < h.log.length ∧ plc h o (freshN (lgO h o) l) ≤ c then none
  else some (headV h o (freshN (lgO h o) l) ++ adds (plc h o (freshN (lgO h o) l)) ((l.drop (freshN (lgO h o) l)).take (k - freshN (lgO h o) l)))
theorem part_low {h : Har} {o k : Nat} {c : Int} {l : List Ent} (hk : k ≤ freshN (lgO h o) l) : partV h o c l k = some [] := if_pos hk
theorem part_none {h : Har} {o k : Nat} {c : Int} {l : List Ent} (hk : freshN (lgO h o) l < k) (h1 : o + freshN (lgO h o) l < h.log.length) (h2 : plc h o (freshN (lgO h o) l) ≤ c) : partV h o c l k = none := by
  unfold partV
  rw [if_neg (by omega), if_pos ⟨h1, h2⟩]
theorem part_some {h : Har} {o k : Nat} {c : Int} {l : List Ent} (hk : freshN (lgO h o) l < k) (h2 : ¬ (o + freshN (lgO h o) l < h.log.length ∧ plc h o (freshN (lgO h o) l) ≤ c)) : partV h o c l k = some (headV h o (freshN (lgO h o) l) ++ adds (plc h o (freshN (lgO h o) l)) ((l.drop (freshN (lgO h o) l)).take (k - freshN (lgO h o) l))) := by
  unfold partV
  rw [if_neg (by omega), if_neg h2]
theorem part_first {h : Har} {o : Nat} {c : Int} {l : List Ent} {x : Ent} (hx : l[freshN (lgO h o) l]? = some x) (h2 : ¬ (o + freshN (lgO h o) l < h.log.length ∧ plc h o (freshN (lgO h o) l) ≤ c)) : partV h o c l (freshN (lgO h o) l + 1) = some (headV h o (freshN (lgO h o) l) ++ [addR (plc h o (freshN (lgO h o) l)) x]) := by
  rw [part_some (Nat.lt_succ_self _) h2]
  generalize freshN (lgO h o) l = f at *
  obtain ⟨hlt, he⟩ := List.getElem?_eq_some_iff.1 hx
  rw [show f + 1 - f = 1 by omega, List.drop_eq_getElem_cons hlt, he]
  simp [adds]
theorem part_next {h : Har} {o k : Nat} {c : Int} {l : List Ent} {x : Ent} {out : List RecR} (hk : freshN (lgO h o) l < k) (hx : l[k]? = some x) (hp : partV h o c l k = some out) : partV h o c l (k + 1) = some (out ++ [addR (plc h o k) x]) := by
  by_cases h2 : o + freshN (lgO h o) l < h.log.length ∧ plc h o (freshN (lgO h o) l) ≤ c
  · rw [part_none hk h2.1 h2.2] at hp
    cases hp
  · rw [part_some hk h2] at hp
    obtain rfl := Option.some.inj hp
    rw [part_some (by omega) h2]
    generalize freshN (lgO h o) l = f at *
    obtain ⟨hlt, he⟩ := List.getElem?_eq_some_iff.1 hx
    have ht : (l.drop f).take (k + 1 - f) = (l.drop f).take (k - f) ++ [x] := by
      rw [show k + 1 - f = (k - f) + 1 by omega, List.take_add_one, List.getElem?_drop, show f + (k - f) = k by omega, hx]
      rfl
    have hl : ((l.drop f).take (k - f)).length = k - f := by
      rw [List.length_take, List.length_drop]
      omega
    rw [ht, adds_snoc, hl, ← List.append_assoc]
    have hp : plc h o f + ((k - f : Nat) : Int) = plc h o k := by
      show h.shot.index + o + f + 1 + ((k - f : Nat) : Int) = h.shot.index + o + k + 1
      omega
    rw [hp]
end Mg
end Go.Proofs.Ytlkgmjhejocobaa
