/- A holder's wallet, on lists: what a walk over the trusts ends; what is told. No condition. -/
import Derived.Test.YtgbblegcjladaaaLtY
import Derived.Test.YtgbblegcjladaaaLaA
namespace Go.Proofs.Ytgbblegcjladaaa
open Go.ChangeShapes Go.WideShapes Go.ChangeAt Go.RowKit Go.Deep
set_option linter.unusedVariables false
set_option maxRecDepth 100000
set_option linter.unusedSimpArgs false
namespace Lt
variable {L : List Tr} {x y : Tr} {t now : Int} {j : Nat}
theorem parts (hx : L[j]? = some x) : L.take (j + 1) = L.take j ++ [x] ∧ L.drop j = x :: L.drop (j + 1) ∧ L = L.take j ++ x :: L.drop (j + 1) := by
  have hj : j < L.length := (List.getElem?_eq_some_iff.1 hx).1
  have e := (List.getElem?_eq_some_iff.1 hx).2
  have h2 : L.drop j = x :: L.drop (j + 1) := by rw [List.drop_eq_getElem_cons hj, e]
  refine ⟨by rw [List.take_add_one, hx]; rfl, h2, ?_⟩
  rw [← h2, List.take_append_drop]
/-- what stays and what was not looked at yet -/
def midV (now : Int) (L : List Tr) (j : Nat) : List Tr := stayV now (L.take j) ++ L.drop j
theorem mid_start (now : Int) (L : List Tr) : midV now L 0 = L := rfl
theorem mid_end (now : Int) (L : List Tr) : midV now L L.length = stayV now L := by unfold midV; simp
theorem mid_stay (hx : L[j]? = some x) (h : ¬ x.til ≤ now) : midV now L (j + 1) = midV now L j := by
  obtain ⟨h1, h2, -⟩ := parts hx
  unfold midV stayV
  rw [h1, h2, List.filter_append, List.append_assoc]
  simp [h]
theorem mid_struck (hs : Srt L) (hx : L[j]? = some x) (h : x.til ≤ now) : midV now L (j + 1) = woV x.tok (midV now L j) := by
  obtain ⟨h1, h2, h3⟩ := parts hx
  rw [h3] at hs
  obtain ⟨-, s2, s3⟩ := List.pairwise_append.1 hs
  have s4 := (List.pairwise_cons.1 s2).1
  unfold midV stayV woV
  have e1 : ((L.take j).filter (fun x => !decide (x.til ≤ now))).filter (fun y => y.tok != x.tok) = (L.take j).filter (fun x => !decide (x.til ≤ now)) := List.filter_eq_self.2 (fun y hy => by
    have := s3 y (List.mem_filter.1 hy).1 x (List.mem_cons_self ..)
    exact bne_iff_ne.2 (by omega))
  have e2 : (L.drop (j + 1)).filter (fun y => y.tok != x.tok) = L.drop (j + 1) := List.filter_eq_self.2 (fun y hy => by
    have := s4 y hy
    exact bne_iff_ne.2 (by omega))
  rw [h1, h2, List.filter_append, List.filter_append, List.filter_cons, e1, List.filter_cons, e2]
  simp [h]
theorem end_step (hx : L[j]? = some x) : endV now (L.take (j + 1)) = endV now (L.take j) ++ (if x.til ≤ now then [x] else []) := by
  unfold endV
  rw [(parts hx).1, List.filter_append]
  by_cases h : x.til ≤ now <;> simp [h]
theorem stay_step (hx : L[j]? = some x) : stayV now (L.take (j + 1)) = stayV now (L.take j) ++ (if x.til ≤ now then [] else [x]) := by
  unfold stayV
  rw [(parts hx).1, List.filter_append]
  by_cases h : x.til ≤ now <;> simp [h]
theorem end_len (now : Int) (L : List Tr) (j : Nat) : (endV now (L.take j)).length ≤ j := Nat.le_trans (List.length_filter_le _ _) (List.length_take_le _ _)
theorem stay_len (now : Int) (L : List Tr) (j : Nat) : (stayV now (L.take j)).length ≤ j := Nat.le_trans (List.length_filter_le _ _) (List.length_take_le _ _)
theorem mid_len (now : Int) (L : List Tr) (j : Nat) (hj : j ≤ L.length) : (midV now L j).length ≤ L.length := by
  unfold midV
  rw [List.length_append, List.length_drop]
  have := stay_len now L j
  omega
/-- where a walk puts what it puts -/
theorem ins_take (L : List Tr) (x : Tr) : insT x L = L.takeWhile (fun y => !decide (x.tok < y.tok)) ++ x :: L.dropWhile (fun y => !decide (x.tok < y.tok)) := by
  induction L with
  | nil => rfl
  | cons y l ih =>
    unfold insT
    by_cases h : x.tok < y.tok
    · simp [h]
    · simp [h, ih]
/-- at a round: what of the row is there, and whether x was put -/
def insK (x : Tr) (L : List Tr) (j : Nat) : List Tr × Bool := if (L.take j).any (fun y => decide (x.tok < y.tok)) then (insT x (L.take j), true) else (L.take j, false)
theorem ins_app {A B : List Tr} (h : A.any (fun y => decide (x.tok < y.tok)) = true) : insT x (A ++ B) = insT x A ++ B := by
  induction A with
  | nil => simp at h
  | cons y l ih =>
    rw [List.cons_append]
    unfold insT
    by_cases hy : x.tok < y.tok
    · simp [hy]
    · simp only [List.any_cons, hy, decide_false, Bool.false_or] at h
      simp [hy, ih h]
theorem ins_far {A B : List Tr} (h : A.any (fun y => decide (x.tok < y.tok)) = false) : insT x (A ++ B) = A ++ insT x B := by
  induction A with
  | nil => rfl
  | cons y l ih =>
    simp only [List.any_cons, Bool.or_eq_false_iff, decide_eq_false_iff_not] at h
    rw [List.cons_append, List.cons_append]
    conv => lhs; unfold insT
    simp [h.1, ih h.2]
theorem insK_start (x : Tr) (L : List Tr) : insK x L 0 = ([], false) := rfl
theorem insK_was (hy : L[j]? = some y) (h : (insK x L j).2 = true) : insK x L (j + 1) = ((insK x L j).1 ++ [y], true) := by
  unfold insK at *
  split at h
  · rename_i h1
    rw [(parts hy).1, List.any_append, h1, Bool.true_or, if_pos rfl, ins_app h1, if_pos rfl]
  · cases h
theorem insK_now (hy : L[j]? = some y) (h : (insK x L j).2 = false) (hlt : x.tok < y.tok) : insK x L (j + 1) = ((insK x L j).1 ++ [x] ++ [y], true) := by
  unfold insK at *
  split at h
  · cases h
  · rename_i h1
    have h1 := Bool.eq_false_iff.2 h1
    have e : insT x [y] = [x, y] := by unfold insT; rw [if_pos hlt]
    rw [(parts hy).1, List.any_append, h1, Bool.false_or, ins_far h1, e]
    simp [hlt]
theorem insK_not (hy : L[j]? = some y) (h : (insK x L j).2 = false) (hlt : ¬ x.tok < y.tok) : insK x L (j + 1) = ((insK x L j).1 ++ [y], false) := by
  unfold insK at *
  split at h
  · cases h
  · rename_i h1
    have h1 := Bool.eq_false_iff.2 h1
    rw [(parts hy).1, List.any_append, h1, Bool.false_or]
    simp [hlt]
theorem insK_end (x : Tr) (L : List Tr) : insT x L = if (insK x L L.length).2 then (insK x L L.length).1 else (insK x L L.length).1 ++ [x] := by
  unfold insK
  rw [List.take_length]
  cases h : L.any (fun y => decide (x.tok < y.tok))
  · have := ins_far (x := x) (B := []) h
    simp only [List.append_nil] at this
    rw [this]
    simp [insT]
  · simp
theorem insK_len (x : Tr) (L : List Tr) (j : Nat) : (insK x L j).1.length ≤ j + 1 := by
  have hl : ∀ l : List Tr, (insT x l).length = l.length + 1 := by
    intro l
    induction l with
    | nil => rfl
    | cons y l ih => unfold insT; split <;> simp [ih]
  unfold insK
  split
  · rw [hl, List.length_take]; omega
  · rw [List.length_take]; omega
theorem wi_len (x : Tr) (L : List Tr) : (wiV x L).length ≤ L.length + 1 := by
  have hl : ∀ l : List Tr, (insT x l).length = l.length + 1 := by
    intro l
    induction l with
    | nil => rfl
    | cons y l ih => unfold insT; split <;> simp [ih]
  unfold wiV
  rw [hl]
  have := List.length_filter_le (fun y : Tr => y.tok != x.tok) L
  unfold woV
  omega
/-! ### what is told -/
abbrev untilV (n : Int) (s : Wa) : Int := s.made + n
def toldL (n : Int) (s : Wa) (a : La.Ans) : List Tr :=
  if s.c.kind = 3 then (if a.code = 1 ∧ s.now < untilV n s then wiV ⟨a.token, a.serial, untilV n s⟩ s.L else s.L)
  else match fnd s.L s.c.token with
    | none => s.L
    | some x => if x.ser = s.c.serial then
        (if s.c.kind = 4 ∧ a.code = 3 then wiV ⟨x.tok, x.ser, max x.til (untilV n s)⟩ s.L
         else if (s.c.kind = 4 ∧ a.code = 4) ∨ (s.c.kind = 5 ∧ a.code = 5) then woV s.c.token s.L else s.L) else s.L
def toldV (n : Int) (s : Wa) (a : La.Ans) : Wa := if s.c.kind = 0 then s else ⟨s.now, 0, zCm, toldL n s a⟩
def toldE (s : Wa) : Int := if s.c.kind = 0 then 3 else 0
/-- the times of a wallet -/
def Wa.tim (s : Wa) : Prop := (0 ≤ s.now ∧ s.now ≤ 4611686018427387904) ∧ (0 ≤ s.made ∧ s.made ≤ 4611686018427387904)
end Lt
end Go.Proofs.Ytgbblegcjladaaa
