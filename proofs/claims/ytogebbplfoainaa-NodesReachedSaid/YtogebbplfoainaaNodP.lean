/- Plain sums over the eight cells of a set of nodes. No condition. -/
import Derived.Test.YtogebbplfoainaaBse
namespace Go.Proofs.Ytogebbplfoainaa
open Go.ChangeShapes Go.WideShapes Go.ChangeAt Go.RowKit
set_option linter.unusedVariables false
set_option maxRecDepth 100000
namespace Nd

/-! ### plain sums over the eight cells of a set -/
def S8 (f : Nat → Int) : Int := f 0 + f 1 + f 2 + f 3 + f 4 + f 5 + f 6 + f 7
theorem S8_add (f g : Nat → Int) : S8 (fun i => f i + g i) = S8 f + S8 g := by simp only [S8]; omega
theorem S8_congr {f g : Nat → Int} (h : ∀ i, i < 8 → f i = g i) : S8 f = S8 g := by
  unfold S8; rw [h 0 (by omega), h 1 (by omega), h 2 (by omega), h 3 (by omega), h 4 (by omega), h 5 (by omega), h 6 (by omega), h 7 (by omega)]
theorem S8_le {f g : Nat → Int} (h : ∀ i, i < 8 → f i ≤ g i) : S8 f ≤ S8 g := by
  unfold S8
  have h0 := h 0 (by omega); have h1 := h 1 (by omega); have h2 := h 2 (by omega); have h3 := h 3 (by omega)
  have h4 := h 4 (by omega); have h5 := h 5 (by omega); have h6 := h 6 (by omega); have h7 := h 7 (by omega)
  omega
def ind (P : Prop) [Decidable P] : Int := if P then 1 else 0
theorem ind_pos {P : Prop} [Decidable P] (h : P) : ind P = 1 := if_pos h
theorem ind_neg {P : Prop} [Decidable P] (h : ¬ P) : ind P = 0 := if_neg h
theorem ind_01 (P : Prop) [Decidable P] : 0 ≤ ind P ∧ ind P ≤ 1 := by unfold ind; split <;> omega
theorem ind_congr {P Q : Prop} [Decidable P] [Decidable Q] (h : P ↔ Q) : ind P = ind Q := by
  unfold ind; by_cases hp : P
  · rw [if_pos hp, if_pos (h.1 hp)]
  · rw [if_neg hp, if_neg fun hq => hp (h.2 hq)]
theorem S8_one {a : Int} (h1 : 1 ≤ a) (h7 : a ≤ 7) : S8 (fun i => ind ((i : Int) = a)) = 1 := by
  rcases (show a = 1 ∨ a = 2 ∨ a = 3 ∨ a = 4 ∨ a = 5 ∨ a = 6 ∨ a = 7 by omega) with rfl | rfl | rfl | rfl | rfl | rfl | rfl <;> decide
theorem S8_zero : S8 (fun _ => 0) = 0 := rfl

/-- whoever stands in a list of nodes, each once, counted -/
theorem cnt (p : Int → Bool) : ∀ l : List Int, l.Nodup → (∀ x ∈ l, 1 ≤ x ∧ x ≤ 7) → S8 (fun i => ind ((i : Int) ∈ l ∧ p i = true)) = ((l.filter p).length : Int)
  | [], _, _ => by
    rw [S8_congr (g := fun _ => 0) fun i _ => ind_neg (by simp)]; rfl
  | a :: l, hn, hb => by
    obtain ⟨ha, hn'⟩ := List.nodup_cons.1 hn
    have ih := cnt p l hn' fun x hx => hb x (List.mem_cons_of_mem _ hx)
    have hba := hb a (List.mem_cons_self)
    cases hp : p a with
    | true =>
      have e : S8 (fun i => ind ((i : Int) ∈ a :: l ∧ p i = true)) = S8 (fun i => ind ((i : Int) = a) + ind ((i : Int) ∈ l ∧ p i = true)) := by
        refine S8_congr fun i _ => ?_
        by_cases hia : (i : Int) = a
        · rw [ind_pos (P := (i : Int) = a) hia, ind_pos ⟨by simp [hia], by rw [hia]; exact hp⟩, ind_neg (by rw [hia]; exact fun h => ha h.1)]; rfl
        · rw [ind_neg (P := (i : Int) = a) hia, Int.zero_add]
          exact ind_congr (by simp [hia])
      rw [e, S8_add, S8_one hba.1 hba.2, ih, List.filter_cons, if_pos hp, List.length_cons]; omega
    | false =>
      have e : S8 (fun i => ind ((i : Int) ∈ a :: l ∧ p i = true)) = S8 (fun i => ind ((i : Int) ∈ l ∧ p i = true)) := by
        refine S8_congr fun i _ => ind_congr ⟨fun h => ⟨?_, h.2⟩, fun h => ⟨List.mem_cons_of_mem _ h.1, h.2⟩⟩
        rcases List.mem_cons.1 h.1 with h1 | h1
        · rw [h1, hp] at h; cases h.2
        · exact h1
      rw [e, ih, List.filter_cons, if_neg (by rw [hp]; decide)]
theorem ok_parts : ∀ (l : List Int) (last : Int), okFrom last l = true → l.Nodup ∧ ∀ x ∈ l, last < x ∧ 1 ≤ x ∧ x ≤ 7
  | [], _, _ => ⟨List.nodup_nil, by simp⟩
  | a :: l, last, h => by
    simp only [okFrom, Bool.and_eq_true, decide_eq_true_eq] at h
    have ih := ok_parts l a h.2
    refine ⟨List.nodup_cons.2 ⟨fun hm => ?_, ih.1⟩, fun x hx => ?_⟩
    · have := (ih.2 a hm).1; omega
    · rcases List.mem_cons.1 hx with rfl | hx
      · exact ⟨h.1.2.2, h.1.1, h.1.2.1⟩
      · have := ih.2 x hx; omega
theorem chk_set {l : List Int} (h : chk l = true) : l.Nodup ∧ (∀ x ∈ l, 1 ≤ x ∧ x ≤ 7) ∧ 0 < l.length := by
  unfold chk at h
  rw [Bool.and_eq_true] at h
  have h2 := ok_parts l 0 h.2
  refine ⟨h2.1, fun x hx => (h2.2 x hx).2, ?_⟩
  cases l with
  | nil => simp at h
  | cons a l => simp

/-- the cell of a node -/
def bit (l : List Int) (i : Nat) : Int := ind (1 ≤ i ∧ (i : Int) ∈ l)
theorem bit_01 (l : List Int) (i : Nat) : bit l i = 0 ∨ bit l i = 1 := by have := ind_01 (1 ≤ i ∧ (i : Int) ∈ l); unfold bit; omega
/-- whether more than half of l are among the votes -/
def majB (l votes : List Int) : Bool := chk l && decide ((l.length : Int) < 2 * ((l.filter fun n => decide (n ∈ votes)).length : Int))
theorem sum_in {l : List Int} (h : chk l = true) : S8 (bit l) = (l.length : Int) := by
  obtain ⟨h1, h2, _⟩ := chk_set h
  have := cnt (fun _ => true) l h1 h2
  rw [List.filter_eq_self.2 (by simp)] at this
  rw [← this]
  exact S8_congr fun i _ => ind_congr ⟨fun h => ⟨h.2, rfl⟩, fun h => ⟨by have := (h2 _ h.1).1; omega, h.1⟩⟩
theorem sum_voted {l v : List Int} (h : chk l = true) : S8 (fun i => bit v i * bit l i) = ((l.filter fun n => decide (n ∈ v)).length : Int) := by
  obtain ⟨h1, h2, _⟩ := chk_set h
  rw [← cnt (fun n => decide (n ∈ v)) l h1 h2]
  refine S8_congr fun i _ => ?_
  unfold bit
  by_cases hl : (i : Int) ∈ l
  · have hi := (h2 _ hl).1
    have h1i : 1 ≤ i := by omega
    by_cases hv : (i : Int) ∈ v
    · rw [ind_pos (P := 1 ≤ i ∧ (i : Int) ∈ v) ⟨h1i, hv⟩, ind_pos (P := 1 ≤ i ∧ (i : Int) ∈ l) ⟨h1i, hl⟩, ind_pos (P := (i : Int) ∈ l ∧ _) ⟨hl, decide_eq_true hv⟩]; rfl
    · rw [ind_neg (P := 1 ≤ i ∧ (i : Int) ∈ v) (fun h => hv h.2), ind_neg (P := (i : Int) ∈ l ∧ _) (fun h => hv (of_decide_eq_true h.2)), Int.zero_mul]
  · rw [ind_neg (P := 1 ≤ i ∧ (i : Int) ∈ l) (fun h => hl h.2), ind_neg (P := (i : Int) ∈ l ∧ _) (fun h => hl h.1), Int.mul_zero]
theorem maj_of {l v : List Int} (h : chk l = true) : majB l v = decide (S8 (bit l) < 2 * S8 (fun i => bit v i * bit l i)) := by
  unfold majB; rw [h, Bool.true_and, sum_in h, sum_voted h]
end Nd
end Go.Proofs.Ytogebbplfoainaa
