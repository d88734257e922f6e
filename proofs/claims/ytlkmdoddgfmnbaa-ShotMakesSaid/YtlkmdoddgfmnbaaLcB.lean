/- Which answers a ledger may have given: the package's and the document's. No condition. -/
import Derived.Test.YtlkmdoddgfmnbaaLcA
namespace Go.Proofs.Ytlkmdoddgfmnbaa
open Go.ChangeShapes Go.WideShapes Go.ChangeAt Go.RowKit
set_option linter.unusedVariables false
set_option maxRecDepth 100000
namespace Ld
abbrev aArr (c t s : Int) : Array Value := #[.int .i64 c, .int .i64 t, .int .u64 s]
def SaysA (l : Led) (c t s : Int) (w : World) (e : Ending) (w' : World) : Prop := ∃ b, e = .returned (.bool b) ∧ (b = true ↔ ansOk l.limit l.next c t s) ∧ Below w.heap.size w w'
theorem says_no {l : Led} {c t s : Int} (h : ¬ ansOk l.limit l.next c t s) {w w' : World} (hb : Below w.heap.size w w') : SaysA l c t s w (.returned (.bool false)) w' := ⟨_, rfl, ⟨fun h => (by cases h), fun h2 => absurd h2 h⟩, hb⟩
theorem says_yes {l : Led} {c t s : Int} (h : ansOk l.limit l.next c t s) {w w' : World} (hb : Below w.heap.size w w') : SaysA l c t s w (.returned (.bool true)) w' := ⟨_, rfl, ⟨fun _ => h, fun _ => rfl⟩, hb⟩
theorem says_as {l : Led} {c t s : Int} {b : Bool} (h : b = true ↔ ansOk l.limit l.next c t s) {w w' : World} (hb : Below w.heap.size w w') : SaysA l c t s w (.returned (.bool b)) w' := ⟨_, rfl, h, hb⟩

set_option maxHeartbeats 2000000 in
theorem answerFits_any (l : Led) (vh vl : Value) (c t s : Int) (w : World) (hs : 0 ≤ s) :
    Calls Try.prog 106 #[.agg (lArr l vh vl), .agg (aArr c t s)] w (SaysA l c t s w) := by
  have hb0 : ∀ A B, Below w.heap.size w ((w.alloc (.cells A 26)).alloc (.cells B 33)) := fun A B => ((Below.refl _ _).alloc (Nat.le_refl _) _).alloc (by simp) _
  have hh0 : ((w.alloc (.cells (lArr l vh vl) 26)).alloc (.cells (aArr c t s) 33)).heap[w.heap.size + 1]? = some (.cells (aArr c t s) 33 (0, 0)) := heap_alloc2_new _ _ _
  have HB := Lib.hid hb0
  clear hb0
  by_cases h1 : c = 1
  · subst h1
    by_cases g1 : 1 ≤ t
    · by_cases g2 : t ≤ l.limit
      · by_cases g3 : 1 ≤ s
        · have HE : Hid (decide (s < l.next) = true ↔ ansOk l.limit l.next 1 t s) := Lib.hid (by unfold ansOk; simp; omega)
          go_enter Try.func106, Try.ntmps106
          go_wp2
          go_ret
          exact says_as HE.out (HB.out _ _)
        · have HE : Hid (¬ ansOk l.limit l.next 1 t s) := Lib.hid (by unfold ansOk; omega)
          have g4 : s < 1 := by omega
          clear g3
          go_enter Try.func106, Try.ntmps106
          go_wp2
          go_ret
          exact says_no HE.out (HB.out _ _)
      · have HE : Hid (¬ ansOk l.limit l.next 1 t s) := Lib.hid (by unfold ansOk; omega)
        have g4 : l.limit < t := by omega
        clear g2
        go_enter Try.func106, Try.ntmps106
        go_wp2
        go_ret
        exact says_no HE.out (HB.out _ _)
    · have HE : Hid (¬ ansOk l.limit l.next 1 t s) := Lib.hid (by unfold ansOk; omega)
      have g4 : t < 1 := by omega
      clear g1
      go_enter Try.func106, Try.ntmps106
      go_wp2
      go_ret
      exact says_no HE.out (HB.out _ _)
  · by_cases h2 : 2 ≤ c ∧ c ≤ 5
    · have HE : Hid ((t = 0 ∧ s = 0) ↔ ansOk l.limit l.next c t s) := Lib.hid (by unfold ansOk; omega)
      clear hs
      by_cases ht : t = 0
      · by_cases hs2 : s = 0
        · subst ht; subst hs2
          have HF : Hid (ansOk l.limit l.next c 0 0) := Lib.hid (HE.out.1 ⟨rfl, rfl⟩)
          clear HE
          rcases (show c = 2 ∨ c = 3 ∨ c = 4 ∨ c = 5 by omega) with rfl | rfl | rfl | rfl
          all_goals
            clear h1 h2
            go_enter Try.func106, Try.ntmps106
            go_wp2_with (refine wpList_load_row rfl 33 (.tmp 3) rfl (w.heap.size + 1) rfl 33 (aArr _ _ _) (0, 0) _ hh0 Try.underlying33 rfl (by kernel_rfl) ?_)
            go_ret
            exact says_yes HF.out (HB.out _ _)
        · have HF : Hid (¬ ansOk l.limit l.next c t s) := Lib.hid (by rw [← HE.out]; intro h; exact hs2 h.2)
          have e0 : (s == 0) = false := beq_eq_false_iff_ne.2 hs2
          subst ht
          clear hs2 HE
          rcases (show c = 2 ∨ c = 3 ∨ c = 4 ∨ c = 5 by omega) with rfl | rfl | rfl | rfl
          all_goals
            clear h1 h2
            go_enter Try.func106, Try.ntmps106
            go_wp2_with (refine wpList_load_row rfl 33 (.tmp 3) rfl (w.heap.size + 1) rfl 33 (aArr _ _ _) (0, 0) _ hh0 Try.underlying33 rfl (by kernel_rfl) ?_)
            go_ret
            exact says_no HF.out (HB.out _ _)
      · have HF : Hid (¬ ansOk l.limit l.next c t s) := Lib.hid (by rw [← HE.out]; intro h; exact ht h.1)
        have e0 : (t == 0) = false := beq_eq_false_iff_ne.2 ht
        clear ht HE
        rcases (show c = 2 ∨ c = 3 ∨ c = 4 ∨ c = 5 by omega) with rfl | rfl | rfl | rfl
        all_goals
          clear h1 h2
          go_enter Try.func106, Try.ntmps106
          go_wp2_with (refine wpList_load_row rfl 33 (.tmp 3) rfl (w.heap.size + 1) rfl 33 (aArr _ _ _) (0, 0) _ hh0 Try.underlying33 rfl (by kernel_rfl) ?_)
          go_ret
          exact says_no HF.out (HB.out _ _)
    · have HE : Hid (¬ ansOk l.limit l.next c t s) := Lib.hid (by unfold ansOk; omega)
      have e1 : (c == 1) = false := beq_eq_false_iff_ne.2 (by omega)
      have e2 : (c == 2) = false := beq_eq_false_iff_ne.2 (by omega)
      have e3 : (c == 3) = false := beq_eq_false_iff_ne.2 (by omega)
      have e4 : (c == 4) = false := beq_eq_false_iff_ne.2 (by omega)
      have e5 : (c == 5) = false := beq_eq_false_iff_ne.2 (by omega)
      clear h1 h2
      go_enter Try.func106, Try.ntmps106
      go_wp2
      go_ret
      exact says_no HE.out (HB.out _ _)

set_option maxHeartbeats 2000000 in
theorem answer_any (l : Led) (vh vl : Value) (c t s : Int) (w : World) (hs : 0 ≤ s) :
    Calls Try.prog 98 #[.agg (lArr l vh vl), .agg (aArr c t s)] w (SaysA l c t s w) := by
  have hb0 : ∀ A B, Below w.heap.size w ((w.alloc (.cells A 26)).alloc (.cells B 33)) := fun A B => ((Below.refl _ _).alloc (Nat.le_refl _) _).alloc (by simp) _
  have HB := Lib.hid hb0
  clear hb0
  by_cases h1 : c = 1
  · subst h1
    by_cases g1 : 1 ≤ t
    · by_cases g2 : t ≤ l.limit
      · by_cases g3 : 1 ≤ s
        · have HE : Hid (decide (s < l.next) = true ↔ ansOk l.limit l.next 1 t s) := Lib.hid (by unfold ansOk; simp; omega)
          go_enter Try.func98, Try.ntmps98
          go_wp2
          go_ret
          exact says_as HE.out (HB.out _ _)
        · have HE : Hid (¬ ansOk l.limit l.next 1 t s) := Lib.hid (by unfold ansOk; omega)
          have g4 : s < 1 := by omega
          clear g3
          go_enter Try.func98, Try.ntmps98
          go_wp2
          go_ret
          exact says_no HE.out (HB.out _ _)
      · have HE : Hid (¬ ansOk l.limit l.next 1 t s) := Lib.hid (by unfold ansOk; omega)
        have g4 : l.limit < t := by omega
        clear g2
        go_enter Try.func98, Try.ntmps98
        go_wp2
        go_ret
        exact says_no HE.out (HB.out _ _)
    · have HE : Hid (¬ ansOk l.limit l.next 1 t s) := Lib.hid (by unfold ansOk; omega)
      have g4 : t < 1 := by omega
      clear g1
      go_enter Try.func98, Try.ntmps98
      go_wp2
      go_ret
      exact says_no HE.out (HB.out _ _)
  · by_cases h2 : 2 ≤ c ∧ c ≤ 5
    · have HE : Hid ((t = 0 ∧ s = 0) ↔ ansOk l.limit l.next c t s) := Lib.hid (by unfold ansOk; omega)
      clear hs
      by_cases ht : t = 0
      · subst ht
        rcases (show c = 2 ∨ c = 3 ∨ c = 4 ∨ c = 5 by omega) with rfl | rfl | rfl | rfl
        all_goals
          clear h1 h2
          go_enter Try.func98, Try.ntmps98
          go_wp2
          go_ret
          refine says_as ?_ (HB.out _ _)
          rw [← HE.out]
          simp
      · have HF : Hid (¬ ansOk l.limit l.next c t s) := Lib.hid (by rw [← HE.out]; intro h; exact ht h.1)
        have e0 : (t == 0) = false := beq_eq_false_iff_ne.2 ht
        clear ht HE
        rcases (show c = 2 ∨ c = 3 ∨ c = 4 ∨ c = 5 by omega) with rfl | rfl | rfl | rfl
        all_goals
          clear h1 h2
          go_enter Try.func98, Try.ntmps98
          go_wp2
          go_ret
          exact says_no HF.out (HB.out _ _)
    · have HE : Hid (¬ ansOk l.limit l.next c t s) := Lib.hid (by unfold ansOk; omega)
      have e1 : (c == 1) = false := beq_eq_false_iff_ne.2 (by omega)
      have e2 : (c == 2) = false := beq_eq_false_iff_ne.2 (by omega)
      have e3 : (c == 3) = false := beq_eq_false_iff_ne.2 (by omega)
      have e4 : (c == 4) = false := beq_eq_false_iff_ne.2 (by omega)
      have e5 : (c == 5) = false := beq_eq_false_iff_ne.2 (by omega)
      clear h1 h2
      go_enter Try.func98, Try.ntmps98
      go_wp2
      go_ret
      exact says_no HE.out (HB.out _ _)
end Ld
end Go.Proofs.Ytlkmdoddgfmnbaa
