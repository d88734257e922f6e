/- The document's frame and after. No condition. -/
import Derived.Test.YtcgciefoojlpoaaJfB
import Derived.Deep.QuietTactic
import Derived.BigQuiet
namespace Go.Proofs.Ytcgciefoojlpoaa
open Go.ChangeShapes Go.WideShapes Go.ChangeAt Go.RowKit
set_option linter.unusedVariables false
set_option maxRecDepth 100000
namespace Jf
set_option maxHeartbeats 2000000 in
theorem rframe_any (f : Frm) (w : World) : Calls Try.prog 23 #[.agg (fArr f)] w (SaysB (frmOk f) w) := by
  obtain ⟨k, s⟩ := f
  by_cases h3 : k = 81
  · subst h3
    have HE : Hid ((decide ((s.size : Int) ≤ 48) = true) ↔ frmOk ⟨81, s⟩) := Lib.hid (by unfold frmOk; simp; omega)
    go_enter Try.func23, Try.ntmps23
    go_wp2
    go_ret
    exact saysB_as HE.out box1
  · have e3 : (k == 81) = false := beq_eq_false_iff_ne.2 h3
    by_cases h1 : k = 66
    · subst h1
      have HE : Hid (∀ b : Bool, (b = true ↔ s = emp) → (b = true ↔ frmOk ⟨66, s⟩)) := Lib.hid (fun b hb => by unfold frmOk; simp [hb])
      clear h3 e3
      go_enter Try.func23, Try.ntmps23
      go_wp2
      go_ret
      exact saysB_as (HE.out _ (by simp [emp_iff])) box1
    · by_cases h2 : k = 69
      · subst h2
        have HE : Hid (∀ b : Bool, (b = true ↔ s = emp) → (b = true ↔ frmOk ⟨69, s⟩)) := Lib.hid (fun b hb => by unfold frmOk; simp [hb])
        clear h1 h3 e3
        go_enter Try.func23, Try.ntmps23
        go_wp2
        go_ret
        exact saysB_as (HE.out _ (by simp [emp_iff])) box1
      · have HE : Hid (¬ frmOk ⟨k, s⟩) := Lib.hid (by unfold frmOk; simp [h1, h2, h3])
        have e1 : (k == 66) = false := beq_eq_false_iff_ne.2 h1
        have e2 : (k == 69) = false := beq_eq_false_iff_ne.2 h2
        clear h1 h2 h3
        go_enter Try.func23, Try.ntmps23
        go_wp2
        go_ret
        exact saysB_no HE.out box1
def RefRow (wi : Bool) (k : Int) (P : Prop) (w : World) (e : Ending) (w' : World) : Prop := ∃ i b, e = .returned (.tuple #[.bool i, .bool b]) ∧ (b = true ↔ P) ∧ (b = true → i = nxW wi k) ∧ Below w.heap.size w w'
theorem refrow_no {wi i : Bool} {k : Int} {P : Prop} (h : ¬ P) {w w' : World} (hb : Below w.heap.size w w') : RefRow wi k P w (.returned (.tuple #[.bool i, .bool false])) w' := ⟨_, _, rfl, ⟨(fun h => by cases h), fun h2 => absurd h2 h⟩, (fun h => by cases h), hb⟩
theorem refrow_as {wi i b : Bool} {k : Int} {P Q : Prop} (h : Q) (h1 : b = true ↔ P) (h2 : b = true → i = nxW wi k) {w w' : World} (hb : Below w.heap.size w w') : RefRow wi k (P ∧ Q) w (.returned (.tuple #[.bool i, .bool b])) w' := ⟨_, _, rfl, ⟨fun q => ⟨h1.1 q, h⟩, fun q => h1.2 q.1⟩, h2, hb⟩
theorem box2 {w : World} {A B : Array Value} {t s : TypeId} : Below w.heap.size w ((w.alloc (.cells A t)).alloc (.cells B s)) := ((Below.refl _ _).alloc (Nat.le_refl _) _).alloc (by simp) _
theorem box2d {w : World} {A B : Array Value} {t s : TypeId} {n : Nat} : Below w.heap.size w (((w.alloc (.cells A t)).alloc (.cells B s)).drewN n) := box2.trans ⟨rfl, rfl, rfl, Nat.le_refl _, fun _ _ => rfl⟩
set_option maxHeartbeats 8000000 in
theorem after_bad (wi : Bool) (f : Frm) (r : Rep) (w : World) (h : ¬ repFits r) : Calls Try.prog 24 #[.bool wi, .agg (fArr f), .agg (rArr r)] w (RefRow wi r.kind (okW wi f.kind r.kind ∧ repFits r) w) := by
  have HN : Hid (¬ (okW wi f.kind r.kind ∧ repFits r)) := Lib.hid (fun q => h q.2)
  obtain ⟨k, n, s⟩ := r
  by_cases h5 : k = 5
  · subst h5
    by_cases h1 : n < 1
    · clear h
      go_enter Try.func24, Try.ntmps24
      go_wp2
      go_ret2
      exact refrow_no HN.out box2
    · by_cases h7 : 7 < n
      · clear h
        go_enter Try.func24, Try.ntmps24
        go_wp2
        go_ret2
        exact refrow_no HN.out box2
      · have hs : s ≠ emp := fun q => h ⟨fun _ => q, .inl ⟨rfl, by simp only []; omega, by simp only []; omega⟩⟩
        obtain ⟨e3, e4⟩ := ne_emp hs
        clear h hs
        go_enter Try.func24, Try.ntmps24
        go_wp2
        go_ret2
        exact refrow_no HN.out box2
  · have e5 : (k == 5) = false := beq_eq_false_iff_ne.2 h5
    by_cases h0 : n = 0
    · subst h0
      have hs : k ≠ 2 ∧ s ≠ emp := by
        constructor
        · rintro rfl; exact h ⟨fun q => absurd rfl q, .inr ⟨(by show (2 : Int) ≠ 5; decide), rfl⟩⟩
        · rintro rfl; exact h ⟨fun _ => rfl, .inr ⟨h5, rfl⟩⟩
      obtain ⟨e3, e4⟩ := ne_emp hs.2
      have e2 : (k != 2) = true := by simpa using hs.1
      clear h hs h5
      go_enter Try.func24, Try.ntmps24
      go_wp2
      go_ret2
      exact refrow_no HN.out box2
    · have e0 : (n != 0) = true := by simpa using h0
      clear h h5 h0
      go_enter Try.func24, Try.ntmps24
      go_wp2
      go_ret2
      exact refrow_no HN.out box2
set_option maxHeartbeats 16000000 in
theorem after_5 (wi : Bool) (fk : Int) (ft : ByteArray) (n : Int) (w : World) (hf : fk = 66 ∨ fk = 81 ∨ fk = 69) (h1 : 1 ≤ n) (h7 : n ≤ 7) : Calls Try.prog 24 #[.bool wi, .agg (fArr ⟨fk, ft⟩), .agg (rArr ⟨5, n, emp⟩)] w (RefRow wi 5 (okW wi fk 5 ∧ repFits ⟨5, n, emp⟩) w) := by
  have HR : Hid (repFits ⟨5, n, emp⟩) := Lib.hid ⟨fun _ => rfl, .inl ⟨rfl, h1, h7⟩⟩
  unfold emp
  rcases hf with rfl | rfl | rfl <;> cases wi
  all_goals
    go_enter Try.func24, Try.ntmps24
    go_wp2
    try go_quiet (fail)
    try go_wp2
    go_ret2
    exact refrow_as HR.out (by unfold okW okO okI; decide) (by decide) (by first | exact box2 | exact box2d)
set_option maxHeartbeats 16000000 in
theorem after_2 (wi : Bool) (fk : Int) (ft s : ByteArray) (w : World) (hf : fk = 66 ∨ fk = 81 ∨ fk = 69) : Calls Try.prog 24 #[.bool wi, .agg (fArr ⟨fk, ft⟩), .agg (rArr ⟨2, 0, s⟩)] w (RefRow wi 2 (okW wi fk 2 ∧ repFits ⟨2, 0, s⟩) w) := by
  have HR : Hid (repFits ⟨2, 0, s⟩) := Lib.hid ⟨fun q => absurd rfl q, .inr ⟨(by show (2 : Int) ≠ 5; decide), rfl⟩⟩
  rcases hf with rfl | rfl | rfl <;> cases wi
  all_goals
    go_enter Try.func24, Try.ntmps24
    go_wp2
    try go_quiet (fail)
    try go_wp2
    go_ret2
    exact refrow_as HR.out (by unfold okW okO okI; decide) (by decide) (by first | exact box2 | exact box2d)
set_option maxHeartbeats 16000000 in
theorem after_o (wi : Bool) (fk : Int) (ft : ByteArray) (k : Int) (w : World) (hf : fk = 66 ∨ fk = 81 ∨ fk = 69) (hk : k = 1 ∨ k = 3 ∨ k = 4 ∨ k = 6 ∨ k = 7) : Calls Try.prog 24 #[.bool wi, .agg (fArr ⟨fk, ft⟩), .agg (rArr ⟨k, 0, emp⟩)] w (RefRow wi k (okW wi fk k ∧ repFits ⟨k, 0, emp⟩) w) := by
  have HR : Hid (repFits ⟨k, 0, emp⟩) := Lib.hid ⟨fun q => rfl, .inr ⟨by show k ≠ 5; omega, rfl⟩⟩
  unfold emp
  rcases hf with rfl | rfl | rfl <;> cases wi <;> rcases hk with rfl | rfl | rfl | rfl | rfl
  all_goals
    go_enter Try.func24, Try.ntmps24
    go_wp2
    try go_quiet (fail)
    try go_wp2
    go_ret2
    exact refrow_as HR.out (by unfold okW okO okI; decide) (by decide) (by first | exact box2 | exact box2d)
set_option maxHeartbeats 16000000 in
theorem after_x (wi : Bool) (fk : Int) (ft : ByteArray) (k : Int) (w : World) (hf : fk = 66 ∨ fk = 81 ∨ fk = 69) (hk : ¬ (1 ≤ k ∧ k ≤ 7)) : Calls Try.prog 24 #[.bool wi, .agg (fArr ⟨fk, ft⟩), .agg (rArr ⟨k, 0, emp⟩)] w (RefRow wi k (okW wi fk k ∧ repFits ⟨k, 0, emp⟩) w) := by
  have HN : Hid (¬ (okW wi fk k ∧ repFits ⟨k, 0, emp⟩)) := Lib.hid (by unfold okW okO okI; rintro ⟨q, -⟩; split at q <;> omega)
  have e1 : (k == 1) = false := beq_eq_false_iff_ne.2 (by omega)
  have e2 : (k == 2) = false := beq_eq_false_iff_ne.2 (by omega)
  have e3 : (k == 3) = false := beq_eq_false_iff_ne.2 (by omega)
  have e4 : (k == 4) = false := beq_eq_false_iff_ne.2 (by omega)
  have e5 : (k == 5) = false := beq_eq_false_iff_ne.2 (by omega)
  have e6 : (k == 6) = false := beq_eq_false_iff_ne.2 (by omega)
  have e7 : (k == 7) = false := beq_eq_false_iff_ne.2 (by omega)
  have f2 : (k != 2) = true := by simp; omega
  clear hk
  unfold emp
  rcases hf with rfl | rfl | rfl <;> cases wi
  all_goals
    go_enter Try.func24, Try.ntmps24
    go_wp2
    try go_quiet (fail)
    try go_wp2
    go_ret2
    exact refrow_no HN.out (by first | exact box2 | exact box2d)
theorem after_any (wi : Bool) (f : Frm) (r : Rep) (w : World) (hf : f.kind = 66 ∨ f.kind = 81 ∨ f.kind = 69) : Calls Try.prog 24 #[.bool wi, .agg (fArr f), .agg (rArr r)] w (RefRow wi r.kind (okW wi f.kind r.kind ∧ repFits r) w) := by
  by_cases h : repFits r
  · obtain ⟨fk, ft⟩ := f
    obtain ⟨k, n, s⟩ := r
    obtain ⟨q1, q2⟩ := h
    simp only [] at q1 q2 hf
    rcases q2 with ⟨rfl, q3, q4⟩ | ⟨q3, rfl⟩
    · obtain rfl := q1 (by decide)
      exact after_5 wi fk ft n w hf q3 q4
    · by_cases h2 : k = 2
      · subst h2
        exact after_2 wi fk ft s w hf
      · obtain rfl := q1 h2
        by_cases hk : 1 ≤ k ∧ k ≤ 7
        · exact after_o wi fk ft k w hf (by omega)
        · exact after_x wi fk ft k w hf hk
  · exact after_bad wi f r w h
end Jf
end Go.Proofs.Ytcgciefoojlpoaa
