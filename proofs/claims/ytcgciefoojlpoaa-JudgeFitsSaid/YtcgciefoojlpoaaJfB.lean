/- judge's small functions: frameFits, replyFits, outside, inside. No condition. -/
import Derived.Test.YtcgciefoojlpoaaJfA
namespace Go.Proofs.Ytcgciefoojlpoaa
open Go.ChangeShapes Go.WideShapes Go.ChangeAt Go.RowKit
set_option linter.unusedVariables false
set_option maxRecDepth 100000
namespace Jf
def SaysB (P : Prop) (w : World) (e : Ending) (w' : World) : Prop := ∃ b, e = .returned (.bool b) ∧ (b = true ↔ P) ∧ Below w.heap.size w w'
theorem saysB_no {P : Prop} (h : ¬ P) {w w' : World} (hb : Below w.heap.size w w') : SaysB P w (.returned (.bool false)) w' := ⟨_, rfl, ⟨fun h => (by cases h), fun h2 => absurd h2 h⟩, hb⟩
theorem saysB_yes {P : Prop} (h : P) {w w' : World} (hb : Below w.heap.size w w') : SaysB P w (.returned (.bool true)) w' := ⟨_, rfl, ⟨fun _ => h, fun _ => rfl⟩, hb⟩
theorem saysB_as {P : Prop} {b : Bool} (h : b = true ↔ P) {w w' : World} (hb : Below w.heap.size w w') : SaysB P w (.returned (.bool b)) w' := ⟨_, rfl, h, hb⟩
abbrev fArr (f : Frm) : Array Value := #[.int .u8 f.kind, .string f.text]
abbrev rArr (r : Rep) : Array Value := #[.int .i64 r.kind, .int .i64 r.node, .string r.text]
theorem emp_iff (s : ByteArray) : s.toList = [] ↔ s = emp := by
  rw [ByteArray.toList_eq]
  constructor
  · intro h
    obtain ⟨⟨l⟩⟩ := s
    simp at h
    subst h
    rfl
  · rintro rfl
    rfl
theorem ne_emp {s : ByteArray} (h : s ≠ emp) : ¬ s.toList = [] ∧ (!s.toList.isEmpty) = true := by
  have h1 : ¬ s.toList = [] := fun q => h ((emp_iff s).1 q)
  refine ⟨h1, ?_⟩
  cases hs : s.toList with
  | nil => exact absurd hs h1
  | cons a l => rfl
theorem box1 {w : World} {A : Array Value} {t : TypeId} : Below w.heap.size w (w.alloc (.cells A t)) := (Below.refl _ _).alloc (Nat.le_refl _) _
set_option maxHeartbeats 2000000 in
theorem frameFits_any (f : Frm) (w : World) : Calls Try.prog 27 #[.agg (fArr f)] w (SaysB (frmOk f) w) := by
  obtain ⟨k, s⟩ := f
  by_cases h1 : k = 66
  · subst h1
    have HE : Hid (∀ b : Bool, (b = true ↔ s = emp) → (b = true ↔ frmOk ⟨66, s⟩)) := Lib.hid (fun b hb => by unfold frmOk; simp [hb])
    go_enter Try.func27, Try.ntmps27
    go_wp2
    go_ret
    exact saysB_as (HE.out _ (by simp [emp_iff])) box1
  · by_cases h2 : k = 69
    · subst h2
      have HE : Hid (∀ b : Bool, (b = true ↔ s = emp) → (b = true ↔ frmOk ⟨69, s⟩)) := Lib.hid (fun b hb => by unfold frmOk; simp [hb])
      clear h1
      go_enter Try.func27, Try.ntmps27
      go_wp2
      go_ret
      exact saysB_as (HE.out _ (by simp [emp_iff])) box1
    · by_cases h3 : k = 81
      · subst h3
        have HE : Hid ((decide ((s.size : Int) ≤ 48) = true) ↔ frmOk ⟨81, s⟩) := Lib.hid (by unfold frmOk; simp; omega)
        clear h1 h2
        go_enter Try.func27, Try.ntmps27
        go_wp2
        go_ret
        exact saysB_as HE.out box1
      · have HE : Hid (¬ frmOk ⟨k, s⟩) := Lib.hid (by unfold frmOk; simp [h1, h2, h3])
        have e1 : (k == 66) = false := beq_eq_false_iff_ne.2 h1
        have e2 : (k == 69) = false := beq_eq_false_iff_ne.2 h2
        have e3 : (k == 81) = false := beq_eq_false_iff_ne.2 h3
        clear h1 h2 h3
        go_enter Try.func27, Try.ntmps27
        go_wp2
        go_ret
        exact saysB_no HE.out box1
theorem isNode_any (n : Int) (w : World) : Calls Try.prog 34 #[.int .i64 n] w fun e w' => e = .returned (.bool (decide (1 ≤ n) && decide (n ≤ 7))) ∧ w = w' := by
  by_cases h : 1 ≤ n
  · have HE : Hid (decide (n ≤ 7) = (decide (1 ≤ n) && decide (n ≤ 7))) := Lib.hid (by simp [h])
    go_enter Try.func34, Try.ntmps34
    go_wp2
    go_ret
    exact ⟨ret_bool HE.out, rfl⟩
  · have HE : Hid (false = (decide (1 ≤ n) && decide (n ≤ 7))) := Lib.hid (by simp [h])
    go_enter Try.func34, Try.ntmps34
    go_wp2
    go_ret
    exact ⟨ret_bool HE.out, rfl⟩
set_option maxHeartbeats 2000000 in
theorem replyFits_any (r : Rep) (w : World) : Calls Try.prog 30 #[.agg (rArr r)] w (SaysB (repFits r) w) := by
  obtain ⟨k, n, s⟩ := r
  by_cases h1 : k = 2
  · subst h1
    have HE : Hid ((n == 0) = true ↔ repFits ⟨2, n, s⟩) := Lib.hid (by unfold repFits; simp)
    go_enter Try.func30, Try.ntmps30
    go_wp2
    go_ret
    exact saysB_as HE.out box1
  · have e1 : (k != 2) = true := by simpa using h1
    by_cases h2 : s = emp
    · subst h2
      unfold emp
      by_cases h3 : k = 5
      · subst h3
        have HE : Hid ((decide (1 ≤ n) && decide (n ≤ 7)) = true ↔ repFits ⟨5, n, emp⟩) := Lib.hid (by unfold repFits; simp)
        clear e1
        go_enter Try.func30, Try.ntmps30
        go_wp2_with fail
        refine (isNode_any _ _).mono ?_
        rintro e w1 ⟨rfl, rfl⟩
        go_wp2
        go_ret
        exact saysB_as HE.out box1
      · have HE : Hid ((n == 0) = true ↔ repFits ⟨k, n, emp⟩) := Lib.hid (by unfold repFits; simp [h3])
        have e2 : (k == 5) = false := beq_eq_false_iff_ne.2 h3
        clear h1 h3
        go_enter Try.func30, Try.ntmps30
        go_wp2
        go_ret
        exact saysB_as HE.out box1
    · have HE : Hid (¬ repFits ⟨k, n, s⟩) := Lib.hid (by unfold repFits; exact fun q => h2 (q.1 h1))
      obtain ⟨e3, e4⟩ := ne_emp h2
      clear h1 h2
      go_enter Try.func30, Try.ntmps30
      go_wp2
      go_ret
      exact saysB_no HE.out box1
/-- what follows from a reply's kind, when it may be -/
def Row (ok : Prop) (nx : Bool) (w : World) (e : Ending) (w' : World) : Prop := ∃ b, e = .returned (.tuple #[.bool b, .bool nx]) ∧ (b = true ↔ ok) ∧ w = w'
set_option maxHeartbeats 4000000 in
theorem outside_any (k r : Int) (w : World) (hk : k = 66 ∨ k = 81 ∨ k = 69) : Calls Try.prog 28 #[.int .u8 k, .int .i64 r] w (Row (okO k r) (nxW false r) w) := by
  by_cases hr : 1 ≤ r ∧ r ≤ 7
  · have hr2 : r = 1 ∨ r = 2 ∨ r = 3 ∨ r = 4 ∨ r = 5 ∨ r = 6 ∨ r = 7 := by omega
    clear hr
    rcases hk with rfl | rfl | rfl <;> rcases hr2 with rfl | rfl | rfl | rfl | rfl | rfl | rfl
    all_goals
      go_enter Try.func28, Try.ntmps28
      go_wp2
      go_ret2
      exact ⟨_, rfl, by unfold okO; decide, rfl⟩
  · have e1 : (r == 1) = false := beq_eq_false_iff_ne.2 (by omega)
    have e2 : (r == 2) = false := beq_eq_false_iff_ne.2 (by omega)
    have e4 : (r == 4) = false := beq_eq_false_iff_ne.2 (by omega)
    have e5 : (r == 5) = false := beq_eq_false_iff_ne.2 (by omega)
    have e6 : (r == 6) = false := beq_eq_false_iff_ne.2 (by omega)
    have e7 : (r == 7) = false := beq_eq_false_iff_ne.2 (by omega)
    have HN : Hid (nxW false r = false) := Lib.hid (by unfold nxW; simp; omega)
    have HO : Hid (¬ okO k r) := Lib.hid (by unfold okO; omega)
    clear hr
    rcases hk with rfl | rfl | rfl
    all_goals
      go_enter Try.func28, Try.ntmps28
      go_wp2
      go_ret2
      exact ⟨false, by rw [HN.out]; rfl, ⟨(fun q => by cases q), fun q => absurd q HO.out⟩, rfl⟩
set_option maxHeartbeats 4000000 in
theorem inside_any (k r : Int) (w : World) (hk : k = 66 ∨ k = 81 ∨ k = 69) : Calls Try.prog 29 #[.int .u8 k, .int .i64 r] w (Row (okI k r) (nxW true r) w) := by
  by_cases hr : 1 ≤ r ∧ r ≤ 7
  · have hr2 : r = 1 ∨ r = 2 ∨ r = 3 ∨ r = 4 ∨ r = 5 ∨ r = 6 ∨ r = 7 := by omega
    clear hr
    rcases hk with rfl | rfl | rfl <;> rcases hr2 with rfl | rfl | rfl | rfl | rfl | rfl | rfl
    all_goals
      go_enter Try.func29, Try.ntmps29
      go_wp2
      go_ret2
      exact ⟨_, rfl, by unfold okI; decide, rfl⟩
  · have e2 : (r == 2) = false := beq_eq_false_iff_ne.2 (by omega)
    have e3 : (r == 3) = false := beq_eq_false_iff_ne.2 (by omega)
    have e6 : (r == 6) = false := beq_eq_false_iff_ne.2 (by omega)
    have e7 : (r == 7) = false := beq_eq_false_iff_ne.2 (by omega)
    have f6 : (r != 6) = true := by simp; omega
    have f3 : (r != 3) = true := by simp; omega
    have HN : Hid (nxW true r = true) := Lib.hid (by unfold nxW; simp; omega)
    have HO : Hid (¬ okI k r) := Lib.hid (by unfold okI; omega)
    clear hr
    rcases hk with rfl | rfl | rfl
    all_goals
      go_enter Try.func29, Try.ntmps29
      go_wp2
      go_ret2
      exact ⟨false, by rw [HN.out]; rfl, ⟨(fun q => by cases q), fun q => absurd q HO.out⟩, rfl⟩
end Jf
end Go.Proofs.Ytcgciefoojlpoaa
