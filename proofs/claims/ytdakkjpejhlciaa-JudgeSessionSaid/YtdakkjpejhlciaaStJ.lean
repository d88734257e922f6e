/- What a reader keeps as bytes: lists alone. No condition. -/
import Derived.Test.YtdakkjpejhlciaaStI
namespace Go.Proofs.Ytdakkjpejhlciaa
open Go.ChangeShapes Go.WideShapes Go.ChangeAt Go.RowKit
set_option linter.unusedVariables false
set_option maxRecDepth 100000
namespace St
def pend (s : Rst) : List Int := if s.st = 1 then [81] else if s.st = 2 then [81, s.want] ++ s.text else []
theorem run_part : ∀ (ys t : List Int) (n : Int), (t.length + ys.length : Int) < n → runV ⟨2, n, t⟩ ys = ([], ⟨2, n, t ++ ys⟩)
  | [], t, n, _ => by simp [runV]
  | y :: ys, t, n, hn => by
    have ih := run_part ys (t ++ [y]) n (by simp at hn ⊢; omega)
    rw [show y :: ys = [y] ++ ys from rfl, run_app]
    have e : runV ⟨2, n, t⟩ [y] = ([], ⟨2, n, t ++ [y]⟩) := by
      have e : runV ⟨2, n, t⟩ [y] = runF ([], ⟨2, n, t⟩) y := rfl
      rw [e]
      unfold runF stepV queryV
      simp only [List.length_append, List.length_singleton]
      rw [if_neg (by decide), if_neg (by decide), if_pos trivial, if_pos (by simp at hn ⊢; omega)]
      simp
    rw [e, ih]
    simp
theorem run_bad : ∀ (ys : List Int) (a : Int) (b : List Int), runV ⟨3, a, b⟩ ys = ([], ⟨3, a, b⟩)
  | [], _, _ => rfl
  | y :: ys, a, b => by
    rw [show y :: ys = [y] ++ ys from rfl, run_app]
    have e : runV ⟨3, a, b⟩ [y] = ([], ⟨3, a, b⟩) := by
      have e : runV ⟨3, a, b⟩ [y] = runF ([], ⟨3, a, b⟩) y := rfl
      rw [e]
      unfold runF stepV
      simp
    rw [e]
    simp only []
    rw [run_bad ys a b]
    rfl
theorem run_n {n : Int} (h0 : 0 < n) (h : n ≤ 48) : runV ⟨1, 0, []⟩ [n] = ([], ⟨2, n, []⟩) := by
  have e : runV ⟨1, 0, []⟩ [n] = runF ([], ⟨1, 0, []⟩) n := rfl
  rw [e]
  unfold runF stepV queryV
  rw [if_neg (by decide), if_pos rfl, if_neg (by omega), if_pos (by simp; omega)]
  simp
theorem run_81 : runV zero [81] = ([], ⟨1, 0, []⟩) := rfl
theorem pend_run {s : Rst} (h : okR s) (h3 : s.st ≠ 3) : runV zero (pend s) = ([], s) := by
  obtain ⟨h1, h2, h4, h5, h6, h7, h8⟩ := h
  obtain ⟨st, want, text⟩ := s
  simp only [] at *
  rcases h1 with rfl | rfl | rfl | rfl
  · obtain ⟨rfl, rfl⟩ := h7 (by decide)
    rfl
  · obtain ⟨rfl, rfl⟩ := h7 (by decide)
    rfl
  · have := h8 rfl
    show runV zero ([81] ++ ([want] ++ text)) = _
    rw [run_app, run_81]
    simp only []
    rw [run_app, run_n (by omega) h4]
    simp only []
    rw [run_part text [] want (by simpa using this)]
    rfl
  · exact absurd rfl h3
/-- the bytes that come, behind those kept -/
theorem run_pend {s : Rst} (h : okR s) (h3 : s.st ≠ 3) (bs : List Int) : runV zero (pend s ++ bs) = runV s bs := by
  rw [run_app, pend_run h h3]
  simp
/-- the first byte of those kept -/
theorem go_one {c : Int} (h : c = 66 ∨ c = 69) (r : List Int) : runV zero (c :: r) = (⟨c, emp⟩ :: (runV zero r).1, (runV zero r).2) := by
  rw [show c :: r = [c] ++ r from rfl, run_app]
  rcases h with rfl | rfl <;> rfl
theorem go_bad {c : Int} (h : ¬ (c = 66 ∨ c = 69)) (h2 : c ≠ 81) (r : List Int) : runV zero (c :: r) = ([], ⟨3, 0, []⟩) := by
  rw [show c :: r = [c] ++ r from rfl, run_app]
  have e : runV zero [c] = ([], ⟨3, 0, []⟩) := by
    have e : runV zero [c] = runF ([], zero) c := rfl
    rw [e]
    unfold runF stepV zero
    simp [h, h2]
  rw [e]
  simp only []
  rw [run_bad]
  rfl
theorem go_long {n : Int} (h : 48 < n) (r : List Int) : runV zero (81 :: n :: r) = ([], ⟨3, 0, []⟩) := by
  rw [show 81 :: n :: r = [81] ++ ([n] ++ r) from rfl, run_app, run_81]
  simp only []
  rw [run_app]
  have e : runV ⟨1, 0, []⟩ [n] = ([], ⟨3, 0, []⟩) := by
    have e : runV ⟨1, 0, []⟩ [n] = runF ([], ⟨1, 0, []⟩) n := rfl
    rw [e]
    unfold runF stepV
    rw [if_neg (by decide), if_pos rfl, if_pos h]
    rfl
  rw [e]
  simp only []
  rw [run_bad]
  rfl
theorem go_part {n : Int} (h0 : 0 ≤ n) (h : n ≤ 48) (r : List Int) (hr : (r.length : Int) < n) : runV zero (81 :: n :: r) = ([], ⟨2, n, r⟩) := by
  rw [show 81 :: n :: r = [81] ++ ([n] ++ r) from rfl, run_app, run_81]
  simp only []
  rw [run_app, run_n (by omega) h]
  simp only []
  rw [run_part r [] n (by simpa using hr)]
  rfl
theorem go_full {n : Int} (h0 : 0 ≤ n) (h : n ≤ 48) (t r : List Int) (ht : (t.length : Int) = n) : runV zero (81 :: n :: (t ++ r)) = (mkQ t :: (runV zero r).1, (runV zero r).2) := by
  rw [show 81 :: n :: (t ++ r) = [81] ++ ([n] ++ (t ++ r)) from rfl, run_app, run_81]
  simp only []
  rw [run_app]
  by_cases hz : n = 0
  · subst hz
    have : t = [] := List.eq_nil_of_length_eq_zero (by omega)
    subst this
    have e : runV ⟨1, 0, []⟩ [0] = ([mkQ []], zero) := rfl
    rw [e]
    rfl
  · rw [run_n (by omega) h]
    simp only []
    rw [run_app, run_text t [] n (by rintro rfl; simp at ht; omega) (by simpa using ht)]
    rfl
/-- a reader of the document's in memory -/
def XRd (w : World) (g : Nat) (s : Rst) : Prop := ∃ bs : ByteArray, w.heap[g]? = some (.cells #[.string bs, .bool (decide (s.st = 3))] 28 (0, 0)) ∧ sb bs = pend s
end St
end Go.Proofs.Ytdakkjpejhlciaa
