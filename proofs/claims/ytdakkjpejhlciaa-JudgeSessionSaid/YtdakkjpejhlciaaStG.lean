/- Two lists of frames that are one; what was written is read. No condition. -/
import Derived.Test.YtdakkjpejhlciaaStF
namespace Go.Proofs.Ytdakkjpejhlciaa
open Go.ChangeShapes Go.WideShapes Go.ChangeAt Go.RowKit
set_option linter.unusedVariables false
set_option maxRecDepth 100000
namespace St
theorem run_text : ∀ (ys t : List Int) (n : Int), ys ≠ [] → (t.length + ys.length : Int) = n → runV ⟨2, n, t⟩ ys = ([mkQ (t ++ ys)], zero)
  | [], _, _, h, _ => absurd rfl h
  | [y], t, n, _, hn => by
    have e : runV ⟨2, n, t⟩ [y] = runF ([], ⟨2, n, t⟩) y := rfl
    rw [e]
    unfold runF stepV queryV
    simp only [List.length_append, List.length_singleton]
    rw [if_neg (by decide), if_neg (by decide), if_pos trivial, if_neg (by simp at hn ⊢; omega)]
    simp
  | y :: y2 :: ys, t, n, _, hn => by
    have ih := run_text (y2 :: ys) (t ++ [y]) n (by simp) (by simp at hn ⊢; omega)
    rw [show y :: y2 :: ys = [y] ++ (y2 :: ys) from rfl, run_app]
    have e : runV ⟨2, n, t⟩ [y] = ([], ⟨2, n, t ++ [y]⟩) := by
      have e : runV ⟨2, n, t⟩ [y] = runF ([], ⟨2, n, t⟩) y := rfl
      rw [e]
      unfold runF stepV queryV
      simp only [List.length_append, List.length_singleton]
      rw [if_neg (by decide), if_neg (by decide), if_pos trivial, if_pos (by simp at hn ⊢; omega)]
      simp
    rw [e, ih]
    simp
theorem run_byteF {f : Frm} (h : fitF f) : runV zero (byteF f) = ([f], zero) := by
  obtain ⟨k, s⟩ := f
  unfold byteF
  rcases h with ⟨a, b⟩ | ⟨a, b⟩
  · simp only [] at a b
    subst b
    rcases a with rfl | rfl
    · rfl
    · rfl
  · simp only [] at a b
    subst a
    simp only [if_true]
    have e1 : runV zero [81] = ([], ⟨1, 0, []⟩) := rfl
    by_cases h0 : s.size = 0
    · have hs : sb s = [] := List.eq_nil_of_length_eq_zero (by rw [sb_length]; exact h0)
      have hs2 := sb_str s
      rw [hs] at hs2
      rw [hs, h0]
      have e2 : runV zero [81, ((0 : Nat) : Int)] = ([mkQ []], zero) := rfl
      simp only [List.append_nil]
      rw [e2]
      unfold mkQ
      rw [hs2]
    · have e2 : runV ⟨1, 0, []⟩ [(s.size : Int)] = ([], ⟨2, s.size, []⟩) := by
        have e : runV ⟨1, 0, []⟩ [(s.size : Int)] = runF ([], ⟨1, 0, []⟩) s.size := rfl
        rw [e]
        unfold runF stepV queryV
        rw [if_neg (by decide), if_pos rfl, if_neg (by omega), if_pos (by simp; omega)]
        simp
      have e3 := run_text (sb s) [] s.size (by intro q; have := sb_length s; rw [q] at this; simp at this; omega) (by simp [sb_length])
      rw [show [81, (s.size : Int)] ++ sb s = [81] ++ ([(s.size : Int)] ++ sb s) from rfl, run_app, e1]
      simp only []
      rw [run_app, e2]
      simp only []
      rw [e3]
      unfold mkQ
      simp [sb_str]
theorem run_bytes : ∀ (l : List Frm), (∀ f ∈ l, fitF f) → runV zero (l.flatMap byteF) = (l, zero)
  | [], _ => rfl
  | f :: l, h => by
    have ih := run_bytes l (fun g hg => h g (by simp [hg]))
    rw [List.flatMap_cons, run_app, run_byteF (h f (by simp))]
    simp only []
    rw [ih]
    rfl
end St
end Go.Proofs.Ytdakkjpejhlciaa
