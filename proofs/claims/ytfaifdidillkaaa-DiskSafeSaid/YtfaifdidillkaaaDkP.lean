/- What an armed disk takes: on lists. No condition. -/
import Derived.Test.YtfaifdidillkaaaDkO
namespace Go.Proofs.Ytfaifdidillkaaa
open Go.ChangeShapes Go.WideShapes Go.ChangeAt Go.RowKit Go.Deep
set_option linter.unusedVariables false
set_option maxRecDepth 100000
set_option linter.unusedSimpArgs false
namespace Dk
variable {F : List Fl} {n : Nat}
theorem nf_cond {x : ByteArray} {zs : List Int} (h : fullB F x zs = false) : zs.length = 0 ∨ (fndL F x).isSome = true ∨ F.length < 64 := by
  unfold fullB at h
  by_cases q1 : (fndL F x).isSome = true
  · exact .inr (.inl q1)
  · by_cases q2 : zs.length = 0
    · exact .inl q2
    · by_cases q3 : F.length < 64
      · exact .inr (.inr q3)
      · have q1' : (fndL F x).isSome = false := by simpa using q1
        rw [q1', decide_eq_true (show 0 < zs.length by omega), decide_eq_true (show 64 ≤ F.length by omega)] at h
        cases h
theorem app_armed {x : ByteArray} {zs : List Int} {left : Int} (hl : 0 ≤ left) (hs : OkF n F) (hw : ∀ z ∈ zs, (Lit.int .u8 z).wf = true) :
    ((appE ⟨true, left, F⟩ x zs = 1 ∨ appE ⟨true, left, F⟩ x zs = 5) ∧ appS ⟨true, left, F⟩ x zs = ⟨true, left, F⟩) ∨
    (appE ⟨true, left, F⟩ x zs = 0 ∧ (zs.length : Int) ≤ left ∧ ∃ F', OkF (n + zs.length) F' ∧ appS ⟨true, left, F⟩ x zs = ⟨true, left - zs.length, F'⟩) ∨
    (appE ⟨true, left, F⟩ x zs = 7 ∧ left < (zs.length : Int) ∧ ∃ F', appS ⟨true, left, F⟩ x zs = ⟨false, -1, F'⟩) := by
  cases hn : nameB x
  · exact .inl ⟨.inl (by unfold appE; simp [hn]), by unfold appS; simp [hn]⟩
  cases hf : fullB F x zs
  · by_cases hlt : left < (zs.length : Int)
    · refine .inr (.inr ⟨by unfold appE; simp only [hn, hf]; rw [if_neg (by simp), if_neg (by simp), if_neg (by simp), if_neg (by omega), if_pos hlt], hlt, _, by unfold appS; simp only [hn, hf]; rw [if_neg (by simp), if_neg (by simp), if_neg (by simp), if_neg (by omega), if_pos hlt]⟩)
    · refine .inr (.inl ⟨by unfold appE; simp only [hn, hf]; rw [if_neg (by simp), if_neg (by simp), if_neg (by simp), if_neg (by omega), if_neg hlt], by omega, _, hs.add hn hw (nf_cond hf), by unfold appS; simp only [hn, hf]; rw [if_neg (by simp), if_neg (by simp), if_neg (by simp), if_neg (by omega), if_neg hlt]⟩)
  · exact .inl ⟨.inr (by unfold appE; simp [hn, hf]), by unfold appS; simp [hn, hf]⟩
end Dk
end Go.Proofs.Ytfaifdidillkaaa
