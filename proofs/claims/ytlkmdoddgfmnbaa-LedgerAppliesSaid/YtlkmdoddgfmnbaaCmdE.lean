/- The document's own Check of a command and package cmd's tell the same: on commands alone. No condition. -/
import Derived.Test.YtlkmdoddgfmnbaaCmdK
namespace Go.Proofs.Ytlkmdoddgfmnbaa
open Go.ChangeShapes Go.WideShapes Go.ChangeAt Go.RowKit
set_option linter.unusedVariables false
set_option maxRecDepth 100000
set_option linter.unusedSimpArgs false
namespace Cm

theorem all7 (p : Nat → Bool) : (List.range 7).all p = (p 0 && (p 1 && (p 2 && (p 3 && (p 4 && (p 5 && p 6)))))) := by simp [List.range, List.range.loop]
theorem u64_pos {n : Int} (h : 0 ≤ n) : u64 n = n := by unfold u64; rw [if_pos h]
theorem u64_neg {n : Int} (h : n < 0) : u64 n = n + 18446744073709551616 := by unfold u64; rw [if_neg (by omega)]

theorem rchk_eq {c : Cmd} (h : c.wf) : rchk c = chkC c := by
  obtain ⟨h0, h1, h2, h3, h4, h5, h6⟩ := h
  have b1 := bounds_i64 h1
  have b2 := bounds_i64 h2
  have b3 := bounds_u64 h3
  have b4 := bounds_u64 h4
  have b5 := bounds_u64 h5
  have b6 := bounds_u64 h6
  clear h0 h1 h2 h3 h4 h5 h6
  obtain ⟨kind, node, token, nodes, boot, seq, serial, stamp⟩ := c
  simp only [] at b1 b2 b3 b4 b5 b6
  by_cases hk : 1 ≤ kind ∧ kind ≤ 6
  · have hkb : kindB kind = true := decide_eq_true hk
    unfold rchk chkC
    rw [all7]
    simp only [hkb, Bool.true_and]
    by_cases hn : node < 0
    · have e0 : okF ⟨kind, node, token, nodes, boot, seq, serial, stamp⟩ 0 = false := by
        simp only [okF, fitsF, numF, u64_neg hn]
        split
        · exact decide_eq_false (by omega)
        · exact beq_eq_false_iff_ne.2 (by omega)
      rw [e0, decide_eq_true hn]; rfl
    by_cases ht : token < 0
    · have e3 : okF ⟨kind, node, token, nodes, boot, seq, serial, stamp⟩ 3 = false := by
        simp only [okF, fitsF, numF, u64_neg ht]
        split
        · exact decide_eq_false (by omega)
        · exact beq_eq_false_iff_ne.2 (by omega)
      rw [e3, decide_eq_true ht, decide_eq_false hn]; simp
    rw [decide_eq_false hn, decide_eq_false ht]
    simp only [okF, fitsF, numF, u64_pos (show 0 ≤ node by omega), u64_pos (show 0 ≤ token by omega), Bool.not_false, Bool.true_and, listB]
    rw [len_zero]
    rcases (show kind = 1 ∨ kind = 2 ∨ kind = 3 ∨ kind = 4 ∨ kind = 5 ∨ kind = 6 by omega) with rfl | rfl | rfl | rfl | rfl | rfl
    all_goals
      simp [fieldsL, fieldS, hasB, sbs, rightB]
      try simp only [b3.2, b4.2, b5.2, b6.2, decide_true, Bool.and_true]
      try ac_rfl
  · have hkb : kindB kind = false := decide_eq_false hk
    unfold rchk chkC
    simp only [hkb, Bool.false_and]
end Cm
end Go.Proofs.Ytlkmdoddgfmnbaa
