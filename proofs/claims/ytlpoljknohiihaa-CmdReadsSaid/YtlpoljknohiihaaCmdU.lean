/- The list of a command read. No condition. -/
import Derived.Test.YtlpoljknohiihaaCmdQ
namespace Go.Proofs.Ytlpoljknohiihaa
open Go.ChangeShapes Go.WideShapes Go.ChangeAt Go.RowKit
set_option linter.unusedVariables false
namespace Cm
/-- k numbers read from u on: the numbers, the error, how many bytes are read then -/
def st (zs : List Int) (u : Nat) : Nat → List Int × Int × Nat
  | 0 => ([], 0, u)
  | k + 1 => if ((st zs u k).2.1 == 0) = true then ((st zs u k).1 ++ [(nx zs (st zs u k).2.2 65535).1], (nx zs (st zs u k).2.2 65535).2.1, (nx zs (st zs u k).2.2 65535).2.2) else st zs u k
theorem st_stop {zs : List Int} {u k : Nat} (h : ((st zs u k).2.1 == 0) = false) : ∀ j, st zs u (k + j) = st zs u k
  | 0 => rfl
  | j + 1 => by
    have ih := st_stop h j
    show (if ((st zs u (k + j)).2.1 == 0) = true then _ else st zs u (k + j)) = _
    rw [ih, h, if_neg (by decide)]
theorem nx_bd {zs : List Int} {u : Nat} {m : Int} (hu : u ≤ zs.length) (h0 : 0 ≤ m) : (nx zs u m).2.2 ≤ zs.length ∧ 0 ≤ (nx zs u m).1 ∧ (nx zs u m).1 ≤ m := by
  rcases hr : Oc.rdL (zs.drop u) with ⟨n, k, e⟩
  have hk := rd_len hr
  rw [List.length_drop] at hk
  rcases Oc.rd_err hr with he | he
  · subst he
    by_cases hm : m < (n : Int)
    · rw [nx_form hr hm]; exact ⟨hu, Int.le_refl _, h0⟩
    · rw [nx_ok hr (by omega)]
      refine ⟨?_, ?_, ?_⟩
      · show u + k ≤ zs.length; omega
      · show (0 : Int) ≤ (n : Int); omega
      · show (n : Int) ≤ m; omega
  · rw [nx_err hr he]; exact ⟨hu, Int.le_refl _, h0⟩
theorem st_bd {zs : List Int} {u : Nat} (hu : u ≤ zs.length) : ∀ k, (st zs u k).2.2 ≤ zs.length ∧ (st zs u k).1.length ≤ k ∧ ∀ n ∈ (st zs u k).1, 0 ≤ n ∧ n ≤ 65535
  | 0 => ⟨hu, Nat.le_refl _, by simp [st]⟩
  | k + 1 => by
    have ih := st_bd hu k
    have hb := nx_bd (m := 65535) ih.1 (by omega)
    unfold st
    split
    · refine ⟨hb.1, by simp only [List.length_append, List.length_singleton]; omega, fun n hn => ?_⟩
      rcases List.mem_append.1 hn with hn | hn
      · exact ih.2.2 n hn
      · rw [List.mem_singleton.1 hn]; exact hb.2
    · exact ⟨ih.1, by omega, ih.2.2⟩
end Cm
end Go.Proofs.Ytlpoljknohiihaa
