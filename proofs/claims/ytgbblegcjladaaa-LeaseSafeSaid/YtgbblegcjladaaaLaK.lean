/- What a command does to a ledger: ledger.change (on a ledger in a box) and ledger.Apply, whole. No condition but sizes. -/
import Derived.Test.YtgbblegcjladaaaLaI
import Derived.Test.YtgbblegcjladaaaLcM
import Derived.Test.YtgbblegcjladaaaLedN
namespace Go.Proofs.Ytgbblegcjladaaa
open Go.ChangeShapes Go.WideShapes Go.ChangeAt Go.RowKit Go.Lib
set_option linter.unusedVariables false
set_option maxRecDepth 100000
namespace La
open Ld Cm

theorem req_nodes {c : Cmd} (h : chkC c = true) (hk : c.kind = 3 ∨ c.kind = 4 ∨ c.kind = 5) : c.nodes = [] := by
  obtain ⟨h1, h2⟩ := chk_of h
  have f6 := h2 6 (by omega)
  have e6 : ¬ ((6 : Nat) : Int) ∈ fieldsL c.kind := by rcases hk with h | h | h <;> rw [h] <;> decide
  unfold okF at f6
  rw [if_neg e6] at f6
  have g : (c.nodes.length : Int) = 0 := beq_iff_eq.1 f6
  exact List.eq_nil_of_length_eq_zero (by omega)
theorem do_none {l : Led} {i : Int} {c : Cmd} (h : c.kind = 1 ∨ c.kind = 2) : doL l i c = (l, zAns) := by unfold doL; rw [if_pos h]
theorem do_reclaim {l : Led} {i : Int} {c : Cmd} (h : c.kind = 6) : doL l i c = execL l i c := by unfold doL; rw [if_neg (by omega), if_pos h]
theorem do_once {l : Led} {i : Int} {c : Cmd} (h : ¬ (c.kind = 1 ∨ c.kind = 2)) (h6 : c.kind ≠ 6) : doL l i c = onceL l i c := by unfold doL; rw [if_neg h, if_neg h6]

end La
end Go.Proofs.Ytgbblegcjladaaa
