/- What hard.Do does with any record. No condition but the bounds of what may last. -/
import Derived.Test.YtgadbghlcejkfaaDoB
import Derived.Test.YtgadbghlcejkfaaDoC
import Derived.Test.YtgadbghlcejkfaaDoD
import Derived.Test.YtgadbghlcejkfaaDoE
import Derived.Deep.QuietTactic
import Derived.BigQuiet
import Derived.Deep.MidRow
namespace Go.Proofs.Ytgadbghlcejkfaa
open Go.ChangeShapes Go.WideShapes Go.ChangeAt Go.RowKit Go.Deep
set_option linter.unusedVariables false
set_option maxRecDepth 100000
namespace Rc
open Hd Nv
theorem do_any (h : Har) (vv : Value) (r : RecR) (v : Value) (w : World) (hh : IsHard w vv h) (hf : IsHard.fits h) (hr : IsRec w v r) (hrf : IsRec.fits r) : Calls Try.prog 17 #[vv, v] w (Did h r w) := by
  by_cases ok : hardOk h
  · by_cases fr : fitsP r
    · by_cases fo : followsP h r
      · rcases fr.2.2.2.2.2.2 with k | k | k | k | k
        · exact do_1 h vv r v w hh hf hr hrf ok fr fo k.1
        · exact do_2 h vv r v w hh hf hr hrf ok fr fo k.1
        · exact do_3 h vv r v w hh hf hr hrf ok fr fo k.1
        · exact do_4 h vv r v w hh hf hr hrf ok fr fo k.1
        · exact do_5 h vv r v w hh hf hr hrf ok fr fo k.1
      · exact do_no3 h vv r v w hh hr ok fr fo
    · exact do_no2 h vv r v w hh hr ok fr
  · exact do_no1 h vv r v w hh hr ok
/-- with whatever record, nothing falls and no second vote is cast -/
theorem rises {h : Har} {r : RecR} (c : can h r) : h.boot ≤ (doH h r).boot ∧ h.term ≤ (doH h r).term ∧ h.shot.index ≤ (doH h r).shot.index ∧ ((doH h r).term = h.term → h.vote ≠ 0 → (doH h r).vote = h.vote) ∧ hardOk (doH h r) := by
  obtain ⟨-, fr, fo, ok⟩ := c
  refine ⟨?_, ?_, ?_, ?_, ok⟩
  all_goals
    clear ok
    unfold followsP at fo
    unfold doH
    rcases fr.2.2.2.2.2.2 with ⟨k, -⟩ | ⟨k, -⟩ | ⟨k, -⟩ | ⟨k, -⟩ | ⟨k, -⟩
  all_goals simp only [k, if_true, if_false, Int.reduceEq] at fo ⊢
  all_goals first | omega | (intro h1 h2; rcases fo with g | ⟨-, g | g⟩; · omega; · exact absurd g h2; · exact g.symm) | exact fun _ _ => trivial
end Rc
end Go.Proofs.Ytgadbghlcejkfaa
