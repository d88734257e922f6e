/- A snapshot's bytes by the document: its Encode. No condition. -/
import Derived.Test.YtlfaiemebfkajaaGreatDoorEcZ
import Derived.Test.YtlfaiemebfkajaaGreatDoorShR
import Derived.Deep.RegionHeld3
import Derived.Deep.CutRange
import Derived.Deep.CutBlock
import Derived.Deep.DeepCutAuto
import Derived.Deep.MidRow
namespace Go.Proofs.YtlfaiemebfkajaaGreatDoor
open Go.ChangeShapes Go.WideShapes Go.ChangeAt Go.RowKit Go.Deep
set_option linter.unusedVariables false
set_option maxRecDepth 100000
namespace Sc
open Cm Nm Sh
theorem encN_one (n : Int) : encN [n] = numI n := by simp [encN]
theorem encN_cons (n : Int) (l : List Int) : encN (n :: l) = numI n ++ encN l := rfl
end Sc
end Go.Proofs.YtlfaiemebfkajaaGreatDoor
