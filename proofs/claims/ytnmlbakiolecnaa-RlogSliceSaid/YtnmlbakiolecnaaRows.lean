/-
  No cell of these rows narrows 'for every input' (looked for: loops, veiled, ifaces, maps, wideKeys, modest, calm, conditions, laid).
  DERIVED. THE GIVEN ROWS OF THIS SEAT. 10 by the template 'for every input the law returns true; each argument reads behind the call as it read before'; 0 by the template 'total and deterministic' (their statements: YtnmlbakiolecnaaTotals.lean).
  GIVEN WITH THE SEED: the statements are not yours to turn. If you find one false, say at which input.
  Laid BY PROGRAM, IN A SANDBOX (cutbox-rows.mjs): the forced cells as the released guide's own fill.sh prints them over the translation 504bc6d9d6520e68… (all of the seat's roots in one cut). By AI agents, Wed Nov 11 2026. No macro, syntax, notation, axiom, sorry.
-/
import Derived.Test.YtnmlbakiolecnaaChecked
import GoSem.Claim
import GoSem.ClaimJoined
import GoSem.ClaimMapViews
import Derived.JoinedTies
import Derived.KernelRfl
namespace Go.Proofs.Ytnmlbakiolecnaa
/- THE CELL 'sum', in the pinned program and in every row, IS THE sha256 OF THE DUMP (.gsa) THAT YtnmlbakiolecnaaProg.lean LOADS. Nothing in Lean hashes anything: it is a label: what it is worth is what the hold of that sum in a sandbox is worth. -/
noncomputable def Try.pinned : Pinned := { name := "ytnmlbakiolecnaa", sum := "504bc6d9d6520e68bdd8e5e661ec46109c279adaf215501c33137e70df336593", checked := Try.checked }
namespace Rows
def none {H : Type} : Left H := { results := [], args := [] }

/-- 'stopcocklaw13.HardChecks': WHATEVER THE INPUT: true; the input reads as it did. -/
def hardChecksSpec : ChangeSpec := { name := "hardChecks", fn := fun _ => fun
  | [d] => { results := [.lit (.bool true)], args := [d] }
  | _ => none }
def hardChecksRow : OpenClaim := { program := "ytnmlbakiolecnaa", sum := "504bc6d9d6520e68bdd8e5e661ec46109c279adaf215501c33137e70df336593", func := "stopcock/stopcocklaw13.HardChecks", spec := "hardChecks", apart := false }
def HardChecksSaid : Prop := hardChecksRow.holds Try.pinned (OpenSpec.ofChange hardChecksSpec)

/-- ITS FALSE NEIGHBOUR: 'it returns false'. Refute it at one input. -/
def hardChecksWrong : ChangeSpec := { name := "hardChecks", fn := fun _ => fun
  | [d] => { results := [.lit (.bool false)], args := [d] }
  | _ => none }
def HardChecksWrongFalsely : Prop := hardChecksRow.holds Try.pinned (OpenSpec.ofChange hardChecksWrong)

/-- 'stopcocklaw13.HardDoes': WHATEVER THE INPUT: true; the input reads as it did. -/
def hardDoesSpec : ChangeSpec := { name := "hardDoes", fn := fun _ => fun
  | [d1, d2] => { results := [.lit (.bool true)], args := [d1, d2] }
  | _ => none }
def hardDoesRow : OpenClaim := { program := "ytnmlbakiolecnaa", sum := "504bc6d9d6520e68bdd8e5e661ec46109c279adaf215501c33137e70df336593", func := "stopcock/stopcocklaw13.HardDoes", spec := "hardDoes", apart := false }
def HardDoesSaid : Prop := hardDoesRow.holds Try.pinned (OpenSpec.ofChange hardDoesSpec)

/-- ITS FALSE NEIGHBOUR: 'it returns false'. Refute it at one input. -/
def hardDoesWrong : ChangeSpec := { name := "hardDoes", fn := fun _ => fun
  | [d1, d2] => { results := [.lit (.bool false)], args := [d1, d2] }
  | _ => none }
def HardDoesWrongFalsely : Prop := hardDoesRow.holds Try.pinned (OpenSpec.ofChange hardDoesWrong)

/-- 'stopcocklaw13.HardBase': WHATEVER THE INPUT: true; the input reads as it did. -/
def hardBaseSpec : ChangeSpec := { name := "hardBase", fn := fun _ => fun
  | [d] => { results := [.lit (.bool true)], args := [d] }
  | _ => none }
def hardBaseRow : OpenClaim := { program := "ytnmlbakiolecnaa", sum := "504bc6d9d6520e68bdd8e5e661ec46109c279adaf215501c33137e70df336593", func := "stopcock/stopcocklaw13.HardBase", spec := "hardBase", apart := false }
def HardBaseSaid : Prop := hardBaseRow.holds Try.pinned (OpenSpec.ofChange hardBaseSpec)

/-- ITS FALSE NEIGHBOUR: 'it returns false'. Refute it at one input. -/
def hardBaseWrong : ChangeSpec := { name := "hardBase", fn := fun _ => fun
  | [d] => { results := [.lit (.bool false)], args := [d] }
  | _ => none }
def HardBaseWrongFalsely : Prop := hardBaseRow.holds Try.pinned (OpenSpec.ofChange hardBaseWrong)

/-- 'stopcocklaw13.HardMakes': WHATEVER THE INPUT: true; the input reads as it did. -/
def hardMakesSpec : ChangeSpec := { name := "hardMakes", fn := fun _ => fun
  | [d] => { results := [.lit (.bool true)], args := [d] }
  | _ => none }
def hardMakesRow : OpenClaim := { program := "ytnmlbakiolecnaa", sum := "504bc6d9d6520e68bdd8e5e661ec46109c279adaf215501c33137e70df336593", func := "stopcock/stopcocklaw13.HardMakes", spec := "hardMakes", apart := false }
def HardMakesSaid : Prop := hardMakesRow.holds Try.pinned (OpenSpec.ofChange hardMakesSpec)

/-- ITS FALSE NEIGHBOUR: 'it returns false'. Refute it at one input. -/
def hardMakesWrong : ChangeSpec := { name := "hardMakes", fn := fun _ => fun
  | [d] => { results := [.lit (.bool false)], args := [d] }
  | _ => none }
def HardMakesWrongFalsely : Prop := hardMakesRow.holds Try.pinned (OpenSpec.ofChange hardMakesWrong)

/-- 'stopcocklaw13.HardRises': WHATEVER THE INPUT: true; the input reads as it did. -/
def hardRisesSpec : ChangeSpec := { name := "hardRises", fn := fun _ => fun
  | [d1, d2] => { results := [.lit (.bool true)], args := [d1, d2] }
  | _ => none }
def hardRisesRow : OpenClaim := { program := "ytnmlbakiolecnaa", sum := "504bc6d9d6520e68bdd8e5e661ec46109c279adaf215501c33137e70df336593", func := "stopcock/stopcocklaw13.HardRises", spec := "hardRises", apart := false }
def HardRisesSaid : Prop := hardRisesRow.holds Try.pinned (OpenSpec.ofChange hardRisesSpec)

/-- ITS FALSE NEIGHBOUR: 'it returns false'. Refute it at one input. -/
def hardRisesWrong : ChangeSpec := { name := "hardRises", fn := fun _ => fun
  | [d1, d2] => { results := [.lit (.bool false)], args := [d1, d2] }
  | _ => none }
def HardRisesWrongFalsely : Prop := hardRisesRow.holds Try.pinned (OpenSpec.ofChange hardRisesWrong)

/-- 'stopcocklaw15.RlogLast': WHATEVER THE INPUT: true; the input reads as it did. -/
def rlogLastSpec : ChangeSpec := { name := "rlogLast", fn := fun _ => fun
  | [d] => { results := [.lit (.bool true)], args := [d] }
  | _ => none }
def rlogLastRow : OpenClaim := { program := "ytnmlbakiolecnaa", sum := "504bc6d9d6520e68bdd8e5e661ec46109c279adaf215501c33137e70df336593", func := "stopcock/stopcocklaw15.RlogLast", spec := "rlogLast", apart := false }
def RlogLastSaid : Prop := rlogLastRow.holds Try.pinned (OpenSpec.ofChange rlogLastSpec)

/-- ITS FALSE NEIGHBOUR: 'it returns false'. Refute it at one input. -/
def rlogLastWrong : ChangeSpec := { name := "rlogLast", fn := fun _ => fun
  | [d] => { results := [.lit (.bool false)], args := [d] }
  | _ => none }
def RlogLastWrongFalsely : Prop := rlogLastRow.holds Try.pinned (OpenSpec.ofChange rlogLastWrong)

/-- 'stopcocklaw15.RlogTerm': WHATEVER THE INPUT: true; the input reads as it did. -/
def rlogTermSpec : ChangeSpec := { name := "rlogTerm", fn := fun _ => fun
  | [d1, d2] => { results := [.lit (.bool true)], args := [d1, d2] }
  | _ => none }
def rlogTermRow : OpenClaim := { program := "ytnmlbakiolecnaa", sum := "504bc6d9d6520e68bdd8e5e661ec46109c279adaf215501c33137e70df336593", func := "stopcock/stopcocklaw15.RlogTerm", spec := "rlogTerm", apart := false }
def RlogTermSaid : Prop := rlogTermRow.holds Try.pinned (OpenSpec.ofChange rlogTermSpec)

/-- ITS FALSE NEIGHBOUR: 'it returns false'. Refute it at one input. -/
def rlogTermWrong : ChangeSpec := { name := "rlogTerm", fn := fun _ => fun
  | [d1, d2] => { results := [.lit (.bool false)], args := [d1, d2] }
  | _ => none }
def RlogTermWrongFalsely : Prop := rlogTermRow.holds Try.pinned (OpenSpec.ofChange rlogTermWrong)

/-- 'stopcocklaw15.RlogNewer': WHATEVER THE INPUT: true; the input reads as it did. -/
def rlogNewerSpec : ChangeSpec := { name := "rlogNewer", fn := fun _ => fun
  | [d1, d2, d3] => { results := [.lit (.bool true)], args := [d1, d2, d3] }
  | _ => none }
def rlogNewerRow : OpenClaim := { program := "ytnmlbakiolecnaa", sum := "504bc6d9d6520e68bdd8e5e661ec46109c279adaf215501c33137e70df336593", func := "stopcock/stopcocklaw15.RlogNewer", spec := "rlogNewer", apart := false }
def RlogNewerSaid : Prop := rlogNewerRow.holds Try.pinned (OpenSpec.ofChange rlogNewerSpec)

/-- ITS FALSE NEIGHBOUR: 'it returns false'. Refute it at one input. -/
def rlogNewerWrong : ChangeSpec := { name := "rlogNewer", fn := fun _ => fun
  | [d1, d2, d3] => { results := [.lit (.bool false)], args := [d1, d2, d3] }
  | _ => none }
def RlogNewerWrongFalsely : Prop := rlogNewerRow.holds Try.pinned (OpenSpec.ofChange rlogNewerWrong)

/-- 'stopcocklaw15.RlogSlice': WHATEVER THE INPUT: true; the input reads as it did. -/
def rlogSliceSpec : ChangeSpec := { name := "rlogSlice", fn := fun _ => fun
  | [d1, d2, d3] => { results := [.lit (.bool true)], args := [d1, d2, d3] }
  | _ => none }
def rlogSliceRow : OpenClaim := { program := "ytnmlbakiolecnaa", sum := "504bc6d9d6520e68bdd8e5e661ec46109c279adaf215501c33137e70df336593", func := "stopcock/stopcocklaw15.RlogSlice", spec := "rlogSlice", apart := false }
def RlogSliceSaid : Prop := rlogSliceRow.holds Try.pinned (OpenSpec.ofChange rlogSliceSpec)

/-- ITS FALSE NEIGHBOUR: 'it returns false'. Refute it at one input. -/
def rlogSliceWrong : ChangeSpec := { name := "rlogSlice", fn := fun _ => fun
  | [d1, d2, d3] => { results := [.lit (.bool false)], args := [d1, d2, d3] }
  | _ => none }
def RlogSliceWrongFalsely : Prop := rlogSliceRow.holds Try.pinned (OpenSpec.ofChange rlogSliceWrong)

/-- 'stopcocklaw15.RlogConf': WHATEVER THE INPUT: true; the input reads as it did. -/
def rlogConfSpec : ChangeSpec := { name := "rlogConf", fn := fun _ => fun
  | [d1, d2] => { results := [.lit (.bool true)], args := [d1, d2] }
  | _ => none }
def rlogConfRow : OpenClaim := { program := "ytnmlbakiolecnaa", sum := "504bc6d9d6520e68bdd8e5e661ec46109c279adaf215501c33137e70df336593", func := "stopcock/stopcocklaw15.RlogConf", spec := "rlogConf", apart := false }
def RlogConfSaid : Prop := rlogConfRow.holds Try.pinned (OpenSpec.ofChange rlogConfSpec)

/-- ITS FALSE NEIGHBOUR: 'it returns false'. Refute it at one input. -/
def rlogConfWrong : ChangeSpec := { name := "rlogConf", fn := fun _ => fun
  | [d1, d2] => { results := [.lit (.bool false)], args := [d1, d2] }
  | _ => none }
def RlogConfWrongFalsely : Prop := rlogConfRow.holds Try.pinned (OpenSpec.ofChange rlogConfWrong)

/- THE SECOND FORM. 'bulk': how many values and letters a reading holds, each counted each time it is reached (what is shared counts as often as it is met; a slice's spare places count too). A statement '..UptoSaid' is the law's where the arguments, and the package variables that the reading takes, are together of bulk at most 1048576: NARROWER than '..Said'. Prove '..Said' where nothing that the law and all that it calls make is longer than what came in: it says more and counts as full. Else prove '..UptoSaid'. A law counts once. -/
mutual
def uptoBulk {H : Type} : DataW H → Nat
  | .lit (.string bytes) => bytes.length + 1
  | .lit _ => 1
  | .nil => 1
  | .ptr d => uptoBulk d + 1
  | .slice elems spare => uptoBulkAll elems + uptoBulkAll spare + 1
  | .agg parts => uptoBulkAll parts + 1
  | .iface _ d => uptoBulk d + 1
  | .map entries => uptoBulkEntries entries + 1
  | .held _ => 1
def uptoBulkAll {H : Type} : List (DataW H) → Nat
  | [] => 0
  | d :: r => uptoBulk d + uptoBulkAll r
def uptoBulkEntries {H : Type} : List (Lit × DataW H) → Nat
  | [] => 0
  | x :: r => uptoBulkEntry x + uptoBulkEntries r
def uptoBulkEntry {H : Type} : Lit × DataW H → Nat
  | (.string bytes, d) => bytes.length + uptoBulk d + 1
  | (_, d) => uptoBulk d + 1
 end
def uptoSmall : (H : Type) → List (DataW H) → Bool := fun _ ds => decide (uptoBulkAll ds ≤ 1048576)
def OpenSpec.upto (s : _root_.Go.ChangeSpec) : _root_.Go.OpenSpec := { _root_.Go.OpenSpec.ofChange s with cond := some uptoSmall }

/-- 'stopcocklaw13.HardChecks', WHERE WHAT IT READS IS OF BULK AT MOST 1048576: true; the input reads as it did. -/
def hardChecksUptoRow : OpenClaim := { program := "ytnmlbakiolecnaa", sum := "504bc6d9d6520e68bdd8e5e661ec46109c279adaf215501c33137e70df336593", func := "stopcock/stopcocklaw13.HardChecks", spec := "hardChecks", apart := false, narrowed := true }
def HardChecksUptoSaid : Prop := hardChecksUptoRow.holds Try.pinned (OpenSpec.upto hardChecksSpec)

/-- 'stopcocklaw13.HardDoes', WHERE WHAT IT READS IS OF BULK AT MOST 1048576: true; the input reads as it did. -/
def hardDoesUptoRow : OpenClaim := { program := "ytnmlbakiolecnaa", sum := "504bc6d9d6520e68bdd8e5e661ec46109c279adaf215501c33137e70df336593", func := "stopcock/stopcocklaw13.HardDoes", spec := "hardDoes", apart := false, narrowed := true }
def HardDoesUptoSaid : Prop := hardDoesUptoRow.holds Try.pinned (OpenSpec.upto hardDoesSpec)

/-- 'stopcocklaw13.HardBase', WHERE WHAT IT READS IS OF BULK AT MOST 1048576: true; the input reads as it did. -/
def hardBaseUptoRow : OpenClaim := { program := "ytnmlbakiolecnaa", sum := "504bc6d9d6520e68bdd8e5e661ec46109c279adaf215501c33137e70df336593", func := "stopcock/stopcocklaw13.HardBase", spec := "hardBase", apart := false, narrowed := true }
def HardBaseUptoSaid : Prop := hardBaseUptoRow.holds Try.pinned (OpenSpec.upto hardBaseSpec)

/-- 'stopcocklaw13.HardMakes', WHERE WHAT IT READS IS OF BULK AT MOST 1048576: true; the input reads as it did. -/
def hardMakesUptoRow : OpenClaim := { program := "ytnmlbakiolecnaa", sum := "504bc6d9d6520e68bdd8e5e661ec46109c279adaf215501c33137e70df336593", func := "stopcock/stopcocklaw13.HardMakes", spec := "hardMakes", apart := false, narrowed := true }
def HardMakesUptoSaid : Prop := hardMakesUptoRow.holds Try.pinned (OpenSpec.upto hardMakesSpec)

/-- 'stopcocklaw13.HardRises', WHERE WHAT IT READS IS OF BULK AT MOST 1048576: true; the input reads as it did. -/
def hardRisesUptoRow : OpenClaim := { program := "ytnmlbakiolecnaa", sum := "504bc6d9d6520e68bdd8e5e661ec46109c279adaf215501c33137e70df336593", func := "stopcock/stopcocklaw13.HardRises", spec := "hardRises", apart := false, narrowed := true }
def HardRisesUptoSaid : Prop := hardRisesUptoRow.holds Try.pinned (OpenSpec.upto hardRisesSpec)

/-- 'stopcocklaw15.RlogLast', WHERE WHAT IT READS IS OF BULK AT MOST 1048576: true; the input reads as it did. -/
def rlogLastUptoRow : OpenClaim := { program := "ytnmlbakiolecnaa", sum := "504bc6d9d6520e68bdd8e5e661ec46109c279adaf215501c33137e70df336593", func := "stopcock/stopcocklaw15.RlogLast", spec := "rlogLast", apart := false, narrowed := true }
def RlogLastUptoSaid : Prop := rlogLastUptoRow.holds Try.pinned (OpenSpec.upto rlogLastSpec)

/-- 'stopcocklaw15.RlogTerm', WHERE WHAT IT READS IS OF BULK AT MOST 1048576: true; the input reads as it did. -/
def rlogTermUptoRow : OpenClaim := { program := "ytnmlbakiolecnaa", sum := "504bc6d9d6520e68bdd8e5e661ec46109c279adaf215501c33137e70df336593", func := "stopcock/stopcocklaw15.RlogTerm", spec := "rlogTerm", apart := false, narrowed := true }
def RlogTermUptoSaid : Prop := rlogTermUptoRow.holds Try.pinned (OpenSpec.upto rlogTermSpec)

/-- 'stopcocklaw15.RlogNewer', WHERE WHAT IT READS IS OF BULK AT MOST 1048576: true; the input reads as it did. -/
def rlogNewerUptoRow : OpenClaim := { program := "ytnmlbakiolecnaa", sum := "504bc6d9d6520e68bdd8e5e661ec46109c279adaf215501c33137e70df336593", func := "stopcock/stopcocklaw15.RlogNewer", spec := "rlogNewer", apart := false, narrowed := true }
def RlogNewerUptoSaid : Prop := rlogNewerUptoRow.holds Try.pinned (OpenSpec.upto rlogNewerSpec)

/-- 'stopcocklaw15.RlogSlice', WHERE WHAT IT READS IS OF BULK AT MOST 1048576: true; the input reads as it did. -/
def rlogSliceUptoRow : OpenClaim := { program := "ytnmlbakiolecnaa", sum := "504bc6d9d6520e68bdd8e5e661ec46109c279adaf215501c33137e70df336593", func := "stopcock/stopcocklaw15.RlogSlice", spec := "rlogSlice", apart := false, narrowed := true }
def RlogSliceUptoSaid : Prop := rlogSliceUptoRow.holds Try.pinned (OpenSpec.upto rlogSliceSpec)

/-- 'stopcocklaw15.RlogConf', WHERE WHAT IT READS IS OF BULK AT MOST 1048576: true; the input reads as it did. -/
def rlogConfUptoRow : OpenClaim := { program := "ytnmlbakiolecnaa", sum := "504bc6d9d6520e68bdd8e5e661ec46109c279adaf215501c33137e70df336593", func := "stopcock/stopcocklaw15.RlogConf", spec := "rlogConf", apart := false, narrowed := true }
def RlogConfUptoSaid : Prop := rlogConfUptoRow.holds Try.pinned (OpenSpec.upto rlogConfSpec)

end Rows
end Go.Proofs.Ytnmlbakiolecnaa
