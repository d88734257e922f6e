/-
  No cell of these rows narrows 'for every input' (looked for: loops, veiled, ifaces, maps, wideKeys, modest, calm, conditions, laid).
  DERIVED. THE GIVEN ROWS OF THIS SEAT. 12 by the template 'for every input the law returns true; each argument reads behind the call as it read before'; 0 by the template 'total and deterministic' (their statements: YtlkgmjhejocobaaTotals.lean).
  GIVEN WITH THE SEED: the statements are not yours to turn. If you find one false, say at which input.
  Laid BY PROGRAM, IN A SANDBOX (cutbox-rows.mjs): the forced cells as the released guide's own fill.sh prints them over the translation 1b648e52726968b7… (all of the seat's roots in one cut). By AI agents, Wed Nov 11 2026. No macro, syntax, notation, axiom, sorry.
-/
import Derived.Test.YtlkgmjhejocobaaChecked
import GoSem.Claim
import GoSem.ClaimJoined
import GoSem.ClaimMapViews
import Derived.JoinedTies
import Derived.KernelRfl
namespace Go.Proofs.Ytlkgmjhejocobaa
/- THE CELL 'sum', in the pinned program and in every row, IS THE sha256 OF THE DUMP (.gsa) THAT YtlkgmjhejocobaaProg.lean LOADS. Nothing in Lean hashes anything: it is a label: what it is worth is what the hold of that sum in a sandbox is worth. -/
noncomputable def Try.pinned : Pinned := { name := "ytlkgmjhejocobaa", sum := "1b648e52726968b7f0768199a2564b759ac51facc6ac5856a62e8e6c42eb3a8a", checked := Try.checked }
namespace Rows
def none {H : Type} : Left H := { results := [], args := [] }

/-- 'stopcocklaw06.ShotWrites': WHATEVER THE INPUT: true; the input reads as it did. -/
def shotWritesSpec : ChangeSpec := { name := "shotWrites", fn := fun _ => fun
  | [d] => { results := [.lit (.bool true)], args := [d] }
  | _ => none }
def shotWritesRow : OpenClaim := { program := "ytlkgmjhejocobaa", sum := "1b648e52726968b7f0768199a2564b759ac51facc6ac5856a62e8e6c42eb3a8a", func := "stopcock/stopcocklaw06.ShotWrites", spec := "shotWrites", recurses := true, apart := false }
def ShotWritesSaid : Prop := shotWritesRow.holds Try.pinned (OpenSpec.ofChange shotWritesSpec)

/-- ITS FALSE NEIGHBOUR: 'it returns false'. Refute it at one input. -/
def shotWritesWrong : ChangeSpec := { name := "shotWrites", fn := fun _ => fun
  | [d] => { results := [.lit (.bool false)], args := [d] }
  | _ => none }
def ShotWritesWrongFalsely : Prop := shotWritesRow.holds Try.pinned (OpenSpec.ofChange shotWritesWrong)

/-- 'stopcocklaw06.ShotReads': WHATEVER THE INPUT: true; the input reads as it did. -/
def shotReadsSpec : ChangeSpec := { name := "shotReads", fn := fun _ => fun
  | [d] => { results := [.lit (.bool true)], args := [d] }
  | _ => none }
def shotReadsRow : OpenClaim := { program := "ytlkgmjhejocobaa", sum := "1b648e52726968b7f0768199a2564b759ac51facc6ac5856a62e8e6c42eb3a8a", func := "stopcock/stopcocklaw06.ShotReads", spec := "shotReads", apart := false }
def ShotReadsSaid : Prop := shotReadsRow.holds Try.pinned (OpenSpec.ofChange shotReadsSpec)

/-- ITS FALSE NEIGHBOUR: 'it returns false'. Refute it at one input. -/
def shotReadsWrong : ChangeSpec := { name := "shotReads", fn := fun _ => fun
  | [d] => { results := [.lit (.bool false)], args := [d] }
  | _ => none }
def ShotReadsWrongFalsely : Prop := shotReadsRow.holds Try.pinned (OpenSpec.ofChange shotReadsWrong)

/-- 'stopcocklaw06.ShotBack': WHATEVER THE INPUT: true; the input reads as it did. -/
def shotBackSpec : ChangeSpec := { name := "shotBack", fn := fun _ => fun
  | [d] => { results := [.lit (.bool true)], args := [d] }
  | _ => none }
def shotBackRow : OpenClaim := { program := "ytlkgmjhejocobaa", sum := "1b648e52726968b7f0768199a2564b759ac51facc6ac5856a62e8e6c42eb3a8a", func := "stopcock/stopcocklaw06.ShotBack", spec := "shotBack", apart := false }
def ShotBackSaid : Prop := shotBackRow.holds Try.pinned (OpenSpec.ofChange shotBackSpec)

/-- ITS FALSE NEIGHBOUR: 'it returns false'. Refute it at one input. -/
def shotBackWrong : ChangeSpec := { name := "shotBack", fn := fun _ => fun
  | [d] => { results := [.lit (.bool false)], args := [d] }
  | _ => none }
def ShotBackWrongFalsely : Prop := shotBackRow.holds Try.pinned (OpenSpec.ofChange shotBackWrong)

/-- 'stopcocklaw06.ShotSame': WHATEVER THE INPUT: true; the input reads as it did. -/
def shotSameSpec : ChangeSpec := { name := "shotSame", fn := fun _ => fun
  | [d] => { results := [.lit (.bool true)], args := [d] }
  | _ => none }
def shotSameRow : OpenClaim := { program := "ytlkgmjhejocobaa", sum := "1b648e52726968b7f0768199a2564b759ac51facc6ac5856a62e8e6c42eb3a8a", func := "stopcock/stopcocklaw06.ShotSame", spec := "shotSame", apart := false }
def ShotSameSaid : Prop := shotSameRow.holds Try.pinned (OpenSpec.ofChange shotSameSpec)

/-- ITS FALSE NEIGHBOUR: 'it returns false'. Refute it at one input. -/
def shotSameWrong : ChangeSpec := { name := "shotSame", fn := fun _ => fun
  | [d] => { results := [.lit (.bool false)], args := [d] }
  | _ => none }
def ShotSameWrongFalsely : Prop := shotSameRow.holds Try.pinned (OpenSpec.ofChange shotSameWrong)

/-- 'stopcocklaw13.HardDoes': WHATEVER THE INPUT: true; the input reads as it did. -/
def hardDoesSpec : ChangeSpec := { name := "hardDoes", fn := fun _ => fun
  | [d1, d2] => { results := [.lit (.bool true)], args := [d1, d2] }
  | _ => none }
def hardDoesRow : OpenClaim := { program := "ytlkgmjhejocobaa", sum := "1b648e52726968b7f0768199a2564b759ac51facc6ac5856a62e8e6c42eb3a8a", func := "stopcock/stopcocklaw13.HardDoes", spec := "hardDoes", apart := false }
def HardDoesSaid : Prop := hardDoesRow.holds Try.pinned (OpenSpec.ofChange hardDoesSpec)

/-- ITS FALSE NEIGHBOUR: 'it returns false'. Refute it at one input. -/
def hardDoesWrong : ChangeSpec := { name := "hardDoes", fn := fun _ => fun
  | [d1, d2] => { results := [.lit (.bool false)], args := [d1, d2] }
  | _ => none }
def HardDoesWrongFalsely : Prop := hardDoesRow.holds Try.pinned (OpenSpec.ofChange hardDoesWrong)

/-- 'stopcocklaw13.HardBase': WHATEVER THE INPUT: true; the input reads as it did. -/
def hardBaseSpec : ChangeSpec := { name := "hardBase", fn := fun _ => fun
  | [d] => { results := [.lit (.bool true)], args := [d] }
  | _ => none }
def hardBaseRow : OpenClaim := { program := "ytlkgmjhejocobaa", sum := "1b648e52726968b7f0768199a2564b759ac51facc6ac5856a62e8e6c42eb3a8a", func := "stopcock/stopcocklaw13.HardBase", spec := "hardBase", apart := false }
def HardBaseSaid : Prop := hardBaseRow.holds Try.pinned (OpenSpec.ofChange hardBaseSpec)

/-- ITS FALSE NEIGHBOUR: 'it returns false'. Refute it at one input. -/
def hardBaseWrong : ChangeSpec := { name := "hardBase", fn := fun _ => fun
  | [d] => { results := [.lit (.bool false)], args := [d] }
  | _ => none }
def HardBaseWrongFalsely : Prop := hardBaseRow.holds Try.pinned (OpenSpec.ofChange hardBaseWrong)

/-- 'stopcocklaw13.HardMakes': WHATEVER THE INPUT: true; the input reads as it did. -/
def hardMakesSpec : ChangeSpec := { name := "hardMakes", fn := fun _ => fun
  | [d] => { results := [.lit (.bool true)], args := [d] }
  | _ => none }
def hardMakesRow : OpenClaim := { program := "ytlkgmjhejocobaa", sum := "1b648e52726968b7f0768199a2564b759ac51facc6ac5856a62e8e6c42eb3a8a", func := "stopcock/stopcocklaw13.HardMakes", spec := "hardMakes", apart := false }
def HardMakesSaid : Prop := hardMakesRow.holds Try.pinned (OpenSpec.ofChange hardMakesSpec)

/-- ITS FALSE NEIGHBOUR: 'it returns false'. Refute it at one input. -/
def hardMakesWrong : ChangeSpec := { name := "hardMakes", fn := fun _ => fun
  | [d] => { results := [.lit (.bool false)], args := [d] }
  | _ => none }
def HardMakesWrongFalsely : Prop := hardMakesRow.holds Try.pinned (OpenSpec.ofChange hardMakesWrong)

/-- 'stopcocklaw13.HardRises': WHATEVER THE INPUT: true; the input reads as it did. -/
def hardRisesSpec : ChangeSpec := { name := "hardRises", fn := fun _ => fun
  | [d1, d2] => { results := [.lit (.bool true)], args := [d1, d2] }
  | _ => none }
def hardRisesRow : OpenClaim := { program := "ytlkgmjhejocobaa", sum := "1b648e52726968b7f0768199a2564b759ac51facc6ac5856a62e8e6c42eb3a8a", func := "stopcock/stopcocklaw13.HardRises", spec := "hardRises", apart := false }
def HardRisesSaid : Prop := hardRisesRow.holds Try.pinned (OpenSpec.ofChange hardRisesSpec)

/-- ITS FALSE NEIGHBOUR: 'it returns false'. Refute it at one input. -/
def hardRisesWrong : ChangeSpec := { name := "hardRises", fn := fun _ => fun
  | [d1, d2] => { results := [.lit (.bool false)], args := [d1, d2] }
  | _ => none }
def HardRisesWrongFalsely : Prop := hardRisesRow.holds Try.pinned (OpenSpec.ofChange hardRisesWrong)

/-- 'stopcocklaw15.RlogMerge': WHATEVER THE INPUT: true; the input reads as it did. -/
def rlogMergeSpec : ChangeSpec := { name := "rlogMerge", fn := fun _ => fun
  | [d1, d2] => { results := [.lit (.bool true)], args := [d1, d2] }
  | _ => none }
def rlogMergeRow : OpenClaim := { program := "ytlkgmjhejocobaa", sum := "1b648e52726968b7f0768199a2564b759ac51facc6ac5856a62e8e6c42eb3a8a", func := "stopcock/stopcocklaw15.RlogMerge", spec := "rlogMerge", apart := false }
def RlogMergeSaid : Prop := rlogMergeRow.holds Try.pinned (OpenSpec.ofChange rlogMergeSpec)

/-- ITS FALSE NEIGHBOUR: 'it returns false'. Refute it at one input. -/
def rlogMergeWrong : ChangeSpec := { name := "rlogMerge", fn := fun _ => fun
  | [d1, d2] => { results := [.lit (.bool false)], args := [d1, d2] }
  | _ => none }
def RlogMergeWrongFalsely : Prop := rlogMergeRow.holds Try.pinned (OpenSpec.ofChange rlogMergeWrong)

/-- 'stopcocklaw15.RlogAt': WHATEVER THE INPUT: true; the input reads as it did. -/
def rlogAtSpec : ChangeSpec := { name := "rlogAt", fn := fun _ => fun
  | [d1, d2] => { results := [.lit (.bool true)], args := [d1, d2] }
  | _ => none }
def rlogAtRow : OpenClaim := { program := "ytlkgmjhejocobaa", sum := "1b648e52726968b7f0768199a2564b759ac51facc6ac5856a62e8e6c42eb3a8a", func := "stopcock/stopcocklaw15.RlogAt", spec := "rlogAt", inPlace := ["slices.overlaps[stopcock/api.Held]", "slices.overlaps[stopcock/api.Last]"], unfollowed := true, recurses := true, apart := false }
def RlogAtSaid : Prop := rlogAtRow.holds Try.pinned (OpenSpec.ofChange rlogAtSpec)

/-- ITS FALSE NEIGHBOUR: 'it returns false'. Refute it at one input. -/
def rlogAtWrong : ChangeSpec := { name := "rlogAt", fn := fun _ => fun
  | [d1, d2] => { results := [.lit (.bool false)], args := [d1, d2] }
  | _ => none }
def RlogAtWrongFalsely : Prop := rlogAtRow.holds Try.pinned (OpenSpec.ofChange rlogAtWrong)

/-- 'stopcocklaw15.RlogFits': WHATEVER THE INPUT: true; the input reads as it did. -/
def rlogFitsSpec : ChangeSpec := { name := "rlogFits", fn := fun _ => fun
  | [d1, d2] => { results := [.lit (.bool true)], args := [d1, d2] }
  | _ => none }
def rlogFitsRow : OpenClaim := { program := "ytlkgmjhejocobaa", sum := "1b648e52726968b7f0768199a2564b759ac51facc6ac5856a62e8e6c42eb3a8a", func := "stopcock/stopcocklaw15.RlogFits", spec := "rlogFits", apart := false }
def RlogFitsSaid : Prop := rlogFitsRow.holds Try.pinned (OpenSpec.ofChange rlogFitsSpec)

/-- ITS FALSE NEIGHBOUR: 'it returns false'. Refute it at one input. -/
def rlogFitsWrong : ChangeSpec := { name := "rlogFits", fn := fun _ => fun
  | [d1, d2] => { results := [.lit (.bool false)], args := [d1, d2] }
  | _ => none }
def RlogFitsWrongFalsely : Prop := rlogFitsRow.holds Try.pinned (OpenSpec.ofChange rlogFitsWrong)

/-- 'stopcocklaw15.RlogShots': WHATEVER THE INPUT: true; the input reads as it did. -/
def rlogShotsSpec : ChangeSpec := { name := "rlogShots", fn := fun _ => fun
  | [d1, d2, d3] => { results := [.lit (.bool true)], args := [d1, d2, d3] }
  | _ => none }
def rlogShotsRow : OpenClaim := { program := "ytlkgmjhejocobaa", sum := "1b648e52726968b7f0768199a2564b759ac51facc6ac5856a62e8e6c42eb3a8a", func := "stopcock/stopcocklaw15.RlogShots", spec := "rlogShots", inPlace := ["slices.overlaps[stopcock/api.Held]", "slices.overlaps[stopcock/api.Last]"], unfollowed := true, recurses := true, apart := false }
def RlogShotsSaid : Prop := rlogShotsRow.holds Try.pinned (OpenSpec.ofChange rlogShotsSpec)

/-- ITS FALSE NEIGHBOUR: 'it returns false'. Refute it at one input. -/
def rlogShotsWrong : ChangeSpec := { name := "rlogShots", fn := fun _ => fun
  | [d1, d2, d3] => { results := [.lit (.bool false)], args := [d1, d2, d3] }
  | _ => none }
def RlogShotsWrongFalsely : Prop := rlogShotsRow.holds Try.pinned (OpenSpec.ofChange rlogShotsWrong)

/- THE SECOND FORM. 'bulk': how many values and letters a reading holds, each counted each time it is reached (what is shared counts as often as it is met; a slice's spare places count too). A statement '..UptoSaid' is the law's where the arguments, and the package variables that the reading takes, are together of bulk at most 1048576: NARROWER than '..Said'. Prove '..Said' where nothing that the law and all that it calls make is longer than what came in: it says more and counts as full. Else prove '..UptoSaid'. A law counts once. -/
mutual
def uptoBulk {H : Type} : DataW H → Nat
  | .lit (.string bytes) => bytes.length + 1
  | .lit _ => 1
  | .nil => 1
  | .ptr d => uptoBulk d + 1
  | .slice elems spare => uptoBulkAll elems + uptoBulkAll spare + 1
  | .agg parts => uptoBulkAll parts + 1
  | .iface _ d => uptoBulk d + 1
  | .map entries => uptoBulkEntries entries + 1
  | .held _ => 1
def uptoBulkAll {H : Type} : List (DataW H) → Nat
  | [] => 0
  | d :: r => uptoBulk d + uptoBulkAll r
def uptoBulkEntries {H : Type} : List (Lit × DataW H) → Nat
  | [] => 0
  | x :: r => uptoBulkEntry x + uptoBulkEntries r
def uptoBulkEntry {H : Type} : Lit × DataW H → Nat
  | (.string bytes, d) => bytes.length + uptoBulk d + 1
  | (_, d) => uptoBulk d + 1
 end
def uptoSmall : (H : Type) → List (DataW H) → Bool := fun _ ds => decide (uptoBulkAll ds ≤ 1048576)
def OpenSpec.upto (s : _root_.Go.ChangeSpec) : _root_.Go.OpenSpec := { _root_.Go.OpenSpec.ofChange s with cond := some uptoSmall }

/-- 'stopcocklaw06.ShotWrites', WHERE WHAT IT READS IS OF BULK AT MOST 1048576: true; the input reads as it did. -/
def shotWritesUptoRow : OpenClaim := { program := "ytlkgmjhejocobaa", sum := "1b648e52726968b7f0768199a2564b759ac51facc6ac5856a62e8e6c42eb3a8a", func := "stopcock/stopcocklaw06.ShotWrites", spec := "shotWrites", recurses := true, apart := false, narrowed := true }
def ShotWritesUptoSaid : Prop := shotWritesUptoRow.holds Try.pinned (OpenSpec.upto shotWritesSpec)

/-- 'stopcocklaw06.ShotReads', WHERE WHAT IT READS IS OF BULK AT MOST 1048576: true; the input reads as it did. -/
def shotReadsUptoRow : OpenClaim := { program := "ytlkgmjhejocobaa", sum := "1b648e52726968b7f0768199a2564b759ac51facc6ac5856a62e8e6c42eb3a8a", func := "stopcock/stopcocklaw06.ShotReads", spec := "shotReads", apart := false, narrowed := true }
def ShotReadsUptoSaid : Prop := shotReadsUptoRow.holds Try.pinned (OpenSpec.upto shotReadsSpec)

/-- 'stopcocklaw06.ShotBack', WHERE WHAT IT READS IS OF BULK AT MOST 1048576: true; the input reads as it did. -/
def shotBackUptoRow : OpenClaim := { program := "ytlkgmjhejocobaa", sum := "1b648e52726968b7f0768199a2564b759ac51facc6ac5856a62e8e6c42eb3a8a", func := "stopcock/stopcocklaw06.ShotBack", spec := "shotBack", apart := false, narrowed := true }
def ShotBackUptoSaid : Prop := shotBackUptoRow.holds Try.pinned (OpenSpec.upto shotBackSpec)

/-- 'stopcocklaw06.ShotSame', WHERE WHAT IT READS IS OF BULK AT MOST 1048576: true; the input reads as it did. -/
def shotSameUptoRow : OpenClaim := { program := "ytlkgmjhejocobaa", sum := "1b648e52726968b7f0768199a2564b759ac51facc6ac5856a62e8e6c42eb3a8a", func := "stopcock/stopcocklaw06.ShotSame", spec := "shotSame", apart := false, narrowed := true }
def ShotSameUptoSaid : Prop := shotSameUptoRow.holds Try.pinned (OpenSpec.upto shotSameSpec)

/-- 'stopcocklaw13.HardDoes', WHERE WHAT IT READS IS OF BULK AT MOST 1048576: true; the input reads as it did. -/
def hardDoesUptoRow : OpenClaim := { program := "ytlkgmjhejocobaa", sum := "1b648e52726968b7f0768199a2564b759ac51facc6ac5856a62e8e6c42eb3a8a", func := "stopcock/stopcocklaw13.HardDoes", spec := "hardDoes", apart := false, narrowed := true }
def HardDoesUptoSaid : Prop := hardDoesUptoRow.holds Try.pinned (OpenSpec.upto hardDoesSpec)

/-- 'stopcocklaw13.HardBase', WHERE WHAT IT READS IS OF BULK AT MOST 1048576: true; the input reads as it did. -/
def hardBaseUptoRow : OpenClaim := { program := "ytlkgmjhejocobaa", sum := "1b648e52726968b7f0768199a2564b759ac51facc6ac5856a62e8e6c42eb3a8a", func := "stopcock/stopcocklaw13.HardBase", spec := "hardBase", apart := false, narrowed := true }
def HardBaseUptoSaid : Prop := hardBaseUptoRow.holds Try.pinned (OpenSpec.upto hardBaseSpec)

/-- 'stopcocklaw13.HardMakes', WHERE WHAT IT READS IS OF BULK AT MOST 1048576: true; the input reads as it did. -/
def hardMakesUptoRow : OpenClaim := { program := "ytlkgmjhejocobaa", sum := "1b648e52726968b7f0768199a2564b759ac51facc6ac5856a62e8e6c42eb3a8a", func := "stopcock/stopcocklaw13.HardMakes", spec := "hardMakes", apart := false, narrowed := true }
def HardMakesUptoSaid : Prop := hardMakesUptoRow.holds Try.pinned (OpenSpec.upto hardMakesSpec)

/-- 'stopcocklaw13.HardRises', WHERE WHAT IT READS IS OF BULK AT MOST 1048576: true; the input reads as it did. -/
def hardRisesUptoRow : OpenClaim := { program := "ytlkgmjhejocobaa", sum := "1b648e52726968b7f0768199a2564b759ac51facc6ac5856a62e8e6c42eb3a8a", func := "stopcock/stopcocklaw13.HardRises", spec := "hardRises", apart := false, narrowed := true }
def HardRisesUptoSaid : Prop := hardRisesUptoRow.holds Try.pinned (OpenSpec.upto hardRisesSpec)

/-- 'stopcocklaw15.RlogMerge', WHERE WHAT IT READS IS OF BULK AT MOST 1048576: true; the input reads as it did. -/
def rlogMergeUptoRow : OpenClaim := { program := "ytlkgmjhejocobaa", sum := "1b648e52726968b7f0768199a2564b759ac51facc6ac5856a62e8e6c42eb3a8a", func := "stopcock/stopcocklaw15.RlogMerge", spec := "rlogMerge", apart := false, narrowed := true }
def RlogMergeUptoSaid : Prop := rlogMergeUptoRow.holds Try.pinned (OpenSpec.upto rlogMergeSpec)

/-- 'stopcocklaw15.RlogAt', WHERE WHAT IT READS IS OF BULK AT MOST 1048576: true; the input reads as it did. -/
def rlogAtUptoRow : OpenClaim := { program := "ytlkgmjhejocobaa", sum := "1b648e52726968b7f0768199a2564b759ac51facc6ac5856a62e8e6c42eb3a8a", func := "stopcock/stopcocklaw15.RlogAt", spec := "rlogAt", inPlace := ["slices.overlaps[stopcock/api.Held]", "slices.overlaps[stopcock/api.Last]"], unfollowed := true, recurses := true, apart := false, narrowed := true }
def RlogAtUptoSaid : Prop := rlogAtUptoRow.holds Try.pinned (OpenSpec.upto rlogAtSpec)

/-- 'stopcocklaw15.RlogFits', WHERE WHAT IT READS IS OF BULK AT MOST 1048576: true; the input reads as it did. -/
def rlogFitsUptoRow : OpenClaim := { program := "ytlkgmjhejocobaa", sum := "1b648e52726968b7f0768199a2564b759ac51facc6ac5856a62e8e6c42eb3a8a", func := "stopcock/stopcocklaw15.RlogFits", spec := "rlogFits", apart := false, narrowed := true }
def RlogFitsUptoSaid : Prop := rlogFitsUptoRow.holds Try.pinned (OpenSpec.upto rlogFitsSpec)

/-- 'stopcocklaw15.RlogShots', WHERE WHAT IT READS IS OF BULK AT MOST 1048576: true; the input reads as it did. -/
def rlogShotsUptoRow : OpenClaim := { program := "ytlkgmjhejocobaa", sum := "1b648e52726968b7f0768199a2564b759ac51facc6ac5856a62e8e6c42eb3a8a", func := "stopcock/stopcocklaw15.RlogShots", spec := "rlogShots", inPlace := ["slices.overlaps[stopcock/api.Held]", "slices.overlaps[stopcock/api.Last]"], unfollowed := true, recurses := true, apart := false, narrowed := true }
def RlogShotsUptoSaid : Prop := rlogShotsUptoRow.holds Try.pinned (OpenSpec.upto rlogShotsSpec)

end Rows
end Go.Proofs.Ytlkgmjhejocobaa
