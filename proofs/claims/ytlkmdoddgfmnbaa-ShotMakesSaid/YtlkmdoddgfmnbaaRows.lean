/-
  No cell of these rows narrows 'for every input' (looked for: loops, veiled, ifaces, maps, wideKeys, modest, calm, conditions, laid).
  DERIVED. THE GIVEN ROWS OF THIS SEAT. 12 by the template 'for every input the law returns true; each argument reads behind the call as it read before'; 0 by the template 'total and deterministic' (their statements: YtlkmdoddgfmnbaaTotals.lean).
  GIVEN WITH THE SEED: the statements are not yours to turn. If you find one false, say at which input.
  Laid BY PROGRAM, IN A SANDBOX (cutbox-rows.mjs): the forced cells as the released guide's own fill.sh prints them over the translation 05f6d0bb19759dec… (all of the seat's roots in one cut). By AI agents, Wed Nov 11 2026. No macro, syntax, notation, axiom, sorry.
-/
import Derived.Test.YtlkmdoddgfmnbaaChecked
import GoSem.Claim
import GoSem.ClaimJoined
import GoSem.ClaimMapViews
import Derived.JoinedTies
import Derived.KernelRfl
namespace Go.Proofs.Ytlkmdoddgfmnbaa
/- THE CELL 'sum', in the pinned program and in every row, IS THE sha256 OF THE DUMP (.gsa) THAT YtlkmdoddgfmnbaaProg.lean LOADS. Nothing in Lean hashes anything: it is a label: what it is worth is what the hold of that sum in a sandbox is worth. -/
noncomputable def Try.pinned : Pinned := { name := "ytlkmdoddgfmnbaa", sum := "05f6d0bb19759decff3c19f2b93547c2762e511185e29473b9c9b2ae8c51b820", checked := Try.checked }
namespace Rows
def none {H : Type} : Left H := { results := [], args := [] }

/-- 'stopcocklaw05.LedgerApplies': WHATEVER THE INPUT: true; the input reads as it did. -/
def ledgerAppliesSpec : ChangeSpec := { name := "ledgerApplies", fn := fun _ => fun
  | [d1, d2, d3] => { results := [.lit (.bool true)], args := [d1, d2, d3] }
  | _ => none }
def ledgerAppliesRow : OpenClaim := { program := "ytlkmdoddgfmnbaa", sum := "05f6d0bb19759decff3c19f2b93547c2762e511185e29473b9c9b2ae8c51b820", func := "stopcock/stopcocklaw05.LedgerApplies", spec := "ledgerApplies", inPlace := ["slices.overlaps[stopcock/api.Held]", "slices.overlaps[stopcock/api.Last]"], unfollowed := true, recurses := true, apart := false }
def LedgerAppliesSaid : Prop := ledgerAppliesRow.holds Try.pinned (OpenSpec.ofChange ledgerAppliesSpec)

/-- ITS FALSE NEIGHBOUR: 'it returns false'. Refute it at one input. -/
def ledgerAppliesWrong : ChangeSpec := { name := "ledgerApplies", fn := fun _ => fun
  | [d1, d2, d3] => { results := [.lit (.bool false)], args := [d1, d2, d3] }
  | _ => none }
def LedgerAppliesWrongFalsely : Prop := ledgerAppliesRow.holds Try.pinned (OpenSpec.ofChange ledgerAppliesWrong)

/-- 'stopcocklaw05.LedgerKeeps': WHATEVER THE INPUT: true; the input reads as it did. -/
def ledgerKeepsSpec : ChangeSpec := { name := "ledgerKeeps", fn := fun _ => fun
  | [d1, d2] => { results := [.lit (.bool true)], args := [d1, d2] }
  | _ => none }
def ledgerKeepsRow : OpenClaim := { program := "ytlkmdoddgfmnbaa", sum := "05f6d0bb19759decff3c19f2b93547c2762e511185e29473b9c9b2ae8c51b820", func := "stopcock/stopcocklaw05.LedgerKeeps", spec := "ledgerKeeps", inPlace := ["slices.overlaps[stopcock/api.Held]", "slices.overlaps[stopcock/api.Last]"], unfollowed := true, recurses := true, apart := false }
def LedgerKeepsSaid : Prop := ledgerKeepsRow.holds Try.pinned (OpenSpec.ofChange ledgerKeepsSpec)

/-- ITS FALSE NEIGHBOUR: 'it returns false'. Refute it at one input. -/
def ledgerKeepsWrong : ChangeSpec := { name := "ledgerKeeps", fn := fun _ => fun
  | [d1, d2] => { results := [.lit (.bool false)], args := [d1, d2] }
  | _ => none }
def LedgerKeepsWrongFalsely : Prop := ledgerKeepsRow.holds Try.pinned (OpenSpec.ofChange ledgerKeepsWrong)

/-- 'stopcocklaw05.LedgerOnce': WHATEVER THE INPUT: true; the input reads as it did. -/
def ledgerOnceSpec : ChangeSpec := { name := "ledgerOnce", fn := fun _ => fun
  | [d1, d2, d3, d4, d5] => { results := [.lit (.bool true)], args := [d1, d2, d3, d4, d5] }
  | _ => none }
def ledgerOnceRow : OpenClaim := { program := "ytlkmdoddgfmnbaa", sum := "05f6d0bb19759decff3c19f2b93547c2762e511185e29473b9c9b2ae8c51b820", func := "stopcock/stopcocklaw05.LedgerOnce", spec := "ledgerOnce", inPlace := ["slices.overlaps[stopcock/api.Held]", "slices.overlaps[stopcock/api.Last]"], unfollowed := true, recurses := true, apart := false }
def LedgerOnceSaid : Prop := ledgerOnceRow.holds Try.pinned (OpenSpec.ofChange ledgerOnceSpec)

/-- ITS FALSE NEIGHBOUR: 'it returns false'. Refute it at one input. -/
def ledgerOnceWrong : ChangeSpec := { name := "ledgerOnce", fn := fun _ => fun
  | [d1, d2, d3, d4, d5] => { results := [.lit (.bool false)], args := [d1, d2, d3, d4, d5] }
  | _ => none }
def LedgerOnceWrongFalsely : Prop := ledgerOnceRow.holds Try.pinned (OpenSpec.ofChange ledgerOnceWrong)

/-- 'stopcocklaw05.LedgerSerials': WHATEVER THE INPUT: true; the input reads as it did. -/
def ledgerSerialsSpec : ChangeSpec := { name := "ledgerSerials", fn := fun _ => fun
  | [d1, d2] => { results := [.lit (.bool true)], args := [d1, d2] }
  | _ => none }
def ledgerSerialsRow : OpenClaim := { program := "ytlkmdoddgfmnbaa", sum := "05f6d0bb19759decff3c19f2b93547c2762e511185e29473b9c9b2ae8c51b820", func := "stopcock/stopcocklaw05.LedgerSerials", spec := "ledgerSerials", inPlace := ["slices.overlaps[stopcock/api.Held]", "slices.overlaps[stopcock/api.Last]"], unfollowed := true, recurses := true, apart := false }
def LedgerSerialsSaid : Prop := ledgerSerialsRow.holds Try.pinned (OpenSpec.ofChange ledgerSerialsSpec)

/-- ITS FALSE NEIGHBOUR: 'it returns false'. Refute it at one input. -/
def ledgerSerialsWrong : ChangeSpec := { name := "ledgerSerials", fn := fun _ => fun
  | [d1, d2] => { results := [.lit (.bool false)], args := [d1, d2] }
  | _ => none }
def LedgerSerialsWrongFalsely : Prop := ledgerSerialsRow.holds Try.pinned (OpenSpec.ofChange ledgerSerialsWrong)

/-- 'stopcocklaw05.LedgerOthers': WHATEVER THE INPUT: true; the input reads as it did. -/
def ledgerOthersSpec : ChangeSpec := { name := "ledgerOthers", fn := fun _ => fun
  | [d1, d2, d3, d4] => { results := [.lit (.bool true)], args := [d1, d2, d3, d4] }
  | _ => none }
def ledgerOthersRow : OpenClaim := { program := "ytlkmdoddgfmnbaa", sum := "05f6d0bb19759decff3c19f2b93547c2762e511185e29473b9c9b2ae8c51b820", func := "stopcock/stopcocklaw05.LedgerOthers", spec := "ledgerOthers", inPlace := ["slices.overlaps[stopcock/api.Held]", "slices.overlaps[stopcock/api.Last]"], unfollowed := true, recurses := true, apart := false }
def LedgerOthersSaid : Prop := ledgerOthersRow.holds Try.pinned (OpenSpec.ofChange ledgerOthersSpec)

/-- ITS FALSE NEIGHBOUR: 'it returns false'. Refute it at one input. -/
def ledgerOthersWrong : ChangeSpec := { name := "ledgerOthers", fn := fun _ => fun
  | [d1, d2, d3, d4] => { results := [.lit (.bool false)], args := [d1, d2, d3, d4] }
  | _ => none }
def LedgerOthersWrongFalsely : Prop := ledgerOthersRow.holds Try.pinned (OpenSpec.ofChange ledgerOthersWrong)

/-- 'stopcocklaw06.ShotMakes': WHATEVER THE INPUT: true; the input reads as it did. -/
def shotMakesSpec : ChangeSpec := { name := "shotMakes", fn := fun _ => fun
  | [d1, d2] => { results := [.lit (.bool true)], args := [d1, d2] }
  | _ => none }
def shotMakesRow : OpenClaim := { program := "ytlkmdoddgfmnbaa", sum := "05f6d0bb19759decff3c19f2b93547c2762e511185e29473b9c9b2ae8c51b820", func := "stopcock/stopcocklaw06.ShotMakes", spec := "shotMakes", apart := false }
def ShotMakesSaid : Prop := shotMakesRow.holds Try.pinned (OpenSpec.ofChange shotMakesSpec)

/-- ITS FALSE NEIGHBOUR: 'it returns false'. Refute it at one input. -/
def shotMakesWrong : ChangeSpec := { name := "shotMakes", fn := fun _ => fun
  | [d1, d2] => { results := [.lit (.bool false)], args := [d1, d2] }
  | _ => none }
def ShotMakesWrongFalsely : Prop := shotMakesRow.holds Try.pinned (OpenSpec.ofChange shotMakesWrong)

/-- 'stopcocklaw13.HardDoes': WHATEVER THE INPUT: true; the input reads as it did. -/
def hardDoesSpec : ChangeSpec := { name := "hardDoes", fn := fun _ => fun
  | [d1, d2] => { results := [.lit (.bool true)], args := [d1, d2] }
  | _ => none }
def hardDoesRow : OpenClaim := { program := "ytlkmdoddgfmnbaa", sum := "05f6d0bb19759decff3c19f2b93547c2762e511185e29473b9c9b2ae8c51b820", func := "stopcock/stopcocklaw13.HardDoes", spec := "hardDoes", apart := false }
def HardDoesSaid : Prop := hardDoesRow.holds Try.pinned (OpenSpec.ofChange hardDoesSpec)

/-- ITS FALSE NEIGHBOUR: 'it returns false'. Refute it at one input. -/
def hardDoesWrong : ChangeSpec := { name := "hardDoes", fn := fun _ => fun
  | [d1, d2] => { results := [.lit (.bool false)], args := [d1, d2] }
  | _ => none }
def HardDoesWrongFalsely : Prop := hardDoesRow.holds Try.pinned (OpenSpec.ofChange hardDoesWrong)

/-- 'stopcocklaw13.HardBase': WHATEVER THE INPUT: true; the input reads as it did. -/
def hardBaseSpec : ChangeSpec := { name := "hardBase", fn := fun _ => fun
  | [d] => { results := [.lit (.bool true)], args := [d] }
  | _ => none }
def hardBaseRow : OpenClaim := { program := "ytlkmdoddgfmnbaa", sum := "05f6d0bb19759decff3c19f2b93547c2762e511185e29473b9c9b2ae8c51b820", func := "stopcock/stopcocklaw13.HardBase", spec := "hardBase", apart := false }
def HardBaseSaid : Prop := hardBaseRow.holds Try.pinned (OpenSpec.ofChange hardBaseSpec)

/-- ITS FALSE NEIGHBOUR: 'it returns false'. Refute it at one input. -/
def hardBaseWrong : ChangeSpec := { name := "hardBase", fn := fun _ => fun
  | [d] => { results := [.lit (.bool false)], args := [d] }
  | _ => none }
def HardBaseWrongFalsely : Prop := hardBaseRow.holds Try.pinned (OpenSpec.ofChange hardBaseWrong)

/-- 'stopcocklaw13.HardMakes': WHATEVER THE INPUT: true; the input reads as it did. -/
def hardMakesSpec : ChangeSpec := { name := "hardMakes", fn := fun _ => fun
  | [d] => { results := [.lit (.bool true)], args := [d] }
  | _ => none }
def hardMakesRow : OpenClaim := { program := "ytlkmdoddgfmnbaa", sum := "05f6d0bb19759decff3c19f2b93547c2762e511185e29473b9c9b2ae8c51b820", func := "stopcock/stopcocklaw13.HardMakes", spec := "hardMakes", apart := false }
def HardMakesSaid : Prop := hardMakesRow.holds Try.pinned (OpenSpec.ofChange hardMakesSpec)

/-- ITS FALSE NEIGHBOUR: 'it returns false'. Refute it at one input. -/
def hardMakesWrong : ChangeSpec := { name := "hardMakes", fn := fun _ => fun
  | [d] => { results := [.lit (.bool false)], args := [d] }
  | _ => none }
def HardMakesWrongFalsely : Prop := hardMakesRow.holds Try.pinned (OpenSpec.ofChange hardMakesWrong)

/-- 'stopcocklaw13.HardRises': WHATEVER THE INPUT: true; the input reads as it did. -/
def hardRisesSpec : ChangeSpec := { name := "hardRises", fn := fun _ => fun
  | [d1, d2] => { results := [.lit (.bool true)], args := [d1, d2] }
  | _ => none }
def hardRisesRow : OpenClaim := { program := "ytlkmdoddgfmnbaa", sum := "05f6d0bb19759decff3c19f2b93547c2762e511185e29473b9c9b2ae8c51b820", func := "stopcock/stopcocklaw13.HardRises", spec := "hardRises", apart := false }
def HardRisesSaid : Prop := hardRisesRow.holds Try.pinned (OpenSpec.ofChange hardRisesSpec)

/-- ITS FALSE NEIGHBOUR: 'it returns false'. Refute it at one input. -/
def hardRisesWrong : ChangeSpec := { name := "hardRises", fn := fun _ => fun
  | [d1, d2] => { results := [.lit (.bool false)], args := [d1, d2] }
  | _ => none }
def HardRisesWrongFalsely : Prop := hardRisesRow.holds Try.pinned (OpenSpec.ofChange hardRisesWrong)

/-- 'stopcocklaw15.RlogMerge': WHATEVER THE INPUT: true; the input reads as it did. -/
def rlogMergeSpec : ChangeSpec := { name := "rlogMerge", fn := fun _ => fun
  | [d1, d2] => { results := [.lit (.bool true)], args := [d1, d2] }
  | _ => none }
def rlogMergeRow : OpenClaim := { program := "ytlkmdoddgfmnbaa", sum := "05f6d0bb19759decff3c19f2b93547c2762e511185e29473b9c9b2ae8c51b820", func := "stopcock/stopcocklaw15.RlogMerge", spec := "rlogMerge", apart := false }
def RlogMergeSaid : Prop := rlogMergeRow.holds Try.pinned (OpenSpec.ofChange rlogMergeSpec)

/-- ITS FALSE NEIGHBOUR: 'it returns false'. Refute it at one input. -/
def rlogMergeWrong : ChangeSpec := { name := "rlogMerge", fn := fun _ => fun
  | [d1, d2] => { results := [.lit (.bool false)], args := [d1, d2] }
  | _ => none }
def RlogMergeWrongFalsely : Prop := rlogMergeRow.holds Try.pinned (OpenSpec.ofChange rlogMergeWrong)

/-- 'stopcocklaw15.RlogAt': WHATEVER THE INPUT: true; the input reads as it did. -/
def rlogAtSpec : ChangeSpec := { name := "rlogAt", fn := fun _ => fun
  | [d1, d2] => { results := [.lit (.bool true)], args := [d1, d2] }
  | _ => none }
def rlogAtRow : OpenClaim := { program := "ytlkmdoddgfmnbaa", sum := "05f6d0bb19759decff3c19f2b93547c2762e511185e29473b9c9b2ae8c51b820", func := "stopcock/stopcocklaw15.RlogAt", spec := "rlogAt", inPlace := ["slices.overlaps[stopcock/api.Held]", "slices.overlaps[stopcock/api.Last]"], unfollowed := true, recurses := true, apart := false }
def RlogAtSaid : Prop := rlogAtRow.holds Try.pinned (OpenSpec.ofChange rlogAtSpec)

/-- ITS FALSE NEIGHBOUR: 'it returns false'. Refute it at one input. -/
def rlogAtWrong : ChangeSpec := { name := "rlogAt", fn := fun _ => fun
  | [d1, d2] => { results := [.lit (.bool false)], args := [d1, d2] }
  | _ => none }
def RlogAtWrongFalsely : Prop := rlogAtRow.holds Try.pinned (OpenSpec.ofChange rlogAtWrong)

/- THE SECOND FORM. 'bulk': how many values and letters a reading holds, each counted each time it is reached (what is shared counts as often as it is met; a slice's spare places count too). A statement '..UptoSaid' is the law's where the arguments, and the package variables that the reading takes, are together of bulk at most 1048576: NARROWER than '..Said'. Prove '..Said' where nothing that the law and all that it calls make is longer than what came in: it says more and counts as full. Else prove '..UptoSaid'. A law counts once. -/
mutual
def uptoBulk {H : Type} : DataW H → Nat
  | .lit (.string bytes) => bytes.length + 1
  | .lit _ => 1
  | .nil => 1
  | .ptr d => uptoBulk d + 1
  | .slice elems spare => uptoBulkAll elems + uptoBulkAll spare + 1
  | .agg parts => uptoBulkAll parts + 1
  | .iface _ d => uptoBulk d + 1
  | .map entries => uptoBulkEntries entries + 1
  | .held _ => 1
def uptoBulkAll {H : Type} : List (DataW H) → Nat
  | [] => 0
  | d :: r => uptoBulk d + uptoBulkAll r
def uptoBulkEntries {H : Type} : List (Lit × DataW H) → Nat
  | [] => 0
  | x :: r => uptoBulkEntry x + uptoBulkEntries r
def uptoBulkEntry {H : Type} : Lit × DataW H → Nat
  | (.string bytes, d) => bytes.length + uptoBulk d + 1
  | (_, d) => uptoBulk d + 1
 end
def uptoSmall : (H : Type) → List (DataW H) → Bool := fun _ ds => decide (uptoBulkAll ds ≤ 1048576)
def OpenSpec.upto (s : _root_.Go.ChangeSpec) : _root_.Go.OpenSpec := { _root_.Go.OpenSpec.ofChange s with cond := some uptoSmall }

/-- 'stopcocklaw05.LedgerApplies', WHERE WHAT IT READS IS OF BULK AT MOST 1048576: true; the input reads as it did. -/
def ledgerAppliesUptoRow : OpenClaim := { program := "ytlkmdoddgfmnbaa", sum := "05f6d0bb19759decff3c19f2b93547c2762e511185e29473b9c9b2ae8c51b820", func := "stopcock/stopcocklaw05.LedgerApplies", spec := "ledgerApplies", inPlace := ["slices.overlaps[stopcock/api.Held]", "slices.overlaps[stopcock/api.Last]"], unfollowed := true, recurses := true, apart := false, narrowed := true }
def LedgerAppliesUptoSaid : Prop := ledgerAppliesUptoRow.holds Try.pinned (OpenSpec.upto ledgerAppliesSpec)

/-- 'stopcocklaw05.LedgerKeeps', WHERE WHAT IT READS IS OF BULK AT MOST 1048576: true; the input reads as it did. -/
def ledgerKeepsUptoRow : OpenClaim := { program := "ytlkmdoddgfmnbaa", sum := "05f6d0bb19759decff3c19f2b93547c2762e511185e29473b9c9b2ae8c51b820", func := "stopcock/stopcocklaw05.LedgerKeeps", spec := "ledgerKeeps", inPlace := ["slices.overlaps[stopcock/api.Held]", "slices.overlaps[stopcock/api.Last]"], unfollowed := true, recurses := true, apart := false, narrowed := true }
def LedgerKeepsUptoSaid : Prop := ledgerKeepsUptoRow.holds Try.pinned (OpenSpec.upto ledgerKeepsSpec)

/-- 'stopcocklaw05.LedgerOnce', WHERE WHAT IT READS IS OF BULK AT MOST 1048576: true; the input reads as it did. -/
def ledgerOnceUptoRow : OpenClaim := { program := "ytlkmdoddgfmnbaa", sum := "05f6d0bb19759decff3c19f2b93547c2762e511185e29473b9c9b2ae8c51b820", func := "stopcock/stopcocklaw05.LedgerOnce", spec := "ledgerOnce", inPlace := ["slices.overlaps[stopcock/api.Held]", "slices.overlaps[stopcock/api.Last]"], unfollowed := true, recurses := true, apart := false, narrowed := true }
def LedgerOnceUptoSaid : Prop := ledgerOnceUptoRow.holds Try.pinned (OpenSpec.upto ledgerOnceSpec)

/-- 'stopcocklaw05.LedgerSerials', WHERE WHAT IT READS IS OF BULK AT MOST 1048576: true; the input reads as it did. -/
def ledgerSerialsUptoRow : OpenClaim := { program := "ytlkmdoddgfmnbaa", sum := "05f6d0bb19759decff3c19f2b93547c2762e511185e29473b9c9b2ae8c51b820", func := "stopcock/stopcocklaw05.LedgerSerials", spec := "ledgerSerials", inPlace := ["slices.overlaps[stopcock/api.Held]", "slices.overlaps[stopcock/api.Last]"], unfollowed := true, recurses := true, apart := false, narrowed := true }
def LedgerSerialsUptoSaid : Prop := ledgerSerialsUptoRow.holds Try.pinned (OpenSpec.upto ledgerSerialsSpec)

/-- 'stopcocklaw05.LedgerOthers', WHERE WHAT IT READS IS OF BULK AT MOST 1048576: true; the input reads as it did. -/
def ledgerOthersUptoRow : OpenClaim := { program := "ytlkmdoddgfmnbaa", sum := "05f6d0bb19759decff3c19f2b93547c2762e511185e29473b9c9b2ae8c51b820", func := "stopcock/stopcocklaw05.LedgerOthers", spec := "ledgerOthers", inPlace := ["slices.overlaps[stopcock/api.Held]", "slices.overlaps[stopcock/api.Last]"], unfollowed := true, recurses := true, apart := false, narrowed := true }
def LedgerOthersUptoSaid : Prop := ledgerOthersUptoRow.holds Try.pinned (OpenSpec.upto ledgerOthersSpec)

/-- 'stopcocklaw06.ShotMakes', WHERE WHAT IT READS IS OF BULK AT MOST 1048576: true; the input reads as it did. -/
def shotMakesUptoRow : OpenClaim := { program := "ytlkmdoddgfmnbaa", sum := "05f6d0bb19759decff3c19f2b93547c2762e511185e29473b9c9b2ae8c51b820", func := "stopcock/stopcocklaw06.ShotMakes", spec := "shotMakes", apart := false, narrowed := true }
def ShotMakesUptoSaid : Prop := shotMakesUptoRow.holds Try.pinned (OpenSpec.upto shotMakesSpec)

/-- 'stopcocklaw13.HardDoes', WHERE WHAT IT READS IS OF BULK AT MOST 1048576: true; the input reads as it did. -/
def hardDoesUptoRow : OpenClaim := { program := "ytlkmdoddgfmnbaa", sum := "05f6d0bb19759decff3c19f2b93547c2762e511185e29473b9c9b2ae8c51b820", func := "stopcock/stopcocklaw13.HardDoes", spec := "hardDoes", apart := false, narrowed := true }
def HardDoesUptoSaid : Prop := hardDoesUptoRow.holds Try.pinned (OpenSpec.upto hardDoesSpec)

/-- 'stopcocklaw13.HardBase', WHERE WHAT IT READS IS OF BULK AT MOST 1048576: true; the input reads as it did. -/
def hardBaseUptoRow : OpenClaim := { program := "ytlkmdoddgfmnbaa", sum := "05f6d0bb19759decff3c19f2b93547c2762e511185e29473b9c9b2ae8c51b820", func := "stopcock/stopcocklaw13.HardBase", spec := "hardBase", apart := false, narrowed := true }
def HardBaseUptoSaid : Prop := hardBaseUptoRow.holds Try.pinned (OpenSpec.upto hardBaseSpec)

/-- 'stopcocklaw13.HardMakes', WHERE WHAT IT READS IS OF BULK AT MOST 1048576: true; the input reads as it did. -/
def hardMakesUptoRow : OpenClaim := { program := "ytlkmdoddgfmnbaa", sum := "05f6d0bb19759decff3c19f2b93547c2762e511185e29473b9c9b2ae8c51b820", func := "stopcock/stopcocklaw13.HardMakes", spec := "hardMakes", apart := false, narrowed := true }
def HardMakesUptoSaid : Prop := hardMakesUptoRow.holds Try.pinned (OpenSpec.upto hardMakesSpec)

/-- 'stopcocklaw13.HardRises', WHERE WHAT IT READS IS OF BULK AT MOST 1048576: true; the input reads as it did. -/
def hardRisesUptoRow : OpenClaim := { program := "ytlkmdoddgfmnbaa", sum := "05f6d0bb19759decff3c19f2b93547c2762e511185e29473b9c9b2ae8c51b820", func := "stopcock/stopcocklaw13.HardRises", spec := "hardRises", apart := false, narrowed := true }
def HardRisesUptoSaid : Prop := hardRisesUptoRow.holds Try.pinned (OpenSpec.upto hardRisesSpec)

/-- 'stopcocklaw15.RlogMerge', WHERE WHAT IT READS IS OF BULK AT MOST 1048576: true; the input reads as it did. -/
def rlogMergeUptoRow : OpenClaim := { program := "ytlkmdoddgfmnbaa", sum := "05f6d0bb19759decff3c19f2b93547c2762e511185e29473b9c9b2ae8c51b820", func := "stopcock/stopcocklaw15.RlogMerge", spec := "rlogMerge", apart := false, narrowed := true }
def RlogMergeUptoSaid : Prop := rlogMergeUptoRow.holds Try.pinned (OpenSpec.upto rlogMergeSpec)

/-- 'stopcocklaw15.RlogAt', WHERE WHAT IT READS IS OF BULK AT MOST 1048576: true; the input reads as it did. -/
def rlogAtUptoRow : OpenClaim := { program := "ytlkmdoddgfmnbaa", sum := "05f6d0bb19759decff3c19f2b93547c2762e511185e29473b9c9b2ae8c51b820", func := "stopcock/stopcocklaw15.RlogAt", spec := "rlogAt", inPlace := ["slices.overlaps[stopcock/api.Held]", "slices.overlaps[stopcock/api.Last]"], unfollowed := true, recurses := true, apart := false, narrowed := true }
def RlogAtUptoSaid : Prop := rlogAtUptoRow.holds Try.pinned (OpenSpec.upto rlogAtSpec)

end Rows
end Go.Proofs.Ytlkmdoddgfmnbaa
