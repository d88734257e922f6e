/-
  DERIVED. GIVEN WITH THE SEED: THE CARDS: each row of YtlfaiemebfkajaaGreatDoorRows.lean that lists a variable, with what it lists TIED to the program's text (the seventh form; the later family's looks); each row that meets fmt, with fmt's text TOLD by the authors' own Lean function (tested against real Go, not proved from fmt's source: count such statements apart). THE CARD IS WHAT COUNTS. Prove the row's statement (the work); the ties are given (YtlfaiemebfkajaaGreatDoorTie.lean); close each card by the builder's one call (the guide's Derived/Test/ToyasCard.lean, 'card_holds'). Laid BY PROGRAM, IN A SANDBOX (cutbox-door.mjs). By AI agents, Wed Nov 11 2026. No macro, syntax, notation, axiom, sorry.
-/
import Derived.Test.YtlfaiemebfkajaaGreatDoorRows
import GoSem.ClaimSeven
namespace Go.Proofs.YtlfaiemebfkajaaGreatDoor
namespace Rows

/-- THE TIED CARD OF 'stopcocklaw08.MsgReads'. -/
def msgReadsCard : Claim7 := { stood := { row := msgReadsRow, standIns := [], harness := (true, "3975068f231a234e289f98e08dc2f6b417c1096e3c1b647a660a9dc4351351e6"), looks := false }, kinds := [], alts := [], laidByText := true, laidKinds := [.data], laidTests := true, laidLooks := .later }
def MsgReadsCardSaid : Prop := Claim7.holds Tryz.pinned (.plain (OpenSpec.ofChange msgReadsSpec)) msgReadsCard

/-- THE TIED CARD OF 'stopcocklaw08.MsgBodies'. -/
def msgBodiesCard : Claim7 := { stood := { row := msgBodiesRow, standIns := [], harness := (true, "3975068f231a234e289f98e08dc2f6b417c1096e3c1b647a660a9dc4351351e6"), looks := false }, kinds := [], alts := [], laidByText := true, laidKinds := [.data], laidTests := true, laidLooks := .later }
def MsgBodiesCardSaid : Prop := Claim7.holds Tryz.pinned (.plain (OpenSpec.ofChange msgBodiesSpec)) msgBodiesCard

/-- THE SECOND FORM's CARD OF 'stopcocklaw08.MsgReads'. -/
def msgReadsUptoCard : Claim7 := { stood := { row := msgReadsUptoRow, standIns := [], harness := (true, "3975068f231a234e289f98e08dc2f6b417c1096e3c1b647a660a9dc4351351e6"), looks := false }, kinds := [], alts := [], laidByText := true, laidKinds := [.data], laidTests := true, laidLooks := .later }
def MsgReadsUptoCardSaid : Prop := Claim7.holds Tryz.pinned (.plain (OpenSpec.upto msgReadsSpec)) msgReadsUptoCard

/-- THE SECOND FORM's CARD OF 'stopcocklaw08.MsgBodies'. -/
def msgBodiesUptoCard : Claim7 := { stood := { row := msgBodiesUptoRow, standIns := [], harness := (true, "3975068f231a234e289f98e08dc2f6b417c1096e3c1b647a660a9dc4351351e6"), looks := false }, kinds := [], alts := [], laidByText := true, laidKinds := [.data], laidTests := true, laidLooks := .later }
def MsgBodiesUptoCardSaid : Prop := Claim7.holds Tryz.pinned (.plain (OpenSpec.upto msgBodiesSpec)) msgBodiesUptoCard
end Rows
end Go.Proofs.YtlfaiemebfkajaaGreatDoor
