/-
  DERIVED. GIVEN WITH THE SEED: THE CARDS: each row of YtbdjihmgdkailaaDoorRows.lean that lists a variable, with what it lists TIED to the program's text (the seventh form; the later family's looks); each row that meets fmt, with fmt's text TOLD by the authors' own Lean function (tested against real Go, not proved from fmt's source: count such statements apart). THE CARD IS WHAT COUNTS. Prove the row's statement (the work); the ties are given (YtbdjihmgdkailaaDoorTie.lean); close each card by the builder's one call (the guide's Derived/Test/ToyasCard.lean, 'card_holds'). Laid BY PROGRAM, IN A SANDBOX (cutbox-door.mjs). By AI agents, Wed Nov 11 2026. No macro, syntax, notation, axiom, sorry.
-/
import Derived.Test.YtbdjihmgdkailaaDoorRows
import GoSem.ClaimSeven
namespace Go.Proofs.YtbdjihmgdkailaaDoor
namespace Rows

/-- THE TIED CARD OF 'stopcocklaw08.MsgWrites'. -/
def msgWritesCard : Claim7 := { stood := { row := msgWritesRow, standIns := [], harness := (true, "66793f788069a8523c236fa440f20238d04719891fd405345ba501e45cd97739"), looks := false }, kinds := [], alts := [], laidByText := true, laidKinds := [.data], laidTests := true, laidLooks := .later }
def MsgWritesCardSaid : Prop := Claim7.holds Tryd.pinned (.plain (OpenSpec.ofChange msgWritesSpec)) msgWritesCard

/-- THE TIED CARD OF 'stopcocklaw08.MsgBack'. -/
def msgBackCard : Claim7 := { stood := { row := msgBackRow, standIns := [], harness := (true, "66793f788069a8523c236fa440f20238d04719891fd405345ba501e45cd97739"), looks := false }, kinds := [], alts := [], laidByText := true, laidKinds := [.data], laidTests := true, laidLooks := .later }
def MsgBackCardSaid : Prop := Claim7.holds Tryd.pinned (.plain (OpenSpec.ofChange msgBackSpec)) msgBackCard

/-- THE TIED CARD OF 'stopcocklaw08.MsgSame'. -/
def msgSameCard : Claim7 := { stood := { row := msgSameRow, standIns := [], harness := (true, "66793f788069a8523c236fa440f20238d04719891fd405345ba501e45cd97739"), looks := false }, kinds := [], alts := [], laidByText := true, laidKinds := [.data], laidTests := true, laidLooks := .later }
def MsgSameCardSaid : Prop := Claim7.holds Tryd.pinned (.plain (OpenSpec.ofChange msgSameSpec)) msgSameCard

/-- THE TIED CARD OF 'stopcocklaw08.MsgBehind'. -/
def msgBehindCard : Claim7 := { stood := { row := msgBehindRow, standIns := [], harness := (true, "66793f788069a8523c236fa440f20238d04719891fd405345ba501e45cd97739"), looks := false }, kinds := [], alts := [], laidByText := true, laidKinds := [.data], laidTests := true, laidLooks := .later }
def MsgBehindCardSaid : Prop := Claim7.holds Tryd.pinned (.plain (OpenSpec.ofChange msgBehindSpec)) msgBehindCard

/-- THE SECOND FORM's CARD OF 'stopcocklaw08.MsgWrites'. -/
def msgWritesUptoCard : Claim7 := { stood := { row := msgWritesUptoRow, standIns := [], harness := (true, "66793f788069a8523c236fa440f20238d04719891fd405345ba501e45cd97739"), looks := false }, kinds := [], alts := [], laidByText := true, laidKinds := [.data], laidTests := true, laidLooks := .later }
def MsgWritesUptoCardSaid : Prop := Claim7.holds Tryd.pinned (.plain (OpenSpec.upto msgWritesSpec)) msgWritesUptoCard

/-- THE SECOND FORM's CARD OF 'stopcocklaw08.MsgBack'. -/
def msgBackUptoCard : Claim7 := { stood := { row := msgBackUptoRow, standIns := [], harness := (true, "66793f788069a8523c236fa440f20238d04719891fd405345ba501e45cd97739"), looks := false }, kinds := [], alts := [], laidByText := true, laidKinds := [.data], laidTests := true, laidLooks := .later }
def MsgBackUptoCardSaid : Prop := Claim7.holds Tryd.pinned (.plain (OpenSpec.upto msgBackSpec)) msgBackUptoCard

/-- THE SECOND FORM's CARD OF 'stopcocklaw08.MsgSame'. -/
def msgSameUptoCard : Claim7 := { stood := { row := msgSameUptoRow, standIns := [], harness := (true, "66793f788069a8523c236fa440f20238d04719891fd405345ba501e45cd97739"), looks := false }, kinds := [], alts := [], laidByText := true, laidKinds := [.data], laidTests := true, laidLooks := .later }
def MsgSameUptoCardSaid : Prop := Claim7.holds Tryd.pinned (.plain (OpenSpec.upto msgSameSpec)) msgSameUptoCard

/-- THE SECOND FORM's CARD OF 'stopcocklaw08.MsgBehind'. -/
def msgBehindUptoCard : Claim7 := { stood := { row := msgBehindUptoRow, standIns := [], harness := (true, "66793f788069a8523c236fa440f20238d04719891fd405345ba501e45cd97739"), looks := false }, kinds := [], alts := [], laidByText := true, laidKinds := [.data], laidTests := true, laidLooks := .later }
def MsgBehindUptoCardSaid : Prop := Claim7.holds Tryd.pinned (.plain (OpenSpec.upto msgBehindSpec)) msgBehindUptoCard
end Rows
end Go.Proofs.YtbdjihmgdkailaaDoor
