/-
  DERIVED. GIVEN WITH THE SEED: THE CARDS: each row of YtbhondjfilohdaaGreatDoorRows.lean that lists a variable, with what it lists TIED to the program's text (the seventh form; the later family's looks); each row that meets fmt, with fmt's text TOLD by the authors' own Lean function (tested against real Go, not proved from fmt's source: count such statements apart). THE CARD IS WHAT COUNTS. Prove the row's statement (the work); the ties are given (YtbhondjfilohdaaGreatDoorTie.lean); close each card by the builder's one call (the guide's Derived/Test/ToyasCard.lean, 'card_holds'). Laid BY PROGRAM, IN A SANDBOX (cutbox-door.mjs). By AI agents, Wed Nov 11 2026. No macro, syntax, notation, axiom, sorry.
-/
import Derived.Test.YtbhondjfilohdaaGreatDoorRows
import GoSem.ClaimSeven
namespace Go.Proofs.YtbhondjfilohdaaGreatDoor
namespace Rows

/-- THE TIED CARD OF 'hurdlelaw11.DenoteJudges'. -/
def denoteJudgesCard : Claim7 := { stood := { row := denoteJudgesRow, standIns := [], harness := (true, "539560e5f60460cfe1cffbdde235423e57ab8b3f3713b432f087af1a8f7a63f1"), looks := false }, kinds := [], alts := [], laidByText := true, laidKinds := [.data, .data, .data, .data, .pinned], laidTests := true, laidLooks := .later }
def DenoteJudgesCardSaid : Prop := Claim7.holds Tryz.pinned (.plain (OpenSpec.ofChange denoteJudgesSpec)) denoteJudgesCard

/-- THE SECOND FORM's CARD OF 'hurdlelaw11.DenoteJudges'. -/
def denoteJudgesUptoCard : Claim7 := { stood := { row := denoteJudgesUptoRow, standIns := [], harness := (true, "539560e5f60460cfe1cffbdde235423e57ab8b3f3713b432f087af1a8f7a63f1"), looks := false }, kinds := [], alts := [], laidByText := true, laidKinds := [.data, .data, .data, .data, .pinned], laidTests := true, laidLooks := .later }
def DenoteJudgesUptoCardSaid : Prop := Claim7.holds Tryz.pinned (.plain (OpenSpec.upto denoteJudgesSpec)) denoteJudgesUptoCard
end Rows
end Go.Proofs.YtbhondjfilohdaaGreatDoor
