/-
  DERIVED. GIVEN WITH THE SEED: THE CARDS: each row of YtmiflelmblnkaaaDoorRows.lean that lists a variable, with what it lists TIED to the program's text (the seventh form; the later family's looks); each row that meets fmt, with fmt's text TOLD by the authors' own Lean function (tested against real Go, not proved from fmt's source: count such statements apart). THE CARD IS WHAT COUNTS. Prove the row's statement (the work); the ties are given (YtmiflelmblnkaaaDoorTie.lean); close each card by the builder's one call (the guide's Derived/Test/ToyasCard.lean, 'card_holds'). Laid BY PROGRAM, IN A SANDBOX (cutbox-door.mjs). By AI agents, Wed Nov 11 2026. No macro, syntax, notation, axiom, sorry.
-/
import Derived.Test.YtmiflelmblnkaaaDoorRows
import GoSem.ClaimSeven
namespace Go.Proofs.YtmiflelmblnkaaaDoor
namespace Rows

/-- THE TIED CARD OF 'hurdlelaw05.CheckTells'. -/
def checkTellsCard : Claim7 := { stood := { row := checkTellsRow, standIns := [], harness := (true, "f9a4bbabe7a2034b3e505ecf35c1c66a0db6f65b14845968c241170125a3bb93"), looks := false }, kinds := [], alts := [], laidByText := true, laidKinds := [.data], laidTests := true, laidLooks := .later }
def CheckTellsCardSaid : Prop := Claim7.holds Tryd.pinned (.plain (OpenSpec.ofChange checkTellsSpec)) checkTellsCard

/-- THE TIED CARD OF 'hurdlelaw05.CheckNext'. -/
def checkNextCard : Claim7 := { stood := { row := checkNextRow, standIns := [], harness := (true, "f9a4bbabe7a2034b3e505ecf35c1c66a0db6f65b14845968c241170125a3bb93"), looks := false }, kinds := [], alts := [], laidByText := true, laidKinds := [.data], laidTests := true, laidLooks := .later }
def CheckNextCardSaid : Prop := Claim7.holds Tryd.pinned (.plain (OpenSpec.ofChange checkNextSpec)) checkNextCard

/-- THE TIED CARD OF 'hurdlelaw05.CheckForward'. -/
def checkForwardCard : Claim7 := { stood := { row := checkForwardRow, standIns := [], harness := (true, "f9a4bbabe7a2034b3e505ecf35c1c66a0db6f65b14845968c241170125a3bb93"), looks := false }, kinds := [], alts := [], laidByText := true, laidKinds := [.data], laidTests := true, laidLooks := .later }
def CheckForwardCardSaid : Prop := Claim7.holds Tryd.pinned (.plain (OpenSpec.ofChange checkForwardSpec)) checkForwardCard

/-- THE TIED CARD OF 'hurdlelaw05.CheckBytes'. -/
def checkBytesCard : Claim7 := { stood := { row := checkBytesRow, standIns := [], harness := (true, "f9a4bbabe7a2034b3e505ecf35c1c66a0db6f65b14845968c241170125a3bb93"), looks := false }, kinds := [], alts := [], laidByText := true, laidKinds := [.data, .data, .data, .data], laidTests := true, laidLooks := .later }
def CheckBytesCardSaid : Prop := Claim7.holds Tryd.pinned (.plain (OpenSpec.ofChange checkBytesSpec)) checkBytesCard

/-- THE TIED CARD OF 'hurdlelaw05.CheckBehind'. -/
def checkBehindCard : Claim7 := { stood := { row := checkBehindRow, standIns := [], harness := (true, "f9a4bbabe7a2034b3e505ecf35c1c66a0db6f65b14845968c241170125a3bb93"), looks := false }, kinds := [], alts := [], laidByText := true, laidKinds := [.data], laidTests := true, laidLooks := .later }
def CheckBehindCardSaid : Prop := Claim7.holds Tryd.pinned (.plain (OpenSpec.ofChange checkBehindSpec)) checkBehindCard

/-- THE TIED CARD OF 'hurdlelaw05.CheckAhead'. -/
def checkAheadCard : Claim7 := { stood := { row := checkAheadRow, standIns := [], harness := (true, "f9a4bbabe7a2034b3e505ecf35c1c66a0db6f65b14845968c241170125a3bb93"), looks := false }, kinds := [], alts := [], laidByText := true, laidKinds := [.data], laidTests := true, laidLooks := .later }
def CheckAheadCardSaid : Prop := Claim7.holds Tryd.pinned (.plain (OpenSpec.ofChange checkAheadSpec)) checkAheadCard

/-- THE TIED CARD OF 'hurdlelaw05.CheckPlaces'. -/
def checkPlacesCard : Claim7 := { stood := { row := checkPlacesRow, standIns := [], harness := (true, "f9a4bbabe7a2034b3e505ecf35c1c66a0db6f65b14845968c241170125a3bb93"), looks := false }, kinds := [], alts := [], laidByText := true, laidKinds := [.data], laidTests := true, laidLooks := .later }
def CheckPlacesCardSaid : Prop := Claim7.holds Tryd.pinned (.plain (OpenSpec.ofChange checkPlacesSpec)) checkPlacesCard

/-- THE SECOND FORM's CARD OF 'hurdlelaw05.CheckTells'. -/
def checkTellsUptoCard : Claim7 := { stood := { row := checkTellsUptoRow, standIns := [], harness := (true, "f9a4bbabe7a2034b3e505ecf35c1c66a0db6f65b14845968c241170125a3bb93"), looks := false }, kinds := [], alts := [], laidByText := true, laidKinds := [.data], laidTests := true, laidLooks := .later }
def CheckTellsUptoCardSaid : Prop := Claim7.holds Tryd.pinned (.plain (OpenSpec.upto checkTellsSpec)) checkTellsUptoCard

/-- THE SECOND FORM's CARD OF 'hurdlelaw05.CheckNext'. -/
def checkNextUptoCard : Claim7 := { stood := { row := checkNextUptoRow, standIns := [], harness := (true, "f9a4bbabe7a2034b3e505ecf35c1c66a0db6f65b14845968c241170125a3bb93"), looks := false }, kinds := [], alts := [], laidByText := true, laidKinds := [.data], laidTests := true, laidLooks := .later }
def CheckNextUptoCardSaid : Prop := Claim7.holds Tryd.pinned (.plain (OpenSpec.upto checkNextSpec)) checkNextUptoCard

/-- THE SECOND FORM's CARD OF 'hurdlelaw05.CheckForward'. -/
def checkForwardUptoCard : Claim7 := { stood := { row := checkForwardUptoRow, standIns := [], harness := (true, "f9a4bbabe7a2034b3e505ecf35c1c66a0db6f65b14845968c241170125a3bb93"), looks := false }, kinds := [], alts := [], laidByText := true, laidKinds := [.data], laidTests := true, laidLooks := .later }
def CheckForwardUptoCardSaid : Prop := Claim7.holds Tryd.pinned (.plain (OpenSpec.upto checkForwardSpec)) checkForwardUptoCard

/-- THE SECOND FORM's CARD OF 'hurdlelaw05.CheckBytes'. -/
def checkBytesUptoCard : Claim7 := { stood := { row := checkBytesUptoRow, standIns := [], harness := (true, "f9a4bbabe7a2034b3e505ecf35c1c66a0db6f65b14845968c241170125a3bb93"), looks := false }, kinds := [], alts := [], laidByText := true, laidKinds := [.data, .data, .data, .data], laidTests := true, laidLooks := .later }
def CheckBytesUptoCardSaid : Prop := Claim7.holds Tryd.pinned (.plain (OpenSpec.upto checkBytesSpec)) checkBytesUptoCard

/-- THE SECOND FORM's CARD OF 'hurdlelaw05.CheckBehind'. -/
def checkBehindUptoCard : Claim7 := { stood := { row := checkBehindUptoRow, standIns := [], harness := (true, "f9a4bbabe7a2034b3e505ecf35c1c66a0db6f65b14845968c241170125a3bb93"), looks := false }, kinds := [], alts := [], laidByText := true, laidKinds := [.data], laidTests := true, laidLooks := .later }
def CheckBehindUptoCardSaid : Prop := Claim7.holds Tryd.pinned (.plain (OpenSpec.upto checkBehindSpec)) checkBehindUptoCard

/-- THE SECOND FORM's CARD OF 'hurdlelaw05.CheckAhead'. -/
def checkAheadUptoCard : Claim7 := { stood := { row := checkAheadUptoRow, standIns := [], harness := (true, "f9a4bbabe7a2034b3e505ecf35c1c66a0db6f65b14845968c241170125a3bb93"), looks := false }, kinds := [], alts := [], laidByText := true, laidKinds := [.data], laidTests := true, laidLooks := .later }
def CheckAheadUptoCardSaid : Prop := Claim7.holds Tryd.pinned (.plain (OpenSpec.upto checkAheadSpec)) checkAheadUptoCard

/-- THE SECOND FORM's CARD OF 'hurdlelaw05.CheckPlaces'. -/
def checkPlacesUptoCard : Claim7 := { stood := { row := checkPlacesUptoRow, standIns := [], harness := (true, "f9a4bbabe7a2034b3e505ecf35c1c66a0db6f65b14845968c241170125a3bb93"), looks := false }, kinds := [], alts := [], laidByText := true, laidKinds := [.data], laidTests := true, laidLooks := .later }
def CheckPlacesUptoCardSaid : Prop := Claim7.holds Tryd.pinned (.plain (OpenSpec.upto checkPlacesSpec)) checkPlacesUptoCard
end Rows
end Go.Proofs.YtmiflelmblnkaaaDoor
