/-
  DERIVED. GIVEN WITH THE SEED: THE CARDS: each row of YtdjjmcblhpjchaaDoorRows.lean that lists a variable, with what it lists TIED to the program's text (the seventh form; the later family's looks); each row that meets fmt, with fmt's text TOLD by the authors' own Lean function (tested against real Go, not proved from fmt's source: count such statements apart). THE CARD IS WHAT COUNTS. Prove the row's statement (the work); the ties are given (YtdjjmcblhpjchaaDoorTie.lean); close each card by the builder's one call (the guide's Derived/Test/ToyasCard.lean, 'card_holds'). Laid BY PROGRAM, IN A SANDBOX (cutbox-door.mjs). By AI agents, Wed Nov 11 2026. No macro, syntax, notation, axiom, sorry.
-/
import Derived.Test.YtdjjmcblhpjchaaDoorRows
import GoSem.ClaimSeven
namespace Go.Proofs.YtdjjmcblhpjchaaDoor
namespace Rows

/-- THE TIED CARD OF 'hurdlelaw10.PolicyBack'. -/
def policyBackCard : Claim7 := { stood := { row := policyBackRow, standIns := [], harness := (true, "ae1632f2fb114582be8bf5f4b14953a738d29096794ffc4f436c2ccf0e03ca49"), looks := false }, kinds := [], alts := [], laidByText := true, laidKinds := [.data, .data, .data, .data, .pinned], laidTests := true, laidLooks := .later }
def PolicyBackCardSaid : Prop := Claim7.holds Tryd.pinned (.plain (OpenSpec.ofChange policyBackSpec)) policyBackCard

/-- THE TIED CARD OF 'hurdlelaw10.PolicyOnly'. -/
def policyOnlyCard : Claim7 := { stood := { row := policyOnlyRow, standIns := [], harness := (true, "ae1632f2fb114582be8bf5f4b14953a738d29096794ffc4f436c2ccf0e03ca49"), looks := false }, kinds := [], alts := [], laidByText := true, laidKinds := [.data, .data, .data, .data, .pinned], laidTests := true, laidLooks := .later }
def PolicyOnlyCardSaid : Prop := Claim7.holds Tryd.pinned (.plain (OpenSpec.ofChange policyOnlySpec)) policyOnlyCard

/-- THE TIED CARD OF 'hurdlelaw10.PolicyPlaces'. -/
def policyPlacesCard : Claim7 := { stood := { row := policyPlacesRow, standIns := [], harness := (true, "ae1632f2fb114582be8bf5f4b14953a738d29096794ffc4f436c2ccf0e03ca49"), looks := false }, kinds := [], alts := [], laidByText := true, laidKinds := [.data, .data, .data, .data, .pinned], laidTests := true, laidLooks := .later }
def PolicyPlacesCardSaid : Prop := Claim7.holds Tryd.pinned (.plain (OpenSpec.ofChange policyPlacesSpec)) policyPlacesCard

/-- THE TIED CARD OF 'hurdlelaw10.PolicyCuts'. -/
def policyCutsCard : Claim7 := { stood := { row := policyCutsRow, standIns := [], harness := (true, "ae1632f2fb114582be8bf5f4b14953a738d29096794ffc4f436c2ccf0e03ca49"), looks := false }, kinds := [], alts := [], laidByText := true, laidKinds := [.data, .data, .data, .data, .pinned], laidTests := true, laidLooks := .later }
def PolicyCutsCardSaid : Prop := Claim7.holds Tryd.pinned (.plain (OpenSpec.ofChange policyCutsSpec)) policyCutsCard

/-- THE SECOND FORM's CARD OF 'hurdlelaw10.PolicyBack'. -/
def policyBackUptoCard : Claim7 := { stood := { row := policyBackUptoRow, standIns := [], harness := (true, "ae1632f2fb114582be8bf5f4b14953a738d29096794ffc4f436c2ccf0e03ca49"), looks := false }, kinds := [], alts := [], laidByText := true, laidKinds := [.data, .data, .data, .data, .pinned], laidTests := true, laidLooks := .later }
def PolicyBackUptoCardSaid : Prop := Claim7.holds Tryd.pinned (.plain (OpenSpec.upto policyBackSpec)) policyBackUptoCard

/-- THE SECOND FORM's CARD OF 'hurdlelaw10.PolicyOnly'. -/
def policyOnlyUptoCard : Claim7 := { stood := { row := policyOnlyUptoRow, standIns := [], harness := (true, "ae1632f2fb114582be8bf5f4b14953a738d29096794ffc4f436c2ccf0e03ca49"), looks := false }, kinds := [], alts := [], laidByText := true, laidKinds := [.data, .data, .data, .data, .pinned], laidTests := true, laidLooks := .later }
def PolicyOnlyUptoCardSaid : Prop := Claim7.holds Tryd.pinned (.plain (OpenSpec.upto policyOnlySpec)) policyOnlyUptoCard

/-- THE SECOND FORM's CARD OF 'hurdlelaw10.PolicyPlaces'. -/
def policyPlacesUptoCard : Claim7 := { stood := { row := policyPlacesUptoRow, standIns := [], harness := (true, "ae1632f2fb114582be8bf5f4b14953a738d29096794ffc4f436c2ccf0e03ca49"), looks := false }, kinds := [], alts := [], laidByText := true, laidKinds := [.data, .data, .data, .data, .pinned], laidTests := true, laidLooks := .later }
def PolicyPlacesUptoCardSaid : Prop := Claim7.holds Tryd.pinned (.plain (OpenSpec.upto policyPlacesSpec)) policyPlacesUptoCard

/-- THE SECOND FORM's CARD OF 'hurdlelaw10.PolicyCuts'. -/
def policyCutsUptoCard : Claim7 := { stood := { row := policyCutsUptoRow, standIns := [], harness := (true, "ae1632f2fb114582be8bf5f4b14953a738d29096794ffc4f436c2ccf0e03ca49"), looks := false }, kinds := [], alts := [], laidByText := true, laidKinds := [.data, .data, .data, .data, .pinned], laidTests := true, laidLooks := .later }
def PolicyCutsUptoCardSaid : Prop := Claim7.holds Tryd.pinned (.plain (OpenSpec.upto policyCutsSpec)) policyCutsUptoCard
end Rows
end Go.Proofs.YtdjjmcblhpjchaaDoor
