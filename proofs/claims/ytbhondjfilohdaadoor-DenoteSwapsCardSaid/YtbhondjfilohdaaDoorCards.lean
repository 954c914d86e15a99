/-
  DERIVED. GIVEN WITH THE SEED: THE CARDS: each row of YtbhondjfilohdaaDoorRows.lean that lists a variable, with what it lists TIED to the program's text (the seventh form; the later family's looks); each row that meets fmt, with fmt's text TOLD by the authors' own Lean function (tested against real Go, not proved from fmt's source: count such statements apart). THE CARD IS WHAT COUNTS. Prove the row's statement (the work); the ties are given (YtbhondjfilohdaaDoorTie.lean); close each card by the builder's one call (the guide's Derived/Test/ToyasCard.lean, 'card_holds'). Laid BY PROGRAM, IN A SANDBOX (cutbox-door.mjs). By AI agents, Wed Nov 11 2026. No macro, syntax, notation, axiom, sorry.
-/
import Derived.Test.YtbhondjfilohdaaDoorRows
import GoSem.ClaimSeven
namespace Go.Proofs.YtbhondjfilohdaaDoor
namespace Rows

/-- THE TIED CARD OF 'hurdlelaw11.DenoteShades'. -/
def denoteShadesCard : Claim7 := { stood := { row := denoteShadesRow, standIns := [], harness := (true, "656dbdcaee7b448301de987ae74e571a522e2e17b5a593d9f2d342d384f8b81c"), looks := false }, kinds := [], alts := [], laidByText := true, laidKinds := [.data, .data, .data, .data, .pinned], laidTests := true, laidLooks := .later }
def DenoteShadesCardSaid : Prop := Claim7.holds Tryd.pinned (.plain (OpenSpec.ofChange denoteShadesSpec)) denoteShadesCard

/-- THE TIED CARD OF 'hurdlelaw11.DenoteAhead'. -/
def denoteAheadCard : Claim7 := { stood := { row := denoteAheadRow, standIns := [], harness := (true, "656dbdcaee7b448301de987ae74e571a522e2e17b5a593d9f2d342d384f8b81c"), looks := false }, kinds := [], alts := [], laidByText := true, laidKinds := [.data, .data, .data, .data, .pinned], laidTests := true, laidLooks := .later }
def DenoteAheadCardSaid : Prop := Claim7.holds Tryd.pinned (.plain (OpenSpec.ofChange denoteAheadSpec)) denoteAheadCard

/-- THE TIED CARD OF 'hurdlelaw11.DenoteSwaps'. -/
def denoteSwapsCard : Claim7 := { stood := { row := denoteSwapsRow, standIns := [], harness := (true, "656dbdcaee7b448301de987ae74e571a522e2e17b5a593d9f2d342d384f8b81c"), looks := false }, kinds := [], alts := [], laidByText := true, laidKinds := [.data, .data, .data, .data, .pinned], laidTests := true, laidLooks := .later }
def DenoteSwapsCardSaid : Prop := Claim7.holds Tryd.pinned (.plain (OpenSpec.ofChange denoteSwapsSpec)) denoteSwapsCard

/-- THE TIED CARD OF 'hurdlelaw11.DenoteLast'. -/
def denoteLastCard : Claim7 := { stood := { row := denoteLastRow, standIns := [], harness := (true, "656dbdcaee7b448301de987ae74e571a522e2e17b5a593d9f2d342d384f8b81c"), looks := false }, kinds := [], alts := [], laidByText := true, laidKinds := [.data, .data, .data, .data, .pinned], laidTests := true, laidLooks := .later }
def DenoteLastCardSaid : Prop := Claim7.holds Tryd.pinned (.plain (OpenSpec.ofChange denoteLastSpec)) denoteLastCard

/-- THE SECOND FORM's CARD OF 'hurdlelaw11.DenoteShades'. -/
def denoteShadesUptoCard : Claim7 := { stood := { row := denoteShadesUptoRow, standIns := [], harness := (true, "656dbdcaee7b448301de987ae74e571a522e2e17b5a593d9f2d342d384f8b81c"), looks := false }, kinds := [], alts := [], laidByText := true, laidKinds := [.data, .data, .data, .data, .pinned], laidTests := true, laidLooks := .later }
def DenoteShadesUptoCardSaid : Prop := Claim7.holds Tryd.pinned (.plain (OpenSpec.upto denoteShadesSpec)) denoteShadesUptoCard

/-- THE SECOND FORM's CARD OF 'hurdlelaw11.DenoteAhead'. -/
def denoteAheadUptoCard : Claim7 := { stood := { row := denoteAheadUptoRow, standIns := [], harness := (true, "656dbdcaee7b448301de987ae74e571a522e2e17b5a593d9f2d342d384f8b81c"), looks := false }, kinds := [], alts := [], laidByText := true, laidKinds := [.data, .data, .data, .data, .pinned], laidTests := true, laidLooks := .later }
def DenoteAheadUptoCardSaid : Prop := Claim7.holds Tryd.pinned (.plain (OpenSpec.upto denoteAheadSpec)) denoteAheadUptoCard

/-- THE SECOND FORM's CARD OF 'hurdlelaw11.DenoteSwaps'. -/
def denoteSwapsUptoCard : Claim7 := { stood := { row := denoteSwapsUptoRow, standIns := [], harness := (true, "656dbdcaee7b448301de987ae74e571a522e2e17b5a593d9f2d342d384f8b81c"), looks := false }, kinds := [], alts := [], laidByText := true, laidKinds := [.data, .data, .data, .data, .pinned], laidTests := true, laidLooks := .later }
def DenoteSwapsUptoCardSaid : Prop := Claim7.holds Tryd.pinned (.plain (OpenSpec.upto denoteSwapsSpec)) denoteSwapsUptoCard

/-- THE SECOND FORM's CARD OF 'hurdlelaw11.DenoteLast'. -/
def denoteLastUptoCard : Claim7 := { stood := { row := denoteLastUptoRow, standIns := [], harness := (true, "656dbdcaee7b448301de987ae74e571a522e2e17b5a593d9f2d342d384f8b81c"), looks := false }, kinds := [], alts := [], laidByText := true, laidKinds := [.data, .data, .data, .data, .pinned], laidTests := true, laidLooks := .later }
def DenoteLastUptoCardSaid : Prop := Claim7.holds Tryd.pinned (.plain (OpenSpec.upto denoteLastSpec)) denoteLastUptoCard
end Rows
end Go.Proofs.YtbhondjfilohdaaDoor
