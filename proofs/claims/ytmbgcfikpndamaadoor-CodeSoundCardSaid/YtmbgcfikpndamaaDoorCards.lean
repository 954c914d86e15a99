/-
  DERIVED. GIVEN WITH THE SEED: THE CARDS: each row of YtmbgcfikpndamaaDoorRows.lean that lists a variable, with what it lists TIED to the program's text (the seventh form; the later family's looks); each row that meets fmt, with fmt's text TOLD by the authors' own Lean function (tested against real Go, not proved from fmt's source: count such statements apart). THE CARD IS WHAT COUNTS. Prove the row's statement (the work); the ties are given (YtmbgcfikpndamaaDoorTie.lean); close each card by the builder's one call (the guide's Derived/Test/ToyasCard.lean, 'card_holds'). Laid BY PROGRAM, IN A SANDBOX (cutbox-door.mjs). By AI agents, Wed Nov 11 2026. No macro, syntax, notation, axiom, sorry.
-/
import Derived.Test.YtmbgcfikpndamaaDoorRows
import GoSem.ClaimSeven
namespace Go.Proofs.YtmbgcfikpndamaaDoor
namespace Rows

/-- THE TIED CARD OF 'hurdlelaw12.CodeGrows'. -/
def codeGrowsCard : Claim7 := { stood := { row := codeGrowsRow, standIns := [], harness := (true, "824c5ef490affdd18b93f2ba021ecfba0ab2e0d9ee9863810075750740b966e9"), looks := false }, kinds := [], alts := [], laidByText := true, laidKinds := [.data], laidTests := true, laidLooks := .later }
def CodeGrowsCardSaid : Prop := Claim7.holds Tryd.pinned (.plain (OpenSpec.ofChange codeGrowsSpec)) codeGrowsCard

/-- THE TIED CARD OF 'hurdlelaw12.CodeLabels'. -/
def codeLabelsCard : Claim7 := { stood := { row := codeLabelsRow, standIns := [], harness := (true, "824c5ef490affdd18b93f2ba021ecfba0ab2e0d9ee9863810075750740b966e9"), looks := false }, kinds := [], alts := [], laidByText := true, laidKinds := [.data], laidTests := true, laidLooks := .later }
def CodeLabelsCardSaid : Prop := Claim7.holds Tryd.pinned (.plain (OpenSpec.ofChange codeLabelsSpec)) codeLabelsCard

/-- THE TIED CARD OF 'hurdlelaw12.CodeKeeps'. -/
def codeKeepsCard : Claim7 := { stood := { row := codeKeepsRow, standIns := [], harness := (true, "824c5ef490affdd18b93f2ba021ecfba0ab2e0d9ee9863810075750740b966e9"), looks := false }, kinds := [], alts := [], laidByText := true, laidKinds := [.data], laidTests := true, laidLooks := .later }
def CodeKeepsCardSaid : Prop := Claim7.holds Tryd.pinned (.plain (OpenSpec.ofChange codeKeepsSpec)) codeKeepsCard

/-- THE TIED CARD OF 'hurdlelaw12.CodeSound'. -/
def codeSoundCard : Claim7 := { stood := { row := codeSoundRow, standIns := [], harness := (true, "824c5ef490affdd18b93f2ba021ecfba0ab2e0d9ee9863810075750740b966e9"), looks := false }, kinds := [], alts := [], laidByText := true, laidKinds := [.data], laidTests := true, laidLooks := .later }
def CodeSoundCardSaid : Prop := Claim7.holds Tryd.pinned (.plain (OpenSpec.ofChange codeSoundSpec)) codeSoundCard

/-- THE TIED CARD OF 'hurdlelaw12.CodeNear'. -/
def codeNearCard : Claim7 := { stood := { row := codeNearRow, standIns := [], harness := (true, "824c5ef490affdd18b93f2ba021ecfba0ab2e0d9ee9863810075750740b966e9"), looks := false }, kinds := [], alts := [], laidByText := true, laidKinds := [.data], laidTests := true, laidLooks := .later }
def CodeNearCardSaid : Prop := Claim7.holds Tryd.pinned (.plain (OpenSpec.ofChange codeNearSpec)) codeNearCard

/-- THE SECOND FORM's CARD OF 'hurdlelaw12.CodeGrows'. -/
def codeGrowsUptoCard : Claim7 := { stood := { row := codeGrowsUptoRow, standIns := [], harness := (true, "824c5ef490affdd18b93f2ba021ecfba0ab2e0d9ee9863810075750740b966e9"), looks := false }, kinds := [], alts := [], laidByText := true, laidKinds := [.data], laidTests := true, laidLooks := .later }
def CodeGrowsUptoCardSaid : Prop := Claim7.holds Tryd.pinned (.plain (OpenSpec.upto codeGrowsSpec)) codeGrowsUptoCard

/-- THE SECOND FORM's CARD OF 'hurdlelaw12.CodeLabels'. -/
def codeLabelsUptoCard : Claim7 := { stood := { row := codeLabelsUptoRow, standIns := [], harness := (true, "824c5ef490affdd18b93f2ba021ecfba0ab2e0d9ee9863810075750740b966e9"), looks := false }, kinds := [], alts := [], laidByText := true, laidKinds := [.data], laidTests := true, laidLooks := .later }
def CodeLabelsUptoCardSaid : Prop := Claim7.holds Tryd.pinned (.plain (OpenSpec.upto codeLabelsSpec)) codeLabelsUptoCard

/-- THE SECOND FORM's CARD OF 'hurdlelaw12.CodeKeeps'. -/
def codeKeepsUptoCard : Claim7 := { stood := { row := codeKeepsUptoRow, standIns := [], harness := (true, "824c5ef490affdd18b93f2ba021ecfba0ab2e0d9ee9863810075750740b966e9"), looks := false }, kinds := [], alts := [], laidByText := true, laidKinds := [.data], laidTests := true, laidLooks := .later }
def CodeKeepsUptoCardSaid : Prop := Claim7.holds Tryd.pinned (.plain (OpenSpec.upto codeKeepsSpec)) codeKeepsUptoCard

/-- THE SECOND FORM's CARD OF 'hurdlelaw12.CodeSound'. -/
def codeSoundUptoCard : Claim7 := { stood := { row := codeSoundUptoRow, standIns := [], harness := (true, "824c5ef490affdd18b93f2ba021ecfba0ab2e0d9ee9863810075750740b966e9"), looks := false }, kinds := [], alts := [], laidByText := true, laidKinds := [.data], laidTests := true, laidLooks := .later }
def CodeSoundUptoCardSaid : Prop := Claim7.holds Tryd.pinned (.plain (OpenSpec.upto codeSoundSpec)) codeSoundUptoCard

/-- THE SECOND FORM's CARD OF 'hurdlelaw12.CodeNear'. -/
def codeNearUptoCard : Claim7 := { stood := { row := codeNearUptoRow, standIns := [], harness := (true, "824c5ef490affdd18b93f2ba021ecfba0ab2e0d9ee9863810075750740b966e9"), looks := false }, kinds := [], alts := [], laidByText := true, laidKinds := [.data], laidTests := true, laidLooks := .later }
def CodeNearUptoCardSaid : Prop := Claim7.holds Tryd.pinned (.plain (OpenSpec.upto codeNearSpec)) codeNearUptoCard
end Rows
end Go.Proofs.YtmbgcfikpndamaaDoor
