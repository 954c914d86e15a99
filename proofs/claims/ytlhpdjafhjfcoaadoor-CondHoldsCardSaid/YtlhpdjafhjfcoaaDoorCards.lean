/-
  DERIVED. GIVEN WITH THE SEED: THE CARDS: each row of YtlhpdjafhjfcoaaDoorRows.lean that lists a variable, with what it lists TIED to the program's text (the seventh form; the later family's looks); each row that meets fmt, with fmt's text TOLD by the authors' own Lean function (tested against real Go, not proved from fmt's source: count such statements apart). THE CARD IS WHAT COUNTS. Prove the row's statement (the work); the ties are given (YtlhpdjafhjfcoaaDoorTie.lean); close each card by the builder's one call (the guide's Derived/Test/ToyasCard.lean, 'card_holds'). Laid BY PROGRAM, IN A SANDBOX (cutbox-door.mjs). By AI agents, Wed Nov 11 2026. No macro, syntax, notation, axiom, sorry.
-/
import Derived.Test.YtlhpdjafhjfcoaaDoorRows
import GoSem.ClaimSeven
namespace Go.Proofs.YtlhpdjafhjfcoaaDoor
namespace Rows

/-- THE TIED CARD OF 'hurdlelaw08.CondHolds'. -/
def condHoldsCard : Claim7 := { stood := { row := condHoldsRow, standIns := [], harness := (true, "2ab29319143786b251a2d3a48cd543bf58d9f546ca80b453b869beba1b74439f"), looks := false }, kinds := [], alts := [], laidByText := true, laidKinds := [.data, .data, .data, .data, .pinned], laidTests := true, laidLooks := .later }
def CondHoldsCardSaid : Prop := Claim7.holds Tryd.pinned (.plain (OpenSpec.ofChange condHoldsSpec)) condHoldsCard

/-- THE TIED CARD OF 'hurdlelaw08.CondTexts'. -/
def condTextsCard : Claim7 := { stood := { row := condTextsRow, standIns := [], harness := (true, "2ab29319143786b251a2d3a48cd543bf58d9f546ca80b453b869beba1b74439f"), looks := false }, kinds := [], alts := [], laidByText := true, laidKinds := [.data, .data, .data, .data, .pinned], laidTests := true, laidLooks := .later }
def CondTextsCardSaid : Prop := Claim7.holds Tryd.pinned (.plain (OpenSpec.ofChange condTextsSpec)) condTextsCard

/-- THE TIED CARD OF 'hurdlelaw08.CondNot'. -/
def condNotCard : Claim7 := { stood := { row := condNotRow, standIns := [], harness := (true, "2ab29319143786b251a2d3a48cd543bf58d9f546ca80b453b869beba1b74439f"), looks := false }, kinds := [], alts := [], laidByText := true, laidKinds := [.data, .data, .data, .data, .pinned], laidTests := true, laidLooks := .later }
def CondNotCardSaid : Prop := Claim7.holds Tryd.pinned (.plain (OpenSpec.ofChange condNotSpec)) condNotCard

/-- THE TIED CARD OF 'hurdlelaw08.CondBack'. -/
def condBackCard : Claim7 := { stood := { row := condBackRow, standIns := [], harness := (true, "2ab29319143786b251a2d3a48cd543bf58d9f546ca80b453b869beba1b74439f"), looks := false }, kinds := [], alts := [], laidByText := true, laidKinds := [.data, .data, .data, .data, .pinned], laidTests := true, laidLooks := .later }
def CondBackCardSaid : Prop := Claim7.holds Tryd.pinned (.plain (OpenSpec.ofChange condBackSpec)) condBackCard

/-- THE TIED CARD OF 'hurdlelaw08.CondOrders'. -/
def condOrdersCard : Claim7 := { stood := { row := condOrdersRow, standIns := [], harness := (true, "2ab29319143786b251a2d3a48cd543bf58d9f546ca80b453b869beba1b74439f"), looks := false }, kinds := [], alts := [], laidByText := true, laidKinds := [.data, .data, .data, .data, .pinned], laidTests := true, laidLooks := .later }
def CondOrdersCardSaid : Prop := Claim7.holds Tryd.pinned (.plain (OpenSpec.ofChange condOrdersSpec)) condOrdersCard

/-- THE TIED CARD OF 'hurdlelaw08.CondMasks'. -/
def condMasksCard : Claim7 := { stood := { row := condMasksRow, standIns := [], harness := (true, "2ab29319143786b251a2d3a48cd543bf58d9f546ca80b453b869beba1b74439f"), looks := false }, kinds := [], alts := [], laidByText := true, laidKinds := [.data, .data, .data, .data, .pinned], laidTests := true, laidLooks := .later }
def CondMasksCardSaid : Prop := Claim7.holds Tryd.pinned (.plain (OpenSpec.ofChange condMasksSpec)) condMasksCard

/-- THE SECOND FORM's CARD OF 'hurdlelaw08.CondHolds'. -/
def condHoldsUptoCard : Claim7 := { stood := { row := condHoldsUptoRow, standIns := [], harness := (true, "2ab29319143786b251a2d3a48cd543bf58d9f546ca80b453b869beba1b74439f"), looks := false }, kinds := [], alts := [], laidByText := true, laidKinds := [.data, .data, .data, .data, .pinned], laidTests := true, laidLooks := .later }
def CondHoldsUptoCardSaid : Prop := Claim7.holds Tryd.pinned (.plain (OpenSpec.upto condHoldsSpec)) condHoldsUptoCard

/-- THE SECOND FORM's CARD OF 'hurdlelaw08.CondTexts'. -/
def condTextsUptoCard : Claim7 := { stood := { row := condTextsUptoRow, standIns := [], harness := (true, "2ab29319143786b251a2d3a48cd543bf58d9f546ca80b453b869beba1b74439f"), looks := false }, kinds := [], alts := [], laidByText := true, laidKinds := [.data, .data, .data, .data, .pinned], laidTests := true, laidLooks := .later }
def CondTextsUptoCardSaid : Prop := Claim7.holds Tryd.pinned (.plain (OpenSpec.upto condTextsSpec)) condTextsUptoCard

/-- THE SECOND FORM's CARD OF 'hurdlelaw08.CondNot'. -/
def condNotUptoCard : Claim7 := { stood := { row := condNotUptoRow, standIns := [], harness := (true, "2ab29319143786b251a2d3a48cd543bf58d9f546ca80b453b869beba1b74439f"), looks := false }, kinds := [], alts := [], laidByText := true, laidKinds := [.data, .data, .data, .data, .pinned], laidTests := true, laidLooks := .later }
def CondNotUptoCardSaid : Prop := Claim7.holds Tryd.pinned (.plain (OpenSpec.upto condNotSpec)) condNotUptoCard

/-- THE SECOND FORM's CARD OF 'hurdlelaw08.CondBack'. -/
def condBackUptoCard : Claim7 := { stood := { row := condBackUptoRow, standIns := [], harness := (true, "2ab29319143786b251a2d3a48cd543bf58d9f546ca80b453b869beba1b74439f"), looks := false }, kinds := [], alts := [], laidByText := true, laidKinds := [.data, .data, .data, .data, .pinned], laidTests := true, laidLooks := .later }
def CondBackUptoCardSaid : Prop := Claim7.holds Tryd.pinned (.plain (OpenSpec.upto condBackSpec)) condBackUptoCard

/-- THE SECOND FORM's CARD OF 'hurdlelaw08.CondOrders'. -/
def condOrdersUptoCard : Claim7 := { stood := { row := condOrdersUptoRow, standIns := [], harness := (true, "2ab29319143786b251a2d3a48cd543bf58d9f546ca80b453b869beba1b74439f"), looks := false }, kinds := [], alts := [], laidByText := true, laidKinds := [.data, .data, .data, .data, .pinned], laidTests := true, laidLooks := .later }
def CondOrdersUptoCardSaid : Prop := Claim7.holds Tryd.pinned (.plain (OpenSpec.upto condOrdersSpec)) condOrdersUptoCard

/-- THE SECOND FORM's CARD OF 'hurdlelaw08.CondMasks'. -/
def condMasksUptoCard : Claim7 := { stood := { row := condMasksUptoRow, standIns := [], harness := (true, "2ab29319143786b251a2d3a48cd543bf58d9f546ca80b453b869beba1b74439f"), looks := false }, kinds := [], alts := [], laidByText := true, laidKinds := [.data, .data, .data, .data, .pinned], laidTests := true, laidLooks := .later }
def CondMasksUptoCardSaid : Prop := Claim7.holds Tryd.pinned (.plain (OpenSpec.upto condMasksSpec)) condMasksUptoCard
end Rows
end Go.Proofs.YtlhpdjafhjfcoaaDoor
