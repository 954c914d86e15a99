/-
  DERIVED. GIVEN WITH THE SEED: THE CARDS: each row of YtmbegncnbjafdaaDoorRows.lean that lists a variable, with what it lists TIED to the program's text (the seventh form; the later family's looks); each row that meets fmt, with fmt's text TOLD by the authors' own Lean function (tested against real Go, not proved from fmt's source: count such statements apart). THE CARD IS WHAT COUNTS. Prove the row's statement (the work); the ties are given (YtmbegncnbjafdaaDoorTie.lean); close each card by the builder's one call (the guide's Derived/Test/ToyasCard.lean, 'card_holds'). Laid BY PROGRAM, IN A SANDBOX (cutbox-door.mjs). By AI agents, Wed Nov 11 2026. No macro, syntax, notation, axiom, sorry.
-/
import Derived.Test.YtmbegncnbjafdaaDoorRows
import GoSem.ClaimSeven
namespace Go.Proofs.YtmbegncnbjafdaaDoor
namespace Rows

/-- THE TIED CARD OF 'hurdlelaw07.LiveTells'. -/
def liveTellsCard : Claim7 := { stood := { row := liveTellsRow, standIns := [], harness := (true, "dd383cecb8b6b27dc13d7c2b21fb1fabe0f353e134dac40d9fbb4f78153142cd"), looks := false }, kinds := [], alts := [], laidByText := true, laidKinds := [.data], laidTests := true, laidLooks := .later }
def LiveTellsCardSaid : Prop := Claim7.holds Tryd.pinned (.plain (OpenSpec.ofChange liveTellsSpec)) liveTellsCard

/-- THE TIED CARD OF 'hurdlelaw07.LivePlaces'. -/
def livePlacesCard : Claim7 := { stood := { row := livePlacesRow, standIns := [], harness := (true, "dd383cecb8b6b27dc13d7c2b21fb1fabe0f353e134dac40d9fbb4f78153142cd"), looks := false }, kinds := [], alts := [], laidByText := true, laidKinds := [.data], laidTests := true, laidLooks := .later }
def LivePlacesCardSaid : Prop := Claim7.holds Tryd.pinned (.plain (OpenSpec.ofChange livePlacesSpec)) livePlacesCard

/-- THE TIED CARD OF 'hurdlelaw07.LiveRuns'. -/
def liveRunsCard : Claim7 := { stood := { row := liveRunsRow, standIns := [], harness := (true, "dd383cecb8b6b27dc13d7c2b21fb1fabe0f353e134dac40d9fbb4f78153142cd"), looks := false }, kinds := [], alts := [], laidByText := true, laidKinds := [.data], laidTests := true, laidLooks := .later }
def LiveRunsCardSaid : Prop := Claim7.holds Tryd.pinned (.plain (OpenSpec.ofChange liveRunsSpec)) liveRunsCard

/-- THE TIED CARD OF 'hurdlelaw07.LiveSteps'. -/
def liveStepsCard : Claim7 := { stood := { row := liveStepsRow, standIns := [], harness := (true, "dd383cecb8b6b27dc13d7c2b21fb1fabe0f353e134dac40d9fbb4f78153142cd"), looks := false }, kinds := [], alts := [], laidByText := true, laidKinds := [.data], laidTests := true, laidLooks := .later }
def LiveStepsCardSaid : Prop := Claim7.holds Tryd.pinned (.plain (OpenSpec.ofChange liveStepsSpec)) liveStepsCard

/-- THE TIED CARD OF 'hurdlelaw07.LiveBranches'. -/
def liveBranchesCard : Claim7 := { stood := { row := liveBranchesRow, standIns := [], harness := (true, "dd383cecb8b6b27dc13d7c2b21fb1fabe0f353e134dac40d9fbb4f78153142cd"), looks := false }, kinds := [], alts := [], laidByText := true, laidKinds := [.data], laidTests := true, laidLooks := .later }
def LiveBranchesCardSaid : Prop := Claim7.holds Tryd.pinned (.plain (OpenSpec.ofChange liveBranchesSpec)) liveBranchesCard

/-- THE TIED CARD OF 'hurdlelaw07.LiveLast'. -/
def liveLastCard : Claim7 := { stood := { row := liveLastRow, standIns := [], harness := (true, "dd383cecb8b6b27dc13d7c2b21fb1fabe0f353e134dac40d9fbb4f78153142cd"), looks := false }, kinds := [], alts := [], laidByText := true, laidKinds := [.data], laidTests := true, laidLooks := .later }
def LiveLastCardSaid : Prop := Claim7.holds Tryd.pinned (.plain (OpenSpec.ofChange liveLastSpec)) liveLastCard

/-- THE SECOND FORM's CARD OF 'hurdlelaw07.LiveTells'. -/
def liveTellsUptoCard : Claim7 := { stood := { row := liveTellsUptoRow, standIns := [], harness := (true, "dd383cecb8b6b27dc13d7c2b21fb1fabe0f353e134dac40d9fbb4f78153142cd"), looks := false }, kinds := [], alts := [], laidByText := true, laidKinds := [.data], laidTests := true, laidLooks := .later }
def LiveTellsUptoCardSaid : Prop := Claim7.holds Tryd.pinned (.plain (OpenSpec.upto liveTellsSpec)) liveTellsUptoCard

/-- THE SECOND FORM's CARD OF 'hurdlelaw07.LivePlaces'. -/
def livePlacesUptoCard : Claim7 := { stood := { row := livePlacesUptoRow, standIns := [], harness := (true, "dd383cecb8b6b27dc13d7c2b21fb1fabe0f353e134dac40d9fbb4f78153142cd"), looks := false }, kinds := [], alts := [], laidByText := true, laidKinds := [.data], laidTests := true, laidLooks := .later }
def LivePlacesUptoCardSaid : Prop := Claim7.holds Tryd.pinned (.plain (OpenSpec.upto livePlacesSpec)) livePlacesUptoCard

/-- THE SECOND FORM's CARD OF 'hurdlelaw07.LiveRuns'. -/
def liveRunsUptoCard : Claim7 := { stood := { row := liveRunsUptoRow, standIns := [], harness := (true, "dd383cecb8b6b27dc13d7c2b21fb1fabe0f353e134dac40d9fbb4f78153142cd"), looks := false }, kinds := [], alts := [], laidByText := true, laidKinds := [.data], laidTests := true, laidLooks := .later }
def LiveRunsUptoCardSaid : Prop := Claim7.holds Tryd.pinned (.plain (OpenSpec.upto liveRunsSpec)) liveRunsUptoCard

/-- THE SECOND FORM's CARD OF 'hurdlelaw07.LiveSteps'. -/
def liveStepsUptoCard : Claim7 := { stood := { row := liveStepsUptoRow, standIns := [], harness := (true, "dd383cecb8b6b27dc13d7c2b21fb1fabe0f353e134dac40d9fbb4f78153142cd"), looks := false }, kinds := [], alts := [], laidByText := true, laidKinds := [.data], laidTests := true, laidLooks := .later }
def LiveStepsUptoCardSaid : Prop := Claim7.holds Tryd.pinned (.plain (OpenSpec.upto liveStepsSpec)) liveStepsUptoCard

/-- THE SECOND FORM's CARD OF 'hurdlelaw07.LiveBranches'. -/
def liveBranchesUptoCard : Claim7 := { stood := { row := liveBranchesUptoRow, standIns := [], harness := (true, "dd383cecb8b6b27dc13d7c2b21fb1fabe0f353e134dac40d9fbb4f78153142cd"), looks := false }, kinds := [], alts := [], laidByText := true, laidKinds := [.data], laidTests := true, laidLooks := .later }
def LiveBranchesUptoCardSaid : Prop := Claim7.holds Tryd.pinned (.plain (OpenSpec.upto liveBranchesSpec)) liveBranchesUptoCard

/-- THE SECOND FORM's CARD OF 'hurdlelaw07.LiveLast'. -/
def liveLastUptoCard : Claim7 := { stood := { row := liveLastUptoRow, standIns := [], harness := (true, "dd383cecb8b6b27dc13d7c2b21fb1fabe0f353e134dac40d9fbb4f78153142cd"), looks := false }, kinds := [], alts := [], laidByText := true, laidKinds := [.data], laidTests := true, laidLooks := .later }
def LiveLastUptoCardSaid : Prop := Claim7.holds Tryd.pinned (.plain (OpenSpec.upto liveLastSpec)) liveLastUptoCard
end Rows
end Go.Proofs.YtmbegncnbjafdaaDoor
