/-
  DERIVED. GIVEN WITH THE SEED: THE CARDS: each row of YtkcjkamfcgdibaaDoorRows.lean that lists a variable, with what it lists TIED to the program's text (the seventh form; the later family's looks); each row that meets fmt, with fmt's text TOLD by the authors' own Lean function (tested against real Go, not proved from fmt's source: count such statements apart). THE CARD IS WHAT COUNTS. Prove the row's statement (the work); the ties are given (YtkcjkamfcgdibaaDoorTie.lean); close each card by the builder's one call (the guide's Derived/Test/ToyasCard.lean, 'card_holds'). Laid BY PROGRAM, IN A SANDBOX (cutbox-door.mjs). By AI agents, Wed Nov 11 2026. No macro, syntax, notation, axiom, sorry.
-/
import Derived.Test.YtkcjkamfcgdibaaDoorRows
import GoSem.ClaimSeven
namespace Go.Proofs.YtkcjkamfcgdibaaDoor
namespace Rows

/-- THE TIED CARD OF 'hurdlelaw06.RunSteps'. -/
def runStepsCard : Claim7 := { stood := { row := runStepsRow, standIns := [], harness := (true, "e15c993089db1762d3f6c901d270c70bb23561e26db661f5388efc7600d87b6d"), looks := false }, kinds := [], alts := [], laidByText := true, laidKinds := [.data], laidTests := true, laidLooks := .later }
def RunStepsCardSaid : Prop := Claim7.holds Tryd.pinned (.plain (OpenSpec.ofChange runStepsSpec)) runStepsCard

/-- THE TIED CARD OF 'hurdlelaw06.RunRuns'. -/
def runRunsCard : Claim7 := { stood := { row := runRunsRow, standIns := [], harness := (true, "e15c993089db1762d3f6c901d270c70bb23561e26db661f5388efc7600d87b6d"), looks := false }, kinds := [], alts := [], laidByText := true, laidKinds := [.data], laidTests := true, laidLooks := .later }
def RunRunsCardSaid : Prop := Claim7.holds Tryd.pinned (.plain (OpenSpec.ofChange runRunsSpec)) runRunsCard

/-- THE TIED CARD OF 'hurdlelaw06.RunEnds'. -/
def runEndsCard : Claim7 := { stood := { row := runEndsRow, standIns := [], harness := (true, "e15c993089db1762d3f6c901d270c70bb23561e26db661f5388efc7600d87b6d"), looks := false }, kinds := [], alts := [], laidByText := true, laidKinds := [.data], laidTests := true, laidLooks := .later }
def RunEndsCardSaid : Prop := Claim7.holds Tryd.pinned (.plain (OpenSpec.ofChange runEndsSpec)) runEndsCard

/-- THE TIED CARD OF 'hurdlelaw06.RunLoads'. -/
def runLoadsCard : Claim7 := { stood := { row := runLoadsRow, standIns := [], harness := (true, "e15c993089db1762d3f6c901d270c70bb23561e26db661f5388efc7600d87b6d"), looks := false }, kinds := [], alts := [], laidByText := true, laidKinds := [.data], laidTests := true, laidLooks := .later }
def RunLoadsCardSaid : Prop := Claim7.holds Tryd.pinned (.plain (OpenSpec.ofChange runLoadsSpec)) runLoadsCard

/-- THE TIED CARD OF 'hurdlelaw06.RunBehind'. -/
def runBehindCard : Claim7 := { stood := { row := runBehindRow, standIns := [], harness := (true, "e15c993089db1762d3f6c901d270c70bb23561e26db661f5388efc7600d87b6d"), looks := false }, kinds := [], alts := [], laidByText := true, laidKinds := [.data], laidTests := true, laidLooks := .later }
def RunBehindCardSaid : Prop := Claim7.holds Tryd.pinned (.plain (OpenSpec.ofChange runBehindSpec)) runBehindCard

/-- THE TIED CARD OF 'hurdlelaw06.RunJumps'. -/
def runJumpsCard : Claim7 := { stood := { row := runJumpsRow, standIns := [], harness := (true, "e15c993089db1762d3f6c901d270c70bb23561e26db661f5388efc7600d87b6d"), looks := false }, kinds := [], alts := [], laidByText := true, laidKinds := [.data], laidTests := true, laidLooks := .later }
def RunJumpsCardSaid : Prop := Claim7.holds Tryd.pinned (.plain (OpenSpec.ofChange runJumpsSpec)) runJumpsCard

/-- THE TIED CARD OF 'hurdlelaw06.RunFlips'. -/
def runFlipsCard : Claim7 := { stood := { row := runFlipsRow, standIns := [], harness := (true, "e15c993089db1762d3f6c901d270c70bb23561e26db661f5388efc7600d87b6d"), looks := false }, kinds := [], alts := [], laidByText := true, laidKinds := [.data], laidTests := true, laidLooks := .later }
def RunFlipsCardSaid : Prop := Claim7.holds Tryd.pinned (.plain (OpenSpec.ofChange runFlipsSpec)) runFlipsCard

/-- THE SECOND FORM's CARD OF 'hurdlelaw06.RunSteps'. -/
def runStepsUptoCard : Claim7 := { stood := { row := runStepsUptoRow, standIns := [], harness := (true, "e15c993089db1762d3f6c901d270c70bb23561e26db661f5388efc7600d87b6d"), looks := false }, kinds := [], alts := [], laidByText := true, laidKinds := [.data], laidTests := true, laidLooks := .later }
def RunStepsUptoCardSaid : Prop := Claim7.holds Tryd.pinned (.plain (OpenSpec.upto runStepsSpec)) runStepsUptoCard

/-- THE SECOND FORM's CARD OF 'hurdlelaw06.RunRuns'. -/
def runRunsUptoCard : Claim7 := { stood := { row := runRunsUptoRow, standIns := [], harness := (true, "e15c993089db1762d3f6c901d270c70bb23561e26db661f5388efc7600d87b6d"), looks := false }, kinds := [], alts := [], laidByText := true, laidKinds := [.data], laidTests := true, laidLooks := .later }
def RunRunsUptoCardSaid : Prop := Claim7.holds Tryd.pinned (.plain (OpenSpec.upto runRunsSpec)) runRunsUptoCard

/-- THE SECOND FORM's CARD OF 'hurdlelaw06.RunEnds'. -/
def runEndsUptoCard : Claim7 := { stood := { row := runEndsUptoRow, standIns := [], harness := (true, "e15c993089db1762d3f6c901d270c70bb23561e26db661f5388efc7600d87b6d"), looks := false }, kinds := [], alts := [], laidByText := true, laidKinds := [.data], laidTests := true, laidLooks := .later }
def RunEndsUptoCardSaid : Prop := Claim7.holds Tryd.pinned (.plain (OpenSpec.upto runEndsSpec)) runEndsUptoCard

/-- THE SECOND FORM's CARD OF 'hurdlelaw06.RunLoads'. -/
def runLoadsUptoCard : Claim7 := { stood := { row := runLoadsUptoRow, standIns := [], harness := (true, "e15c993089db1762d3f6c901d270c70bb23561e26db661f5388efc7600d87b6d"), looks := false }, kinds := [], alts := [], laidByText := true, laidKinds := [.data], laidTests := true, laidLooks := .later }
def RunLoadsUptoCardSaid : Prop := Claim7.holds Tryd.pinned (.plain (OpenSpec.upto runLoadsSpec)) runLoadsUptoCard

/-- THE SECOND FORM's CARD OF 'hurdlelaw06.RunBehind'. -/
def runBehindUptoCard : Claim7 := { stood := { row := runBehindUptoRow, standIns := [], harness := (true, "e15c993089db1762d3f6c901d270c70bb23561e26db661f5388efc7600d87b6d"), looks := false }, kinds := [], alts := [], laidByText := true, laidKinds := [.data], laidTests := true, laidLooks := .later }
def RunBehindUptoCardSaid : Prop := Claim7.holds Tryd.pinned (.plain (OpenSpec.upto runBehindSpec)) runBehindUptoCard

/-- THE SECOND FORM's CARD OF 'hurdlelaw06.RunJumps'. -/
def runJumpsUptoCard : Claim7 := { stood := { row := runJumpsUptoRow, standIns := [], harness := (true, "e15c993089db1762d3f6c901d270c70bb23561e26db661f5388efc7600d87b6d"), looks := false }, kinds := [], alts := [], laidByText := true, laidKinds := [.data], laidTests := true, laidLooks := .later }
def RunJumpsUptoCardSaid : Prop := Claim7.holds Tryd.pinned (.plain (OpenSpec.upto runJumpsSpec)) runJumpsUptoCard

/-- THE SECOND FORM's CARD OF 'hurdlelaw06.RunFlips'. -/
def runFlipsUptoCard : Claim7 := { stood := { row := runFlipsUptoRow, standIns := [], harness := (true, "e15c993089db1762d3f6c901d270c70bb23561e26db661f5388efc7600d87b6d"), looks := false }, kinds := [], alts := [], laidByText := true, laidKinds := [.data], laidTests := true, laidLooks := .later }
def RunFlipsUptoCardSaid : Prop := Claim7.holds Tryd.pinned (.plain (OpenSpec.upto runFlipsSpec)) runFlipsUptoCard
end Rows
end Go.Proofs.YtkcjkamfcgdibaaDoor
