/-
  NARROWER THAN 'FOR EVERY INPUT', by the rows' own cells (each row's printed sentence says how): LiveTells: laid · LivePlaces: laid · LiveRuns: laid · LiveSteps: laid · LiveBranches: laid · LiveLast: laid.
  DERIVED. THE GIVEN ROWS OF THIS SEAT. 6 by the template 'for every input the law returns true; each argument reads behind the call as it read before'; 0 by the template 'total and deterministic' (their statements: YtmbegncnbjafdaaDoorTotals.lean).
  GIVEN WITH THE SEED: the statements are not yours to turn. If you find one false, say at which input.
  Laid BY PROGRAM, IN A SANDBOX (cutbox-rows.mjs): the forced cells as the released guide's own fill.sh prints them over the translation 3bbc82c228e801ba… (all of the seat's roots in one cut). By AI agents, Wed Nov 11 2026. No macro, syntax, notation, axiom, sorry.
-/
import Derived.Test.YtmbegncnbjafdaaDoorChecked
import GoSem.Claim
import GoSem.ClaimJoined
import GoSem.ClaimMapViews
import Derived.JoinedTies
import Derived.KernelRfl
namespace Go.Proofs.YtmbegncnbjafdaaDoor
/- THE CELL 'sum', in the pinned program and in every row, IS THE sha256 OF THE DUMP (.gsa) THAT YtmbegncnbjafdaaDoorProg.lean LOADS. Nothing in Lean hashes anything: it is a label: what it is worth is what the hold of that sum in a sandbox is worth. -/
noncomputable def Tryd.pinned : Pinned := { name := "ytmbegncnbjafdaadoor", sum := "3bbc82c228e801bae2a4b80d9e428752aae3964b856981d5259025316ff3c6d8", checked := Tryd.checked }
namespace Rows
def none {H : Type} : Left H := { results := [], args := [] }

/- WHAT THE LISTED PACKAGE-LEVEL VARIABLES READ AS WHEN THE CALL BEGINS. Each datum BY PROGRAM (the guide's laid-datum.mjs) off the statement by which the dump's own 'gosem.cut.vars' lays the variable. In a bare row this is a premise. The card (YtmbegncnbjafdaaDoorCards.lean) ties it to the program's text. -/
def laid_hurdle_ins_operations {H : Type} : DataW H := .agg [.agg [.lit (.int .i64 0), .lit (.string [108, 100]), .lit (.int .i64 2)], .agg [.lit (.int .i64 1), .lit (.string [108, 100, 120]), .lit (.int .i64 2)], .agg [.lit (.int .i64 2), .lit (.string [115, 116]), .lit (.int .i64 2)], .agg [.lit (.int .i64 3), .lit (.string [115, 116, 120]), .lit (.int .i64 2)], .agg [.lit (.int .i64 32), .lit (.string [97, 98, 115]), .lit (.int .i64 2)], .agg [.lit (.int .i64 96), .lit (.string [109, 101, 109]), .lit (.int .i64 2)], .agg [.lit (.int .i64 97), .lit (.string [109, 101, 109, 120]), .lit (.int .i64 2)], .agg [.lit (.int .i64 5), .lit (.string [106, 97]), .lit (.int .i64 2)], .agg [.lit (.int .i64 6), .lit (.string [114, 101, 116]), .lit (.int .i64 2)], .agg [.lit (.int .i64 4), .lit (.string [97, 100, 100]), .lit (.int .i64 3)], .agg [.lit (.int .i64 20), .lit (.string [115, 117, 98]), .lit (.int .i64 3)], .agg [.lit (.int .i64 36), .lit (.string [109, 117, 108]), .lit (.int .i64 3)], .agg [.lit (.int .i64 52), .lit (.string [100, 105, 118]), .lit (.int .i64 3)], .agg [.lit (.int .i64 68), .lit (.string [111, 114]), .lit (.int .i64 3)], .agg [.lit (.int .i64 84), .lit (.string [97, 110, 100]), .lit (.int .i64 3)], .agg [.lit (.int .i64 100), .lit (.string [108, 115, 104]), .lit (.int .i64 3)], .agg [.lit (.int .i64 116), .lit (.string [114, 115, 104]), .lit (.int .i64 3)], .agg [.lit (.int .i64 164), .lit (.string [120, 111, 114]), .lit (.int .i64 3)], .agg [.lit (.int .i64 12), .lit (.string [97, 100, 100, 120]), .lit (.int .i64 1)], .agg [.lit (.int .i64 28), .lit (.string [115, 117, 98, 120]), .lit (.int .i64 1)], .agg [.lit (.int .i64 44), .lit (.string [109, 117, 108, 120]), .lit (.int .i64 1)], .agg [.lit (.int .i64 60), .lit (.string [100, 105, 118, 120]), .lit (.int .i64 1)], .agg [.lit (.int .i64 76), .lit (.string [111, 114, 120]), .lit (.int .i64 1)], .agg [.lit (.int .i64 92), .lit (.string [97, 110, 100, 120]), .lit (.int .i64 1)], .agg [.lit (.int .i64 108), .lit (.string [108, 115, 104, 120]), .lit (.int .i64 1)], .agg [.lit (.int .i64 124), .lit (.string [114, 115, 104, 120]), .lit (.int .i64 1)], .agg [.lit (.int .i64 172), .lit (.string [120, 111, 114, 120]), .lit (.int .i64 1)], .agg [.lit (.int .i64 132), .lit (.string [110, 101, 103]), .lit (.int .i64 0)], .agg [.lit (.int .i64 7), .lit (.string [116, 97, 120]), .lit (.int .i64 0)], .agg [.lit (.int .i64 135), .lit (.string [116, 120, 97]), .lit (.int .i64 0)], .agg [.lit (.int .i64 22), .lit (.string [114, 101, 116, 97]), .lit (.int .i64 0)], .agg [.lit (.int .i64 21), .lit (.string [106, 101, 113]), .lit (.int .i64 5)], .agg [.lit (.int .i64 37), .lit (.string [106, 103, 116]), .lit (.int .i64 5)], .agg [.lit (.int .i64 53), .lit (.string [106, 103, 101]), .lit (.int .i64 5)], .agg [.lit (.int .i64 69), .lit (.string [106, 115, 101, 116]), .lit (.int .i64 5)], .agg [.lit (.int .i64 29), .lit (.string [106, 101, 113, 120]), .lit (.int .i64 4)], .agg [.lit (.int .i64 45), .lit (.string [106, 103, 116, 120]), .lit (.int .i64 4)], .agg [.lit (.int .i64 61), .lit (.string [106, 103, 101, 120]), .lit (.int .i64 4)], .agg [.lit (.int .i64 77), .lit (.string [106, 115, 101, 116, 120]), .lit (.int .i64 4)]]

/-- 'hurdlelaw07.LiveTells': WHATEVER THE INPUT: true; the input reads as it did. -/
def liveTellsSpec : ChangeSpec := { name := "liveTells", fn := fun _ => fun
  | [d] => { results := [.lit (.bool true)], args := [d] }
  | _ => none }
def liveTellsRow : OpenClaim := { program := "ytmbegncnbjafdaadoor", sum := "3bbc82c228e801bae2a4b80d9e428752aae3964b856981d5259025316ff3c6d8", func := "hurdle/hurdlelaw07.LiveTells", spec := "liveTells", inPlace := ["internal/bytealg.IndexByteString", "internal/bytealg.IndexString"], unfollowed := true, recurses := true, named := ["hurdle/ins.operations", "internal/bytealg.MaxLen"], apart := false, laid := [("hurdle/ins.operations", laid_hurdle_ins_operations)] }
def LiveTellsSaid : Prop := liveTellsRow.holds Tryd.pinned (OpenSpec.ofChange liveTellsSpec)

/-- ITS FALSE NEIGHBOUR: 'it returns false'. Refute it at one input. -/
def liveTellsWrong : ChangeSpec := { name := "liveTells", fn := fun _ => fun
  | [d] => { results := [.lit (.bool false)], args := [d] }
  | _ => none }
def LiveTellsWrongFalsely : Prop := liveTellsRow.holds Tryd.pinned (OpenSpec.ofChange liveTellsWrong)

/-- 'hurdlelaw07.LivePlaces': WHATEVER THE INPUT: true; the input reads as it did. -/
def livePlacesSpec : ChangeSpec := { name := "livePlaces", fn := fun _ => fun
  | [d1, d2] => { results := [.lit (.bool true)], args := [d1, d2] }
  | _ => none }
def livePlacesRow : OpenClaim := { program := "ytmbegncnbjafdaadoor", sum := "3bbc82c228e801bae2a4b80d9e428752aae3964b856981d5259025316ff3c6d8", func := "hurdle/hurdlelaw07.LivePlaces", spec := "livePlaces", inPlace := ["internal/bytealg.IndexByteString", "internal/bytealg.IndexString"], unfollowed := true, recurses := true, named := ["internal/bytealg.MaxLen", "hurdle/ins.operations"], apart := false, laid := [("hurdle/ins.operations", laid_hurdle_ins_operations)] }
def LivePlacesSaid : Prop := livePlacesRow.holds Tryd.pinned (OpenSpec.ofChange livePlacesSpec)

/-- ITS FALSE NEIGHBOUR: 'it returns false'. Refute it at one input. -/
def livePlacesWrong : ChangeSpec := { name := "livePlaces", fn := fun _ => fun
  | [d1, d2] => { results := [.lit (.bool false)], args := [d1, d2] }
  | _ => none }
def LivePlacesWrongFalsely : Prop := livePlacesRow.holds Tryd.pinned (OpenSpec.ofChange livePlacesWrong)

/-- 'hurdlelaw07.LiveRuns': WHATEVER THE INPUT: true; the input reads as it did. -/
def liveRunsSpec : ChangeSpec := { name := "liveRuns", fn := fun _ => fun
  | [d1, d2, d3, d4, d5] => { results := [.lit (.bool true)], args := [d1, d2, d3, d4, d5] }
  | _ => none }
def liveRunsRow : OpenClaim := { program := "ytmbegncnbjafdaadoor", sum := "3bbc82c228e801bae2a4b80d9e428752aae3964b856981d5259025316ff3c6d8", func := "hurdle/hurdlelaw07.LiveRuns", spec := "liveRuns", inPlace := ["internal/bytealg.IndexByteString", "internal/bytealg.IndexString"], unfollowed := true, recurses := true, named := ["internal/bytealg.MaxLen", "hurdle/ins.operations"], apart := false, laid := [("hurdle/ins.operations", laid_hurdle_ins_operations)] }
def LiveRunsSaid : Prop := liveRunsRow.holds Tryd.pinned (OpenSpec.ofChange liveRunsSpec)

/-- ITS FALSE NEIGHBOUR: 'it returns false'. Refute it at one input. -/
def liveRunsWrong : ChangeSpec := { name := "liveRuns", fn := fun _ => fun
  | [d1, d2, d3, d4, d5] => { results := [.lit (.bool false)], args := [d1, d2, d3, d4, d5] }
  | _ => none }
def LiveRunsWrongFalsely : Prop := liveRunsRow.holds Tryd.pinned (OpenSpec.ofChange liveRunsWrong)

/-- 'hurdlelaw07.LiveSteps': WHATEVER THE INPUT: true; the input reads as it did. -/
def liveStepsSpec : ChangeSpec := { name := "liveSteps", fn := fun _ => fun
  | [d1, d2, d3, d4] => { results := [.lit (.bool true)], args := [d1, d2, d3, d4] }
  | _ => none }
def liveStepsRow : OpenClaim := { program := "ytmbegncnbjafdaadoor", sum := "3bbc82c228e801bae2a4b80d9e428752aae3964b856981d5259025316ff3c6d8", func := "hurdle/hurdlelaw07.LiveSteps", spec := "liveSteps", inPlace := ["internal/bytealg.IndexByteString", "internal/bytealg.IndexString"], unfollowed := true, recurses := true, named := ["hurdle/ins.operations", "internal/bytealg.MaxLen"], apart := false, laid := [("hurdle/ins.operations", laid_hurdle_ins_operations)] }
def LiveStepsSaid : Prop := liveStepsRow.holds Tryd.pinned (OpenSpec.ofChange liveStepsSpec)

/-- ITS FALSE NEIGHBOUR: 'it returns false'. Refute it at one input. -/
def liveStepsWrong : ChangeSpec := { name := "liveSteps", fn := fun _ => fun
  | [d1, d2, d3, d4] => { results := [.lit (.bool false)], args := [d1, d2, d3, d4] }
  | _ => none }
def LiveStepsWrongFalsely : Prop := liveStepsRow.holds Tryd.pinned (OpenSpec.ofChange liveStepsWrong)

/-- 'hurdlelaw07.LiveBranches': WHATEVER THE INPUT: true; the input reads as it did. -/
def liveBranchesSpec : ChangeSpec := { name := "liveBranches", fn := fun _ => fun
  | [d1, d2, d3] => { results := [.lit (.bool true)], args := [d1, d2, d3] }
  | _ => none }
def liveBranchesRow : OpenClaim := { program := "ytmbegncnbjafdaadoor", sum := "3bbc82c228e801bae2a4b80d9e428752aae3964b856981d5259025316ff3c6d8", func := "hurdle/hurdlelaw07.LiveBranches", spec := "liveBranches", inPlace := ["internal/bytealg.IndexByteString", "internal/bytealg.IndexString"], unfollowed := true, recurses := true, named := ["hurdle/ins.operations", "internal/bytealg.MaxLen"], apart := false, laid := [("hurdle/ins.operations", laid_hurdle_ins_operations)] }
def LiveBranchesSaid : Prop := liveBranchesRow.holds Tryd.pinned (OpenSpec.ofChange liveBranchesSpec)

/-- ITS FALSE NEIGHBOUR: 'it returns false'. Refute it at one input. -/
def liveBranchesWrong : ChangeSpec := { name := "liveBranches", fn := fun _ => fun
  | [d1, d2, d3] => { results := [.lit (.bool false)], args := [d1, d2, d3] }
  | _ => none }
def LiveBranchesWrongFalsely : Prop := liveBranchesRow.holds Tryd.pinned (OpenSpec.ofChange liveBranchesWrong)

/-- 'hurdlelaw07.LiveLast': WHATEVER THE INPUT: true; the input reads as it did. -/
def liveLastSpec : ChangeSpec := { name := "liveLast", fn := fun _ => fun
  | [d] => { results := [.lit (.bool true)], args := [d] }
  | _ => none }
def liveLastRow : OpenClaim := { program := "ytmbegncnbjafdaadoor", sum := "3bbc82c228e801bae2a4b80d9e428752aae3964b856981d5259025316ff3c6d8", func := "hurdle/hurdlelaw07.LiveLast", spec := "liveLast", inPlace := ["internal/bytealg.IndexByteString", "internal/bytealg.IndexString"], unfollowed := true, recurses := true, named := ["internal/bytealg.MaxLen", "hurdle/ins.operations"], apart := false, laid := [("hurdle/ins.operations", laid_hurdle_ins_operations)] }
def LiveLastSaid : Prop := liveLastRow.holds Tryd.pinned (OpenSpec.ofChange liveLastSpec)

/-- ITS FALSE NEIGHBOUR: 'it returns false'. Refute it at one input. -/
def liveLastWrong : ChangeSpec := { name := "liveLast", fn := fun _ => fun
  | [d] => { results := [.lit (.bool false)], args := [d] }
  | _ => none }
def LiveLastWrongFalsely : Prop := liveLastRow.holds Tryd.pinned (OpenSpec.ofChange liveLastWrong)

/- THE SECOND FORM. 'bulk': how many values and letters a reading holds, each counted each time it is reached (what is shared counts as often as it is met; a slice's spare places count too). A statement '..UptoSaid' is the law's where the arguments, and the package variables that the reading takes, are together of bulk at most 1048576: NARROWER than '..Said'. Prove '..Said' where nothing that the law and all that it calls make is longer than what came in: it says more and counts as full. Else prove '..UptoSaid'. A law counts once. -/
mutual
def uptoBulk {H : Type} : DataW H → Nat
  | .lit (.string bytes) => bytes.length + 1
  | .lit _ => 1
  | .nil => 1
  | .ptr d => uptoBulk d + 1
  | .slice elems spare => uptoBulkAll elems + uptoBulkAll spare + 1
  | .agg parts => uptoBulkAll parts + 1
  | .iface _ d => uptoBulk d + 1
  | .map entries => uptoBulkEntries entries + 1
  | .held _ => 1
def uptoBulkAll {H : Type} : List (DataW H) → Nat
  | [] => 0
  | d :: r => uptoBulk d + uptoBulkAll r
def uptoBulkEntries {H : Type} : List (Lit × DataW H) → Nat
  | [] => 0
  | x :: r => uptoBulkEntry x + uptoBulkEntries r
def uptoBulkEntry {H : Type} : Lit × DataW H → Nat
  | (.string bytes, d) => bytes.length + uptoBulk d + 1
  | (_, d) => uptoBulk d + 1
 end
def uptoSmall : (H : Type) → List (DataW H) → Bool := fun _ ds => decide (uptoBulkAll ds ≤ 1048576)
def OpenSpec.upto (s : _root_.Go.ChangeSpec) : _root_.Go.OpenSpec := { _root_.Go.OpenSpec.ofChange s with cond := some uptoSmall }

/-- 'hurdlelaw07.LiveTells', WHERE WHAT IT READS IS OF BULK AT MOST 1048576: true; the input reads as it did. -/
def liveTellsUptoRow : OpenClaim := { program := "ytmbegncnbjafdaadoor", sum := "3bbc82c228e801bae2a4b80d9e428752aae3964b856981d5259025316ff3c6d8", func := "hurdle/hurdlelaw07.LiveTells", spec := "liveTells", inPlace := ["internal/bytealg.IndexByteString", "internal/bytealg.IndexString"], unfollowed := true, recurses := true, named := ["hurdle/ins.operations", "internal/bytealg.MaxLen"], apart := false, laid := [("hurdle/ins.operations", laid_hurdle_ins_operations)], narrowed := true }
def LiveTellsUptoSaid : Prop := liveTellsUptoRow.holds Tryd.pinned (OpenSpec.upto liveTellsSpec)

/-- 'hurdlelaw07.LivePlaces', WHERE WHAT IT READS IS OF BULK AT MOST 1048576: true; the input reads as it did. -/
def livePlacesUptoRow : OpenClaim := { program := "ytmbegncnbjafdaadoor", sum := "3bbc82c228e801bae2a4b80d9e428752aae3964b856981d5259025316ff3c6d8", func := "hurdle/hurdlelaw07.LivePlaces", spec := "livePlaces", inPlace := ["internal/bytealg.IndexByteString", "internal/bytealg.IndexString"], unfollowed := true, recurses := true, named := ["internal/bytealg.MaxLen", "hurdle/ins.operations"], apart := false, laid := [("hurdle/ins.operations", laid_hurdle_ins_operations)], narrowed := true }
def LivePlacesUptoSaid : Prop := livePlacesUptoRow.holds Tryd.pinned (OpenSpec.upto livePlacesSpec)

/-- 'hurdlelaw07.LiveRuns', WHERE WHAT IT READS IS OF BULK AT MOST 1048576: true; the input reads as it did. -/
def liveRunsUptoRow : OpenClaim := { program := "ytmbegncnbjafdaadoor", sum := "3bbc82c228e801bae2a4b80d9e428752aae3964b856981d5259025316ff3c6d8", func := "hurdle/hurdlelaw07.LiveRuns", spec := "liveRuns", inPlace := ["internal/bytealg.IndexByteString", "internal/bytealg.IndexString"], unfollowed := true, recurses := true, named := ["internal/bytealg.MaxLen", "hurdle/ins.operations"], apart := false, laid := [("hurdle/ins.operations", laid_hurdle_ins_operations)], narrowed := true }
def LiveRunsUptoSaid : Prop := liveRunsUptoRow.holds Tryd.pinned (OpenSpec.upto liveRunsSpec)

/-- 'hurdlelaw07.LiveSteps', WHERE WHAT IT READS IS OF BULK AT MOST 1048576: true; the input reads as it did. -/
def liveStepsUptoRow : OpenClaim := { program := "ytmbegncnbjafdaadoor", sum := "3bbc82c228e801bae2a4b80d9e428752aae3964b856981d5259025316ff3c6d8", func := "hurdle/hurdlelaw07.LiveSteps", spec := "liveSteps", inPlace := ["internal/bytealg.IndexByteString", "internal/bytealg.IndexString"], unfollowed := true, recurses := true, named := ["hurdle/ins.operations", "internal/bytealg.MaxLen"], apart := false, laid := [("hurdle/ins.operations", laid_hurdle_ins_operations)], narrowed := true }
def LiveStepsUptoSaid : Prop := liveStepsUptoRow.holds Tryd.pinned (OpenSpec.upto liveStepsSpec)

/-- 'hurdlelaw07.LiveBranches', WHERE WHAT IT READS IS OF BULK AT MOST 1048576: true; the input reads as it did. -/
def liveBranchesUptoRow : OpenClaim := { program := "ytmbegncnbjafdaadoor", sum := "3bbc82c228e801bae2a4b80d9e428752aae3964b856981d5259025316ff3c6d8", func := "hurdle/hurdlelaw07.LiveBranches", spec := "liveBranches", inPlace := ["internal/bytealg.IndexByteString", "internal/bytealg.IndexString"], unfollowed := true, recurses := true, named := ["hurdle/ins.operations", "internal/bytealg.MaxLen"], apart := false, laid := [("hurdle/ins.operations", laid_hurdle_ins_operations)], narrowed := true }
def LiveBranchesUptoSaid : Prop := liveBranchesUptoRow.holds Tryd.pinned (OpenSpec.upto liveBranchesSpec)

/-- 'hurdlelaw07.LiveLast', WHERE WHAT IT READS IS OF BULK AT MOST 1048576: true; the input reads as it did. -/
def liveLastUptoRow : OpenClaim := { program := "ytmbegncnbjafdaadoor", sum := "3bbc82c228e801bae2a4b80d9e428752aae3964b856981d5259025316ff3c6d8", func := "hurdle/hurdlelaw07.LiveLast", spec := "liveLast", inPlace := ["internal/bytealg.IndexByteString", "internal/bytealg.IndexString"], unfollowed := true, recurses := true, named := ["internal/bytealg.MaxLen", "hurdle/ins.operations"], apart := false, laid := [("hurdle/ins.operations", laid_hurdle_ins_operations)], narrowed := true }
def LiveLastUptoSaid : Prop := liveLastUptoRow.holds Tryd.pinned (OpenSpec.upto liveLastSpec)

end Rows
end Go.Proofs.YtmbegncnbjafdaaDoor
