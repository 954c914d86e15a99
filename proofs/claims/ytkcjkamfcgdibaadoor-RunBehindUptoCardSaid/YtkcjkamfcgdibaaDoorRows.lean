/-
  NARROWER THAN 'FOR EVERY INPUT', by the rows' own cells (each row's printed sentence says how): RunSteps: laid · RunRuns: laid · RunEnds: laid · RunLoads: laid · RunBehind: laid · RunJumps: laid · RunFlips: laid.
  DERIVED. THE GIVEN ROWS OF THIS SEAT. 7 by the template 'for every input the law returns true; each argument reads behind the call as it read before'; 0 by the template 'total and deterministic' (their statements: YtkcjkamfcgdibaaDoorTotals.lean).
  GIVEN WITH THE SEED: the statements are not yours to turn. If you find one false, say at which input.
  Laid BY PROGRAM, IN A SANDBOX (cutbox-rows.mjs): the forced cells as the released guide's own fill.sh prints them over the translation 6db0c0e768e90981… (all of the seat's roots in one cut). By AI agents, Wed Nov 11 2026. No macro, syntax, notation, axiom, sorry.
-/
import Derived.Test.YtkcjkamfcgdibaaDoorChecked
import GoSem.Claim
import GoSem.ClaimJoined
import GoSem.ClaimMapViews
import Derived.JoinedTies
import Derived.KernelRfl
namespace Go.Proofs.YtkcjkamfcgdibaaDoor
/- THE CELL 'sum', in the pinned program and in every row, IS THE sha256 OF THE DUMP (.gsa) THAT YtkcjkamfcgdibaaDoorProg.lean LOADS. Nothing in Lean hashes anything: it is a label: what it is worth is what the hold of that sum in a sandbox is worth. -/
noncomputable def Tryd.pinned : Pinned := { name := "ytkcjkamfcgdibaadoor", sum := "6db0c0e768e909817dee9595fdb77ff15fc68face1b25a1ed6280d9343c9087a", checked := Tryd.checked }
namespace Rows
def none {H : Type} : Left H := { results := [], args := [] }

/- WHAT THE LISTED PACKAGE-LEVEL VARIABLES READ AS WHEN THE CALL BEGINS. Each datum BY PROGRAM (the guide's laid-datum.mjs) off the statement by which the dump's own 'gosem.cut.vars' lays the variable. In a bare row this is a premise. The card (YtkcjkamfcgdibaaDoorCards.lean) ties it to the program's text. -/
def laid_hurdle_ins_operations {H : Type} : DataW H := .agg [.agg [.lit (.int .i64 0), .lit (.string [108, 100]), .lit (.int .i64 2)], .agg [.lit (.int .i64 1), .lit (.string [108, 100, 120]), .lit (.int .i64 2)], .agg [.lit (.int .i64 2), .lit (.string [115, 116]), .lit (.int .i64 2)], .agg [.lit (.int .i64 3), .lit (.string [115, 116, 120]), .lit (.int .i64 2)], .agg [.lit (.int .i64 32), .lit (.string [97, 98, 115]), .lit (.int .i64 2)], .agg [.lit (.int .i64 96), .lit (.string [109, 101, 109]), .lit (.int .i64 2)], .agg [.lit (.int .i64 97), .lit (.string [109, 101, 109, 120]), .lit (.int .i64 2)], .agg [.lit (.int .i64 5), .lit (.string [106, 97]), .lit (.int .i64 2)], .agg [.lit (.int .i64 6), .lit (.string [114, 101, 116]), .lit (.int .i64 2)], .agg [.lit (.int .i64 4), .lit (.string [97, 100, 100]), .lit (.int .i64 3)], .agg [.lit (.int .i64 20), .lit (.string [115, 117, 98]), .lit (.int .i64 3)], .agg [.lit (.int .i64 36), .lit (.string [109, 117, 108]), .lit (.int .i64 3)], .agg [.lit (.int .i64 52), .lit (.string [100, 105, 118]), .lit (.int .i64 3)], .agg [.lit (.int .i64 68), .lit (.string [111, 114]), .lit (.int .i64 3)], .agg [.lit (.int .i64 84), .lit (.string [97, 110, 100]), .lit (.int .i64 3)], .agg [.lit (.int .i64 100), .lit (.string [108, 115, 104]), .lit (.int .i64 3)], .agg [.lit (.int .i64 116), .lit (.string [114, 115, 104]), .lit (.int .i64 3)], .agg [.lit (.int .i64 164), .lit (.string [120, 111, 114]), .lit (.int .i64 3)], .agg [.lit (.int .i64 12), .lit (.string [97, 100, 100, 120]), .lit (.int .i64 1)], .agg [.lit (.int .i64 28), .lit (.string [115, 117, 98, 120]), .lit (.int .i64 1)], .agg [.lit (.int .i64 44), .lit (.string [109, 117, 108, 120]), .lit (.int .i64 1)], .agg [.lit (.int .i64 60), .lit (.string [100, 105, 118, 120]), .lit (.int .i64 1)], .agg [.lit (.int .i64 76), .lit (.string [111, 114, 120]), .lit (.int .i64 1)], .agg [.lit (.int .i64 92), .lit (.string [97, 110, 100, 120]), .lit (.int .i64 1)], .agg [.lit (.int .i64 108), .lit (.string [108, 115, 104, 120]), .lit (.int .i64 1)], .agg [.lit (.int .i64 124), .lit (.string [114, 115, 104, 120]), .lit (.int .i64 1)], .agg [.lit (.int .i64 172), .lit (.string [120, 111, 114, 120]), .lit (.int .i64 1)], .agg [.lit (.int .i64 132), .lit (.string [110, 101, 103]), .lit (.int .i64 0)], .agg [.lit (.int .i64 7), .lit (.string [116, 97, 120]), .lit (.int .i64 0)], .agg [.lit (.int .i64 135), .lit (.string [116, 120, 97]), .lit (.int .i64 0)], .agg [.lit (.int .i64 22), .lit (.string [114, 101, 116, 97]), .lit (.int .i64 0)], .agg [.lit (.int .i64 21), .lit (.string [106, 101, 113]), .lit (.int .i64 5)], .agg [.lit (.int .i64 37), .lit (.string [106, 103, 116]), .lit (.int .i64 5)], .agg [.lit (.int .i64 53), .lit (.string [106, 103, 101]), .lit (.int .i64 5)], .agg [.lit (.int .i64 69), .lit (.string [106, 115, 101, 116]), .lit (.int .i64 5)], .agg [.lit (.int .i64 29), .lit (.string [106, 101, 113, 120]), .lit (.int .i64 4)], .agg [.lit (.int .i64 45), .lit (.string [106, 103, 116, 120]), .lit (.int .i64 4)], .agg [.lit (.int .i64 61), .lit (.string [106, 103, 101, 120]), .lit (.int .i64 4)], .agg [.lit (.int .i64 77), .lit (.string [106, 115, 101, 116, 120]), .lit (.int .i64 4)]]

/-- 'hurdlelaw06.RunSteps': WHATEVER THE INPUT: true; the input reads as it did. -/
def runStepsSpec : ChangeSpec := { name := "runSteps", fn := fun _ => fun
  | [d1, d2, d3] => { results := [.lit (.bool true)], args := [d1, d2, d3] }
  | _ => none }
def runStepsRow : OpenClaim := { program := "ytkcjkamfcgdibaadoor", sum := "6db0c0e768e909817dee9595fdb77ff15fc68face1b25a1ed6280d9343c9087a", func := "hurdle/hurdlelaw06.RunSteps", spec := "runSteps", inPlace := ["internal/bytealg.IndexByteString", "internal/bytealg.IndexString"], unfollowed := true, recurses := true, named := ["hurdle/ins.operations", "internal/bytealg.MaxLen"], apart := false, laid := [("hurdle/ins.operations", laid_hurdle_ins_operations)] }
def RunStepsSaid : Prop := runStepsRow.holds Tryd.pinned (OpenSpec.ofChange runStepsSpec)

/-- ITS FALSE NEIGHBOUR: 'it returns false'. Refute it at one input. -/
def runStepsWrong : ChangeSpec := { name := "runSteps", fn := fun _ => fun
  | [d1, d2, d3] => { results := [.lit (.bool false)], args := [d1, d2, d3] }
  | _ => none }
def RunStepsWrongFalsely : Prop := runStepsRow.holds Tryd.pinned (OpenSpec.ofChange runStepsWrong)

/-- 'hurdlelaw06.RunRuns': WHATEVER THE INPUT: true; the input reads as it did. -/
def runRunsSpec : ChangeSpec := { name := "runRuns", fn := fun _ => fun
  | [d1, d2] => { results := [.lit (.bool true)], args := [d1, d2] }
  | _ => none }
def runRunsRow : OpenClaim := { program := "ytkcjkamfcgdibaadoor", sum := "6db0c0e768e909817dee9595fdb77ff15fc68face1b25a1ed6280d9343c9087a", func := "hurdle/hurdlelaw06.RunRuns", spec := "runRuns", inPlace := ["internal/bytealg.IndexByteString", "internal/bytealg.IndexString"], unfollowed := true, recurses := true, named := ["internal/bytealg.MaxLen", "hurdle/ins.operations"], apart := false, laid := [("hurdle/ins.operations", laid_hurdle_ins_operations)] }
def RunRunsSaid : Prop := runRunsRow.holds Tryd.pinned (OpenSpec.ofChange runRunsSpec)

/-- ITS FALSE NEIGHBOUR: 'it returns false'. Refute it at one input. -/
def runRunsWrong : ChangeSpec := { name := "runRuns", fn := fun _ => fun
  | [d1, d2] => { results := [.lit (.bool false)], args := [d1, d2] }
  | _ => none }
def RunRunsWrongFalsely : Prop := runRunsRow.holds Tryd.pinned (OpenSpec.ofChange runRunsWrong)

/-- 'hurdlelaw06.RunEnds': WHATEVER THE INPUT: true; the input reads as it did. -/
def runEndsSpec : ChangeSpec := { name := "runEnds", fn := fun _ => fun
  | [d1, d2] => { results := [.lit (.bool true)], args := [d1, d2] }
  | _ => none }
def runEndsRow : OpenClaim := { program := "ytkcjkamfcgdibaadoor", sum := "6db0c0e768e909817dee9595fdb77ff15fc68face1b25a1ed6280d9343c9087a", func := "hurdle/hurdlelaw06.RunEnds", spec := "runEnds", inPlace := ["internal/bytealg.IndexByteString", "internal/bytealg.IndexString"], unfollowed := true, recurses := true, named := ["internal/bytealg.MaxLen", "hurdle/ins.operations"], apart := false, laid := [("hurdle/ins.operations", laid_hurdle_ins_operations)] }
def RunEndsSaid : Prop := runEndsRow.holds Tryd.pinned (OpenSpec.ofChange runEndsSpec)

/-- ITS FALSE NEIGHBOUR: 'it returns false'. Refute it at one input. -/
def runEndsWrong : ChangeSpec := { name := "runEnds", fn := fun _ => fun
  | [d1, d2] => { results := [.lit (.bool false)], args := [d1, d2] }
  | _ => none }
def RunEndsWrongFalsely : Prop := runEndsRow.holds Tryd.pinned (OpenSpec.ofChange runEndsWrong)

/-- 'hurdlelaw06.RunLoads': WHATEVER THE INPUT: true; the input reads as it did. -/
def runLoadsSpec : ChangeSpec := { name := "runLoads", fn := fun _ => fun
  | [d1, d2, d3, d4] => { results := [.lit (.bool true)], args := [d1, d2, d3, d4] }
  | _ => none }
def runLoadsRow : OpenClaim := { program := "ytkcjkamfcgdibaadoor", sum := "6db0c0e768e909817dee9595fdb77ff15fc68face1b25a1ed6280d9343c9087a", func := "hurdle/hurdlelaw06.RunLoads", spec := "runLoads", inPlace := ["internal/bytealg.IndexByteString", "internal/bytealg.IndexString"], unfollowed := true, recurses := true, named := ["internal/bytealg.MaxLen", "hurdle/ins.operations"], apart := false, laid := [("hurdle/ins.operations", laid_hurdle_ins_operations)] }
def RunLoadsSaid : Prop := runLoadsRow.holds Tryd.pinned (OpenSpec.ofChange runLoadsSpec)

/-- ITS FALSE NEIGHBOUR: 'it returns false'. Refute it at one input. -/
def runLoadsWrong : ChangeSpec := { name := "runLoads", fn := fun _ => fun
  | [d1, d2, d3, d4] => { results := [.lit (.bool false)], args := [d1, d2, d3, d4] }
  | _ => none }
def RunLoadsWrongFalsely : Prop := runLoadsRow.holds Tryd.pinned (OpenSpec.ofChange runLoadsWrong)

/-- 'hurdlelaw06.RunBehind': WHATEVER THE INPUT: true; the input reads as it did. -/
def runBehindSpec : ChangeSpec := { name := "runBehind", fn := fun _ => fun
  | [d1, d2, d3] => { results := [.lit (.bool true)], args := [d1, d2, d3] }
  | _ => none }
def runBehindRow : OpenClaim := { program := "ytkcjkamfcgdibaadoor", sum := "6db0c0e768e909817dee9595fdb77ff15fc68face1b25a1ed6280d9343c9087a", func := "hurdle/hurdlelaw06.RunBehind", spec := "runBehind", inPlace := ["internal/bytealg.IndexByteString", "internal/bytealg.IndexString"], unfollowed := true, recurses := true, named := ["internal/bytealg.MaxLen", "hurdle/ins.operations"], apart := false, laid := [("hurdle/ins.operations", laid_hurdle_ins_operations)] }
def RunBehindSaid : Prop := runBehindRow.holds Tryd.pinned (OpenSpec.ofChange runBehindSpec)

/-- ITS FALSE NEIGHBOUR: 'it returns false'. Refute it at one input. -/
def runBehindWrong : ChangeSpec := { name := "runBehind", fn := fun _ => fun
  | [d1, d2, d3] => { results := [.lit (.bool false)], args := [d1, d2, d3] }
  | _ => none }
def RunBehindWrongFalsely : Prop := runBehindRow.holds Tryd.pinned (OpenSpec.ofChange runBehindWrong)

/-- 'hurdlelaw06.RunJumps': WHATEVER THE INPUT: true; the input reads as it did. -/
def runJumpsSpec : ChangeSpec := { name := "runJumps", fn := fun _ => fun
  | [d1, d2, d3] => { results := [.lit (.bool true)], args := [d1, d2, d3] }
  | _ => none }
def runJumpsRow : OpenClaim := { program := "ytkcjkamfcgdibaadoor", sum := "6db0c0e768e909817dee9595fdb77ff15fc68face1b25a1ed6280d9343c9087a", func := "hurdle/hurdlelaw06.RunJumps", spec := "runJumps", inPlace := ["internal/bytealg.IndexByteString", "internal/bytealg.IndexString"], unfollowed := true, recurses := true, named := ["internal/bytealg.MaxLen", "hurdle/ins.operations"], apart := false, laid := [("hurdle/ins.operations", laid_hurdle_ins_operations)] }
def RunJumpsSaid : Prop := runJumpsRow.holds Tryd.pinned (OpenSpec.ofChange runJumpsSpec)

/-- ITS FALSE NEIGHBOUR: 'it returns false'. Refute it at one input. -/
def runJumpsWrong : ChangeSpec := { name := "runJumps", fn := fun _ => fun
  | [d1, d2, d3] => { results := [.lit (.bool false)], args := [d1, d2, d3] }
  | _ => none }
def RunJumpsWrongFalsely : Prop := runJumpsRow.holds Tryd.pinned (OpenSpec.ofChange runJumpsWrong)

/-- 'hurdlelaw06.RunFlips': WHATEVER THE INPUT: true; the input reads as it did. -/
def runFlipsSpec : ChangeSpec := { name := "runFlips", fn := fun _ => fun
  | [d1, d2] => { results := [.lit (.bool true)], args := [d1, d2] }
  | _ => none }
def runFlipsRow : OpenClaim := { program := "ytkcjkamfcgdibaadoor", sum := "6db0c0e768e909817dee9595fdb77ff15fc68face1b25a1ed6280d9343c9087a", func := "hurdle/hurdlelaw06.RunFlips", spec := "runFlips", inPlace := ["internal/bytealg.IndexByteString", "internal/bytealg.IndexString"], unfollowed := true, recurses := true, named := ["internal/bytealg.MaxLen", "hurdle/ins.operations"], apart := false, laid := [("hurdle/ins.operations", laid_hurdle_ins_operations)] }
def RunFlipsSaid : Prop := runFlipsRow.holds Tryd.pinned (OpenSpec.ofChange runFlipsSpec)

/-- ITS FALSE NEIGHBOUR: 'it returns false'. Refute it at one input. -/
def runFlipsWrong : ChangeSpec := { name := "runFlips", fn := fun _ => fun
  | [d1, d2] => { results := [.lit (.bool false)], args := [d1, d2] }
  | _ => none }
def RunFlipsWrongFalsely : Prop := runFlipsRow.holds Tryd.pinned (OpenSpec.ofChange runFlipsWrong)

/- THE SECOND FORM. 'bulk': how many values and letters a reading holds, each counted each time it is reached (what is shared counts as often as it is met; a slice's spare places count too). A statement '..UptoSaid' is the law's where the arguments, and the package variables that the reading takes, are together of bulk at most 1048576: NARROWER than '..Said'. Prove '..Said' where nothing that the law and all that it calls make is longer than what came in: it says more and counts as full. Else prove '..UptoSaid'. A law counts once. -/
mutual
def uptoBulk {H : Type} : DataW H → Nat
  | .lit (.string bytes) => bytes.length + 1
  | .lit _ => 1
  | .nil => 1
  | .ptr d => uptoBulk d + 1
  | .slice elems spare => uptoBulkAll elems + uptoBulkAll spare + 1
  | .agg parts => uptoBulkAll parts + 1
  | .iface _ d => uptoBulk d + 1
  | .map entries => uptoBulkEntries entries + 1
  | .held _ => 1
def uptoBulkAll {H : Type} : List (DataW H) → Nat
  | [] => 0
  | d :: r => uptoBulk d + uptoBulkAll r
def uptoBulkEntries {H : Type} : List (Lit × DataW H) → Nat
  | [] => 0
  | x :: r => uptoBulkEntry x + uptoBulkEntries r
def uptoBulkEntry {H : Type} : Lit × DataW H → Nat
  | (.string bytes, d) => bytes.length + uptoBulk d + 1
  | (_, d) => uptoBulk d + 1
 end
def uptoSmall : (H : Type) → List (DataW H) → Bool := fun _ ds => decide (uptoBulkAll ds ≤ 1048576)
def OpenSpec.upto (s : _root_.Go.ChangeSpec) : _root_.Go.OpenSpec := { _root_.Go.OpenSpec.ofChange s with cond := some uptoSmall }

/-- 'hurdlelaw06.RunSteps', WHERE WHAT IT READS IS OF BULK AT MOST 1048576: true; the input reads as it did. -/
def runStepsUptoRow : OpenClaim := { program := "ytkcjkamfcgdibaadoor", sum := "6db0c0e768e909817dee9595fdb77ff15fc68face1b25a1ed6280d9343c9087a", func := "hurdle/hurdlelaw06.RunSteps", spec := "runSteps", inPlace := ["internal/bytealg.IndexByteString", "internal/bytealg.IndexString"], unfollowed := true, recurses := true, named := ["hurdle/ins.operations", "internal/bytealg.MaxLen"], apart := false, laid := [("hurdle/ins.operations", laid_hurdle_ins_operations)], narrowed := true }
def RunStepsUptoSaid : Prop := runStepsUptoRow.holds Tryd.pinned (OpenSpec.upto runStepsSpec)

/-- 'hurdlelaw06.RunRuns', WHERE WHAT IT READS IS OF BULK AT MOST 1048576: true; the input reads as it did. -/
def runRunsUptoRow : OpenClaim := { program := "ytkcjkamfcgdibaadoor", sum := "6db0c0e768e909817dee9595fdb77ff15fc68face1b25a1ed6280d9343c9087a", func := "hurdle/hurdlelaw06.RunRuns", spec := "runRuns", inPlace := ["internal/bytealg.IndexByteString", "internal/bytealg.IndexString"], unfollowed := true, recurses := true, named := ["internal/bytealg.MaxLen", "hurdle/ins.operations"], apart := false, laid := [("hurdle/ins.operations", laid_hurdle_ins_operations)], narrowed := true }
def RunRunsUptoSaid : Prop := runRunsUptoRow.holds Tryd.pinned (OpenSpec.upto runRunsSpec)

/-- 'hurdlelaw06.RunEnds', WHERE WHAT IT READS IS OF BULK AT MOST 1048576: true; the input reads as it did. -/
def runEndsUptoRow : OpenClaim := { program := "ytkcjkamfcgdibaadoor", sum := "6db0c0e768e909817dee9595fdb77ff15fc68face1b25a1ed6280d9343c9087a", func := "hurdle/hurdlelaw06.RunEnds", spec := "runEnds", inPlace := ["internal/bytealg.IndexByteString", "internal/bytealg.IndexString"], unfollowed := true, recurses := true, named := ["internal/bytealg.MaxLen", "hurdle/ins.operations"], apart := false, laid := [("hurdle/ins.operations", laid_hurdle_ins_operations)], narrowed := true }
def RunEndsUptoSaid : Prop := runEndsUptoRow.holds Tryd.pinned (OpenSpec.upto runEndsSpec)

/-- 'hurdlelaw06.RunLoads', WHERE WHAT IT READS IS OF BULK AT MOST 1048576: true; the input reads as it did. -/
def runLoadsUptoRow : OpenClaim := { program := "ytkcjkamfcgdibaadoor", sum := "6db0c0e768e909817dee9595fdb77ff15fc68face1b25a1ed6280d9343c9087a", func := "hurdle/hurdlelaw06.RunLoads", spec := "runLoads", inPlace := ["internal/bytealg.IndexByteString", "internal/bytealg.IndexString"], unfollowed := true, recurses := true, named := ["internal/bytealg.MaxLen", "hurdle/ins.operations"], apart := false, laid := [("hurdle/ins.operations", laid_hurdle_ins_operations)], narrowed := true }
def RunLoadsUptoSaid : Prop := runLoadsUptoRow.holds Tryd.pinned (OpenSpec.upto runLoadsSpec)

/-- 'hurdlelaw06.RunBehind', WHERE WHAT IT READS IS OF BULK AT MOST 1048576: true; the input reads as it did. -/
def runBehindUptoRow : OpenClaim := { program := "ytkcjkamfcgdibaadoor", sum := "6db0c0e768e909817dee9595fdb77ff15fc68face1b25a1ed6280d9343c9087a", func := "hurdle/hurdlelaw06.RunBehind", spec := "runBehind", inPlace := ["internal/bytealg.IndexByteString", "internal/bytealg.IndexString"], unfollowed := true, recurses := true, named := ["internal/bytealg.MaxLen", "hurdle/ins.operations"], apart := false, laid := [("hurdle/ins.operations", laid_hurdle_ins_operations)], narrowed := true }
def RunBehindUptoSaid : Prop := runBehindUptoRow.holds Tryd.pinned (OpenSpec.upto runBehindSpec)

/-- 'hurdlelaw06.RunJumps', WHERE WHAT IT READS IS OF BULK AT MOST 1048576: true; the input reads as it did. -/
def runJumpsUptoRow : OpenClaim := { program := "ytkcjkamfcgdibaadoor", sum := "6db0c0e768e909817dee9595fdb77ff15fc68face1b25a1ed6280d9343c9087a", func := "hurdle/hurdlelaw06.RunJumps", spec := "runJumps", inPlace := ["internal/bytealg.IndexByteString", "internal/bytealg.IndexString"], unfollowed := true, recurses := true, named := ["internal/bytealg.MaxLen", "hurdle/ins.operations"], apart := false, laid := [("hurdle/ins.operations", laid_hurdle_ins_operations)], narrowed := true }
def RunJumpsUptoSaid : Prop := runJumpsUptoRow.holds Tryd.pinned (OpenSpec.upto runJumpsSpec)

/-- 'hurdlelaw06.RunFlips', WHERE WHAT IT READS IS OF BULK AT MOST 1048576: true; the input reads as it did. -/
def runFlipsUptoRow : OpenClaim := { program := "ytkcjkamfcgdibaadoor", sum := "6db0c0e768e909817dee9595fdb77ff15fc68face1b25a1ed6280d9343c9087a", func := "hurdle/hurdlelaw06.RunFlips", spec := "runFlips", inPlace := ["internal/bytealg.IndexByteString", "internal/bytealg.IndexString"], unfollowed := true, recurses := true, named := ["internal/bytealg.MaxLen", "hurdle/ins.operations"], apart := false, laid := [("hurdle/ins.operations", laid_hurdle_ins_operations)], narrowed := true }
def RunFlipsUptoSaid : Prop := runFlipsUptoRow.holds Tryd.pinned (OpenSpec.upto runFlipsSpec)

end Rows
end Go.Proofs.YtkcjkamfcgdibaaDoor
