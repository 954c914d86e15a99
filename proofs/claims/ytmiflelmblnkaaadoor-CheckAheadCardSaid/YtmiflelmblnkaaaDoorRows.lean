/-
  NARROWER THAN 'FOR EVERY INPUT', by the rows' own cells (each row's printed sentence says how): CheckTells: laid · CheckNext: laid · CheckForward: laid · CheckBytes: laid · CheckBehind: laid · CheckAhead: laid · CheckPlaces: laid.
  DERIVED. THE GIVEN ROWS OF THIS SEAT. 7 by the template 'for every input the law returns true; each argument reads behind the call as it read before'; 0 by the template 'total and deterministic' (their statements: YtmiflelmblnkaaaDoorTotals.lean).
  GIVEN WITH THE SEED: the statements are not yours to turn. If you find one false, say at which input.
  Laid BY PROGRAM, IN A SANDBOX (cutbox-rows.mjs): the forced cells as the released guide's own fill.sh prints them over the translation e744b885d8b63c1c… (all of the seat's roots in one cut). By AI agents, Wed Nov 11 2026. No macro, syntax, notation, axiom, sorry.
-/
import Derived.Test.YtmiflelmblnkaaaDoorChecked
import GoSem.Claim
import GoSem.ClaimJoined
import GoSem.ClaimMapViews
import Derived.JoinedTies
import Derived.KernelRfl
namespace Go.Proofs.YtmiflelmblnkaaaDoor
/- THE CELL 'sum', in the pinned program and in every row, IS THE sha256 OF THE DUMP (.gsa) THAT YtmiflelmblnkaaaDoorProg.lean LOADS. Nothing in Lean hashes anything: it is a label: what it is worth is what the hold of that sum in a sandbox is worth. -/
noncomputable def Tryd.pinned : Pinned := { name := "ytmiflelmblnkaaadoor", sum := "e744b885d8b63c1cd70789308e4d5aef52dcb01a93517a44ce35b527a7281a1e", checked := Tryd.checked }
namespace Rows
def none {H : Type} : Left H := { results := [], args := [] }

/- WHAT THE LISTED PACKAGE-LEVEL VARIABLES READ AS WHEN THE CALL BEGINS. Each datum BY PROGRAM (the guide's laid-datum.mjs) off the statement by which the dump's own 'gosem.cut.vars' lays the variable. In a bare row this is a premise. The card (YtmiflelmblnkaaaDoorCards.lean) ties it to the program's text. -/
def laid_hurdle_ins_operations {H : Type} : DataW H := .agg [.agg [.lit (.int .i64 0), .lit (.string [108, 100]), .lit (.int .i64 2)], .agg [.lit (.int .i64 1), .lit (.string [108, 100, 120]), .lit (.int .i64 2)], .agg [.lit (.int .i64 2), .lit (.string [115, 116]), .lit (.int .i64 2)], .agg [.lit (.int .i64 3), .lit (.string [115, 116, 120]), .lit (.int .i64 2)], .agg [.lit (.int .i64 32), .lit (.string [97, 98, 115]), .lit (.int .i64 2)], .agg [.lit (.int .i64 96), .lit (.string [109, 101, 109]), .lit (.int .i64 2)], .agg [.lit (.int .i64 97), .lit (.string [109, 101, 109, 120]), .lit (.int .i64 2)], .agg [.lit (.int .i64 5), .lit (.string [106, 97]), .lit (.int .i64 2)], .agg [.lit (.int .i64 6), .lit (.string [114, 101, 116]), .lit (.int .i64 2)], .agg [.lit (.int .i64 4), .lit (.string [97, 100, 100]), .lit (.int .i64 3)], .agg [.lit (.int .i64 20), .lit (.string [115, 117, 98]), .lit (.int .i64 3)], .agg [.lit (.int .i64 36), .lit (.string [109, 117, 108]), .lit (.int .i64 3)], .agg [.lit (.int .i64 52), .lit (.string [100, 105, 118]), .lit (.int .i64 3)], .agg [.lit (.int .i64 68), .lit (.string [111, 114]), .lit (.int .i64 3)], .agg [.lit (.int .i64 84), .lit (.string [97, 110, 100]), .lit (.int .i64 3)], .agg [.lit (.int .i64 100), .lit (.string [108, 115, 104]), .lit (.int .i64 3)], .agg [.lit (.int .i64 116), .lit (.string [114, 115, 104]), .lit (.int .i64 3)], .agg [.lit (.int .i64 164), .lit (.string [120, 111, 114]), .lit (.int .i64 3)], .agg [.lit (.int .i64 12), .lit (.string [97, 100, 100, 120]), .lit (.int .i64 1)], .agg [.lit (.int .i64 28), .lit (.string [115, 117, 98, 120]), .lit (.int .i64 1)], .agg [.lit (.int .i64 44), .lit (.string [109, 117, 108, 120]), .lit (.int .i64 1)], .agg [.lit (.int .i64 60), .lit (.string [100, 105, 118, 120]), .lit (.int .i64 1)], .agg [.lit (.int .i64 76), .lit (.string [111, 114, 120]), .lit (.int .i64 1)], .agg [.lit (.int .i64 92), .lit (.string [97, 110, 100, 120]), .lit (.int .i64 1)], .agg [.lit (.int .i64 108), .lit (.string [108, 115, 104, 120]), .lit (.int .i64 1)], .agg [.lit (.int .i64 124), .lit (.string [114, 115, 104, 120]), .lit (.int .i64 1)], .agg [.lit (.int .i64 172), .lit (.string [120, 111, 114, 120]), .lit (.int .i64 1)], .agg [.lit (.int .i64 132), .lit (.string [110, 101, 103]), .lit (.int .i64 0)], .agg [.lit (.int .i64 7), .lit (.string [116, 97, 120]), .lit (.int .i64 0)], .agg [.lit (.int .i64 135), .lit (.string [116, 120, 97]), .lit (.int .i64 0)], .agg [.lit (.int .i64 22), .lit (.string [114, 101, 116, 97]), .lit (.int .i64 0)], .agg [.lit (.int .i64 21), .lit (.string [106, 101, 113]), .lit (.int .i64 5)], .agg [.lit (.int .i64 37), .lit (.string [106, 103, 116]), .lit (.int .i64 5)], .agg [.lit (.int .i64 53), .lit (.string [106, 103, 101]), .lit (.int .i64 5)], .agg [.lit (.int .i64 69), .lit (.string [106, 115, 101, 116]), .lit (.int .i64 5)], .agg [.lit (.int .i64 29), .lit (.string [106, 101, 113, 120]), .lit (.int .i64 4)], .agg [.lit (.int .i64 45), .lit (.string [106, 103, 116, 120]), .lit (.int .i64 4)], .agg [.lit (.int .i64 61), .lit (.string [106, 103, 101, 120]), .lit (.int .i64 4)], .agg [.lit (.int .i64 77), .lit (.string [106, 115, 101, 116, 120]), .lit (.int .i64 4)]]
def laid_math_bits_deBruijn32tab {H : Type} : DataW H := .agg [.lit (.int .u8 0), .lit (.int .u8 1), .lit (.int .u8 28), .lit (.int .u8 2), .lit (.int .u8 29), .lit (.int .u8 14), .lit (.int .u8 24), .lit (.int .u8 3), .lit (.int .u8 30), .lit (.int .u8 22), .lit (.int .u8 20), .lit (.int .u8 15), .lit (.int .u8 25), .lit (.int .u8 17), .lit (.int .u8 4), .lit (.int .u8 8), .lit (.int .u8 31), .lit (.int .u8 27), .lit (.int .u8 13), .lit (.int .u8 23), .lit (.int .u8 21), .lit (.int .u8 19), .lit (.int .u8 16), .lit (.int .u8 7), .lit (.int .u8 26), .lit (.int .u8 12), .lit (.int .u8 18), .lit (.int .u8 6), .lit (.int .u8 11), .lit (.int .u8 5), .lit (.int .u8 10), .lit (.int .u8 9)]
def laid_math_bits_deBruijn64tab {H : Type} : DataW H := .agg [.lit (.int .u8 0), .lit (.int .u8 1), .lit (.int .u8 56), .lit (.int .u8 2), .lit (.int .u8 57), .lit (.int .u8 49), .lit (.int .u8 28), .lit (.int .u8 3), .lit (.int .u8 61), .lit (.int .u8 58), .lit (.int .u8 42), .lit (.int .u8 50), .lit (.int .u8 38), .lit (.int .u8 29), .lit (.int .u8 17), .lit (.int .u8 4), .lit (.int .u8 62), .lit (.int .u8 47), .lit (.int .u8 59), .lit (.int .u8 36), .lit (.int .u8 45), .lit (.int .u8 43), .lit (.int .u8 51), .lit (.int .u8 22), .lit (.int .u8 53), .lit (.int .u8 39), .lit (.int .u8 33), .lit (.int .u8 30), .lit (.int .u8 24), .lit (.int .u8 18), .lit (.int .u8 12), .lit (.int .u8 5), .lit (.int .u8 63), .lit (.int .u8 55), .lit (.int .u8 48), .lit (.int .u8 27), .lit (.int .u8 60), .lit (.int .u8 41), .lit (.int .u8 37), .lit (.int .u8 16), .lit (.int .u8 46), .lit (.int .u8 35), .lit (.int .u8 44), .lit (.int .u8 21), .lit (.int .u8 52), .lit (.int .u8 32), .lit (.int .u8 23), .lit (.int .u8 11), .lit (.int .u8 54), .lit (.int .u8 26), .lit (.int .u8 40), .lit (.int .u8 15), .lit (.int .u8 34), .lit (.int .u8 20), .lit (.int .u8 31), .lit (.int .u8 10), .lit (.int .u8 25), .lit (.int .u8 14), .lit (.int .u8 19), .lit (.int .u8 9), .lit (.int .u8 13), .lit (.int .u8 8), .lit (.int .u8 7), .lit (.int .u8 6)]
def laid_internal_strconv_uint64pow10 {H : Type} : DataW H := .agg [.lit (.int .u64 1), .lit (.int .u64 10), .lit (.int .u64 100), .lit (.int .u64 1000), .lit (.int .u64 10000), .lit (.int .u64 100000), .lit (.int .u64 1000000), .lit (.int .u64 10000000), .lit (.int .u64 100000000), .lit (.int .u64 1000000000), .lit (.int .u64 10000000000), .lit (.int .u64 100000000000), .lit (.int .u64 1000000000000), .lit (.int .u64 10000000000000), .lit (.int .u64 100000000000000), .lit (.int .u64 1000000000000000), .lit (.int .u64 10000000000000000), .lit (.int .u64 100000000000000000), .lit (.int .u64 1000000000000000000), .lit (.int .u64 10000000000000000000)]

/-- 'hurdlelaw05.CheckTells': WHATEVER THE INPUT: true; the input reads as it did. -/
def checkTellsSpec : ChangeSpec := { name := "checkTells", fn := fun _ => fun
  | [d] => { results := [.lit (.bool true)], args := [d] }
  | _ => none }
def checkTellsRow : OpenClaim := { program := "ytmiflelmblnkaaadoor", sum := "e744b885d8b63c1cd70789308e4d5aef52dcb01a93517a44ce35b527a7281a1e", func := "hurdle/hurdlelaw05.CheckTells", spec := "checkTells", inPlace := ["internal/bytealg.IndexByteString", "internal/bytealg.IndexString"], unfollowed := true, recurses := true, named := ["internal/bytealg.MaxLen", "hurdle/ins.operations"], apart := false, laid := [("hurdle/ins.operations", laid_hurdle_ins_operations)] }
def CheckTellsSaid : Prop := checkTellsRow.holds Tryd.pinned (OpenSpec.ofChange checkTellsSpec)

/-- ITS FALSE NEIGHBOUR: 'it returns false'. Refute it at one input. -/
def checkTellsWrong : ChangeSpec := { name := "checkTells", fn := fun _ => fun
  | [d] => { results := [.lit (.bool false)], args := [d] }
  | _ => none }
def CheckTellsWrongFalsely : Prop := checkTellsRow.holds Tryd.pinned (OpenSpec.ofChange checkTellsWrong)

/-- 'hurdlelaw05.CheckNext': WHATEVER THE INPUT: true; the input reads as it did. -/
def checkNextSpec : ChangeSpec := { name := "checkNext", fn := fun _ => fun
  | [d1, d2] => { results := [.lit (.bool true)], args := [d1, d2] }
  | _ => none }
def checkNextRow : OpenClaim := { program := "ytmiflelmblnkaaadoor", sum := "e744b885d8b63c1cd70789308e4d5aef52dcb01a93517a44ce35b527a7281a1e", func := "hurdle/hurdlelaw05.CheckNext", spec := "checkNext", inPlace := ["internal/bytealg.IndexByteString", "internal/bytealg.IndexString"], unfollowed := true, recurses := true, named := ["internal/bytealg.MaxLen", "hurdle/ins.operations"], apart := false, laid := [("hurdle/ins.operations", laid_hurdle_ins_operations)] }
def CheckNextSaid : Prop := checkNextRow.holds Tryd.pinned (OpenSpec.ofChange checkNextSpec)

/-- ITS FALSE NEIGHBOUR: 'it returns false'. Refute it at one input. -/
def checkNextWrong : ChangeSpec := { name := "checkNext", fn := fun _ => fun
  | [d1, d2] => { results := [.lit (.bool false)], args := [d1, d2] }
  | _ => none }
def CheckNextWrongFalsely : Prop := checkNextRow.holds Tryd.pinned (OpenSpec.ofChange checkNextWrong)

/-- 'hurdlelaw05.CheckForward': WHATEVER THE INPUT: true; the input reads as it did. -/
def checkForwardSpec : ChangeSpec := { name := "checkForward", fn := fun _ => fun
  | [d] => { results := [.lit (.bool true)], args := [d] }
  | _ => none }
def checkForwardRow : OpenClaim := { program := "ytmiflelmblnkaaadoor", sum := "e744b885d8b63c1cd70789308e4d5aef52dcb01a93517a44ce35b527a7281a1e", func := "hurdle/hurdlelaw05.CheckForward", spec := "checkForward", inPlace := ["internal/bytealg.IndexByteString", "internal/bytealg.IndexString"], unfollowed := true, recurses := true, named := ["internal/bytealg.MaxLen", "hurdle/ins.operations"], apart := false, laid := [("hurdle/ins.operations", laid_hurdle_ins_operations)] }
def CheckForwardSaid : Prop := checkForwardRow.holds Tryd.pinned (OpenSpec.ofChange checkForwardSpec)

/-- ITS FALSE NEIGHBOUR: 'it returns false'. Refute it at one input. -/
def checkForwardWrong : ChangeSpec := { name := "checkForward", fn := fun _ => fun
  | [d] => { results := [.lit (.bool false)], args := [d] }
  | _ => none }
def CheckForwardWrongFalsely : Prop := checkForwardRow.holds Tryd.pinned (OpenSpec.ofChange checkForwardWrong)

/-- 'hurdlelaw05.CheckBytes': WHATEVER THE INPUT: true; the input reads as it did. -/
def checkBytesSpec : ChangeSpec := { name := "checkBytes", fn := fun _ => fun
  | [d] => { results := [.lit (.bool true)], args := [d] }
  | _ => none }
def checkBytesRow : OpenClaim := { program := "ytmiflelmblnkaaadoor", sum := "e744b885d8b63c1cd70789308e4d5aef52dcb01a93517a44ce35b527a7281a1e", func := "hurdle/hurdlelaw05.CheckBytes", spec := "checkBytes", inPlace := ["internal/bytealg.IndexByteString", "internal/bytealg.IndexString", "internal/abi.NoEscape"], unfollowed := true, recurses := true, named := ["hurdle/ins.operations", "internal/bytealg.MaxLen", "internal/strconv.uint64pow10", "math/bits.deBruijn32tab", "math/bits.deBruijn64tab"], apart := false, laid := [("math/bits.deBruijn32tab", laid_math_bits_deBruijn32tab), ("math/bits.deBruijn64tab", laid_math_bits_deBruijn64tab), ("internal/strconv.uint64pow10", laid_internal_strconv_uint64pow10), ("hurdle/ins.operations", laid_hurdle_ins_operations)] }
def CheckBytesSaid : Prop := checkBytesRow.holds Tryd.pinned (OpenSpec.ofChange checkBytesSpec)

/-- ITS FALSE NEIGHBOUR: 'it returns false'. Refute it at one input. -/
def checkBytesWrong : ChangeSpec := { name := "checkBytes", fn := fun _ => fun
  | [d] => { results := [.lit (.bool false)], args := [d] }
  | _ => none }
def CheckBytesWrongFalsely : Prop := checkBytesRow.holds Tryd.pinned (OpenSpec.ofChange checkBytesWrong)

/-- 'hurdlelaw05.CheckBehind': WHATEVER THE INPUT: true; the input reads as it did. -/
def checkBehindSpec : ChangeSpec := { name := "checkBehind", fn := fun _ => fun
  | [d1, d2] => { results := [.lit (.bool true)], args := [d1, d2] }
  | _ => none }
def checkBehindRow : OpenClaim := { program := "ytmiflelmblnkaaadoor", sum := "e744b885d8b63c1cd70789308e4d5aef52dcb01a93517a44ce35b527a7281a1e", func := "hurdle/hurdlelaw05.CheckBehind", spec := "checkBehind", inPlace := ["internal/bytealg.IndexByteString", "internal/bytealg.IndexString"], unfollowed := true, recurses := true, named := ["internal/bytealg.MaxLen", "hurdle/ins.operations"], apart := false, laid := [("hurdle/ins.operations", laid_hurdle_ins_operations)] }
def CheckBehindSaid : Prop := checkBehindRow.holds Tryd.pinned (OpenSpec.ofChange checkBehindSpec)

/-- ITS FALSE NEIGHBOUR: 'it returns false'. Refute it at one input. -/
def checkBehindWrong : ChangeSpec := { name := "checkBehind", fn := fun _ => fun
  | [d1, d2] => { results := [.lit (.bool false)], args := [d1, d2] }
  | _ => none }
def CheckBehindWrongFalsely : Prop := checkBehindRow.holds Tryd.pinned (OpenSpec.ofChange checkBehindWrong)

/-- 'hurdlelaw05.CheckAhead': WHATEVER THE INPUT: true; the input reads as it did. -/
def checkAheadSpec : ChangeSpec := { name := "checkAhead", fn := fun _ => fun
  | [d1, d2] => { results := [.lit (.bool true)], args := [d1, d2] }
  | _ => none }
def checkAheadRow : OpenClaim := { program := "ytmiflelmblnkaaadoor", sum := "e744b885d8b63c1cd70789308e4d5aef52dcb01a93517a44ce35b527a7281a1e", func := "hurdle/hurdlelaw05.CheckAhead", spec := "checkAhead", inPlace := ["internal/bytealg.IndexByteString", "internal/bytealg.IndexString"], unfollowed := true, recurses := true, named := ["internal/bytealg.MaxLen", "hurdle/ins.operations"], apart := false, laid := [("hurdle/ins.operations", laid_hurdle_ins_operations)] }
def CheckAheadSaid : Prop := checkAheadRow.holds Tryd.pinned (OpenSpec.ofChange checkAheadSpec)

/-- ITS FALSE NEIGHBOUR: 'it returns false'. Refute it at one input. -/
def checkAheadWrong : ChangeSpec := { name := "checkAhead", fn := fun _ => fun
  | [d1, d2] => { results := [.lit (.bool false)], args := [d1, d2] }
  | _ => none }
def CheckAheadWrongFalsely : Prop := checkAheadRow.holds Tryd.pinned (OpenSpec.ofChange checkAheadWrong)

/-- 'hurdlelaw05.CheckPlaces': WHATEVER THE INPUT: true; the input reads as it did. -/
def checkPlacesSpec : ChangeSpec := { name := "checkPlaces", fn := fun _ => fun
  | [d] => { results := [.lit (.bool true)], args := [d] }
  | _ => none }
def checkPlacesRow : OpenClaim := { program := "ytmiflelmblnkaaadoor", sum := "e744b885d8b63c1cd70789308e4d5aef52dcb01a93517a44ce35b527a7281a1e", func := "hurdle/hurdlelaw05.CheckPlaces", spec := "checkPlaces", inPlace := ["internal/bytealg.IndexByteString", "internal/bytealg.IndexString"], unfollowed := true, recurses := true, named := ["internal/bytealg.MaxLen", "hurdle/ins.operations"], apart := false, laid := [("hurdle/ins.operations", laid_hurdle_ins_operations)] }
def CheckPlacesSaid : Prop := checkPlacesRow.holds Tryd.pinned (OpenSpec.ofChange checkPlacesSpec)

/-- ITS FALSE NEIGHBOUR: 'it returns false'. Refute it at one input. -/
def checkPlacesWrong : ChangeSpec := { name := "checkPlaces", fn := fun _ => fun
  | [d] => { results := [.lit (.bool false)], args := [d] }
  | _ => none }
def CheckPlacesWrongFalsely : Prop := checkPlacesRow.holds Tryd.pinned (OpenSpec.ofChange checkPlacesWrong)

/- THE SECOND FORM. 'bulk': how many values and letters a reading holds, each counted each time it is reached (what is shared counts as often as it is met; a slice's spare places count too). A statement '..UptoSaid' is the law's where the arguments, and the package variables that the reading takes, are together of bulk at most 1048576: NARROWER than '..Said'. Prove '..Said' where nothing that the law and all that it calls make is longer than what came in: it says more and counts as full. Else prove '..UptoSaid'. A law counts once. -/
mutual
def uptoBulk {H : Type} : DataW H → Nat
  | .lit (.string bytes) => bytes.length + 1
  | .lit _ => 1
  | .nil => 1
  | .ptr d => uptoBulk d + 1
  | .slice elems spare => uptoBulkAll elems + uptoBulkAll spare + 1
  | .agg parts => uptoBulkAll parts + 1
  | .iface _ d => uptoBulk d + 1
  | .map entries => uptoBulkEntries entries + 1
  | .held _ => 1
def uptoBulkAll {H : Type} : List (DataW H) → Nat
  | [] => 0
  | d :: r => uptoBulk d + uptoBulkAll r
def uptoBulkEntries {H : Type} : List (Lit × DataW H) → Nat
  | [] => 0
  | x :: r => uptoBulkEntry x + uptoBulkEntries r
def uptoBulkEntry {H : Type} : Lit × DataW H → Nat
  | (.string bytes, d) => bytes.length + uptoBulk d + 1
  | (_, d) => uptoBulk d + 1
 end
def uptoSmall : (H : Type) → List (DataW H) → Bool := fun _ ds => decide (uptoBulkAll ds ≤ 1048576)
def OpenSpec.upto (s : _root_.Go.ChangeSpec) : _root_.Go.OpenSpec := { _root_.Go.OpenSpec.ofChange s with cond := some uptoSmall }

/-- 'hurdlelaw05.CheckTells', WHERE WHAT IT READS IS OF BULK AT MOST 1048576: true; the input reads as it did. -/
def checkTellsUptoRow : OpenClaim := { program := "ytmiflelmblnkaaadoor", sum := "e744b885d8b63c1cd70789308e4d5aef52dcb01a93517a44ce35b527a7281a1e", func := "hurdle/hurdlelaw05.CheckTells", spec := "checkTells", inPlace := ["internal/bytealg.IndexByteString", "internal/bytealg.IndexString"], unfollowed := true, recurses := true, named := ["internal/bytealg.MaxLen", "hurdle/ins.operations"], apart := false, laid := [("hurdle/ins.operations", laid_hurdle_ins_operations)], narrowed := true }
def CheckTellsUptoSaid : Prop := checkTellsUptoRow.holds Tryd.pinned (OpenSpec.upto checkTellsSpec)

/-- 'hurdlelaw05.CheckNext', WHERE WHAT IT READS IS OF BULK AT MOST 1048576: true; the input reads as it did. -/
def checkNextUptoRow : OpenClaim := { program := "ytmiflelmblnkaaadoor", sum := "e744b885d8b63c1cd70789308e4d5aef52dcb01a93517a44ce35b527a7281a1e", func := "hurdle/hurdlelaw05.CheckNext", spec := "checkNext", inPlace := ["internal/bytealg.IndexByteString", "internal/bytealg.IndexString"], unfollowed := true, recurses := true, named := ["internal/bytealg.MaxLen", "hurdle/ins.operations"], apart := false, laid := [("hurdle/ins.operations", laid_hurdle_ins_operations)], narrowed := true }
def CheckNextUptoSaid : Prop := checkNextUptoRow.holds Tryd.pinned (OpenSpec.upto checkNextSpec)

/-- 'hurdlelaw05.CheckForward', WHERE WHAT IT READS IS OF BULK AT MOST 1048576: true; the input reads as it did. -/
def checkForwardUptoRow : OpenClaim := { program := "ytmiflelmblnkaaadoor", sum := "e744b885d8b63c1cd70789308e4d5aef52dcb01a93517a44ce35b527a7281a1e", func := "hurdle/hurdlelaw05.CheckForward", spec := "checkForward", inPlace := ["internal/bytealg.IndexByteString", "internal/bytealg.IndexString"], unfollowed := true, recurses := true, named := ["internal/bytealg.MaxLen", "hurdle/ins.operations"], apart := false, laid := [("hurdle/ins.operations", laid_hurdle_ins_operations)], narrowed := true }
def CheckForwardUptoSaid : Prop := checkForwardUptoRow.holds Tryd.pinned (OpenSpec.upto checkForwardSpec)

/-- 'hurdlelaw05.CheckBytes', WHERE WHAT IT READS IS OF BULK AT MOST 1048576: true; the input reads as it did. -/
def checkBytesUptoRow : OpenClaim := { program := "ytmiflelmblnkaaadoor", sum := "e744b885d8b63c1cd70789308e4d5aef52dcb01a93517a44ce35b527a7281a1e", func := "hurdle/hurdlelaw05.CheckBytes", spec := "checkBytes", inPlace := ["internal/bytealg.IndexByteString", "internal/bytealg.IndexString", "internal/abi.NoEscape"], unfollowed := true, recurses := true, named := ["hurdle/ins.operations", "internal/bytealg.MaxLen", "internal/strconv.uint64pow10", "math/bits.deBruijn32tab", "math/bits.deBruijn64tab"], apart := false, laid := [("math/bits.deBruijn32tab", laid_math_bits_deBruijn32tab), ("math/bits.deBruijn64tab", laid_math_bits_deBruijn64tab), ("internal/strconv.uint64pow10", laid_internal_strconv_uint64pow10), ("hurdle/ins.operations", laid_hurdle_ins_operations)], narrowed := true }
def CheckBytesUptoSaid : Prop := checkBytesUptoRow.holds Tryd.pinned (OpenSpec.upto checkBytesSpec)

/-- 'hurdlelaw05.CheckBehind', WHERE WHAT IT READS IS OF BULK AT MOST 1048576: true; the input reads as it did. -/
def checkBehindUptoRow : OpenClaim := { program := "ytmiflelmblnkaaadoor", sum := "e744b885d8b63c1cd70789308e4d5aef52dcb01a93517a44ce35b527a7281a1e", func := "hurdle/hurdlelaw05.CheckBehind", spec := "checkBehind", inPlace := ["internal/bytealg.IndexByteString", "internal/bytealg.IndexString"], unfollowed := true, recurses := true, named := ["internal/bytealg.MaxLen", "hurdle/ins.operations"], apart := false, laid := [("hurdle/ins.operations", laid_hurdle_ins_operations)], narrowed := true }
def CheckBehindUptoSaid : Prop := checkBehindUptoRow.holds Tryd.pinned (OpenSpec.upto checkBehindSpec)

/-- 'hurdlelaw05.CheckAhead', WHERE WHAT IT READS IS OF BULK AT MOST 1048576: true; the input reads as it did. -/
def checkAheadUptoRow : OpenClaim := { program := "ytmiflelmblnkaaadoor", sum := "e744b885d8b63c1cd70789308e4d5aef52dcb01a93517a44ce35b527a7281a1e", func := "hurdle/hurdlelaw05.CheckAhead", spec := "checkAhead", inPlace := ["internal/bytealg.IndexByteString", "internal/bytealg.IndexString"], unfollowed := true, recurses := true, named := ["internal/bytealg.MaxLen", "hurdle/ins.operations"], apart := false, laid := [("hurdle/ins.operations", laid_hurdle_ins_operations)], narrowed := true }
def CheckAheadUptoSaid : Prop := checkAheadUptoRow.holds Tryd.pinned (OpenSpec.upto checkAheadSpec)

/-- 'hurdlelaw05.CheckPlaces', WHERE WHAT IT READS IS OF BULK AT MOST 1048576: true; the input reads as it did. -/
def checkPlacesUptoRow : OpenClaim := { program := "ytmiflelmblnkaaadoor", sum := "e744b885d8b63c1cd70789308e4d5aef52dcb01a93517a44ce35b527a7281a1e", func := "hurdle/hurdlelaw05.CheckPlaces", spec := "checkPlaces", inPlace := ["internal/bytealg.IndexByteString", "internal/bytealg.IndexString"], unfollowed := true, recurses := true, named := ["internal/bytealg.MaxLen", "hurdle/ins.operations"], apart := false, laid := [("hurdle/ins.operations", laid_hurdle_ins_operations)], narrowed := true }
def CheckPlacesUptoSaid : Prop := checkPlacesUptoRow.holds Tryd.pinned (OpenSpec.upto checkPlacesSpec)

end Rows
end Go.Proofs.YtmiflelmblnkaaaDoor
