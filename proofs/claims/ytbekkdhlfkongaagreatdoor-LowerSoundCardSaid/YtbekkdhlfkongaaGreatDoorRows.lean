/-
  NARROWER THAN 'FOR EVERY INPUT', by the rows' own cells (each row's printed sentence says how): LowerMeans: laid · LowerEdges: laid · LowerSound: laid · LowerAlike: laid · LowerTests: laid.
  DERIVED. THE GIVEN ROWS OF THIS SEAT. 5 by the template 'for every input the law returns true; each argument reads behind the call as it read before'; 0 by the template 'total and deterministic' (their statements: YtbekkdhlfkongaaGreatDoorTotals.lean).
  GIVEN WITH THE SEED: the statements are not yours to turn. If you find one false, say at which input.
  Laid BY PROGRAM, IN A SANDBOX (cutbox-rows.mjs): the forced cells as the released guide's own fill.sh prints them over the translation ac9d047828cc3396… (all of the seat's roots in one cut). By AI agents, Wed Nov 11 2026. No macro, syntax, notation, axiom, sorry.
-/
import Derived.Test.YtbekkdhlfkongaaGreatDoorChecked
import GoSem.Claim
import GoSem.ClaimJoined
import GoSem.ClaimMapViews
import Derived.JoinedTies
import Derived.KernelRfl
namespace Go.Proofs.YtbekkdhlfkongaaGreatDoor
/- THE CELL 'sum', in the pinned program and in every row, IS THE sha256 OF THE DUMP (.gsa) THAT YtbekkdhlfkongaaGreatDoorProg.lean LOADS. Nothing in Lean hashes anything: it is a label: what it is worth is what the hold of that sum in a sandbox is worth. -/
noncomputable def Tryz.pinned : Pinned := { name := "ytbekkdhlfkongaagreatdoor", sum := "ac9d047828cc3396b892c65c7f1b45a971e6a1ae74bf5557c6df0e89bdcc58e6", checked := Tryz.checked }
namespace Rows
def none {H : Type} : Left H := { results := [], args := [] }

/- WHAT THE LISTED PACKAGE-LEVEL VARIABLES READ AS WHEN THE CALL BEGINS. Each datum BY PROGRAM (the guide's laid-datum.mjs) off the statement by which the dump's own 'gosem.cut.vars' lays the variable. In a bare row this is a premise. The card (YtbekkdhlfkongaaGreatDoorCards.lean) ties it to the program's text. -/
def laid_math_bits_deBruijn32tab {H : Type} : DataW H := .agg [.lit (.int .u8 0), .lit (.int .u8 1), .lit (.int .u8 28), .lit (.int .u8 2), .lit (.int .u8 29), .lit (.int .u8 14), .lit (.int .u8 24), .lit (.int .u8 3), .lit (.int .u8 30), .lit (.int .u8 22), .lit (.int .u8 20), .lit (.int .u8 15), .lit (.int .u8 25), .lit (.int .u8 17), .lit (.int .u8 4), .lit (.int .u8 8), .lit (.int .u8 31), .lit (.int .u8 27), .lit (.int .u8 13), .lit (.int .u8 23), .lit (.int .u8 21), .lit (.int .u8 19), .lit (.int .u8 16), .lit (.int .u8 7), .lit (.int .u8 26), .lit (.int .u8 12), .lit (.int .u8 18), .lit (.int .u8 6), .lit (.int .u8 11), .lit (.int .u8 5), .lit (.int .u8 10), .lit (.int .u8 9)]
def laid_math_bits_deBruijn64tab {H : Type} : DataW H := .agg [.lit (.int .u8 0), .lit (.int .u8 1), .lit (.int .u8 56), .lit (.int .u8 2), .lit (.int .u8 57), .lit (.int .u8 49), .lit (.int .u8 28), .lit (.int .u8 3), .lit (.int .u8 61), .lit (.int .u8 58), .lit (.int .u8 42), .lit (.int .u8 50), .lit (.int .u8 38), .lit (.int .u8 29), .lit (.int .u8 17), .lit (.int .u8 4), .lit (.int .u8 62), .lit (.int .u8 47), .lit (.int .u8 59), .lit (.int .u8 36), .lit (.int .u8 45), .lit (.int .u8 43), .lit (.int .u8 51), .lit (.int .u8 22), .lit (.int .u8 53), .lit (.int .u8 39), .lit (.int .u8 33), .lit (.int .u8 30), .lit (.int .u8 24), .lit (.int .u8 18), .lit (.int .u8 12), .lit (.int .u8 5), .lit (.int .u8 63), .lit (.int .u8 55), .lit (.int .u8 48), .lit (.int .u8 27), .lit (.int .u8 60), .lit (.int .u8 41), .lit (.int .u8 37), .lit (.int .u8 16), .lit (.int .u8 46), .lit (.int .u8 35), .lit (.int .u8 44), .lit (.int .u8 21), .lit (.int .u8 52), .lit (.int .u8 32), .lit (.int .u8 23), .lit (.int .u8 11), .lit (.int .u8 54), .lit (.int .u8 26), .lit (.int .u8 40), .lit (.int .u8 15), .lit (.int .u8 34), .lit (.int .u8 20), .lit (.int .u8 31), .lit (.int .u8 10), .lit (.int .u8 25), .lit (.int .u8 14), .lit (.int .u8 19), .lit (.int .u8 9), .lit (.int .u8 13), .lit (.int .u8 8), .lit (.int .u8 7), .lit (.int .u8 6)]
def laid_internal_strconv_uint64pow10 {H : Type} : DataW H := .agg [.lit (.int .u64 1), .lit (.int .u64 10), .lit (.int .u64 100), .lit (.int .u64 1000), .lit (.int .u64 10000), .lit (.int .u64 100000), .lit (.int .u64 1000000), .lit (.int .u64 10000000), .lit (.int .u64 100000000), .lit (.int .u64 1000000000), .lit (.int .u64 10000000000), .lit (.int .u64 100000000000), .lit (.int .u64 1000000000000), .lit (.int .u64 10000000000000), .lit (.int .u64 100000000000000), .lit (.int .u64 1000000000000000), .lit (.int .u64 10000000000000000), .lit (.int .u64 100000000000000000), .lit (.int .u64 1000000000000000000), .lit (.int .u64 10000000000000000000)]
def laid_hurdle_ins_operations {H : Type} : DataW H := .agg [.agg [.lit (.int .i64 0), .lit (.string [108, 100]), .lit (.int .i64 2)], .agg [.lit (.int .i64 1), .lit (.string [108, 100, 120]), .lit (.int .i64 2)], .agg [.lit (.int .i64 2), .lit (.string [115, 116]), .lit (.int .i64 2)], .agg [.lit (.int .i64 3), .lit (.string [115, 116, 120]), .lit (.int .i64 2)], .agg [.lit (.int .i64 32), .lit (.string [97, 98, 115]), .lit (.int .i64 2)], .agg [.lit (.int .i64 96), .lit (.string [109, 101, 109]), .lit (.int .i64 2)], .agg [.lit (.int .i64 97), .lit (.string [109, 101, 109, 120]), .lit (.int .i64 2)], .agg [.lit (.int .i64 5), .lit (.string [106, 97]), .lit (.int .i64 2)], .agg [.lit (.int .i64 6), .lit (.string [114, 101, 116]), .lit (.int .i64 2)], .agg [.lit (.int .i64 4), .lit (.string [97, 100, 100]), .lit (.int .i64 3)], .agg [.lit (.int .i64 20), .lit (.string [115, 117, 98]), .lit (.int .i64 3)], .agg [.lit (.int .i64 36), .lit (.string [109, 117, 108]), .lit (.int .i64 3)], .agg [.lit (.int .i64 52), .lit (.string [100, 105, 118]), .lit (.int .i64 3)], .agg [.lit (.int .i64 68), .lit (.string [111, 114]), .lit (.int .i64 3)], .agg [.lit (.int .i64 84), .lit (.string [97, 110, 100]), .lit (.int .i64 3)], .agg [.lit (.int .i64 100), .lit (.string [108, 115, 104]), .lit (.int .i64 3)], .agg [.lit (.int .i64 116), .lit (.string [114, 115, 104]), .lit (.int .i64 3)], .agg [.lit (.int .i64 164), .lit (.string [120, 111, 114]), .lit (.int .i64 3)], .agg [.lit (.int .i64 12), .lit (.string [97, 100, 100, 120]), .lit (.int .i64 1)], .agg [.lit (.int .i64 28), .lit (.string [115, 117, 98, 120]), .lit (.int .i64 1)], .agg [.lit (.int .i64 44), .lit (.string [109, 117, 108, 120]), .lit (.int .i64 1)], .agg [.lit (.int .i64 60), .lit (.string [100, 105, 118, 120]), .lit (.int .i64 1)], .agg [.lit (.int .i64 76), .lit (.string [111, 114, 120]), .lit (.int .i64 1)], .agg [.lit (.int .i64 92), .lit (.string [97, 110, 100, 120]), .lit (.int .i64 1)], .agg [.lit (.int .i64 108), .lit (.string [108, 115, 104, 120]), .lit (.int .i64 1)], .agg [.lit (.int .i64 124), .lit (.string [114, 115, 104, 120]), .lit (.int .i64 1)], .agg [.lit (.int .i64 172), .lit (.string [120, 111, 114, 120]), .lit (.int .i64 1)], .agg [.lit (.int .i64 132), .lit (.string [110, 101, 103]), .lit (.int .i64 0)], .agg [.lit (.int .i64 7), .lit (.string [116, 97, 120]), .lit (.int .i64 0)], .agg [.lit (.int .i64 135), .lit (.string [116, 120, 97]), .lit (.int .i64 0)], .agg [.lit (.int .i64 22), .lit (.string [114, 101, 116, 97]), .lit (.int .i64 0)], .agg [.lit (.int .i64 21), .lit (.string [106, 101, 113]), .lit (.int .i64 5)], .agg [.lit (.int .i64 37), .lit (.string [106, 103, 116]), .lit (.int .i64 5)], .agg [.lit (.int .i64 53), .lit (.string [106, 103, 101]), .lit (.int .i64 5)], .agg [.lit (.int .i64 69), .lit (.string [106, 115, 101, 116]), .lit (.int .i64 5)], .agg [.lit (.int .i64 29), .lit (.string [106, 101, 113, 120]), .lit (.int .i64 4)], .agg [.lit (.int .i64 45), .lit (.string [106, 103, 116, 120]), .lit (.int .i64 4)], .agg [.lit (.int .i64 61), .lit (.string [106, 103, 101, 120]), .lit (.int .i64 4)], .agg [.lit (.int .i64 77), .lit (.string [106, 115, 101, 116, 120]), .lit (.int .i64 4)]]

/-- 'hurdlelaw13.LowerMeans': WHATEVER THE INPUT: true; the input reads as it did. -/
def lowerMeansSpec : ChangeSpec := { name := "lowerMeans", fn := fun _ => fun
  | [d1, d2] => { results := [.lit (.bool true)], args := [d1, d2] }
  | _ => none }
def lowerMeansRow : OpenClaim := { program := "ytbekkdhlfkongaagreatdoor", sum := "ac9d047828cc3396b892c65c7f1b45a971e6a1ae74bf5557c6df0e89bdcc58e6", func := "hurdle/hurdlelaw13.LowerMeans", spec := "lowerMeans", unfollowed := true, recurses := true, named := ["internal/strconv.uint64pow10", "math/bits.deBruijn32tab", "math/bits.deBruijn64tab", "hurdle/ins.operations"], apart := false, laid := [("math/bits.deBruijn32tab", laid_math_bits_deBruijn32tab), ("math/bits.deBruijn64tab", laid_math_bits_deBruijn64tab), ("internal/strconv.uint64pow10", laid_internal_strconv_uint64pow10), ("hurdle/ins.operations", laid_hurdle_ins_operations)] }
def LowerMeansSaid : Prop := lowerMeansRow.holds Tryz.pinned (OpenSpec.ofChange lowerMeansSpec)

/-- ITS FALSE NEIGHBOUR: 'it returns false'. Refute it at one input. -/
def lowerMeansWrong : ChangeSpec := { name := "lowerMeans", fn := fun _ => fun
  | [d1, d2] => { results := [.lit (.bool false)], args := [d1, d2] }
  | _ => none }
def LowerMeansWrongFalsely : Prop := lowerMeansRow.holds Tryz.pinned (OpenSpec.ofChange lowerMeansWrong)

/-- 'hurdlelaw13.LowerEdges': WHATEVER THE INPUT: true; the input reads as it did. -/
def lowerEdgesSpec : ChangeSpec := { name := "lowerEdges", fn := fun _ => fun
  | [d1, d2] => { results := [.lit (.bool true)], args := [d1, d2] }
  | _ => none }
def lowerEdgesRow : OpenClaim := { program := "ytbekkdhlfkongaagreatdoor", sum := "ac9d047828cc3396b892c65c7f1b45a971e6a1ae74bf5557c6df0e89bdcc58e6", func := "hurdle/hurdlelaw13.LowerEdges", spec := "lowerEdges", unfollowed := true, recurses := true, named := ["internal/strconv.uint64pow10", "math/bits.deBruijn32tab", "math/bits.deBruijn64tab", "hurdle/ins.operations"], apart := false, laid := [("math/bits.deBruijn32tab", laid_math_bits_deBruijn32tab), ("math/bits.deBruijn64tab", laid_math_bits_deBruijn64tab), ("internal/strconv.uint64pow10", laid_internal_strconv_uint64pow10), ("hurdle/ins.operations", laid_hurdle_ins_operations)] }
def LowerEdgesSaid : Prop := lowerEdgesRow.holds Tryz.pinned (OpenSpec.ofChange lowerEdgesSpec)

/-- ITS FALSE NEIGHBOUR: 'it returns false'. Refute it at one input. -/
def lowerEdgesWrong : ChangeSpec := { name := "lowerEdges", fn := fun _ => fun
  | [d1, d2] => { results := [.lit (.bool false)], args := [d1, d2] }
  | _ => none }
def LowerEdgesWrongFalsely : Prop := lowerEdgesRow.holds Tryz.pinned (OpenSpec.ofChange lowerEdgesWrong)

/-- 'hurdlelaw13.LowerSound': WHATEVER THE INPUT: true; the input reads as it did. -/
def lowerSoundSpec : ChangeSpec := { name := "lowerSound", fn := fun _ => fun
  | [d] => { results := [.lit (.bool true)], args := [d] }
  | _ => none }
def lowerSoundRow : OpenClaim := { program := "ytbekkdhlfkongaagreatdoor", sum := "ac9d047828cc3396b892c65c7f1b45a971e6a1ae74bf5557c6df0e89bdcc58e6", func := "hurdle/hurdlelaw13.LowerSound", spec := "lowerSound", unfollowed := true, recurses := true, named := ["internal/strconv.uint64pow10", "math/bits.deBruijn32tab", "math/bits.deBruijn64tab", "hurdle/ins.operations"], apart := false, laid := [("math/bits.deBruijn32tab", laid_math_bits_deBruijn32tab), ("math/bits.deBruijn64tab", laid_math_bits_deBruijn64tab), ("internal/strconv.uint64pow10", laid_internal_strconv_uint64pow10), ("hurdle/ins.operations", laid_hurdle_ins_operations)] }
def LowerSoundSaid : Prop := lowerSoundRow.holds Tryz.pinned (OpenSpec.ofChange lowerSoundSpec)

/-- ITS FALSE NEIGHBOUR: 'it returns false'. Refute it at one input. -/
def lowerSoundWrong : ChangeSpec := { name := "lowerSound", fn := fun _ => fun
  | [d] => { results := [.lit (.bool false)], args := [d] }
  | _ => none }
def LowerSoundWrongFalsely : Prop := lowerSoundRow.holds Tryz.pinned (OpenSpec.ofChange lowerSoundWrong)

/-- 'hurdlelaw13.LowerAlike': WHATEVER THE INPUT: true; the input reads as it did. -/
def lowerAlikeSpec : ChangeSpec := { name := "lowerAlike", fn := fun _ => fun
  | [d] => { results := [.lit (.bool true)], args := [d] }
  | _ => none }
def lowerAlikeRow : OpenClaim := { program := "ytbekkdhlfkongaagreatdoor", sum := "ac9d047828cc3396b892c65c7f1b45a971e6a1ae74bf5557c6df0e89bdcc58e6", func := "hurdle/hurdlelaw13.LowerAlike", spec := "lowerAlike", unfollowed := true, recurses := true, named := ["internal/strconv.uint64pow10", "math/bits.deBruijn32tab", "math/bits.deBruijn64tab", "hurdle/ins.operations"], apart := false, laid := [("math/bits.deBruijn32tab", laid_math_bits_deBruijn32tab), ("math/bits.deBruijn64tab", laid_math_bits_deBruijn64tab), ("internal/strconv.uint64pow10", laid_internal_strconv_uint64pow10), ("hurdle/ins.operations", laid_hurdle_ins_operations)] }
def LowerAlikeSaid : Prop := lowerAlikeRow.holds Tryz.pinned (OpenSpec.ofChange lowerAlikeSpec)

/-- ITS FALSE NEIGHBOUR: 'it returns false'. Refute it at one input. -/
def lowerAlikeWrong : ChangeSpec := { name := "lowerAlike", fn := fun _ => fun
  | [d] => { results := [.lit (.bool false)], args := [d] }
  | _ => none }
def LowerAlikeWrongFalsely : Prop := lowerAlikeRow.holds Tryz.pinned (OpenSpec.ofChange lowerAlikeWrong)

/-- 'hurdlelaw13.LowerTests': WHATEVER THE INPUT: true; the input reads as it did. -/
def lowerTestsSpec : ChangeSpec := { name := "lowerTests", fn := fun _ => fun
  | [d1, d2, d3, d4, d5, d6] => { results := [.lit (.bool true)], args := [d1, d2, d3, d4, d5, d6] }
  | _ => none }
def lowerTestsRow : OpenClaim := { program := "ytbekkdhlfkongaagreatdoor", sum := "ac9d047828cc3396b892c65c7f1b45a971e6a1ae74bf5557c6df0e89bdcc58e6", func := "hurdle/hurdlelaw13.LowerTests", spec := "lowerTests", unfollowed := true, recurses := true, named := ["internal/strconv.uint64pow10", "math/bits.deBruijn32tab", "math/bits.deBruijn64tab", "hurdle/ins.operations"], apart := false, laid := [("math/bits.deBruijn32tab", laid_math_bits_deBruijn32tab), ("math/bits.deBruijn64tab", laid_math_bits_deBruijn64tab), ("internal/strconv.uint64pow10", laid_internal_strconv_uint64pow10), ("hurdle/ins.operations", laid_hurdle_ins_operations)] }
def LowerTestsSaid : Prop := lowerTestsRow.holds Tryz.pinned (OpenSpec.ofChange lowerTestsSpec)

/-- ITS FALSE NEIGHBOUR: 'it returns false'. Refute it at one input. -/
def lowerTestsWrong : ChangeSpec := { name := "lowerTests", fn := fun _ => fun
  | [d1, d2, d3, d4, d5, d6] => { results := [.lit (.bool false)], args := [d1, d2, d3, d4, d5, d6] }
  | _ => none }
def LowerTestsWrongFalsely : Prop := lowerTestsRow.holds Tryz.pinned (OpenSpec.ofChange lowerTestsWrong)

/- THE SECOND FORM. 'bulk': how many values and letters a reading holds, each counted each time it is reached (what is shared counts as often as it is met; a slice's spare places count too). A statement '..UptoSaid' is the law's where the arguments, and the package variables that the reading takes, are together of bulk at most 1048576: NARROWER than '..Said'. Prove '..Said' where nothing that the law and all that it calls make is longer than what came in: it says more and counts as full. Else prove '..UptoSaid'. A law counts once. -/
mutual
def uptoBulk {H : Type} : DataW H → Nat
  | .lit (.string bytes) => bytes.length + 1
  | .lit _ => 1
  | .nil => 1
  | .ptr d => uptoBulk d + 1
  | .slice elems spare => uptoBulkAll elems + uptoBulkAll spare + 1
  | .agg parts => uptoBulkAll parts + 1
  | .iface _ d => uptoBulk d + 1
  | .map entries => uptoBulkEntries entries + 1
  | .held _ => 1
def uptoBulkAll {H : Type} : List (DataW H) → Nat
  | [] => 0
  | d :: r => uptoBulk d + uptoBulkAll r
def uptoBulkEntries {H : Type} : List (Lit × DataW H) → Nat
  | [] => 0
  | x :: r => uptoBulkEntry x + uptoBulkEntries r
def uptoBulkEntry {H : Type} : Lit × DataW H → Nat
  | (.string bytes, d) => bytes.length + uptoBulk d + 1
  | (_, d) => uptoBulk d + 1
 end
def uptoSmall : (H : Type) → List (DataW H) → Bool := fun _ ds => decide (uptoBulkAll ds ≤ 1048576)
def OpenSpec.upto (s : _root_.Go.ChangeSpec) : _root_.Go.OpenSpec := { _root_.Go.OpenSpec.ofChange s with cond := some uptoSmall }

/-- 'hurdlelaw13.LowerMeans', WHERE WHAT IT READS IS OF BULK AT MOST 1048576: true; the input reads as it did. -/
def lowerMeansUptoRow : OpenClaim := { program := "ytbekkdhlfkongaagreatdoor", sum := "ac9d047828cc3396b892c65c7f1b45a971e6a1ae74bf5557c6df0e89bdcc58e6", func := "hurdle/hurdlelaw13.LowerMeans", spec := "lowerMeans", unfollowed := true, recurses := true, named := ["internal/strconv.uint64pow10", "math/bits.deBruijn32tab", "math/bits.deBruijn64tab", "hurdle/ins.operations"], apart := false, laid := [("math/bits.deBruijn32tab", laid_math_bits_deBruijn32tab), ("math/bits.deBruijn64tab", laid_math_bits_deBruijn64tab), ("internal/strconv.uint64pow10", laid_internal_strconv_uint64pow10), ("hurdle/ins.operations", laid_hurdle_ins_operations)], narrowed := true }
def LowerMeansUptoSaid : Prop := lowerMeansUptoRow.holds Tryz.pinned (OpenSpec.upto lowerMeansSpec)

/-- 'hurdlelaw13.LowerEdges', WHERE WHAT IT READS IS OF BULK AT MOST 1048576: true; the input reads as it did. -/
def lowerEdgesUptoRow : OpenClaim := { program := "ytbekkdhlfkongaagreatdoor", sum := "ac9d047828cc3396b892c65c7f1b45a971e6a1ae74bf5557c6df0e89bdcc58e6", func := "hurdle/hurdlelaw13.LowerEdges", spec := "lowerEdges", unfollowed := true, recurses := true, named := ["internal/strconv.uint64pow10", "math/bits.deBruijn32tab", "math/bits.deBruijn64tab", "hurdle/ins.operations"], apart := false, laid := [("math/bits.deBruijn32tab", laid_math_bits_deBruijn32tab), ("math/bits.deBruijn64tab", laid_math_bits_deBruijn64tab), ("internal/strconv.uint64pow10", laid_internal_strconv_uint64pow10), ("hurdle/ins.operations", laid_hurdle_ins_operations)], narrowed := true }
def LowerEdgesUptoSaid : Prop := lowerEdgesUptoRow.holds Tryz.pinned (OpenSpec.upto lowerEdgesSpec)

/-- 'hurdlelaw13.LowerSound', WHERE WHAT IT READS IS OF BULK AT MOST 1048576: true; the input reads as it did. -/
def lowerSoundUptoRow : OpenClaim := { program := "ytbekkdhlfkongaagreatdoor", sum := "ac9d047828cc3396b892c65c7f1b45a971e6a1ae74bf5557c6df0e89bdcc58e6", func := "hurdle/hurdlelaw13.LowerSound", spec := "lowerSound", unfollowed := true, recurses := true, named := ["internal/strconv.uint64pow10", "math/bits.deBruijn32tab", "math/bits.deBruijn64tab", "hurdle/ins.operations"], apart := false, laid := [("math/bits.deBruijn32tab", laid_math_bits_deBruijn32tab), ("math/bits.deBruijn64tab", laid_math_bits_deBruijn64tab), ("internal/strconv.uint64pow10", laid_internal_strconv_uint64pow10), ("hurdle/ins.operations", laid_hurdle_ins_operations)], narrowed := true }
def LowerSoundUptoSaid : Prop := lowerSoundUptoRow.holds Tryz.pinned (OpenSpec.upto lowerSoundSpec)

/-- 'hurdlelaw13.LowerAlike', WHERE WHAT IT READS IS OF BULK AT MOST 1048576: true; the input reads as it did. -/
def lowerAlikeUptoRow : OpenClaim := { program := "ytbekkdhlfkongaagreatdoor", sum := "ac9d047828cc3396b892c65c7f1b45a971e6a1ae74bf5557c6df0e89bdcc58e6", func := "hurdle/hurdlelaw13.LowerAlike", spec := "lowerAlike", unfollowed := true, recurses := true, named := ["internal/strconv.uint64pow10", "math/bits.deBruijn32tab", "math/bits.deBruijn64tab", "hurdle/ins.operations"], apart := false, laid := [("math/bits.deBruijn32tab", laid_math_bits_deBruijn32tab), ("math/bits.deBruijn64tab", laid_math_bits_deBruijn64tab), ("internal/strconv.uint64pow10", laid_internal_strconv_uint64pow10), ("hurdle/ins.operations", laid_hurdle_ins_operations)], narrowed := true }
def LowerAlikeUptoSaid : Prop := lowerAlikeUptoRow.holds Tryz.pinned (OpenSpec.upto lowerAlikeSpec)

/-- 'hurdlelaw13.LowerTests', WHERE WHAT IT READS IS OF BULK AT MOST 1048576: true; the input reads as it did. -/
def lowerTestsUptoRow : OpenClaim := { program := "ytbekkdhlfkongaagreatdoor", sum := "ac9d047828cc3396b892c65c7f1b45a971e6a1ae74bf5557c6df0e89bdcc58e6", func := "hurdle/hurdlelaw13.LowerTests", spec := "lowerTests", unfollowed := true, recurses := true, named := ["internal/strconv.uint64pow10", "math/bits.deBruijn32tab", "math/bits.deBruijn64tab", "hurdle/ins.operations"], apart := false, laid := [("math/bits.deBruijn32tab", laid_math_bits_deBruijn32tab), ("math/bits.deBruijn64tab", laid_math_bits_deBruijn64tab), ("internal/strconv.uint64pow10", laid_internal_strconv_uint64pow10), ("hurdle/ins.operations", laid_hurdle_ins_operations)], narrowed := true }
def LowerTestsUptoSaid : Prop := lowerTestsUptoRow.holds Tryz.pinned (OpenSpec.upto lowerTestsSpec)

end Rows
end Go.Proofs.YtbekkdhlfkongaaGreatDoor
