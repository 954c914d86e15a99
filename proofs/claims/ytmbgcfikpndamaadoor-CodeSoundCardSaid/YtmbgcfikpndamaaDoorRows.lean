/-
  NARROWER THAN 'FOR EVERY INPUT', by the rows' own cells (each row's printed sentence says how): CodeGrows: laid · CodeLabels: laid · CodeKeeps: laid · CodeSound: laid · CodeNear: laid.
  DERIVED. THE GIVEN ROWS OF THIS SEAT. 5 by the template 'for every input the law returns true; each argument reads behind the call as it read before'; 0 by the template 'total and deterministic' (their statements: YtmbgcfikpndamaaDoorTotals.lean).
  GIVEN WITH THE SEED: the statements are not yours to turn. If you find one false, say at which input.
  Laid BY PROGRAM, IN A SANDBOX (cutbox-rows.mjs): the forced cells as the released guide's own fill.sh prints them over the translation 254933ffc68d91f0… (all of the seat's roots in one cut). By AI agents, Wed Nov 11 2026. No macro, syntax, notation, axiom, sorry.
-/
import Derived.Test.YtmbgcfikpndamaaDoorChecked
import GoSem.Claim
import GoSem.ClaimJoined
import GoSem.ClaimMapViews
import Derived.JoinedTies
import Derived.KernelRfl
namespace Go.Proofs.YtmbgcfikpndamaaDoor
/- THE CELL 'sum', in the pinned program and in every row, IS THE sha256 OF THE DUMP (.gsa) THAT YtmbgcfikpndamaaDoorProg.lean LOADS. Nothing in Lean hashes anything: it is a label: what it is worth is what the hold of that sum in a sandbox is worth. -/
noncomputable def Tryd.pinned : Pinned := { name := "ytmbgcfikpndamaadoor", sum := "254933ffc68d91f0d7b80ba018d2176ef5c2d499f8ff71ed6a3171101554193e", checked := Tryd.checked }
namespace Rows
def none {H : Type} : Left H := { results := [], args := [] }

/- WHAT THE LISTED PACKAGE-LEVEL VARIABLES READ AS WHEN THE CALL BEGINS. Each datum BY PROGRAM (the guide's laid-datum.mjs) off the statement by which the dump's own 'gosem.cut.vars' lays the variable. In a bare row this is a premise. The card (YtmbgcfikpndamaaDoorCards.lean) ties it to the program's text. -/
def laid_hurdle_ins_operations {H : Type} : DataW H := .agg [.agg [.lit (.int .i64 0), .lit (.string [108, 100]), .lit (.int .i64 2)], .agg [.lit (.int .i64 1), .lit (.string [108, 100, 120]), .lit (.int .i64 2)], .agg [.lit (.int .i64 2), .lit (.string [115, 116]), .lit (.int .i64 2)], .agg [.lit (.int .i64 3), .lit (.string [115, 116, 120]), .lit (.int .i64 2)], .agg [.lit (.int .i64 32), .lit (.string [97, 98, 115]), .lit (.int .i64 2)], .agg [.lit (.int .i64 96), .lit (.string [109, 101, 109]), .lit (.int .i64 2)], .agg [.lit (.int .i64 97), .lit (.string [109, 101, 109, 120]), .lit (.int .i64 2)], .agg [.lit (.int .i64 5), .lit (.string [106, 97]), .lit (.int .i64 2)], .agg [.lit (.int .i64 6), .lit (.string [114, 101, 116]), .lit (.int .i64 2)], .agg [.lit (.int .i64 4), .lit (.string [97, 100, 100]), .lit (.int .i64 3)], .agg [.lit (.int .i64 20), .lit (.string [115, 117, 98]), .lit (.int .i64 3)], .agg [.lit (.int .i64 36), .lit (.string [109, 117, 108]), .lit (.int .i64 3)], .agg [.lit (.int .i64 52), .lit (.string [100, 105, 118]), .lit (.int .i64 3)], .agg [.lit (.int .i64 68), .lit (.string [111, 114]), .lit (.int .i64 3)], .agg [.lit (.int .i64 84), .lit (.string [97, 110, 100]), .lit (.int .i64 3)], .agg [.lit (.int .i64 100), .lit (.string [108, 115, 104]), .lit (.int .i64 3)], .agg [.lit (.int .i64 116), .lit (.string [114, 115, 104]), .lit (.int .i64 3)], .agg [.lit (.int .i64 164), .lit (.string [120, 111, 114]), .lit (.int .i64 3)], .agg [.lit (.int .i64 12), .lit (.string [97, 100, 100, 120]), .lit (.int .i64 1)], .agg [.lit (.int .i64 28), .lit (.string [115, 117, 98, 120]), .lit (.int .i64 1)], .agg [.lit (.int .i64 44), .lit (.string [109, 117, 108, 120]), .lit (.int .i64 1)], .agg [.lit (.int .i64 60), .lit (.string [100, 105, 118, 120]), .lit (.int .i64 1)], .agg [.lit (.int .i64 76), .lit (.string [111, 114, 120]), .lit (.int .i64 1)], .agg [.lit (.int .i64 92), .lit (.string [97, 110, 100, 120]), .lit (.int .i64 1)], .agg [.lit (.int .i64 108), .lit (.string [108, 115, 104, 120]), .lit (.int .i64 1)], .agg [.lit (.int .i64 124), .lit (.string [114, 115, 104, 120]), .lit (.int .i64 1)], .agg [.lit (.int .i64 172), .lit (.string [120, 111, 114, 120]), .lit (.int .i64 1)], .agg [.lit (.int .i64 132), .lit (.string [110, 101, 103]), .lit (.int .i64 0)], .agg [.lit (.int .i64 7), .lit (.string [116, 97, 120]), .lit (.int .i64 0)], .agg [.lit (.int .i64 135), .lit (.string [116, 120, 97]), .lit (.int .i64 0)], .agg [.lit (.int .i64 22), .lit (.string [114, 101, 116, 97]), .lit (.int .i64 0)], .agg [.lit (.int .i64 21), .lit (.string [106, 101, 113]), .lit (.int .i64 5)], .agg [.lit (.int .i64 37), .lit (.string [106, 103, 116]), .lit (.int .i64 5)], .agg [.lit (.int .i64 53), .lit (.string [106, 103, 101]), .lit (.int .i64 5)], .agg [.lit (.int .i64 69), .lit (.string [106, 115, 101, 116]), .lit (.int .i64 5)], .agg [.lit (.int .i64 29), .lit (.string [106, 101, 113, 120]), .lit (.int .i64 4)], .agg [.lit (.int .i64 45), .lit (.string [106, 103, 116, 120]), .lit (.int .i64 4)], .agg [.lit (.int .i64 61), .lit (.string [106, 103, 101, 120]), .lit (.int .i64 4)], .agg [.lit (.int .i64 77), .lit (.string [106, 115, 101, 116, 120]), .lit (.int .i64 4)]]

/-- 'hurdlelaw12.CodeGrows': WHATEVER THE INPUT: true; the input reads as it did. -/
def codeGrowsSpec : ChangeSpec := { name := "codeGrows", fn := fun _ => fun
  | [d1, d2] => { results := [.lit (.bool true)], args := [d1, d2] }
  | _ => none }
def codeGrowsRow : OpenClaim := { program := "ytmbgcfikpndamaadoor", sum := "254933ffc68d91f0d7b80ba018d2176ef5c2d499f8ff71ed6a3171101554193e", func := "hurdle/hurdlelaw12.CodeGrows", spec := "codeGrows", named := ["hurdle/ins.operations"], apart := false, laid := [("hurdle/ins.operations", laid_hurdle_ins_operations)] }
def CodeGrowsSaid : Prop := codeGrowsRow.holds Tryd.pinned (OpenSpec.ofChange codeGrowsSpec)

/-- ITS FALSE NEIGHBOUR: 'it returns false'. Refute it at one input. -/
def codeGrowsWrong : ChangeSpec := { name := "codeGrows", fn := fun _ => fun
  | [d1, d2] => { results := [.lit (.bool false)], args := [d1, d2] }
  | _ => none }
def CodeGrowsWrongFalsely : Prop := codeGrowsRow.holds Tryd.pinned (OpenSpec.ofChange codeGrowsWrong)

/-- 'hurdlelaw12.CodeLabels': WHATEVER THE INPUT: true; the input reads as it did. -/
def codeLabelsSpec : ChangeSpec := { name := "codeLabels", fn := fun _ => fun
  | [d1, d2, d3, d4] => { results := [.lit (.bool true)], args := [d1, d2, d3, d4] }
  | _ => none }
def codeLabelsRow : OpenClaim := { program := "ytmbgcfikpndamaadoor", sum := "254933ffc68d91f0d7b80ba018d2176ef5c2d499f8ff71ed6a3171101554193e", func := "hurdle/hurdlelaw12.CodeLabels", spec := "codeLabels", named := ["hurdle/ins.operations"], apart := false, laid := [("hurdle/ins.operations", laid_hurdle_ins_operations)] }
def CodeLabelsSaid : Prop := codeLabelsRow.holds Tryd.pinned (OpenSpec.ofChange codeLabelsSpec)

/-- ITS FALSE NEIGHBOUR: 'it returns false'. Refute it at one input. -/
def codeLabelsWrong : ChangeSpec := { name := "codeLabels", fn := fun _ => fun
  | [d1, d2, d3, d4] => { results := [.lit (.bool false)], args := [d1, d2, d3, d4] }
  | _ => none }
def CodeLabelsWrongFalsely : Prop := codeLabelsRow.holds Tryd.pinned (OpenSpec.ofChange codeLabelsWrong)

/-- 'hurdlelaw12.CodeKeeps': WHATEVER THE INPUT: true; the input reads as it did. -/
def codeKeepsSpec : ChangeSpec := { name := "codeKeeps", fn := fun _ => fun
  | [d1, d2] => { results := [.lit (.bool true)], args := [d1, d2] }
  | _ => none }
def codeKeepsRow : OpenClaim := { program := "ytmbgcfikpndamaadoor", sum := "254933ffc68d91f0d7b80ba018d2176ef5c2d499f8ff71ed6a3171101554193e", func := "hurdle/hurdlelaw12.CodeKeeps", spec := "codeKeeps", named := ["hurdle/ins.operations"], apart := false, laid := [("hurdle/ins.operations", laid_hurdle_ins_operations)] }
def CodeKeepsSaid : Prop := codeKeepsRow.holds Tryd.pinned (OpenSpec.ofChange codeKeepsSpec)

/-- ITS FALSE NEIGHBOUR: 'it returns false'. Refute it at one input. -/
def codeKeepsWrong : ChangeSpec := { name := "codeKeeps", fn := fun _ => fun
  | [d1, d2] => { results := [.lit (.bool false)], args := [d1, d2] }
  | _ => none }
def CodeKeepsWrongFalsely : Prop := codeKeepsRow.holds Tryd.pinned (OpenSpec.ofChange codeKeepsWrong)

/-- 'hurdlelaw12.CodeSound': WHATEVER THE INPUT: true; the input reads as it did. -/
def codeSoundSpec : ChangeSpec := { name := "codeSound", fn := fun _ => fun
  | [d1, d2, d3, d4] => { results := [.lit (.bool true)], args := [d1, d2, d3, d4] }
  | _ => none }
def codeSoundRow : OpenClaim := { program := "ytmbgcfikpndamaadoor", sum := "254933ffc68d91f0d7b80ba018d2176ef5c2d499f8ff71ed6a3171101554193e", func := "hurdle/hurdlelaw12.CodeSound", spec := "codeSound", unfollowed := true, recurses := true, named := ["hurdle/ins.operations"], apart := false, laid := [("hurdle/ins.operations", laid_hurdle_ins_operations)] }
def CodeSoundSaid : Prop := codeSoundRow.holds Tryd.pinned (OpenSpec.ofChange codeSoundSpec)

/-- ITS FALSE NEIGHBOUR: 'it returns false'. Refute it at one input. -/
def codeSoundWrong : ChangeSpec := { name := "codeSound", fn := fun _ => fun
  | [d1, d2, d3, d4] => { results := [.lit (.bool false)], args := [d1, d2, d3, d4] }
  | _ => none }
def CodeSoundWrongFalsely : Prop := codeSoundRow.holds Tryd.pinned (OpenSpec.ofChange codeSoundWrong)

/-- 'hurdlelaw12.CodeNear': WHATEVER THE INPUT: true; the input reads as it did. -/
def codeNearSpec : ChangeSpec := { name := "codeNear", fn := fun _ => fun
  | [d1, d2, d3, d4] => { results := [.lit (.bool true)], args := [d1, d2, d3, d4] }
  | _ => none }
def codeNearRow : OpenClaim := { program := "ytmbgcfikpndamaadoor", sum := "254933ffc68d91f0d7b80ba018d2176ef5c2d499f8ff71ed6a3171101554193e", func := "hurdle/hurdlelaw12.CodeNear", spec := "codeNear", named := ["hurdle/ins.operations"], apart := false, laid := [("hurdle/ins.operations", laid_hurdle_ins_operations)] }
def CodeNearSaid : Prop := codeNearRow.holds Tryd.pinned (OpenSpec.ofChange codeNearSpec)

/-- ITS FALSE NEIGHBOUR: 'it returns false'. Refute it at one input. -/
def codeNearWrong : ChangeSpec := { name := "codeNear", fn := fun _ => fun
  | [d1, d2, d3, d4] => { results := [.lit (.bool false)], args := [d1, d2, d3, d4] }
  | _ => none }
def CodeNearWrongFalsely : Prop := codeNearRow.holds Tryd.pinned (OpenSpec.ofChange codeNearWrong)

/- THE SECOND FORM. 'bulk': how many values and letters a reading holds, each counted each time it is reached (what is shared counts as often as it is met; a slice's spare places count too). A statement '..UptoSaid' is the law's where the arguments, and the package variables that the reading takes, are together of bulk at most 1048576: NARROWER than '..Said'. Prove '..Said' where nothing that the law and all that it calls make is longer than what came in: it says more and counts as full. Else prove '..UptoSaid'. A law counts once. -/
mutual
def uptoBulk {H : Type} : DataW H → Nat
  | .lit (.string bytes) => bytes.length + 1
  | .lit _ => 1
  | .nil => 1
  | .ptr d => uptoBulk d + 1
  | .slice elems spare => uptoBulkAll elems + uptoBulkAll spare + 1
  | .agg parts => uptoBulkAll parts + 1
  | .iface _ d => uptoBulk d + 1
  | .map entries => uptoBulkEntries entries + 1
  | .held _ => 1
def uptoBulkAll {H : Type} : List (DataW H) → Nat
  | [] => 0
  | d :: r => uptoBulk d + uptoBulkAll r
def uptoBulkEntries {H : Type} : List (Lit × DataW H) → Nat
  | [] => 0
  | x :: r => uptoBulkEntry x + uptoBulkEntries r
def uptoBulkEntry {H : Type} : Lit × DataW H → Nat
  | (.string bytes, d) => bytes.length + uptoBulk d + 1
  | (_, d) => uptoBulk d + 1
 end
def uptoSmall : (H : Type) → List (DataW H) → Bool := fun _ ds => decide (uptoBulkAll ds ≤ 1048576)
def OpenSpec.upto (s : _root_.Go.ChangeSpec) : _root_.Go.OpenSpec := { _root_.Go.OpenSpec.ofChange s with cond := some uptoSmall }

/-- 'hurdlelaw12.CodeGrows', WHERE WHAT IT READS IS OF BULK AT MOST 1048576: true; the input reads as it did. -/
def codeGrowsUptoRow : OpenClaim := { program := "ytmbgcfikpndamaadoor", sum := "254933ffc68d91f0d7b80ba018d2176ef5c2d499f8ff71ed6a3171101554193e", func := "hurdle/hurdlelaw12.CodeGrows", spec := "codeGrows", named := ["hurdle/ins.operations"], apart := false, laid := [("hurdle/ins.operations", laid_hurdle_ins_operations)], narrowed := true }
def CodeGrowsUptoSaid : Prop := codeGrowsUptoRow.holds Tryd.pinned (OpenSpec.upto codeGrowsSpec)

/-- 'hurdlelaw12.CodeLabels', WHERE WHAT IT READS IS OF BULK AT MOST 1048576: true; the input reads as it did. -/
def codeLabelsUptoRow : OpenClaim := { program := "ytmbgcfikpndamaadoor", sum := "254933ffc68d91f0d7b80ba018d2176ef5c2d499f8ff71ed6a3171101554193e", func := "hurdle/hurdlelaw12.CodeLabels", spec := "codeLabels", named := ["hurdle/ins.operations"], apart := false, laid := [("hurdle/ins.operations", laid_hurdle_ins_operations)], narrowed := true }
def CodeLabelsUptoSaid : Prop := codeLabelsUptoRow.holds Tryd.pinned (OpenSpec.upto codeLabelsSpec)

/-- 'hurdlelaw12.CodeKeeps', WHERE WHAT IT READS IS OF BULK AT MOST 1048576: true; the input reads as it did. -/
def codeKeepsUptoRow : OpenClaim := { program := "ytmbgcfikpndamaadoor", sum := "254933ffc68d91f0d7b80ba018d2176ef5c2d499f8ff71ed6a3171101554193e", func := "hurdle/hurdlelaw12.CodeKeeps", spec := "codeKeeps", named := ["hurdle/ins.operations"], apart := false, laid := [("hurdle/ins.operations", laid_hurdle_ins_operations)], narrowed := true }
def CodeKeepsUptoSaid : Prop := codeKeepsUptoRow.holds Tryd.pinned (OpenSpec.upto codeKeepsSpec)

/-- 'hurdlelaw12.CodeSound', WHERE WHAT IT READS IS OF BULK AT MOST 1048576: true; the input reads as it did. -/
def codeSoundUptoRow : OpenClaim := { program := "ytmbgcfikpndamaadoor", sum := "254933ffc68d91f0d7b80ba018d2176ef5c2d499f8ff71ed6a3171101554193e", func := "hurdle/hurdlelaw12.CodeSound", spec := "codeSound", unfollowed := true, recurses := true, named := ["hurdle/ins.operations"], apart := false, laid := [("hurdle/ins.operations", laid_hurdle_ins_operations)], narrowed := true }
def CodeSoundUptoSaid : Prop := codeSoundUptoRow.holds Tryd.pinned (OpenSpec.upto codeSoundSpec)

/-- 'hurdlelaw12.CodeNear', WHERE WHAT IT READS IS OF BULK AT MOST 1048576: true; the input reads as it did. -/
def codeNearUptoRow : OpenClaim := { program := "ytmbgcfikpndamaadoor", sum := "254933ffc68d91f0d7b80ba018d2176ef5c2d499f8ff71ed6a3171101554193e", func := "hurdle/hurdlelaw12.CodeNear", spec := "codeNear", named := ["hurdle/ins.operations"], apart := false, laid := [("hurdle/ins.operations", laid_hurdle_ins_operations)], narrowed := true }
def CodeNearUptoSaid : Prop := codeNearUptoRow.holds Tryd.pinned (OpenSpec.upto codeNearSpec)

end Rows
end Go.Proofs.YtmbgcfikpndamaaDoor
