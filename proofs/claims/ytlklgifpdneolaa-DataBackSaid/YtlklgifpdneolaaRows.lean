/-
  No cell of these rows narrows 'for every input' (looked for: loops, veiled, ifaces, maps, wideKeys, modest, calm, conditions, laid).
  DERIVED. THE GIVEN ROWS OF THIS SEAT. 5 by the template 'for every input the law returns true; each argument reads behind the call as it read before'; 0 by the template 'total and deterministic' (their statements: YtlklgifpdneolaaTotals.lean).
  GIVEN WITH THE SEED: the statements are not yours to turn. If you find one false, say at which input.
  Laid BY PROGRAM, IN A SANDBOX (cutbox-rows.mjs): the forced cells as the released guide's own fill.sh prints them over the translation 805679586f3e06df… (all of the seat's roots in one cut). By AI agents, Wed Nov 11 2026. No macro, syntax, notation, axiom, sorry.
-/
import Derived.Test.YtlklgifpdneolaaChecked
import GoSem.Claim
import GoSem.ClaimJoined
import GoSem.ClaimMapViews
import Derived.JoinedTies
import Derived.KernelRfl
namespace Go.Proofs.Ytlklgifpdneolaa
/- THE CELL 'sum', in the pinned program and in every row, IS THE sha256 OF THE DUMP (.gsa) THAT YtlklgifpdneolaaProg.lean LOADS. Nothing in Lean hashes anything: it is a label: what it is worth is what the hold of that sum in a sandbox is worth. -/
noncomputable def Try.pinned : Pinned := { name := "ytlklgifpdneolaa", sum := "805679586f3e06df7659c1744cbbe589b541aab7e52ee5c5cb93e5f099221684", checked := Try.checked }
namespace Rows
def none {H : Type} : Left H := { results := [], args := [] }

/-- 'hurdlelaw04.DataBytes': WHATEVER THE INPUT: true; the input reads as it did. -/
def dataBytesSpec : ChangeSpec := { name := "dataBytes", fn := fun _ => fun
  | [d1, d2] => { results := [.lit (.bool true)], args := [d1, d2] }
  | _ => none }
def dataBytesRow : OpenClaim := { program := "ytlklgifpdneolaa", sum := "805679586f3e06df7659c1744cbbe589b541aab7e52ee5c5cb93e5f099221684", func := "hurdle/hurdlelaw04.DataBytes", spec := "dataBytes", unfollowed := true, recurses := true, apart := false }
def DataBytesSaid : Prop := dataBytesRow.holds Try.pinned (OpenSpec.ofChange dataBytesSpec)

/-- ITS FALSE NEIGHBOUR: 'it returns false'. Refute it at one input. -/
def dataBytesWrong : ChangeSpec := { name := "dataBytes", fn := fun _ => fun
  | [d1, d2] => { results := [.lit (.bool false)], args := [d1, d2] }
  | _ => none }
def DataBytesWrongFalsely : Prop := dataBytesRow.holds Try.pinned (OpenSpec.ofChange dataBytesWrong)

/-- 'hurdlelaw04.DataWords': WHATEVER THE INPUT: true; the input reads as it did. -/
def dataWordsSpec : ChangeSpec := { name := "dataWords", fn := fun _ => fun
  | [d1, d2, d3, d4] => { results := [.lit (.bool true)], args := [d1, d2, d3, d4] }
  | _ => none }
def dataWordsRow : OpenClaim := { program := "ytlklgifpdneolaa", sum := "805679586f3e06df7659c1744cbbe589b541aab7e52ee5c5cb93e5f099221684", func := "hurdle/hurdlelaw04.DataWords", spec := "dataWords", unfollowed := true, recurses := true, apart := false }
def DataWordsSaid : Prop := dataWordsRow.holds Try.pinned (OpenSpec.ofChange dataWordsSpec)

/-- ITS FALSE NEIGHBOUR: 'it returns false'. Refute it at one input. -/
def dataWordsWrong : ChangeSpec := { name := "dataWords", fn := fun _ => fun
  | [d1, d2, d3, d4] => { results := [.lit (.bool false)], args := [d1, d2, d3, d4] }
  | _ => none }
def DataWordsWrongFalsely : Prop := dataWordsRow.holds Try.pinned (OpenSpec.ofChange dataWordsWrong)

/-- 'hurdlelaw04.DataBack': WHATEVER THE INPUT: true; the input reads as it did. -/
def dataBackSpec : ChangeSpec := { name := "dataBack", fn := fun _ => fun
  | [d1, d2] => { results := [.lit (.bool true)], args := [d1, d2] }
  | _ => none }
def dataBackRow : OpenClaim := { program := "ytlklgifpdneolaa", sum := "805679586f3e06df7659c1744cbbe589b541aab7e52ee5c5cb93e5f099221684", func := "hurdle/hurdlelaw04.DataBack", spec := "dataBack", unfollowed := true, recurses := true, apart := false }
def DataBackSaid : Prop := dataBackRow.holds Try.pinned (OpenSpec.ofChange dataBackSpec)

/-- ITS FALSE NEIGHBOUR: 'it returns false'. Refute it at one input. -/
def dataBackWrong : ChangeSpec := { name := "dataBack", fn := fun _ => fun
  | [d1, d2] => { results := [.lit (.bool false)], args := [d1, d2] }
  | _ => none }
def DataBackWrongFalsely : Prop := dataBackRow.holds Try.pinned (OpenSpec.ofChange dataBackWrong)

/-- 'hurdlelaw04.DataSets': WHATEVER THE INPUT: true; the input reads as it did. -/
def dataSetsSpec : ChangeSpec := { name := "dataSets", fn := fun _ => fun
  | [d1, d2, d3, d4] => { results := [.lit (.bool true)], args := [d1, d2, d3, d4] }
  | _ => none }
def dataSetsRow : OpenClaim := { program := "ytlklgifpdneolaa", sum := "805679586f3e06df7659c1744cbbe589b541aab7e52ee5c5cb93e5f099221684", func := "hurdle/hurdlelaw04.DataSets", spec := "dataSets", unfollowed := true, recurses := true, apart := false }
def DataSetsSaid : Prop := dataSetsRow.holds Try.pinned (OpenSpec.ofChange dataSetsSpec)

/-- ITS FALSE NEIGHBOUR: 'it returns false'. Refute it at one input. -/
def dataSetsWrong : ChangeSpec := { name := "dataSets", fn := fun _ => fun
  | [d1, d2, d3, d4] => { results := [.lit (.bool false)], args := [d1, d2, d3, d4] }
  | _ => none }
def DataSetsWrongFalsely : Prop := dataSetsRow.holds Try.pinned (OpenSpec.ofChange dataSetsWrong)

/-- 'hurdlelaw04.DataKnown': WHATEVER THE INPUT: true; the input reads as it did. -/
def dataKnownSpec : ChangeSpec := { name := "dataKnown", fn := fun _ => fun
  | [d1, d2, d3] => { results := [.lit (.bool true)], args := [d1, d2, d3] }
  | _ => none }
def dataKnownRow : OpenClaim := { program := "ytlklgifpdneolaa", sum := "805679586f3e06df7659c1744cbbe589b541aab7e52ee5c5cb93e5f099221684", func := "hurdle/hurdlelaw04.DataKnown", spec := "dataKnown", unfollowed := true, recurses := true, apart := false }
def DataKnownSaid : Prop := dataKnownRow.holds Try.pinned (OpenSpec.ofChange dataKnownSpec)

/-- ITS FALSE NEIGHBOUR: 'it returns false'. Refute it at one input. -/
def dataKnownWrong : ChangeSpec := { name := "dataKnown", fn := fun _ => fun
  | [d1, d2, d3] => { results := [.lit (.bool false)], args := [d1, d2, d3] }
  | _ => none }
def DataKnownWrongFalsely : Prop := dataKnownRow.holds Try.pinned (OpenSpec.ofChange dataKnownWrong)

/- THE SECOND FORM. 'bulk': how many values and letters a reading holds, each counted each time it is reached (what is shared counts as often as it is met; a slice's spare places count too). A statement '..UptoSaid' is the law's where the arguments, and the package variables that the reading takes, are together of bulk at most 1048576: NARROWER than '..Said'. Prove '..Said' where nothing that the law and all that it calls make is longer than what came in: it says more and counts as full. Else prove '..UptoSaid'. A law counts once. -/
mutual
def uptoBulk {H : Type} : DataW H → Nat
  | .lit (.string bytes) => bytes.length + 1
  | .lit _ => 1
  | .nil => 1
  | .ptr d => uptoBulk d + 1
  | .slice elems spare => uptoBulkAll elems + uptoBulkAll spare + 1
  | .agg parts => uptoBulkAll parts + 1
  | .iface _ d => uptoBulk d + 1
  | .map entries => uptoBulkEntries entries + 1
  | .held _ => 1
def uptoBulkAll {H : Type} : List (DataW H) → Nat
  | [] => 0
  | d :: r => uptoBulk d + uptoBulkAll r
def uptoBulkEntries {H : Type} : List (Lit × DataW H) → Nat
  | [] => 0
  | x :: r => uptoBulkEntry x + uptoBulkEntries r
def uptoBulkEntry {H : Type} : Lit × DataW H → Nat
  | (.string bytes, d) => bytes.length + uptoBulk d + 1
  | (_, d) => uptoBulk d + 1
 end
def uptoSmall : (H : Type) → List (DataW H) → Bool := fun _ ds => decide (uptoBulkAll ds ≤ 1048576)
def OpenSpec.upto (s : _root_.Go.ChangeSpec) : _root_.Go.OpenSpec := { _root_.Go.OpenSpec.ofChange s with cond := some uptoSmall }

/-- 'hurdlelaw04.DataBytes', WHERE WHAT IT READS IS OF BULK AT MOST 1048576: true; the input reads as it did. -/
def dataBytesUptoRow : OpenClaim := { program := "ytlklgifpdneolaa", sum := "805679586f3e06df7659c1744cbbe589b541aab7e52ee5c5cb93e5f099221684", func := "hurdle/hurdlelaw04.DataBytes", spec := "dataBytes", unfollowed := true, recurses := true, apart := false, narrowed := true }
def DataBytesUptoSaid : Prop := dataBytesUptoRow.holds Try.pinned (OpenSpec.upto dataBytesSpec)

/-- 'hurdlelaw04.DataWords', WHERE WHAT IT READS IS OF BULK AT MOST 1048576: true; the input reads as it did. -/
def dataWordsUptoRow : OpenClaim := { program := "ytlklgifpdneolaa", sum := "805679586f3e06df7659c1744cbbe589b541aab7e52ee5c5cb93e5f099221684", func := "hurdle/hurdlelaw04.DataWords", spec := "dataWords", unfollowed := true, recurses := true, apart := false, narrowed := true }
def DataWordsUptoSaid : Prop := dataWordsUptoRow.holds Try.pinned (OpenSpec.upto dataWordsSpec)

/-- 'hurdlelaw04.DataBack', WHERE WHAT IT READS IS OF BULK AT MOST 1048576: true; the input reads as it did. -/
def dataBackUptoRow : OpenClaim := { program := "ytlklgifpdneolaa", sum := "805679586f3e06df7659c1744cbbe589b541aab7e52ee5c5cb93e5f099221684", func := "hurdle/hurdlelaw04.DataBack", spec := "dataBack", unfollowed := true, recurses := true, apart := false, narrowed := true }
def DataBackUptoSaid : Prop := dataBackUptoRow.holds Try.pinned (OpenSpec.upto dataBackSpec)

/-- 'hurdlelaw04.DataSets', WHERE WHAT IT READS IS OF BULK AT MOST 1048576: true; the input reads as it did. -/
def dataSetsUptoRow : OpenClaim := { program := "ytlklgifpdneolaa", sum := "805679586f3e06df7659c1744cbbe589b541aab7e52ee5c5cb93e5f099221684", func := "hurdle/hurdlelaw04.DataSets", spec := "dataSets", unfollowed := true, recurses := true, apart := false, narrowed := true }
def DataSetsUptoSaid : Prop := dataSetsUptoRow.holds Try.pinned (OpenSpec.upto dataSetsSpec)

/-- 'hurdlelaw04.DataKnown', WHERE WHAT IT READS IS OF BULK AT MOST 1048576: true; the input reads as it did. -/
def dataKnownUptoRow : OpenClaim := { program := "ytlklgifpdneolaa", sum := "805679586f3e06df7659c1744cbbe589b541aab7e52ee5c5cb93e5f099221684", func := "hurdle/hurdlelaw04.DataKnown", spec := "dataKnown", unfollowed := true, recurses := true, apart := false, narrowed := true }
def DataKnownUptoSaid : Prop := dataKnownUptoRow.holds Try.pinned (OpenSpec.upto dataKnownSpec)

end Rows
end Go.Proofs.Ytlklgifpdneolaa
