/-
  No cell of these rows narrows 'for every input' (looked for: loops, veiled, ifaces, maps, wideKeys, modest, calm, conditions, laid).
  DERIVED. THE GIVEN ROWS OF THIS SEAT. 6 by the template 'for every input the law returns true; each argument reads behind the call as it read before'; 0 by the template 'total and deterministic' (their statements: YtkfhmcpdodnbhaaTotals.lean).
  GIVEN WITH THE SEED: the statements are not yours to turn. If you find one false, say at which input.
  Laid BY PROGRAM, IN A SANDBOX (cutbox-rows.mjs): the forced cells as the released guide's own fill.sh prints them over the translation 1041c8008af06109… (all of the seat's roots in one cut). By AI agents, Wed Nov 11 2026. No macro, syntax, notation, axiom, sorry.
-/
import Derived.Test.YtkfhmcpdodnbhaaChecked
import GoSem.Claim
import GoSem.ClaimJoined
import GoSem.ClaimMapViews
import Derived.JoinedTies
import Derived.KernelRfl
namespace Go.Proofs.Ytkfhmcpdodnbhaa
/- THE CELL 'sum', in the pinned program and in every row, IS THE sha256 OF THE DUMP (.gsa) THAT YtkfhmcpdodnbhaaProg.lean LOADS. Nothing in Lean hashes anything: it is a label: what it is worth is what the hold of that sum in a sandbox is worth. -/
noncomputable def Try.pinned : Pinned := { name := "ytkfhmcpdodnbhaa", sum := "1041c8008af06109ed7f2cdbbc0ae472fb42426d1a748a2a9fd43e70e08d9b9a", checked := Try.checked }
namespace Rows
def none {H : Type} : Left H := { results := [], args := [] }

/-- 'hurdlelaw14.AffineForms': WHATEVER THE INPUT: true; the input reads as it did. -/
def affineFormsSpec : ChangeSpec := { name := "affineForms", fn := fun _ => fun
  | [d1, d2, d3, d4] => { results := [.lit (.bool true)], args := [d1, d2, d3, d4] }
  | _ => none }
def affineFormsRow : OpenClaim := { program := "ytkfhmcpdodnbhaa", sum := "1041c8008af06109ed7f2cdbbc0ae472fb42426d1a748a2a9fd43e70e08d9b9a", func := "hurdle/hurdlelaw14.AffineForms", spec := "affineForms", apart := false }
def AffineFormsSaid : Prop := affineFormsRow.holds Try.pinned (OpenSpec.ofChange affineFormsSpec)

/-- ITS FALSE NEIGHBOUR: 'it returns false'. Refute it at one input. -/
def affineFormsWrong : ChangeSpec := { name := "affineForms", fn := fun _ => fun
  | [d1, d2, d3, d4] => { results := [.lit (.bool false)], args := [d1, d2, d3, d4] }
  | _ => none }
def AffineFormsWrongFalsely : Prop := affineFormsRow.holds Try.pinned (OpenSpec.ofChange affineFormsWrong)

/-- 'hurdlelaw14.AffineValues': WHATEVER THE INPUT: true; the input reads as it did. -/
def affineValuesSpec : ChangeSpec := { name := "affineValues", fn := fun _ => fun
  | [d1, d2] => { results := [.lit (.bool true)], args := [d1, d2] }
  | _ => none }
def affineValuesRow : OpenClaim := { program := "ytkfhmcpdodnbhaa", sum := "1041c8008af06109ed7f2cdbbc0ae472fb42426d1a748a2a9fd43e70e08d9b9a", func := "hurdle/hurdlelaw14.AffineValues", spec := "affineValues", apart := false }
def AffineValuesSaid : Prop := affineValuesRow.holds Try.pinned (OpenSpec.ofChange affineValuesSpec)

/-- ITS FALSE NEIGHBOUR: 'it returns false'. Refute it at one input. -/
def affineValuesWrong : ChangeSpec := { name := "affineValues", fn := fun _ => fun
  | [d1, d2] => { results := [.lit (.bool false)], args := [d1, d2] }
  | _ => none }
def AffineValuesWrongFalsely : Prop := affineValuesRow.holds Try.pinned (OpenSpec.ofChange affineValuesWrong)

/-- 'hurdlelaw14.AffineApart': WHATEVER THE INPUT: true; the input reads as it did. -/
def affineApartSpec : ChangeSpec := { name := "affineApart", fn := fun _ => fun
  | [d1, d2] => { results := [.lit (.bool true)], args := [d1, d2] }
  | _ => none }
def affineApartRow : OpenClaim := { program := "ytkfhmcpdodnbhaa", sum := "1041c8008af06109ed7f2cdbbc0ae472fb42426d1a748a2a9fd43e70e08d9b9a", func := "hurdle/hurdlelaw14.AffineApart", spec := "affineApart", apart := false }
def AffineApartSaid : Prop := affineApartRow.holds Try.pinned (OpenSpec.ofChange affineApartSpec)

/-- ITS FALSE NEIGHBOUR: 'it returns false'. Refute it at one input. -/
def affineApartWrong : ChangeSpec := { name := "affineApart", fn := fun _ => fun
  | [d1, d2] => { results := [.lit (.bool false)], args := [d1, d2] }
  | _ => none }
def AffineApartWrongFalsely : Prop := affineApartRow.holds Try.pinned (OpenSpec.ofChange affineApartWrong)

/-- 'hurdlelaw14.AffineSums': WHATEVER THE INPUT: true; the input reads as it did. -/
def affineSumsSpec : ChangeSpec := { name := "affineSums", fn := fun _ => fun
  | [d1, d2, d3, d4] => { results := [.lit (.bool true)], args := [d1, d2, d3, d4] }
  | _ => none }
def affineSumsRow : OpenClaim := { program := "ytkfhmcpdodnbhaa", sum := "1041c8008af06109ed7f2cdbbc0ae472fb42426d1a748a2a9fd43e70e08d9b9a", func := "hurdle/hurdlelaw14.AffineSums", spec := "affineSums", apart := false }
def AffineSumsSaid : Prop := affineSumsRow.holds Try.pinned (OpenSpec.ofChange affineSumsSpec)

/-- ITS FALSE NEIGHBOUR: 'it returns false'. Refute it at one input. -/
def affineSumsWrong : ChangeSpec := { name := "affineSums", fn := fun _ => fun
  | [d1, d2, d3, d4] => { results := [.lit (.bool false)], args := [d1, d2, d3, d4] }
  | _ => none }
def AffineSumsWrongFalsely : Prop := affineSumsRow.holds Try.pinned (OpenSpec.ofChange affineSumsWrong)

/-- 'hurdlelaw14.AffineExact': WHATEVER THE INPUT: true; the input reads as it did. -/
def affineExactSpec : ChangeSpec := { name := "affineExact", fn := fun _ => fun
  | [d1, d2, d3] => { results := [.lit (.bool true)], args := [d1, d2, d3] }
  | _ => none }
def affineExactRow : OpenClaim := { program := "ytkfhmcpdodnbhaa", sum := "1041c8008af06109ed7f2cdbbc0ae472fb42426d1a748a2a9fd43e70e08d9b9a", func := "hurdle/hurdlelaw14.AffineExact", spec := "affineExact", apart := false }
def AffineExactSaid : Prop := affineExactRow.holds Try.pinned (OpenSpec.ofChange affineExactSpec)

/-- ITS FALSE NEIGHBOUR: 'it returns false'. Refute it at one input. -/
def affineExactWrong : ChangeSpec := { name := "affineExact", fn := fun _ => fun
  | [d1, d2, d3] => { results := [.lit (.bool false)], args := [d1, d2, d3] }
  | _ => none }
def AffineExactWrongFalsely : Prop := affineExactRow.holds Try.pinned (OpenSpec.ofChange affineExactWrong)

/-- 'hurdlelaw14.AffineOrders': WHATEVER THE INPUT: true; the input reads as it did. -/
def affineOrdersSpec : ChangeSpec := { name := "affineOrders", fn := fun _ => fun
  | [d1, d2, d3] => { results := [.lit (.bool true)], args := [d1, d2, d3] }
  | _ => none }
def affineOrdersRow : OpenClaim := { program := "ytkfhmcpdodnbhaa", sum := "1041c8008af06109ed7f2cdbbc0ae472fb42426d1a748a2a9fd43e70e08d9b9a", func := "hurdle/hurdlelaw14.AffineOrders", spec := "affineOrders", apart := false }
def AffineOrdersSaid : Prop := affineOrdersRow.holds Try.pinned (OpenSpec.ofChange affineOrdersSpec)

/-- ITS FALSE NEIGHBOUR: 'it returns false'. Refute it at one input. -/
def affineOrdersWrong : ChangeSpec := { name := "affineOrders", fn := fun _ => fun
  | [d1, d2, d3] => { results := [.lit (.bool false)], args := [d1, d2, d3] }
  | _ => none }
def AffineOrdersWrongFalsely : Prop := affineOrdersRow.holds Try.pinned (OpenSpec.ofChange affineOrdersWrong)

/- THE SECOND FORM. 'bulk': how many values and letters a reading holds, each counted each time it is reached (what is shared counts as often as it is met; a slice's spare places count too). A statement '..UptoSaid' is the law's where the arguments, and the package variables that the reading takes, are together of bulk at most 1048576: NARROWER than '..Said'. Prove '..Said' where nothing that the law and all that it calls make is longer than what came in: it says more and counts as full. Else prove '..UptoSaid'. A law counts once. -/
mutual
def uptoBulk {H : Type} : DataW H → Nat
  | .lit (.string bytes) => bytes.length + 1
  | .lit _ => 1
  | .nil => 1
  | .ptr d => uptoBulk d + 1
  | .slice elems spare => uptoBulkAll elems + uptoBulkAll spare + 1
  | .agg parts => uptoBulkAll parts + 1
  | .iface _ d => uptoBulk d + 1
  | .map entries => uptoBulkEntries entries + 1
  | .held _ => 1
def uptoBulkAll {H : Type} : List (DataW H) → Nat
  | [] => 0
  | d :: r => uptoBulk d + uptoBulkAll r
def uptoBulkEntries {H : Type} : List (Lit × DataW H) → Nat
  | [] => 0
  | x :: r => uptoBulkEntry x + uptoBulkEntries r
def uptoBulkEntry {H : Type} : Lit × DataW H → Nat
  | (.string bytes, d) => bytes.length + uptoBulk d + 1
  | (_, d) => uptoBulk d + 1
 end
def uptoSmall : (H : Type) → List (DataW H) → Bool := fun _ ds => decide (uptoBulkAll ds ≤ 1048576)
def OpenSpec.upto (s : _root_.Go.ChangeSpec) : _root_.Go.OpenSpec := { _root_.Go.OpenSpec.ofChange s with cond := some uptoSmall }

/-- 'hurdlelaw14.AffineForms', WHERE WHAT IT READS IS OF BULK AT MOST 1048576: true; the input reads as it did. -/
def affineFormsUptoRow : OpenClaim := { program := "ytkfhmcpdodnbhaa", sum := "1041c8008af06109ed7f2cdbbc0ae472fb42426d1a748a2a9fd43e70e08d9b9a", func := "hurdle/hurdlelaw14.AffineForms", spec := "affineForms", apart := false, narrowed := true }
def AffineFormsUptoSaid : Prop := affineFormsUptoRow.holds Try.pinned (OpenSpec.upto affineFormsSpec)

/-- 'hurdlelaw14.AffineValues', WHERE WHAT IT READS IS OF BULK AT MOST 1048576: true; the input reads as it did. -/
def affineValuesUptoRow : OpenClaim := { program := "ytkfhmcpdodnbhaa", sum := "1041c8008af06109ed7f2cdbbc0ae472fb42426d1a748a2a9fd43e70e08d9b9a", func := "hurdle/hurdlelaw14.AffineValues", spec := "affineValues", apart := false, narrowed := true }
def AffineValuesUptoSaid : Prop := affineValuesUptoRow.holds Try.pinned (OpenSpec.upto affineValuesSpec)

/-- 'hurdlelaw14.AffineApart', WHERE WHAT IT READS IS OF BULK AT MOST 1048576: true; the input reads as it did. -/
def affineApartUptoRow : OpenClaim := { program := "ytkfhmcpdodnbhaa", sum := "1041c8008af06109ed7f2cdbbc0ae472fb42426d1a748a2a9fd43e70e08d9b9a", func := "hurdle/hurdlelaw14.AffineApart", spec := "affineApart", apart := false, narrowed := true }
def AffineApartUptoSaid : Prop := affineApartUptoRow.holds Try.pinned (OpenSpec.upto affineApartSpec)

/-- 'hurdlelaw14.AffineSums', WHERE WHAT IT READS IS OF BULK AT MOST 1048576: true; the input reads as it did. -/
def affineSumsUptoRow : OpenClaim := { program := "ytkfhmcpdodnbhaa", sum := "1041c8008af06109ed7f2cdbbc0ae472fb42426d1a748a2a9fd43e70e08d9b9a", func := "hurdle/hurdlelaw14.AffineSums", spec := "affineSums", apart := false, narrowed := true }
def AffineSumsUptoSaid : Prop := affineSumsUptoRow.holds Try.pinned (OpenSpec.upto affineSumsSpec)

/-- 'hurdlelaw14.AffineExact', WHERE WHAT IT READS IS OF BULK AT MOST 1048576: true; the input reads as it did. -/
def affineExactUptoRow : OpenClaim := { program := "ytkfhmcpdodnbhaa", sum := "1041c8008af06109ed7f2cdbbc0ae472fb42426d1a748a2a9fd43e70e08d9b9a", func := "hurdle/hurdlelaw14.AffineExact", spec := "affineExact", apart := false, narrowed := true }
def AffineExactUptoSaid : Prop := affineExactUptoRow.holds Try.pinned (OpenSpec.upto affineExactSpec)

/-- 'hurdlelaw14.AffineOrders', WHERE WHAT IT READS IS OF BULK AT MOST 1048576: true; the input reads as it did. -/
def affineOrdersUptoRow : OpenClaim := { program := "ytkfhmcpdodnbhaa", sum := "1041c8008af06109ed7f2cdbbc0ae472fb42426d1a748a2a9fd43e70e08d9b9a", func := "hurdle/hurdlelaw14.AffineOrders", spec := "affineOrders", apart := false, narrowed := true }
def AffineOrdersUptoSaid : Prop := affineOrdersUptoRow.holds Try.pinned (OpenSpec.upto affineOrdersSpec)

end Rows
end Go.Proofs.Ytkfhmcpdodnbhaa
