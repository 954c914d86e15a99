/-
  Package-level variables that a row lists: how they are taken off the list.
-/
import Derived.Test.YtlhpdjafhjfcoaaDoorBytesArg
import Derived.Test.YtlhpdjafhjfcoaaDoorCards
import Derived.Test.YtlhpdjafhjfcoaaDoorTie
import Derived.Lib.LaidTab
import Derived.Stop.LaidErr
import Derived.Test.YtlhpdjafhjfcoaaDoorCPlain
import Derived.Deep.Slices
import Derived.Test.YtlhpdjafhjfcoaaDoorITexts
namespace Go.Proofs.YtlhpdjafhjfcoaaDoor
open Go.ChangeShapes Go.WideShapes Go.ChangeAt Go.RowKit

/-- The listed numbers of a table. -/
def numsOf : DataW Unit → List Int
  | .agg l => l.map fun | .lit (.int _ n) => n | _ => 0
  | _ => []
/-- The cells of a listed table. -/
def cellsOfD (k : IntKind) (d : DataW Unit) : Array Value := ((numsOf d).map fun n => Value.int k n).toArray
/-- A block's cells, put in. -/
def laidBlock (cs : Array Value) : Obj → Obj
  | .cells _ t fr => .cells cs t fr
  | o => o
/-- A list in chunks of one length. -/
theorem chunks {α : Type} (k : Nat) : ∀ (n : Nat) (cs : List α) (F : Nat → List α), cs.length = n * k → (∀ i, i < n → (cs.drop (i * k)).take k = F i) → cs = (List.range n).flatMap F
  | 0, cs, F, h, _ => by
    have h0 : cs = [] := List.length_eq_zero_iff.1 (by simpa using h)
    simp [h0]
  | n + 1, cs, F, h, hF => by
    have h1 := chunks k n (cs.drop k) (fun i => F (i + 1)) (by rw [List.length_drop, h, Nat.add_mul]; omega) (fun i hi => by
      rw [List.drop_drop, ← hF (i + 1) (by omega), Nat.add_mul, Nat.one_mul, Nat.add_comm k])
    have h0 := hF 0 (by omega)
    rw [Nat.zero_mul, List.drop_zero] at h0
    rw [List.range_succ_eq_map, List.flatMap_cons, List.flatMap_map, ← h0]
    exact (List.take_append_drop k cs).symm.trans (congrArg _ h1)
/-- A variable that heads the list: its block, and how its cells read. -/
theorem laid_head {P : Program} {W : World} {name : String} {d : DataW Unit} {rest : List (String × DataW Unit)} {g : Nat} {t : TypeId} (hg : P.globalNamed name = some g) (hty : (P.globals[g]?).map (·.type) = some t)
    (h : laidMet P ((name, d) :: rest) W) : ∃ cs ty fr fuel p, W.heap[g]? = some (.cells cs ty fr) ∧ DataW.trod (fun _ => ()) P W 0 (fun _ => true) false fuel t cs.toList = some (d, p) := by
  obtain ⟨ps, ⟨g', t', cs, fuel, p, q, hg', ht', hvar, hd, _, _⟩, _⟩ := h
  obtain rfl := Option.some.inj (hg.symm.trans hg')
  obtain rfl := Option.some.inj (hty.symm.trans ht')
  unfold World.var? at hvar
  rw [hg] at hvar
  simp only [Option.bind_some] at hvar
  split at hvar
  · rename_i cs' ty fr hh
    obtain rfl := Option.some.inj hvar
    exact ⟨cs', ty, fr, fuel, p, hh, hd⟩
  · cases hvar
end Go.Proofs.YtlhpdjafhjfcoaaDoor

/-
  Arguments that are filters or bytes: what the row's reading of them gives of the world's cells.
-/
namespace Go.Proofs.YtlhpdjafhjfcoaaDoor
open Go.ChangeShapes Go.WideShapes Go.ChangeAt Go.RowKit Go.Deep
set_option maxRecDepth 100000

section
variable {H : Type} {enc : TypeId × Value → H} {W : World} {base : Nat} {v : Value} {d : DataW H} {p : List MemPlace}
end
end Go.Proofs.YtlhpdjafhjfcoaaDoor

/-
  The listed tables: what the rows list of package-level variables, what that says of the world, and a world for the witness.
-/
namespace Go.Proofs.YtlhpdjafhjfcoaaDoor
open Go.ChangeShapes Go.WideShapes Go.ChangeAt Go.RowKit
set_option maxRecDepth 100000

theorem gTab : Tryd.prog.globalNamed "math/bits.deBruijn64tab" = some 5 := by kernel_rfl
theorem gTabType : (Tryd.prog.globals[5]?).map (·.type) = some 109 := by kernel_rfl
theorem cells64 : Tryd.prog.cellsOf 109 = 64 := by kernel_rfl
theorem cells8 : Tryd.prog.cellsOf 5 = 1 := by kernel_rfl
theorem cellsI : Tryd.prog.cellsOf 3 = 1 := by kernel_rfl
theorem cellsS : Tryd.prog.cellsOf 9 = 1 := by kernel_rfl

theorem tabOf : (Rows.laid_math_bits_deBruijn64tab : DataW Unit) = Lib.tabData .u8 (numsOf Rows.laid_math_bits_deBruijn64tab) := rfl
/-- A row of the table as a datum. -/
def rowD (r : Ip.Row) : DataW Unit := .agg [.lit (.int .i64 r.op), .lit (.string r.word), .lit (.int .i64 r.fmt)]
def rowC (r : Ip.Row) : List Value := [.int .i64 r.op, .string r.str, .int .i64 r.fmt]
theorem cellsFlat : (List.range 39).flatMap (fun i => rowC (Ip.rowAt i)) = Ip.cellsL := by kernel_rfl
end Go.Proofs.YtlhpdjafhjfcoaaDoor
