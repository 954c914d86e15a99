/-
  Package-level variables that a row lists: how they are taken off the list.
-/
import Derived.Test.YtmiflelmblnkaaaDoorPost
import Derived.Test.YtmiflelmblnkaaaDoorCards
import Derived.Test.YtmiflelmblnkaaaDoorTie
import Derived.Lib.LaidTab
import Derived.Stop.LaidErr
namespace Go.Proofs.YtmiflelmblnkaaaDoor
open Go.ChangeShapes Go.WideShapes Go.ChangeAt Go.RowKit

/-- The listed numbers of a table. -/
def numsOf : DataW Unit → List Int
  | .agg l => l.map fun | .lit (.int _ n) => n | _ => 0
  | _ => []
/-- The cells of a listed table. -/
def cellsOfD (k : IntKind) (d : DataW Unit) : Array Value := ((numsOf d).map fun n => Value.int k n).toArray
/-- A block's cells, put in. -/
def laidBlock (cs : Array Value) : Obj → Obj
  | .cells _ t fr => .cells cs t fr
  | o => o
/-- A list in chunks of one length. -/
theorem chunks {α : Type} (k : Nat) : ∀ (n : Nat) (cs : List α) (F : Nat → List α), cs.length = n * k → (∀ i, i < n → (cs.drop (i * k)).take k = F i) → cs = (List.range n).flatMap F
  | 0, cs, F, h, _ => by
    have h0 : cs = [] := List.length_eq_zero_iff.1 (by simpa using h)
    simp [h0]
  | n + 1, cs, F, h, hF => by
    have h1 := chunks k n (cs.drop k) (fun i => F (i + 1)) (by rw [List.length_drop, h, Nat.add_mul]; omega) (fun i hi => by
      rw [List.drop_drop, ← hF (i + 1) (by omega), Nat.add_mul, Nat.one_mul, Nat.add_comm k])
    have h0 := hF 0 (by omega)
    rw [Nat.zero_mul, List.drop_zero] at h0
    rw [List.range_succ_eq_map, List.flatMap_cons, List.flatMap_map, ← h0]
    exact (List.take_append_drop k cs).symm.trans (congrArg _ h1)
/-- A variable that heads the list: its block, and how its cells read. -/
theorem laid_head {P : Program} {W : World} {name : String} {d : DataW Unit} {rest : List (String × DataW Unit)} {g : Nat} {t : TypeId} (hg : P.globalNamed name = some g) (hty : (P.globals[g]?).map (·.type) = some t)
    (h : laidMet P ((name, d) :: rest) W) : ∃ cs ty fr fuel p, W.heap[g]? = some (.cells cs ty fr) ∧ DataW.trod (fun _ => ()) P W 0 (fun _ => true) false fuel t cs.toList = some (d, p) := by
  obtain ⟨ps, ⟨g', t', cs, fuel, p, q, hg', ht', hvar, hd, _, _⟩, _⟩ := h
  obtain rfl := Option.some.inj (hg.symm.trans hg')
  obtain rfl := Option.some.inj (hty.symm.trans ht')
  unfold World.var? at hvar
  rw [hg] at hvar
  simp only [Option.bind_some] at hvar
  split at hvar
  · rename_i cs' ty fr hh
    obtain rfl := Option.some.inj hvar
    exact ⟨cs', ty, fr, fuel, p, hh, hd⟩
  · cases hvar
end Go.Proofs.YtmiflelmblnkaaaDoor
