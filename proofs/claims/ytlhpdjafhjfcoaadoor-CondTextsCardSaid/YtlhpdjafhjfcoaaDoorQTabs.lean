/-
  The listed tables of the laws of package hurdlelaw08: what they say of the world, and a world for the witness.
-/
import Derived.Test.YtlhpdjafhjfcoaaDoorTabs
namespace Go.Proofs.YtlhpdjafhjfcoaaDoor
open Go.ChangeShapes Go.WideShapes Go.ChangeAt Go.RowKit
set_option maxRecDepth 100000

/-- What the rows list of package-level variables. -/
def laysQ : List (String × DataW Unit) := [("math/bits.deBruijn32tab", Rows.laid_math_bits_deBruijn32tab), ("math/bits.deBruijn64tab", Rows.laid_math_bits_deBruijn64tab), ("internal/strconv.uint64pow10", Rows.laid_internal_strconv_uint64pow10), ("unicode/utf8.acceptRanges", Rows.laid_unicode_utf8_acceptRanges), ("unicode/utf8.first", Rows.laid_unicode_utf8_first)]
theorem tabOfQ : (Rows.laid_math_bits_deBruijn64tab : DataW Unit) = Lib.tabData .u8 (numsOf Rows.laid_math_bits_deBruijn64tab) := rfl
theorem qtab_of {W : World} (h : laidMetH Tryd.prog laysQ W) : Tab W := by
  have h1 : laidMet Tryd.prog laysQ W := h
  have h2 := laidMet.tail h1
  rw [tabOfQ] at h2
  have ht := Lib.tabIs_of_head gTab gTabType Tryd.underlying109 Tryd.underlying5 cells8 cells64 h2
  have hc : W.cell? ⟨5, 15, none⟩ = some (.int .u8 4) := ht.cell gTab 15 (by decide)
  refine ⟨hc, ?_⟩
  apply Nat.lt_of_not_le
  intro hle
  have e : W.heap[5]? = none := by simp; exact hle
  simp [World.cell?, e] at hc
/-- The listed numbers of a table of small structs. -/
def numsFlat : DataW Unit → List Int
  | .agg l => l.flatMap fun d => match d with | .agg m => m.map (fun x => match x with | .lit (.int _ n) => n | _ => 0) | _ => [0]
  | _ => []
/-- A world for the witness. -/
noncomputable def laidWorldQ (os : Os) : World :=
  { World.holding Tryd.prog os ⟨#[], #[], []⟩ with heap := (((((World.holding Tryd.prog os ⟨#[], #[], []⟩).heap.modify 4 (laidBlock (cellsOfD .u8 Rows.laid_math_bits_deBruijn32tab))).modify 5 (laidBlock (cellsOfD .u8 Rows.laid_math_bits_deBruijn64tab))).modify 0 (laidBlock (cellsOfD .u64 Rows.laid_internal_strconv_uint64pow10))).modify 3 (laidBlock ((numsFlat Rows.laid_unicode_utf8_acceptRanges).map fun n => Value.int .u8 n).toArray)).modify 2 (laidBlock (cellsOfD .u8 Rows.laid_unicode_utf8_first)) }
end Go.Proofs.YtlhpdjafhjfcoaaDoor
