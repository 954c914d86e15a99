/-
  The rows of examples at the end of each law: knows() answers true in every world that has the table of math/bits.
-/
import Derived.Test.YtmijnhcbbklmaaaDoorRefDoAll
import Derived.Test.YtmijnhcbbklmaaaDoorTxt
namespace Go.Proofs.YtmijnhcbbklmaaaDoor
open Go.ChangeShapes Go.WideShapes Go.ChangeAt Go.RowKit

theorem txt255 : Wd.txt 255 = ⟨#[48, 120, 102, 102]⟩ := by
  unfold Wd.txt
  rw [Wd.hex_ge (by omega), Wd.hex_lt (by omega)]
  rfl
theorem parse255 (w : World) :
    Calls Tryd.prog 34 #[.string ⟨#[48, 120, 102, 102]⟩] w fun e w' => e = .returned (.tuple #[.int .u64 255, .int .i64 0]) ∧ Below w.heap.size w w' := by
  rw [← txt255]
  exact parse_txt 255 (by omega) w
theorem text255 (w : World) (ht : Tab w) :
    Calls Tryd.prog 23 #[.int .u64 255] w fun e w' => e = .returned (.string ⟨#[48, 120, 102, 102]⟩) ∧ Below w.heap.size w w' := by
  rw [← txt255]
  exact text_any 255 w (by omega) ht

theorem k1 : Wd.doV 20 0 1 = 4294967295 := by decide
theorem k2 : Wd.doB 20 1 = true := by decide
theorem k3 : Wd.doV 100 1 33 = 2 := by decide
theorem k4 : Wd.doB 100 33 = true := by decide
theorem k5 : Wd.doV 52 7 0 = 0 := by decide
theorem k6 : Wd.doB 52 0 = false := by decide

end Go.Proofs.YtmijnhcbbklmaaaDoor
