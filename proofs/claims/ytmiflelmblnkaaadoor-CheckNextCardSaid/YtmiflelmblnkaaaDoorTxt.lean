/-
  A number's text is read as the number (word.Parse at word.Text's answers), in every world.
-/
import Derived.Test.YtmiflelmblnkaaaDoorText
import Derived.Test.YtmiflelmblnkaaaDoorParse
namespace Go.Proofs.YtmiflelmblnkaaaDoor
open Go.ChangeShapes Go.WideShapes Go.ChangeAt Go.RowKit

theorem parse_txt (n : Nat) (hn : n < 18446744073709551616) (w : World) :
    Calls Tryd.prog 67 #[.string (Wd.txt n)] w fun e w' => e = .returned (.tuple #[.int .u64 n, .int .i64 0]) ∧ Below w.heap.size w w' := by
  have hl := Wd.hex_len16 n hn
  refine (parse_any (Wd.txt n) w (by show (48 :: 120 :: Wd.hex n).length ≤ _; simp; omega)).mono ?_
  rintro e w' ⟨he, hb⟩
  refine ⟨?_, hb⟩
  rcases he with ⟨m, hm, h1, rfl⟩ | ⟨h1, _⟩
  · rw [Wd.txt_inj h1]
  · exact absurd rfl (h1 n hn)
end Go.Proofs.YtmiflelmblnkaaaDoor
