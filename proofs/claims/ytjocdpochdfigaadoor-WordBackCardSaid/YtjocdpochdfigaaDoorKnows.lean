/-
  The rows of examples at the end of each law: knows() answers true in every world that has the table of math/bits.
-/
import Derived.Test.YtjocdpochdfigaaDoorDo
import Derived.Test.YtjocdpochdfigaaDoorText
import Derived.Test.YtjocdpochdfigaaDoorParse
namespace Go.Proofs.YtjocdpochdfigaaDoor
open Go.ChangeShapes Go.WideShapes Go.ChangeAt Go.RowKit

theorem txt255 : Wd.txt 255 = ⟨#[48, 120, 102, 102]⟩ := by
  unfold Wd.txt
  rw [Wd.hex_ge (by omega), Wd.hex_lt (by omega)]
  rfl
theorem parse_txt (n : Nat) (hn : n < 18446744073709551616) (w : World) :
    Calls Tryd.prog 15 #[.string (Wd.txt n)] w fun e w' => e = .returned (.tuple #[.int .u64 n, .int .i64 0]) ∧ Below w.heap.size w w' := by
  have hl := Wd.hex_len16 n hn
  refine (parse_any (Wd.txt n) w (by show (48 :: 120 :: Wd.hex n).length ≤ _; simp; omega)).mono ?_
  rintro e w' ⟨he, hb⟩
  refine ⟨?_, hb⟩
  rcases he with ⟨m, hm, h1, rfl⟩ | ⟨h1, _⟩
  · rw [Wd.txt_inj h1]
  · exact absurd rfl (h1 n hn)
theorem parse255 (w : World) :
    Calls Tryd.prog 15 #[.string ⟨#[48, 120, 102, 102]⟩] w fun e w' => e = .returned (.tuple #[.int .u64 255, .int .i64 0]) ∧ Below w.heap.size w w' := by
  rw [← txt255]
  exact parse_txt 255 (by omega) w
theorem text255 (w : World) (ht : Tab w) :
    Calls Tryd.prog 17 #[.int .u64 255] w fun e w' => e = .returned (.string ⟨#[48, 120, 102, 102]⟩) ∧ Below w.heap.size w w' := by
  rw [← txt255]
  exact text_any 255 w (by omega) ht

theorem k1 : Wd.doV 20 0 1 = 4294967295 := by decide
theorem k2 : Wd.doB 20 1 = true := by decide
theorem k3 : Wd.doV 100 1 33 = 2 := by decide
theorem k4 : Wd.doB 100 33 = true := by decide
theorem k5 : Wd.doV 52 7 0 = 0 := by decide
theorem k6 : Wd.doB 52 0 = false := by decide

set_option maxHeartbeats 1000000 in
theorem knows_any (w : World) (ht : Tab w) :
    Calls Tryd.prog 14 #[] w fun e w' => e = .returned (.bool true) ∧ Below w.heap.size w w' := by
  have hk1 := k1
  have hk2 := k2
  have hk3 := k3
  have hk4 := k4
  have hk5 := k5
  have hk6 := k6
  go_enter Tryd.func14, Tryd.ntmps14
  go_wp2_with fail
  refine (do_any _ _ _ _ (by omega) (by omega) (by omega) (by omega)).mono ?_
  rintro e w' ⟨rfl, rfl⟩
  go_wp2_with fail
  refine (do_any _ _ _ _ (by omega) (by omega) (by omega) (by omega)).mono ?_
  rintro e w' ⟨rfl, rfl⟩
  go_wp2_with fail
  refine (do_any _ _ _ _ (by omega) (by omega) (by omega) (by omega)).mono ?_
  rintro e w' ⟨rfl, rfl⟩
  go_wp2_with fail
  refine (parse255 _).mono ?_
  rintro e w1 ⟨rfl, hb1⟩
  have ht1 := ht.below hb1
  go_wp2_with fail
  refine (text255 _ ht1).mono ?_
  rintro e w2 ⟨rfl, hb2⟩
  go_wp2_with fail
  refine (neg_any _ _).mono ?_
  rintro e w3 ⟨rfl, rfl⟩
  go_wp2_with fail
  go_ret
  exact ⟨rfl, hb1.trans (hb2.mono hb1.size)⟩
end Go.Proofs.YtjocdpochdfigaaDoor
