/-
  The statements' own examples (knows): true, whatever the world.
-/
import Derived.Test.YtlklgifpdneolaaDWord
import Derived.Test.YtlklgifpdneolaaDBytes
import Derived.Lib.QuietBelow
namespace Go.Proofs.Ytlklgifpdneolaa
open Go.ChangeShapes Go.WideShapes Go.ChangeAt Go.RowKit
set_option maxRecDepth 20000

def exD : Rec := ⟨7, 9, 0, 4294967301, 0, 0, 0, 0, 0⟩
theorem exD_ok : exD.ok := by unfold Rec.ok exD; decide
theorem exW4 : wordAtD exD 4 = 9 ∧ hasW 4 = true := by decide
theorem exW16 : wordAtD exD 16 = 5 := by decide
theorem exW20 : wordAtD exD 20 = 1 := by decide

theorem ex_word4 (w : World) : Calls Try.prog 13 #[.agg #[.int .u32 7, .int .u32 9, .int .u64 0, .int .u64 4294967301, .int .u64 0, .int .u64 0, .int .u64 0, .int .u64 0, .int .u64 0], .int .u32 4] w fun e w' => e = .returned (.tuple #[.int .u32 9, .bool true]) ∧ Below w.heap.size w w' := by
  have h := word_any exD 4 w exD_ok (by omega)
  rw [exW4.1, exW4.2] at h
  exact h
theorem ex_word16 (w : World) : Calls Try.prog 13 #[.agg #[.int .u32 7, .int .u32 9, .int .u64 0, .int .u64 4294967301, .int .u64 0, .int .u64 0, .int .u64 0, .int .u64 0, .int .u64 0], .int .u32 16] w fun e w' => e = .returned (.tuple #[.int .u32 5, .bool true]) ∧ Below w.heap.size w w' := by
  have h := word_any exD 16 w exD_ok (by omega)
  rw [exW16, show hasW 16 = true from rfl] at h
  exact h
theorem ex_word20 (w : World) : Calls Try.prog 13 #[.agg #[.int .u32 7, .int .u32 9, .int .u64 0, .int .u64 4294967301, .int .u64 0, .int .u64 0, .int .u64 0, .int .u64 0, .int .u64 0], .int .u32 20] w fun e w' => e = .returned (.tuple #[.int .u32 1, .bool true]) ∧ Below w.heap.size w w' := by
  have h := word_any exD 20 w exD_ok (by omega)
  rw [exW20, show hasW 20 = true from rfl] at h
  exact h
theorem ex_bytes (w : World) : Calls Try.prog 10 #[.agg #[.int .u32 7, .int .u32 9, .int .u64 0, .int .u64 4294967301, .int .u64 0, .int .u64 0, .int .u64 0, .int .u64 0, .int .u64 0]] w fun e w' => ∃ ao cap, e = .returned (.slice ao 64 cap) ∧ Below w.heap.size w w' := by
  refine (bytes_any exD w exD_ok).mono ?_
  rintro e w' ⟨v, rfl, hB, hb⟩
  obtain ⟨ao, cap, rfl⟩ := hB.shape
  rw [bytesD_len]
  exact ⟨ao, cap, rfl, hb⟩
theorem arg5 : argAt 5 0 = 56 ∧ argAt 5 1 = 60 ∧ argAt 6 0 = 64 := by decide

set_option maxHeartbeats 2000000 in
theorem dknows_any (w : World) : Calls Try.prog 8 #[] w fun e w' => e = .returned (.bool true) ∧ Below w.heap.size w w' := by
  go_enter Try.func8, Try.ntmps8
  go_wp2_with fail
  refine (ex_word4 _).mono ?_
  rintro e w1 ⟨rfl, hb1⟩
  have hX0 := heap_alloc_new w (.cells #[.int .u32 7, .int .u32 9, .int .u64 0, .int .u64 4294967301, .int .u64 0, .int .u64 0, .int .u64 0, .int .u64 0, .int .u64 0] 26)
  have HX1 := Lib.hid ((hb1.block _ (lt_of_block hX0)).trans hX0)
  have HB1 := Lib.hid (below2 (ba _ (Below.refl w.heap.size w)) hb1)
  clear hX0 hb1
  have x0 : w1.cell? ⟨w.heap.size, 0, none⟩ = some (.int .u32 7) := cell_in HX1.out 0
  have x1 : w1.cell? ⟨w.heap.size, 1, none⟩ = some (.int .u32 9) := cell_in HX1.out 1
  have x2 : w1.cell? ⟨w.heap.size, 2, none⟩ = some (.int .u64 0) := cell_in HX1.out 2
  have x3 : w1.cell? ⟨w.heap.size, 3, none⟩ = some (.int .u64 4294967301) := cell_in HX1.out 3
  have x4 : w1.cell? ⟨w.heap.size, 4, none⟩ = some (.int .u64 0) := cell_in HX1.out 4
  have x5 : w1.cell? ⟨w.heap.size, 5, none⟩ = some (.int .u64 0) := cell_in HX1.out 5
  have x6 : w1.cell? ⟨w.heap.size, 6, none⟩ = some (.int .u64 0) := cell_in HX1.out 6
  have x7 : w1.cell? ⟨w.heap.size, 7, none⟩ = some (.int .u64 0) := cell_in HX1.out 7
  have x8 : w1.cell? ⟨w.heap.size, 8, none⟩ = some (.int .u64 0) := cell_in HX1.out 8
  go_wp2_with fail
  refine (ex_word16 _).mono ?_
  rintro e w2 ⟨rfl, hb2⟩
  have HX2 := Lib.hid ((hb2.block _ (lt_of_block HX1.out)).trans HX1.out)
  have HB2 := Lib.hid (below2 HB1.out hb2)
  clear hb2 x0 x1 x2 x3 x4 x5 x6 x7 x8
  have x0 : w2.cell? ⟨w.heap.size, 0, none⟩ = some (.int .u32 7) := cell_in HX2.out 0
  have x1 : w2.cell? ⟨w.heap.size, 1, none⟩ = some (.int .u32 9) := cell_in HX2.out 1
  have x2 : w2.cell? ⟨w.heap.size, 2, none⟩ = some (.int .u64 0) := cell_in HX2.out 2
  have x3 : w2.cell? ⟨w.heap.size, 3, none⟩ = some (.int .u64 4294967301) := cell_in HX2.out 3
  have x4 : w2.cell? ⟨w.heap.size, 4, none⟩ = some (.int .u64 0) := cell_in HX2.out 4
  have x5 : w2.cell? ⟨w.heap.size, 5, none⟩ = some (.int .u64 0) := cell_in HX2.out 5
  have x6 : w2.cell? ⟨w.heap.size, 6, none⟩ = some (.int .u64 0) := cell_in HX2.out 6
  have x7 : w2.cell? ⟨w.heap.size, 7, none⟩ = some (.int .u64 0) := cell_in HX2.out 7
  have x8 : w2.cell? ⟨w.heap.size, 8, none⟩ = some (.int .u64 0) := cell_in HX2.out 8
  go_wp2_with fail
  refine (ex_word20 _).mono ?_
  rintro e w3 ⟨rfl, hb3⟩
  have HX3 := Lib.hid ((hb3.block _ (lt_of_block HX2.out)).trans HX2.out)
  have HB3 := Lib.hid (below2 HB2.out hb3)
  clear hb3 x0 x1 x2 x3 x4 x5 x6 x7 x8
  have x0 : w3.cell? ⟨w.heap.size, 0, none⟩ = some (.int .u32 7) := cell_in HX3.out 0
  have x1 : w3.cell? ⟨w.heap.size, 1, none⟩ = some (.int .u32 9) := cell_in HX3.out 1
  have x2 : w3.cell? ⟨w.heap.size, 2, none⟩ = some (.int .u64 0) := cell_in HX3.out 2
  have x3 : w3.cell? ⟨w.heap.size, 3, none⟩ = some (.int .u64 4294967301) := cell_in HX3.out 3
  have x4 : w3.cell? ⟨w.heap.size, 4, none⟩ = some (.int .u64 0) := cell_in HX3.out 4
  have x5 : w3.cell? ⟨w.heap.size, 5, none⟩ = some (.int .u64 0) := cell_in HX3.out 5
  have x6 : w3.cell? ⟨w.heap.size, 6, none⟩ = some (.int .u64 0) := cell_in HX3.out 6
  have x7 : w3.cell? ⟨w.heap.size, 7, none⟩ = some (.int .u64 0) := cell_in HX3.out 7
  have x8 : w3.cell? ⟨w.heap.size, 8, none⟩ = some (.int .u64 0) := cell_in HX3.out 8
  go_wp2_with fail
  refine (low_any 5 _).mono ?_
  rintro e w4 ⟨rfl, rfl⟩
  rw [arg5.1]
  go_wp2_with fail
  refine (high_any 5 _).mono ?_
  rintro e w4 ⟨rfl, rfl⟩
  rw [arg5.2.1]
  go_wp2_with fail
  refine (low_any 6 _).mono ?_
  rintro e w4 ⟨rfl, rfl⟩
  rw [arg5.2.2]
  go_wp2_with fail
  refine (ex_bytes _).mono ?_
  rintro e w5 ⟨ao, cap, rfl, hb5⟩
  have HB5 := Lib.hid (below2 HB3.out hb5)
  clear hb5 x0 x1 x2 x3 x4 x5 x6 x7 x8
  go_wp2_with fail
  go_ret
  exact ⟨rfl, HB5.out⟩
end Go.Proofs.Ytlklgifpdneolaa
