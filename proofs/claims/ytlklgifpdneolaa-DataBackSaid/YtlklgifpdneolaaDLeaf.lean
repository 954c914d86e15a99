/-
  Package data's small functions: split, join, begins, argByte, Low, High; and the document's Low.
-/
import Derived.Test.YtlklgifpdneolaaDPlain
import Derived.Laws.BitsAllLaws
import Derived.BigQuiet
import Derived.IntWalk
namespace Go.Proofs.Ytlklgifpdneolaa
open Go.ChangeShapes Go.WideShapes Go.ChangeAt Go.RowKit
set_option maxRecDepth 20000

theorem retU32 {a b : Int} (h : a = b) : Ending.returned (.int .u32 a) = .returned (.int .u32 b) := by rw [h]
theorem retU64 {a b : Int} (h : a = b) : Ending.returned (.int .u64 a) = .returned (.int .u64 b) := by rw [h]

theorem split_any (n : Nat) (w : World) (hn : n < 18446744073709551616) :
    Calls Try.prog 28 #[.int .u64 n] w fun e w' => e = .returned (.tuple #[.int .u32 ((n % 4294967296 : Nat) : Int), .int .u32 ((n / 4294967296 : Nat) : Int)]) ∧ w = w' := by
  go_enter Try.func28, Try.ntmps28
  go_wp2
  go_ret2
  exact ⟨rfl, rfl⟩
theorem or_join (a b : Nat) (ha : a < 4294967296) (hb : b < 4294967296) : bits .or .u64 ((b : Int) * 4294967296) (a : Int) = ((a + b * 4294967296 : Nat) : Int) := by
  have e : (b : Int) * 4294967296 = ((b * 4294967296 : Nat) : Int) := by omega
  rw [e, u64_or_nat _ _ (by omega) (by omega), nat_join 32 _ _ (by omega) (by omega), Nat.add_comm]
theorem join_any (a b : Nat) (w : World) (ha : a < 4294967296) (hb : b < 4294967296) :
    Calls Try.prog 27 #[.int .u32 a, .int .u32 b] w fun e w' => e = .returned (.int .u64 ((a + b * 4294967296 : Nat) : Int)) ∧ w = w' := by
  go_enter Try.func27, Try.ntmps27
  go_wp2
  go_ret
  exact ⟨retU64 (or_join a b ha hb), rfl⟩
theorem begins_any (n : Nat) (w : World) :
    Calls Try.prog 25 #[.int .u32 n] w fun e w' => e = .returned (.bool (hasW n)) ∧ w = w' := by
  go_enter Try.func25, Try.ntmps25
  go_wp2
  all_goals go_ret
  · refine ⟨ret1 ?_, rfl⟩
    rename_i h
    have h' : n < 64 := by omega
    unfold hasW
    rw [decide_eq_true h', Bool.and_true]
    apply Bool.eq_iff_iff.2
    simp
    omega
  · refine ⟨ret1 ?_, rfl⟩
    rename_i h
    have h' : ¬ n < 64 := by omega
    unfold hasW
    rw [decide_eq_false h', Bool.and_false]
def hasA (n : Int) : Bool := decide (0 ≤ n) && decide (n < 6)
def argAt (n p : Int) : Int := if hasA n then 4 * (4 + 2 * n + p) else 64
theorem argAt_in {n p : Int} (h0 : 0 ≤ n) (h1 : n < 6) : argAt n p = 4 * (4 + 2 * n + p) := by simp [argAt, hasA, h0, h1]
theorem argAt_out {n p : Int} (h : n < 0 ∨ 6 ≤ n) : argAt n p = 64 := by
  unfold argAt hasA
  rw [if_neg]
  simp
  omega
theorem argByte_any (n p : Int) (w : World) (hp : p = 0 ∨ p = 1) :
    Calls Try.prog 26 #[.int .i64 n, .int .i64 p] w fun e w' => e = .returned (.int .u32 (argAt n p)) ∧ w = w' := by
  by_cases h0 : n < 0
  · go_enter Try.func26, Try.ntmps26
    go_wp2
    all_goals go_ret
    all_goals refine ⟨retU32 ?_, rfl⟩
    exact (argAt_out (.inl h0)).symm
  · by_cases h1 : n < 6
    · go_enter Try.func26, Try.ntmps26
      go_wp2
      all_goals go_ret
      all_goals refine ⟨retU32 ?_, rfl⟩
      exact (argAt_in (by omega) (by omega)).symm
    · go_enter Try.func26, Try.ntmps26
      go_wp2
      all_goals go_ret
      all_goals refine ⟨retU32 ?_, rfl⟩
      exact (argAt_out (.inr (by omega))).symm
theorem low_any (n : Int) (w : World) :
    Calls Try.prog 18 #[.int .i64 n] w fun e w' => e = .returned (.int .u32 (argAt n 0)) ∧ w = w' := by
  go_enter Try.func18, Try.ntmps18
  go_wp2_with fail
  refine (argByte_any n 0 _ (.inl rfl)).mono ?_
  rintro e w' ⟨rfl, rfl⟩
  go_wp2_with fail
  go_ret
  exact ⟨rfl, rfl⟩
theorem high_any (n : Int) (w : World) :
    Calls Try.prog 19 #[.int .i64 n] w fun e w' => e = .returned (.int .u32 (argAt n 1)) ∧ w = w' := by
  go_enter Try.func19, Try.ntmps19
  go_wp2_with fail
  refine (argByte_any n 1 _ (.inr rfl)).mono ?_
  rintro e w' ⟨rfl, rfl⟩
  go_wp2_with fail
  go_ret
  exact ⟨rfl, rfl⟩
end Go.Proofs.Ytlklgifpdneolaa
