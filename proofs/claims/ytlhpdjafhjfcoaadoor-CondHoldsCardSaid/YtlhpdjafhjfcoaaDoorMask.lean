/-
  Masks: what is so of numbers, as the bits of a number.
-/
import Derived.Test.YtlhpdjafhjfcoaaDoorProg
import Derived.WalkKit
import Derived.Laws.BitsAllLaws
namespace Go.Proofs.YtlhpdjafhjfcoaaDoor
open Go.RowKit

/-- A mask's number. -/
def maskN (P : Nat → Bool) : Nat → Nat
  | 0 => 0
  | n + 1 => maskN P n + (if P n then 2 ^ n else 0)
theorem maskN_lt (P : Nat → Bool) : ∀ n, maskN P n < 2 ^ n
  | 0 => by simp [maskN]
  | n + 1 => by
    have := maskN_lt P n
    rw [maskN, Nat.pow_succ]
    split <;> omega
theorem maskN_bit (P : Nat → Bool) : ∀ n i, i < n → (maskN P n).testBit i = P i
  | 0, _, h => by omega
  | n + 1, i, h => by
    have hlt := maskN_lt P n
    rw [maskN]
    by_cases hi : i = n
    · subst hi
      cases hP : P i
      · rw [if_neg (by decide), Nat.add_zero]
        exact Nat.testBit_lt_two_pow hlt
      · rw [if_pos rfl, Nat.add_comm, Nat.testBit_two_pow_add_eq, Nat.testBit_lt_two_pow hlt]
        rfl
    · cases hP : P n
      · rw [if_neg (by decide), Nat.add_zero]
        exact maskN_bit P n i (by omega)
      · rw [if_pos rfl, Nat.add_comm, Nat.testBit_two_pow_add_gt (by omega)]
        exact maskN_bit P n i (by omega)
theorem maskN_congr {P Q : Nat → Bool} : ∀ n, (∀ i, i < n → P i = Q i) → maskN P n = maskN Q n
  | 0, _ => rfl
  | n + 1, h => by rw [maskN, maskN, maskN_congr n fun i hi => h i (by omega), h n (by omega)]
theorem maskN_test (P : Nat → Bool) (n i : Nat) : (maskN P n).testBit i = (decide (i < n) && P i) := by
  by_cases h : i < n
  · rw [maskN_bit P n i h, decide_eq_true h, Bool.true_and]
  · rw [decide_eq_false h, Bool.false_and]
    exact Nat.testBit_lt_two_pow (Nat.lt_of_lt_of_le (maskN_lt P n) (Nat.pow_le_pow_right (by omega) (by omega)))
theorem maskN_none {P : Nat → Bool} {n : Nat} (h : ∀ i, i < n → P i = false) : maskN P n = 0 := by
  apply Nat.eq_of_testBit_eq
  intro i
  rw [maskN_test, Nat.zero_testBit]
  by_cases hi : i < n
  · rw [h i hi, Bool.and_false]
  · rw [decide_eq_false hi, Bool.false_and]
theorem maskN_or (P Q : Nat → Bool) (n : Nat) : maskN P n ||| maskN Q n = maskN (fun i => P i || Q i) n := by
  apply Nat.eq_of_testBit_eq
  intro i
  rw [Nat.testBit_or, maskN_test, maskN_test, maskN_test]
  cases decide (i < n) <;> simp
theorem maskN_and (P Q : Nat → Bool) (n : Nat) : maskN P n &&& maskN Q n = maskN (fun i => P i && Q i) n := by
  apply Nat.eq_of_testBit_eq
  intro i
  rw [Nat.testBit_and, maskN_test, maskN_test, maskN_test]
  cases decide (i < n) <;> simp
theorem maskN_u32 (P : Nat → Bool) : maskN P 18 < 4294967296 := Nat.lt_trans (maskN_lt P 18) (by decide)
theorem maskN_18 (P : Nat → Bool) : maskN P 18 ≤ 262143 := by have := maskN_lt P 18; omega
theorem maskN_not (P Q : Nat → Bool) : maskN P 18 &&& (4294967295 - maskN Q 18) = maskN (fun i => P i && !Q i) 18 := by
  apply Nat.eq_of_testBit_eq
  intro i
  have e : 4294967295 - maskN Q 18 = 2 ^ 32 - (maskN Q 18 + 1) := by omega
  rw [Nat.testBit_and, e, Nat.testBit_two_pow_sub_succ (maskN_u32 Q), maskN_test, maskN_test, maskN_test]
  by_cases h : i < 18
  · simp [h, show i < 32 by omega]
  · simp [h]
theorem bits_or (P Q : Nat → Bool) : bits .or .u32 (maskN P 18 : Nat) (maskN Q 18 : Nat) = ((maskN (fun i => P i || Q i) 18 : Nat) : Int) := by
  rw [u32_or_nat _ _ (maskN_u32 P) (maskN_u32 Q), maskN_or]
theorem bits_and (P Q : Nat → Bool) : bits .and .u32 (maskN P 18 : Nat) (maskN Q 18 : Nat) = ((maskN (fun i => P i && Q i) 18 : Nat) : Int) := by
  rw [u32_and_nat _ _ (maskN_u32 P) (maskN_u32 Q), maskN_and]
theorem bits_not (P Q : Nat → Bool) : bits .andNot .u32 (maskN P 18 : Nat) (maskN Q 18 : Nat) = ((maskN (fun i => P i && !Q i) 18 : Nat) : Int) := by
  rw [u32_andNot_nat _ _ (maskN_u32 P) (maskN_u32 Q), maskN_not]
/-- A and X alone. -/
theorem mask_ax {P : Nat → Bool} (h : ∀ i, 2 ≤ i → i < 18 → P i = false) : maskN P 18 = (if P 0 then 1 else 0) + (if P 1 then 2 else 0) := by
  apply Nat.eq_of_testBit_eq
  intro i
  rw [maskN_test]
  have hb : ∀ a b : Bool, ((if a then 1 else 0) + (if b then 2 else 0) : Nat) < 2 ^ 2 := by decide
  rcases Nat.lt_or_ge i 2 with h2 | h2
  · have hi : i = 0 ∨ i = 1 := by omega
    rcases hi with rfl | rfl
    · cases P 0 <;> cases P 1 <;> decide
    · cases P 0 <;> cases P 1 <;> decide
  · rw [Nat.testBit_lt_two_pow (Nat.lt_of_lt_of_le (hb _ _) (Nat.pow_le_pow_right (by omega) h2))]
    by_cases h18 : i < 18
    · rw [h i h2 h18, Bool.and_false]
    · rw [decide_eq_false h18, Bool.false_and]
/-- A cell's bit. -/
def cellM (k : Nat) : Nat := if k < 16 then 2 ^ (k + 2) else 0
theorem mask_cell {P : Nat → Bool} {k : Nat} (h : ∀ i, i < 18 → P i = (k + 2 == i)) : maskN P 18 = cellM k := by
  apply Nat.eq_of_testBit_eq
  intro i
  rw [maskN_test]
  unfold cellM
  by_cases hk : k < 16
  · rw [if_pos hk, Nat.testBit_two_pow]
    by_cases hi : i < 18
    · rw [h i hi, decide_eq_true hi, Bool.true_and, Bool.eq_iff_iff]
      simp
    · rw [decide_eq_false hi, Bool.false_and, decide_eq_false (by omega)]
  · rw [if_neg hk, Nat.zero_testBit]
    by_cases hi : i < 18
    · rw [h i hi]
      have : (k + 2 == i) = false := by simp; omega
      rw [this, Bool.and_false]
    · rw [decide_eq_false hi, Bool.false_and]
theorem cell_shift {k : Nat} (h : k < 16) : cellM k = 4 <<< k := by
  unfold cellM
  rw [if_pos h, Nat.shiftLeft_eq, Nat.pow_add]
  omega

end Go.Proofs.YtlhpdjafhjfcoaaDoor
