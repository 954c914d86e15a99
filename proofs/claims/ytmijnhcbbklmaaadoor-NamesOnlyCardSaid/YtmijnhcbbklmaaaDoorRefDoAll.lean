/-
  What word.Do and word.Neg answer, for any kind and any two numbers, in every world.
-/
import Derived.Test.YtmijnhcbbklmaaaDoorProg
import Derived.Test.YtmijnhcbbklmaaaDoorTxt
import Derived.WalkKit
import Derived.ProofKit
import Derived.Lib.Hide
import Derived.Deep.QuietTactic
import Derived.BigQuiet
namespace Go.Proofs.YtmijnhcbbklmaaaDoor
open Go.ChangeShapes Go.WideShapes Go.ChangeAt Go.RowKit

theorem ret2 {v v' : Int} {c c' : Bool} (h : v = v') (hc : c = c') : Ending.returned (.tuple #[.int .u32 v, .bool c]) = .returned (.tuple #[.int .u32 v', .bool c']) := by rw [h, hc]

end Go.Proofs.YtmijnhcbbklmaaaDoor

/-
  The document's own answers for arithmetic (package hurdleref01): Do and Neg answer the same as the plain functions.
-/
namespace Wd
open Go
/-- A power of two. -/
def pw (k : Nat) : Nat := 2 ^ k
theorem pw_bd (k : Nat) (h : k < 32) : 1 ≤ pw k ∧ pw k ≤ 2147483648 := by
  have h1 : (2 : Nat) ^ k ≤ 2 ^ 31 := Nat.pow_le_pow_right (by omega) (by omega)
  have h2 : 0 < (2 : Nat) ^ k := Nat.pow_pos (by omega)
  unfold pw
  omega
theorem pw_succ (k : Nat) : pw (k + 1) = pw k * 2 := Nat.pow_succ ..
/-- Bit k of a number. -/
def bt (a k : Nat) : Nat := a / pw k % 2
theorem bt_le (a k : Nat) : bt a k ≤ 1 := by unfold bt; omega
/-- Of each of the first k bits of two numbers what a row of four says, as a number. -/
def sumG (g : Nat → Nat) (a b : Nat) : Nat → Nat
  | 0 => 0
  | k + 1 => sumG g a b k + g (2 * bt a k + bt b k) * pw k
theorem sumG_lt (g : Nat → Nat) (hg : ∀ j, j < 4 → g j ≤ 1) (a b : Nat) : ∀ k, sumG g a b k < pw k
  | 0 => by show 0 < 2 ^ 0; decide
  | k + 1 => by
    have ih := sumG_lt g hg a b k
    have ha := bt_le a k
    have hb := bt_le b k
    have h := hg (2 * bt a k + bt b k) (by omega)
    have hm : g (2 * bt a k + bt b k) * pw k ≤ 1 * pw k := Nat.mul_le_mul_right _ h
    rw [pw_succ]
    unfold sumG
    omega
end Wd
namespace Go.Proofs.YtmijnhcbbklmaaaDoor
open Go.ChangeShapes Go.WideShapes Go.ChangeAt Go.RowKit

theorem retT {v v' : Int} {c c' : Bool} (h : v = v') (hc : c = c') : Ending.returned (.tuple #[.int .u32 v, .bool c]) = .returned (.tuple #[.int .u32 v', .bool c']) := by rw [h, hc]

/-- What the three rows of four say. -/
def gOr (j : Nat) : Nat := if j = 0 then 0 else 1
def gAnd (j : Nat) : Nat := if j = 3 then 1 else 0
def gXor (j : Nat) : Nat := if j = 1 ∨ j = 2 then 1 else 0
end Go.Proofs.YtmijnhcbbklmaaaDoor
namespace Wd
open Go
theorem bt_eq (x k : Nat) : bt x k = (x.testBit k).toNat := by
  unfold bt pw
  rw [Nat.testBit_eq_decide_div_mod_eq]
  have := Nat.mod_lt (x / 2 ^ k) (show 0 < 2 by omega)
  by_cases h : x / 2 ^ k % 2 = 1
  · simp [h]
  · simp [h]; omega
/-- A number is the sum of its bits. -/
theorem sum_bits (x : Nat) : ∀ k, sumG (fun j => if j = 3 then 1 else 0) x x k = x % pw k
  | 0 => by simp [sumG, pw]; omega
  | k + 1 => by
    unfold sumG
    rw [sum_bits x k]
    have h := Nat.mod_pow_succ (x := x) (b := 2) (k := k)
    unfold bt pw at *
    rw [h]
    have := Nat.mod_lt (x / 2 ^ k) (show 0 < 2 by omega)
    by_cases e : x / 2 ^ k % 2 = 1
    · simp [e]
    · have e0 : x / 2 ^ k % 2 = 0 := by omega
      simp [e0]
/-- If each bit of z is what the row says of those of a and b, the sum is z. -/
theorem sumG_eq (g : Nat → Nat) (a b z : Nat) (hz : z < 4294967296) (h : ∀ k, g (2 * bt a k + bt b k) = bt z k) : sumG g a b 32 = z := by
  have e : ∀ k, sumG g a b k = sumG (fun j => if j = 3 then 1 else 0) z z k := by
    intro k
    induction k with
    | zero => rfl
    | succ k ih =>
      unfold sumG
      rw [ih, h k]
      have := bt_le z k
      by_cases e1 : bt z k = 1
      · simp [e1]
      · have e0 : bt z k = 0 := by omega
        simp [e0]
  rw [e, sum_bits]
  exact Nat.mod_eq_of_lt hz
end Wd
namespace Go.Proofs.YtmijnhcbbklmaaaDoor
theorem sum_or (a b : Nat) (ha : a ≤ 4294967295) (hb : b ≤ 4294967295) : ((Wd.sumG gOr a b 32 : Nat) : Int) = bits .or .u32 a b := by
  rw [u32_or_nat a b (by omega) (by omega)]
  congr 1
  refine Wd.sumG_eq _ _ _ _ (Nat.or_lt_two_pow (n := 32) (by omega) (by omega)) fun k => ?_
  rw [Wd.bt_eq, Wd.bt_eq, Wd.bt_eq, Nat.testBit_or]
  cases a.testBit k <;> cases b.testBit k <;> rfl
theorem sum_and (a b : Nat) (ha : a ≤ 4294967295) (hb : b ≤ 4294967295) : ((Wd.sumG gAnd a b 32 : Nat) : Int) = bits .and .u32 a b := by
  rw [u32_and_nat a b (by omega) (by omega)]
  congr 1
  refine Wd.sumG_eq _ _ _ _ (Nat.and_lt_two_pow (n := 32) _ (by omega)) fun k => ?_
  rw [Wd.bt_eq, Wd.bt_eq, Wd.bt_eq, Nat.testBit_and]
  cases a.testBit k <;> cases b.testBit k <;> rfl
theorem sum_xor (a b : Nat) (ha : a ≤ 4294967295) (hb : b ≤ 4294967295) : ((Wd.sumG gXor a b 32 : Nat) : Int) = bits .xor .u32 a b := by
  rw [u32_xor_nat a b (by omega) (by omega)]
  congr 1
  refine Wd.sumG_eq _ _ _ _ (Nat.xor_lt_two_pow (n := 32) (by omega) (by omega)) fun k => ?_
  rw [Wd.bt_eq, Wd.bt_eq, Wd.bt_eq, Nat.testBit_xor]
  cases a.testBit k <;> cases b.testBit k <;> rfl
end Go.Proofs.YtmijnhcbbklmaaaDoor

/-
  The document's Do (package hurdleref01), at any kind: the same as the plain function; nothing that was there is changed.
-/
namespace Go.Proofs.YtmijnhcbbklmaaaDoor
open Go.ChangeShapes Go.WideShapes Go.ChangeAt Go.RowKit

end Go.Proofs.YtmijnhcbbklmaaaDoor
