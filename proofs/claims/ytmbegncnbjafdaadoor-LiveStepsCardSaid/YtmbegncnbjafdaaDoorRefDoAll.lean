/-
  What word.Do and word.Neg answer, for any kind and any two numbers, in every world.
-/
import Derived.Test.YtmbegncnbjafdaaDoorProg
import Derived.Test.YtmbegncnbjafdaaDoorTxt
import Derived.WalkKit
import Derived.ProofKit
import Derived.Lib.Hide
import Derived.Deep.QuietTactic
import Derived.BigQuiet
namespace Go.Proofs.YtmbegncnbjafdaaDoor
open Go.ChangeShapes Go.WideShapes Go.ChangeAt Go.RowKit

theorem neg_any (a : Int) (w : World) :
    Calls Tryd.prog 39 #[.int .u32 a] w fun e w' => e = .returned (.int .u32 ((-a) % 4294967296)) ∧ w = w' := by
  go_enter Tryd.func39, Tryd.ntmps39
  go_wp2
  go_ret
  exact ⟨rfl, rfl⟩

theorem divide_some (a b : Int) (w : World) (h0 : 0 ≤ a) (h1 : a ≤ 4294967295) (h2 : 1 ≤ b) (h3 : b ≤ 4294967295) :
    Calls Tryd.prog 73 #[.int .u32 a, .int .u32 b] w fun e w' => e = .returned (.tuple #[.int .u32 (a / b), .bool true]) ∧ w = w' := by
  have hb : (b == 0) = false := by simp; omega
  go_enter Tryd.func73, Tryd.ntmps73
  go_wp2
  go_ret2
  exact ⟨rfl, rfl⟩
theorem divide_zero (a : Int) (w : World) :
    Calls Tryd.prog 73 #[.int .u32 a, .int .u32 0] w fun e w' => e = .returned (.tuple #[.int .u32 0, .bool false]) ∧ w = w' := by
  go_enter Tryd.func73, Tryd.ntmps73
  go_wp2
  go_ret2
  exact ⟨rfl, rfl⟩

theorem ret2 {v v' : Int} {c c' : Bool} (h : v = v') (hc : c = c') : Ending.returned (.tuple #[.int .u32 v, .bool c]) = .returned (.tuple #[.int .u32 v', .bool c']) := by rw [h, hc]

set_option maxHeartbeats 1000000 in
/-- word.Do, at any kind. -/
theorem do_any (k a b : Int) (w : World) (h0 : 0 ≤ a) (h1 : a ≤ 4294967295) (h2 : 0 ≤ b) (h3 : b ≤ 4294967295) :
    Calls Tryd.prog 58 #[.int .i64 k, .int .u32 a, .int .u32 b] w fun e w' => e = .returned (.tuple #[.int .u32 (Wd.doV k a b), .bool (Wd.doB k b)]) ∧ w = w' := by
  by_cases c4 : k = 4
  · subst c4
    go_enter Tryd.func58, Tryd.ntmps58
    go_wp2
    go_ret2
    exact ⟨ret2 rfl rfl, rfl⟩
  by_cases c20 : k = 20
  · subst c20
    clear c4
    go_enter Tryd.func58, Tryd.ntmps58
    go_wp2
    go_ret2
    exact ⟨ret2 rfl rfl, rfl⟩
  by_cases c36 : k = 36
  · subst c36
    clear c4 c20
    go_enter Tryd.func58, Tryd.ntmps58
    go_wp2
    go_ret2
    exact ⟨ret2 rfl rfl, rfl⟩
  by_cases c52 : k = 52
  · subst c52
    clear c4 c20 c36
    by_cases hb : b = 0
    · subst hb
      go_enter Tryd.func58, Tryd.ntmps58
      go_wp2_with (go_at_call 73; refine (divide_zero _ _).mono ?_; rintro e w' ⟨rfl, rfl⟩)
      go_ret2
      exact ⟨ret2 rfl rfl, rfl⟩
    · have hb1 : 1 ≤ b := by omega
      have hbd : (decide (b = 0)) = false := by simpa using hb
      have HB := Lib.hid hbd
      have hv := Lib.hid (Wd.doV_div a b hb)
      clear hb hbd
      go_enter Tryd.func58, Tryd.ntmps58
      go_wp2_with (go_at_call 73; refine (divide_some _ _ _ h0 h1 hb1 h3).mono ?_; rintro e w' ⟨rfl, rfl⟩)
      go_ret2
      exact ⟨ret2 hv.out.symm (by unfold Wd.doB; rw [HB.out]; rfl), rfl⟩
  by_cases c68 : k = 68
  · subst c68
    clear c4 c20 c36 c52
    go_enter Tryd.func58, Tryd.ntmps58
    go_wp2
    go_ret2
    exact ⟨ret2 rfl rfl, rfl⟩
  by_cases c84 : k = 84
  · subst c84
    clear c4 c20 c36 c52 c68
    go_enter Tryd.func58, Tryd.ntmps58
    go_wp2
    go_ret2
    exact ⟨ret2 rfl rfl, rfl⟩
  by_cases c100 : k = 100
  · subst c100
    clear c4 c20 c36 c52 c68 c84
    have e31 := Wd.and31 b h2 h3
    have l0 : 0 ≤ bits .and .u32 b 31 := by omega
    have l1 : bits .and .u32 b 31 ≤ 32 := by omega
    have H := Lib.hid e31
    clear e31
    go_enter Tryd.func58, Tryd.ntmps58
    go_wp2
    go_ret2
    exact ⟨ret2 (by rw [Wd.doV_lsh, ← H.out]) rfl, rfl⟩
  by_cases c116 : k = 116
  · subst c116
    clear c4 c20 c36 c52 c68 c84 c100
    have e31 := Wd.and31 b h2 h3
    have l0 : 0 ≤ bits .and .u32 b 31 := by omega
    have l1 : bits .and .u32 b 31 ≤ 32 := by omega
    have H := Lib.hid e31
    clear e31
    go_enter Tryd.func58, Tryd.ntmps58
    go_wp2
    go_ret2
    exact ⟨ret2 (by rw [Wd.doV_rsh, ← H.out]) rfl, rfl⟩
  by_cases c164 : k = 164
  · subst c164
    clear c4 c20 c36 c52 c68 c84 c100 c116
    go_enter Tryd.func58, Tryd.ntmps58
    go_wp2
    go_ret2
    exact ⟨ret2 rfl rfl, rfl⟩
  · have hv : Wd.doV k a b = 0 := by unfold Wd.doV; simp only [if_neg c4, if_neg c20, if_neg c36, if_neg c52, if_neg c68, if_neg c84, if_neg c100, if_neg c116, if_neg c164]
    have hc : Wd.doB k b = false := by unfold Wd.doB; simp [c4, c20, c36, c52, c68, c84, c100, c116, c164]
    have Hv := Lib.hid hv
    have Hc := Lib.hid hc
    have b4 : (k == 4) = false := by simpa using c4
    have b20 : (k == 20) = false := by simpa using c20
    have b36 : (k == 36) = false := by simpa using c36
    have b52 : (k == 52) = false := by simpa using c52
    have b68 : (k == 68) = false := by simpa using c68
    have b84 : (k == 84) = false := by simpa using c84
    have b100 : (k == 100) = false := by simpa using c100
    have b116 : (k == 116) = false := by simpa using c116
    have b164 : (k == 164) = false := by simpa using c164
    clear hv hc c4 c20 c36 c52 c68 c84 c100 c116 c164
    go_enter Tryd.func58, Tryd.ntmps58
    go_wp2
    go_ret2
    exact ⟨ret2 Hv.out.symm Hc.out.symm, rfl⟩
end Go.Proofs.YtmbegncnbjafdaaDoor

/-
  The document's own answers for arithmetic (package hurdleref01): Do and Neg answer the same as the plain functions.
-/
namespace Wd
open Go
/-- A power of two. -/
def pw (k : Nat) : Nat := 2 ^ k
theorem pw_bd (k : Nat) (h : k < 32) : 1 ≤ pw k ∧ pw k ≤ 2147483648 := by
  have h1 : (2 : Nat) ^ k ≤ 2 ^ 31 := Nat.pow_le_pow_right (by omega) (by omega)
  have h2 : 0 < (2 : Nat) ^ k := Nat.pow_pos (by omega)
  unfold pw
  omega
theorem pw_succ (k : Nat) : pw (k + 1) = pw k * 2 := Nat.pow_succ ..
/-- Bit k of a number. -/
def bt (a k : Nat) : Nat := a / pw k % 2
theorem bt_le (a k : Nat) : bt a k ≤ 1 := by unfold bt; omega
/-- Of each of the first k bits of two numbers what a row of four says, as a number. -/
def sumG (g : Nat → Nat) (a b : Nat) : Nat → Nat
  | 0 => 0
  | k + 1 => sumG g a b k + g (2 * bt a k + bt b k) * pw k
theorem sumG_lt (g : Nat → Nat) (hg : ∀ j, j < 4 → g j ≤ 1) (a b : Nat) : ∀ k, sumG g a b k < pw k
  | 0 => by show 0 < 2 ^ 0; decide
  | k + 1 => by
    have ih := sumG_lt g hg a b k
    have ha := bt_le a k
    have hb := bt_le b k
    have h := hg (2 * bt a k + bt b k) (by omega)
    have hm : g (2 * bt a k + bt b k) * pw k ≤ 1 * pw k := Nat.mul_le_mul_right _ h
    rw [pw_succ]
    unfold sumG
    omega
end Wd
namespace Go.Proofs.YtmbegncnbjafdaaDoor
open Go.ChangeShapes Go.WideShapes Go.ChangeAt Go.RowKit

theorem refNeg_any (a : Int) (w : World) (h0 : 0 ≤ a) (h1 : a ≤ 4294967295) :
    Calls Tryd.prog 55 #[.int .u32 a] w fun e w' => e = .returned (.int .u32 ((-a) % 4294967296)) ∧ w = w' := by
  have he : (4294967296 - a) % 4294967296 = (-a) % 4294967296 := by omega
  go_enter Tryd.func55, Tryd.ntmps55
  go_wp2
  go_ret
  exact ⟨rfl, rfl⟩

theorem power_any (n : Nat) (hn : n ≤ 4294967295) (w : World) :
    Calls Tryd.prog 69 #[.int .u32 n] w fun e w' => e = .returned (.int .u64 (Wd.pw (n % 32))) ∧ w = w' := by
  go_enter Tryd.func69, Tryd.ntmps69
  go_wp2
  go_loop [3, 4] (fun p i => ∃ k : Nat, k ≤ n % 32 ∧ i = .int .u32 k ∧ p = .int .u64 (Wd.pw k)) (fun _ i => 32 - (intOf i).toNat)
  case atStart => exact ⟨0, by omega, rfl, rfl⟩
  case round =>
    obtain ⟨k, hk, rfl, rfl⟩ := hrel
    have hp := Wd.pw_bd k (by omega)
    by_cases hlt : k < n % 32
    · have hs := Lib.hid (Wd.pw_succ k)
      go_wp2
      go_round
      case rel => exact ⟨k + 1, by omega, by go_num, by rw [hs.out]; go_num⟩
      case measure => simp [intOf]; omega
    · have hk2 : k = n % 32 := by omega
      have H := Lib.hid hk2
      clear hk2
      go_wp2
      go_ret
      exact ⟨by rw [← H.out]; rfl, rfl⟩

theorem bit_any (a k : Nat) (ha : a ≤ 4294967295) (hk : k < 32) (w : World) :
    Calls Tryd.prog 87 #[.int .u32 a, .int .u32 k] w fun e w' => e = .returned (.int .u32 (Wd.bt a k)) ∧ w = w' := by
  have hp := Wd.pw_bd k hk
  have hr : k % 32 = k := Nat.mod_eq_of_lt hk
  have hc := power_any k (by omega)
  rw [hr] at hc
  have HC := Lib.hid hc
  clear hc hr
  have hb : (a : Int) / (Wd.pw k : Int) % 2 = (Wd.bt a k : Int) := by unfold Wd.bt; simp
  have hble := Wd.bt_le a k
  have hq0 : 0 ≤ (a : Int) / (Wd.pw k : Int) := Int.ediv_nonneg (by omega) (by omega)
  have hq1 : (a : Int) / (Wd.pw k : Int) ≤ 4294967295 := Int.le_trans (Int.ediv_le_self _ (by omega)) (by omega)
  have h1 : (1 : Int) ≤ (Wd.pw k : Int) := by omega
  have h0 : ((Wd.pw k : Int) == 0) = false := by simp; omega
  go_enter Tryd.func87, Tryd.ntmps87
  go_wp2_with fail
  refine (HC.out _).mono ?_
  rintro e w' ⟨rfl, rfl⟩
  go_wp2_with fail
  go_ret
  exact ⟨rfl, rfl⟩

theorem bitq (a k : Nat) (ha : a ≤ 4294967295) (hk : k < 32) (w : World) :
    Calls Tryd.prog 87 #[.int .u32 a, .int .u32 k] w fun e w' => e = .returned (.int .u32 (Wd.bt a k)) ∧ w' = w :=
  (bit_any a k ha hk w).mono fun _ _ h => ⟨h.1, h.2.symm⟩

set_option maxHeartbeats 1000000 in
theorem bits_any (g : Nat → Nat) (hg : ∀ j, j < 4 → g j ≤ 1) (a b : Nat) (ha : a ≤ 4294967295) (hb : b ≤ 4294967295) (q : Nat) (w : World)
    (hc : ∀ j, j < 4 → w.cell? ⟨q, j, none⟩ = some (.int .u32 (g j))) :
    Calls Tryd.prog 68 #[.int .u32 a, .int .u32 b, .slice (some ⟨q, 0, none⟩) 4 4] w fun e w' => e = .returned (.int .u32 (Wd.sumG g a b 32)) ∧ ∃ n, w' = w.drewN n := by
  have HC := Lib.hid hc
  have HG := Lib.hid hg
  clear hc hg
  go_enter Tryd.func68, Tryd.ntmps68
  go_wp2
  go_loopw [7, 8] (fun o i w' => ∃ k n : Nat, k ≤ 32 ∧ i = .int .u32 k ∧ o = .int .u32 (Wd.sumG g a b k) ∧ w' = w.drewN n) (fun _ i _ => 32 - (intOf i).toNat)
  case atStart => exact ⟨0, 0, by omega, rfl, rfl, rfl⟩
  case round =>
    obtain ⟨k, n, hk, rfl, rfl, rfl⟩ := hrel
    by_cases hlt : k < 32
    · have hp := Wd.pw_bd k hlt
      have hxa := Wd.bt_le a k
      have hxb := Wd.bt_le b k
      have hs := Wd.sumG_lt g HG.out a b k
      have hgj := HG.out (2 * Wd.bt a k + Wd.bt b k) (by omega)
      have hcell := HC.out (2 * Wd.bt a k + Wd.bt b k) (by omega)
      have hgp : g (2 * Wd.bt a k + Wd.bt b k) * Wd.pw k ≤ 1 * Wd.pw k := Nat.mul_le_mul_right _ hgj
      have hsum : Wd.sumG g a b (k + 1) = Wd.sumG g a b k + g (2 * Wd.bt a k + Wd.bt b k) * Wd.pw k := rfl
      have hcw : (w.drewN n).cell? ⟨q, 2 * Wd.bt a k + Wd.bt b k, none⟩ = some (.int .u32 (g (2 * Wd.bt a k + Wd.bt b k))) := by rw [World.cell?_drewN]; exact hcell
      have HS := Lib.hid hsum
      clear hcell hsum
      generalize hW : w.drewN n = W at *
      have HW := Lib.hid hW
      clear hW
      generalize hz : g (2 * Wd.bt a k + Wd.bt b k) = z at *
      generalize ho : Wd.sumG g a b k = o at *
      generalize hP : Wd.pw k = P at *
      have hzP : ((z * P : Nat) : Int) = (z : Int) * (P : Int) := by simp
      have i1 : (z : Int) * (P : Int) ≤ 2147483648 := by omega
      have i0 : 0 ≤ (z : Int) * (P : Int) := by omega
      have i2 : (o : Int) < P := by omega
      have cp : ∀ W, Calls Tryd.prog 69 #[.int .u32 k] W fun e w' => e = .returned (.int .u64 P) ∧ w' = W := fun W => (power_any k (by omega) W).mono fun _ _ h => ⟨by rw [h.1, Nat.mod_eq_of_lt hlt, hP], h.2.symm⟩
      have CP := Lib.hid cp
      have HZ := Lib.hid hzP
      clear cp hz ho hP hzP hgj hgp hs
      go_wp2
      have w1 : IntKind.u32.wrap (2 * (Wd.bt a k : Int)) = 2 * (Wd.bt a k : Int) := IntWalk.u32_in _ (by omega)
      have w2 : IntKind.u32.wrap (2 * (Wd.bt a k : Int) + (Wd.bt b k : Int)) = 2 * (Wd.bt a k : Int) + (Wd.bt b k : Int) := IntWalk.u32_in _ (by omega)
      have w3 : IntKind.i64.wrap (2 * (Wd.bt a k : Int) + (Wd.bt b k : Int)) = 2 * (Wd.bt a k : Int) + (Wd.bt b k : Int) := IntWalk.i64_in _ (by omega)
      have w4 : IntKind.u32.wrap (P : Int) = (P : Int) := IntWalk.u32_in _ (by omega)
      have w5 : IntKind.u32.wrap ((z : Int) * (P : Int)) = (z : Int) * (P : Int) := IntWalk.u32_in _ (by omega)
      have w6 : IntKind.u32.wrap ((o : Int) + (z : Int) * (P : Int)) = (o : Int) + (z : Int) * (P : Int) := IntWalk.u32_in _ (by omega)
      have w7 : (2 * (Wd.bt a k : Int) + (Wd.bt b k : Int)).toNat = 2 * Wd.bt a k + Wd.bt b k := by omega
      have w8 : 0 ≤ 2 * (Wd.bt a k : Int) + (Wd.bt b k : Int) := by omega
      have w9 : 2 * (Wd.bt a k : Int) + (Wd.bt b k : Int) < 4 := by omega
      go_quiet ((first
        | (go_at_call 87; exact Calls.quiet_of_same (bitq _ _ (by omega) (by omega) _))
        | (go_at_call 69; exact Calls.quiet_of_same (CP.out _))))
      clear w1 w2 w3 w4 w5 w6 w7 w8 w9
      go_wp2
      refine ⟨⟨k + 1, n + nq, by omega, by go_num, ?_, ?_⟩, by simp [intOf]; omega⟩
      · rw [HS.out, ← HZ.out]; go_num
      · rw [← HW.out, World.drewN_drewN]
    · obtain rfl : k = 32 := by omega
      go_wp2
      go_ret
      exact ⟨rfl, n, rfl⟩

theorem retT {v v' : Int} {c c' : Bool} (h : v = v') (hc : c = c') : Ending.returned (.tuple #[.int .u32 v, .bool c]) = .returned (.tuple #[.int .u32 v', .bool c']) := by rw [h, hc]

/-- What the three rows of four say. -/
def gOr (j : Nat) : Nat := if j = 0 then 0 else 1
def gAnd (j : Nat) : Nat := if j = 3 then 1 else 0
def gXor (j : Nat) : Nat := if j = 1 ∨ j = 2 then 1 else 0
end Go.Proofs.YtmbegncnbjafdaaDoor
namespace Wd
open Go
theorem bt_eq (x k : Nat) : bt x k = (x.testBit k).toNat := by
  unfold bt pw
  rw [Nat.testBit_eq_decide_div_mod_eq]
  have := Nat.mod_lt (x / 2 ^ k) (show 0 < 2 by omega)
  by_cases h : x / 2 ^ k % 2 = 1
  · simp [h]
  · simp [h]; omega
/-- A number is the sum of its bits. -/
theorem sum_bits (x : Nat) : ∀ k, sumG (fun j => if j = 3 then 1 else 0) x x k = x % pw k
  | 0 => by simp [sumG, pw]; omega
  | k + 1 => by
    unfold sumG
    rw [sum_bits x k]
    have h := Nat.mod_pow_succ (x := x) (b := 2) (k := k)
    unfold bt pw at *
    rw [h]
    have := Nat.mod_lt (x / 2 ^ k) (show 0 < 2 by omega)
    by_cases e : x / 2 ^ k % 2 = 1
    · simp [e]
    · have e0 : x / 2 ^ k % 2 = 0 := by omega
      simp [e0]
/-- If each bit of z is what the row says of those of a and b, the sum is z. -/
theorem sumG_eq (g : Nat → Nat) (a b z : Nat) (hz : z < 4294967296) (h : ∀ k, g (2 * bt a k + bt b k) = bt z k) : sumG g a b 32 = z := by
  have e : ∀ k, sumG g a b k = sumG (fun j => if j = 3 then 1 else 0) z z k := by
    intro k
    induction k with
    | zero => rfl
    | succ k ih =>
      unfold sumG
      rw [ih, h k]
      have := bt_le z k
      by_cases e1 : bt z k = 1
      · simp [e1]
      · have e0 : bt z k = 0 := by omega
        simp [e0]
  rw [e, sum_bits]
  exact Nat.mod_eq_of_lt hz
end Wd
namespace Go.Proofs.YtmbegncnbjafdaaDoor
theorem sum_or (a b : Nat) (ha : a ≤ 4294967295) (hb : b ≤ 4294967295) : ((Wd.sumG gOr a b 32 : Nat) : Int) = bits .or .u32 a b := by
  rw [u32_or_nat a b (by omega) (by omega)]
  congr 1
  refine Wd.sumG_eq _ _ _ _ (Nat.or_lt_two_pow (n := 32) (by omega) (by omega)) fun k => ?_
  rw [Wd.bt_eq, Wd.bt_eq, Wd.bt_eq, Nat.testBit_or]
  cases a.testBit k <;> cases b.testBit k <;> rfl
theorem sum_and (a b : Nat) (ha : a ≤ 4294967295) (hb : b ≤ 4294967295) : ((Wd.sumG gAnd a b 32 : Nat) : Int) = bits .and .u32 a b := by
  rw [u32_and_nat a b (by omega) (by omega)]
  congr 1
  refine Wd.sumG_eq _ _ _ _ (Nat.and_lt_two_pow (n := 32) _ (by omega)) fun k => ?_
  rw [Wd.bt_eq, Wd.bt_eq, Wd.bt_eq, Nat.testBit_and]
  cases a.testBit k <;> cases b.testBit k <;> rfl
theorem sum_xor (a b : Nat) (ha : a ≤ 4294967295) (hb : b ≤ 4294967295) : ((Wd.sumG gXor a b 32 : Nat) : Int) = bits .xor .u32 a b := by
  rw [u32_xor_nat a b (by omega) (by omega)]
  congr 1
  refine Wd.sumG_eq _ _ _ _ (Nat.xor_lt_two_pow (n := 32) (by omega) (by omega)) fun k => ?_
  rw [Wd.bt_eq, Wd.bt_eq, Wd.bt_eq, Nat.testBit_xor]
  cases a.testBit k <;> cases b.testBit k <;> rfl
end Go.Proofs.YtmbegncnbjafdaaDoor

/-
  The document's Do (package hurdleref01), at any kind: the same as the plain function; nothing that was there is changed.
-/
namespace Go.Proofs.YtmbegncnbjafdaaDoor
open Go.ChangeShapes Go.WideShapes Go.ChangeAt Go.RowKit

set_option maxHeartbeats 2000000 in
theorem refDo_nat (k : Int) (a b : Nat) (w : World) (h1 : a ≤ 4294967295) (h3 : b ≤ 4294967295) :
    Calls Tryd.prog 53 #[.int .i64 k, .int .u32 a, .int .u32 b] w fun e w' => e = .returned (.tuple #[.int .u32 (Wd.doV k a b), .bool (Wd.doB k b)]) ∧ Below w.heap.size w w' := by
  by_cases c4 : k = 4
  · subst c4
    go_enter Tryd.func53, Tryd.ntmps53
    go_wp2
    go_ret2
    exact ⟨retT rfl rfl, (Below.refl _ _)⟩
  by_cases c20 : k = 20
  · subst c20
    clear c4
    go_enter Tryd.func53, Tryd.ntmps53
    go_wp2
    go_ret2
    exact ⟨retT (by rw [Wd.doV_sub]; omega) rfl, (Below.refl _ _)⟩
  by_cases c36 : k = 36
  · subst c36
    clear c4 c20
    have hm : (((a * b : Nat)) : Int) = (a : Int) * (b : Int) := by simp
    have hm2 : a * b ≤ 4294967295 * 4294967295 := Nat.mul_le_mul h1 h3
    have q0 : 0 ≤ (a : Int) * (b : Int) := by omega
    have q1 : (a : Int) * (b : Int) ≤ 18446744065119617025 := by omega
    clear hm hm2
    go_enter Tryd.func53, Tryd.ntmps53
    go_wp2
    go_ret2
    exact ⟨retT rfl rfl, (Below.refl _ _)⟩
  by_cases c52 : k = 52
  · subst c52
    clear c4 c20 c36
    by_cases hb : b = 0
    · subst hb
      go_enter Tryd.func53, Tryd.ntmps53
      go_wp2
      go_ret2
      exact ⟨retT rfl rfl, (Below.refl _ _)⟩
    · have hb1 : (1 : Int) ≤ (b : Int) := by omega
      have hbz : ((b : Int) == 0) = false := by simp; omega
      have hbd : (decide ((b : Int) = 0)) = false := by simp; omega
      have HB := Lib.hid hbd
      have hv := Lib.hid (Wd.doV_div a b (by omega))
      have q0 : 0 ≤ (a : Int) / (b : Int) := Int.ediv_nonneg (by omega) (by omega)
      have q1 : (a : Int) / (b : Int) ≤ 4294967295 := Int.le_trans (Int.ediv_le_self _ (by omega)) (by omega)
      clear hb hbd
      go_enter Tryd.func53, Tryd.ntmps53
      go_wp2
      go_ret2
      exact ⟨retT hv.out.symm (by unfold Wd.doB; rw [HB.out]; rfl), (Below.refl _ _)⟩
  by_cases c68 : k = 68
  · subst c68
    clear c4 c20 c36 c52
    have hs := sum_or a b h1 h3
    have HS := Lib.hid hs
    clear hs
    go_enter Tryd.func53, Tryd.ntmps53
    go_wp2_with fail
    refine (bits_any gOr (fun j hj => by unfold gOr; split <;> omega) a b h1 h3 _ _ ?_).mono ?_
    · intro j hj
      rcases j with _ | _ | _ | _ | j
      · simp [gOr]
      · simp [gOr]
      · simp [gOr]
      · simp [gOr]
      · omega
    rintro e w' ⟨rfl, nq, rfl⟩
    go_wp2_with fail
    go_ret2
    exact ⟨retT HS.out rfl, ((Below.refl _ _).alloc (Nat.le_refl _) _).trans ⟨rfl, rfl, rfl, Nat.le_refl _, fun _ _ => rfl⟩⟩
  by_cases c84 : k = 84
  · subst c84
    clear c4 c20 c36 c52 c68
    have hs := sum_and a b h1 h3
    have HS := Lib.hid hs
    clear hs
    go_enter Tryd.func53, Tryd.ntmps53
    go_wp2_with fail
    refine (bits_any gAnd (fun j hj => by unfold gAnd; split <;> omega) a b h1 h3 _ _ ?_).mono ?_
    · intro j hj
      rcases j with _ | _ | _ | _ | j
      · simp [gAnd]
      · simp [gAnd]
      · simp [gAnd]
      · simp [gAnd]
      · omega
    rintro e w' ⟨rfl, nq, rfl⟩
    go_wp2_with fail
    go_ret2
    exact ⟨retT HS.out rfl, ((Below.refl _ _).alloc (Nat.le_refl _) _).trans ⟨rfl, rfl, rfl, Nat.le_refl _, fun _ _ => rfl⟩⟩
  by_cases c100 : k = 100
  · subst c100
    clear c4 c20 c36 c52 c68 c84
    have hp := Wd.pw_bd (b % 32) (by omega)
    have he : Wd.doV 100 a b = (a : Int) * (Wd.pw (b % 32) : Int) % 4294967296 := by
      rw [Wd.doV_lsh]
      have e1 : ((b : Int) % 32).toNat = b % 32 := by omega
      rw [e1]
      unfold Wd.pw
      simp
    have HE := Lib.hid he
    clear he
    have h1p : (1 : Int) ≤ (Wd.pw (b % 32) : Int) := by omega
    have hz : ((Wd.pw (b % 32) : Int) == 0) = false := by simp; omega
    have hm : (((a * Wd.pw (b % 32) : Nat)) : Int) = (a : Int) * (Wd.pw (b % 32) : Int) := by simp
    have hm2 : a * Wd.pw (b % 32) ≤ 4294967295 * 2147483648 := Nat.mul_le_mul h1 hp.2
    have q0 : 0 ≤ (a : Int) * (Wd.pw (b % 32) : Int) := by omega
    have q1 : (a : Int) * (Wd.pw (b % 32) : Int) ≤ 9223372034707292160 := by omega
    clear hm hm2
    go_enter Tryd.func53, Tryd.ntmps53
    go_wp2_with fail
    refine (power_any b h3 _).mono ?_
    rintro e w' ⟨rfl, rfl⟩
    go_wp2_with fail
    go_ret2
    exact ⟨retT HE.out.symm rfl, (Below.refl _ _)⟩
  by_cases c116 : k = 116
  · subst c116
    clear c4 c20 c36 c52 c68 c84 c100
    have hp := Wd.pw_bd (b % 32) (by omega)
    have he : Wd.doV 116 a b = (a : Int) / (Wd.pw (b % 32) : Int) := by
      rw [Wd.doV_rsh]
      have e1 : ((b : Int) % 32).toNat = b % 32 := by omega
      rw [e1]
      unfold Wd.pw
      simp
    have HE := Lib.hid he
    clear he
    have h1p : (1 : Int) ≤ (Wd.pw (b % 32) : Int) := by omega
    have hz : ((Wd.pw (b % 32) : Int) == 0) = false := by simp; omega
    have q0 : 0 ≤ (a : Int) / (Wd.pw (b % 32) : Int) := Int.ediv_nonneg (by omega) (by omega)
    have q1 : (a : Int) / (Wd.pw (b % 32) : Int) ≤ 4294967295 := Int.le_trans (Int.ediv_le_self _ (by omega)) (by omega)
    go_enter Tryd.func53, Tryd.ntmps53
    go_wp2_with fail
    refine (power_any b h3 _).mono ?_
    rintro e w' ⟨rfl, rfl⟩
    go_wp2_with fail
    go_ret2
    exact ⟨retT HE.out.symm rfl, (Below.refl _ _)⟩
  by_cases c164 : k = 164
  · subst c164
    clear c4 c20 c36 c52 c68 c84 c100 c116
    have hs := sum_xor a b h1 h3
    have HS := Lib.hid hs
    clear hs
    go_enter Tryd.func53, Tryd.ntmps53
    go_wp2_with fail
    refine (bits_any gXor (fun j hj => by unfold gXor; split <;> omega) a b h1 h3 _ _ ?_).mono ?_
    · intro j hj
      rcases j with _ | _ | _ | _ | j
      · simp [gXor]
      · simp [gXor]
      · simp [gXor]
      · simp [gXor]
      · omega
    rintro e w' ⟨rfl, nq, rfl⟩
    go_wp2_with fail
    go_ret2
    exact ⟨retT HS.out rfl, ((Below.refl _ _).alloc (Nat.le_refl _) _).trans ⟨rfl, rfl, rfl, Nat.le_refl _, fun _ _ => rfl⟩⟩
  have hv : Wd.doV k a b = 0 := by unfold Wd.doV; simp only [if_neg c4, if_neg c20, if_neg c36, if_neg c52, if_neg c68, if_neg c84, if_neg c100, if_neg c116, if_neg c164]
  have hc : Wd.doB k b = false := by unfold Wd.doB; simp [c4, c20, c36, c52, c68, c84, c100, c116, c164]
  have Hv := Lib.hid hv
  have Hc := Lib.hid hc
  have b4 : (k == 4) = false := by simpa using c4
  have b20 : (k == 20) = false := by simpa using c20
  have b36 : (k == 36) = false := by simpa using c36
  have b52 : (k == 52) = false := by simpa using c52
  have b68 : (k == 68) = false := by simpa using c68
  have b84 : (k == 84) = false := by simpa using c84
  have b100 : (k == 100) = false := by simpa using c100
  have b116 : (k == 116) = false := by simpa using c116
  have b164 : (k == 164) = false := by simpa using c164
  clear hv hc c4 c20 c36 c52 c68 c84 c100 c116 c164
  go_enter Tryd.func53, Tryd.ntmps53
  go_wp2
  go_ret2
  exact ⟨retT Hv.out.symm Hc.out.symm, (Below.refl _ _)⟩
theorem refDo_any (k a b : Int) (w : World) (h0 : 0 ≤ a) (h1 : a ≤ 4294967295) (h2 : 0 ≤ b) (h3 : b ≤ 4294967295) :
    Calls Tryd.prog 53 #[.int .i64 k, .int .u32 a, .int .u32 b] w fun e w' => e = .returned (.tuple #[.int .u32 (Wd.doV k a b), .bool (Wd.doB k b)]) ∧ Below w.heap.size w w' := by
  obtain ⟨m, rfl⟩ := Int.eq_ofNat_of_zero_le h0
  obtain ⟨n, rfl⟩ := Int.eq_ofNat_of_zero_le h2
  exact refDo_nat k m n w (by omega) (by omega)
end Go.Proofs.YtmbegncnbjafdaaDoor
