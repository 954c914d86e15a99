/-
  What word.Do and word.Neg answer, for any kind and any two numbers, in every world.
-/
import Derived.Test.YtjocdpochdfigaaDoorProg
import Derived.Test.YtjocdpochdfigaaDoorPlain
import Derived.WalkKit
import Derived.ProofKit
import Derived.Lib.Hide
namespace Go.Proofs.YtjocdpochdfigaaDoor
open Go.ChangeShapes Go.WideShapes Go.ChangeAt Go.RowKit

theorem neg_any (a : Int) (w : World) :
    Calls Tryd.prog 12 #[.int .u32 a] w fun e w' => e = .returned (.int .u32 ((-a) % 4294967296)) ∧ w = w' := by
  go_enter Tryd.func12, Tryd.ntmps12
  go_wp2
  go_ret
  exact ⟨rfl, rfl⟩

theorem divide_some (a b : Int) (w : World) (h0 : 0 ≤ a) (h1 : a ≤ 4294967295) (h2 : 1 ≤ b) (h3 : b ≤ 4294967295) :
    Calls Tryd.prog 19 #[.int .u32 a, .int .u32 b] w fun e w' => e = .returned (.tuple #[.int .u32 (a / b), .bool true]) ∧ w = w' := by
  have hb : (b == 0) = false := by simp; omega
  go_enter Tryd.func19, Tryd.ntmps19
  go_wp2
  go_ret2
  exact ⟨rfl, rfl⟩
theorem divide_zero (a : Int) (w : World) :
    Calls Tryd.prog 19 #[.int .u32 a, .int .u32 0] w fun e w' => e = .returned (.tuple #[.int .u32 0, .bool false]) ∧ w = w' := by
  go_enter Tryd.func19, Tryd.ntmps19
  go_wp2
  go_ret2
  exact ⟨rfl, rfl⟩

theorem ret2 {v v' : Int} {c c' : Bool} (h : v = v') (hc : c = c') : Ending.returned (.tuple #[.int .u32 v, .bool c]) = .returned (.tuple #[.int .u32 v', .bool c']) := by rw [h, hc]

set_option maxHeartbeats 1000000 in
/-- word.Do, at any kind. -/
theorem do_any (k a b : Int) (w : World) (h0 : 0 ≤ a) (h1 : a ≤ 4294967295) (h2 : 0 ≤ b) (h3 : b ≤ 4294967295) :
    Calls Tryd.prog 10 #[.int .i64 k, .int .u32 a, .int .u32 b] w fun e w' => e = .returned (.tuple #[.int .u32 (Wd.doV k a b), .bool (Wd.doB k b)]) ∧ w = w' := by
  by_cases c4 : k = 4
  · subst c4
    go_enter Tryd.func10, Tryd.ntmps10
    go_wp2
    go_ret2
    exact ⟨ret2 rfl rfl, rfl⟩
  by_cases c20 : k = 20
  · subst c20
    clear c4
    go_enter Tryd.func10, Tryd.ntmps10
    go_wp2
    go_ret2
    exact ⟨ret2 rfl rfl, rfl⟩
  by_cases c36 : k = 36
  · subst c36
    clear c4 c20
    go_enter Tryd.func10, Tryd.ntmps10
    go_wp2
    go_ret2
    exact ⟨ret2 rfl rfl, rfl⟩
  by_cases c52 : k = 52
  · subst c52
    clear c4 c20 c36
    by_cases hb : b = 0
    · subst hb
      go_enter Tryd.func10, Tryd.ntmps10
      go_wp2_with (go_at_call 19; refine (divide_zero _ _).mono ?_; rintro e w' ⟨rfl, rfl⟩)
      go_ret2
      exact ⟨ret2 rfl rfl, rfl⟩
    · have hb1 : 1 ≤ b := by omega
      have hbd : (decide (b = 0)) = false := by simpa using hb
      have HB := Lib.hid hbd
      have hv := Lib.hid (Wd.doV_div a b hb)
      clear hb hbd
      go_enter Tryd.func10, Tryd.ntmps10
      go_wp2_with (go_at_call 19; refine (divide_some _ _ _ h0 h1 hb1 h3).mono ?_; rintro e w' ⟨rfl, rfl⟩)
      go_ret2
      exact ⟨ret2 hv.out.symm (by unfold Wd.doB; rw [HB.out]; rfl), rfl⟩
  by_cases c68 : k = 68
  · subst c68
    clear c4 c20 c36 c52
    go_enter Tryd.func10, Tryd.ntmps10
    go_wp2
    go_ret2
    exact ⟨ret2 rfl rfl, rfl⟩
  by_cases c84 : k = 84
  · subst c84
    clear c4 c20 c36 c52 c68
    go_enter Tryd.func10, Tryd.ntmps10
    go_wp2
    go_ret2
    exact ⟨ret2 rfl rfl, rfl⟩
  by_cases c100 : k = 100
  · subst c100
    clear c4 c20 c36 c52 c68 c84
    have e31 := Wd.and31 b h2 h3
    have l0 : 0 ≤ bits .and .u32 b 31 := by omega
    have l1 : bits .and .u32 b 31 ≤ 32 := by omega
    have H := Lib.hid e31
    clear e31
    go_enter Tryd.func10, Tryd.ntmps10
    go_wp2
    go_ret2
    exact ⟨ret2 (by rw [Wd.doV_lsh, ← H.out]) rfl, rfl⟩
  by_cases c116 : k = 116
  · subst c116
    clear c4 c20 c36 c52 c68 c84 c100
    have e31 := Wd.and31 b h2 h3
    have l0 : 0 ≤ bits .and .u32 b 31 := by omega
    have l1 : bits .and .u32 b 31 ≤ 32 := by omega
    have H := Lib.hid e31
    clear e31
    go_enter Tryd.func10, Tryd.ntmps10
    go_wp2
    go_ret2
    exact ⟨ret2 (by rw [Wd.doV_rsh, ← H.out]) rfl, rfl⟩
  by_cases c164 : k = 164
  · subst c164
    clear c4 c20 c36 c52 c68 c84 c100 c116
    go_enter Tryd.func10, Tryd.ntmps10
    go_wp2
    go_ret2
    exact ⟨ret2 rfl rfl, rfl⟩
  · have hv : Wd.doV k a b = 0 := by unfold Wd.doV; simp only [if_neg c4, if_neg c20, if_neg c36, if_neg c52, if_neg c68, if_neg c84, if_neg c100, if_neg c116, if_neg c164]
    have hc : Wd.doB k b = false := by unfold Wd.doB; simp [c4, c20, c36, c52, c68, c84, c100, c116, c164]
    have Hv := Lib.hid hv
    have Hc := Lib.hid hc
    have b4 : (k == 4) = false := by simpa using c4
    have b20 : (k == 20) = false := by simpa using c20
    have b36 : (k == 36) = false := by simpa using c36
    have b52 : (k == 52) = false := by simpa using c52
    have b68 : (k == 68) = false := by simpa using c68
    have b84 : (k == 84) = false := by simpa using c84
    have b100 : (k == 100) = false := by simpa using c100
    have b116 : (k == 116) = false := by simpa using c116
    have b164 : (k == 164) = false := by simpa using c164
    clear hv hc c4 c20 c36 c52 c68 c84 c100 c116 c164
    go_enter Tryd.func10, Tryd.ntmps10
    go_wp2
    go_ret2
    exact ⟨ret2 Hv.out.symm Hc.out.symm, rfl⟩
end Go.Proofs.YtjocdpochdfigaaDoor
