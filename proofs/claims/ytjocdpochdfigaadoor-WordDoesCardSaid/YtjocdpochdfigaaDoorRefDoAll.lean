/-
  The document's Do (package hurdleref01), at any kind: the same as the plain function; nothing that was there is changed.
-/
import Derived.Test.YtjocdpochdfigaaDoorRefDo
namespace Go.Proofs.YtjocdpochdfigaaDoor
open Go.ChangeShapes Go.WideShapes Go.ChangeAt Go.RowKit

set_option maxHeartbeats 2000000 in
theorem refDo_nat (k : Int) (a b : Nat) (w : World) (h1 : a ≤ 4294967295) (h3 : b ≤ 4294967295) :
    Calls Tryd.prog 11 #[.int .i64 k, .int .u32 a, .int .u32 b] w fun e w' => e = .returned (.tuple #[.int .u32 (Wd.doV k a b), .bool (Wd.doB k b)]) ∧ Below w.heap.size w w' := by
  by_cases c4 : k = 4
  · subst c4
    go_enter Tryd.func11, Tryd.ntmps11
    go_wp2
    go_ret2
    exact ⟨retT rfl rfl, (Below.refl _ _)⟩
  by_cases c20 : k = 20
  · subst c20
    clear c4
    go_enter Tryd.func11, Tryd.ntmps11
    go_wp2
    go_ret2
    exact ⟨retT (by rw [Wd.doV_sub]; omega) rfl, (Below.refl _ _)⟩
  by_cases c36 : k = 36
  · subst c36
    clear c4 c20
    have hm : (((a * b : Nat)) : Int) = (a : Int) * (b : Int) := by simp
    have hm2 : a * b ≤ 4294967295 * 4294967295 := Nat.mul_le_mul h1 h3
    have q0 : 0 ≤ (a : Int) * (b : Int) := by omega
    have q1 : (a : Int) * (b : Int) ≤ 18446744065119617025 := by omega
    clear hm hm2
    go_enter Tryd.func11, Tryd.ntmps11
    go_wp2
    go_ret2
    exact ⟨retT rfl rfl, (Below.refl _ _)⟩
  by_cases c52 : k = 52
  · subst c52
    clear c4 c20 c36
    by_cases hb : b = 0
    · subst hb
      go_enter Tryd.func11, Tryd.ntmps11
      go_wp2
      go_ret2
      exact ⟨retT rfl rfl, (Below.refl _ _)⟩
    · have hb1 : (1 : Int) ≤ (b : Int) := by omega
      have hbz : ((b : Int) == 0) = false := by simp; omega
      have hbd : (decide ((b : Int) = 0)) = false := by simp; omega
      have HB := Lib.hid hbd
      have hv := Lib.hid (Wd.doV_div a b (by omega))
      have q0 : 0 ≤ (a : Int) / (b : Int) := Int.ediv_nonneg (by omega) (by omega)
      have q1 : (a : Int) / (b : Int) ≤ 4294967295 := Int.le_trans (Int.ediv_le_self _ (by omega)) (by omega)
      clear hb hbd
      go_enter Tryd.func11, Tryd.ntmps11
      go_wp2
      go_ret2
      exact ⟨retT hv.out.symm (by unfold Wd.doB; rw [HB.out]; rfl), (Below.refl _ _)⟩
  by_cases c68 : k = 68
  · subst c68
    clear c4 c20 c36 c52
    have hs := sum_or a b h1 h3
    have HS := Lib.hid hs
    clear hs
    go_enter Tryd.func11, Tryd.ntmps11
    go_wp2_with fail
    refine (bits_any gOr (fun j hj => by unfold gOr; split <;> omega) a b h1 h3 _ _ ?_).mono ?_
    · intro j hj
      rcases j with _ | _ | _ | _ | j
      · simp [gOr]
      · simp [gOr]
      · simp [gOr]
      · simp [gOr]
      · omega
    rintro e w' ⟨rfl, nq, rfl⟩
    go_wp2_with fail
    go_ret2
    exact ⟨retT HS.out rfl, ((Below.refl _ _).alloc (Nat.le_refl _) _).trans ⟨rfl, rfl, rfl, Nat.le_refl _, fun _ _ => rfl⟩⟩
  by_cases c84 : k = 84
  · subst c84
    clear c4 c20 c36 c52 c68
    have hs := sum_and a b h1 h3
    have HS := Lib.hid hs
    clear hs
    go_enter Tryd.func11, Tryd.ntmps11
    go_wp2_with fail
    refine (bits_any gAnd (fun j hj => by unfold gAnd; split <;> omega) a b h1 h3 _ _ ?_).mono ?_
    · intro j hj
      rcases j with _ | _ | _ | _ | j
      · simp [gAnd]
      · simp [gAnd]
      · simp [gAnd]
      · simp [gAnd]
      · omega
    rintro e w' ⟨rfl, nq, rfl⟩
    go_wp2_with fail
    go_ret2
    exact ⟨retT HS.out rfl, ((Below.refl _ _).alloc (Nat.le_refl _) _).trans ⟨rfl, rfl, rfl, Nat.le_refl _, fun _ _ => rfl⟩⟩
  by_cases c100 : k = 100
  · subst c100
    clear c4 c20 c36 c52 c68 c84
    have hp := Wd.pw_bd (b % 32) (by omega)
    have he : Wd.doV 100 a b = (a : Int) * (Wd.pw (b % 32) : Int) % 4294967296 := by
      rw [Wd.doV_lsh]
      have e1 : ((b : Int) % 32).toNat = b % 32 := by omega
      rw [e1]
      unfold Wd.pw
      simp
    have HE := Lib.hid he
    clear he
    have h1p : (1 : Int) ≤ (Wd.pw (b % 32) : Int) := by omega
    have hz : ((Wd.pw (b % 32) : Int) == 0) = false := by simp; omega
    have hm : (((a * Wd.pw (b % 32) : Nat)) : Int) = (a : Int) * (Wd.pw (b % 32) : Int) := by simp
    have hm2 : a * Wd.pw (b % 32) ≤ 4294967295 * 2147483648 := Nat.mul_le_mul h1 hp.2
    have q0 : 0 ≤ (a : Int) * (Wd.pw (b % 32) : Int) := by omega
    have q1 : (a : Int) * (Wd.pw (b % 32) : Int) ≤ 9223372034707292160 := by omega
    clear hm hm2
    go_enter Tryd.func11, Tryd.ntmps11
    go_wp2_with fail
    refine (power_any b h3 _).mono ?_
    rintro e w' ⟨rfl, rfl⟩
    go_wp2_with fail
    go_ret2
    exact ⟨retT HE.out.symm rfl, (Below.refl _ _)⟩
  by_cases c116 : k = 116
  · subst c116
    clear c4 c20 c36 c52 c68 c84 c100
    have hp := Wd.pw_bd (b % 32) (by omega)
    have he : Wd.doV 116 a b = (a : Int) / (Wd.pw (b % 32) : Int) := by
      rw [Wd.doV_rsh]
      have e1 : ((b : Int) % 32).toNat = b % 32 := by omega
      rw [e1]
      unfold Wd.pw
      simp
    have HE := Lib.hid he
    clear he
    have h1p : (1 : Int) ≤ (Wd.pw (b % 32) : Int) := by omega
    have hz : ((Wd.pw (b % 32) : Int) == 0) = false := by simp; omega
    have q0 : 0 ≤ (a : Int) / (Wd.pw (b % 32) : Int) := Int.ediv_nonneg (by omega) (by omega)
    have q1 : (a : Int) / (Wd.pw (b % 32) : Int) ≤ 4294967295 := Int.le_trans (Int.ediv_le_self _ (by omega)) (by omega)
    go_enter Tryd.func11, Tryd.ntmps11
    go_wp2_with fail
    refine (power_any b h3 _).mono ?_
    rintro e w' ⟨rfl, rfl⟩
    go_wp2_with fail
    go_ret2
    exact ⟨retT HE.out.symm rfl, (Below.refl _ _)⟩
  by_cases c164 : k = 164
  · subst c164
    clear c4 c20 c36 c52 c68 c84 c100 c116
    have hs := sum_xor a b h1 h3
    have HS := Lib.hid hs
    clear hs
    go_enter Tryd.func11, Tryd.ntmps11
    go_wp2_with fail
    refine (bits_any gXor (fun j hj => by unfold gXor; split <;> omega) a b h1 h3 _ _ ?_).mono ?_
    · intro j hj
      rcases j with _ | _ | _ | _ | j
      · simp [gXor]
      · simp [gXor]
      · simp [gXor]
      · simp [gXor]
      · omega
    rintro e w' ⟨rfl, nq, rfl⟩
    go_wp2_with fail
    go_ret2
    exact ⟨retT HS.out rfl, ((Below.refl _ _).alloc (Nat.le_refl _) _).trans ⟨rfl, rfl, rfl, Nat.le_refl _, fun _ _ => rfl⟩⟩
  have hv : Wd.doV k a b = 0 := by unfold Wd.doV; simp only [if_neg c4, if_neg c20, if_neg c36, if_neg c52, if_neg c68, if_neg c84, if_neg c100, if_neg c116, if_neg c164]
  have hc : Wd.doB k b = false := by unfold Wd.doB; simp [c4, c20, c36, c52, c68, c84, c100, c116, c164]
  have Hv := Lib.hid hv
  have Hc := Lib.hid hc
  have b4 : (k == 4) = false := by simpa using c4
  have b20 : (k == 20) = false := by simpa using c20
  have b36 : (k == 36) = false := by simpa using c36
  have b52 : (k == 52) = false := by simpa using c52
  have b68 : (k == 68) = false := by simpa using c68
  have b84 : (k == 84) = false := by simpa using c84
  have b100 : (k == 100) = false := by simpa using c100
  have b116 : (k == 116) = false := by simpa using c116
  have b164 : (k == 164) = false := by simpa using c164
  clear hv hc c4 c20 c36 c52 c68 c84 c100 c116 c164
  go_enter Tryd.func11, Tryd.ntmps11
  go_wp2
  go_ret2
  exact ⟨retT Hv.out.symm Hc.out.symm, (Below.refl _ _)⟩
theorem refDo_any (k a b : Int) (w : World) (h0 : 0 ≤ a) (h1 : a ≤ 4294967295) (h2 : 0 ≤ b) (h3 : b ≤ 4294967295) :
    Calls Tryd.prog 11 #[.int .i64 k, .int .u32 a, .int .u32 b] w fun e w' => e = .returned (.tuple #[.int .u32 (Wd.doV k a b), .bool (Wd.doB k b)]) ∧ Below w.heap.size w w' := by
  obtain ⟨m, rfl⟩ := Int.eq_ofNat_of_zero_le h0
  obtain ⟨n, rfl⟩ := Int.eq_ofNat_of_zero_le h2
  exact refDo_nat k m n w (by omega) (by omega)
end Go.Proofs.YtjocdpochdfigaaDoor
