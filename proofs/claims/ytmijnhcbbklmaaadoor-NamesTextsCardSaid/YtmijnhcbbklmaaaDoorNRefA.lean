/-
  What the document's Call, ReadCall, Action and ReadAction answer (package hurdleref09).
-/
import Derived.Test.YtmijnhcbbklmaaaDoorNRefC
namespace Go.Proofs.YtmijnhcbbklmaaaDoor
open Go.ChangeShapes Go.WideShapes Go.ChangeAt Go.RowKit
set_option maxRecDepth 20000

theorem callT_len (n : Nat) : (callT n).length ≤ 8 := by
  unfold callT
  split
  · decide
  split
  · decide
  split
  · decide
  split
  · decide
  simp
theorem rcall_any (m n : Nat) (w : World) (hm : m < 4294967296) (hn : n < 4294967296) :
    Calls Tryd.prog 13 #[.int .u32 m, .int .u32 n] w fun e w' => e = .returned (.string (textN (callT m) n)) ∧ Below w.heap.size w w' := by
  go_enter Tryd.func13, Tryd.ntmps13
  go_wp2_with fail
  refine (rcalls_any m _ hm).mono ?_
  rintro e w1 ⟨⟨a, b, rfl, ha, hb⟩, hb1⟩
  have HA := Lib.hid ha
  have HB := Lib.hid hb
  have HB1 := Lib.hid hb1
  clear ha hb hb1
  go_wp2_with fail
  refine (rtext9_any (callT m) a b n _ HA.out HB.out hn (callT_len m)).mono ?_
  rintro e w2 ⟨rfl, hb2⟩
  have HB2 := Lib.hid (below2 HB1.out hb2)
  clear hb2
  go_wp2_with fail
  go_ret
  exact ⟨rfl, HB2.out⟩
theorem rreadcall_any (m : Nat) (s : ByteArray) (w : World) (hm : m < 4294967296) (hs : s.size ≤ 4611686018427387904) :
    Calls Tryd.prog 18 #[.int .u32 m, .string s] w fun e w' => RNEnd (callT m) s e ∧ Below w.heap.size w w' := by
  go_enter Tryd.func18, Tryd.ntmps18
  go_wp2_with fail
  refine (rcalls_any m _ hm).mono ?_
  rintro e w1 ⟨⟨a, b, rfl, ha, hb⟩, hb1⟩
  have HA := Lib.hid ha
  have HB := Lib.hid hb
  have HB1 := Lib.hid hb1
  clear ha hb hb1
  go_wp2_with fail
  refine (rread9_any (callT m) (callT_good m) a b s _ HA.out HB.out hs (callT_len m)).mono ?_
  rintro e w2 ⟨⟨o, ho, rfl⟩, hb2⟩
  have HO := Lib.hid ho
  have HB2 := Lib.hid (below2 HB1.out hb2)
  clear hb2 ho
  go_wp2_with fail
  go_ret2
  exact ⟨⟨o, HO.out, rfl⟩, HB2.out⟩
/-! ### Actions -/
/-- An action's text, or nothing. -/
def actS (v : Nat) : ByteArray := (actT v).getD ⟨#[]⟩
theorem actS_err {v : Nat} (h1 : 327680 ≤ v) (h2 : v ≤ 331775) : actS v = berror ++ Wd.txt (v - 327680) := by
  unfold actS actT
  rw [if_pos ⟨h1, h2⟩]
  rfl
theorem actS_rest {v : Nat} (h : ¬ (327680 ≤ v ∧ v ≤ 331775)) : actS v = if v = 0 then bkillA else if v = 196608 then btrap else if v = 2147221504 then blog else if v = 2147418112 then ballow else ⟨#[]⟩ := by
  unfold actS actT
  rw [if_neg h]
  split
  · rfl
  split
  · rfl
  split
  · rfl
  split
  · rfl
  rfl
theorem txt_lt18 {n : Nat} (h : n < 18446744073709551616) : (Wd.txt n).size ≤ 18 := by
  have := Wd.hex_len16 n h
  show (48 :: 120 :: Wd.hex n).length ≤ 18
  simp
  omega
set_option maxHeartbeats 2000000 in
theorem raction_any (v : Nat) (w : World) (hv : v < 4294967296) :
    Calls Tryd.prog 9 #[.int .u32 v] w fun e w' => e = .returned (.string (actS v)) ∧ Below w.heap.size w w' := by
  by_cases h : 327680 ≤ v ∧ v ≤ 331775
  · obtain ⟨m, rfl⟩ : ∃ m, v = 327680 + m := ⟨v - 327680, by omega⟩
    have HE := Lib.hid (actS_err h.1 h.2)
    rw [show 327680 + m - 327680 = m by omega] at HE
    have HT := Lib.hid (refText_any m (by omega))
    have hz := txt_lt18 (n := m) (by omega)
    have hzE : (⟨#[101, 114, 114, 111, 114, 58]⟩ : ByteArray).size = 6 := rfl
    have l1 : (327680 : Int) ≤ ((327680 + m : Nat) : Int) := by omega
    have l2 : ((327680 + m : Nat) : Int) ≤ 331775 := by omega
    have l3 : IntKind.u32.wrap (((327680 + m : Nat) : Int) - 327680) = (m : Int) := by unfold IntKind.wrap; simp [IntKind.bits, IntKind.signed]; omega
    obtain ⟨A, hA⟩ : ∃ A : Int, A = ((327680 + m : Nat) : Int) := ⟨_, rfl⟩
    rw [← hA] at l1 l2 l3 ⊢
    clear hA
    generalize Wd.txt m = TX at HT HE hz
    go_enter Tryd.func9, Tryd.ntmps9
    go_wp2_with fail
    refine (HT.out _).mono ?_
    rintro e w1 ⟨rfl, hb1⟩
    have HB1 := Lib.hid hb1
    clear hb1
    go_wp2_with fail
    go_ret
    exact ⟨by rw [HE.out]; rfl, HB1.out⟩
  · have HE := Lib.hid (actS_rest h)
    by_cases h0 : v = 0
    · subst h0
      go_enter Tryd.func9, Tryd.ntmps9
      go_wp2_with fail
      go_ret
      exact ⟨by rw [HE.out]; rfl, Below.refl _ _⟩
    by_cases h1 : v = 196608
    · subst h1
      go_enter Tryd.func9, Tryd.ntmps9
      go_wp2_with fail
      go_ret
      exact ⟨by rw [HE.out]; rfl, Below.refl _ _⟩
    by_cases h2 : v = 2147221504
    · subst h2
      go_enter Tryd.func9, Tryd.ntmps9
      go_wp2_with fail
      go_ret
      exact ⟨by rw [HE.out]; rfl, Below.refl _ _⟩
    by_cases h3 : v = 2147418112
    · subst h3
      go_enter Tryd.func9, Tryd.ntmps9
      go_wp2_with fail
      go_ret
      exact ⟨by rw [HE.out]; rfl, Below.refl _ _⟩
    have q0 : ((v : Int) == 0) = false := by simp; omega
    have q1 : ((v : Int) == 196608) = false := by simp; omega
    have q2 : ((v : Int) == 2147221504) = false := by simp; omega
    have q3 : ((v : Int) == 2147418112) = false := by simp; omega
    have HE2 : Hid (actS v = ⟨#[]⟩) := Lib.hid (by rw [HE.out, if_neg h0, if_neg h1, if_neg h2, if_neg h3])
    clear HE h0 h1 h2 h3
    by_cases hlo : 327680 ≤ v
    · have l1 : (327680 : Int) ≤ (v : Int) := by omega
      have l2 : ¬ (v : Int) ≤ 331775 := by omega
      clear h hlo
      go_enter Tryd.func9, Tryd.ntmps9
      go_wp2_with fail
      go_ret
      exact ⟨by rw [HE2.out]; rfl, Below.refl _ _⟩
    · have l1 : ¬ (327680 : Int) ≤ (v : Int) := by omega
      clear h hlo
      go_enter Tryd.func9, Tryd.ntmps9
      go_wp2_with fail
      go_ret
      exact ⟨by rw [HE2.out]; rfl, Below.refl _ _⟩
end Go.Proofs.YtmijnhcbbklmaaaDoor
