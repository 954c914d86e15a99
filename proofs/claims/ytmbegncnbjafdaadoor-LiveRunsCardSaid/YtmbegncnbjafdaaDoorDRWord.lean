/-
  The document's own way (package hurdleref04): From, of sixty-four bytes.
-/
import Derived.Test.YtmbegncnbjafdaaDoorDRBytes
import Derived.Test.YtmbegncnbjafdaaDoorDWord
namespace Go.Proofs.YtmbegncnbjafdaaDoor
open Go.ChangeShapes Go.WideShapes Go.ChangeAt Go.RowKit
set_option maxRecDepth 20000

def mixN (nr arch ip a0 a1 a2 a3 a4 a5 : Nat) : Nat → Array Value
  | 0 => #[.int .u32 nr, .int .u32 arch, .int .u64 ip, .int .u64 0, .int .u64 0, .int .u64 0, .int .u64 0, .int .u64 0, .int .u64 0]
  | 1 => #[.int .u32 nr, .int .u32 arch, .int .u64 ip, .int .u64 a0, .int .u64 0, .int .u64 0, .int .u64 0, .int .u64 0, .int .u64 0]
  | 2 => #[.int .u32 nr, .int .u32 arch, .int .u64 ip, .int .u64 a0, .int .u64 a1, .int .u64 0, .int .u64 0, .int .u64 0, .int .u64 0]
  | 3 => #[.int .u32 nr, .int .u32 arch, .int .u64 ip, .int .u64 a0, .int .u64 a1, .int .u64 a2, .int .u64 0, .int .u64 0, .int .u64 0]
  | 4 => #[.int .u32 nr, .int .u32 arch, .int .u64 ip, .int .u64 a0, .int .u64 a1, .int .u64 a2, .int .u64 a3, .int .u64 0, .int .u64 0]
  | 5 => #[.int .u32 nr, .int .u32 arch, .int .u64 ip, .int .u64 a0, .int .u64 a1, .int .u64 a2, .int .u64 a3, .int .u64 a4, .int .u64 0]
  | _ => #[.int .u32 nr, .int .u32 arch, .int .u64 ip, .int .u64 a0, .int .u64 a1, .int .u64 a2, .int .u64 a3, .int .u64 a4, .int .u64 a5]
theorem fromB_is (b : List UInt8) : fromB b = ⟨numAt b 0 4, numAt b 4 4, numAt b 8 8, numAt b 16 8, numAt b 24 8, numAt b 32 8, numAt b 40 8, numAt b 48 8, numAt b 56 8⟩ := by
  simp only [numAt_eight, fromB, ofWords, wordsB, show List.range 16 = [0, 1, 2, 3, 4, 5, 6, 7, 8, 9, 10, 11, 12, 13, 14, 15] from rfl, List.map_cons, List.map_nil, List.getD_cons_zero, List.getD_cons_succ, num4, Nat.reduceMul, Nat.reduceAdd]
/-- number, of a piece. -/
theorem num_piece {V : World} {v : Value} {b : List UInt8} {x lo n : Nat} (h : BAt V v ((b.drop lo).take n)) (_ _ : Nat) (hl : b.length = 64) (hb : lo + n ≤ 64) (h8 : n ≤ 8) (hx : x = numAt b lo n) :
    Calls Tryd.prog 70 #[v] V fun e w' => e = .returned (.int .u64 (x : Nat)) ∧ V = w' := by
  have hle : ((b.drop lo).take n).length = n := by rw [List.length_take, List.length_drop]; omega
  refine (num_any v _ V h (by omega)).mono ?_
  rintro e w' ⟨rfl, rfl⟩
  rw [hle, numAt_sub b lo n (by omega), hx]
  exact ⟨rfl, rfl⟩

end Go.Proofs.YtmbegncnbjafdaaDoor

/-
  The document's own way (package hurdleref04): Word.
-/
namespace Go.Proofs.YtmbegncnbjafdaaDoor
open Go.ChangeShapes Go.WideShapes Go.ChangeAt Go.RowKit
set_option maxRecDepth 20000

theorem word_num {d : Rec} (hd : d.ok) {n : Nat} (h : hasW n = true) : numAt (bytesD d) n 4 = wordAtD d n := by
  have hh : n % 4 = 0 ∧ n < 64 := by simpa [hasW] using h
  have e := num_flat (wordsD d) (n / 4) (words_lt hd) (by rw [words_len]; omega)
  rw [show 4 * (n / 4) = n by omega] at e
  unfold wordAtD bytesD
  rw [if_pos h, e, List.getD_eq_getElem?_getD, List.getElem?_eq_getElem (by rw [words_len]; omega)]
  rfl

set_option maxHeartbeats 2000000 in
theorem rword_any (d : Rec) (n : Nat) (w : World) (hd : d.ok) (hn : n < 4294967296) :
    Calls Tryd.prog 54 #[d.val, .int .u32 n] w fun e w' => e = .returned (.tuple #[.int .u32 (wordAtD d n), .bool (hasW n)]) ∧ Below w.heap.size w w' := by
  cases hh : hasW n
  · have HE : Hid (wordAtD d n = 0) := Lib.hid (by simp [wordAtD, hh])
    by_cases h4 : n % 4 = 0
    · have h64 : 64 ≤ n := by
        simp [hasW, h4] at hh
        omega
      have h4i : (n : Int) % 4 = 0 := by omega
      have h4b : ((n : Int) % 4 != 0) = false := by simp [h4i]
      clear hh h4 h4i
      go_enter Tryd.func54, Tryd.ntmps54
      go_wp2_with fail
      go_ret2
      exact ⟨by rw [HE.out]; rfl, ba _ (Below.refl _ _)⟩
    · have h4i : ¬ (n : Int) % 4 = 0 := by omega
      have h4b : ((n : Int) % 4 != 0) = true := by simp [h4i]
      clear hh h4 h4i
      go_enter Tryd.func54, Tryd.ntmps54
      go_wp2_with fail
      go_ret2
      exact ⟨by rw [HE.out]; rfl, ba _ (Below.refl _ _)⟩
  · have h2 : n % 4 = 0 ∧ n < 64 := by simpa [hasW] using hh
    have h64 := h2.2
    have h60 : n ≤ 60 := by omega
    have h4b : ((n : Int) % 4 != 0) = false := by
      have : (n : Int) % 4 = 0 := by omega
      simp [this]
    have HE := Lib.hid (word_num hd hh)
    have HD := Lib.hid hd
    have hW : wordAtD d n < 4294967296 := by rw [← HE.out]; exact numAt_lt _ _ _
    clear hd h2 hh
    go_enter Tryd.func54, Tryd.ntmps54
    go_wp2_with fail
    refine (rbytes_any d _ HD.out).mono ?_
    rintro e w1 ⟨v, rfl, hO, hb1⟩
    have HB1 := Lib.hid (below2 (ba (.cells d.cells 46) (Below.refl w.heap.size w)) hb1)
    obtain ⟨u, eu, hu⟩ := (BAt.own hO (bytesD_len d).symm).sub n (n + 4) (n : Int) ((n : Int) + 4) rfl (by simp) (by omega) (by rw [bytesD_len]; omega)
    rw [show n + 4 - n = 4 by omega] at hu
    have HU : Hid (Calls Tryd.prog 70 #[u] w1 fun e w' => e = .returned (.int .u64 (wordAtD d n : Nat)) ∧ w1 = w') := Lib.hid (num_piece hu n 4 (bytesD_len d) (by omega) (by omega) HE.out.symm)
    clear hO hb1 hu
    obtain ⟨x, hx⟩ : ∃ x, x = wordAtD d n := ⟨_, rfl⟩
    rw [← hx] at HU hW
    have HX := Lib.hid hx
    clear hx HE
    go_wp2_with fail
    refine HU.out.mono ?_
    rintro e w' ⟨rfl, rfl⟩
    go_wp2_with fail
    go_ret2
    exact ⟨by rw [← HX.out]; rfl, HB1.out⟩
end Go.Proofs.YtmbegncnbjafdaaDoor
