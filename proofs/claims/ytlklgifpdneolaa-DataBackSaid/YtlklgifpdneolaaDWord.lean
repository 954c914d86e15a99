/-
  What data.Word answers.
-/
import Derived.Test.YtlklgifpdneolaaDRecord
namespace Go.Proofs.Ytlklgifpdneolaa
open Go.ChangeShapes Go.WideShapes Go.ChangeAt Go.RowKit
set_option maxRecDepth 20000

set_option maxHeartbeats 2000000 in
theorem word_any (d : Rec) (n : Nat) (w : World) (hd : d.ok) (hn : n < 4294967296) :
    Calls Try.prog 13 #[d.val, .int .u32 n] w fun e w' => e = .returned (.tuple #[.int .u32 (wordAtD d n), .bool (hasW n)]) ∧ Below w.heap.size w w' := by
  cases hh : hasW n
  · have HE : Hid (wordAtD d n = 0) := Lib.hid (by simp [wordAtD, hh])
    go_enter Try.func13, Try.ntmps13
    go_wp2_with fail
    refine (begins_any n _).mono ?_
    rintro e w1 ⟨rfl, rfl⟩
    rw [hh]
    clear hh
    go_wp2_with fail
    go_ret2
    exact ⟨by rw [HE.out]; rfl, ba _ (Below.refl _ _)⟩
  · have h16 : n / 4 < 16 := by
      simp [hasW] at hh
      omega
    have HD := Lib.hid hd
    have HE : Hid (wordAtD d n = (wordsD d).getD (n / 4) 0) := Lib.hid (by simp [wordAtD, hh])
    clear hd
    go_enter Try.func13, Try.ntmps13
    go_wp2_with fail
    refine (begins_any n _).mono ?_
    rintro e w1 ⟨rfl, rfl⟩
    rw [hh]
    clear hh
    go_wp2_with fail
    refine (words_any d _ HD.out).mono ?_
    rintro e w1 ⟨rfl, hb1⟩
    have HB1 := Lib.hid (below2 (ba (.cells d.cells 26) (Below.refl w.heap.size w)) hb1)
    clear hb1
    obtain ⟨x0, x1, x2, x3, x4, x5, x6, x7, x8, x9, x10, x11, x12, x13, x14, x15, hx⟩ := list16 (words_len d)
    have hc : (w1.alloc (.cells #[.int .u32 x0, .int .u32 x1, .int .u32 x2, .int .u32 x3, .int .u32 x4, .int .u32 x5, .int .u32 x6, .int .u32 x7, .int .u32 x8, .int .u32 x9, .int .u32 x10, .int .u32 x11, .int .u32 x12, .int .u32 x13, .int .u32 x14, .int .u32 x15] 43)).cell? ⟨w1.heap.size, n / 4, none⟩ = some (.int .u32 (wordAtD d n : Nat)) := by
      have e : (#[.int .u32 x0, .int .u32 x1, .int .u32 x2, .int .u32 x3, .int .u32 x4, .int .u32 x5, .int .u32 x6, .int .u32 x7, .int .u32 x8, .int .u32 x9, .int .u32 x10, .int .u32 x11, .int .u32 x12, .int .u32 x13, .int .u32 x14, .int .u32 x15] : Array Value) = (wcells (wordsD d)).toArray := by rw [hx]; rfl
      rw [cell_in (heap_alloc_new _ _), e, HE.out, List.getElem?_toArray, List.getElem?_map, List.getD_eq_getElem?_getD, List.getElem?_eq_getElem (by rw [words_len]; exact h16)]
      rfl
    rw [hx]
    simp only [wsV, wcells, List.map_cons, List.map_nil]
    have q0 : (0 : Int) ≤ (n : Int) / 4 := by omega
    have q1 : (n : Int) / 4 < 16 := by omega
    have q2 : ((n : Int) / 4).toNat = n / 4 := by omega
    have HBn := Lib.hid (ba (.cells #[.int .u32 x0, .int .u32 x1, .int .u32 x2, .int .u32 x3, .int .u32 x4, .int .u32 x5, .int .u32 x6, .int .u32 x7, .int .u32 x8, .int .u32 x9, .int .u32 x10, .int .u32 x11, .int .u32 x12, .int .u32 x13, .int .u32 x14, .int .u32 x15] 43) HB1.out)
    clear hx HB1 HE
    go_wp2_with fail
    go_ret2
    exact ⟨rfl, HBn.out⟩

end Go.Proofs.Ytlklgifpdneolaa
