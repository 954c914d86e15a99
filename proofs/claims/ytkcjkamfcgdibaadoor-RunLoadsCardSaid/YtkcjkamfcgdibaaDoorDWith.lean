/-
  What data.With answers.
-/
import Derived.Test.YtkcjkamfcgdibaaDoorDWord
namespace Go.Proofs.YtkcjkamfcgdibaaDoor
open Go.ChangeShapes Go.WideShapes Go.ChangeAt Go.RowKit
set_option maxRecDepth 20000

set_option maxHeartbeats 2000000 in
theorem with_any (d : Rec) (n v : Nat) (w : World) (hd : d.ok) (hn : n < 4294967296) (hv : v < 4294967296) :
    Calls Tryd.prog 18 #[d.val, .int .u32 n, .int .u32 v] w fun e w' => e = .returned (withD d n v).val ∧ Below w.heap.size w w' := by
  cases hh : hasW n
  · have HE : Hid (withD d n v = d) := Lib.hid (by simp [withD, hh])
    go_enter Tryd.func18, Tryd.ntmps18
    go_wp2_with fail
    refine (begins_any n _).mono ?_
    rintro e w1 ⟨rfl, rfl⟩
    rw [hh]
    clear hh
    go_wp2_with fail
    (try simp only [Exit.inBlock, Exit.then])
    refine bodyPost_ret (v := d.val) ?_ rfl ⟨by rw [HE.out], ?_⟩
    · simp [results, Tryd.results18, go_sem]
    · repeat (first | exact Below.refl _ _ | apply ba)
  · have h16 : n / 4 < 16 := by
      simp [hasW] at hh
      omega
    have HD := Lib.hid hd
    have HE : Hid (withD d n v = ofWords ((wordsD d).set (n / 4) v)) := Lib.hid (by simp [withD, hh])
    have HS := Lib.hid (set_lt (i := n / 4) (words_lt hd) hv)
    clear hd
    go_enter Tryd.func18, Tryd.ntmps18
    go_wp2_with fail
    refine (begins_any n _).mono ?_
    rintro e w1 ⟨rfl, rfl⟩
    rw [hh]
    go_wp2_with fail
    refine (words_any d _ HD.out).mono ?_
    rintro e w1 ⟨rfl, hb1⟩
    have HB1 := Lib.hid (below2 (ba (.cells z9 31) (ba (.cells d.cells 31) (Below.refl w.heap.size w))) hb1)
    have HR1 : Hid (w1.heap[w.heap.size + 1]? = some (.cells z9 31)) := Lib.hid ((hb1.block _ (by simp)).trans (by have h := heap_alloc_new (w.alloc (.cells d.cells 31)) (.cells z9 31); rw [size_alloc] at h; exact h))
    clear hb1
    obtain ⟨x0, x1, x2, x3, x4, x5, x6, x7, x8, x9, x10, x11, x12, x13, x14, x15, hx⟩ := list16 (words_len d)
    have HSL : Hid (((wordsD d).set (n / 4) v).length = 16) := Lib.hid (by rw [List.length_set, words_len])
    rw [hx] at HE HS HSL ⊢
    simp only [wsV, wcells, List.map_cons, List.map_nil]
    clear hx HD
    have s1 := lt_of_block HR1.out
    obtain ⟨y0, y1, y2, y3, y4, y5, y6, y7, y8, y9, y10, y11, y12, y13, y14, y15, hy⟩ := list16 HSL.out
    rw [hy] at HE HS HSL
    have hset : (#[.int .u32 x0, .int .u32 x1, .int .u32 x2, .int .u32 x3, .int .u32 x4, .int .u32 x5, .int .u32 x6, .int .u32 x7, .int .u32 x8, .int .u32 x9, .int .u32 x10, .int .u32 x11, .int .u32 x12, .int .u32 x13, .int .u32 x14, .int .u32 x15] : Array Value).setIfInBounds (n / 4) (.int .u32 v) = #[.int .u32 y0, .int .u32 y1, .int .u32 y2, .int .u32 y3, .int .u32 y4, .int .u32 y5, .int .u32 y6, .int .u32 y7, .int .u32 y8, .int .u32 y9, .int .u32 y10, .int .u32 y11, .int .u32 y12, .int .u32 y13, .int .u32 y14, .int .u32 y15] := by
      show (wcells [x0, x1, x2, x3, x4, x5, x6, x7, x8, x9, x10, x11, x12, x13, x14, x15]).toArray.setIfInBounds (n / 4) _ = (wcells [y0, y1, y2, y3, y4, y5, y6, y7, y8, y9, y10, y11, y12, y13, y14, y15]).toArray
      rw [List.setIfInBounds_toArray, ← hy]
      simp only [wcells, List.map_set]
    clear hh hy
    have q0 : (0 : Int) ≤ (n : Int) / 4 := by omega
    have q1 : (n : Int) / 4 < 16 := by omega
    have q2 : ((n : Int) / 4).toNat = n / 4 := by omega
    go_wp2_with fail
    refine (record_any [y0, y1, y2, y3, y4, y5, y6, y7, y8, y9, y10, y11, y12, y13, y14, y15] _ HSL.out HS.out).mono ?_
    rintro e w2 ⟨rfl, hb2⟩
    rw [← HE.out]
    have hR2 := (hb2.block (w.heap.size + 1) (by simp; omega)).trans ((Below.heap_alloc _ _ _ s1).trans HR1.out)
    have HB2 := Lib.hid (below2 (ba (.cells #[.int .u32 y0, .int .u32 y1, .int .u32 y2, .int .u32 y3, .int .u32 y4, .int .u32 y5, .int .u32 y6, .int .u32 y7, .int .u32 y8, .int .u32 y9, .int .u32 y10, .int .u32 y11, .int .u32 y12, .int .u32 y13, .int .u32 y14, .int .u32 y15] 23) HB1.out) hb2)
    have r0 := cell_in hR2 0
    have r1 := cell_in hR2 1
    have r2 := cell_in hR2 2
    have r3 := cell_in hR2 3
    have r4 := cell_in hR2 4
    have r5 := cell_in hR2 5
    have r6 := cell_in hR2 6
    have r7 := cell_in hR2 7
    have r8 := cell_in hR2 8
    have f0 := free_in hR2 0
    have f1 := free_in hR2 1
    have f2 := free_in hR2 2
    have f3 := free_in hR2 3
    have f4 := free_in hR2 4
    have f5 := free_in hR2 5
    have f6 := free_in hR2 6
    have f7 := free_in hR2 7
    have f8 := free_in hR2 8
    have s2 := lt_of_block hR2
    simp only [z9, List.getElem?_toArray, List.getElem?_cons_zero, List.getElem?_cons_succ] at r0 r1 r2 r3 r4 r5 r6 r7 r8
    clear hb2 hR2 HE HS HSL hset q0 q1 q2
    obtain ⟨D, hD⟩ : ∃ D, D = withD d n v := ⟨_, rfl⟩
    rw [← hD]
    have HDD := Lib.hid hD
    clear hD
    go_wp2_with fail
    (try simp only [Exit.inBlock, Exit.then])
    refine bodyPost_ret (v := D.val) ?_ rfl ⟨by rw [HDD.out], ?_⟩
    · simp [results, Tryd.results18, go_sem]
      go_simp
    · have hB := HB2.out
      go_grown
end Go.Proofs.YtkcjkamfcgdibaaDoor
