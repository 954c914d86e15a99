/-
  What data.Bytes answers: the sixty-four bytes of a record.
-/
import Derived.Test.YtlklgifpdneolaaDPut
import Derived.Test.YtlklgifpdneolaaDWords
namespace Go.Proofs.Ytlklgifpdneolaa
open Go.ChangeShapes Go.WideShapes Go.ChangeAt Go.RowKit
set_option maxRecDepth 20000

/-- A word of an array of sixteen. -/
theorem index16 (l : List Nat) (hl : l.length = 16) (k : Nat) (hk : k < 16) (W : World) : (Instr.index 43 (wsV l) (.int .i64 k)).run Try.prog W = .ok (.int .u32 ((l.getD k 0 : Nat) : Int)) W := by
  obtain ⟨x0, x1, x2, x3, x4, x5, x6, x7, x8, x9, x10, x11, x12, x13, x14, x15, rfl⟩ := list16 hl
  obtain rfl | rfl | rfl | rfl | rfl | rfl | rfl | rfl | rfl | rfl | rfl | rfl | rfl | rfl | rfl | rfl : k = 0 ∨ k = 1 ∨ k = 2 ∨ k = 3 ∨ k = 4 ∨ k = 5 ∨ k = 6 ∨ k = 7 ∨ k = 8 ∨ k = 9 ∨ k = 10 ∨ k = 11 ∨ k = 12 ∨ k = 13 ∨ k = 14 ∨ k = 15 := by omega
  all_goals kernel_rfl
theorem flat4_snoc (l : List Nat) (k : Nat) (hk : k < l.length) : flat4 (l.take (k + 1)) = flat4 (l.take k) ++ lowBytes (l.getD k 0) 4 := by
  rw [List.take_succ_eq_append_getElem hk, List.getD_eq_getElem?_getD, List.getElem?_eq_getElem hk, flat4, List.flatMap_append, List.flatMap_cons, List.flatMap_nil, List.append_nil]
  rfl
theorem zero64 (w : World) (o : Obj) : ((w.alloc (outB [] 64)).alloc o).heap[w.heap.size]? = some (outB [] 64) := (Below.heap_alloc _ _ _ (by rw [size_alloc]; omega)).trans (heap_alloc_new _ _)
theorem getD_lt {l : List Nat} {k : Nat} (hl : ∀ x ∈ l, x < 4294967296) (hk : k < l.length) : l.getD k 0 < 4294967296 := by
  rw [List.getD_eq_getElem?_getD, List.getElem?_eq_getElem hk]
  exact hl _ (List.getElem_mem hk)

set_option maxHeartbeats 4000000 in
theorem bytes_any (d : Rec) (w : World) (hd : d.ok) :
    Calls Try.prog 10 #[d.val] w fun e w' => ∃ v, e = .returned v ∧ BAt w' v (bytesD d) ∧ Below w.heap.size w w' := by
  have HD := Lib.hid hd
  have hmf : ∀ (fn : Fn) (first cap : Array Value) (w : World), (Instr.makeFunc fn first cap).run Try.prog w = .ok (.func fn first cap) w := fun _ _ _ _ => rfl
  clear hd
  go_enter Try.func10, Try.ntmps10
  go_wp2_with fail
  refine (words_any d _ HD.out).mono ?_
  rintro e w1 ⟨rfl, hb1⟩
  have HB1 := Lib.hid (below2 (ba (.cells #[.int .i64 0] 3) (ba (outB [] 64) (ba (.cells d.cells 26) (Below.refl w.heap.size w)))) hb1)
  have HO1 : Hid (w1.heap[w.heap.size + 1]? = some (outB [] 64)) := Lib.hid ((hb1.block _ (by simp)).trans (by
    have h := zero64 (w.alloc (.cells d.cells 26)) (.cells #[.int .i64 0] 3)
    rw [size_alloc] at h
    exact h))
  have HA1 : Hid (w1.heap[w.heap.size + 1 + 1]? = some (.cells #[.int .i64 0] 3)) := Lib.hid ((hb1.block _ (by simp)).trans (by
    have h := heap_alloc_new ((w.alloc (.cells d.cells 26)).alloc (outB [] 64)) (.cells #[.int .i64 0] 3)
    rw [size_alloc, size_alloc] at h
    exact h))
  have HL := Lib.hid (words_len d)
  have HW := Lib.hid (words_lt HD.out)
  have HE : Hid (bytesD d = flat4 (wordsD d)) := Lib.hid rfl
  clear hb1 HD
  obtain ⟨l, hl⟩ : ∃ l, l = wordsD d := ⟨_, rfl⟩
  rw [← hl] at HL HW HE ⊢
  clear hl
  go_wp2_with fail
  go_loopw [11] (fun i wr => ∃ k : Nat, k ≤ 16 ∧ i = .int .i64 k ∧ wr.heap[w.heap.size + 1]? = some (outB (flat4 (l.take k)) (64 - 4 * k)) ∧ wr.heap[w.heap.size + 1 + 1]? = some (.cells #[.int .i64 ((4 * k : Nat) : Int)] 3) ∧ Below w.heap.size w wr) (fun i _ => 16 - (intOf i).toNat)
  case atStart => exact ⟨0, by omega, rfl, HO1.out, HA1.out, HB1.out⟩
  case round =>
    obtain ⟨k, hk, rfl, hO2, hA2, hB2⟩ := hrel
    have HO2 := Lib.hid hO2
    have HA2 := Lib.hid hA2
    have HB2 := Lib.hid hB2
    clear hO2 hA2 hB2 HO1 HA1 HB1
    by_cases hlt : k < 16
    · have hi := index16 l HL.out k hlt
      have HI := Lib.hid (getD_lt HW.out (show k < l.length by rw [HL.out]; exact hlt))
      have HS := Lib.hid (flat4_snoc l k (by rw [HL.out]; exact hlt))
      have HQ : Hid ((flat4 (l.take k)).length = 4 * k) := Lib.hid (by rw [flat4, flat4_len, List.length_take, HL.out]; omega)
      obtain ⟨x, hx⟩ : ∃ x, x = l.getD k 0 := ⟨_, rfl⟩
      rw [← hx] at HI HS hi
      clear hx
      go_wp2_with fail
      refine (putb_any x (4 * k) (64 - 4 * k) (flat4 (l.take k)) (w.heap.size + 1) (w.heap.size + 1 + 1) _ HI.out HQ.out (by omega) (by omega) (by omega) HO2.out HA2.out).mono ?_
      rintro e w3 ⟨rfl, hO3, hA3, hB3⟩
      have HO3 : Hid (w3.heap[w.heap.size + 1]? = some (outB (flat4 (l.take (k + 1))) (64 - 4 * (k + 1)))) := Lib.hid (by rw [HS.out, hO3, show 64 - 4 * k - 4 = 64 - 4 * (k + 1) by omega])
      have HA3 : Hid (w3.heap[w.heap.size + 1 + 1]? = some (.cells #[.int .i64 ((4 * (k + 1) : Nat) : Int)] 3)) := Lib.hid hA3
      have HB3 := Lib.hid (HB2.out.trans (hB3 w.heap.size (by omega) (by omega)))
      clear hO3 hA3 hB3 hi
      go_wp2_with fail
      go_roundw
      case rel => exact ⟨k + 1, by omega, by go_num, HO3.out, HA3.out, HB3.out⟩
      case measure => simp [intOf]; omega
    · obtain rfl : k = 16 := by omega
      have HR : Hid (BAt wr (.slice (some ⟨w.heap.size + 1, 0, none⟩) 64 64) (bytesD d)) := Lib.hid (by
        have h := HO2.out
        rw [List.take_of_length_le (by rw [HL.out]; omega), ← HE.out] at h
        refine ⟨_, 64, by rw [bytesD_len], by rw [bytesD_len]; omega, by omega, .inr ⟨_, 0, rfl, lt_of_block h, fun i hi => ?_⟩⟩
        rw [cell_in h, Nat.zero_add]
        simp [outL, hi])
      clear HE
      go_wp2_with fail
      go_ret
      exact ⟨_, rfl, HR.out, HB2.out⟩
end Go.Proofs.Ytlklgifpdneolaa
