/-
  What the closure of data.Bytes does: four bytes more in the array, and the place four further.
-/
import Derived.Test.YtlklgifpdneolaaDLeaf
import Derived.Deep.RegionHeld3
import Derived.BigRegion
import Derived.Lib.SmallJoins
namespace Go.Proofs.Ytlklgifpdneolaa
open Go.ChangeShapes Go.WideShapes Go.ChangeAt Go.RowKit
set_option maxRecDepth 20000

/-- An array of bytes of which the first are laid. -/
def outL (P : List UInt8) (m : Nat) : List UInt8 := P ++ List.replicate m 0
abbrev outB (P : List UInt8) (m : Nat) : Obj := .cells (bcells (outL P m)).toArray 45
theorem outL_set (P : List UInt8) (m : Nat) (b : UInt8) (hm : 0 < m) : (outL P m).set P.length b = outL (P ++ [b]) (m - 1) := by
  obtain ⟨n, rfl⟩ : ∃ n, m = n + 1 := ⟨m - 1, by omega⟩
  simp [outL, List.replicate_succ]
theorem outB_set {w : World} {bo : Nat} {P : List UInt8} {m : Nat} (b : UInt8) (v : Value) (hv : v = .int .u8 (b.toNat : Int)) (at_ : Nat) (hat : P.length = at_) (hm : 0 < m) (h : w.heap[bo]? = some (outB P m)) :
    (w.setCell ⟨bo, at_, none⟩ v).heap[bo]? = some (outB (P ++ [b]) (m - 1)) := by
  rw [Joins.block_setCell h]
  show _ = some (Obj.cells (bcells (outL (P ++ [b]) (m - 1))).toArray 45)
  rw [← outL_set P m b hm, hat, hv]
  simp [bcells, List.map_set]
theorem outB_cell {P : List UInt8} {m : Nat} {at_ : Nat} (hat : P.length = at_) (hm : 0 < m) : (bcells (outL P m)).toArray[at_]? = some (.int .u8 0) := by
  subst hat
  obtain ⟨n, rfl⟩ : ∃ n, m = n + 1 := ⟨m - 1, by omega⟩
  simp [outL, List.replicate_succ]

set_option maxHeartbeats 4000000 in
theorem putb_any (x at_ m : Nat) (P : List UInt8) (bo ba : Nat) (w : World) (hx : x < 4294967296) (hP : P.length = at_) (hm : at_ + m = 64) (h4 : 4 ≤ m) (hne : bo ≠ ba)
    (ho : w.heap[bo]? = some (outB P m)) (ha : w.heap[ba]? = some (.cells #[.int .i64 at_] 3)) :
    Calls Try.prog 21 #[.int .u32 x, .pointer (some ⟨bo, 0, none⟩), .pointer (some ⟨ba, 0, none⟩)] w fun e w' => e = .returned (.tuple #[]) ∧
      w'.heap[bo]? = some (outB (P ++ lowBytes x 4) (m - 4)) ∧ w'.heap[ba]? = some (.cells #[.int .i64 ((at_ + 4 : Nat) : Int)] 3) ∧ ∀ B, B ≤ bo → B ≤ ba → Below B w w' := by
  have HP := Lib.hid hP
  have HO := Lib.hid ho
  have HA := Lib.hid ha
  clear hP ho ha
  go_enter Try.func21, Try.ntmps21
  go_wp2_with fail
  go_loopw [5] (fun i wr => ∃ k : Nat, k ≤ 4 ∧ i = .int .i64 k ∧ wr.heap[bo]? = some (outB (P ++ lowBytes x k) (m - k)) ∧ wr.heap[ba]? = some (.cells #[.int .i64 at_] 3) ∧ ∀ B, B ≤ bo → B ≤ ba → Below B w wr) (fun i _ => 4 - (intOf i).toNat)
  case atStart => exact ⟨0, by omega, rfl, by simpa [lowBytes] using HO.out, HA.out, fun B _ _ => Below.refl _ _⟩
  case round =>
    obtain ⟨k, hk, rfl, hO1, hA1, hB1⟩ := hrel
    have HO1 := Lib.hid hO1
    have HA1 := Lib.hid hA1
    have HB1 := Lib.hid hB1
    have so := lt_of_block hO1
    have sa := lt_of_block hA1
    have hPk : (P ++ lowBytes x k).length = at_ + k := by rw [List.length_append, lowBytes_len, HP.out]
    have HPk := Lib.hid hPk
    by_cases hlt : k < 4
    · have a0 : wr.cell? ⟨ba, 0, none⟩ = some (.int .i64 at_) := cell_in hA1 0
      have o0 : wr.cell? ⟨bo, at_ + k, none⟩ = some (.int .u8 0) := (cell_in hO1 (at_ + k)).trans (outB_cell hPk (by omega))
      have o1 := free_in hO1 (at_ + k)
      clear hO1 hA1 hB1 hPk HO HA
      go_wp2_with fail
      have l0 : (0 : Int) ≤ (at_ : Int) + (k : Int) := by omega
      have l1 : (at_ : Int) + (k : Int) < 64 := by omega
      have t1 : ((at_ : Int) + (k : Int)).toNat = at_ + k := by omega
      have s1 : IntKind.i64.wrap ((at_ : Int) + (k : Int)) = (at_ : Int) + (k : Int) := IntWalk.i64_in _ (by omega)
      have s2 : IntKind.i64.wrap (8 * (k : Int)) = 8 * (k : Int) := IntWalk.i64_in _ (by omega)
      go_region_held3 (fun w' => w'.cell? ⟨ba, 0, none⟩ = some (.int .i64 at_)) (first | exact a0 | go_keep) (first | fail)
      have HV : Hid (Value.int .u8 (IntKind.u8.wrap ((x : Int) / 2 ^ (8 * (k : Int)).toNat)) = .int .u8 ((byteAt x k).toNat : Int)) := Lib.hid (by
        rw [byteAt_val, show (8 * (k : Int)).toNat = 8 * k by omega]
        simp [IntKind.wrap_u8])
      have HO2 : Hid ((wr.setCell ⟨bo, at_ + k, none⟩ (.int .u8 (IntKind.u8.wrap ((x : Int) / 2 ^ (8 * (k : Int)).toNat)))).drew.heap[bo]? = some (outB (P ++ lowBytes x (k + 1)) (m - (k + 1)))) := Lib.hid (by
        rw [lowBytes_succ, ← List.append_assoc, show m - (k + 1) = m - k - 1 by omega]
        exact outB_set (byteAt x k) _ HV.out (at_ + k) HPk.out (by omega) HO1.out)
      have HA2 : Hid ((wr.setCell ⟨bo, at_ + k, none⟩ (.int .u8 (IntKind.u8.wrap ((x : Int) / 2 ^ (8 * (k : Int)).toNat)))).drew.heap[ba]? = some (.cells #[.int .i64 at_] 3)) := Lib.hid ((Below.heap_setCell wr ⟨bo, at_ + k, none⟩ _ ba (fun h => hne h.symm)).trans HA1.out)
      have HB2 : Hid (∀ B, B ≤ bo → B ≤ ba → Below B w (wr.setCell ⟨bo, at_ + k, none⟩ (.int .u8 (IntKind.u8.wrap ((x : Int) / 2 ^ (8 * (k : Int)).toNat)))).drew) := Lib.hid fun B h1 h2 => ((HB1.out B h1 h2).setCell (p := ⟨bo, at_ + k, none⟩) h1 _).drew
      clear l0 l1 t1 s1 s2 a0 o0 o1 HV
      go_wp2_with fail
      go_roundw
      case rel => exact ⟨k + 1, by omega, by go_num, HO2.out, HA2.out, HB2.out⟩
      case measure => simp [intOf]; omega
    · obtain rfl : k = 4 := by omega
      have a0 : wr.cell? ⟨ba, 0, none⟩ = some (.int .i64 at_) := cell_in hA1 0
      have a1 := free_in hA1 0
      clear hO1 hA1 hB1 hPk HO HA
      go_wp2_with fail
      go_end0
      refine ⟨rfl, (Below.heap_setCell wr ⟨ba, 0, none⟩ _ bo hne).trans HO1.out, ?_, fun B h1 h2 => (HB1.out B h1 h2).setCell (p := ⟨ba, 0, none⟩) h2 _⟩
      rw [Joins.block_setCell HA1.out]
      simp
end Go.Proofs.Ytlklgifpdneolaa
