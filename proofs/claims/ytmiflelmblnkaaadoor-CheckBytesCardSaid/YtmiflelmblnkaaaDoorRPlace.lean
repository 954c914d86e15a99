/-
  The document's own instructions (package hurdleref02): Ops, Words, place, plain, branch.
-/
import Derived.Test.YtmiflelmblnkaaaDoorRPlain
import Derived.Test.YtmiflelmblnkaaaDoorIRight
namespace Go.Proofs.YtmiflelmblnkaaaDoor
open Go.ChangeShapes Go.WideShapes Go.ChangeAt Go.RowKit
set_option maxRecDepth 20000

def opAt (i : Nat) : Int := Ip.refOps.getD i 0
def wordAt (i : Nat) : ByteArray := ⟨(Ip.refWords.getD i []).toArray⟩
def opsC : Array Value := (Ip.refOps.map fun n => Value.int .i64 n).toArray
def wordsC : Array Value := (Ip.refWords.map fun x => Value.string ⟨x.toArray⟩).toArray
theorem opsC_at (i : Nat) (h : i < 39) : opsC[i]? = some (.int .i64 (opAt i)) := by
  have hl : Ip.refOps.length = 39 := rfl
  simp [opsC, opAt, List.getD, hl, h]
theorem wordsC_at (i : Nat) (h : i < 39) : wordsC[i]? = some (.string (wordAt i)) := by
  have hl : Ip.refWords.length = 39 := rfl
  simp [wordsC, wordAt, List.getD, hl, h]

theorem ops_any (w : World) :
    Calls Tryd.prog 61 #[] w fun e w' => e = .returned (.slice (some ⟨w.heap.size, 0, none⟩) 39 39) ∧ w'.heap[w.heap.size]? = some (.cells opsC 3 (0, 0)) ∧ Below w.heap.size w w' := by
  go_enter Tryd.func61, Tryd.ntmps61
  go_wp2
  go_ret
  exact ⟨rfl, heap_alloc_new _ _, ba _ (Below.refl _ _)⟩
theorem plain_any (i : Int) (w : World) :
    Calls Tryd.prog 59 #[.int .i64 i] w fun e w' => e = .returned (.bool (Ip.plainB i)) ∧ w = w' := by
  go_enter Tryd.func59, Tryd.ntmps59
  go_wp2
  all_goals go_ret
  all_goals refine ⟨ret1 ?_, rfl⟩
  all_goals
    show _ = Ip.plainB i
    unfold Ip.plainB
    rw [Bool.eq_iff_iff]
    simp
    omega
theorem rbranch_any (i : Int) (w : World) :
    Calls Tryd.prog 48 #[.int .i64 i] w fun e w' => e = .returned (.bool (Ip.branchB i)) ∧ w = w' := by
  go_enter Tryd.func48, Tryd.ntmps48
  go_wp2
  go_ret
  exact ⟨rfl, rfl⟩
set_option maxHeartbeats 1000000 in
theorem place_any (k : Int) (w : World) :
    Calls Tryd.prog 49 #[.int .i64 k] w fun e w' => e = .returned (.int .i64 (Ip.plc k)) ∧ Below w.heap.size w w' := by
  go_enter Tryd.func49, Tryd.ntmps49
  go_wp2_with fail
  refine (ops_any _).mono ?_
  rintro e w1 ⟨rfl, hH, hB⟩
  have HH := Lib.hid hH
  have HB := Lib.hid hB
  clear hH hB
  go_wp2_with fail
  go_loop [4] (fun i => ∃ n : Nat, n ≤ 39 ∧ i = .int .i64 n ∧ (∀ j, j < n → (opAt j == k) = false)) (fun i => 39 - (intOf i).toNat)
  case atStart => exact ⟨0, by omega, rfl, fun j hj => by omega⟩
  case round =>
    obtain ⟨n, hn, rfl, hno⟩ := hrel
    have NO := Lib.hid hno
    clear hno
    by_cases hlt : n < 39
    · have hc : w1.cell? ⟨w.heap.size, n, none⟩ = some (.int .i64 (opAt n)) := (cell_in HH.out n).trans (opsC_at n hlt)
      cases hop : (opAt n == k)
      · go_wp2_with fail
        go_round
        case rel =>
          refine ⟨n + 1, by omega, by go_num, fun j hj => ?_⟩
          by_cases hj' : j < n
          · exact NO.out j hj'
          · obtain rfl : j = n := by omega
            exact hop
        case measure => simp [intOf]; omega
      · go_wp2_with fail
        go_ret
        exact ⟨by rw [Ip.plc_at hlt hop NO.out]; rfl, HB.out⟩
    · go_wp2_with fail
      go_ret
      exact ⟨by rw [Ip.plc_none fun j hj => NO.out j (by omega)]; rfl, HB.out⟩
end Go.Proofs.YtmiflelmblnkaaaDoor
