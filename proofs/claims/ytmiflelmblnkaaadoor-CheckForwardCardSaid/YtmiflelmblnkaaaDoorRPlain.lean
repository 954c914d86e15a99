/-
  The document's own table of instructions (package hurdleref02), as plain lists, and how it stands to the program's table.
-/
import Derived.Test.YtmiflelmblnkaaaDoorIJoin
namespace Ip
open Go

/-- The operations in the document's order, and their words. -/
def refOps : List Int := [0, 1, 2, 3, 4, 20, 36, 52, 68, 84, 100, 116, 164, 12, 28, 44, 60, 76, 92, 108, 124, 172, 132, 7, 135, 32, 96, 97, 5, 6, 22, 21, 37, 53, 69, 29, 45, 61, 77]
def refWords : List (List UInt8) := [[108, 100], [108, 100, 120], [115, 116], [115, 116, 120], [97, 100, 100], [115, 117, 98], [109, 117, 108], [100, 105, 118], [111, 114], [97, 110, 100], [108, 115, 104], [114, 115, 104], [120, 111, 114], [97, 100, 100, 120], [115, 117, 98, 120], [109, 117, 108, 120], [100, 105, 118, 120], [111, 114, 120], [97, 110, 100, 120], [108, 115, 104, 120], [114, 115, 104, 120], [120, 111, 114, 120], [110, 101, 103], [116, 97, 120], [116, 120, 97], [97, 98, 115], [109, 101, 109], [109, 101, 109, 120], [106, 97], [114, 101, 116], [114, 101, 116, 97], [106, 101, 113], [106, 103, 116], [106, 103, 101], [106, 115, 101, 116], [106, 101, 113, 120], [106, 103, 116, 120], [106, 103, 101, 120], [106, 115, 101, 116, 120]]
/-- The place of an operation; below 0: it is none. -/
def plc (k : Int) : Int := match refOps.findIdx? (· == k) with
  | some i => (i : Int)
  | none => -1
def plainB (i : Int) : Bool := (decide (13 ≤ i) && decide (i ≤ 24)) || (i == 30) || decide (35 ≤ i)
def branchB (i : Int) : Bool := decide (31 ≤ i)
/-- The program's row at a place of the document's. -/
def refRow (i : Nat) : Row := (byOp (refOps.getD i 0)).getD zeroRow
theorem ref_all : ∀ i, i < 39 → (byOp (refOps.getD i 0)).isSome = true ∧ (refRow i).op = refOps.getD i 0 ∧ (refRow i).word = refWords.getD i [] ∧ hasK (refRow i).fmt = !plainB i ∧ hasJ (refRow i).fmt = branchB i ∧ ((refRow i).fmt == 3) = (decide (4 ≤ i) && decide (i ≤ 12)) ∧ ((refRow i).fmt == 1) = (decide (13 ≤ i) && decide (i ≤ 21)) := by decide
theorem ref_only : ∀ r ∈ rows, refOps.contains r.op = true := by decide
theorem refOps_nodup : refOps.Nodup := by decide
theorem plc_at {i : Nat} (hi : i < 39) {k : Int} (h : (refOps.getD i 0 == k) = true) (ha : ∀ j, j < i → (refOps.getD j 0 == k) = false) : plc k = i := by
  have e : refOps.findIdx? (· == k) = some i := by
    rw [List.findIdx?_eq_some_iff_getElem]
    have hl : refOps.length = 39 := rfl
    refine ⟨by omega, ?_, fun j hj => ?_⟩
    · simpa [List.getD, hl, hi] using h
    · have := ha j hj
      simpa [List.getD, hl, show j < 39 by omega] using this
  unfold plc
  rw [e]
theorem plc_none {k : Int} (ha : ∀ j, j < 39 → (refOps.getD j 0 == k) = false) : plc k = -1 := by
  have e : refOps.findIdx? (· == k) = none := by
    rw [List.findIdx?_eq_none_iff]
    intro x hx
    obtain ⟨j, hj, rfl⟩ := List.getElem_of_mem hx
    have hl : refOps.length = 39 := rfl
    have := ha j (by omega)
    simpa [List.getD, hl, show j < 39 by omega] using this
  unfold plc
  rw [e]
/-- By an operation: a place with its row, or neither. -/
theorem plc_cases (k : Int) : (∃ i : Nat, i < 39 ∧ plc k = i ∧ k = refOps.getD i 0 ∧ byOp k = some (refRow i) ∧ refRow i ∈ rows) ∨ (plc k = -1 ∧ byOp k = none) := by
  cases h : refOps.findIdx? (· == k) with
  | some i =>
    rw [List.findIdx?_eq_some_iff_getElem] at h
    obtain ⟨hi, h1, h2⟩ := h
    have hl : refOps.length = 39 := rfl
    have hi' : i < 39 := by omega
    have hk : refOps.getD i 0 = k := by simpa [List.getD, hl, hi'] using h1
    refine .inl ⟨i, hi', ?_, hk.symm, ?_, ?_⟩
    · apply plc_at hi' (by simpa using hk)
      intro j hj
      have := h2 j hj
      simpa [List.getD, hl, show j < 39 by omega] using this
    · have h3 := (ref_all i hi').1
      rw [hk] at h3
      unfold refRow
      rw [hk]
      cases hb : byOp k with
      | none => rw [hb] at h3; cases h3
      | some r => rfl
    · have h3 := (ref_all i hi').1
      unfold refRow
      cases hb : byOp (refOps.getD i 0) with
      | none => rw [hb] at h3; cases h3
      | some r => exact (byOp_op hb).1
  | none =>
    refine .inr ⟨by unfold plc; rw [h], ?_⟩
    rw [List.findIdx?_eq_none_iff] at h
    cases hb : byOp k with
    | none => rfl
    | some r =>
      obtain ⟨hr, rfl⟩ := byOp_op hb
      have h1 := ref_only r hr
      have h2 := h r.op (by simpa using h1)
      simp at h2
end Ip
