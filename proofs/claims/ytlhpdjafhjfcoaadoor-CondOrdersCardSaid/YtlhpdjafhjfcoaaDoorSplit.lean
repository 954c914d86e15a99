/-
  What strings.SplitN answers at a mark of one byte.
-/
import Derived.Test.YtlhpdjafhjfcoaaDoorSCut
import Derived.Lib.Split
import Derived.Deep.OwnRows
import Derived.Laws.Strings3
import Derived.Deep.DeepCutAuto
import Derived.Handy
namespace Go.Proofs.YtlhpdjafhjfcoaaDoor
open Go.ChangeShapes Go.WideShapes Go.ChangeAt Go.RowKit
set_option maxRecDepth 100000

/-- A text of these bytes. -/
abbrev bsT (l : List UInt8) : ByteArray := ⟨l.toArray⟩
/-- The pieces of a text between marks, of so many marks at most. -/
def cutsL (c : UInt8) : Nat → List UInt8 → List (List UInt8)
  | 0, l => [l]
  | k + 1, l => if Lib.indexByte l c = -1 then [l] else l.take (Lib.indexByte l c).toNat :: cutsL c k (l.drop ((Lib.indexByte l c).toNat + 1))
theorem cutsL_miss {c : UInt8} {l : List UInt8} (k : Nat) (h : Lib.indexByte l c = -1) : cutsL c k l = [l] := by
  cases k with
  | zero => rfl
  | succ k => unfold cutsL; rw [if_pos h]
theorem cutsL_hit {c : UInt8} {l : List UInt8} {o : Nat} (k : Nat) (h : Lib.indexByte l c = o) : cutsL c (k + 1) l = l.take o :: cutsL c k (l.drop (o + 1)) := by
  have e : (Lib.indexByte l c).toNat = o := by omega
  rw [cutsL, if_neg (by omega), e]
theorem cutsL_len (c : UInt8) : ∀ (k : Nat) (l : List UInt8), 1 ≤ (cutsL c k l).length ∧ (cutsL c k l).length ≤ k + 1
  | 0, _ => ⟨Nat.le_refl _, Nat.le_refl _⟩
  | k + 1, l => by
    unfold cutsL
    split
    · simp
    · have := cutsL_len c k (l.drop ((Lib.indexByte l c).toNat + 1))
      simp only [List.length_cons]
      omega
/-- The cells of the pieces. -/
def cutCells (ps : List (List UInt8)) (N : Nat) : Array Value := Lib.cellsOf (ps.map bsT) N

theorem strIndex_any (s : ByteArray) (c : UInt8) (w : World) :
    Calls Tryd.prog 51 #[.string s, .string ⟨#[c]⟩] w fun e w' => e = .returned (.int .i64 (Lib.indexByte s.data.toList c)) ∧ w = w' := by
  go_enter Tryd.func51, Tryd.ntmps51
  go_wp2_with fail
  refine (sIndex_any s c w).mono ?_
  rintro e w' ⟨rfl, rfl⟩
  go_wp2_with fail
  go_ret
  exact ⟨rfl, rfl⟩
theorem info9 : (Tryd.prog.info? 9).map (fun i => (i.zero, i.size, i.bytes)) = some (some (.string ByteArray.empty), 1, 16) := by kernel_rfl

set_option maxHeartbeats 4000000 in
theorem genSplit_any (s : List UInt8) (c : UInt8) (n N : Nat) (w : World) (hs : s.length ≤ 4611686018427387904) (hn : 1 ≤ n) (hN : N = min n (s.length + 1)) (hn2 : n ≤ 1048576) :
    Calls Tryd.prog 37 #[.string (bsT s), .string ⟨#[c]⟩, .int .i64 0, .int .i64 n] w fun e w' =>
      e = .returned (.slice (some ⟨w.heap.size, 0, none⟩) (cutsL c (N - 1) s).length N) ∧ w' = w.alloc (.cells (cutCells (cutsL c (N - 1) s) N) 9) := by
  have hne : ((n : Int) == 0) = false := beq_eq_false_iff_ne.2 (by omega)
  have hneg : ¬ (n : Int) < 0 := by omega
  have hsz : (bsT s).size = s.length := by simp [ByteArray.size]
  have hmin : min (n : Int) ((s.length : Int) + 1) = (N : Int) := by rw [hN]; omega
  have hNs : (N : Int) ≤ (s.length : Int) + 1 := by omega
  have hN1 : (1 : Int) ≤ (N : Int) := by omega
  have hN2 : (N : Int) ≤ 1048576 := by omega
  have hmk := run_make_row' (P := Tryd.prog) 52 9 (.string ByteArray.empty) 16 Tryd.underlying52 info9 rfl .i64 .i64 N (by omega) (by omega)
  obtain ⟨S, hS⟩ : ∃ S, S = bsT s := ⟨_, rfl⟩
  rw [← hS] at hsz
  rw [← hS]
  have HS0 := Lib.hid hS
  clear hS hN
  go_enter Tryd.func37, Tryd.ntmps37
  go_wp2_with fail
  clear hmk
  go_loopw [0, 10] (fun s0 s10 wr => ∃ (done : List (List UInt8)) (rest : List UInt8), s0 = .string (bsT rest) ∧ s10 = .int .i64 (done.length : Nat) ∧ done.length ≤ N - 1 ∧ rest.length ≤ s.length ∧
      wr = w.alloc (.cells (cutCells done N) 9) ∧ Hid (done ++ cutsL c (N - 1 - done.length) rest = cutsL c (N - 1) s)) (fun _ i _ => N - 1 - (Lib.intOf i).toNat)
  case atStart => exact ⟨[], s, by rw [HS0.out], rfl, Nat.zero_le _, Nat.le_refl _, by unfold cutCells; rw [List.map_nil, Lib.cellsOf_nil], Lib.hid rfl⟩
  case round =>
    obtain ⟨done, rest, rfl, rfl, hd, hrs, rfl, HC⟩ := hrel
    have hnext : (cutCells done N)[done.length]? = some (.string ByteArray.empty) := by
      have := Lib.cellsOf_next (done := done.map bsT) (N := N) (by rw [List.length_map]; omega)
      rwa [List.length_map] at this
    have hput : (cutCells done N).setIfInBounds done.length (.string (bsT rest)) = cutCells (done ++ [rest]) N := by
      have := Lib.cellsOf_set (done := done.map bsT) (N := N) (by rw [List.length_map]; omega) (bsT rest)
      rw [List.length_map] at this
      unfold cutCells
      rw [this, List.map_append]
      rfl
    have hput2 : ∀ o, (cutCells done N).setIfInBounds done.length (.string (bsT (rest.take o))) = cutCells (done ++ [rest.take o]) N := by
      intro o
      have := Lib.cellsOf_set (done := done.map bsT) (N := N) (by rw [List.length_map]; omega) (bsT (rest.take o))
      rw [List.length_map] at this
      unfold cutCells
      rw [this, List.map_append]
      rfl
    have hcs : (cutCells done N).size = N := Lib.cellsOf_size (by rw [List.length_map]; omega)
    have hfin : Hid (cutsL c (N - 1 - done.length) rest = [rest] → (cutsL c (N - 1) s).length = done.length + 1 ∧ cutCells (done ++ [rest]) N = cutCells (cutsL c (N - 1) s) N) := Lib.hid (fun h => by
      have e := HC.out
      rw [h] at e
      rw [← e]
      exact ⟨by simp, rfl⟩)
    have hrz : (bsT rest).size = rest.length := by simp [ByteArray.size]
    have hxo : Hid (∀ o, (bsT rest).extract 0 o = bsT (rest.take o)) := Lib.hid (fun o => take_str _ _)
    have hxr : Hid (∀ o, (bsT rest).extract o (bsT rest).size = bsT (rest.drop o)) := Lib.hid (fun o => drop_str _ _)
    obtain ⟨R, hR⟩ : ∃ R, R = bsT rest := ⟨_, rfl⟩
    rw [← hR] at hrz hput hxo hxr
    rw [← hR]
    have hRl : R.data.toList = rest := by rw [hR]
    have HRl := Lib.hid hRl
    have HR := Lib.hid hR
    clear hR hRl
    by_cases hlt : done.length < N - 1
    · have hltz : ((done.length : Nat) : Int) < (N : Int) - 1 := by omega
      rcases index_cases rest c with ⟨hix, hno⟩ | ⟨o, ho, hix, hsp, hno⟩
      · have HI := Lib.hid hix
        clear hix
        go_wp2_with fail
        refine (strIndex_any _ c _).mono ?_
        rintro e w' ⟨rfl, rfl⟩
        rw [HRl.out, HI.out]
        go_wp2_with fail
        go_ret
        obtain ⟨f1, f2⟩ := hfin.out (cutsL_miss _ HI.out)
        rw [f1, ← f2]
        exact ⟨by first | rfl | (congr 2 <;> omega), rfl⟩
      · have HI := Lib.hid hix
        clear hix hsp hno
        have cb : R.size ≤ 4611686018427387904 := by omega
        have c0 : ¬ ((o : Int) < 0) := by omega
        have c1 : (0 : Int) ≤ ↑o := by omega
        have c2 : (o : Int) ≤ ↑R.size := by omega
        have c3 : (0 : Int) ≤ ↑o + 1 := by omega
        have c4 : (o + 1 : Int) ≤ ↑R.size := by omega
        go_wp2_with fail
        refine (strIndex_any _ c _).mono ?_
        rintro e w' ⟨rfl, rfl⟩
        rw [HRl.out, HI.out]
        go_wp2_with fail
        go_roundw
        case measure =>
          simp only [Lib.intOf]
          omega
        case rel =>
          refine ⟨done ++ [rest.take o], rest.drop (o + 1), by rw [← hrz, hxr.out], by simp, by rw [List.length_append]; simp only [List.length_singleton]; omega, by rw [List.length_drop]; omega, by rw [hxo.out, hput2], ?_⟩
          refine Lib.hid ?_
          rw [← HC.out, show N - 1 - done.length = (N - 1 - (done.length + 1)) + 1 by omega, cutsL_hit _ HI.out]
          simp
    · have hltz : ¬ (((done.length : Nat) : Int) < (N : Int) - 1) := by omega
      go_wp2_with fail
      go_ret
      obtain ⟨f1, f2⟩ := hfin.out (by rw [show N - 1 - done.length = 0 by omega]; rfl)
      rw [f1, ← f2]
      exact ⟨by first | rfl | (congr 2 <;> omega), rfl⟩

theorem splitN_any (s : List UInt8) (c : UInt8) (n N : Nat) (w : World) (hs : s.length ≤ 4611686018427387904) (hn : 1 ≤ n) (hN : N = min n (s.length + 1)) (hn2 : n ≤ 1048576) :
    Calls Tryd.prog 24 #[.string (bsT s), .string ⟨#[c]⟩, .int .i64 n] w fun e w' =>
      e = .returned (.slice (some ⟨w.heap.size, 0, none⟩) (cutsL c (N - 1) s).length N) ∧ w' = w.alloc (.cells (cutCells (cutsL c (N - 1) s) N) 9) := by
  have c1 := genSplit_any s c n N w hs hn hN hn2
  clear hs hN
  generalize cutsL c (N - 1) s = ps at *
  generalize bsT s = S at *
  go_enter Tryd.func24, Tryd.ntmps24
  go_wp2_with fail
  refine c1.mono ?_
  rintro e w' ⟨rfl, rfl⟩
  go_wp2_with fail
  go_ret
  exact ⟨rfl, rfl⟩
end Go.Proofs.YtlhpdjafhjfcoaaDoor
