/-
  What data.words and data.record answer: a record's sixteen words, and the record of sixteen words.
-/
import Derived.Test.YtlklgifpdneolaaDLeaf
namespace Go.Proofs.Ytlklgifpdneolaa
open Go.ChangeShapes Go.WideShapes Go.ChangeAt Go.RowKit
set_option maxRecDepth 20000

abbrev wcells (l : List Nat) : List Value := l.map fun x : Nat => Value.int .u32 (x : Int)
abbrev wsV (l : List Nat) : Value := .agg (wcells l).toArray
/-- The words that are there behind k arguments. -/
def mixC (nr arch ip a0 a1 a2 a3 a4 a5 : Nat) : Nat → Array Value
  | 0 => #[.int .u32 (nr : Int), .int .u32 (arch : Int), .int .u32 ((ip : Int) % 4294967296), .int .u32 ((ip : Int) / 4294967296), .int .u32 0, .int .u32 0, .int .u32 0, .int .u32 0, .int .u32 0, .int .u32 0, .int .u32 0, .int .u32 0, .int .u32 0, .int .u32 0, .int .u32 0, .int .u32 0]
  | 1 => #[.int .u32 (nr : Int), .int .u32 (arch : Int), .int .u32 ((ip : Int) % 4294967296), .int .u32 ((ip : Int) / 4294967296), .int .u32 ((a0 : Int) % 4294967296), .int .u32 ((a0 : Int) / 4294967296), .int .u32 0, .int .u32 0, .int .u32 0, .int .u32 0, .int .u32 0, .int .u32 0, .int .u32 0, .int .u32 0, .int .u32 0, .int .u32 0]
  | 2 => #[.int .u32 (nr : Int), .int .u32 (arch : Int), .int .u32 ((ip : Int) % 4294967296), .int .u32 ((ip : Int) / 4294967296), .int .u32 ((a0 : Int) % 4294967296), .int .u32 ((a0 : Int) / 4294967296), .int .u32 ((a1 : Int) % 4294967296), .int .u32 ((a1 : Int) / 4294967296), .int .u32 0, .int .u32 0, .int .u32 0, .int .u32 0, .int .u32 0, .int .u32 0, .int .u32 0, .int .u32 0]
  | 3 => #[.int .u32 (nr : Int), .int .u32 (arch : Int), .int .u32 ((ip : Int) % 4294967296), .int .u32 ((ip : Int) / 4294967296), .int .u32 ((a0 : Int) % 4294967296), .int .u32 ((a0 : Int) / 4294967296), .int .u32 ((a1 : Int) % 4294967296), .int .u32 ((a1 : Int) / 4294967296), .int .u32 ((a2 : Int) % 4294967296), .int .u32 ((a2 : Int) / 4294967296), .int .u32 0, .int .u32 0, .int .u32 0, .int .u32 0, .int .u32 0, .int .u32 0]
  | 4 => #[.int .u32 (nr : Int), .int .u32 (arch : Int), .int .u32 ((ip : Int) % 4294967296), .int .u32 ((ip : Int) / 4294967296), .int .u32 ((a0 : Int) % 4294967296), .int .u32 ((a0 : Int) / 4294967296), .int .u32 ((a1 : Int) % 4294967296), .int .u32 ((a1 : Int) / 4294967296), .int .u32 ((a2 : Int) % 4294967296), .int .u32 ((a2 : Int) / 4294967296), .int .u32 ((a3 : Int) % 4294967296), .int .u32 ((a3 : Int) / 4294967296), .int .u32 0, .int .u32 0, .int .u32 0, .int .u32 0]
  | 5 => #[.int .u32 (nr : Int), .int .u32 (arch : Int), .int .u32 ((ip : Int) % 4294967296), .int .u32 ((ip : Int) / 4294967296), .int .u32 ((a0 : Int) % 4294967296), .int .u32 ((a0 : Int) / 4294967296), .int .u32 ((a1 : Int) % 4294967296), .int .u32 ((a1 : Int) / 4294967296), .int .u32 ((a2 : Int) % 4294967296), .int .u32 ((a2 : Int) / 4294967296), .int .u32 ((a3 : Int) % 4294967296), .int .u32 ((a3 : Int) / 4294967296), .int .u32 ((a4 : Int) % 4294967296), .int .u32 ((a4 : Int) / 4294967296), .int .u32 0, .int .u32 0]
  | _ => #[.int .u32 (nr : Int), .int .u32 (arch : Int), .int .u32 ((ip : Int) % 4294967296), .int .u32 ((ip : Int) / 4294967296), .int .u32 ((a0 : Int) % 4294967296), .int .u32 ((a0 : Int) / 4294967296), .int .u32 ((a1 : Int) % 4294967296), .int .u32 ((a1 : Int) / 4294967296), .int .u32 ((a2 : Int) % 4294967296), .int .u32 ((a2 : Int) / 4294967296), .int .u32 ((a3 : Int) % 4294967296), .int .u32 ((a3 : Int) / 4294967296), .int .u32 ((a4 : Int) % 4294967296), .int .u32 ((a4 : Int) / 4294967296), .int .u32 ((a5 : Int) % 4294967296), .int .u32 ((a5 : Int) / 4294967296)]
def z16 : Array Value := #[.int .u32 0, .int .u32 0, .int .u32 0, .int .u32 0, .int .u32 0, .int .u32 0, .int .u32 0, .int .u32 0, .int .u32 0, .int .u32 0, .int .u32 0, .int .u32 0, .int .u32 0, .int .u32 0, .int .u32 0, .int .u32 0]
theorem mix_all (nr arch ip a0 a1 a2 a3 a4 a5 : Nat) : mixC nr arch ip a0 a1 a2 a3 a4 a5 6 = (wcells (wordsD ⟨nr, arch, ip, a0, a1, a2, a3, a4, a5⟩)).toArray := rfl

set_option maxHeartbeats 4000000 in
theorem words_any (d : Rec) (w : World) (hd : d.ok) :
    Calls Try.prog 22 #[d.val] w fun e w' => e = .returned (wsV (wordsD d)) ∧ Below w.heap.size w w' := by
  obtain ⟨nr, arch, ip, a0, a1, a2, a3, a4, a5⟩ := d
  obtain ⟨h0, h1, h2, h3, h4, h5, h6, h7, h8⟩ := hd
  simp only at h0 h1 h2 h3 h4 h5 h6 h7 h8
  have HM := Lib.hid (mix_all nr arch ip a0 a1 a2 a3 a4 a5)
  have i0 : ∀ w, (Instr.index 24 (.agg #[.int .u64 a0, .int .u64 a1, .int .u64 a2, .int .u64 a3, .int .u64 a4, .int .u64 a5]) (.int .i64 0)).run Try.prog w = .ok (.int .u64 a0) w := fun _ => by kernel_rfl
  have i1 : ∀ w, (Instr.index 24 (.agg #[.int .u64 a0, .int .u64 a1, .int .u64 a2, .int .u64 a3, .int .u64 a4, .int .u64 a5]) (.int .i64 1)).run Try.prog w = .ok (.int .u64 a1) w := fun _ => by kernel_rfl
  have i2 : ∀ w, (Instr.index 24 (.agg #[.int .u64 a0, .int .u64 a1, .int .u64 a2, .int .u64 a3, .int .u64 a4, .int .u64 a5]) (.int .i64 2)).run Try.prog w = .ok (.int .u64 a2) w := fun _ => by kernel_rfl
  have i3 : ∀ w, (Instr.index 24 (.agg #[.int .u64 a0, .int .u64 a1, .int .u64 a2, .int .u64 a3, .int .u64 a4, .int .u64 a5]) (.int .i64 3)).run Try.prog w = .ok (.int .u64 a3) w := fun _ => by kernel_rfl
  have i4 : ∀ w, (Instr.index 24 (.agg #[.int .u64 a0, .int .u64 a1, .int .u64 a2, .int .u64 a3, .int .u64 a4, .int .u64 a5]) (.int .i64 4)).run Try.prog w = .ok (.int .u64 a4) w := fun _ => by kernel_rfl
  have i5 : ∀ w, (Instr.index 24 (.agg #[.int .u64 a0, .int .u64 a1, .int .u64 a2, .int .u64 a3, .int .u64 a4, .int .u64 a5]) (.int .i64 5)).run Try.prog w = .ok (.int .u64 a5) w := fun _ => by kernel_rfl
  go_enter Try.func22, Try.ntmps22
  go_wp2_with (go_at_call 28; refine (split_any _ _ (by assumption)).mono ?_; rintro e w' ⟨rfl, rfl⟩)
  go_loopw [23] (fun i wr => ∃ (k : Nat) (j : Int), k ≤ 6 ∧ j = k ∧ i = .int .i64 j ∧ wr = ((w.alloc (.cells (Rec.cells ⟨nr, arch, ip, a0, a1, a2, a3, a4, a5⟩) 26)).alloc (.cells z16 43)).alloc (.cells (mixC nr arch ip a0 a1 a2 a3 a4 a5 k) 43)) (fun i _ => 6 - (intOf i).toNat)
  case atStart => exact ⟨0, 0, by omega, rfl, rfl, rfl⟩
  case round =>
    obtain ⟨k, j, hk, hj, rfl, rfl⟩ := hrel
    obtain ⟨rfl, rfl⟩ | ⟨rfl, rfl⟩ | ⟨rfl, rfl⟩ | ⟨rfl, rfl⟩ | ⟨rfl, rfl⟩ | ⟨rfl, rfl⟩ | ⟨rfl, rfl⟩ : (k = 0 ∧ j = 0) ∨ (k = 1 ∧ j = 1) ∨ (k = 2 ∧ j = 2) ∨ (k = 3 ∧ j = 3) ∨ (k = 4 ∧ j = 4) ∨ (k = 5 ∧ j = 5) ∨ (k = 6 ∧ j = 6) := by omega
    case inr.inr.inr.inr.inr.inr =>
      clear hj i0 i1 i2 i3 i4 i5
      simp only [mixC, z16]
      go_wp2_with fail
      (try simp only [Exit.inBlock, Exit.then])
      refine bodyPost_ret (v := .agg (mixC nr arch ip a0 a1 a2 a3 a4 a5 6)) ?_ rfl ⟨by rw [HM.out], ?_⟩
      · simp only [mixC]
        simp [results, Try.results22, go_sem]
      · repeat (first | exact Below.refl _ _ | apply ba)
    all_goals
      clear hj
      simp only [mixC, z16]
      go_wp2_with (go_at_call 28; refine (split_any _ _ (by assumption)).mono ?_; rintro e w' ⟨rfl, rfl⟩)
      go_roundw
      case rel => first | exact ⟨1, 1, by omega, rfl, rfl, rfl⟩ | exact ⟨2, 2, by omega, rfl, rfl, rfl⟩ | exact ⟨3, 3, by omega, rfl, rfl, rfl⟩ | exact ⟨4, 4, by omega, rfl, rfl, rfl⟩ | exact ⟨5, 5, by omega, rfl, rfl, rfl⟩ | exact ⟨6, 6, by omega, rfl, rfl, rfl⟩
      case measure => decide
end Go.Proofs.Ytlklgifpdneolaa
