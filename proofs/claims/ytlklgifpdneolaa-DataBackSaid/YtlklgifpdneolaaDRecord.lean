/-
  What data.record answers: the record of sixteen words.
-/
import Derived.Test.YtlklgifpdneolaaDWords
import Derived.Deep.RegionHeld3
import Derived.BigRegion
namespace Go.Proofs.Ytlklgifpdneolaa
open Go.ChangeShapes Go.WideShapes Go.ChangeAt Go.RowKit
set_option maxRecDepth 20000

/-- The record that is there behind k arguments. -/
def mixR (x0 x1 x2 x3 x4 x5 x6 x7 x8 x9 x10 x11 x12 x13 x14 x15 : Nat) : Nat → Array Value
  | 0 => #[.int .u32 x0, .int .u32 x1, .int .u64 (x2 + x3 * 4294967296 : Nat), .int .u64 0, .int .u64 0, .int .u64 0, .int .u64 0, .int .u64 0, .int .u64 0]
  | 1 => #[.int .u32 x0, .int .u32 x1, .int .u64 (x2 + x3 * 4294967296 : Nat), .int .u64 (x4 + x5 * 4294967296 : Nat), .int .u64 0, .int .u64 0, .int .u64 0, .int .u64 0, .int .u64 0]
  | 2 => #[.int .u32 x0, .int .u32 x1, .int .u64 (x2 + x3 * 4294967296 : Nat), .int .u64 (x4 + x5 * 4294967296 : Nat), .int .u64 (x6 + x7 * 4294967296 : Nat), .int .u64 0, .int .u64 0, .int .u64 0, .int .u64 0]
  | 3 => #[.int .u32 x0, .int .u32 x1, .int .u64 (x2 + x3 * 4294967296 : Nat), .int .u64 (x4 + x5 * 4294967296 : Nat), .int .u64 (x6 + x7 * 4294967296 : Nat), .int .u64 (x8 + x9 * 4294967296 : Nat), .int .u64 0, .int .u64 0, .int .u64 0]
  | 4 => #[.int .u32 x0, .int .u32 x1, .int .u64 (x2 + x3 * 4294967296 : Nat), .int .u64 (x4 + x5 * 4294967296 : Nat), .int .u64 (x6 + x7 * 4294967296 : Nat), .int .u64 (x8 + x9 * 4294967296 : Nat), .int .u64 (x10 + x11 * 4294967296 : Nat), .int .u64 0, .int .u64 0]
  | 5 => #[.int .u32 x0, .int .u32 x1, .int .u64 (x2 + x3 * 4294967296 : Nat), .int .u64 (x4 + x5 * 4294967296 : Nat), .int .u64 (x6 + x7 * 4294967296 : Nat), .int .u64 (x8 + x9 * 4294967296 : Nat), .int .u64 (x10 + x11 * 4294967296 : Nat), .int .u64 (x12 + x13 * 4294967296 : Nat), .int .u64 0]
  | _ => #[.int .u32 x0, .int .u32 x1, .int .u64 (x2 + x3 * 4294967296 : Nat), .int .u64 (x4 + x5 * 4294967296 : Nat), .int .u64 (x6 + x7 * 4294967296 : Nat), .int .u64 (x8 + x9 * 4294967296 : Nat), .int .u64 (x10 + x11 * 4294967296 : Nat), .int .u64 (x12 + x13 * 4294967296 : Nat), .int .u64 (x14 + x15 * 4294967296 : Nat)]
def z9 : Array Value := #[.int .u32 0, .int .u32 0, .int .u64 0, .int .u64 0, .int .u64 0, .int .u64 0, .int .u64 0, .int .u64 0, .int .u64 0]
theorem mixR_all (x0 x1 x2 x3 x4 x5 x6 x7 x8 x9 x10 x11 x12 x13 x14 x15 : Nat) : mixR x0 x1 x2 x3 x4 x5 x6 x7 x8 x9 x10 x11 x12 x13 x14 x15 6 = (ofWords [x0, x1, x2, x3, x4, x5, x6, x7, x8, x9, x10, x11, x12, x13, x14, x15]).cells := rfl

theorem box_cell (w : World) (n : Nat) (cs : Array Value) (t : TypeId) (o1 o2 : Obj) (i : Nat) (v : Value) (h : cs[i]? = some v) : ((((w.drewN n).alloc (.cells cs t)).alloc o1).alloc o2).drew.cell? ⟨w.heap.size, i, none⟩ = some v := by
  have hw : ((w.drewN n).alloc (.cells cs t)).heap[w.heap.size]? = some (.cells cs t) := heap_alloc_new _ _
  have h1 : (((w.drewN n).alloc (.cells cs t)).alloc o1).heap[w.heap.size]? = some (.cells cs t) := (Below.heap_alloc _ _ _ (lt_of_block hw)).trans hw
  have h2 : ((((w.drewN n).alloc (.cells cs t)).alloc o1).alloc o2).drew.heap[w.heap.size]? = some (.cells cs t) := (Below.heap_alloc _ _ _ (lt_of_block h1)).trans h1
  rw [cell_in h2, h]

set_option maxHeartbeats 4000000 in
theorem record_x (x0 x1 x2 x3 x4 x5 x6 x7 x8 x9 x10 x11 x12 x13 x14 x15 : Nat) (w : World) (_ : x0 < 4294967296) (_ : x1 < 4294967296) (h2 : x2 < 4294967296) (h3 : x3 < 4294967296) (h4 : x4 < 4294967296) (h5 : x5 < 4294967296) (h6 : x6 < 4294967296) (h7 : x7 < 4294967296) (h8 : x8 < 4294967296) (h9 : x9 < 4294967296) (h10 : x10 < 4294967296) (h11 : x11 < 4294967296) (h12 : x12 < 4294967296) (h13 : x13 < 4294967296) (h14 : x14 < 4294967296) (h15 : x15 < 4294967296) :
    Calls Try.prog 20 #[wsV [x0, x1, x2, x3, x4, x5, x6, x7, x8, x9, x10, x11, x12, x13, x14, x15]] w fun e w' => e = .returned (ofWords [x0, x1, x2, x3, x4, x5, x6, x7, x8, x9, x10, x11, x12, x13, x14, x15]).val ∧ Below w.heap.size w w' := by
  have HM := Lib.hid (mixR_all x0 x1 x2 x3 x4 x5 x6 x7 x8 x9 x10 x11 x12 x13 x14 x15)
  go_enter Try.func20, Try.ntmps20
  go_wp2_with fail
  go_region_held3 (fun w' => w'.cell? ⟨w.heap.size, 0, none⟩ = some (.int .u32 x0) ∧ w'.cell? ⟨w.heap.size, 1, none⟩ = some (.int .u32 x1) ∧ w'.cell? ⟨w.heap.size, 2, none⟩ = some (.int .u32 x2) ∧ w'.cell? ⟨w.heap.size, 3, none⟩ = some (.int .u32 x3)) (first | go_keep | simp)
    (first | (go_at_call 27; refine (join_any x2 x3 _ h2 h3).mono ?_; rintro e w' ⟨rfl, rfl⟩))
  all_goals (rename_i hh; clear hh)
  rotate_left
  refine ?rest
  rotate_left
  exact ?rest
  go_wp2_with fail
  go_loopw [16] (fun i wr => ∃ (k : Nat) (j : Int) (n : Nat), k ≤ 6 ∧ j = k ∧ i = .int .i64 j ∧ wr = (((w.drewN n).alloc (.cells (wcells [x0, x1, x2, x3, x4, x5, x6, x7, x8, x9, x10, x11, x12, x13, x14, x15]).toArray 43)).alloc (.cells z9 26)).alloc (.cells (mixR x0 x1 x2 x3 x4 x5 x6 x7 x8 x9 x10 x11 x12 x13 x14 x15 k) 26)) (fun i _ => 6 - (intOf i).toNat)
  case atStart => exact ⟨0, 0, 1, by omega, rfl, rfl, rfl⟩
  case round =>
    obtain ⟨k, j, n, hk, hj, rfl, rfl⟩ := hrel
    obtain ⟨rfl, rfl⟩ | ⟨rfl, rfl⟩ | ⟨rfl, rfl⟩ | ⟨rfl, rfl⟩ | ⟨rfl, rfl⟩ | ⟨rfl, rfl⟩ | ⟨rfl, rfl⟩ : (k = 0 ∧ j = 0) ∨ (k = 1 ∧ j = 1) ∨ (k = 2 ∧ j = 2) ∨ (k = 3 ∧ j = 3) ∨ (k = 4 ∧ j = 4) ∨ (k = 5 ∧ j = 5) ∨ (k = 6 ∧ j = 6) := by omega
    · clear hj
      simp only [mixR, z9, wcells, List.map_cons, List.map_nil]
      go_wp2_with fail
      have wA : IntKind.i64.wrap (4 + 1) = 5 := rfl
      have wB : IntKind.i64.wrap 5 = 5 := rfl
      go_region_held3 (fun w' => w'.cell? ⟨w.heap.size, 4, none⟩ = some (.int .u32 x4) ∧ w'.cell? ⟨w.heap.size, 5, none⟩ = some (.int .u32 x5)) (first | exact ⟨box_cell w n _ _ _ _ _ _ rfl, box_cell w n _ _ _ _ _ _ rfl⟩ | go_keep)
        (first | (go_at_call 27; refine (join_any x4 x5 _ h4 h5).mono ?_; rintro e w' ⟨rfl, rfl⟩))
      go_wp2_with fail
      go_roundw
      case rel => exact ⟨1, 1, n + 1, by omega, rfl, rfl, rfl⟩
      case measure => decide
    · clear hj
      simp only [mixR, z9, wcells, List.map_cons, List.map_nil]
      go_wp2_with fail
      have wA : IntKind.i64.wrap (6 + 1) = 7 := rfl
      have wB : IntKind.i64.wrap 7 = 7 := rfl
      go_region_held3 (fun w' => w'.cell? ⟨w.heap.size, 6, none⟩ = some (.int .u32 x6) ∧ w'.cell? ⟨w.heap.size, 7, none⟩ = some (.int .u32 x7)) (first | exact ⟨box_cell w n _ _ _ _ _ _ rfl, box_cell w n _ _ _ _ _ _ rfl⟩ | go_keep)
        (first | (go_at_call 27; refine (join_any x6 x7 _ h6 h7).mono ?_; rintro e w' ⟨rfl, rfl⟩))
      go_wp2_with fail
      go_roundw
      case rel => exact ⟨2, 2, n + 1, by omega, rfl, rfl, rfl⟩
      case measure => decide
    · clear hj
      simp only [mixR, z9, wcells, List.map_cons, List.map_nil]
      go_wp2_with fail
      have wA : IntKind.i64.wrap (8 + 1) = 9 := rfl
      have wB : IntKind.i64.wrap 9 = 9 := rfl
      go_region_held3 (fun w' => w'.cell? ⟨w.heap.size, 8, none⟩ = some (.int .u32 x8) ∧ w'.cell? ⟨w.heap.size, 9, none⟩ = some (.int .u32 x9)) (first | exact ⟨box_cell w n _ _ _ _ _ _ rfl, box_cell w n _ _ _ _ _ _ rfl⟩ | go_keep)
        (first | (go_at_call 27; refine (join_any x8 x9 _ h8 h9).mono ?_; rintro e w' ⟨rfl, rfl⟩))
      go_wp2_with fail
      go_roundw
      case rel => exact ⟨3, 3, n + 1, by omega, rfl, rfl, rfl⟩
      case measure => decide
    · clear hj
      simp only [mixR, z9, wcells, List.map_cons, List.map_nil]
      go_wp2_with fail
      have wA : IntKind.i64.wrap (10 + 1) = 11 := rfl
      have wB : IntKind.i64.wrap 11 = 11 := rfl
      go_region_held3 (fun w' => w'.cell? ⟨w.heap.size, 10, none⟩ = some (.int .u32 x10) ∧ w'.cell? ⟨w.heap.size, 11, none⟩ = some (.int .u32 x11)) (first | exact ⟨box_cell w n _ _ _ _ _ _ rfl, box_cell w n _ _ _ _ _ _ rfl⟩ | go_keep)
        (first | (go_at_call 27; refine (join_any x10 x11 _ h10 h11).mono ?_; rintro e w' ⟨rfl, rfl⟩))
      go_wp2_with fail
      go_roundw
      case rel => exact ⟨4, 4, n + 1, by omega, rfl, rfl, rfl⟩
      case measure => decide
    · clear hj
      simp only [mixR, z9, wcells, List.map_cons, List.map_nil]
      go_wp2_with fail
      have wA : IntKind.i64.wrap (12 + 1) = 13 := rfl
      have wB : IntKind.i64.wrap 13 = 13 := rfl
      go_region_held3 (fun w' => w'.cell? ⟨w.heap.size, 12, none⟩ = some (.int .u32 x12) ∧ w'.cell? ⟨w.heap.size, 13, none⟩ = some (.int .u32 x13)) (first | exact ⟨box_cell w n _ _ _ _ _ _ rfl, box_cell w n _ _ _ _ _ _ rfl⟩ | go_keep)
        (first | (go_at_call 27; refine (join_any x12 x13 _ h12 h13).mono ?_; rintro e w' ⟨rfl, rfl⟩))
      go_wp2_with fail
      go_roundw
      case rel => exact ⟨5, 5, n + 1, by omega, rfl, rfl, rfl⟩
      case measure => decide
    · clear hj
      simp only [mixR, z9, wcells, List.map_cons, List.map_nil]
      go_wp2_with fail
      have wA : IntKind.i64.wrap (14 + 1) = 15 := rfl
      have wB : IntKind.i64.wrap 15 = 15 := rfl
      go_region_held3 (fun w' => w'.cell? ⟨w.heap.size, 14, none⟩ = some (.int .u32 x14) ∧ w'.cell? ⟨w.heap.size, 15, none⟩ = some (.int .u32 x15)) (first | exact ⟨box_cell w n _ _ _ _ _ _ rfl, box_cell w n _ _ _ _ _ _ rfl⟩ | go_keep)
        (first | (go_at_call 27; refine (join_any x14 x15 _ h14 h15).mono ?_; rintro e w' ⟨rfl, rfl⟩))
      go_wp2_with fail
      go_roundw
      case rel => exact ⟨6, 6, n + 1, by omega, rfl, rfl, rfl⟩
      case measure => decide
    · clear hj
      simp only [mixR, z9, wcells, List.map_cons, List.map_nil]
      go_wp2_with fail
      (try simp only [Exit.inBlock, Exit.then])
      refine bodyPost_ret (v := .agg (mixR x0 x1 x2 x3 x4 x5 x6 x7 x8 x9 x10 x11 x12 x13 x14 x15 6)) ?_ rfl ⟨by rw [HM.out], ?_⟩
      · simp only [mixR]
        simp [results, Try.results20, go_sem]
      · repeat (first | exact bdN (Below.refl _ _) _ | apply ba)
theorem record_any (l : List Nat) (w : World) (hn : l.length = 16) (hl : ∀ x ∈ l, x < 4294967296) :
    Calls Try.prog 20 #[wsV l] w fun e w' => e = .returned (ofWords l).val ∧ Below w.heap.size w w' := by
  obtain ⟨x0, x1, x2, x3, x4, x5, x6, x7, x8, x9, x10, x11, x12, x13, x14, x15, rfl⟩ := list16 hn
  simp only [List.mem_cons, List.not_mem_nil, or_false, forall_eq_or_imp, forall_eq] at hl
  obtain ⟨h0, h1, h2, h3, h4, h5, h6, h7, h8, h9, h10, h11, h12, h13, h14, h15⟩ := hl
  exact record_x x0 x1 x2 x3 x4 x5 x6 x7 x8 x9 x10 x11 x12 x13 x14 x15 w h0 h1 h2 h3 h4 h5 h6 h7 h8 h9 h10 h11 h12 h13 h14 h15
end Go.Proofs.Ytlklgifpdneolaa
