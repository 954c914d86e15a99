/-
  An argument that is a record: what the row's reading of it gives.
-/
import Derived.Test.YtlhpdjafhjfcoaaDoorBytesArg
import Derived.Test.YtlhpdjafhjfcoaaDoorDWord
namespace Go.Proofs.YtlhpdjafhjfcoaaDoor
open Go.ChangeShapes Go.WideShapes Go.ChangeAt Go.RowKit Go.Deep
set_option maxRecDepth 100000

theorem cellsD : Tryd.prog.cellsOf 28 = 9 := by kernel_rfl
theorem cells6 : Tryd.prog.cellsOf 26 = 6 := by kernel_rfl
theorem cellsU64 : Tryd.prog.cellsOf 22 = 1 := by kernel_rfl
theorem nat_of {m : Int} {N : Nat} (h : 0 ≤ m ∧ m ≤ (N : Int)) : ∃ n : Nat, m = n ∧ n < N + 1 := ⟨m.toNat, by omega, by omega⟩
theorem list9 {α : Type} {l : List α} (h : l.length = 9) : ∃ x0 x1 x2 x3 x4 x5 x6 x7 x8, l = [x0, x1, x2, x3, x4, x5, x6, x7, x8] := by
  match l, h with
  | [x0, x1, x2, x3, x4, x5, x6, x7, x8], _ => exact ⟨x0, x1, x2, x3, x4, x5, x6, x7, x8, rfl⟩
section
variable {H : Type} {enc : TypeId × Value → H} {W : World} {base : Nat} {v : Value} {d : DataW H} {p : List MemPlace}
theorem one_u32 {n : Nat} {c : Value} {y : DataW H × List MemPlace} (h : DataW.trod enc Tryd.prog W 0 (fun _ => true) true n 25 [c] = some y) : ∃ k : Nat, c = .int .u32 k ∧ k < 4294967296 := by
  obtain ⟨z, e, _, w⟩ := DataW.trod_int Tryd.underlying25 h
  simp only [List.cons.injEq, and_true] at e
  have b := bounds_u32 w
  refine ⟨z.toNat, ?_, by omega⟩
  rw [e]
  congr 1
  omega
theorem one_u64 {n : Nat} {c : Value} {y : DataW H × List MemPlace} (h : DataW.trod enc Tryd.prog W 0 (fun _ => true) true n 22 [c] = some y) : ∃ k : Nat, c = .int .u64 k ∧ k < 18446744073709551616 := by
  obtain ⟨z, e, _, w⟩ := DataW.trod_int Tryd.underlying22 h
  simp only [List.cons.injEq, and_true] at e
  have b := bounds_u64 w
  refine ⟨z.toNat, ?_, by omega⟩
  rw [e]
  congr 1
  omega
theorem open_data (hval : Value.okWide Tryd.prog W .any base 28 v) (h : DataW.Trod enc Tryd.prog W 0 (fun _ => true) true 28 v d p) : ∃ D : Rec, v = D.val ∧ D.ok := by
  obtain ⟨cs, rfl, hsz⟩ := okWide_struct Tryd.underlying28 hval
  rw [cellsD] at hsz
  obtain ⟨c0, c1, c2, c3, c4, c5, c6, c7, c8, hc⟩ := list9 (l := cs.toList) (by simpa using hsz)
  obtain rfl : cs = #[c0, c1, c2, c3, c4, c5, c6, c7, c8] := by rw [← hc]
  obtain ⟨fuel, hf⟩ := h
  obtain ⟨ys, n, _, _, _, hyl, hff⟩ := DataW.trod_struct Tryd.underlying28 hf
  have hy4 : ys.length = 4 := hyl
  match ys, hy4 with
  | [y0, y1, y2, y3], _ =>
    have h0 : DataW.trod enc Tryd.prog W 0 (fun _ => true) true n 25 [c0] = some y0 := hff 0 _ rfl
    have h1 : DataW.trod enc Tryd.prog W 0 (fun _ => true) true n 25 [c1] = some y1 := hff 1 _ rfl
    have h2 : DataW.trod enc Tryd.prog W 0 (fun _ => true) true n 22 [c2] = some y2 := hff 2 _ rfl
    have h3 : DataW.trod enc Tryd.prog W 0 (fun _ => true) true n 26 [c3, c4, c5, c6, c7, c8] = some y3 := hff 3 _ rfl
    obtain ⟨xs, m, _, _, _, hxl, hxx⟩ := DataW.trod_array Tryd.underlying26 h3
    rw [cellsU64] at hxx
    match xs, hxl with
    | [x0, x1, x2, x3, x4, x5], _ =>
      have g0 : DataW.trod enc Tryd.prog W 0 (fun _ => true) true m 22 [c3] = some x0 := hxx 0 (by omega)
      have g1 : DataW.trod enc Tryd.prog W 0 (fun _ => true) true m 22 [c4] = some x1 := hxx 1 (by omega)
      have g2 : DataW.trod enc Tryd.prog W 0 (fun _ => true) true m 22 [c5] = some x2 := hxx 2 (by omega)
      have g3 : DataW.trod enc Tryd.prog W 0 (fun _ => true) true m 22 [c6] = some x3 := hxx 3 (by omega)
      have g4 : DataW.trod enc Tryd.prog W 0 (fun _ => true) true m 22 [c7] = some x4 := hxx 4 (by omega)
      have g5 : DataW.trod enc Tryd.prog W 0 (fun _ => true) true m 22 [c8] = some x5 := hxx 5 (by omega)
      obtain ⟨k0, rfl, b0⟩ := one_u32 h0
      obtain ⟨k1, rfl, b1⟩ := one_u32 h1
      obtain ⟨k2, rfl, b2⟩ := one_u64 h2
      obtain ⟨k3, rfl, b3⟩ := one_u64 g0
      obtain ⟨k4, rfl, b4⟩ := one_u64 g1
      obtain ⟨k5, rfl, b5⟩ := one_u64 g2
      obtain ⟨k6, rfl, b6⟩ := one_u64 g3
      obtain ⟨k7, rfl, b7⟩ := one_u64 g4
      obtain ⟨k8, rfl, b8⟩ := one_u64 g5
      exact ⟨⟨k0, k1, k2, k3, k4, k5, k6, k7, k8⟩, rfl, b0, b1, b2, b3, b4, b5, b6, b7, b8⟩
end
/-- The nine cells of a record's block. -/
theorem rec_cells {w : World} {g : Nat} {d : Rec} {t : TypeId} {fr : Nat × Nat} (h : w.heap[g]? = some (.cells d.cells t fr)) : w.cell? ⟨g, 0, none⟩ = some (.int .u32 d.nr) ∧ w.cell? ⟨g, 1, none⟩ = some (.int .u32 d.arch) ∧ w.cell? ⟨g, 2, none⟩ = some (.int .u64 d.ip) ∧ w.cell? ⟨g, 3, none⟩ = some (.int .u64 d.a0) ∧ w.cell? ⟨g, 4, none⟩ = some (.int .u64 d.a1) ∧ w.cell? ⟨g, 5, none⟩ = some (.int .u64 d.a2) ∧ w.cell? ⟨g, 6, none⟩ = some (.int .u64 d.a3) ∧ w.cell? ⟨g, 7, none⟩ = some (.int .u64 d.a4) ∧ w.cell? ⟨g, 8, none⟩ = some (.int .u64 d.a5) :=
  ⟨cell_in h 0, cell_in h 1, cell_in h 2, cell_in h 3, cell_in h 4, cell_in h 5, cell_in h 6, cell_in h 7, cell_in h 8⟩
theorem keep_block {w w' : World} {g : Nat} {o : Obj} (hb : Below w.heap.size w w') (h : w.heap[g]? = some o) : w'.heap[g]? = some o := (hb.block _ (lt_of_block h)).trans h
end Go.Proofs.YtlhpdjafhjfcoaaDoor
