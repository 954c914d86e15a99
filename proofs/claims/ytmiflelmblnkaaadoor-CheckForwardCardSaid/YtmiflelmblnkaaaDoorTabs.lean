/-
  The listed tables: what the rows list of package-level variables, what that says of the world, and a world for the witness.
-/
import Derived.Test.YtmiflelmblnkaaaDoorStay
import Derived.Test.YtmiflelmblnkaaaDoorITexts
namespace Go.Proofs.YtmiflelmblnkaaaDoor
open Go.ChangeShapes Go.WideShapes Go.ChangeAt Go.RowKit
set_option maxRecDepth 100000

theorem gTab : Tryd.prog.globalNamed "math/bits.deBruijn64tab" = some 4 := by kernel_rfl
theorem gTabType : (Tryd.prog.globals[4]?).map (·.type) = some 118 := by kernel_rfl
theorem cells64 : Tryd.prog.cellsOf 118 = 64 := by kernel_rfl
theorem cells8 : Tryd.prog.cellsOf 5 = 1 := by kernel_rfl
theorem gOps : Tryd.prog.globalNamed "hurdle/ins.operations" = some 0 := by kernel_rfl
theorem gOpsType : (Tryd.prog.globals[0]?).map (·.type) = some 90 := by kernel_rfl
theorem cellsOps : Tryd.prog.cellsOf 90 = 117 := by kernel_rfl
theorem cellsOp : Tryd.prog.cellsOf 76 = 3 := by kernel_rfl
theorem cellsI : Tryd.prog.cellsOf 3 = 1 := by kernel_rfl
theorem cellsS : Tryd.prog.cellsOf 9 = 1 := by kernel_rfl

/-- What the rows list of package-level variables. -/
def lays : List (String × DataW Unit) := [("math/bits.deBruijn32tab", Rows.laid_math_bits_deBruijn32tab), ("math/bits.deBruijn64tab", Rows.laid_math_bits_deBruijn64tab), ("internal/strconv.uint64pow10", Rows.laid_internal_strconv_uint64pow10), ("hurdle/ins.operations", Rows.laid_hurdle_ins_operations)]

theorem tabOf : (Rows.laid_math_bits_deBruijn64tab : DataW Unit) = Lib.tabData .u8 (numsOf Rows.laid_math_bits_deBruijn64tab) := rfl
theorem tab_of {W : World} (h : laidMetH Tryd.prog lays W) : Tab W := by
  have h1 : laidMet Tryd.prog lays W := h
  have h2 := laidMet.tail h1
  rw [tabOf] at h2
  have ht := Lib.tabIs_of_head gTab gTabType Tryd.underlying118 Tryd.underlying5 cells8 cells64 h2
  have hc : W.cell? ⟨4, 15, none⟩ = some (.int .u8 4) := ht.cell gTab 15 (by decide)
  refine ⟨hc, ?_⟩
  apply Nat.lt_of_not_le
  intro hle
  have e : W.heap[4]? = none := by simp; exact hle
  simp [World.cell?, e] at hc

/-- A row of the table as a datum. -/
def rowD (r : Ip.Row) : DataW Unit := .agg [.lit (.int .i64 r.op), .lit (.string r.word), .lit (.int .i64 r.fmt)]
def rowC (r : Ip.Row) : List Value := [.int .i64 r.op, .string r.str, .int .i64 r.fmt]
theorem opsOf : (Rows.laid_hurdle_ins_operations : DataW Unit) = .agg (Ip.rows.map rowD) := rfl
theorem cellsFlat : (List.range 39).flatMap (fun i => rowC (Ip.rowAt i)) = Ip.cellsL := by kernel_rfl
/-- The three cells of a row, by how they read. -/
theorem row_cells {W : World} {fuel : Nat} {cs : List Value} {r : Ip.Row} {p : List MemPlace} (h : DataW.trod (fun _ => ()) Tryd.prog W 0 (fun _ => true) false fuel 76 cs = some (rowD r, p)) : cs = rowC r := by
  obtain ⟨xs, n, _, hx, hl, hxl, hf⟩ := DataW.trod_struct Tryd.underlying76 h
  have hd : xs.map (·.1) = [.lit (.int .i64 r.op), .lit (.string r.word), .lit (.int .i64 r.fmt)] := by
    have h1 := congrArg Prod.fst hx
    simp only [rowD, DataW.agg.injEq] at h1
    exact h1.symm
  rw [cellsOp] at hl
  match xs, hd, cs, hl with
  | [x0, x1, x2], hd, [a, b, c], _ =>
    simp only [List.map_cons, List.map_nil, List.cons.injEq, and_true] at hd
    have h0 : DataW.trod (fun _ => ()) Tryd.prog W 0 (fun _ => true) false n 3 [a] = some x0 := hf 0 _ rfl
    have h1 : DataW.trod (fun _ => ()) Tryd.prog W 0 (fun _ => true) false n 9 [b] = some x1 := hf 1 _ rfl
    have h2 : DataW.trod (fun _ => ()) Tryd.prog W 0 (fun _ => true) false n 3 [c] = some x2 := hf 2 _ rfl
    obtain ⟨z0, e0, g0, _⟩ := DataW.trod_int Tryd.underlying3 h0
    obtain ⟨s1, e1, g1, _⟩ := DataW.trod_string Tryd.underlying9 h1
    obtain ⟨z2, e2, g2, _⟩ := DataW.trod_int Tryd.underlying3 h2
    subst g0 g1 g2
    simp only [DataW.lit.injEq, Lit.int.injEq, Lit.string.injEq, true_and, List.cons.injEq, and_true] at hd e0 e1 e2
    obtain ⟨d0, d1, d2⟩ := hd
    have hs : s1 = r.str := by
      apply ByteArray.ext
      apply Array.ext'
      rw [d1]
      rfl
    rw [rowC, e0, e1, e2, d0, d2, hs]
/-- A row that lists the table of the operations alone. -/
def lays1 : List (String × DataW Unit) := [("hurdle/ins.operations", Rows.laid_hurdle_ins_operations)]
theorem otab1_of {W : World} (h : laidMetH Tryd.prog lays1 W) : OTab W := by
  have h2 : laidMet Tryd.prog lays1 W := h
  unfold lays1 at h2
  rw [opsOf] at h2
  obtain ⟨cs, ty, fr, fuel, p, hh, hd⟩ := laid_head gOps gOpsType h2
  obtain ⟨xs, m, _, hx, hl, hxl, hf⟩ := DataW.trod_array Tryd.underlying90 hd
  have hm : xs.map (·.1) = Ip.rows.map rowD := by
    have h3 := congrArg Prod.fst hx
    simp only [DataW.agg.injEq] at h3
    exact h3.symm
  rw [cellsOps] at hl
  have hc : cs.toList = Ip.cellsL := by
    rw [← cellsFlat]
    refine chunks 3 39 _ _ hl (fun i hi => ?_)
    have h4 := hf i hi
    rw [cellsOp] at h4
    have h5 : xs[i]? = some (rowD (Ip.rowAt i), (xs[i]'(by omega)).2) := by
      have h6 := congrArg (·[i]?) hm
      simp only [List.getElem?_map] at h6
      rw [List.getElem?_eq_getElem (by omega)] at h6 ⊢
      rw [List.getElem?_eq_getElem (by rw [Ip.rows_len]; exact hi)] at h6
      simp only [Option.map_some, Option.some.injEq] at h6
      rw [show Ip.rowAt i = Ip.rows[i]'(by rw [Ip.rows_len]; exact hi) by unfold Ip.rowAt List.getD; rw [List.getElem?_eq_getElem (by rw [Ip.rows_len]; exact hi)]; rfl, ← h6]
    rw [h5] at h4
    exact row_cells h4
  refine ⟨ty, fr, ?_⟩
  rw [hh, show cs = Ip.cells by apply Array.ext'; exact hc]

theorem otab_of {W : World} (h : laidMetH Tryd.prog lays W) : OTab W := by
  have h1 : laidMet Tryd.prog lays W := h
  exact otab1_of (show laidMet Tryd.prog lays1 W from laidMet.tail (laidMet.tail (laidMet.tail h1)))

/-- A world for the witness: the settled one, its tables as their initialisers lay them. -/
noncomputable def laidWorld (os : Os) : World :=
  { World.holding Tryd.prog os ⟨#[], #[], []⟩ with heap := ((((World.holding Tryd.prog os ⟨#[], #[], []⟩).heap.modify 3 (laidBlock (cellsOfD .u8 Rows.laid_math_bits_deBruijn32tab))).modify 4 (laidBlock (cellsOfD .u8 Rows.laid_math_bits_deBruijn64tab))).modify 2 (laidBlock (cellsOfD .u64 Rows.laid_internal_strconv_uint64pow10))).modify 0 (laidBlock Ip.cells) }
end Go.Proofs.YtmiflelmblnkaaaDoor
