/-
  What ins.byOp and ins.byWord answer, in every world that has the table of the operations.
-/
import Derived.Test.YtmiflelmblnkaaaDoorIFit
import Derived.Laws.Rows
import Derived.Laws.ResultCell
import Derived.Handy
namespace Go.Proofs.YtmiflelmblnkaaaDoor
open Go.ChangeShapes Go.WideShapes Go.ChangeAt Go.RowKit
set_option maxRecDepth 20000

/-- The world has the table of the operations. -/
def OTab (w : World) : Prop := ∃ t fr, w.heap[0]? = some (.cells Ip.cells t fr)
theorem OTab.lt {w : World} (h : OTab w) : 0 < w.heap.size := by
  obtain ⟨t, fr, h⟩ := h
  apply Nat.lt_of_not_le
  intro hle
  have e : w.heap[0]? = none := Array.getElem?_eq_none hle
  rw [e] at h
  cases h
theorem OTab.below {w w' : World} (h : OTab w) (hb : Below w.heap.size w w') : OTab w' := by
  have hl := h.lt
  obtain ⟨t, fr, h⟩ := h
  exact ⟨t, fr, (hb.block _ hl).trans h⟩
theorem OTab.alloc {w : World} (h : OTab w) (o : Obj) : OTab (w.alloc o) := h.below (ba o (Below.refl _ _))

theorem row_at (i : Nat) (hi : i < 39) (W : World) : (Instr.index 90 (.agg Ip.cells) (.int .i64 i)).run Tryd.prog W = .ok (Ip.rowAt i).val W := by
  rcases i with _ | _ | _ | _ | _ | _ | _ | _ | _ | _ | _ | _ | _ | _ | _ | _ | _ | _ | _ | _ | _ | _ | _ | _ | _ | _ | _ | _ | _ | _ | _ | _ | _ | _ | _ | _ | _ | _ | _ | i
  all_goals first | omega | kernel_rfl
theorem size_cells : (Tryd.prog.info? 90).map (·.size) = some Ip.cells.size := by kernel_rfl

set_option maxHeartbeats 1000000 in
theorem byOp_any (k : Int) (w : World) (ht : OTab w) :
    Calls Tryd.prog 46 #[.int .i64 k] w fun e w' => ∃ (r : Ip.Row) (b : Bool), e = .returned (.tuple #[.agg #[.int .i64 r.op, .string r.str, .int .i64 r.fmt], .bool b]) ∧ r = (Ip.byOp k).getD Ip.zeroRow ∧ b = (Ip.byOp k).isSome ∧ Below w.heap.size w w' := by
  have hb0 := ba (Obj.cells #[.int .i64 0, .string ⟨#[]⟩, .int .i64 0] 76) (Below.refl w.heap.size w)
  obtain ⟨t, fr, hg⟩ := ht.alloc (Obj.cells #[.int .i64 0, .string ⟨#[]⟩, .int .i64 0] 76)
  go_enter Tryd.func46, Tryd.ntmps46
  go_wp2_with (refine wpList_load_row rfl 90 _ rfl 0 rfl t _ fr _ hg Tryd.underlying90 rfl size_cells ?_)
  clear hg
  go_loopw [7] (fun i w' => ∃ n : Nat, n ≤ 39 ∧ i = .int .i64 n ∧ (∀ j, j < n → ((Ip.rowAt j).op == k) = false) ∧ Below w.heap.size w w' ∧ w'.heap[w.heap.size]? = some (.cells #[.int .i64 0, .string ⟨#[]⟩, .int .i64 0] 76 (0, 0))) (fun i _ => 39 - (intOf i).toNat)
  case atStart => exact ⟨0, by omega, rfl, fun j hj => by omega, hb0, heap_alloc_new _ _⟩
  case round =>
    obtain ⟨n, hn, rfl, hno, hB, hH⟩ := hrel
    have NO := Lib.hid hno
    have HB := Lib.hid hB
    have HH := Lib.hid hH
    have hsz := lt_of_block hH
    have c0 : wr.cell? ⟨w.heap.size, 0, none⟩ = some (.int .i64 0) := cell_in hH 0
    have c1 : wr.cell? ⟨w.heap.size, 1, none⟩ = some (.string ⟨#[]⟩) := cell_in hH 1
    have c2 : wr.cell? ⟨w.heap.size, 2, none⟩ = some (.int .i64 0) := cell_in hH 2
    have f0 := free_in hH 0
    have f1 := free_in hH 1
    have f2 := free_in hH 2
    clear hno hB hH hb0
    by_cases hlt : n < 39
    · have hix : ∀ W, (Instr.index 90 (.agg Ip.cells) (.int .i64 n)).run Tryd.prog W = .ok (.agg #[.int .i64 (Ip.rowAt n).op, .string (Ip.rowAt n).str, .int .i64 (Ip.rowAt n).fmt]) W := row_at n hlt
      cases hop : ((Ip.rowAt n).op == k)
      · clear c0 c1 c2 f0 f1 f2
        go_wp2
        refine ⟨⟨n + 1, by omega, by go_num, fun j hj => ?_, ba _ HB.out, (Below.heap_alloc _ _ _ hsz).trans HH.out⟩, by simp [intOf]; omega⟩
        by_cases hj' : j < n
        · exact NO.out j hj'
        · obtain rfl : j = n := by omega
          exact hop
      · go_wp2
        (try simp only [Exit.inBlock, Exit.then])
        refine bodyPost_ret (v := .tuple #[.agg #[.int .i64 (Ip.rowAt n).op, .string (Ip.rowAt n).str, .int .i64 (Ip.rowAt n).fmt], .bool true]) ?_ rfl ⟨Ip.rowAt n, true, rfl, ?_, ?_, ?_⟩
        · rw [results_cell_tmp rfl]
          go_simp
        · rw [show Ip.byOp k = some (Ip.rowAt n) from Ip.find_some hlt hop NO.out]
          rfl
        · rw [show Ip.byOp k = some (Ip.rowAt n) from Ip.find_some hlt hop NO.out]
          rfl
        · have hB := HB.out
          go_grown
    · go_wp2
      (try simp only [Exit.inBlock, Exit.then])
      refine bodyPost_ret (v := .tuple #[.agg #[.int .i64 0, .string ⟨#[]⟩, .int .i64 0], .bool false]) ?_ rfl ⟨Ip.zeroRow, false, rfl, ?_, ?_, ?_⟩
      · rw [results_cell_tmp rfl]
        go_simp
      · rw [show Ip.byOp k = none from Ip.find_none (fun j hj => NO.out j (by omega))]
        rfl
      · rw [show Ip.byOp k = none from Ip.find_none (fun j hj => NO.out j (by omega))]
        rfl
      · have hB := HB.out
        go_grown

theorem str_eq (r : Ip.Row) (s : ByteArray) : (r.str.toList == s.toList) = (r.word == s.data.toList) := by
  rw [Go.ByteArray.toList_eq, Go.ByteArray.toList_eq]
  rfl
theorem byWord_some {s : ByteArray} {i : Nat} (hi : i < 39) (h : ((Ip.rowAt i).str.toList == s.toList) = true) (ha : ∀ j, j < i → ((Ip.rowAt j).str.toList == s.toList) = false) : Ip.byWord s = some (Ip.rowAt i) :=
  Ip.find_some hi (by rw [← str_eq]; exact h) (fun j hj => by rw [← str_eq]; exact ha j hj)
theorem byWord_none {s : ByteArray} (ha : ∀ j, j < 39 → ((Ip.rowAt j).str.toList == s.toList) = false) : Ip.byWord s = none :=
  Ip.find_none (fun j hj => by rw [← str_eq]; exact ha j hj)

set_option maxHeartbeats 1000000 in
theorem byWord_any (s : ByteArray) (w : World) (ht : OTab w) :
    Calls Tryd.prog 57 #[.string s] w fun e w' => ∃ (r : Ip.Row) (b : Bool), e = .returned (.tuple #[.agg #[.int .i64 r.op, .string r.str, .int .i64 r.fmt], .bool b]) ∧ r = (Ip.byWord s).getD Ip.zeroRow ∧ b = (Ip.byWord s).isSome ∧ Below w.heap.size w w' := by
  have hb0 := ba (Obj.cells #[.int .i64 0, .string ⟨#[]⟩, .int .i64 0] 76) (Below.refl w.heap.size w)
  obtain ⟨t, fr, hg⟩ := ht.alloc (Obj.cells #[.int .i64 0, .string ⟨#[]⟩, .int .i64 0] 76)
  go_enter Tryd.func57, Tryd.ntmps57
  go_wp2_with (refine wpList_load_row rfl 90 _ rfl 0 rfl t _ fr _ hg Tryd.underlying90 rfl size_cells ?_)
  clear hg
  go_loopw [7] (fun i w' => ∃ n : Nat, n ≤ 39 ∧ i = .int .i64 n ∧ (∀ j, j < n → ((Ip.rowAt j).str.toList == s.toList) = false) ∧ Below w.heap.size w w' ∧ w'.heap[w.heap.size]? = some (.cells #[.int .i64 0, .string ⟨#[]⟩, .int .i64 0] 76 (0, 0))) (fun i _ => 39 - (intOf i).toNat)
  case atStart => exact ⟨0, by omega, rfl, fun j hj => by omega, hb0, heap_alloc_new _ _⟩
  case round =>
    obtain ⟨n, hn, rfl, hno, hB, hH⟩ := hrel
    have NO := Lib.hid hno
    have HB := Lib.hid hB
    have HH := Lib.hid hH
    have hsz := lt_of_block hH
    have c0 : wr.cell? ⟨w.heap.size, 0, none⟩ = some (.int .i64 0) := cell_in hH 0
    have c1 : wr.cell? ⟨w.heap.size, 1, none⟩ = some (.string ⟨#[]⟩) := cell_in hH 1
    have c2 : wr.cell? ⟨w.heap.size, 2, none⟩ = some (.int .i64 0) := cell_in hH 2
    have f0 := free_in hH 0
    have f1 := free_in hH 1
    have f2 := free_in hH 2
    clear hno hB hH hb0
    by_cases hlt : n < 39
    · have hix : ∀ W, (Instr.index 90 (.agg Ip.cells) (.int .i64 n)).run Tryd.prog W = .ok (.agg #[.int .i64 (Ip.rowAt n).op, .string (Ip.rowAt n).str, .int .i64 (Ip.rowAt n).fmt]) W := row_at n hlt
      cases hop : ((Ip.rowAt n).str.toList == s.toList)
      · clear c0 c1 c2 f0 f1 f2
        go_wp2
        refine ⟨⟨n + 1, by omega, by go_num, fun j hj => ?_, ba _ HB.out, (Below.heap_alloc _ _ _ hsz).trans HH.out⟩, by simp [intOf]; omega⟩
        by_cases hj' : j < n
        · exact NO.out j hj'
        · obtain rfl : j = n := by omega
          exact hop
      · go_wp2
        (try simp only [Exit.inBlock, Exit.then])
        refine bodyPost_ret (v := .tuple #[.agg #[.int .i64 (Ip.rowAt n).op, .string (Ip.rowAt n).str, .int .i64 (Ip.rowAt n).fmt], .bool true]) ?_ rfl ⟨Ip.rowAt n, true, rfl, ?_, ?_, ?_⟩
        · rw [results_cell_tmp rfl]
          go_simp
        · rw [show Ip.byWord s = some (Ip.rowAt n) from byWord_some hlt hop NO.out]
          rfl
        · rw [show Ip.byWord s = some (Ip.rowAt n) from byWord_some hlt hop NO.out]
          rfl
        · have hB := HB.out
          go_grown
    · go_wp2
      (try simp only [Exit.inBlock, Exit.then])
      refine bodyPost_ret (v := .tuple #[.agg #[.int .i64 0, .string ⟨#[]⟩, .int .i64 0], .bool false]) ?_ rfl ⟨Ip.zeroRow, false, rfl, ?_, ?_, ?_⟩
      · rw [results_cell_tmp rfl]
        go_simp
      · rw [show Ip.byWord s = none from byWord_none (fun j hj => NO.out j (by omega))]
        rfl
      · rw [show Ip.byWord s = none from byWord_none (fun j hj => NO.out j (by omega))]
        rfl
      · have hB := HB.out
        go_grown
end Go.Proofs.YtmiflelmblnkaaaDoor
