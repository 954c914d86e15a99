/-
  The rows of examples at the end of each law of package hurdlelaw02: knows() answers true in every world that has the tables. And what Print and Parse answer at one another's texts.
-/
import Derived.Test.YtjniifgacidojaaDoorIParse
import Derived.Test.YtjniifgacidojaaDoorIPrint
namespace Go.Proofs.YtjniifgacidojaaDoor
open Go.ChangeShapes Go.WideShapes Go.ChangeAt Go.RowKit

/-- A text that is an instruction's is read as it. -/
theorem iparse_of {r : Ip.Row} {jt jf k : Nat} (hr : r ∈ Ip.rows) (hf : Ip.Fine r.fmt jt jf k) (s : ByteArray) (hs : s.data.toList = Ip.join (Ip.partsOf r jt jf k)) (hz : s.size ≤ 4611686018427387904) (w : World) (ht : OTab w) :
    Calls Tryd.prog 14 #[.string s] w fun e w' => e = .returned (.tuple #[.agg #[.int .i64 r.op, .int .i64 jt, .int .i64 jf, .int .u32 k], .int .i64 0]) ∧ Below w.heap.size w w' := by
  refine (iparse_any s w hz ht).mono ?_
  rintro e w' ⟨he, hb⟩
  refine ⟨?_, hb⟩
  rcases he with ⟨r', jt', jf', k', hr', hf', hs', rfl⟩ | ⟨h, _⟩
  · obtain ⟨rfl, rfl, rfl, rfl⟩ := Ip.join_inj hr hr' hf hf' (hs.symm.trans hs')
    rfl
  · exact absurd hs (h r jt jf k hr hf)

theorem hex5 : Ip.tx 5 = [48, 120, 53] := by unfold Ip.tx; rw [Wd.hex_lt (by omega)]; rfl
theorem hex1 : Ip.tx 1 = [48, 120, 49] := by unfold Ip.tx; rw [Wd.hex_lt (by omega)]; rfl
theorem hex0 : Ip.tx 0 = [48, 120, 48] := by unfold Ip.tx; rw [Wd.hex_lt (by omega)]; rfl
theorem know_jeq : ([106, 101, 113, 32, 48, 120, 53, 32, 48, 120, 49, 32, 48, 120, 48] : List UInt8) = Ip.join (Ip.partsOf ⟨21, [106, 101, 113], 5⟩ 1 0 5) := by
  show _ = Ip.join [[106, 101, 113], Ip.tx 5, Ip.tx 1, Ip.tx 0]
  rw [hex5, hex1, hex0]
  rfl
theorem know_ret : text 6 0 0 2147418112 = [114, 101, 116, 32, 48, 120, 55, 102, 102, 102, 48, 48, 48, 48] := by
  show [114, 101, 116] ++ ((32 :: 48 :: 120 :: Wd.hex 2147418112) ++ []) = _
  rw [Wd.hex_ge (by omega), Wd.hex_ge (by omega), Wd.hex_ge (by omega), Wd.hex_ge (by omega), Wd.hex_ge (by omega), Wd.hex_ge (by omega), Wd.hex_ge (by omega), Wd.hex_lt (by omega)]
  rfl

theorem know_parse (w : World) (ht : OTab w) : Calls Tryd.prog 14 #[.string ⟨#[106, 101, 113, 32, 48, 120, 53, 32, 48, 120, 49, 32, 48, 120, 48]⟩] w fun e w' => e = .returned (.tuple #[.agg #[.int .i64 21, .int .i64 1, .int .i64 0, .int .u32 5], .int .i64 0]) ∧ Below w.heap.size w w' :=
  iparse_of (r := ⟨21, [106, 101, 113], 5⟩) (jt := 1) (jf := 0) (k := 5) (by decide) ⟨by decide, by decide⟩ _ know_jeq (by decide) _ ht
theorem know_print (w : World) (hT : Tab w) (ht : OTab w) : Calls Tryd.prog 9 #[.agg #[.int .i64 6, .int .i64 0, .int .i64 0, .int .u32 2147418112]] w fun e w' => e = .returned (.tuple #[.string ⟨#[114, 101, 116, 32, 48, 120, 55, 102, 102, 102, 48, 48, 48, 48]⟩, .int .i64 0]) ∧ Below w.heap.size w w' := by
  have h := print_good 6 0 0 2147418112 w ht hT (by decide) (by decide) (by decide)
  rw [know_ret] at h
  exact h
theorem know_alu (w : World) (ht : OTab w) : Calls Tryd.prog 16 #[.agg #[.int .i64 12, .int .i64 0, .int .i64 0, .int .u32 0]] w fun e w' => e = .returned (.tuple #[.int .i64 4, .bool true, .bool true]) ∧ Below w.heap.size w w' := by
  refine (alu_any 12 0 0 0 w ht).mono ?_
  rintro e w' ⟨r, b, hr, hb, rfl, hB⟩
  subst hr hb
  exact ⟨rfl, hB⟩
theorem know_branch (w : World) (ht : OTab w) : Calls Tryd.prog 18 #[.agg #[.int .i64 21, .int .i64 1, .int .i64 0, .int .u32 5]] w fun e w' => e = .returned (.bool true) ∧ Below w.heap.size w w' := branch_any 21 1 0 5 w ht
theorem know_ends (w : World) : Calls Tryd.prog 20 #[.agg #[.int .i64 22, .int .i64 0, .int .i64 0, .int .u32 0]] w fun e w' => e = .returned (.bool true) ∧ Below w.heap.size w w' := ends_any 22 0 0 0 w
theorem know_right (w : World) (ht : OTab w) : Calls Tryd.prog 11 #[.agg #[.int .i64 21, .int .i64 1, .int .i64 0, .int .u32 5]] w fun e w' => e = .returned (.bool true) ∧ Below w.heap.size w w' := right_any 21 1 0 5 w ht

set_option maxHeartbeats 1000000 in
theorem iknows_any (w : World) (hT : Tab w) (ht : OTab w) :
    Calls Tryd.prog 12 #[] w fun e w' => e = .returned (.bool true) ∧ Below w.heap.size w w' := by
  go_enter Tryd.func12, Tryd.ntmps12
  go_wp2_with fail
  refine (know_parse _ ht).mono ?_
  rintro e w1 ⟨rfl, hb1⟩
  have hx1 : (w1.alloc (insB 21 1 0 5)).heap[w1.heap.size]? = some (insB 21 1 0 5) := heap_alloc_new _ _
  have hbW1 := ba (insB 21 1 0 5) hb1
  have HX1 := Lib.hid hx1
  have HW1 := Lib.hid hbW1
  clear hx1 hbW1 hb1
  go_wp2_with fail
  refine (know_print _ (hT.below HW1.out) (ht.below HW1.out)).mono ?_
  rintro e w2 ⟨rfl, hb2⟩
  have HX2 := Lib.hid ((hb2.block _ (lt_of_block HX1.out)).trans HX1.out)
  have HW2 := Lib.hid (HW1.out.trans (hb2.mono HW1.out.size))
  clear hb2 HX1 HW1
  go_wp2_with fail
  refine (know_alu _ (ht.below HW2.out)).mono ?_
  rintro e w3 ⟨rfl, hb3⟩
  have hx3 := (hb3.block _ (lt_of_block HX2.out)).trans HX2.out
  have HW3 := Lib.hid (HW2.out.trans (hb3.mono HW2.out.size))
  have c0 : w3.cell? ⟨w1.heap.size, 0, none⟩ = some (.int .i64 21) := cell_in hx3 0
  have c1 : w3.cell? ⟨w1.heap.size, 1, none⟩ = some (.int .i64 1) := cell_in hx3 1
  have c2 : w3.cell? ⟨w1.heap.size, 2, none⟩ = some (.int .i64 0) := cell_in hx3 2
  have c3 : w3.cell? ⟨w1.heap.size, 3, none⟩ = some (.int .u32 5) := cell_in hx3 3
  have HX3 := Lib.hid hx3
  clear hb3 hx3 HX2 HW2
  go_wp2_with fail
  refine (know_branch _ (ht.below HW3.out)).mono ?_
  rintro e w4 ⟨rfl, hb4⟩
  have hx4 := (hb4.block _ (lt_of_block HX3.out)).trans HX3.out
  have HW4 := Lib.hid (HW3.out.trans (hb4.mono HW3.out.size))
  have HX4 := Lib.hid hx4
  clear hb4 hx4 HX3 HW3 c0 c1 c2 c3
  go_wp2_with fail
  refine (know_ends _).mono ?_
  rintro e w5 ⟨rfl, hb5⟩
  have hx5 := (hb5.block _ (lt_of_block HX4.out)).trans HX4.out
  have HW5 := Lib.hid (HW4.out.trans (hb5.mono HW4.out.size))
  have c0 : w5.cell? ⟨w1.heap.size, 0, none⟩ = some (.int .i64 21) := cell_in hx5 0
  have c1 : w5.cell? ⟨w1.heap.size, 1, none⟩ = some (.int .i64 1) := cell_in hx5 1
  have c2 : w5.cell? ⟨w1.heap.size, 2, none⟩ = some (.int .i64 0) := cell_in hx5 2
  have c3 : w5.cell? ⟨w1.heap.size, 3, none⟩ = some (.int .u32 5) := cell_in hx5 3
  clear hb5 hx5 HX4 HW4
  go_wp2_with fail
  refine (know_right _ (ht.below HW5.out)).mono ?_
  rintro e w6 ⟨rfl, hb6⟩
  clear c0 c1 c2 c3
  go_wp2_with fail
  go_ret
  exact ⟨rfl, HW5.out.trans (hb6.mono HW5.out.size)⟩
end Go.Proofs.YtjniifgacidojaaDoor
