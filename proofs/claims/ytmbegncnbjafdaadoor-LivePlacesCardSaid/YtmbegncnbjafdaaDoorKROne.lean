/-
  The document's One: the error of an instruction at a place of so many.
-/
import Derived.Test.YtmbegncnbjafdaaDoorKOne
import Derived.Test.YtmbegncnbjafdaaDoorRAlu
namespace Go.Proofs.YtmbegncnbjafdaaDoor
open Go.ChangeShapes Go.WideShapes Go.ChangeAt Go.RowKit
set_option maxRecDepth 20000

theorem rone_bad (jt jf k p n ev : Int) (hyp : 0 ≤ k ∧ k ≤ 4294967295 ∧ 0 ≤ p ∧ p < n ∧ n ≤ 9223372036854775807) (w : World) (op : Int) (hr : right op jt jf k = false) (hv : ev = 1) : Calls Tryd.prog 49 #[insV op jt jf k, .int .i64 p, .int .i64 n] w fun e w' => e = .returned (.int .i64 ev) ∧ Below w.heap.size w w' := by
  obtain ⟨hk, hk', h0, h1, h2⟩ := hyp
  have HV := Lib.hid hv
  clear hv
  have hb := ba (insB op jt jf k) (Below.refl w.heap.size w)
  have hH : (w.alloc (insB op jt jf k)).heap[w.heap.size]? = some (insB op jt jf k) := heap_alloc_new _ _
  go_enter Tryd.func49, Tryd.ntmps49
  go_wp2_with fail
  refine (refRight_any op jt jf k _).mono ?_
  rintro e w1 ⟨rfl, hB⟩
  have hH1 : w1.heap[w.heap.size]? = some (insB op jt jf k) := (hB.block _ (lt_of_block hH)).trans hH
  have hsz := lt_of_block hH1
  have HB1 := Lib.hid (hb.trans (hB.mono hb.size))
  have c0 : w1.cell? ⟨w.heap.size, 0, none⟩ = some (.int .i64 op) := cell_in hH1 0
  have c1 : w1.cell? ⟨w.heap.size, 1, none⟩ = some (.int .i64 jt) := cell_in hH1 1
  have c2 : w1.cell? ⟨w.heap.size, 2, none⟩ = some (.int .i64 jf) := cell_in hH1 2
  have c3 : w1.cell? ⟨w.heap.size, 3, none⟩ = some (.int .u32 k) := cell_in hH1 3
  have HX := Lib.hid hH1
  clear hH1 hB hb hH
  rw [hr]
  go_wp2_with fail
  go_ret
  exact ⟨retI HV.out, HB1.out⟩
theorem rone_32_a (jt jf k p n ev : Int) (hyp : 0 ≤ k ∧ k ≤ 4294967295 ∧ 0 ≤ p ∧ p < n ∧ n ≤ 9223372036854775807) (w : World) (hr : right 32 jt jf k = true) (hq : ¬ k % 4 = 0) (hv : ev = 6) : Calls Tryd.prog 49 #[insV 32 jt jf k, .int .i64 p, .int .i64 n] w fun e w' => e = .returned (.int .i64 ev) ∧ Below w.heap.size w w' := by
  obtain ⟨hk, hk', h0, h1, h2⟩ := hyp
  have HV := Lib.hid hv
  clear hv
  have hb := ba (insB 32 jt jf k) (Below.refl w.heap.size w)
  have hH : (w.alloc (insB 32 jt jf k)).heap[w.heap.size]? = some (insB 32 jt jf k) := heap_alloc_new _ _
  go_enter Tryd.func49, Tryd.ntmps49
  go_wp2_with fail
  refine (refRight_any 32 jt jf k _).mono ?_
  rintro e w1 ⟨rfl, hB⟩
  have hH1 : w1.heap[w.heap.size]? = some (insB 32 jt jf k) := (hB.block _ (lt_of_block hH)).trans hH
  have hsz := lt_of_block hH1
  have HB1 := Lib.hid (hb.trans (hB.mono hb.size))
  have c0 : w1.cell? ⟨w.heap.size, 0, none⟩ = some (.int .i64 32) := cell_in hH1 0
  have c1 : w1.cell? ⟨w.heap.size, 1, none⟩ = some (.int .i64 jt) := cell_in hH1 1
  have c2 : w1.cell? ⟨w.heap.size, 2, none⟩ = some (.int .i64 jf) := cell_in hH1 2
  have c3 : w1.cell? ⟨w.heap.size, 3, none⟩ = some (.int .u32 k) := cell_in hH1 3
  have HX := Lib.hid hH1
  clear hH1 hB hb hH
  rw [hr]
  go_wp2_with fail
  go_ret
  exact ⟨retI HV.out, HB1.out⟩
theorem rone_32_b (jt jf k p n ev : Int) (hyp : 0 ≤ k ∧ k ≤ 4294967295 ∧ 0 ≤ p ∧ p < n ∧ n ≤ 9223372036854775807) (w : World) (hr : right 32 jt jf k = true) (hq : k % 4 = 0) (hq' : 60 < k) (hv : ev = 6) : Calls Tryd.prog 49 #[insV 32 jt jf k, .int .i64 p, .int .i64 n] w fun e w' => e = .returned (.int .i64 ev) ∧ Below w.heap.size w w' := by
  obtain ⟨hk, hk', h0, h1, h2⟩ := hyp
  have HV := Lib.hid hv
  clear hv
  have hb := ba (insB 32 jt jf k) (Below.refl w.heap.size w)
  have hH : (w.alloc (insB 32 jt jf k)).heap[w.heap.size]? = some (insB 32 jt jf k) := heap_alloc_new _ _
  go_enter Tryd.func49, Tryd.ntmps49
  go_wp2_with fail
  refine (refRight_any 32 jt jf k _).mono ?_
  rintro e w1 ⟨rfl, hB⟩
  have hH1 : w1.heap[w.heap.size]? = some (insB 32 jt jf k) := (hB.block _ (lt_of_block hH)).trans hH
  have hsz := lt_of_block hH1
  have HB1 := Lib.hid (hb.trans (hB.mono hb.size))
  have c0 : w1.cell? ⟨w.heap.size, 0, none⟩ = some (.int .i64 32) := cell_in hH1 0
  have c1 : w1.cell? ⟨w.heap.size, 1, none⟩ = some (.int .i64 jt) := cell_in hH1 1
  have c2 : w1.cell? ⟨w.heap.size, 2, none⟩ = some (.int .i64 jf) := cell_in hH1 2
  have c3 : w1.cell? ⟨w.heap.size, 3, none⟩ = some (.int .u32 k) := cell_in hH1 3
  have HX := Lib.hid hH1
  clear hH1 hB hb hH
  rw [hr]
  go_wp2_with fail
  go_ret
  exact ⟨retI HV.out, HB1.out⟩
theorem rone_32_c (jt jf k p n ev : Int) (hyp : 0 ≤ k ∧ k ≤ 4294967295 ∧ 0 ≤ p ∧ p < n ∧ n ≤ 9223372036854775807) (w : World) (hr : right 32 jt jf k = true) (hq : k % 4 = 0) (hq' : k ≤ 60) (hv : ev = 0) : Calls Tryd.prog 49 #[insV 32 jt jf k, .int .i64 p, .int .i64 n] w fun e w' => e = .returned (.int .i64 ev) ∧ Below w.heap.size w w' := by
  obtain ⟨hk, hk', h0, h1, h2⟩ := hyp
  have HV := Lib.hid hv
  clear hv
  have hb := ba (insB 32 jt jf k) (Below.refl w.heap.size w)
  have hH : (w.alloc (insB 32 jt jf k)).heap[w.heap.size]? = some (insB 32 jt jf k) := heap_alloc_new _ _
  go_enter Tryd.func49, Tryd.ntmps49
  go_wp2_with fail
  refine (refRight_any 32 jt jf k _).mono ?_
  rintro e w1 ⟨rfl, hB⟩
  have hH1 : w1.heap[w.heap.size]? = some (insB 32 jt jf k) := (hB.block _ (lt_of_block hH)).trans hH
  have hsz := lt_of_block hH1
  have HB1 := Lib.hid (hb.trans (hB.mono hb.size))
  have c0 : w1.cell? ⟨w.heap.size, 0, none⟩ = some (.int .i64 32) := cell_in hH1 0
  have c1 : w1.cell? ⟨w.heap.size, 1, none⟩ = some (.int .i64 jt) := cell_in hH1 1
  have c2 : w1.cell? ⟨w.heap.size, 2, none⟩ = some (.int .i64 jf) := cell_in hH1 2
  have c3 : w1.cell? ⟨w.heap.size, 3, none⟩ = some (.int .u32 k) := cell_in hH1 3
  have HX := Lib.hid hH1
  clear hH1 hB hb hH
  rw [hr]
  go_wp2_with fail
  refine (refBranch_any 32 jt jf k _).mono ?_
  rintro e w2 ⟨rfl, hB2⟩
  have HB2 := Lib.hid (HB1.out.trans (hB2.mono HB1.out.size))
  have hH2 : w2.heap[w.heap.size]? = some (insB 32 jt jf k) := (hB2.block _ hsz).trans HX.out
  have hsz2 := lt_of_block hH2
  have d1 : w2.cell? ⟨w.heap.size, 1, none⟩ = some (.int .i64 jt) := cell_in hH2 1
  have d2 : w2.cell? ⟨w.heap.size, 2, none⟩ = some (.int .i64 jf) := cell_in hH2 2
  rw [show isBranch 32 = false by decide]
  clear c0 c1 c2 c3 hB2 hH2
  go_wp2_with fail
  go_ret
  exact ⟨retI HV.out, HB2.out⟩
theorem rone_2_a (jt jf k p n ev : Int) (hyp : 0 ≤ k ∧ k ≤ 4294967295 ∧ 0 ≤ p ∧ p < n ∧ n ≤ 9223372036854775807) (w : World) (hr : right 2 jt jf k = true) (hq : 15 < k) (hv : ev = 7) : Calls Tryd.prog 49 #[insV 2 jt jf k, .int .i64 p, .int .i64 n] w fun e w' => e = .returned (.int .i64 ev) ∧ Below w.heap.size w w' := by
  obtain ⟨hk, hk', h0, h1, h2⟩ := hyp
  have HV := Lib.hid hv
  clear hv
  have hb := ba (insB 2 jt jf k) (Below.refl w.heap.size w)
  have hH : (w.alloc (insB 2 jt jf k)).heap[w.heap.size]? = some (insB 2 jt jf k) := heap_alloc_new _ _
  go_enter Tryd.func49, Tryd.ntmps49
  go_wp2_with fail
  refine (refRight_any 2 jt jf k _).mono ?_
  rintro e w1 ⟨rfl, hB⟩
  have hH1 : w1.heap[w.heap.size]? = some (insB 2 jt jf k) := (hB.block _ (lt_of_block hH)).trans hH
  have hsz := lt_of_block hH1
  have HB1 := Lib.hid (hb.trans (hB.mono hb.size))
  have c0 : w1.cell? ⟨w.heap.size, 0, none⟩ = some (.int .i64 2) := cell_in hH1 0
  have c1 : w1.cell? ⟨w.heap.size, 1, none⟩ = some (.int .i64 jt) := cell_in hH1 1
  have c2 : w1.cell? ⟨w.heap.size, 2, none⟩ = some (.int .i64 jf) := cell_in hH1 2
  have c3 : w1.cell? ⟨w.heap.size, 3, none⟩ = some (.int .u32 k) := cell_in hH1 3
  have HX := Lib.hid hH1
  clear hH1 hB hb hH
  rw [hr]
  go_wp2_with fail
  go_ret
  exact ⟨retI HV.out, HB1.out⟩
theorem rone_2_b (jt jf k p n ev : Int) (hyp : 0 ≤ k ∧ k ≤ 4294967295 ∧ 0 ≤ p ∧ p < n ∧ n ≤ 9223372036854775807) (w : World) (hr : right 2 jt jf k = true) (hq : k ≤ 15) (hv : ev = 0) : Calls Tryd.prog 49 #[insV 2 jt jf k, .int .i64 p, .int .i64 n] w fun e w' => e = .returned (.int .i64 ev) ∧ Below w.heap.size w w' := by
  obtain ⟨hk, hk', h0, h1, h2⟩ := hyp
  have HV := Lib.hid hv
  clear hv
  have hb := ba (insB 2 jt jf k) (Below.refl w.heap.size w)
  have hH : (w.alloc (insB 2 jt jf k)).heap[w.heap.size]? = some (insB 2 jt jf k) := heap_alloc_new _ _
  go_enter Tryd.func49, Tryd.ntmps49
  go_wp2_with fail
  refine (refRight_any 2 jt jf k _).mono ?_
  rintro e w1 ⟨rfl, hB⟩
  have hH1 : w1.heap[w.heap.size]? = some (insB 2 jt jf k) := (hB.block _ (lt_of_block hH)).trans hH
  have hsz := lt_of_block hH1
  have HB1 := Lib.hid (hb.trans (hB.mono hb.size))
  have c0 : w1.cell? ⟨w.heap.size, 0, none⟩ = some (.int .i64 2) := cell_in hH1 0
  have c1 : w1.cell? ⟨w.heap.size, 1, none⟩ = some (.int .i64 jt) := cell_in hH1 1
  have c2 : w1.cell? ⟨w.heap.size, 2, none⟩ = some (.int .i64 jf) := cell_in hH1 2
  have c3 : w1.cell? ⟨w.heap.size, 3, none⟩ = some (.int .u32 k) := cell_in hH1 3
  have HX := Lib.hid hH1
  clear hH1 hB hb hH
  rw [hr]
  go_wp2_with fail
  refine (refBranch_any 2 jt jf k _).mono ?_
  rintro e w2 ⟨rfl, hB2⟩
  have HB2 := Lib.hid (HB1.out.trans (hB2.mono HB1.out.size))
  have hH2 : w2.heap[w.heap.size]? = some (insB 2 jt jf k) := (hB2.block _ hsz).trans HX.out
  have hsz2 := lt_of_block hH2
  have d1 : w2.cell? ⟨w.heap.size, 1, none⟩ = some (.int .i64 jt) := cell_in hH2 1
  have d2 : w2.cell? ⟨w.heap.size, 2, none⟩ = some (.int .i64 jf) := cell_in hH2 2
  rw [show isBranch 2 = false by decide]
  clear c0 c1 c2 c3 hB2 hH2
  go_wp2_with fail
  go_ret
  exact ⟨retI HV.out, HB2.out⟩
theorem rone_3_a (jt jf k p n ev : Int) (hyp : 0 ≤ k ∧ k ≤ 4294967295 ∧ 0 ≤ p ∧ p < n ∧ n ≤ 9223372036854775807) (w : World) (hr : right 3 jt jf k = true) (hq : 15 < k) (hv : ev = 7) : Calls Tryd.prog 49 #[insV 3 jt jf k, .int .i64 p, .int .i64 n] w fun e w' => e = .returned (.int .i64 ev) ∧ Below w.heap.size w w' := by
  obtain ⟨hk, hk', h0, h1, h2⟩ := hyp
  have HV := Lib.hid hv
  clear hv
  have hb := ba (insB 3 jt jf k) (Below.refl w.heap.size w)
  have hH : (w.alloc (insB 3 jt jf k)).heap[w.heap.size]? = some (insB 3 jt jf k) := heap_alloc_new _ _
  go_enter Tryd.func49, Tryd.ntmps49
  go_wp2_with fail
  refine (refRight_any 3 jt jf k _).mono ?_
  rintro e w1 ⟨rfl, hB⟩
  have hH1 : w1.heap[w.heap.size]? = some (insB 3 jt jf k) := (hB.block _ (lt_of_block hH)).trans hH
  have hsz := lt_of_block hH1
  have HB1 := Lib.hid (hb.trans (hB.mono hb.size))
  have c0 : w1.cell? ⟨w.heap.size, 0, none⟩ = some (.int .i64 3) := cell_in hH1 0
  have c1 : w1.cell? ⟨w.heap.size, 1, none⟩ = some (.int .i64 jt) := cell_in hH1 1
  have c2 : w1.cell? ⟨w.heap.size, 2, none⟩ = some (.int .i64 jf) := cell_in hH1 2
  have c3 : w1.cell? ⟨w.heap.size, 3, none⟩ = some (.int .u32 k) := cell_in hH1 3
  have HX := Lib.hid hH1
  clear hH1 hB hb hH
  rw [hr]
  go_wp2_with fail
  go_ret
  exact ⟨retI HV.out, HB1.out⟩
theorem rone_3_b (jt jf k p n ev : Int) (hyp : 0 ≤ k ∧ k ≤ 4294967295 ∧ 0 ≤ p ∧ p < n ∧ n ≤ 9223372036854775807) (w : World) (hr : right 3 jt jf k = true) (hq : k ≤ 15) (hv : ev = 0) : Calls Tryd.prog 49 #[insV 3 jt jf k, .int .i64 p, .int .i64 n] w fun e w' => e = .returned (.int .i64 ev) ∧ Below w.heap.size w w' := by
  obtain ⟨hk, hk', h0, h1, h2⟩ := hyp
  have HV := Lib.hid hv
  clear hv
  have hb := ba (insB 3 jt jf k) (Below.refl w.heap.size w)
  have hH : (w.alloc (insB 3 jt jf k)).heap[w.heap.size]? = some (insB 3 jt jf k) := heap_alloc_new _ _
  go_enter Tryd.func49, Tryd.ntmps49
  go_wp2_with fail
  refine (refRight_any 3 jt jf k _).mono ?_
  rintro e w1 ⟨rfl, hB⟩
  have hH1 : w1.heap[w.heap.size]? = some (insB 3 jt jf k) := (hB.block _ (lt_of_block hH)).trans hH
  have hsz := lt_of_block hH1
  have HB1 := Lib.hid (hb.trans (hB.mono hb.size))
  have c0 : w1.cell? ⟨w.heap.size, 0, none⟩ = some (.int .i64 3) := cell_in hH1 0
  have c1 : w1.cell? ⟨w.heap.size, 1, none⟩ = some (.int .i64 jt) := cell_in hH1 1
  have c2 : w1.cell? ⟨w.heap.size, 2, none⟩ = some (.int .i64 jf) := cell_in hH1 2
  have c3 : w1.cell? ⟨w.heap.size, 3, none⟩ = some (.int .u32 k) := cell_in hH1 3
  have HX := Lib.hid hH1
  clear hH1 hB hb hH
  rw [hr]
  go_wp2_with fail
  refine (refBranch_any 3 jt jf k _).mono ?_
  rintro e w2 ⟨rfl, hB2⟩
  have HB2 := Lib.hid (HB1.out.trans (hB2.mono HB1.out.size))
  have hH2 : w2.heap[w.heap.size]? = some (insB 3 jt jf k) := (hB2.block _ hsz).trans HX.out
  have hsz2 := lt_of_block hH2
  have d1 : w2.cell? ⟨w.heap.size, 1, none⟩ = some (.int .i64 jt) := cell_in hH2 1
  have d2 : w2.cell? ⟨w.heap.size, 2, none⟩ = some (.int .i64 jf) := cell_in hH2 2
  rw [show isBranch 3 = false by decide]
  clear c0 c1 c2 c3 hB2 hH2
  go_wp2_with fail
  go_ret
  exact ⟨retI HV.out, HB2.out⟩
theorem rone_96_a (jt jf k p n ev : Int) (hyp : 0 ≤ k ∧ k ≤ 4294967295 ∧ 0 ≤ p ∧ p < n ∧ n ≤ 9223372036854775807) (w : World) (hr : right 96 jt jf k = true) (hq : 15 < k) (hv : ev = 7) : Calls Tryd.prog 49 #[insV 96 jt jf k, .int .i64 p, .int .i64 n] w fun e w' => e = .returned (.int .i64 ev) ∧ Below w.heap.size w w' := by
  obtain ⟨hk, hk', h0, h1, h2⟩ := hyp
  have HV := Lib.hid hv
  clear hv
  have hb := ba (insB 96 jt jf k) (Below.refl w.heap.size w)
  have hH : (w.alloc (insB 96 jt jf k)).heap[w.heap.size]? = some (insB 96 jt jf k) := heap_alloc_new _ _
  go_enter Tryd.func49, Tryd.ntmps49
  go_wp2_with fail
  refine (refRight_any 96 jt jf k _).mono ?_
  rintro e w1 ⟨rfl, hB⟩
  have hH1 : w1.heap[w.heap.size]? = some (insB 96 jt jf k) := (hB.block _ (lt_of_block hH)).trans hH
  have hsz := lt_of_block hH1
  have HB1 := Lib.hid (hb.trans (hB.mono hb.size))
  have c0 : w1.cell? ⟨w.heap.size, 0, none⟩ = some (.int .i64 96) := cell_in hH1 0
  have c1 : w1.cell? ⟨w.heap.size, 1, none⟩ = some (.int .i64 jt) := cell_in hH1 1
  have c2 : w1.cell? ⟨w.heap.size, 2, none⟩ = some (.int .i64 jf) := cell_in hH1 2
  have c3 : w1.cell? ⟨w.heap.size, 3, none⟩ = some (.int .u32 k) := cell_in hH1 3
  have HX := Lib.hid hH1
  clear hH1 hB hb hH
  rw [hr]
  go_wp2_with fail
  go_ret
  exact ⟨retI HV.out, HB1.out⟩
theorem rone_96_b (jt jf k p n ev : Int) (hyp : 0 ≤ k ∧ k ≤ 4294967295 ∧ 0 ≤ p ∧ p < n ∧ n ≤ 9223372036854775807) (w : World) (hr : right 96 jt jf k = true) (hq : k ≤ 15) (hv : ev = 0) : Calls Tryd.prog 49 #[insV 96 jt jf k, .int .i64 p, .int .i64 n] w fun e w' => e = .returned (.int .i64 ev) ∧ Below w.heap.size w w' := by
  obtain ⟨hk, hk', h0, h1, h2⟩ := hyp
  have HV := Lib.hid hv
  clear hv
  have hb := ba (insB 96 jt jf k) (Below.refl w.heap.size w)
  have hH : (w.alloc (insB 96 jt jf k)).heap[w.heap.size]? = some (insB 96 jt jf k) := heap_alloc_new _ _
  go_enter Tryd.func49, Tryd.ntmps49
  go_wp2_with fail
  refine (refRight_any 96 jt jf k _).mono ?_
  rintro e w1 ⟨rfl, hB⟩
  have hH1 : w1.heap[w.heap.size]? = some (insB 96 jt jf k) := (hB.block _ (lt_of_block hH)).trans hH
  have hsz := lt_of_block hH1
  have HB1 := Lib.hid (hb.trans (hB.mono hb.size))
  have c0 : w1.cell? ⟨w.heap.size, 0, none⟩ = some (.int .i64 96) := cell_in hH1 0
  have c1 : w1.cell? ⟨w.heap.size, 1, none⟩ = some (.int .i64 jt) := cell_in hH1 1
  have c2 : w1.cell? ⟨w.heap.size, 2, none⟩ = some (.int .i64 jf) := cell_in hH1 2
  have c3 : w1.cell? ⟨w.heap.size, 3, none⟩ = some (.int .u32 k) := cell_in hH1 3
  have HX := Lib.hid hH1
  clear hH1 hB hb hH
  rw [hr]
  go_wp2_with fail
  refine (refBranch_any 96 jt jf k _).mono ?_
  rintro e w2 ⟨rfl, hB2⟩
  have HB2 := Lib.hid (HB1.out.trans (hB2.mono HB1.out.size))
  have hH2 : w2.heap[w.heap.size]? = some (insB 96 jt jf k) := (hB2.block _ hsz).trans HX.out
  have hsz2 := lt_of_block hH2
  have d1 : w2.cell? ⟨w.heap.size, 1, none⟩ = some (.int .i64 jt) := cell_in hH2 1
  have d2 : w2.cell? ⟨w.heap.size, 2, none⟩ = some (.int .i64 jf) := cell_in hH2 2
  rw [show isBranch 96 = false by decide]
  clear c0 c1 c2 c3 hB2 hH2
  go_wp2_with fail
  go_ret
  exact ⟨retI HV.out, HB2.out⟩
theorem rone_97_a (jt jf k p n ev : Int) (hyp : 0 ≤ k ∧ k ≤ 4294967295 ∧ 0 ≤ p ∧ p < n ∧ n ≤ 9223372036854775807) (w : World) (hr : right 97 jt jf k = true) (hq : 15 < k) (hv : ev = 7) : Calls Tryd.prog 49 #[insV 97 jt jf k, .int .i64 p, .int .i64 n] w fun e w' => e = .returned (.int .i64 ev) ∧ Below w.heap.size w w' := by
  obtain ⟨hk, hk', h0, h1, h2⟩ := hyp
  have HV := Lib.hid hv
  clear hv
  have hb := ba (insB 97 jt jf k) (Below.refl w.heap.size w)
  have hH : (w.alloc (insB 97 jt jf k)).heap[w.heap.size]? = some (insB 97 jt jf k) := heap_alloc_new _ _
  go_enter Tryd.func49, Tryd.ntmps49
  go_wp2_with fail
  refine (refRight_any 97 jt jf k _).mono ?_
  rintro e w1 ⟨rfl, hB⟩
  have hH1 : w1.heap[w.heap.size]? = some (insB 97 jt jf k) := (hB.block _ (lt_of_block hH)).trans hH
  have hsz := lt_of_block hH1
  have HB1 := Lib.hid (hb.trans (hB.mono hb.size))
  have c0 : w1.cell? ⟨w.heap.size, 0, none⟩ = some (.int .i64 97) := cell_in hH1 0
  have c1 : w1.cell? ⟨w.heap.size, 1, none⟩ = some (.int .i64 jt) := cell_in hH1 1
  have c2 : w1.cell? ⟨w.heap.size, 2, none⟩ = some (.int .i64 jf) := cell_in hH1 2
  have c3 : w1.cell? ⟨w.heap.size, 3, none⟩ = some (.int .u32 k) := cell_in hH1 3
  have HX := Lib.hid hH1
  clear hH1 hB hb hH
  rw [hr]
  go_wp2_with fail
  go_ret
  exact ⟨retI HV.out, HB1.out⟩
theorem rone_97_b (jt jf k p n ev : Int) (hyp : 0 ≤ k ∧ k ≤ 4294967295 ∧ 0 ≤ p ∧ p < n ∧ n ≤ 9223372036854775807) (w : World) (hr : right 97 jt jf k = true) (hq : k ≤ 15) (hv : ev = 0) : Calls Tryd.prog 49 #[insV 97 jt jf k, .int .i64 p, .int .i64 n] w fun e w' => e = .returned (.int .i64 ev) ∧ Below w.heap.size w w' := by
  obtain ⟨hk, hk', h0, h1, h2⟩ := hyp
  have HV := Lib.hid hv
  clear hv
  have hb := ba (insB 97 jt jf k) (Below.refl w.heap.size w)
  have hH : (w.alloc (insB 97 jt jf k)).heap[w.heap.size]? = some (insB 97 jt jf k) := heap_alloc_new _ _
  go_enter Tryd.func49, Tryd.ntmps49
  go_wp2_with fail
  refine (refRight_any 97 jt jf k _).mono ?_
  rintro e w1 ⟨rfl, hB⟩
  have hH1 : w1.heap[w.heap.size]? = some (insB 97 jt jf k) := (hB.block _ (lt_of_block hH)).trans hH
  have hsz := lt_of_block hH1
  have HB1 := Lib.hid (hb.trans (hB.mono hb.size))
  have c0 : w1.cell? ⟨w.heap.size, 0, none⟩ = some (.int .i64 97) := cell_in hH1 0
  have c1 : w1.cell? ⟨w.heap.size, 1, none⟩ = some (.int .i64 jt) := cell_in hH1 1
  have c2 : w1.cell? ⟨w.heap.size, 2, none⟩ = some (.int .i64 jf) := cell_in hH1 2
  have c3 : w1.cell? ⟨w.heap.size, 3, none⟩ = some (.int .u32 k) := cell_in hH1 3
  have HX := Lib.hid hH1
  clear hH1 hB hb hH
  rw [hr]
  go_wp2_with fail
  refine (refBranch_any 97 jt jf k _).mono ?_
  rintro e w2 ⟨rfl, hB2⟩
  have HB2 := Lib.hid (HB1.out.trans (hB2.mono HB1.out.size))
  have hH2 : w2.heap[w.heap.size]? = some (insB 97 jt jf k) := (hB2.block _ hsz).trans HX.out
  have hsz2 := lt_of_block hH2
  have d1 : w2.cell? ⟨w.heap.size, 1, none⟩ = some (.int .i64 jt) := cell_in hH2 1
  have d2 : w2.cell? ⟨w.heap.size, 2, none⟩ = some (.int .i64 jf) := cell_in hH2 2
  rw [show isBranch 97 = false by decide]
  clear c0 c1 c2 c3 hB2 hH2
  go_wp2_with fail
  go_ret
  exact ⟨retI HV.out, HB2.out⟩
theorem rone_52_a (jt jf k p n ev : Int) (hyp : 0 ≤ k ∧ k ≤ 4294967295 ∧ 0 ≤ p ∧ p < n ∧ n ≤ 9223372036854775807) (w : World) (hr : right 52 jt jf k = true) (hq : (k == 0) = true) (hv : ev = 8) : Calls Tryd.prog 49 #[insV 52 jt jf k, .int .i64 p, .int .i64 n] w fun e w' => e = .returned (.int .i64 ev) ∧ Below w.heap.size w w' := by
  obtain ⟨hk, hk', h0, h1, h2⟩ := hyp
  have HV := Lib.hid hv
  clear hv
  have hb := ba (insB 52 jt jf k) (Below.refl w.heap.size w)
  have hH : (w.alloc (insB 52 jt jf k)).heap[w.heap.size]? = some (insB 52 jt jf k) := heap_alloc_new _ _
  go_enter Tryd.func49, Tryd.ntmps49
  go_wp2_with fail
  refine (refRight_any 52 jt jf k _).mono ?_
  rintro e w1 ⟨rfl, hB⟩
  have hH1 : w1.heap[w.heap.size]? = some (insB 52 jt jf k) := (hB.block _ (lt_of_block hH)).trans hH
  have hsz := lt_of_block hH1
  have HB1 := Lib.hid (hb.trans (hB.mono hb.size))
  have c0 : w1.cell? ⟨w.heap.size, 0, none⟩ = some (.int .i64 52) := cell_in hH1 0
  have c1 : w1.cell? ⟨w.heap.size, 1, none⟩ = some (.int .i64 jt) := cell_in hH1 1
  have c2 : w1.cell? ⟨w.heap.size, 2, none⟩ = some (.int .i64 jf) := cell_in hH1 2
  have c3 : w1.cell? ⟨w.heap.size, 3, none⟩ = some (.int .u32 k) := cell_in hH1 3
  have HX := Lib.hid hH1
  clear hH1 hB hb hH
  rw [hr]
  go_wp2_with fail
  go_ret
  exact ⟨retI HV.out, HB1.out⟩
theorem rone_52_b (jt jf k p n ev : Int) (hyp : 0 ≤ k ∧ k ≤ 4294967295 ∧ 0 ≤ p ∧ p < n ∧ n ≤ 9223372036854775807) (w : World) (hr : right 52 jt jf k = true) (hq : (k == 0) = false) (hv : ev = 0) : Calls Tryd.prog 49 #[insV 52 jt jf k, .int .i64 p, .int .i64 n] w fun e w' => e = .returned (.int .i64 ev) ∧ Below w.heap.size w w' := by
  obtain ⟨hk, hk', h0, h1, h2⟩ := hyp
  have HV := Lib.hid hv
  clear hv
  have hb := ba (insB 52 jt jf k) (Below.refl w.heap.size w)
  have hH : (w.alloc (insB 52 jt jf k)).heap[w.heap.size]? = some (insB 52 jt jf k) := heap_alloc_new _ _
  go_enter Tryd.func49, Tryd.ntmps49
  go_wp2_with fail
  refine (refRight_any 52 jt jf k _).mono ?_
  rintro e w1 ⟨rfl, hB⟩
  have hH1 : w1.heap[w.heap.size]? = some (insB 52 jt jf k) := (hB.block _ (lt_of_block hH)).trans hH
  have hsz := lt_of_block hH1
  have HB1 := Lib.hid (hb.trans (hB.mono hb.size))
  have c0 : w1.cell? ⟨w.heap.size, 0, none⟩ = some (.int .i64 52) := cell_in hH1 0
  have c1 : w1.cell? ⟨w.heap.size, 1, none⟩ = some (.int .i64 jt) := cell_in hH1 1
  have c2 : w1.cell? ⟨w.heap.size, 2, none⟩ = some (.int .i64 jf) := cell_in hH1 2
  have c3 : w1.cell? ⟨w.heap.size, 3, none⟩ = some (.int .u32 k) := cell_in hH1 3
  have HX := Lib.hid hH1
  clear hH1 hB hb hH
  rw [hr]
  go_wp2_with fail
  refine (refBranch_any 52 jt jf k _).mono ?_
  rintro e w2 ⟨rfl, hB2⟩
  have HB2 := Lib.hid (HB1.out.trans (hB2.mono HB1.out.size))
  have hH2 : w2.heap[w.heap.size]? = some (insB 52 jt jf k) := (hB2.block _ hsz).trans HX.out
  have hsz2 := lt_of_block hH2
  have d1 : w2.cell? ⟨w.heap.size, 1, none⟩ = some (.int .i64 jt) := cell_in hH2 1
  have d2 : w2.cell? ⟨w.heap.size, 2, none⟩ = some (.int .i64 jf) := cell_in hH2 2
  rw [show isBranch 52 = false by decide]
  clear c0 c1 c2 c3 hB2 hH2
  go_wp2_with fail
  go_ret
  exact ⟨retI HV.out, HB2.out⟩
theorem rone_100_a (jt jf k p n ev : Int) (hyp : 0 ≤ k ∧ k ≤ 4294967295 ∧ 0 ≤ p ∧ p < n ∧ n ≤ 9223372036854775807) (w : World) (hr : right 100 jt jf k = true) (hq : 31 < k) (hv : ev = 1) : Calls Tryd.prog 49 #[insV 100 jt jf k, .int .i64 p, .int .i64 n] w fun e w' => e = .returned (.int .i64 ev) ∧ Below w.heap.size w w' := by
  obtain ⟨hk, hk', h0, h1, h2⟩ := hyp
  have HV := Lib.hid hv
  clear hv
  have hb := ba (insB 100 jt jf k) (Below.refl w.heap.size w)
  have hH : (w.alloc (insB 100 jt jf k)).heap[w.heap.size]? = some (insB 100 jt jf k) := heap_alloc_new _ _
  go_enter Tryd.func49, Tryd.ntmps49
  go_wp2_with fail
  refine (refRight_any 100 jt jf k _).mono ?_
  rintro e w1 ⟨rfl, hB⟩
  have hH1 : w1.heap[w.heap.size]? = some (insB 100 jt jf k) := (hB.block _ (lt_of_block hH)).trans hH
  have hsz := lt_of_block hH1
  have HB1 := Lib.hid (hb.trans (hB.mono hb.size))
  have c0 : w1.cell? ⟨w.heap.size, 0, none⟩ = some (.int .i64 100) := cell_in hH1 0
  have c1 : w1.cell? ⟨w.heap.size, 1, none⟩ = some (.int .i64 jt) := cell_in hH1 1
  have c2 : w1.cell? ⟨w.heap.size, 2, none⟩ = some (.int .i64 jf) := cell_in hH1 2
  have c3 : w1.cell? ⟨w.heap.size, 3, none⟩ = some (.int .u32 k) := cell_in hH1 3
  have HX := Lib.hid hH1
  clear hH1 hB hb hH
  rw [hr]
  go_wp2_with fail
  go_ret
  exact ⟨retI HV.out, HB1.out⟩
theorem rone_100_b (jt jf k p n ev : Int) (hyp : 0 ≤ k ∧ k ≤ 4294967295 ∧ 0 ≤ p ∧ p < n ∧ n ≤ 9223372036854775807) (w : World) (hr : right 100 jt jf k = true) (hq : k ≤ 31) (hv : ev = 0) : Calls Tryd.prog 49 #[insV 100 jt jf k, .int .i64 p, .int .i64 n] w fun e w' => e = .returned (.int .i64 ev) ∧ Below w.heap.size w w' := by
  obtain ⟨hk, hk', h0, h1, h2⟩ := hyp
  have HV := Lib.hid hv
  clear hv
  have hb := ba (insB 100 jt jf k) (Below.refl w.heap.size w)
  have hH : (w.alloc (insB 100 jt jf k)).heap[w.heap.size]? = some (insB 100 jt jf k) := heap_alloc_new _ _
  go_enter Tryd.func49, Tryd.ntmps49
  go_wp2_with fail
  refine (refRight_any 100 jt jf k _).mono ?_
  rintro e w1 ⟨rfl, hB⟩
  have hH1 : w1.heap[w.heap.size]? = some (insB 100 jt jf k) := (hB.block _ (lt_of_block hH)).trans hH
  have hsz := lt_of_block hH1
  have HB1 := Lib.hid (hb.trans (hB.mono hb.size))
  have c0 : w1.cell? ⟨w.heap.size, 0, none⟩ = some (.int .i64 100) := cell_in hH1 0
  have c1 : w1.cell? ⟨w.heap.size, 1, none⟩ = some (.int .i64 jt) := cell_in hH1 1
  have c2 : w1.cell? ⟨w.heap.size, 2, none⟩ = some (.int .i64 jf) := cell_in hH1 2
  have c3 : w1.cell? ⟨w.heap.size, 3, none⟩ = some (.int .u32 k) := cell_in hH1 3
  have HX := Lib.hid hH1
  clear hH1 hB hb hH
  rw [hr]
  go_wp2_with fail
  refine (refBranch_any 100 jt jf k _).mono ?_
  rintro e w2 ⟨rfl, hB2⟩
  have HB2 := Lib.hid (HB1.out.trans (hB2.mono HB1.out.size))
  have hH2 : w2.heap[w.heap.size]? = some (insB 100 jt jf k) := (hB2.block _ hsz).trans HX.out
  have hsz2 := lt_of_block hH2
  have d1 : w2.cell? ⟨w.heap.size, 1, none⟩ = some (.int .i64 jt) := cell_in hH2 1
  have d2 : w2.cell? ⟨w.heap.size, 2, none⟩ = some (.int .i64 jf) := cell_in hH2 2
  rw [show isBranch 100 = false by decide]
  clear c0 c1 c2 c3 hB2 hH2
  go_wp2_with fail
  go_ret
  exact ⟨retI HV.out, HB2.out⟩
theorem rone_116_a (jt jf k p n ev : Int) (hyp : 0 ≤ k ∧ k ≤ 4294967295 ∧ 0 ≤ p ∧ p < n ∧ n ≤ 9223372036854775807) (w : World) (hr : right 116 jt jf k = true) (hq : 31 < k) (hv : ev = 1) : Calls Tryd.prog 49 #[insV 116 jt jf k, .int .i64 p, .int .i64 n] w fun e w' => e = .returned (.int .i64 ev) ∧ Below w.heap.size w w' := by
  obtain ⟨hk, hk', h0, h1, h2⟩ := hyp
  have HV := Lib.hid hv
  clear hv
  have hb := ba (insB 116 jt jf k) (Below.refl w.heap.size w)
  have hH : (w.alloc (insB 116 jt jf k)).heap[w.heap.size]? = some (insB 116 jt jf k) := heap_alloc_new _ _
  go_enter Tryd.func49, Tryd.ntmps49
  go_wp2_with fail
  refine (refRight_any 116 jt jf k _).mono ?_
  rintro e w1 ⟨rfl, hB⟩
  have hH1 : w1.heap[w.heap.size]? = some (insB 116 jt jf k) := (hB.block _ (lt_of_block hH)).trans hH
  have hsz := lt_of_block hH1
  have HB1 := Lib.hid (hb.trans (hB.mono hb.size))
  have c0 : w1.cell? ⟨w.heap.size, 0, none⟩ = some (.int .i64 116) := cell_in hH1 0
  have c1 : w1.cell? ⟨w.heap.size, 1, none⟩ = some (.int .i64 jt) := cell_in hH1 1
  have c2 : w1.cell? ⟨w.heap.size, 2, none⟩ = some (.int .i64 jf) := cell_in hH1 2
  have c3 : w1.cell? ⟨w.heap.size, 3, none⟩ = some (.int .u32 k) := cell_in hH1 3
  have HX := Lib.hid hH1
  clear hH1 hB hb hH
  rw [hr]
  go_wp2_with fail
  go_ret
  exact ⟨retI HV.out, HB1.out⟩
theorem rone_116_b (jt jf k p n ev : Int) (hyp : 0 ≤ k ∧ k ≤ 4294967295 ∧ 0 ≤ p ∧ p < n ∧ n ≤ 9223372036854775807) (w : World) (hr : right 116 jt jf k = true) (hq : k ≤ 31) (hv : ev = 0) : Calls Tryd.prog 49 #[insV 116 jt jf k, .int .i64 p, .int .i64 n] w fun e w' => e = .returned (.int .i64 ev) ∧ Below w.heap.size w w' := by
  obtain ⟨hk, hk', h0, h1, h2⟩ := hyp
  have HV := Lib.hid hv
  clear hv
  have hb := ba (insB 116 jt jf k) (Below.refl w.heap.size w)
  have hH : (w.alloc (insB 116 jt jf k)).heap[w.heap.size]? = some (insB 116 jt jf k) := heap_alloc_new _ _
  go_enter Tryd.func49, Tryd.ntmps49
  go_wp2_with fail
  refine (refRight_any 116 jt jf k _).mono ?_
  rintro e w1 ⟨rfl, hB⟩
  have hH1 : w1.heap[w.heap.size]? = some (insB 116 jt jf k) := (hB.block _ (lt_of_block hH)).trans hH
  have hsz := lt_of_block hH1
  have HB1 := Lib.hid (hb.trans (hB.mono hb.size))
  have c0 : w1.cell? ⟨w.heap.size, 0, none⟩ = some (.int .i64 116) := cell_in hH1 0
  have c1 : w1.cell? ⟨w.heap.size, 1, none⟩ = some (.int .i64 jt) := cell_in hH1 1
  have c2 : w1.cell? ⟨w.heap.size, 2, none⟩ = some (.int .i64 jf) := cell_in hH1 2
  have c3 : w1.cell? ⟨w.heap.size, 3, none⟩ = some (.int .u32 k) := cell_in hH1 3
  have HX := Lib.hid hH1
  clear hH1 hB hb hH
  rw [hr]
  go_wp2_with fail
  refine (refBranch_any 116 jt jf k _).mono ?_
  rintro e w2 ⟨rfl, hB2⟩
  have HB2 := Lib.hid (HB1.out.trans (hB2.mono HB1.out.size))
  have hH2 : w2.heap[w.heap.size]? = some (insB 116 jt jf k) := (hB2.block _ hsz).trans HX.out
  have hsz2 := lt_of_block hH2
  have d1 : w2.cell? ⟨w.heap.size, 1, none⟩ = some (.int .i64 jt) := cell_in hH2 1
  have d2 : w2.cell? ⟨w.heap.size, 2, none⟩ = some (.int .i64 jf) := cell_in hH2 2
  rw [show isBranch 116 = false by decide]
  clear c0 c1 c2 c3 hB2 hH2
  go_wp2_with fail
  go_ret
  exact ⟨retI HV.out, HB2.out⟩
theorem rone_5_a (jt jf k p n ev : Int) (hyp : 0 ≤ k ∧ k ≤ 4294967295 ∧ 0 ≤ p ∧ p < n ∧ n ≤ 9223372036854775807) (w : World) (hr : right 5 jt jf k = true) (hq : n - 1 - p ≤ k) (hv : ev = 4) : Calls Tryd.prog 49 #[insV 5 jt jf k, .int .i64 p, .int .i64 n] w fun e w' => e = .returned (.int .i64 ev) ∧ Below w.heap.size w w' := by
  obtain ⟨hk, hk', h0, h1, h2⟩ := hyp
  have HV := Lib.hid hv
  clear hv
  have hb := ba (insB 5 jt jf k) (Below.refl w.heap.size w)
  have hH : (w.alloc (insB 5 jt jf k)).heap[w.heap.size]? = some (insB 5 jt jf k) := heap_alloc_new _ _
  go_enter Tryd.func49, Tryd.ntmps49
  go_wp2_with fail
  refine (refRight_any 5 jt jf k _).mono ?_
  rintro e w1 ⟨rfl, hB⟩
  have hH1 : w1.heap[w.heap.size]? = some (insB 5 jt jf k) := (hB.block _ (lt_of_block hH)).trans hH
  have hsz := lt_of_block hH1
  have HB1 := Lib.hid (hb.trans (hB.mono hb.size))
  have c0 : w1.cell? ⟨w.heap.size, 0, none⟩ = some (.int .i64 5) := cell_in hH1 0
  have c1 : w1.cell? ⟨w.heap.size, 1, none⟩ = some (.int .i64 jt) := cell_in hH1 1
  have c2 : w1.cell? ⟨w.heap.size, 2, none⟩ = some (.int .i64 jf) := cell_in hH1 2
  have c3 : w1.cell? ⟨w.heap.size, 3, none⟩ = some (.int .u32 k) := cell_in hH1 3
  have HX := Lib.hid hH1
  clear hH1 hB hb hH
  rw [hr]
  have hu1 : IntKind.u64.wrap k = k := by rw [IntKind.wrap_u64]; omega
  have hu2 : IntKind.u64.wrap (n - 1 - p) = n - 1 - p := by rw [IntKind.wrap_u64]; omega
  go_wp2_with fail
  go_ret
  exact ⟨retI HV.out, HB1.out⟩
theorem rone_5_b (jt jf k p n ev : Int) (hyp : 0 ≤ k ∧ k ≤ 4294967295 ∧ 0 ≤ p ∧ p < n ∧ n ≤ 9223372036854775807) (w : World) (hr : right 5 jt jf k = true) (hq : k < n - 1 - p) (hv : ev = 0) : Calls Tryd.prog 49 #[insV 5 jt jf k, .int .i64 p, .int .i64 n] w fun e w' => e = .returned (.int .i64 ev) ∧ Below w.heap.size w w' := by
  obtain ⟨hk, hk', h0, h1, h2⟩ := hyp
  have HV := Lib.hid hv
  clear hv
  have hb := ba (insB 5 jt jf k) (Below.refl w.heap.size w)
  have hH : (w.alloc (insB 5 jt jf k)).heap[w.heap.size]? = some (insB 5 jt jf k) := heap_alloc_new _ _
  go_enter Tryd.func49, Tryd.ntmps49
  go_wp2_with fail
  refine (refRight_any 5 jt jf k _).mono ?_
  rintro e w1 ⟨rfl, hB⟩
  have hH1 : w1.heap[w.heap.size]? = some (insB 5 jt jf k) := (hB.block _ (lt_of_block hH)).trans hH
  have hsz := lt_of_block hH1
  have HB1 := Lib.hid (hb.trans (hB.mono hb.size))
  have c0 : w1.cell? ⟨w.heap.size, 0, none⟩ = some (.int .i64 5) := cell_in hH1 0
  have c1 : w1.cell? ⟨w.heap.size, 1, none⟩ = some (.int .i64 jt) := cell_in hH1 1
  have c2 : w1.cell? ⟨w.heap.size, 2, none⟩ = some (.int .i64 jf) := cell_in hH1 2
  have c3 : w1.cell? ⟨w.heap.size, 3, none⟩ = some (.int .u32 k) := cell_in hH1 3
  have HX := Lib.hid hH1
  clear hH1 hB hb hH
  rw [hr]
  have hu1 : IntKind.u64.wrap k = k := by rw [IntKind.wrap_u64]; omega
  have hu2 : IntKind.u64.wrap (n - 1 - p) = n - 1 - p := by rw [IntKind.wrap_u64]; omega
  go_wp2_with fail
  refine (refBranch_any 5 jt jf k _).mono ?_
  rintro e w2 ⟨rfl, hB2⟩
  have HB2 := Lib.hid (HB1.out.trans (hB2.mono HB1.out.size))
  have hH2 : w2.heap[w.heap.size]? = some (insB 5 jt jf k) := (hB2.block _ hsz).trans HX.out
  have hsz2 := lt_of_block hH2
  have d1 : w2.cell? ⟨w.heap.size, 1, none⟩ = some (.int .i64 jt) := cell_in hH2 1
  have d2 : w2.cell? ⟨w.heap.size, 2, none⟩ = some (.int .i64 jf) := cell_in hH2 2
  rw [show isBranch 5 = false by decide]
  clear c0 c1 c2 c3 hB2 hH2
  go_wp2_with fail
  go_ret
  exact ⟨retI HV.out, HB2.out⟩
theorem rone_no (jt jf k p n ev : Int) (hyp : 0 ≤ k ∧ k ≤ 4294967295 ∧ 0 ≤ p ∧ p < n ∧ n ≤ 9223372036854775807) (w : World) (op : Int) (hr : right op jt jf k = true) (f32 : (op == 32) = false) (f2 : (op == 2) = false) (f3 : (op == 3) = false) (f96 : (op == 96) = false) (f97 : (op == 97) = false) (f52 : (op == 52) = false) (f100 : (op == 100) = false) (f116 : (op == 116) = false) (f5 : (op == 5) = false) (hb' : isBranch op = false) (hv : ev = 0) : Calls Tryd.prog 49 #[insV op jt jf k, .int .i64 p, .int .i64 n] w fun e w' => e = .returned (.int .i64 ev) ∧ Below w.heap.size w w' := by
  obtain ⟨hk, hk', h0, h1, h2⟩ := hyp
  have HV := Lib.hid hv
  clear hv
  have hb := ba (insB op jt jf k) (Below.refl w.heap.size w)
  have hH : (w.alloc (insB op jt jf k)).heap[w.heap.size]? = some (insB op jt jf k) := heap_alloc_new _ _
  go_enter Tryd.func49, Tryd.ntmps49
  go_wp2_with fail
  refine (refRight_any op jt jf k _).mono ?_
  rintro e w1 ⟨rfl, hB⟩
  have hH1 : w1.heap[w.heap.size]? = some (insB op jt jf k) := (hB.block _ (lt_of_block hH)).trans hH
  have hsz := lt_of_block hH1
  have HB1 := Lib.hid (hb.trans (hB.mono hb.size))
  have c0 : w1.cell? ⟨w.heap.size, 0, none⟩ = some (.int .i64 op) := cell_in hH1 0
  have c1 : w1.cell? ⟨w.heap.size, 1, none⟩ = some (.int .i64 jt) := cell_in hH1 1
  have c2 : w1.cell? ⟨w.heap.size, 2, none⟩ = some (.int .i64 jf) := cell_in hH1 2
  have c3 : w1.cell? ⟨w.heap.size, 3, none⟩ = some (.int .u32 k) := cell_in hH1 3
  have HX := Lib.hid hH1
  clear hH1 hB hb hH
  rw [hr]
  go_wp2_with fail
  refine (refBranch_any op jt jf k _).mono ?_
  rintro e w2 ⟨rfl, hB2⟩
  have HB2 := Lib.hid (HB1.out.trans (hB2.mono HB1.out.size))
  have hH2 : w2.heap[w.heap.size]? = some (insB op jt jf k) := (hB2.block _ hsz).trans HX.out
  have hsz2 := lt_of_block hH2
  have d1 : w2.cell? ⟨w.heap.size, 1, none⟩ = some (.int .i64 jt) := cell_in hH2 1
  have d2 : w2.cell? ⟨w.heap.size, 2, none⟩ = some (.int .i64 jf) := cell_in hH2 2
  rw [hb']
  clear c0 c1 c2 c3 hB2 hH2
  go_wp2_with fail
  go_ret
  exact ⟨retI HV.out, HB2.out⟩
theorem rone_br_a (jt jf k p n ev : Int) (hyp : 0 ≤ k ∧ k ≤ 4294967295 ∧ 0 ≤ p ∧ p < n ∧ n ≤ 9223372036854775807) (w : World) (op : Int) (hr : right op jt jf k = true) (f32 : (op == 32) = false) (f2 : (op == 2) = false) (f3 : (op == 3) = false) (f96 : (op == 96) = false) (f97 : (op == 97) = false) (f52 : (op == 52) = false) (f100 : (op == 100) = false) (f116 : (op == 116) = false) (f5 : (op == 5) = false) (hb' : isBranch op = true) (hq : n - 1 - p ≤ jt) (hv : ev = 4) : Calls Tryd.prog 49 #[insV op jt jf k, .int .i64 p, .int .i64 n] w fun e w' => e = .returned (.int .i64 ev) ∧ Below w.heap.size w w' := by
  obtain ⟨hk, hk', h0, h1, h2⟩ := hyp
  have HV := Lib.hid hv
  clear hv
  have hb := ba (insB op jt jf k) (Below.refl w.heap.size w)
  have hH : (w.alloc (insB op jt jf k)).heap[w.heap.size]? = some (insB op jt jf k) := heap_alloc_new _ _
  go_enter Tryd.func49, Tryd.ntmps49
  go_wp2_with fail
  refine (refRight_any op jt jf k _).mono ?_
  rintro e w1 ⟨rfl, hB⟩
  have hH1 : w1.heap[w.heap.size]? = some (insB op jt jf k) := (hB.block _ (lt_of_block hH)).trans hH
  have hsz := lt_of_block hH1
  have HB1 := Lib.hid (hb.trans (hB.mono hb.size))
  have c0 : w1.cell? ⟨w.heap.size, 0, none⟩ = some (.int .i64 op) := cell_in hH1 0
  have c1 : w1.cell? ⟨w.heap.size, 1, none⟩ = some (.int .i64 jt) := cell_in hH1 1
  have c2 : w1.cell? ⟨w.heap.size, 2, none⟩ = some (.int .i64 jf) := cell_in hH1 2
  have c3 : w1.cell? ⟨w.heap.size, 3, none⟩ = some (.int .u32 k) := cell_in hH1 3
  have HX := Lib.hid hH1
  clear hH1 hB hb hH
  rw [hr]
  go_wp2_with fail
  refine (refBranch_any op jt jf k _).mono ?_
  rintro e w2 ⟨rfl, hB2⟩
  have HB2 := Lib.hid (HB1.out.trans (hB2.mono HB1.out.size))
  have hH2 : w2.heap[w.heap.size]? = some (insB op jt jf k) := (hB2.block _ hsz).trans HX.out
  have hsz2 := lt_of_block hH2
  have d1 : w2.cell? ⟨w.heap.size, 1, none⟩ = some (.int .i64 jt) := cell_in hH2 1
  have d2 : w2.cell? ⟨w.heap.size, 2, none⟩ = some (.int .i64 jf) := cell_in hH2 2
  rw [hb']
  clear c0 c1 c2 c3 hB2 hH2
  go_wp2_with fail
  go_ret
  exact ⟨retI HV.out, HB2.out⟩
theorem rone_br_b (jt jf k p n ev : Int) (hyp : 0 ≤ k ∧ k ≤ 4294967295 ∧ 0 ≤ p ∧ p < n ∧ n ≤ 9223372036854775807) (w : World) (op : Int) (hr : right op jt jf k = true) (f32 : (op == 32) = false) (f2 : (op == 2) = false) (f3 : (op == 3) = false) (f96 : (op == 96) = false) (f97 : (op == 97) = false) (f52 : (op == 52) = false) (f100 : (op == 100) = false) (f116 : (op == 116) = false) (f5 : (op == 5) = false) (hb' : isBranch op = true) (hq : jt < n - 1 - p) (hq' : n - 1 - p ≤ jf) (hv : ev = 4) : Calls Tryd.prog 49 #[insV op jt jf k, .int .i64 p, .int .i64 n] w fun e w' => e = .returned (.int .i64 ev) ∧ Below w.heap.size w w' := by
  obtain ⟨hk, hk', h0, h1, h2⟩ := hyp
  have HV := Lib.hid hv
  clear hv
  have hb := ba (insB op jt jf k) (Below.refl w.heap.size w)
  have hH : (w.alloc (insB op jt jf k)).heap[w.heap.size]? = some (insB op jt jf k) := heap_alloc_new _ _
  go_enter Tryd.func49, Tryd.ntmps49
  go_wp2_with fail
  refine (refRight_any op jt jf k _).mono ?_
  rintro e w1 ⟨rfl, hB⟩
  have hH1 : w1.heap[w.heap.size]? = some (insB op jt jf k) := (hB.block _ (lt_of_block hH)).trans hH
  have hsz := lt_of_block hH1
  have HB1 := Lib.hid (hb.trans (hB.mono hb.size))
  have c0 : w1.cell? ⟨w.heap.size, 0, none⟩ = some (.int .i64 op) := cell_in hH1 0
  have c1 : w1.cell? ⟨w.heap.size, 1, none⟩ = some (.int .i64 jt) := cell_in hH1 1
  have c2 : w1.cell? ⟨w.heap.size, 2, none⟩ = some (.int .i64 jf) := cell_in hH1 2
  have c3 : w1.cell? ⟨w.heap.size, 3, none⟩ = some (.int .u32 k) := cell_in hH1 3
  have HX := Lib.hid hH1
  clear hH1 hB hb hH
  rw [hr]
  go_wp2_with fail
  refine (refBranch_any op jt jf k _).mono ?_
  rintro e w2 ⟨rfl, hB2⟩
  have HB2 := Lib.hid (HB1.out.trans (hB2.mono HB1.out.size))
  have hH2 : w2.heap[w.heap.size]? = some (insB op jt jf k) := (hB2.block _ hsz).trans HX.out
  have hsz2 := lt_of_block hH2
  have d1 : w2.cell? ⟨w.heap.size, 1, none⟩ = some (.int .i64 jt) := cell_in hH2 1
  have d2 : w2.cell? ⟨w.heap.size, 2, none⟩ = some (.int .i64 jf) := cell_in hH2 2
  rw [hb']
  clear c0 c1 c2 c3 hB2 hH2
  go_wp2_with fail
  go_ret
  exact ⟨retI HV.out, HB2.out⟩
theorem rone_br_c (jt jf k p n ev : Int) (hyp : 0 ≤ k ∧ k ≤ 4294967295 ∧ 0 ≤ p ∧ p < n ∧ n ≤ 9223372036854775807) (w : World) (op : Int) (hr : right op jt jf k = true) (f32 : (op == 32) = false) (f2 : (op == 2) = false) (f3 : (op == 3) = false) (f96 : (op == 96) = false) (f97 : (op == 97) = false) (f52 : (op == 52) = false) (f100 : (op == 100) = false) (f116 : (op == 116) = false) (f5 : (op == 5) = false) (hb' : isBranch op = true) (hq : jt < n - 1 - p) (hq' : jf < n - 1 - p) (hv : ev = 0) : Calls Tryd.prog 49 #[insV op jt jf k, .int .i64 p, .int .i64 n] w fun e w' => e = .returned (.int .i64 ev) ∧ Below w.heap.size w w' := by
  obtain ⟨hk, hk', h0, h1, h2⟩ := hyp
  have HV := Lib.hid hv
  clear hv
  have hb := ba (insB op jt jf k) (Below.refl w.heap.size w)
  have hH : (w.alloc (insB op jt jf k)).heap[w.heap.size]? = some (insB op jt jf k) := heap_alloc_new _ _
  go_enter Tryd.func49, Tryd.ntmps49
  go_wp2_with fail
  refine (refRight_any op jt jf k _).mono ?_
  rintro e w1 ⟨rfl, hB⟩
  have hH1 : w1.heap[w.heap.size]? = some (insB op jt jf k) := (hB.block _ (lt_of_block hH)).trans hH
  have hsz := lt_of_block hH1
  have HB1 := Lib.hid (hb.trans (hB.mono hb.size))
  have c0 : w1.cell? ⟨w.heap.size, 0, none⟩ = some (.int .i64 op) := cell_in hH1 0
  have c1 : w1.cell? ⟨w.heap.size, 1, none⟩ = some (.int .i64 jt) := cell_in hH1 1
  have c2 : w1.cell? ⟨w.heap.size, 2, none⟩ = some (.int .i64 jf) := cell_in hH1 2
  have c3 : w1.cell? ⟨w.heap.size, 3, none⟩ = some (.int .u32 k) := cell_in hH1 3
  have HX := Lib.hid hH1
  clear hH1 hB hb hH
  rw [hr]
  go_wp2_with fail
  refine (refBranch_any op jt jf k _).mono ?_
  rintro e w2 ⟨rfl, hB2⟩
  have HB2 := Lib.hid (HB1.out.trans (hB2.mono HB1.out.size))
  have hH2 : w2.heap[w.heap.size]? = some (insB op jt jf k) := (hB2.block _ hsz).trans HX.out
  have hsz2 := lt_of_block hH2
  have d1 : w2.cell? ⟨w.heap.size, 1, none⟩ = some (.int .i64 jt) := cell_in hH2 1
  have d2 : w2.cell? ⟨w.heap.size, 2, none⟩ = some (.int .i64 jf) := cell_in hH2 2
  rw [hb']
  clear c0 c1 c2 c3 hB2 hH2
  go_wp2_with fail
  go_ret
  exact ⟨retI HV.out, HB2.out⟩
/-- The document's error of an instruction at a place of so many. -/
theorem rone_any (x : X4) (hx : x.ok) (p n : Int) (h0 : 0 ≤ p) (h1 : p < n) (h2 : n ≤ 9223372036854775807) (w : World) :
    Calls Tryd.prog 49 #[x.val, .int .i64 p, .int .i64 n] w fun e w' => e = .returned (.int .i64 (oneE x (n - 1 - p))) ∧ Below w.heap.size w w' := by
  have HE := one_kind x (n - 1 - p) hx.1
  generalize oneE x (n - 1 - p) = ev at HE ⊢
  obtain ⟨op, jt, jf, k⟩ := x
  obtain ⟨hk, hk'⟩ := hx
  simp only [X4.right] at hk hk' HE
  have hyp : 0 ≤ k ∧ k ≤ 4294967295 ∧ 0 ≤ p ∧ p < n ∧ n ≤ 9223372036854775807 := ⟨hk, hk', h0, h1, h2⟩
  cases hr : right op jt jf k
  · exact rone_bad jt jf k p n ev hyp w op hr (HE.trans (by rw [hr]; rfl))
  rw [hr] at HE
  simp only [Bool.true_eq_false, if_false] at HE
  by_cases e1 : op = 32
  · subst e1
    have HE : ev = if (k.tmod 4 == 0 && decide (k < 64)) = true then 0 else 6 := HE
    rw [Int.tmod_eq_emod_of_nonneg hk] at HE
    by_cases a : k % 4 = 0
    · by_cases b : k < 64
      · exact rone_32_c jt jf k p n ev hyp w hr a (by omega) (HE.trans (by simp [a, b]))
      · exact rone_32_b jt jf k p n ev hyp w hr a (by omega) (HE.trans (by simp [a, b]))
    · exact rone_32_a jt jf k p n ev hyp w hr a (HE.trans (by simp [a]))
  by_cases e2 : op = 2
  · subst e2
    have HE : ev = if decide (k < 16) = true then 0 else 7 := HE
    by_cases b : k < 16
    · exact rone_2_b jt jf k p n ev hyp w hr (by omega) (HE.trans (by simp [b]))
    · exact rone_2_a jt jf k p n ev hyp w hr (by omega) (HE.trans (by simp [b]))
  by_cases e3 : op = 3
  · subst e3
    have HE : ev = if decide (k < 16) = true then 0 else 7 := HE
    by_cases b : k < 16
    · exact rone_3_b jt jf k p n ev hyp w hr (by omega) (HE.trans (by simp [b]))
    · exact rone_3_a jt jf k p n ev hyp w hr (by omega) (HE.trans (by simp [b]))
  by_cases e96 : op = 96
  · subst e96
    have HE : ev = if decide (k < 16) = true then 0 else 7 := HE
    by_cases b : k < 16
    · exact rone_96_b jt jf k p n ev hyp w hr (by omega) (HE.trans (by simp [b]))
    · exact rone_96_a jt jf k p n ev hyp w hr (by omega) (HE.trans (by simp [b]))
  by_cases e97 : op = 97
  · subst e97
    have HE : ev = if decide (k < 16) = true then 0 else 7 := HE
    by_cases b : k < 16
    · exact rone_97_b jt jf k p n ev hyp w hr (by omega) (HE.trans (by simp [b]))
    · exact rone_97_a jt jf k p n ev hyp w hr (by omega) (HE.trans (by simp [b]))
  by_cases e52 : op = 52
  · subst e52
    have HE : ev = if (k != 0) = true then 0 else 8 := HE
    cases b : (k == 0)
    · exact rone_52_b jt jf k p n ev hyp w hr b (HE.trans (by rw [bne, b]; rfl))
    · exact rone_52_a jt jf k p n ev hyp w hr b (HE.trans (by rw [bne, b]; rfl))
  by_cases e100 : op = 100
  · subst e100
    have HE : ev = if decide (k < 32) = true then 0 else 1 := HE
    by_cases b : k < 32
    · exact rone_100_b jt jf k p n ev hyp w hr (by omega) (HE.trans (by simp [b]))
    · exact rone_100_a jt jf k p n ev hyp w hr (by omega) (HE.trans (by simp [b]))
  by_cases e116 : op = 116
  · subst e116
    have HE : ev = if decide (k < 32) = true then 0 else 1 := HE
    by_cases b : k < 32
    · exact rone_116_b jt jf k p n ev hyp w hr (by omega) (HE.trans (by simp [b]))
    · exact rone_116_a jt jf k p n ev hyp w hr (by omega) (HE.trans (by simp [b]))
  by_cases e5 : op = 5
  · subst e5
    have HE : ev = if decide (k < n - 1 - p) = true then 0 else 4 := HE
    by_cases b : k < n - 1 - p
    · exact rone_5_b jt jf k p n ev hyp w hr (by omega) (HE.trans (by simp [b]))
    · exact rone_5_a jt jf k p n ev hyp w hr (by omega) (HE.trans (by simp [b]))
  have hf : ∀ c : Int, ¬ op = c → (op == c) = false := fun c h => by simpa using h
  cases hb : isBranch op
  · have h6 : ¬ kindOf op = 6 := by rw [branch_kind] at hb; simpa using hb
    have h0' : kindOf op = 0 := by
      unfold kindOf at h6 ⊢
      rw [if_neg e1, if_neg (by omega), if_neg e52, if_neg (by omega), if_neg e5] at h6 ⊢
      by_cases h : op = 21 ∨ op = 37 ∨ op = 53 ∨ op = 69 ∨ op = 29 ∨ op = 45 ∨ op = 61 ∨ op = 77
      · rw [if_pos h] at h6; exact absurd rfl h6
      · rw [if_neg h]
    exact rone_no jt jf k p n ev hyp w op hr (hf _ e1) (hf _ e2) (hf _ e3) (hf _ e96) (hf _ e97) (hf _ e52) (hf _ e100) (hf _ e116) (hf _ e5) hb (HE.trans (by rw [h0']; rfl))
  · have h6 : kindOf op = 6 := by rw [branch_kind] at hb; simpa using hb
    rw [h6] at HE
    have HE : ev = if (decide (jt < n - 1 - p) && decide (jf < n - 1 - p)) = true then 0 else 4 := HE
    by_cases a : jt < n - 1 - p
    · by_cases b : jf < n - 1 - p
      · exact rone_br_c jt jf k p n ev hyp w op hr (hf _ e1) (hf _ e2) (hf _ e3) (hf _ e96) (hf _ e97) (hf _ e52) (hf _ e100) (hf _ e116) (hf _ e5) hb a b (HE.trans (by simp [a, b]))
      · exact rone_br_b jt jf k p n ev hyp w op hr (hf _ e1) (hf _ e2) (hf _ e3) (hf _ e96) (hf _ e97) (hf _ e52) (hf _ e100) (hf _ e116) (hf _ e5) hb a (by omega) (HE.trans (by simp [a, b]))
    · exact rone_br_a jt jf k p n ev hyp w op hr (hf _ e1) (hf _ e2) (hf _ e3) (hf _ e96) (hf _ e97) (hf _ e52) (hf _ e100) (hf _ e116) (hf _ e5) hb (by omega) (HE.trans (by simp [a]))
end Go.Proofs.YtmbegncnbjafdaaDoor
