/-
  What the laws' texts use, joined.
-/
import Derived.Test.YtmbgcfikpndamaaDoorProg
import Derived.WalkKit
import Derived.ProofKit
import Derived.Lib.Hide
import Derived.Laws.Rows
import Derived.Laws.ResultCell
import Derived.Laws.Entries
import Derived.Handy
import Derived.OwnWalk
import Derived.Laws.OwnMore
import Derived.Deep.Draws
import Derived.Laws.IdiomStrings
import Derived.Lib.BufferRead
import Derived.Maps.OwnSet
import Derived.Laws.BitsAllLaws
import Derived.RowKit
import Derived.Lib.QuietBelow
import Derived.Lib.OthersKept
import Derived.BigQuiet
import Derived.IntWalk
import Derived.Deep.RegionHeld3
import Derived.BigRegion
import Derived.Laws.Tables
import Derived.Deep.DeepCutAuto
import Derived.Deep.QuietTactic
import Derived.Test.YtmbgcfikpndamaaDoorRows
import Derived.OpenShut
import Derived.Carry
import Derived.Deep.DeepHandedRow
import Derived.Lib.SmallJoins
import Derived.WalkMore
import Derived.Test.YtmbgcfikpndamaaDoorPk1
import Derived.Test.YtmbgcfikpndamaaDoorPk2
/-
  The document's One: the error of an instruction at a place of so many.
-/
namespace Go.Proofs.YtmbgcfikpndamaaDoor
open Go.ChangeShapes Go.WideShapes Go.ChangeAt Go.RowKit
set_option maxRecDepth 20000

theorem rone_bad (jt jf k p n ev : Int) (hyp : 0 ≤ k ∧ k ≤ 4294967295 ∧ 0 ≤ p ∧ p < n ∧ n ≤ 9223372036854775807) (w : World) (op : Int) (hr : right op jt jf k = false) (hv : ev = 1) : Calls Tryd.prog 17 #[insV op jt jf k, .int .i64 p, .int .i64 n] w fun e w' => e = .returned (.int .i64 ev) ∧ Below w.heap.size w w' := by
  obtain ⟨hk, hk', h0, h1, h2⟩ := hyp
  have HV := Lib.hid hv
  clear hv
  have hb := ba (insB op jt jf k) (Below.refl w.heap.size w)
  have hH : (w.alloc (insB op jt jf k)).heap[w.heap.size]? = some (insB op jt jf k) := heap_alloc_new _ _
  go_enter Tryd.func17, Tryd.ntmps17
  go_wp2_with fail
  refine (refRight_any op jt jf k _).mono ?_
  rintro e w1 ⟨rfl, hB⟩
  have hH1 : w1.heap[w.heap.size]? = some (insB op jt jf k) := (hB.block _ (lt_of_block hH)).trans hH
  have hsz := lt_of_block hH1
  have HB1 := Lib.hid (hb.trans (hB.mono hb.size))
  have c0 : w1.cell? ⟨w.heap.size, 0, none⟩ = some (.int .i64 op) := cell_in hH1 0
  have c1 : w1.cell? ⟨w.heap.size, 1, none⟩ = some (.int .i64 jt) := cell_in hH1 1
  have c2 : w1.cell? ⟨w.heap.size, 2, none⟩ = some (.int .i64 jf) := cell_in hH1 2
  have c3 : w1.cell? ⟨w.heap.size, 3, none⟩ = some (.int .u32 k) := cell_in hH1 3
  have HX := Lib.hid hH1
  clear hH1 hB hb hH
  rw [hr]
  go_wp2_with fail
  go_ret
  exact ⟨retI HV.out, HB1.out⟩
theorem rone_32_a (jt jf k p n ev : Int) (hyp : 0 ≤ k ∧ k ≤ 4294967295 ∧ 0 ≤ p ∧ p < n ∧ n ≤ 9223372036854775807) (w : World) (hr : right 32 jt jf k = true) (hq : ¬ k % 4 = 0) (hv : ev = 6) : Calls Tryd.prog 17 #[insV 32 jt jf k, .int .i64 p, .int .i64 n] w fun e w' => e = .returned (.int .i64 ev) ∧ Below w.heap.size w w' := by
  obtain ⟨hk, hk', h0, h1, h2⟩ := hyp
  have HV := Lib.hid hv
  clear hv
  have hb := ba (insB 32 jt jf k) (Below.refl w.heap.size w)
  have hH : (w.alloc (insB 32 jt jf k)).heap[w.heap.size]? = some (insB 32 jt jf k) := heap_alloc_new _ _
  go_enter Tryd.func17, Tryd.ntmps17
  go_wp2_with fail
  refine (refRight_any 32 jt jf k _).mono ?_
  rintro e w1 ⟨rfl, hB⟩
  have hH1 : w1.heap[w.heap.size]? = some (insB 32 jt jf k) := (hB.block _ (lt_of_block hH)).trans hH
  have hsz := lt_of_block hH1
  have HB1 := Lib.hid (hb.trans (hB.mono hb.size))
  have c0 : w1.cell? ⟨w.heap.size, 0, none⟩ = some (.int .i64 32) := cell_in hH1 0
  have c1 : w1.cell? ⟨w.heap.size, 1, none⟩ = some (.int .i64 jt) := cell_in hH1 1
  have c2 : w1.cell? ⟨w.heap.size, 2, none⟩ = some (.int .i64 jf) := cell_in hH1 2
  have c3 : w1.cell? ⟨w.heap.size, 3, none⟩ = some (.int .u32 k) := cell_in hH1 3
  have HX := Lib.hid hH1
  clear hH1 hB hb hH
  rw [hr]
  go_wp2_with fail
  go_ret
  exact ⟨retI HV.out, HB1.out⟩
theorem rone_32_b (jt jf k p n ev : Int) (hyp : 0 ≤ k ∧ k ≤ 4294967295 ∧ 0 ≤ p ∧ p < n ∧ n ≤ 9223372036854775807) (w : World) (hr : right 32 jt jf k = true) (hq : k % 4 = 0) (hq' : 60 < k) (hv : ev = 6) : Calls Tryd.prog 17 #[insV 32 jt jf k, .int .i64 p, .int .i64 n] w fun e w' => e = .returned (.int .i64 ev) ∧ Below w.heap.size w w' := by
  obtain ⟨hk, hk', h0, h1, h2⟩ := hyp
  have HV := Lib.hid hv
  clear hv
  have hb := ba (insB 32 jt jf k) (Below.refl w.heap.size w)
  have hH : (w.alloc (insB 32 jt jf k)).heap[w.heap.size]? = some (insB 32 jt jf k) := heap_alloc_new _ _
  go_enter Tryd.func17, Tryd.ntmps17
  go_wp2_with fail
  refine (refRight_any 32 jt jf k _).mono ?_
  rintro e w1 ⟨rfl, hB⟩
  have hH1 : w1.heap[w.heap.size]? = some (insB 32 jt jf k) := (hB.block _ (lt_of_block hH)).trans hH
  have hsz := lt_of_block hH1
  have HB1 := Lib.hid (hb.trans (hB.mono hb.size))
  have c0 : w1.cell? ⟨w.heap.size, 0, none⟩ = some (.int .i64 32) := cell_in hH1 0
  have c1 : w1.cell? ⟨w.heap.size, 1, none⟩ = some (.int .i64 jt) := cell_in hH1 1
  have c2 : w1.cell? ⟨w.heap.size, 2, none⟩ = some (.int .i64 jf) := cell_in hH1 2
  have c3 : w1.cell? ⟨w.heap.size, 3, none⟩ = some (.int .u32 k) := cell_in hH1 3
  have HX := Lib.hid hH1
  clear hH1 hB hb hH
  rw [hr]
  go_wp2_with fail
  go_ret
  exact ⟨retI HV.out, HB1.out⟩
theorem rone_32_c (jt jf k p n ev : Int) (hyp : 0 ≤ k ∧ k ≤ 4294967295 ∧ 0 ≤ p ∧ p < n ∧ n ≤ 9223372036854775807) (w : World) (hr : right 32 jt jf k = true) (hq : k % 4 = 0) (hq' : k ≤ 60) (hv : ev = 0) : Calls Tryd.prog 17 #[insV 32 jt jf k, .int .i64 p, .int .i64 n] w fun e w' => e = .returned (.int .i64 ev) ∧ Below w.heap.size w w' := by
  obtain ⟨hk, hk', h0, h1, h2⟩ := hyp
  have HV := Lib.hid hv
  clear hv
  have hb := ba (insB 32 jt jf k) (Below.refl w.heap.size w)
  have hH : (w.alloc (insB 32 jt jf k)).heap[w.heap.size]? = some (insB 32 jt jf k) := heap_alloc_new _ _
  go_enter Tryd.func17, Tryd.ntmps17
  go_wp2_with fail
  refine (refRight_any 32 jt jf k _).mono ?_
  rintro e w1 ⟨rfl, hB⟩
  have hH1 : w1.heap[w.heap.size]? = some (insB 32 jt jf k) := (hB.block _ (lt_of_block hH)).trans hH
  have hsz := lt_of_block hH1
  have HB1 := Lib.hid (hb.trans (hB.mono hb.size))
  have c0 : w1.cell? ⟨w.heap.size, 0, none⟩ = some (.int .i64 32) := cell_in hH1 0
  have c1 : w1.cell? ⟨w.heap.size, 1, none⟩ = some (.int .i64 jt) := cell_in hH1 1
  have c2 : w1.cell? ⟨w.heap.size, 2, none⟩ = some (.int .i64 jf) := cell_in hH1 2
  have c3 : w1.cell? ⟨w.heap.size, 3, none⟩ = some (.int .u32 k) := cell_in hH1 3
  have HX := Lib.hid hH1
  clear hH1 hB hb hH
  rw [hr]
  go_wp2_with fail
  refine (refBranch_any 32 jt jf k _).mono ?_
  rintro e w2 ⟨rfl, hB2⟩
  have HB2 := Lib.hid (HB1.out.trans (hB2.mono HB1.out.size))
  have hH2 : w2.heap[w.heap.size]? = some (insB 32 jt jf k) := (hB2.block _ hsz).trans HX.out
  have hsz2 := lt_of_block hH2
  have d1 : w2.cell? ⟨w.heap.size, 1, none⟩ = some (.int .i64 jt) := cell_in hH2 1
  have d2 : w2.cell? ⟨w.heap.size, 2, none⟩ = some (.int .i64 jf) := cell_in hH2 2
  rw [show isBranch 32 = false by decide]
  clear c0 c1 c2 c3 hB2 hH2
  go_wp2_with fail
  go_ret
  exact ⟨retI HV.out, HB2.out⟩
theorem rone_2_a (jt jf k p n ev : Int) (hyp : 0 ≤ k ∧ k ≤ 4294967295 ∧ 0 ≤ p ∧ p < n ∧ n ≤ 9223372036854775807) (w : World) (hr : right 2 jt jf k = true) (hq : 15 < k) (hv : ev = 7) : Calls Tryd.prog 17 #[insV 2 jt jf k, .int .i64 p, .int .i64 n] w fun e w' => e = .returned (.int .i64 ev) ∧ Below w.heap.size w w' := by
  obtain ⟨hk, hk', h0, h1, h2⟩ := hyp
  have HV := Lib.hid hv
  clear hv
  have hb := ba (insB 2 jt jf k) (Below.refl w.heap.size w)
  have hH : (w.alloc (insB 2 jt jf k)).heap[w.heap.size]? = some (insB 2 jt jf k) := heap_alloc_new _ _
  go_enter Tryd.func17, Tryd.ntmps17
  go_wp2_with fail
  refine (refRight_any 2 jt jf k _).mono ?_
  rintro e w1 ⟨rfl, hB⟩
  have hH1 : w1.heap[w.heap.size]? = some (insB 2 jt jf k) := (hB.block _ (lt_of_block hH)).trans hH
  have hsz := lt_of_block hH1
  have HB1 := Lib.hid (hb.trans (hB.mono hb.size))
  have c0 : w1.cell? ⟨w.heap.size, 0, none⟩ = some (.int .i64 2) := cell_in hH1 0
  have c1 : w1.cell? ⟨w.heap.size, 1, none⟩ = some (.int .i64 jt) := cell_in hH1 1
  have c2 : w1.cell? ⟨w.heap.size, 2, none⟩ = some (.int .i64 jf) := cell_in hH1 2
  have c3 : w1.cell? ⟨w.heap.size, 3, none⟩ = some (.int .u32 k) := cell_in hH1 3
  have HX := Lib.hid hH1
  clear hH1 hB hb hH
  rw [hr]
  go_wp2_with fail
  go_ret
  exact ⟨retI HV.out, HB1.out⟩
theorem rone_2_b (jt jf k p n ev : Int) (hyp : 0 ≤ k ∧ k ≤ 4294967295 ∧ 0 ≤ p ∧ p < n ∧ n ≤ 9223372036854775807) (w : World) (hr : right 2 jt jf k = true) (hq : k ≤ 15) (hv : ev = 0) : Calls Tryd.prog 17 #[insV 2 jt jf k, .int .i64 p, .int .i64 n] w fun e w' => e = .returned (.int .i64 ev) ∧ Below w.heap.size w w' := by
  obtain ⟨hk, hk', h0, h1, h2⟩ := hyp
  have HV := Lib.hid hv
  clear hv
  have hb := ba (insB 2 jt jf k) (Below.refl w.heap.size w)
  have hH : (w.alloc (insB 2 jt jf k)).heap[w.heap.size]? = some (insB 2 jt jf k) := heap_alloc_new _ _
  go_enter Tryd.func17, Tryd.ntmps17
  go_wp2_with fail
  refine (refRight_any 2 jt jf k _).mono ?_
  rintro e w1 ⟨rfl, hB⟩
  have hH1 : w1.heap[w.heap.size]? = some (insB 2 jt jf k) := (hB.block _ (lt_of_block hH)).trans hH
  have hsz := lt_of_block hH1
  have HB1 := Lib.hid (hb.trans (hB.mono hb.size))
  have c0 : w1.cell? ⟨w.heap.size, 0, none⟩ = some (.int .i64 2) := cell_in hH1 0
  have c1 : w1.cell? ⟨w.heap.size, 1, none⟩ = some (.int .i64 jt) := cell_in hH1 1
  have c2 : w1.cell? ⟨w.heap.size, 2, none⟩ = some (.int .i64 jf) := cell_in hH1 2
  have c3 : w1.cell? ⟨w.heap.size, 3, none⟩ = some (.int .u32 k) := cell_in hH1 3
  have HX := Lib.hid hH1
  clear hH1 hB hb hH
  rw [hr]
  go_wp2_with fail
  refine (refBranch_any 2 jt jf k _).mono ?_
  rintro e w2 ⟨rfl, hB2⟩
  have HB2 := Lib.hid (HB1.out.trans (hB2.mono HB1.out.size))
  have hH2 : w2.heap[w.heap.size]? = some (insB 2 jt jf k) := (hB2.block _ hsz).trans HX.out
  have hsz2 := lt_of_block hH2
  have d1 : w2.cell? ⟨w.heap.size, 1, none⟩ = some (.int .i64 jt) := cell_in hH2 1
  have d2 : w2.cell? ⟨w.heap.size, 2, none⟩ = some (.int .i64 jf) := cell_in hH2 2
  rw [show isBranch 2 = false by decide]
  clear c0 c1 c2 c3 hB2 hH2
  go_wp2_with fail
  go_ret
  exact ⟨retI HV.out, HB2.out⟩
theorem rone_3_a (jt jf k p n ev : Int) (hyp : 0 ≤ k ∧ k ≤ 4294967295 ∧ 0 ≤ p ∧ p < n ∧ n ≤ 9223372036854775807) (w : World) (hr : right 3 jt jf k = true) (hq : 15 < k) (hv : ev = 7) : Calls Tryd.prog 17 #[insV 3 jt jf k, .int .i64 p, .int .i64 n] w fun e w' => e = .returned (.int .i64 ev) ∧ Below w.heap.size w w' := by
  obtain ⟨hk, hk', h0, h1, h2⟩ := hyp
  have HV := Lib.hid hv
  clear hv
  have hb := ba (insB 3 jt jf k) (Below.refl w.heap.size w)
  have hH : (w.alloc (insB 3 jt jf k)).heap[w.heap.size]? = some (insB 3 jt jf k) := heap_alloc_new _ _
  go_enter Tryd.func17, Tryd.ntmps17
  go_wp2_with fail
  refine (refRight_any 3 jt jf k _).mono ?_
  rintro e w1 ⟨rfl, hB⟩
  have hH1 : w1.heap[w.heap.size]? = some (insB 3 jt jf k) := (hB.block _ (lt_of_block hH)).trans hH
  have hsz := lt_of_block hH1
  have HB1 := Lib.hid (hb.trans (hB.mono hb.size))
  have c0 : w1.cell? ⟨w.heap.size, 0, none⟩ = some (.int .i64 3) := cell_in hH1 0
  have c1 : w1.cell? ⟨w.heap.size, 1, none⟩ = some (.int .i64 jt) := cell_in hH1 1
  have c2 : w1.cell? ⟨w.heap.size, 2, none⟩ = some (.int .i64 jf) := cell_in hH1 2
  have c3 : w1.cell? ⟨w.heap.size, 3, none⟩ = some (.int .u32 k) := cell_in hH1 3
  have HX := Lib.hid hH1
  clear hH1 hB hb hH
  rw [hr]
  go_wp2_with fail
  go_ret
  exact ⟨retI HV.out, HB1.out⟩
theorem rone_3_b (jt jf k p n ev : Int) (hyp : 0 ≤ k ∧ k ≤ 4294967295 ∧ 0 ≤ p ∧ p < n ∧ n ≤ 9223372036854775807) (w : World) (hr : right 3 jt jf k = true) (hq : k ≤ 15) (hv : ev = 0) : Calls Tryd.prog 17 #[insV 3 jt jf k, .int .i64 p, .int .i64 n] w fun e w' => e = .returned (.int .i64 ev) ∧ Below w.heap.size w w' := by
  obtain ⟨hk, hk', h0, h1, h2⟩ := hyp
  have HV := Lib.hid hv
  clear hv
  have hb := ba (insB 3 jt jf k) (Below.refl w.heap.size w)
  have hH : (w.alloc (insB 3 jt jf k)).heap[w.heap.size]? = some (insB 3 jt jf k) := heap_alloc_new _ _
  go_enter Tryd.func17, Tryd.ntmps17
  go_wp2_with fail
  refine (refRight_any 3 jt jf k _).mono ?_
  rintro e w1 ⟨rfl, hB⟩
  have hH1 : w1.heap[w.heap.size]? = some (insB 3 jt jf k) := (hB.block _ (lt_of_block hH)).trans hH
  have hsz := lt_of_block hH1
  have HB1 := Lib.hid (hb.trans (hB.mono hb.size))
  have c0 : w1.cell? ⟨w.heap.size, 0, none⟩ = some (.int .i64 3) := cell_in hH1 0
  have c1 : w1.cell? ⟨w.heap.size, 1, none⟩ = some (.int .i64 jt) := cell_in hH1 1
  have c2 : w1.cell? ⟨w.heap.size, 2, none⟩ = some (.int .i64 jf) := cell_in hH1 2
  have c3 : w1.cell? ⟨w.heap.size, 3, none⟩ = some (.int .u32 k) := cell_in hH1 3
  have HX := Lib.hid hH1
  clear hH1 hB hb hH
  rw [hr]
  go_wp2_with fail
  refine (refBranch_any 3 jt jf k _).mono ?_
  rintro e w2 ⟨rfl, hB2⟩
  have HB2 := Lib.hid (HB1.out.trans (hB2.mono HB1.out.size))
  have hH2 : w2.heap[w.heap.size]? = some (insB 3 jt jf k) := (hB2.block _ hsz).trans HX.out
  have hsz2 := lt_of_block hH2
  have d1 : w2.cell? ⟨w.heap.size, 1, none⟩ = some (.int .i64 jt) := cell_in hH2 1
  have d2 : w2.cell? ⟨w.heap.size, 2, none⟩ = some (.int .i64 jf) := cell_in hH2 2
  rw [show isBranch 3 = false by decide]
  clear c0 c1 c2 c3 hB2 hH2
  go_wp2_with fail
  go_ret
  exact ⟨retI HV.out, HB2.out⟩
theorem rone_96_a (jt jf k p n ev : Int) (hyp : 0 ≤ k ∧ k ≤ 4294967295 ∧ 0 ≤ p ∧ p < n ∧ n ≤ 9223372036854775807) (w : World) (hr : right 96 jt jf k = true) (hq : 15 < k) (hv : ev = 7) : Calls Tryd.prog 17 #[insV 96 jt jf k, .int .i64 p, .int .i64 n] w fun e w' => e = .returned (.int .i64 ev) ∧ Below w.heap.size w w' := by
  obtain ⟨hk, hk', h0, h1, h2⟩ := hyp
  have HV := Lib.hid hv
  clear hv
  have hb := ba (insB 96 jt jf k) (Below.refl w.heap.size w)
  have hH : (w.alloc (insB 96 jt jf k)).heap[w.heap.size]? = some (insB 96 jt jf k) := heap_alloc_new _ _
  go_enter Tryd.func17, Tryd.ntmps17
  go_wp2_with fail
  refine (refRight_any 96 jt jf k _).mono ?_
  rintro e w1 ⟨rfl, hB⟩
  have hH1 : w1.heap[w.heap.size]? = some (insB 96 jt jf k) := (hB.block _ (lt_of_block hH)).trans hH
  have hsz := lt_of_block hH1
  have HB1 := Lib.hid (hb.trans (hB.mono hb.size))
  have c0 : w1.cell? ⟨w.heap.size, 0, none⟩ = some (.int .i64 96) := cell_in hH1 0
  have c1 : w1.cell? ⟨w.heap.size, 1, none⟩ = some (.int .i64 jt) := cell_in hH1 1
  have c2 : w1.cell? ⟨w.heap.size, 2, none⟩ = some (.int .i64 jf) := cell_in hH1 2
  have c3 : w1.cell? ⟨w.heap.size, 3, none⟩ = some (.int .u32 k) := cell_in hH1 3
  have HX := Lib.hid hH1
  clear hH1 hB hb hH
  rw [hr]
  go_wp2_with fail
  go_ret
  exact ⟨retI HV.out, HB1.out⟩
theorem rone_96_b (jt jf k p n ev : Int) (hyp : 0 ≤ k ∧ k ≤ 4294967295 ∧ 0 ≤ p ∧ p < n ∧ n ≤ 9223372036854775807) (w : World) (hr : right 96 jt jf k = true) (hq : k ≤ 15) (hv : ev = 0) : Calls Tryd.prog 17 #[insV 96 jt jf k, .int .i64 p, .int .i64 n] w fun e w' => e = .returned (.int .i64 ev) ∧ Below w.heap.size w w' := by
  obtain ⟨hk, hk', h0, h1, h2⟩ := hyp
  have HV := Lib.hid hv
  clear hv
  have hb := ba (insB 96 jt jf k) (Below.refl w.heap.size w)
  have hH : (w.alloc (insB 96 jt jf k)).heap[w.heap.size]? = some (insB 96 jt jf k) := heap_alloc_new _ _
  go_enter Tryd.func17, Tryd.ntmps17
  go_wp2_with fail
  refine (refRight_any 96 jt jf k _).mono ?_
  rintro e w1 ⟨rfl, hB⟩
  have hH1 : w1.heap[w.heap.size]? = some (insB 96 jt jf k) := (hB.block _ (lt_of_block hH)).trans hH
  have hsz := lt_of_block hH1
  have HB1 := Lib.hid (hb.trans (hB.mono hb.size))
  have c0 : w1.cell? ⟨w.heap.size, 0, none⟩ = some (.int .i64 96) := cell_in hH1 0
  have c1 : w1.cell? ⟨w.heap.size, 1, none⟩ = some (.int .i64 jt) := cell_in hH1 1
  have c2 : w1.cell? ⟨w.heap.size, 2, none⟩ = some (.int .i64 jf) := cell_in hH1 2
  have c3 : w1.cell? ⟨w.heap.size, 3, none⟩ = some (.int .u32 k) := cell_in hH1 3
  have HX := Lib.hid hH1
  clear hH1 hB hb hH
  rw [hr]
  go_wp2_with fail
  refine (refBranch_any 96 jt jf k _).mono ?_
  rintro e w2 ⟨rfl, hB2⟩
  have HB2 := Lib.hid (HB1.out.trans (hB2.mono HB1.out.size))
  have hH2 : w2.heap[w.heap.size]? = some (insB 96 jt jf k) := (hB2.block _ hsz).trans HX.out
  have hsz2 := lt_of_block hH2
  have d1 : w2.cell? ⟨w.heap.size, 1, none⟩ = some (.int .i64 jt) := cell_in hH2 1
  have d2 : w2.cell? ⟨w.heap.size, 2, none⟩ = some (.int .i64 jf) := cell_in hH2 2
  rw [show isBranch 96 = false by decide]
  clear c0 c1 c2 c3 hB2 hH2
  go_wp2_with fail
  go_ret
  exact ⟨retI HV.out, HB2.out⟩
theorem rone_97_a (jt jf k p n ev : Int) (hyp : 0 ≤ k ∧ k ≤ 4294967295 ∧ 0 ≤ p ∧ p < n ∧ n ≤ 9223372036854775807) (w : World) (hr : right 97 jt jf k = true) (hq : 15 < k) (hv : ev = 7) : Calls Tryd.prog 17 #[insV 97 jt jf k, .int .i64 p, .int .i64 n] w fun e w' => e = .returned (.int .i64 ev) ∧ Below w.heap.size w w' := by
  obtain ⟨hk, hk', h0, h1, h2⟩ := hyp
  have HV := Lib.hid hv
  clear hv
  have hb := ba (insB 97 jt jf k) (Below.refl w.heap.size w)
  have hH : (w.alloc (insB 97 jt jf k)).heap[w.heap.size]? = some (insB 97 jt jf k) := heap_alloc_new _ _
  go_enter Tryd.func17, Tryd.ntmps17
  go_wp2_with fail
  refine (refRight_any 97 jt jf k _).mono ?_
  rintro e w1 ⟨rfl, hB⟩
  have hH1 : w1.heap[w.heap.size]? = some (insB 97 jt jf k) := (hB.block _ (lt_of_block hH)).trans hH
  have hsz := lt_of_block hH1
  have HB1 := Lib.hid (hb.trans (hB.mono hb.size))
  have c0 : w1.cell? ⟨w.heap.size, 0, none⟩ = some (.int .i64 97) := cell_in hH1 0
  have c1 : w1.cell? ⟨w.heap.size, 1, none⟩ = some (.int .i64 jt) := cell_in hH1 1
  have c2 : w1.cell? ⟨w.heap.size, 2, none⟩ = some (.int .i64 jf) := cell_in hH1 2
  have c3 : w1.cell? ⟨w.heap.size, 3, none⟩ = some (.int .u32 k) := cell_in hH1 3
  have HX := Lib.hid hH1
  clear hH1 hB hb hH
  rw [hr]
  go_wp2_with fail
  go_ret
  exact ⟨retI HV.out, HB1.out⟩
theorem rone_97_b (jt jf k p n ev : Int) (hyp : 0 ≤ k ∧ k ≤ 4294967295 ∧ 0 ≤ p ∧ p < n ∧ n ≤ 9223372036854775807) (w : World) (hr : right 97 jt jf k = true) (hq : k ≤ 15) (hv : ev = 0) : Calls Tryd.prog 17 #[insV 97 jt jf k, .int .i64 p, .int .i64 n] w fun e w' => e = .returned (.int .i64 ev) ∧ Below w.heap.size w w' := by
  obtain ⟨hk, hk', h0, h1, h2⟩ := hyp
  have HV := Lib.hid hv
  clear hv
  have hb := ba (insB 97 jt jf k) (Below.refl w.heap.size w)
  have hH : (w.alloc (insB 97 jt jf k)).heap[w.heap.size]? = some (insB 97 jt jf k) := heap_alloc_new _ _
  go_enter Tryd.func17, Tryd.ntmps17
  go_wp2_with fail
  refine (refRight_any 97 jt jf k _).mono ?_
  rintro e w1 ⟨rfl, hB⟩
  have hH1 : w1.heap[w.heap.size]? = some (insB 97 jt jf k) := (hB.block _ (lt_of_block hH)).trans hH
  have hsz := lt_of_block hH1
  have HB1 := Lib.hid (hb.trans (hB.mono hb.size))
  have c0 : w1.cell? ⟨w.heap.size, 0, none⟩ = some (.int .i64 97) := cell_in hH1 0
  have c1 : w1.cell? ⟨w.heap.size, 1, none⟩ = some (.int .i64 jt) := cell_in hH1 1
  have c2 : w1.cell? ⟨w.heap.size, 2, none⟩ = some (.int .i64 jf) := cell_in hH1 2
  have c3 : w1.cell? ⟨w.heap.size, 3, none⟩ = some (.int .u32 k) := cell_in hH1 3
  have HX := Lib.hid hH1
  clear hH1 hB hb hH
  rw [hr]
  go_wp2_with fail
  refine (refBranch_any 97 jt jf k _).mono ?_
  rintro e w2 ⟨rfl, hB2⟩
  have HB2 := Lib.hid (HB1.out.trans (hB2.mono HB1.out.size))
  have hH2 : w2.heap[w.heap.size]? = some (insB 97 jt jf k) := (hB2.block _ hsz).trans HX.out
  have hsz2 := lt_of_block hH2
  have d1 : w2.cell? ⟨w.heap.size, 1, none⟩ = some (.int .i64 jt) := cell_in hH2 1
  have d2 : w2.cell? ⟨w.heap.size, 2, none⟩ = some (.int .i64 jf) := cell_in hH2 2
  rw [show isBranch 97 = false by decide]
  clear c0 c1 c2 c3 hB2 hH2
  go_wp2_with fail
  go_ret
  exact ⟨retI HV.out, HB2.out⟩
theorem rone_52_a (jt jf k p n ev : Int) (hyp : 0 ≤ k ∧ k ≤ 4294967295 ∧ 0 ≤ p ∧ p < n ∧ n ≤ 9223372036854775807) (w : World) (hr : right 52 jt jf k = true) (hq : (k == 0) = true) (hv : ev = 8) : Calls Tryd.prog 17 #[insV 52 jt jf k, .int .i64 p, .int .i64 n] w fun e w' => e = .returned (.int .i64 ev) ∧ Below w.heap.size w w' := by
  obtain ⟨hk, hk', h0, h1, h2⟩ := hyp
  have HV := Lib.hid hv
  clear hv
  have hb := ba (insB 52 jt jf k) (Below.refl w.heap.size w)
  have hH : (w.alloc (insB 52 jt jf k)).heap[w.heap.size]? = some (insB 52 jt jf k) := heap_alloc_new _ _
  go_enter Tryd.func17, Tryd.ntmps17
  go_wp2_with fail
  refine (refRight_any 52 jt jf k _).mono ?_
  rintro e w1 ⟨rfl, hB⟩
  have hH1 : w1.heap[w.heap.size]? = some (insB 52 jt jf k) := (hB.block _ (lt_of_block hH)).trans hH
  have hsz := lt_of_block hH1
  have HB1 := Lib.hid (hb.trans (hB.mono hb.size))
  have c0 : w1.cell? ⟨w.heap.size, 0, none⟩ = some (.int .i64 52) := cell_in hH1 0
  have c1 : w1.cell? ⟨w.heap.size, 1, none⟩ = some (.int .i64 jt) := cell_in hH1 1
  have c2 : w1.cell? ⟨w.heap.size, 2, none⟩ = some (.int .i64 jf) := cell_in hH1 2
  have c3 : w1.cell? ⟨w.heap.size, 3, none⟩ = some (.int .u32 k) := cell_in hH1 3
  have HX := Lib.hid hH1
  clear hH1 hB hb hH
  rw [hr]
  go_wp2_with fail
  go_ret
  exact ⟨retI HV.out, HB1.out⟩
theorem rone_52_b (jt jf k p n ev : Int) (hyp : 0 ≤ k ∧ k ≤ 4294967295 ∧ 0 ≤ p ∧ p < n ∧ n ≤ 9223372036854775807) (w : World) (hr : right 52 jt jf k = true) (hq : (k == 0) = false) (hv : ev = 0) : Calls Tryd.prog 17 #[insV 52 jt jf k, .int .i64 p, .int .i64 n] w fun e w' => e = .returned (.int .i64 ev) ∧ Below w.heap.size w w' := by
  obtain ⟨hk, hk', h0, h1, h2⟩ := hyp
  have HV := Lib.hid hv
  clear hv
  have hb := ba (insB 52 jt jf k) (Below.refl w.heap.size w)
  have hH : (w.alloc (insB 52 jt jf k)).heap[w.heap.size]? = some (insB 52 jt jf k) := heap_alloc_new _ _
  go_enter Tryd.func17, Tryd.ntmps17
  go_wp2_with fail
  refine (refRight_any 52 jt jf k _).mono ?_
  rintro e w1 ⟨rfl, hB⟩
  have hH1 : w1.heap[w.heap.size]? = some (insB 52 jt jf k) := (hB.block _ (lt_of_block hH)).trans hH
  have hsz := lt_of_block hH1
  have HB1 := Lib.hid (hb.trans (hB.mono hb.size))
  have c0 : w1.cell? ⟨w.heap.size, 0, none⟩ = some (.int .i64 52) := cell_in hH1 0
  have c1 : w1.cell? ⟨w.heap.size, 1, none⟩ = some (.int .i64 jt) := cell_in hH1 1
  have c2 : w1.cell? ⟨w.heap.size, 2, none⟩ = some (.int .i64 jf) := cell_in hH1 2
  have c3 : w1.cell? ⟨w.heap.size, 3, none⟩ = some (.int .u32 k) := cell_in hH1 3
  have HX := Lib.hid hH1
  clear hH1 hB hb hH
  rw [hr]
  go_wp2_with fail
  refine (refBranch_any 52 jt jf k _).mono ?_
  rintro e w2 ⟨rfl, hB2⟩
  have HB2 := Lib.hid (HB1.out.trans (hB2.mono HB1.out.size))
  have hH2 : w2.heap[w.heap.size]? = some (insB 52 jt jf k) := (hB2.block _ hsz).trans HX.out
  have hsz2 := lt_of_block hH2
  have d1 : w2.cell? ⟨w.heap.size, 1, none⟩ = some (.int .i64 jt) := cell_in hH2 1
  have d2 : w2.cell? ⟨w.heap.size, 2, none⟩ = some (.int .i64 jf) := cell_in hH2 2
  rw [show isBranch 52 = false by decide]
  clear c0 c1 c2 c3 hB2 hH2
  go_wp2_with fail
  go_ret
  exact ⟨retI HV.out, HB2.out⟩
theorem rone_100_a (jt jf k p n ev : Int) (hyp : 0 ≤ k ∧ k ≤ 4294967295 ∧ 0 ≤ p ∧ p < n ∧ n ≤ 9223372036854775807) (w : World) (hr : right 100 jt jf k = true) (hq : 31 < k) (hv : ev = 1) : Calls Tryd.prog 17 #[insV 100 jt jf k, .int .i64 p, .int .i64 n] w fun e w' => e = .returned (.int .i64 ev) ∧ Below w.heap.size w w' := by
  obtain ⟨hk, hk', h0, h1, h2⟩ := hyp
  have HV := Lib.hid hv
  clear hv
  have hb := ba (insB 100 jt jf k) (Below.refl w.heap.size w)
  have hH : (w.alloc (insB 100 jt jf k)).heap[w.heap.size]? = some (insB 100 jt jf k) := heap_alloc_new _ _
  go_enter Tryd.func17, Tryd.ntmps17
  go_wp2_with fail
  refine (refRight_any 100 jt jf k _).mono ?_
  rintro e w1 ⟨rfl, hB⟩
  have hH1 : w1.heap[w.heap.size]? = some (insB 100 jt jf k) := (hB.block _ (lt_of_block hH)).trans hH
  have hsz := lt_of_block hH1
  have HB1 := Lib.hid (hb.trans (hB.mono hb.size))
  have c0 : w1.cell? ⟨w.heap.size, 0, none⟩ = some (.int .i64 100) := cell_in hH1 0
  have c1 : w1.cell? ⟨w.heap.size, 1, none⟩ = some (.int .i64 jt) := cell_in hH1 1
  have c2 : w1.cell? ⟨w.heap.size, 2, none⟩ = some (.int .i64 jf) := cell_in hH1 2
  have c3 : w1.cell? ⟨w.heap.size, 3, none⟩ = some (.int .u32 k) := cell_in hH1 3
  have HX := Lib.hid hH1
  clear hH1 hB hb hH
  rw [hr]
  go_wp2_with fail
  go_ret
  exact ⟨retI HV.out, HB1.out⟩
theorem rone_100_b (jt jf k p n ev : Int) (hyp : 0 ≤ k ∧ k ≤ 4294967295 ∧ 0 ≤ p ∧ p < n ∧ n ≤ 9223372036854775807) (w : World) (hr : right 100 jt jf k = true) (hq : k ≤ 31) (hv : ev = 0) : Calls Tryd.prog 17 #[insV 100 jt jf k, .int .i64 p, .int .i64 n] w fun e w' => e = .returned (.int .i64 ev) ∧ Below w.heap.size w w' := by
  obtain ⟨hk, hk', h0, h1, h2⟩ := hyp
  have HV := Lib.hid hv
  clear hv
  have hb := ba (insB 100 jt jf k) (Below.refl w.heap.size w)
  have hH : (w.alloc (insB 100 jt jf k)).heap[w.heap.size]? = some (insB 100 jt jf k) := heap_alloc_new _ _
  go_enter Tryd.func17, Tryd.ntmps17
  go_wp2_with fail
  refine (refRight_any 100 jt jf k _).mono ?_
  rintro e w1 ⟨rfl, hB⟩
  have hH1 : w1.heap[w.heap.size]? = some (insB 100 jt jf k) := (hB.block _ (lt_of_block hH)).trans hH
  have hsz := lt_of_block hH1
  have HB1 := Lib.hid (hb.trans (hB.mono hb.size))
  have c0 : w1.cell? ⟨w.heap.size, 0, none⟩ = some (.int .i64 100) := cell_in hH1 0
  have c1 : w1.cell? ⟨w.heap.size, 1, none⟩ = some (.int .i64 jt) := cell_in hH1 1
  have c2 : w1.cell? ⟨w.heap.size, 2, none⟩ = some (.int .i64 jf) := cell_in hH1 2
  have c3 : w1.cell? ⟨w.heap.size, 3, none⟩ = some (.int .u32 k) := cell_in hH1 3
  have HX := Lib.hid hH1
  clear hH1 hB hb hH
  rw [hr]
  go_wp2_with fail
  refine (refBranch_any 100 jt jf k _).mono ?_
  rintro e w2 ⟨rfl, hB2⟩
  have HB2 := Lib.hid (HB1.out.trans (hB2.mono HB1.out.size))
  have hH2 : w2.heap[w.heap.size]? = some (insB 100 jt jf k) := (hB2.block _ hsz).trans HX.out
  have hsz2 := lt_of_block hH2
  have d1 : w2.cell? ⟨w.heap.size, 1, none⟩ = some (.int .i64 jt) := cell_in hH2 1
  have d2 : w2.cell? ⟨w.heap.size, 2, none⟩ = some (.int .i64 jf) := cell_in hH2 2
  rw [show isBranch 100 = false by decide]
  clear c0 c1 c2 c3 hB2 hH2
  go_wp2_with fail
  go_ret
  exact ⟨retI HV.out, HB2.out⟩
theorem rone_116_a (jt jf k p n ev : Int) (hyp : 0 ≤ k ∧ k ≤ 4294967295 ∧ 0 ≤ p ∧ p < n ∧ n ≤ 9223372036854775807) (w : World) (hr : right 116 jt jf k = true) (hq : 31 < k) (hv : ev = 1) : Calls Tryd.prog 17 #[insV 116 jt jf k, .int .i64 p, .int .i64 n] w fun e w' => e = .returned (.int .i64 ev) ∧ Below w.heap.size w w' := by
  obtain ⟨hk, hk', h0, h1, h2⟩ := hyp
  have HV := Lib.hid hv
  clear hv
  have hb := ba (insB 116 jt jf k) (Below.refl w.heap.size w)
  have hH : (w.alloc (insB 116 jt jf k)).heap[w.heap.size]? = some (insB 116 jt jf k) := heap_alloc_new _ _
  go_enter Tryd.func17, Tryd.ntmps17
  go_wp2_with fail
  refine (refRight_any 116 jt jf k _).mono ?_
  rintro e w1 ⟨rfl, hB⟩
  have hH1 : w1.heap[w.heap.size]? = some (insB 116 jt jf k) := (hB.block _ (lt_of_block hH)).trans hH
  have hsz := lt_of_block hH1
  have HB1 := Lib.hid (hb.trans (hB.mono hb.size))
  have c0 : w1.cell? ⟨w.heap.size, 0, none⟩ = some (.int .i64 116) := cell_in hH1 0
  have c1 : w1.cell? ⟨w.heap.size, 1, none⟩ = some (.int .i64 jt) := cell_in hH1 1
  have c2 : w1.cell? ⟨w.heap.size, 2, none⟩ = some (.int .i64 jf) := cell_in hH1 2
  have c3 : w1.cell? ⟨w.heap.size, 3, none⟩ = some (.int .u32 k) := cell_in hH1 3
  have HX := Lib.hid hH1
  clear hH1 hB hb hH
  rw [hr]
  go_wp2_with fail
  go_ret
  exact ⟨retI HV.out, HB1.out⟩
theorem rone_116_b (jt jf k p n ev : Int) (hyp : 0 ≤ k ∧ k ≤ 4294967295 ∧ 0 ≤ p ∧ p < n ∧ n ≤ 9223372036854775807) (w : World) (hr : right 116 jt jf k = true) (hq : k ≤ 31) (hv : ev = 0) : Calls Tryd.prog 17 #[insV 116 jt jf k, .int .i64 p, .int .i64 n] w fun e w' => e = .returned (.int .i64 ev) ∧ Below w.heap.size w w' := by
  obtain ⟨hk, hk', h0, h1, h2⟩ := hyp
  have HV := Lib.hid hv
  clear hv
  have hb := ba (insB 116 jt jf k) (Below.refl w.heap.size w)
  have hH : (w.alloc (insB 116 jt jf k)).heap[w.heap.size]? = some (insB 116 jt jf k) := heap_alloc_new _ _
  go_enter Tryd.func17, Tryd.ntmps17
  go_wp2_with fail
  refine (refRight_any 116 jt jf k _).mono ?_
  rintro e w1 ⟨rfl, hB⟩
  have hH1 : w1.heap[w.heap.size]? = some (insB 116 jt jf k) := (hB.block _ (lt_of_block hH)).trans hH
  have hsz := lt_of_block hH1
  have HB1 := Lib.hid (hb.trans (hB.mono hb.size))
  have c0 : w1.cell? ⟨w.heap.size, 0, none⟩ = some (.int .i64 116) := cell_in hH1 0
  have c1 : w1.cell? ⟨w.heap.size, 1, none⟩ = some (.int .i64 jt) := cell_in hH1 1
  have c2 : w1.cell? ⟨w.heap.size, 2, none⟩ = some (.int .i64 jf) := cell_in hH1 2
  have c3 : w1.cell? ⟨w.heap.size, 3, none⟩ = some (.int .u32 k) := cell_in hH1 3
  have HX := Lib.hid hH1
  clear hH1 hB hb hH
  rw [hr]
  go_wp2_with fail
  refine (refBranch_any 116 jt jf k _).mono ?_
  rintro e w2 ⟨rfl, hB2⟩
  have HB2 := Lib.hid (HB1.out.trans (hB2.mono HB1.out.size))
  have hH2 : w2.heap[w.heap.size]? = some (insB 116 jt jf k) := (hB2.block _ hsz).trans HX.out
  have hsz2 := lt_of_block hH2
  have d1 : w2.cell? ⟨w.heap.size, 1, none⟩ = some (.int .i64 jt) := cell_in hH2 1
  have d2 : w2.cell? ⟨w.heap.size, 2, none⟩ = some (.int .i64 jf) := cell_in hH2 2
  rw [show isBranch 116 = false by decide]
  clear c0 c1 c2 c3 hB2 hH2
  go_wp2_with fail
  go_ret
  exact ⟨retI HV.out, HB2.out⟩
theorem rone_5_a (jt jf k p n ev : Int) (hyp : 0 ≤ k ∧ k ≤ 4294967295 ∧ 0 ≤ p ∧ p < n ∧ n ≤ 9223372036854775807) (w : World) (hr : right 5 jt jf k = true) (hq : n - 1 - p ≤ k) (hv : ev = 4) : Calls Tryd.prog 17 #[insV 5 jt jf k, .int .i64 p, .int .i64 n] w fun e w' => e = .returned (.int .i64 ev) ∧ Below w.heap.size w w' := by
  obtain ⟨hk, hk', h0, h1, h2⟩ := hyp
  have HV := Lib.hid hv
  clear hv
  have hb := ba (insB 5 jt jf k) (Below.refl w.heap.size w)
  have hH : (w.alloc (insB 5 jt jf k)).heap[w.heap.size]? = some (insB 5 jt jf k) := heap_alloc_new _ _
  go_enter Tryd.func17, Tryd.ntmps17
  go_wp2_with fail
  refine (refRight_any 5 jt jf k _).mono ?_
  rintro e w1 ⟨rfl, hB⟩
  have hH1 : w1.heap[w.heap.size]? = some (insB 5 jt jf k) := (hB.block _ (lt_of_block hH)).trans hH
  have hsz := lt_of_block hH1
  have HB1 := Lib.hid (hb.trans (hB.mono hb.size))
  have c0 : w1.cell? ⟨w.heap.size, 0, none⟩ = some (.int .i64 5) := cell_in hH1 0
  have c1 : w1.cell? ⟨w.heap.size, 1, none⟩ = some (.int .i64 jt) := cell_in hH1 1
  have c2 : w1.cell? ⟨w.heap.size, 2, none⟩ = some (.int .i64 jf) := cell_in hH1 2
  have c3 : w1.cell? ⟨w.heap.size, 3, none⟩ = some (.int .u32 k) := cell_in hH1 3
  have HX := Lib.hid hH1
  clear hH1 hB hb hH
  rw [hr]
  have hu1 : IntKind.u64.wrap k = k := by rw [IntKind.wrap_u64]; omega
  have hu2 : IntKind.u64.wrap (n - 1 - p) = n - 1 - p := by rw [IntKind.wrap_u64]; omega
  go_wp2_with fail
  go_ret
  exact ⟨retI HV.out, HB1.out⟩
theorem rone_5_b (jt jf k p n ev : Int) (hyp : 0 ≤ k ∧ k ≤ 4294967295 ∧ 0 ≤ p ∧ p < n ∧ n ≤ 9223372036854775807) (w : World) (hr : right 5 jt jf k = true) (hq : k < n - 1 - p) (hv : ev = 0) : Calls Tryd.prog 17 #[insV 5 jt jf k, .int .i64 p, .int .i64 n] w fun e w' => e = .returned (.int .i64 ev) ∧ Below w.heap.size w w' := by
  obtain ⟨hk, hk', h0, h1, h2⟩ := hyp
  have HV := Lib.hid hv
  clear hv
  have hb := ba (insB 5 jt jf k) (Below.refl w.heap.size w)
  have hH : (w.alloc (insB 5 jt jf k)).heap[w.heap.size]? = some (insB 5 jt jf k) := heap_alloc_new _ _
  go_enter Tryd.func17, Tryd.ntmps17
  go_wp2_with fail
  refine (refRight_any 5 jt jf k _).mono ?_
  rintro e w1 ⟨rfl, hB⟩
  have hH1 : w1.heap[w.heap.size]? = some (insB 5 jt jf k) := (hB.block _ (lt_of_block hH)).trans hH
  have hsz := lt_of_block hH1
  have HB1 := Lib.hid (hb.trans (hB.mono hb.size))
  have c0 : w1.cell? ⟨w.heap.size, 0, none⟩ = some (.int .i64 5) := cell_in hH1 0
  have c1 : w1.cell? ⟨w.heap.size, 1, none⟩ = some (.int .i64 jt) := cell_in hH1 1
  have c2 : w1.cell? ⟨w.heap.size, 2, none⟩ = some (.int .i64 jf) := cell_in hH1 2
  have c3 : w1.cell? ⟨w.heap.size, 3, none⟩ = some (.int .u32 k) := cell_in hH1 3
  have HX := Lib.hid hH1
  clear hH1 hB hb hH
  rw [hr]
  have hu1 : IntKind.u64.wrap k = k := by rw [IntKind.wrap_u64]; omega
  have hu2 : IntKind.u64.wrap (n - 1 - p) = n - 1 - p := by rw [IntKind.wrap_u64]; omega
  go_wp2_with fail
  refine (refBranch_any 5 jt jf k _).mono ?_
  rintro e w2 ⟨rfl, hB2⟩
  have HB2 := Lib.hid (HB1.out.trans (hB2.mono HB1.out.size))
  have hH2 : w2.heap[w.heap.size]? = some (insB 5 jt jf k) := (hB2.block _ hsz).trans HX.out
  have hsz2 := lt_of_block hH2
  have d1 : w2.cell? ⟨w.heap.size, 1, none⟩ = some (.int .i64 jt) := cell_in hH2 1
  have d2 : w2.cell? ⟨w.heap.size, 2, none⟩ = some (.int .i64 jf) := cell_in hH2 2
  rw [show isBranch 5 = false by decide]
  clear c0 c1 c2 c3 hB2 hH2
  go_wp2_with fail
  go_ret
  exact ⟨retI HV.out, HB2.out⟩
theorem rone_no (jt jf k p n ev : Int) (hyp : 0 ≤ k ∧ k ≤ 4294967295 ∧ 0 ≤ p ∧ p < n ∧ n ≤ 9223372036854775807) (w : World) (op : Int) (hr : right op jt jf k = true) (f32 : (op == 32) = false) (f2 : (op == 2) = false) (f3 : (op == 3) = false) (f96 : (op == 96) = false) (f97 : (op == 97) = false) (f52 : (op == 52) = false) (f100 : (op == 100) = false) (f116 : (op == 116) = false) (f5 : (op == 5) = false) (hb' : isBranch op = false) (hv : ev = 0) : Calls Tryd.prog 17 #[insV op jt jf k, .int .i64 p, .int .i64 n] w fun e w' => e = .returned (.int .i64 ev) ∧ Below w.heap.size w w' := by
  obtain ⟨hk, hk', h0, h1, h2⟩ := hyp
  have HV := Lib.hid hv
  clear hv
  have hb := ba (insB op jt jf k) (Below.refl w.heap.size w)
  have hH : (w.alloc (insB op jt jf k)).heap[w.heap.size]? = some (insB op jt jf k) := heap_alloc_new _ _
  go_enter Tryd.func17, Tryd.ntmps17
  go_wp2_with fail
  refine (refRight_any op jt jf k _).mono ?_
  rintro e w1 ⟨rfl, hB⟩
  have hH1 : w1.heap[w.heap.size]? = some (insB op jt jf k) := (hB.block _ (lt_of_block hH)).trans hH
  have hsz := lt_of_block hH1
  have HB1 := Lib.hid (hb.trans (hB.mono hb.size))
  have c0 : w1.cell? ⟨w.heap.size, 0, none⟩ = some (.int .i64 op) := cell_in hH1 0
  have c1 : w1.cell? ⟨w.heap.size, 1, none⟩ = some (.int .i64 jt) := cell_in hH1 1
  have c2 : w1.cell? ⟨w.heap.size, 2, none⟩ = some (.int .i64 jf) := cell_in hH1 2
  have c3 : w1.cell? ⟨w.heap.size, 3, none⟩ = some (.int .u32 k) := cell_in hH1 3
  have HX := Lib.hid hH1
  clear hH1 hB hb hH
  rw [hr]
  go_wp2_with fail
  refine (refBranch_any op jt jf k _).mono ?_
  rintro e w2 ⟨rfl, hB2⟩
  have HB2 := Lib.hid (HB1.out.trans (hB2.mono HB1.out.size))
  have hH2 : w2.heap[w.heap.size]? = some (insB op jt jf k) := (hB2.block _ hsz).trans HX.out
  have hsz2 := lt_of_block hH2
  have d1 : w2.cell? ⟨w.heap.size, 1, none⟩ = some (.int .i64 jt) := cell_in hH2 1
  have d2 : w2.cell? ⟨w.heap.size, 2, none⟩ = some (.int .i64 jf) := cell_in hH2 2
  rw [hb']
  clear c0 c1 c2 c3 hB2 hH2
  go_wp2_with fail
  go_ret
  exact ⟨retI HV.out, HB2.out⟩
theorem rone_br_a (jt jf k p n ev : Int) (hyp : 0 ≤ k ∧ k ≤ 4294967295 ∧ 0 ≤ p ∧ p < n ∧ n ≤ 9223372036854775807) (w : World) (op : Int) (hr : right op jt jf k = true) (f32 : (op == 32) = false) (f2 : (op == 2) = false) (f3 : (op == 3) = false) (f96 : (op == 96) = false) (f97 : (op == 97) = false) (f52 : (op == 52) = false) (f100 : (op == 100) = false) (f116 : (op == 116) = false) (f5 : (op == 5) = false) (hb' : isBranch op = true) (hq : n - 1 - p ≤ jt) (hv : ev = 4) : Calls Tryd.prog 17 #[insV op jt jf k, .int .i64 p, .int .i64 n] w fun e w' => e = .returned (.int .i64 ev) ∧ Below w.heap.size w w' := by
  obtain ⟨hk, hk', h0, h1, h2⟩ := hyp
  have HV := Lib.hid hv
  clear hv
  have hb := ba (insB op jt jf k) (Below.refl w.heap.size w)
  have hH : (w.alloc (insB op jt jf k)).heap[w.heap.size]? = some (insB op jt jf k) := heap_alloc_new _ _
  go_enter Tryd.func17, Tryd.ntmps17
  go_wp2_with fail
  refine (refRight_any op jt jf k _).mono ?_
  rintro e w1 ⟨rfl, hB⟩
  have hH1 : w1.heap[w.heap.size]? = some (insB op jt jf k) := (hB.block _ (lt_of_block hH)).trans hH
  have hsz := lt_of_block hH1
  have HB1 := Lib.hid (hb.trans (hB.mono hb.size))
  have c0 : w1.cell? ⟨w.heap.size, 0, none⟩ = some (.int .i64 op) := cell_in hH1 0
  have c1 : w1.cell? ⟨w.heap.size, 1, none⟩ = some (.int .i64 jt) := cell_in hH1 1
  have c2 : w1.cell? ⟨w.heap.size, 2, none⟩ = some (.int .i64 jf) := cell_in hH1 2
  have c3 : w1.cell? ⟨w.heap.size, 3, none⟩ = some (.int .u32 k) := cell_in hH1 3
  have HX := Lib.hid hH1
  clear hH1 hB hb hH
  rw [hr]
  go_wp2_with fail
  refine (refBranch_any op jt jf k _).mono ?_
  rintro e w2 ⟨rfl, hB2⟩
  have HB2 := Lib.hid (HB1.out.trans (hB2.mono HB1.out.size))
  have hH2 : w2.heap[w.heap.size]? = some (insB op jt jf k) := (hB2.block _ hsz).trans HX.out
  have hsz2 := lt_of_block hH2
  have d1 : w2.cell? ⟨w.heap.size, 1, none⟩ = some (.int .i64 jt) := cell_in hH2 1
  have d2 : w2.cell? ⟨w.heap.size, 2, none⟩ = some (.int .i64 jf) := cell_in hH2 2
  rw [hb']
  clear c0 c1 c2 c3 hB2 hH2
  go_wp2_with fail
  go_ret
  exact ⟨retI HV.out, HB2.out⟩
theorem rone_br_b (jt jf k p n ev : Int) (hyp : 0 ≤ k ∧ k ≤ 4294967295 ∧ 0 ≤ p ∧ p < n ∧ n ≤ 9223372036854775807) (w : World) (op : Int) (hr : right op jt jf k = true) (f32 : (op == 32) = false) (f2 : (op == 2) = false) (f3 : (op == 3) = false) (f96 : (op == 96) = false) (f97 : (op == 97) = false) (f52 : (op == 52) = false) (f100 : (op == 100) = false) (f116 : (op == 116) = false) (f5 : (op == 5) = false) (hb' : isBranch op = true) (hq : jt < n - 1 - p) (hq' : n - 1 - p ≤ jf) (hv : ev = 4) : Calls Tryd.prog 17 #[insV op jt jf k, .int .i64 p, .int .i64 n] w fun e w' => e = .returned (.int .i64 ev) ∧ Below w.heap.size w w' := by
  obtain ⟨hk, hk', h0, h1, h2⟩ := hyp
  have HV := Lib.hid hv
  clear hv
  have hb := ba (insB op jt jf k) (Below.refl w.heap.size w)
  have hH : (w.alloc (insB op jt jf k)).heap[w.heap.size]? = some (insB op jt jf k) := heap_alloc_new _ _
  go_enter Tryd.func17, Tryd.ntmps17
  go_wp2_with fail
  refine (refRight_any op jt jf k _).mono ?_
  rintro e w1 ⟨rfl, hB⟩
  have hH1 : w1.heap[w.heap.size]? = some (insB op jt jf k) := (hB.block _ (lt_of_block hH)).trans hH
  have hsz := lt_of_block hH1
  have HB1 := Lib.hid (hb.trans (hB.mono hb.size))
  have c0 : w1.cell? ⟨w.heap.size, 0, none⟩ = some (.int .i64 op) := cell_in hH1 0
  have c1 : w1.cell? ⟨w.heap.size, 1, none⟩ = some (.int .i64 jt) := cell_in hH1 1
  have c2 : w1.cell? ⟨w.heap.size, 2, none⟩ = some (.int .i64 jf) := cell_in hH1 2
  have c3 : w1.cell? ⟨w.heap.size, 3, none⟩ = some (.int .u32 k) := cell_in hH1 3
  have HX := Lib.hid hH1
  clear hH1 hB hb hH
  rw [hr]
  go_wp2_with fail
  refine (refBranch_any op jt jf k _).mono ?_
  rintro e w2 ⟨rfl, hB2⟩
  have HB2 := Lib.hid (HB1.out.trans (hB2.mono HB1.out.size))
  have hH2 : w2.heap[w.heap.size]? = some (insB op jt jf k) := (hB2.block _ hsz).trans HX.out
  have hsz2 := lt_of_block hH2
  have d1 : w2.cell? ⟨w.heap.size, 1, none⟩ = some (.int .i64 jt) := cell_in hH2 1
  have d2 : w2.cell? ⟨w.heap.size, 2, none⟩ = some (.int .i64 jf) := cell_in hH2 2
  rw [hb']
  clear c0 c1 c2 c3 hB2 hH2
  go_wp2_with fail
  go_ret
  exact ⟨retI HV.out, HB2.out⟩
theorem rone_br_c (jt jf k p n ev : Int) (hyp : 0 ≤ k ∧ k ≤ 4294967295 ∧ 0 ≤ p ∧ p < n ∧ n ≤ 9223372036854775807) (w : World) (op : Int) (hr : right op jt jf k = true) (f32 : (op == 32) = false) (f2 : (op == 2) = false) (f3 : (op == 3) = false) (f96 : (op == 96) = false) (f97 : (op == 97) = false) (f52 : (op == 52) = false) (f100 : (op == 100) = false) (f116 : (op == 116) = false) (f5 : (op == 5) = false) (hb' : isBranch op = true) (hq : jt < n - 1 - p) (hq' : jf < n - 1 - p) (hv : ev = 0) : Calls Tryd.prog 17 #[insV op jt jf k, .int .i64 p, .int .i64 n] w fun e w' => e = .returned (.int .i64 ev) ∧ Below w.heap.size w w' := by
  obtain ⟨hk, hk', h0, h1, h2⟩ := hyp
  have HV := Lib.hid hv
  clear hv
  have hb := ba (insB op jt jf k) (Below.refl w.heap.size w)
  have hH : (w.alloc (insB op jt jf k)).heap[w.heap.size]? = some (insB op jt jf k) := heap_alloc_new _ _
  go_enter Tryd.func17, Tryd.ntmps17
  go_wp2_with fail
  refine (refRight_any op jt jf k _).mono ?_
  rintro e w1 ⟨rfl, hB⟩
  have hH1 : w1.heap[w.heap.size]? = some (insB op jt jf k) := (hB.block _ (lt_of_block hH)).trans hH
  have hsz := lt_of_block hH1
  have HB1 := Lib.hid (hb.trans (hB.mono hb.size))
  have c0 : w1.cell? ⟨w.heap.size, 0, none⟩ = some (.int .i64 op) := cell_in hH1 0
  have c1 : w1.cell? ⟨w.heap.size, 1, none⟩ = some (.int .i64 jt) := cell_in hH1 1
  have c2 : w1.cell? ⟨w.heap.size, 2, none⟩ = some (.int .i64 jf) := cell_in hH1 2
  have c3 : w1.cell? ⟨w.heap.size, 3, none⟩ = some (.int .u32 k) := cell_in hH1 3
  have HX := Lib.hid hH1
  clear hH1 hB hb hH
  rw [hr]
  go_wp2_with fail
  refine (refBranch_any op jt jf k _).mono ?_
  rintro e w2 ⟨rfl, hB2⟩
  have HB2 := Lib.hid (HB1.out.trans (hB2.mono HB1.out.size))
  have hH2 : w2.heap[w.heap.size]? = some (insB op jt jf k) := (hB2.block _ hsz).trans HX.out
  have hsz2 := lt_of_block hH2
  have d1 : w2.cell? ⟨w.heap.size, 1, none⟩ = some (.int .i64 jt) := cell_in hH2 1
  have d2 : w2.cell? ⟨w.heap.size, 2, none⟩ = some (.int .i64 jf) := cell_in hH2 2
  rw [hb']
  clear c0 c1 c2 c3 hB2 hH2
  go_wp2_with fail
  go_ret
  exact ⟨retI HV.out, HB2.out⟩
/-- The document's error of an instruction at a place of so many. -/
theorem rone_any (x : X4) (hx : x.ok) (p n : Int) (h0 : 0 ≤ p) (h1 : p < n) (h2 : n ≤ 9223372036854775807) (w : World) :
    Calls Tryd.prog 17 #[x.val, .int .i64 p, .int .i64 n] w fun e w' => e = .returned (.int .i64 (oneE x (n - 1 - p))) ∧ Below w.heap.size w w' := by
  have HE := one_kind x (n - 1 - p) hx.1
  generalize oneE x (n - 1 - p) = ev at HE ⊢
  obtain ⟨op, jt, jf, k⟩ := x
  obtain ⟨hk, hk'⟩ := hx
  simp only [X4.right] at hk hk' HE
  have hyp : 0 ≤ k ∧ k ≤ 4294967295 ∧ 0 ≤ p ∧ p < n ∧ n ≤ 9223372036854775807 := ⟨hk, hk', h0, h1, h2⟩
  cases hr : right op jt jf k
  · exact rone_bad jt jf k p n ev hyp w op hr (HE.trans (by rw [hr]; rfl))
  rw [hr] at HE
  simp only [Bool.true_eq_false, if_false] at HE
  by_cases e1 : op = 32
  · subst e1
    have HE : ev = if (k.tmod 4 == 0 && decide (k < 64)) = true then 0 else 6 := HE
    rw [Int.tmod_eq_emod_of_nonneg hk] at HE
    by_cases a : k % 4 = 0
    · by_cases b : k < 64
      · exact rone_32_c jt jf k p n ev hyp w hr a (by omega) (HE.trans (by simp [a, b]))
      · exact rone_32_b jt jf k p n ev hyp w hr a (by omega) (HE.trans (by simp [a, b]))
    · exact rone_32_a jt jf k p n ev hyp w hr a (HE.trans (by simp [a]))
  by_cases e2 : op = 2
  · subst e2
    have HE : ev = if decide (k < 16) = true then 0 else 7 := HE
    by_cases b : k < 16
    · exact rone_2_b jt jf k p n ev hyp w hr (by omega) (HE.trans (by simp [b]))
    · exact rone_2_a jt jf k p n ev hyp w hr (by omega) (HE.trans (by simp [b]))
  by_cases e3 : op = 3
  · subst e3
    have HE : ev = if decide (k < 16) = true then 0 else 7 := HE
    by_cases b : k < 16
    · exact rone_3_b jt jf k p n ev hyp w hr (by omega) (HE.trans (by simp [b]))
    · exact rone_3_a jt jf k p n ev hyp w hr (by omega) (HE.trans (by simp [b]))
  by_cases e96 : op = 96
  · subst e96
    have HE : ev = if decide (k < 16) = true then 0 else 7 := HE
    by_cases b : k < 16
    · exact rone_96_b jt jf k p n ev hyp w hr (by omega) (HE.trans (by simp [b]))
    · exact rone_96_a jt jf k p n ev hyp w hr (by omega) (HE.trans (by simp [b]))
  by_cases e97 : op = 97
  · subst e97
    have HE : ev = if decide (k < 16) = true then 0 else 7 := HE
    by_cases b : k < 16
    · exact rone_97_b jt jf k p n ev hyp w hr (by omega) (HE.trans (by simp [b]))
    · exact rone_97_a jt jf k p n ev hyp w hr (by omega) (HE.trans (by simp [b]))
  by_cases e52 : op = 52
  · subst e52
    have HE : ev = if (k != 0) = true then 0 else 8 := HE
    cases b : (k == 0)
    · exact rone_52_b jt jf k p n ev hyp w hr b (HE.trans (by rw [bne, b]; rfl))
    · exact rone_52_a jt jf k p n ev hyp w hr b (HE.trans (by rw [bne, b]; rfl))
  by_cases e100 : op = 100
  · subst e100
    have HE : ev = if decide (k < 32) = true then 0 else 1 := HE
    by_cases b : k < 32
    · exact rone_100_b jt jf k p n ev hyp w hr (by omega) (HE.trans (by simp [b]))
    · exact rone_100_a jt jf k p n ev hyp w hr (by omega) (HE.trans (by simp [b]))
  by_cases e116 : op = 116
  · subst e116
    have HE : ev = if decide (k < 32) = true then 0 else 1 := HE
    by_cases b : k < 32
    · exact rone_116_b jt jf k p n ev hyp w hr (by omega) (HE.trans (by simp [b]))
    · exact rone_116_a jt jf k p n ev hyp w hr (by omega) (HE.trans (by simp [b]))
  by_cases e5 : op = 5
  · subst e5
    have HE : ev = if decide (k < n - 1 - p) = true then 0 else 4 := HE
    by_cases b : k < n - 1 - p
    · exact rone_5_b jt jf k p n ev hyp w hr (by omega) (HE.trans (by simp [b]))
    · exact rone_5_a jt jf k p n ev hyp w hr (by omega) (HE.trans (by simp [b]))
  have hf : ∀ c : Int, ¬ op = c → (op == c) = false := fun c h => by simpa using h
  cases hb : isBranch op
  · have h6 : ¬ kindOf op = 6 := by rw [branch_kind] at hb; simpa using hb
    have h0' : kindOf op = 0 := by
      unfold kindOf at h6 ⊢
      rw [if_neg e1, if_neg (by omega), if_neg e52, if_neg (by omega), if_neg e5] at h6 ⊢
      by_cases h : op = 21 ∨ op = 37 ∨ op = 53 ∨ op = 69 ∨ op = 29 ∨ op = 45 ∨ op = 61 ∨ op = 77
      · rw [if_pos h] at h6; exact absurd rfl h6
      · rw [if_neg h]
    exact rone_no jt jf k p n ev hyp w op hr (hf _ e1) (hf _ e2) (hf _ e3) (hf _ e96) (hf _ e97) (hf _ e52) (hf _ e100) (hf _ e116) (hf _ e5) hb (HE.trans (by rw [h0']; rfl))
  · have h6 : kindOf op = 6 := by rw [branch_kind] at hb; simpa using hb
    rw [h6] at HE
    have HE : ev = if (decide (jt < n - 1 - p) && decide (jf < n - 1 - p)) = true then 0 else 4 := HE
    by_cases a : jt < n - 1 - p
    · by_cases b : jf < n - 1 - p
      · exact rone_br_c jt jf k p n ev hyp w op hr (hf _ e1) (hf _ e2) (hf _ e3) (hf _ e96) (hf _ e97) (hf _ e52) (hf _ e100) (hf _ e116) (hf _ e5) hb a b (HE.trans (by simp [a, b]))
      · exact rone_br_b jt jf k p n ev hyp w op hr (hf _ e1) (hf _ e2) (hf _ e3) (hf _ e96) (hf _ e97) (hf _ e52) (hf _ e100) (hf _ e116) (hf _ e5) hb a (by omega) (HE.trans (by simp [a, b]))
    · exact rone_br_a jt jf k p n ev hyp w op hr (hf _ e1) (hf _ e2) (hf _ e3) (hf _ e96) (hf _ e97) (hf _ e52) (hf _ e100) (hf _ e116) (hf _ e5) hb (by omega) (HE.trans (by simp [a]))
end Go.Proofs.YtmbgcfikpndamaaDoor
/-
  What the document's Check, and Sound, of filters answer, for any filter that lies in a world.
-/
namespace Go.Proofs.YtmbgcfikpndamaaDoor
open Go.ChangeShapes Go.WideShapes Go.ChangeAt Go.RowKit
set_option maxRecDepth 20000

set_option maxHeartbeats 1000000 in
theorem rcheck5_any (v : Value) (l : List X4) (w : World) (hF : FAt w v l) (hok : ∀ x ∈ l, x.ok) :
    Calls Tryd.prog 33 #[v] w (CheckEnd l w) := by
  obtain ⟨ao, cap, rfl, hF⟩ := hF
  by_cases h0 : l.length = 0
  · have HC : Hid (CheckIs l 0 5) := Lib.hid (.inl ⟨h0, rfl, rfl⟩)
    go_enter Tryd.func33, Tryd.ntmps33
    go_wp2_with fail
    go_ret2
    exact checkEnd HC.out (Below.refl _ _)
  by_cases hbig : 4096 < l.length
  · have HC : Hid (CheckIs l 0 3) := Lib.hid (.inr (.inl ⟨hbig, rfl, rfl⟩))
    go_enter Tryd.func33, Tryd.ntmps33
    go_wp2_with fail
    go_ret2
    exact checkEnd HC.out (Below.refl _ _)
  · have HF := Lib.hid hF
    have HO := Lib.hid hok
    have hlen : l.length ≤ 4096 := by omega
    have hpos : 0 < l.length := by omega
    have hz0 : ((l.length : Int) == 0) = false := beq_eq_false_iff_ne.2 (by omega)
    clear hF hok
    go_enter Tryd.func33, Tryd.ntmps33
    go_wp2_with fail
    go_loopw [4] (fun i wr => ∃ n : Nat, n ≤ l.length ∧ i = .int .i64 n ∧ Below w.heap.size w wr ∧ goodTo l n) (fun i _ => l.length - (intOf i).toNat)
    case atStart => exact ⟨0, by omega, rfl, Below.refl _ _, fun i hi => by omega⟩
    case round =>
      obtain ⟨n, hn, rfl, hB, hall⟩ := hrel
      have HB := Lib.hid hB
      have HA := Lib.hid hall
      by_cases hlt : n < l.length
      · rcases HF.out with h0 | ⟨b, off, rfl, hb, hc⟩
        · rw [h0] at hlt; simp at hlt
        obtain ⟨c0, c1, c2, c3⟩ := hc n hlt
        have d0 := (hB.cell (p := ⟨b, _, none⟩) hb).trans c0
        have d1 := (hB.cell (p := ⟨b, _, none⟩) hb).trans c1
        have d2 := (hB.cell (p := ⟨b, _, none⟩) hb).trans c2
        have d3 := (hB.cell (p := ⟨b, _, none⟩) hb).trans c3
        have HO1 := Lib.hid (HO.out _ (List.getElem_mem hlt))
        have HE := Lib.hid (badAt_at hlt)
        clear hc c0 c1 c2 c3 hB hall HF
        go_wp2_with fail
        refine (rone_any l[n] HO1.out (n : Int) (l.length : Int) (by omega) (by omega) (by omega) _).mono ?_
        rintro e w2 ⟨rfl, hb1⟩
        have HB1 := Lib.hid (HB.out.trans (hb1.mono HB.out.size))
        clear hb1 d0 d1 d2 d3
        rw [← HE.out]
        cases hz : (badAt l n == 0)
        · have HC : Hid (CheckIs l n (badAt l n)) := Lib.hid (.inr (.inr (.inl ⟨hpos, hlen, n, hlt, HA.out, by simpa using hz, rfl, rfl⟩)))
          go_wp2_with fail
          go_ret2
          exact checkEnd HC.out HB1.out
        · have HN := Lib.hid (goodTo_succ HA.out (by simpa using hz))
          go_wp2_with fail
          go_roundw
          case rel => exact ⟨n + 1, by omega, by go_num, HB1.out, HN.out⟩
          case measure => simp [intOf]; omega
      · have hnl : n = l.length := by omega
        subst hnl
        rcases HF.out with h0 | ⟨b, off, rfl, hb, hc⟩
        · rw [h0] at hpos; simp at hpos
        have hll : l.length - 1 < l.length := by omega
        have HL := Lib.hid (getD_at hll)
        obtain ⟨c0, c1, c2, c3⟩ := hc (l.length - 1) hll
        have d0 := (hB.cell (p := ⟨b, _, none⟩) hb).trans c0
        have d1 := (hB.cell (p := ⟨b, _, none⟩) hb).trans c1
        have d2 := (hB.cell (p := ⟨b, _, none⟩) hb).trans c2
        have d3 := (hB.cell (p := ⟨b, _, none⟩) hb).trans c3
        generalize l[l.length - 1] = x at d0 d1 d2 d3 HL
        clear hc c0 c1 c2 c3 hB hall HF
        go_wp2_with fail
        refine (refEnds_any x.op x.jt x.jf x.k _).mono ?_
        rintro e w2 ⟨rfl, hb1⟩
        have HW2 := Lib.hid (HB.out.trans (hb1.mono HB.out.size))
        have HLX : Hid (endsE (lastX l) = (x.op == 6 || x.op == 22)) := Lib.hid (by unfold lastX; rw [HL.out]; rfl)
        clear hb1 d0 d1 d2 d3
        cases he : (x.op == 6 || x.op == 22)
        · have HC : Hid (CheckIs l ((l.length : Int) - 1) 5) := Lib.hid (.inr (.inr (.inr (.inl ⟨hpos, hlen, HA.out, HLX.out.trans he, rfl, rfl⟩))))
          clear he
          go_wp2_with fail
          go_ret2
          exact checkEnd HC.out HW2.out
        · have HC : Hid (CheckIs l 0 0) := Lib.hid (.inr (.inr (.inr (.inr ⟨hpos, hlen, HA.out, HLX.out.trans he, rfl, rfl⟩))))
          clear he
          go_wp2_with fail
          go_ret2
          exact checkEnd HC.out HW2.out
theorem rsound5_any (v : Value) (l : List X4) (w : World) (hF : FAt w v l) (hok : ∀ x ∈ l, x.ok) :
    Calls Tryd.prog 16 #[v] w fun e w' => e = .returned (.bool (soundB l)) ∧ Below w.heap.size w w' := by
  have HF := Lib.hid hF
  have HO := Lib.hid hok
  clear hF hok
  go_enter Tryd.func16, Tryd.ntmps16
  go_wp2_with fail
  refine (rcheck5_any v l w HF.out HO.out).mono ?_
  rintro e w1 ⟨p, er, hc, rfl, hb1⟩
  have HB1 := Lib.hid hb1
  have HE := Lib.hid (sound_err hc)
  clear hb1 hc
  go_wp2_with fail
  go_ret
  exact ⟨ret1 HE.out, HB1.out⟩
end Go.Proofs.YtmbgcfikpndamaaDoor
/-
  The document's own answers for runs (package hurdleref06): Takes.
-/
namespace Go.Proofs.YtmbgcfikpndamaaDoor
open Go.ChangeShapes Go.WideShapes Go.ChangeAt Go.RowKit
set_option maxRecDepth 20000

theorem and_pos (a b : Nat) (h1 : a ≤ 4294967295) (_h2 : b ≤ 4294967295) : decide (0 < Wd.doV 84 a b) = !(bits .and .u32 (a : Int) (b : Int) == 0) := by
  have h := Wd.doV_bd 84 a b (by omega) (by omega) (by omega)
  have e : Wd.doV 84 a b = bits .and .u32 (a : Int) (b : Int) := rfl
  rw [e] at h ⊢
  generalize bits .and .u32 (a : Int) (b : Int) = z at *
  by_cases hz : z = 0
  · subst hz; rfl
  · have : 0 < z := by omega
    simp [this, hz]
set_option maxHeartbeats 1000000 in
theorem rtakes_o21 (s : St) (jt jf : Int) (k : Nat) (w : World) (hB : isBranch 21 = true) :
    Calls Tryd.prog 20 #[s.val, insV 21 jt jf k] w fun e w' => e = .returned (.bool ((s.a : Int) == (k : Int))) ∧ Below w.heap.size w w' := by
  obtain ⟨W, hW, hG, hX, hb⟩ := box2 w (stB s) (insB 21 jt jf k)
  have HG := Lib.hid hG
  have HX := Lib.hid hX
  have HB := Lib.hid hb
  clear hG hX hb
  go_enter Tryd.func20, Tryd.ntmps20
  go_upto_region 1 with fail
  rw [← hW]
  clear hW
  obtain ⟨c0, c1, c2, c3⟩ := insX HX.out
  go_wp2_with fail
  refine (refBranch_any 21 jt jf k _).mono ?_
  rintro e w1 ⟨rfl, hb1⟩
  rw [hB]
  have HG1 := Lib.hid (kb hb1 HG.out)
  have HX1 := Lib.hid (kb hb1 HX.out)
  have HB1 := Lib.hid (below2 HB.out hb1)
  clear hb1 c0 c1 c2 c3 hB
  obtain ⟨c0, c1, c2, c3⟩ := insX HX1.out
  have f0 := (cell_in HG1.out 0).trans (st_a s)
  go_wp2_with fail
  go_ret
  exact ⟨rfl, HB1.out⟩

set_option maxHeartbeats 1000000 in
theorem rtakes_o37 (s : St) (jt jf : Int) (k : Nat) (w : World) (hB : isBranch 37 = true) :
    Calls Tryd.prog 20 #[s.val, insV 37 jt jf k] w fun e w' => e = .returned (.bool (decide (k < s.a))) ∧ Below w.heap.size w w' := by
  obtain ⟨W, hW, hG, hX, hb⟩ := box2 w (stB s) (insB 37 jt jf k)
  have HG := Lib.hid hG
  have HX := Lib.hid hX
  have HB := Lib.hid hb
  clear hG hX hb
  go_enter Tryd.func20, Tryd.ntmps20
  go_upto_region 1 with fail
  rw [← hW]
  clear hW
  obtain ⟨c0, c1, c2, c3⟩ := insX HX.out
  go_wp2_with fail
  refine (refBranch_any 37 jt jf k _).mono ?_
  rintro e w1 ⟨rfl, hb1⟩
  rw [hB]
  have HG1 := Lib.hid (kb hb1 HG.out)
  have HX1 := Lib.hid (kb hb1 HX.out)
  have HB1 := Lib.hid (below2 HB.out hb1)
  clear hb1 c0 c1 c2 c3 hB
  obtain ⟨c0, c1, c2, c3⟩ := insX HX1.out
  have f0 := (cell_in HG1.out 0).trans (st_a s)
  go_wp2_with fail
  go_ret
  exact ⟨rfl, HB1.out⟩

set_option maxHeartbeats 1000000 in
theorem rtakes_o53 (s : St) (jt jf : Int) (k : Nat) (w : World) (hB : isBranch 53 = true) :
    Calls Tryd.prog 20 #[s.val, insV 53 jt jf k] w fun e w' => e = .returned (.bool (decide (k ≤ s.a))) ∧ Below w.heap.size w w' := by
  obtain ⟨W, hW, hG, hX, hb⟩ := box2 w (stB s) (insB 53 jt jf k)
  have HG := Lib.hid hG
  have HX := Lib.hid hX
  have HB := Lib.hid hb
  clear hG hX hb
  go_enter Tryd.func20, Tryd.ntmps20
  go_upto_region 1 with fail
  rw [← hW]
  clear hW
  obtain ⟨c0, c1, c2, c3⟩ := insX HX.out
  go_wp2_with fail
  refine (refBranch_any 53 jt jf k _).mono ?_
  rintro e w1 ⟨rfl, hb1⟩
  rw [hB]
  have HG1 := Lib.hid (kb hb1 HG.out)
  have HX1 := Lib.hid (kb hb1 HX.out)
  have HB1 := Lib.hid (below2 HB.out hb1)
  clear hb1 c0 c1 c2 c3 hB
  obtain ⟨c0, c1, c2, c3⟩ := insX HX1.out
  have f0 := (cell_in HG1.out 0).trans (st_a s)
  go_wp2_with fail
  go_ret
  exact ⟨rfl, HB1.out⟩

set_option maxHeartbeats 1000000 in
theorem rtakes_o69 (s : St) (jt jf : Int) (k : Nat) (w : World) (h1 : s.a ≤ 4294967295) (h2 : k ≤ 4294967295) (hB : isBranch 69 = true) :
    Calls Tryd.prog 20 #[s.val, insV 69 jt jf k] w fun e w' => e = .returned (.bool (!(bits .and .u32 (s.a : Int) (k : Int) == 0))) ∧ Below w.heap.size w w' := by
  obtain ⟨W, hW, hG, hX, hb⟩ := box2 w (stB s) (insB 69 jt jf k)
  have HG := Lib.hid hG
  have HX := Lib.hid hX
  have HB := Lib.hid hb
  clear hG hX hb
  go_enter Tryd.func20, Tryd.ntmps20
  go_upto_region 1 with fail
  rw [← hW]
  clear hW
  obtain ⟨c0, c1, c2, c3⟩ := insX HX.out
  go_wp2_with fail
  refine (refBranch_any 69 jt jf k _).mono ?_
  rintro e w1 ⟨rfl, hb1⟩
  rw [hB]
  have HG1 := Lib.hid (kb hb1 HG.out)
  have HX1 := Lib.hid (kb hb1 HX.out)
  have HB1 := Lib.hid (below2 HB.out hb1)
  clear hb1 c0 c1 c2 c3 hB
  obtain ⟨c0, c1, c2, c3⟩ := insX HX1.out
  have f0 := (cell_in HG1.out 0).trans (st_a s)
  go_wp2_with fail
  refine (refDo_any 84 s.a k _ (by omega) (by omega) (by omega) (by omega)).mono ?_
  rintro e w2 ⟨rfl, hb2⟩
  have HB2 := Lib.hid (below2 HB1.out hb2)
  have HE := Lib.hid (and_pos s.a k h1 h2)
  clear hb2 c0 c1 c2 c3 f0
  go_wp2_with fail
  go_ret
  exact ⟨by rw [← HE.out]; rfl, HB2.out⟩

set_option maxHeartbeats 1000000 in
theorem rtakes_o29 (s : St) (jt jf : Int) (k : Nat) (w : World) (hB : isBranch 29 = true) :
    Calls Tryd.prog 20 #[s.val, insV 29 jt jf k] w fun e w' => e = .returned (.bool ((s.a : Int) == (s.x : Int))) ∧ Below w.heap.size w w' := by
  obtain ⟨W, hW, hG, hX, hb⟩ := box2 w (stB s) (insB 29 jt jf k)
  have HG := Lib.hid hG
  have HX := Lib.hid hX
  have HB := Lib.hid hb
  clear hG hX hb
  go_enter Tryd.func20, Tryd.ntmps20
  go_upto_region 1 with fail
  rw [← hW]
  clear hW
  obtain ⟨c0, c1, c2, c3⟩ := insX HX.out
  go_wp2_with fail
  refine (refBranch_any 29 jt jf k _).mono ?_
  rintro e w1 ⟨rfl, hb1⟩
  rw [hB]
  have HG1 := Lib.hid (kb hb1 HG.out)
  have HX1 := Lib.hid (kb hb1 HX.out)
  have HB1 := Lib.hid (below2 HB.out hb1)
  clear hb1 c0 c1 c2 c3 hB
  obtain ⟨c0, c1, c2, c3⟩ := insX HX1.out
  have f0 := (cell_in HG1.out 0).trans (st_a s)
  have f1 := (cell_in HG1.out 1).trans (st_x s)
  go_wp2_with fail
  go_ret
  exact ⟨rfl, HB1.out⟩

set_option maxHeartbeats 1000000 in
theorem rtakes_o45 (s : St) (jt jf : Int) (k : Nat) (w : World) (hB : isBranch 45 = true) :
    Calls Tryd.prog 20 #[s.val, insV 45 jt jf k] w fun e w' => e = .returned (.bool (decide (s.x < s.a))) ∧ Below w.heap.size w w' := by
  obtain ⟨W, hW, hG, hX, hb⟩ := box2 w (stB s) (insB 45 jt jf k)
  have HG := Lib.hid hG
  have HX := Lib.hid hX
  have HB := Lib.hid hb
  clear hG hX hb
  go_enter Tryd.func20, Tryd.ntmps20
  go_upto_region 1 with fail
  rw [← hW]
  clear hW
  obtain ⟨c0, c1, c2, c3⟩ := insX HX.out
  go_wp2_with fail
  refine (refBranch_any 45 jt jf k _).mono ?_
  rintro e w1 ⟨rfl, hb1⟩
  rw [hB]
  have HG1 := Lib.hid (kb hb1 HG.out)
  have HX1 := Lib.hid (kb hb1 HX.out)
  have HB1 := Lib.hid (below2 HB.out hb1)
  clear hb1 c0 c1 c2 c3 hB
  obtain ⟨c0, c1, c2, c3⟩ := insX HX1.out
  have f0 := (cell_in HG1.out 0).trans (st_a s)
  have f1 := (cell_in HG1.out 1).trans (st_x s)
  go_wp2_with fail
  go_ret
  exact ⟨rfl, HB1.out⟩

set_option maxHeartbeats 1000000 in
theorem rtakes_o61 (s : St) (jt jf : Int) (k : Nat) (w : World) (hB : isBranch 61 = true) :
    Calls Tryd.prog 20 #[s.val, insV 61 jt jf k] w fun e w' => e = .returned (.bool (decide (s.x ≤ s.a))) ∧ Below w.heap.size w w' := by
  obtain ⟨W, hW, hG, hX, hb⟩ := box2 w (stB s) (insB 61 jt jf k)
  have HG := Lib.hid hG
  have HX := Lib.hid hX
  have HB := Lib.hid hb
  clear hG hX hb
  go_enter Tryd.func20, Tryd.ntmps20
  go_upto_region 1 with fail
  rw [← hW]
  clear hW
  obtain ⟨c0, c1, c2, c3⟩ := insX HX.out
  go_wp2_with fail
  refine (refBranch_any 61 jt jf k _).mono ?_
  rintro e w1 ⟨rfl, hb1⟩
  rw [hB]
  have HG1 := Lib.hid (kb hb1 HG.out)
  have HX1 := Lib.hid (kb hb1 HX.out)
  have HB1 := Lib.hid (below2 HB.out hb1)
  clear hb1 c0 c1 c2 c3 hB
  obtain ⟨c0, c1, c2, c3⟩ := insX HX1.out
  have f0 := (cell_in HG1.out 0).trans (st_a s)
  have f1 := (cell_in HG1.out 1).trans (st_x s)
  go_wp2_with fail
  go_ret
  exact ⟨rfl, HB1.out⟩

set_option maxHeartbeats 1000000 in
theorem rtakes_o77 (s : St) (jt jf : Int) (k : Nat) (w : World) (h1 : s.a ≤ 4294967295) (h2 : s.x ≤ 4294967295) (hB : isBranch 77 = true) :
    Calls Tryd.prog 20 #[s.val, insV 77 jt jf k] w fun e w' => e = .returned (.bool (!(bits .and .u32 (s.a : Int) (s.x : Int) == 0))) ∧ Below w.heap.size w w' := by
  obtain ⟨W, hW, hG, hX, hb⟩ := box2 w (stB s) (insB 77 jt jf k)
  have HG := Lib.hid hG
  have HX := Lib.hid hX
  have HB := Lib.hid hb
  clear hG hX hb
  go_enter Tryd.func20, Tryd.ntmps20
  go_upto_region 1 with fail
  rw [← hW]
  clear hW
  obtain ⟨c0, c1, c2, c3⟩ := insX HX.out
  go_wp2_with fail
  refine (refBranch_any 77 jt jf k _).mono ?_
  rintro e w1 ⟨rfl, hb1⟩
  rw [hB]
  have HG1 := Lib.hid (kb hb1 HG.out)
  have HX1 := Lib.hid (kb hb1 HX.out)
  have HB1 := Lib.hid (below2 HB.out hb1)
  clear hb1 c0 c1 c2 c3 hB
  obtain ⟨c0, c1, c2, c3⟩ := insX HX1.out
  have f0 := (cell_in HG1.out 0).trans (st_a s)
  have f1 := (cell_in HG1.out 1).trans (st_x s)
  go_wp2_with fail
  refine (refDo_any 84 s.a s.x _ (by omega) (by omega) (by omega) (by omega)).mono ?_
  rintro e w2 ⟨rfl, hb2⟩
  have HB2 := Lib.hid (below2 HB1.out hb2)
  have HE := Lib.hid (and_pos s.a s.x h1 h2)
  clear hb2 c0 c1 c2 c3 f0 f1
  go_wp2_with fail
  go_ret
  exact ⟨by rw [← HE.out]; rfl, HB2.out⟩
set_option maxHeartbeats 1000000 in
theorem rtakes_any (s : St) (op jt jf : Int) (k : Nat) (w : World) (hs : s.ok) (hk : k < 4294967296) :
    Calls Tryd.prog 20 #[s.val, insV op jt jf k] w fun e w' => e = .returned (.bool (takesS s ⟨op, jt, jf, k⟩)) ∧ Below w.heap.size w w' := by
  cases hB : isBranch op
  · have HE : Hid (takesS s ⟨op, jt, jf, k⟩ = false) := Lib.hid (by
      have h : ∀ n ∈ ([21, 29, 37, 45, 53, 61, 69, 77] : List Int), isBranch n = true := by decide
      have e : ∀ n ∈ ([21, 29, 37, 45, 53, 61, 69, 77] : List Int), ¬ op = n := fun n hn he => by rw [he, h n hn] at hB; cases hB
      simp only [List.mem_cons, List.not_mem_nil, or_false, forall_eq_or_imp, forall_eq] at e
      obtain ⟨e1, e2, e3, e4, e5, e6, e7, e8⟩ := e
      simp [takesS, e1, e2, e3, e4, e5, e6, e7, e8])
    obtain ⟨W, hW, hG, hX, hb⟩ := box2 w (stB s) (insB op jt jf k)
    have HX := Lib.hid hX
    have HB := Lib.hid hb
    clear hG hX hb hs
    go_enter Tryd.func20, Tryd.ntmps20
    go_upto_region 1 with fail
    rw [← hW]
    clear hW
    obtain ⟨c0, c1, c2, c3⟩ := insX HX.out
    go_wp2_with fail
    refine (refBranch_any op jt jf k _).mono ?_
    rintro e w1 ⟨rfl, hb1⟩
    rw [hB]
    have HB1 := Lib.hid (below2 HB.out hb1)
    clear hb1 c0 c1 c2 c3 hB
    go_wp2_with fail
    go_ret
    exact ⟨by rw [HE.out]; rfl, HB1.out⟩
  · have h1 := hs.1
    have h2 := hs.2.1
    have hm := branch_ops hB
    simp only [List.mem_cons, List.not_mem_nil, or_false] at hm
    rcases hm with rfl | rfl | rfl | rfl | rfl | rfl | rfl | rfl
    · exact (rtakes_o21 s jt jf k w hB).mono fun e w' h => ⟨h.1.trans (by simp [takesS]), h.2⟩
    · exact (rtakes_o29 s jt jf k w hB).mono fun e w' h => ⟨h.1.trans (by simp [takesS, beq_cast]), h.2⟩
    · exact (rtakes_o37 s jt jf k w hB).mono fun e w' h => ⟨h.1.trans (by simp [takesS]), h.2⟩
    · exact (rtakes_o45 s jt jf k w hB).mono fun e w' h => ⟨h.1.trans (by simp [takesS]), h.2⟩
    · exact (rtakes_o53 s jt jf k w hB).mono fun e w' h => ⟨h.1.trans (by simp [takesS]), h.2⟩
    · exact (rtakes_o61 s jt jf k w hB).mono fun e w' h => ⟨h.1.trans (by simp [takesS]), h.2⟩
    · exact (rtakes_o69 s jt jf k w h1 (by omega) hB).mono fun e w' h => ⟨h.1.trans (by simp [takesS, bne]), h.2⟩
    · exact (rtakes_o77 s jt jf k w h1 h2 hB).mono fun e w' h => ⟨h.1.trans (by simp [takesS, bne]), h.2⟩
end Go.Proofs.YtmbgcfikpndamaaDoor
/-
  The document's own way (package hurdleref04): low and number; pieces of bytes.
-/
namespace Go.Proofs.YtmbgcfikpndamaaDoor
open Go.ChangeShapes Go.WideShapes Go.ChangeAt Go.RowKit
set_option maxRecDepth 20000

theorem byte_step (N k : Nat) : N / 2 ^ (8 * k) / 256 = N / 2 ^ (8 * (k + 1)) := by
  rw [Nat.div_div_eq_div_mul, show 8 * (k + 1) = 8 * k + 8 by omega, Nat.pow_add]
theorem numAt_cons (l : List UInt8) (o sz : Nat) : numAt l o (sz + 1) = (l.getD o 0).toNat + 256 * numAt l (o + 1) sz := by
  induction sz with
  | zero => simp [numAt]
  | succ n ih =>
    have e1 : numAt l o (n + 1 + 1) = numAt l o (n + 1) + (l.getD (o + (n + 1)) 0).toNat * 2 ^ (8 * (n + 1)) := rfl
    have e2 : numAt l (o + 1) (n + 1) = numAt l (o + 1) n + (l.getD (o + 1 + n) 0).toNat * 2 ^ (8 * n) := rfl
    rw [e1, ih, e2, show o + 1 + n = o + (n + 1) by omega, show 8 * (n + 1) = 8 * n + 8 by omega, Nat.pow_add, Nat.mul_add]
    have h8 : (2 : Nat) ^ 8 = 256 := by decide
    rw [h8, ← Nat.mul_assoc, Nat.mul_comm _ 256]
    omega

set_option maxHeartbeats 1000000 in
theorem lowb_any (N sz : Nat) (hsz : sz ≤ 8) (hN : N < 18446744073709551616) (w : World) :
    Calls Tryd.prog 68 #[.int .u64 N, .int .i64 sz] w fun e w' => ∃ v', e = .returned v' ∧ w'.ownsRow w.heap.size 5 1 v' sz (bcells (lowBytes N sz)) ∧ Below w.heap.size w w' := by
  obtain ⟨i0, hi, hz0, hz1, hz2⟩ := info_parts info8
  go_enter Tryd.func68, Tryd.ntmps68
  go_wp2_with fail
  go_loopw [0, 5, 6] (fun v u i wr => ∃ k M : Nat, k ≤ sz ∧ M = N / 2 ^ (8 * k) ∧ v = .int .u64 M ∧ i = .int .i64 k ∧ wr.ownsRow w.heap.size 5 1 u k (bcells (lowBytes N k)) ∧ Below w.heap.size w wr) (fun _ _ i _ => sz - (intOf i).toNat)
  case atStart => exact ⟨0, N, by omega, by simp, rfl, rfl, by simpa [lowBytes] using World.ownsRow_nil _ _ _ _, Below.refl _ _⟩
  case round =>
    obtain ⟨k, M, hk, hM, rfl, rfl, hO1, hB1⟩ := hrel
    have HO1 := Lib.hid hO1
    have HB1 := Lib.hid hB1
    have hbw := hB1.size
    have hM64 : M < 18446744073709551616 := by rw [hM]; exact Nat.lt_of_le_of_lt (Nat.div_le_self _ _) hN
    have HV : Hid (bcells [byteAt N k] = [.int .u8 ((M : Int) % 256)]) := Lib.hid (by
      simp only [List.map_cons, List.map_nil, byteAt_val, ← hM]
      simp)
    have HM2 : Hid (M / 256 = N / 2 ^ (8 * (k + 1))) := Lib.hid (by rw [hM, byte_step])
    clear hO1 hB1 hM
    by_cases hlt : k < sz
    · go_wp2_with (at_builtin; refine wpList_append_own _ rfl _ _ 101 rfl w.heap.size 5 i0 (.int .u8 0) 1 1 Tryd.underlying101 hi hz0 hz1 hz2 rfl (by decide) _ _ _ rfl (HO1.out.alloc _) ⟨wr.heap.size, 0, none⟩ 1 1 [.int .u8 ((M : Int) % 256)] rfl rfl (new_at wr #[.int .u8 ((M : Int) % 256)] 5) (by simp [Value.oneCell']) (by unfold maxLen; omega) (by omega) (by rw [size_alloc]; omega) ?_)
      intro v2 w2 hown2 hgrow2 _
      have HB2 := Lib.hid (grown_below (HB1.out.alloc hbw (.cells #[.int .u8 ((M : Int) % 256)] 5)) (HO1.out.alloc _) hgrow2 (by rw [size_alloc]; omega))
      have HO2 : Hid (w2.ownsRow w.heap.size 5 1 v2 (k + 1) (bcells (lowBytes N (k + 1)))) := Lib.hid (by
        rw [lowBytes_succ, bcells_app, HV.out]
        exact hown2)
      clear hgrow2 hown2 HO1 HB1 HV
      go_wp2_with fail
      go_roundw
      case rel => exact ⟨k + 1, M / 256, by omega, HM2.out, by go_num, by go_num, HO2.out, HB2.out⟩
      case measure => simp [intOf]; omega
    · obtain rfl : k = sz := by omega
      go_wp2_with fail
      go_ret
      exact ⟨_, rfl, HO1.out, HB1.out⟩

set_option maxHeartbeats 1000000 in
theorem num_any (v : Value) (b : List UInt8) (w : World) (hb : BAt w v b) (h8 : b.length ≤ 8) :
    Calls Tryd.prog 65 #[v] w fun e w' => e = .returned (.int .u64 ((numAt b 0 b.length : Nat) : Int)) ∧ w = w' := by
  obtain ⟨ao, cap, rfl, hcap, hmax, hD⟩ := hb
  have HD := Lib.hid hD
  clear hD
  go_enter Tryd.func65, Tryd.ntmps65
  go_wp2_with fail
  go_loop [3, 4] (fun u i => ∃ (j M : Nat) (z : Int), j ≤ b.length ∧ z = (j : Int) - 1 ∧ i = .int .i64 z ∧ M = numAt b j (b.length - j) ∧ u = .int .u64 M) (fun _ i => (intOf i + 1).toNat)
  case atStart => exact ⟨b.length, 0, (b.length : Int) - 1, by omega, rfl, rfl, by simp [numAt], rfl⟩
  case round =>
    obtain ⟨j, M, z, hj, hz, rfl, hM, rfl⟩ := hrel
    have HM := Lib.hid hM
    by_cases h0 : 0 < j
    · obtain ⟨g, off, rfl, hg, hc⟩ : ∃ g off, ao = some ⟨g, off, none⟩ ∧ g < w.heap.size ∧ ∀ i (h : i < b.length), w.cell? ⟨g, off + i, none⟩ = some (.int .u8 ((b[i]).toNat : Int)) := by
        rcases HD.out with h0' | h
        · rw [h0'] at hj; simp at hj; omega
        · exact h
      obtain ⟨i, rfl⟩ : ∃ i, j = i + 1 := ⟨j - 1, by omega⟩
      obtain rfl : z = (i : Int) := by omega
      have hMl : M < 2 ^ 56 := by
        rw [hM]
        refine Nat.lt_of_lt_of_le (numAt_lt _ _ _) (Nat.pow_le_pow_right (by omega) (by omega))
      have c0 : w.cell? ⟨g, off + i, none⟩ = some (.int .u8 ((b.getD i 0).toNat : Int)) := by
        rw [hc i (by omega), List.getD_eq_getElem?_getD, List.getElem?_eq_getElem (by omega)]
        rfl
      have hcl := UInt8.toNat_lt (b.getD i 0)
      have HN : Hid (numAt b i (b.length - i) = (b.getD i 0).toNat + 256 * M) := Lib.hid (by
        rw [show b.length - i = (b.length - (i + 1)) + 1 by omega, numAt_cons, hM])
      generalize (b.getD i 0).toNat = c at *
      clear hc hM hz
      simp at hMl
      go_wp2_with fail
      refine ⟨⟨i, c + 256 * M, (i : Int) - 1, by omega, rfl, by go_num, HN.out.symm, by go_num⟩, by simp [intOf] <;> omega⟩
    · obtain rfl : j = 0 := by omega
      obtain rfl : z = -1 := by omega
      clear hM hz
      rw [Nat.sub_zero] at HM
      go_wp2_with fail
      go_ret
      exact ⟨by rw [HM.out]; rfl, rfl⟩
/-- Pieces of bytes. -/
theorem BAt.sub {w : World} {v : Value} {b : List UInt8} (h : BAt w v b) (lo hi : Nat) (x y : Int) (hx : x = lo) (hy : y = hi) (hlh : lo ≤ hi) (hh : hi ≤ b.length) :
    ∃ v', (∀ W, (Instr.slice 101 v (some (.int .i64 x)) (some (.int .i64 y)) none).run Tryd.prog W = .ok v' W) ∧ BAt w v' ((b.drop lo).take (hi - lo)) := by
  subst hx hy
  obtain ⟨ao, cap, rfl, hcap, hmax, hD⟩ := h
  have hl : ((b.drop lo).take (hi - lo)).length = hi - lo := by rw [List.length_take, List.length_drop]; omega
  rcases hD with rfl | ⟨g, off, rfl, hg, hc⟩
  · simp at hh
    subst hh
    obtain rfl : lo = 0 := by omega
    cases ao with
    | none => exact ⟨.slice none 0 cap, fun W => by go_simp, none, cap, rfl, hcap, hmax, .inl rfl⟩
    | some a => exact ⟨.slice (some a) 0 cap, fun W => by go_simp, some a, cap, rfl, hcap, hmax, .inl rfl⟩
  · by_cases hc1 : cap = lo
    · refine ⟨.slice (some ⟨g, off, none⟩) (hi - lo) 0, fun W => ?_, some ⟨g, off, none⟩, 0, by rw [hl], by omega, by omega, .inl ?_⟩
      · obtain rfl : lo = hi := by omega
        subst hc1
        go_simp
      · exact List.eq_nil_of_length_eq_zero (by omega)
    · refine ⟨.slice (some ⟨g, off + lo, none⟩) (hi - lo) (cap - lo), fun W => ?_, some ⟨g, off + lo, none⟩, cap - lo, by rw [hl], by omega, by omega, .inr ⟨g, off + lo, rfl, hg, fun i hi' => ?_⟩⟩
      · go_simp
        intro h
        omega
      · rw [Nat.add_assoc, hc (lo + i) (by omega)]
        simp
theorem BAt.past {w : World} {v : Value} {b : List UInt8} (h : BAt w v b) (lo : Nat) (x : Int) (hx : x = lo) (hh : lo ≤ b.length) :
    ∃ v', (∀ W, (Instr.slice 101 v (some (.int .i64 x)) none none).run Tryd.prog W = .ok v' W) ∧ BAt w v' (b.drop lo) := by
  subst hx
  obtain ⟨ao, cap, rfl, hcap, hmax, hD⟩ := h
  have hl : (b.drop lo).length = b.length - lo := List.length_drop
  rcases hD with rfl | ⟨g, off, rfl, hg, hc⟩
  · simp at hh
    subst hh
    cases ao with
    | none => exact ⟨.slice none 0 cap, fun W => by go_simp, none, cap, rfl, hcap, hmax, .inl rfl⟩
    | some a => exact ⟨.slice (some a) 0 cap, fun W => by go_simp, some a, cap, rfl, hcap, hmax, .inl rfl⟩
  · by_cases hc1 : cap = lo
    · refine ⟨.slice (some ⟨g, off, none⟩) (b.length - lo) 0, fun W => ?_, some ⟨g, off, none⟩, 0, by rw [hl], by omega, by omega, .inl ?_⟩
      · subst hc1
        go_simp
        (try (intro h; omega))
      · exact List.eq_nil_of_length_eq_zero (by omega)
    · refine ⟨.slice (some ⟨g, off + lo, none⟩) (b.length - lo) (cap - lo), fun W => ?_, some ⟨g, off + lo, none⟩, cap - lo, by rw [hl], by omega, by omega, .inr ⟨g, off + lo, rfl, hg, fun i hi' => ?_⟩⟩
      · go_simp
        (try (intro h; omega))
      · rw [Nat.add_assoc, hc (lo + i) (by omega)]
        simp
theorem numAt_sub (b : List UInt8) (lo n : Nat) (h : lo + n ≤ b.length) : numAt ((b.drop lo).take n) 0 n = numAt b lo n := by
  have e : b = b.take lo ++ ((b.drop lo).take n ++ (b.drop lo).drop n) := by rw [List.take_append_drop, List.take_append_drop]
  have hl : (b.take lo).length = lo := by rw [List.length_take]; omega
  have hr : ((b.drop lo).take n).length = n := by rw [List.length_take, List.length_drop]; omega
  have h1 := numAt_front (b.take lo) ((b.drop lo).take n ++ (b.drop lo).drop n) 0 n
  rw [← e, hl, Nat.add_zero, numAt_behind _ _ _ _ (by rw [hr]; omega)] at h1
  exact h1.symm
end Go.Proofs.YtmbgcfikpndamaaDoor

/-
  The document's own way (package hurdleref04): Bytes.
-/
namespace Go.Proofs.YtmbgcfikpndamaaDoor
open Go.ChangeShapes Go.WideShapes Go.ChangeAt Go.RowKit
set_option maxRecDepth 20000

def argsD (d : Rec) : List Nat := [d.a0, d.a1, d.a2, d.a3, d.a4, d.a5]
theorem low_eight (x : Nat) : lowBytes x 8 = lowBytes (x % 4294967296) 4 ++ lowBytes (x / 4294967296) 4 := by
  simp only [lowBytes, show List.range 8 = [0, 1, 2, 3, 4, 5, 6, 7] from rfl, show List.range 4 = [0, 1, 2, 3] from rfl, List.map_cons, List.map_nil, List.cons_append, List.nil_append, List.cons.injEq, and_true]
  refine ⟨?_, ?_, ?_, ?_, ?_, ?_, ?_, ?_⟩
  all_goals
    apply UInt8.toNat.inj
    simp only [byteAt, UInt8.toNat_ofNat', Nat.mul_zero, Nat.pow_zero, Nat.div_one, Nat.mul_one, Nat.reduceMul, Nat.reducePow]
    try omega
def headR (d : Rec) : List UInt8 := lowBytes d.nr 4 ++ lowBytes d.arch 4 ++ lowBytes d.ip 8
def bytesR (d : Rec) (k : Nat) : List UInt8 := headR d ++ ((argsD d).take k).flatMap (lowBytes · 8)
theorem bytesR_all (d : Rec) : bytesR d 6 = bytesD d := by
  simp only [bytesR, headR, argsD, bytesD, wordsD, List.take_succ_cons, List.take_zero, List.flatMap_cons, List.flatMap_nil, List.append_nil, low_eight, List.append_assoc]
theorem bytesR_next (d : Rec) (k : Nat) (hk : k < 6) : bytesR d (k + 1) = bytesR d k ++ lowBytes ((argsD d).getD k 0) 8 := by
  have hk' : k < (argsD d).length := hk
  rw [bytesR, List.take_succ_eq_append_getElem hk', List.getD_eq_getElem?_getD, List.getElem?_eq_getElem hk', List.flatMap_append, List.flatMap_cons, List.flatMap_nil, List.append_nil, ← List.append_assoc]
  rfl
theorem args_lt {d : Rec} (h : d.ok) (k : Nat) : (argsD d).getD k 0 < 18446744073709551616 := by
  obtain ⟨nr, arch, ip, a0, a1, a2, a3, a4, a5⟩ := d
  obtain ⟨h0, h1, h2, h3, h4, h5, h6, h7, h8⟩ := h
  simp only at h0 h1 h2 h3 h4 h5 h6 h7 h8
  rcases k with _ | _ | _ | _ | _ | _ | k <;> simp [argsD] <;> omega
theorem args_cell (d : Rec) (k : Nat) (hk : k < 6) : d.cells[3 + k]? = some (.int .u64 (((argsD d).getD k 0 : Nat) : Int)) := by
  obtain rfl | rfl | rfl | rfl | rfl | rfl : k = 0 ∨ k = 1 ∨ k = 2 ∨ k = 3 ∨ k = 4 ∨ k = 5 := by omega
  all_goals rfl
theorem own_src {w : World} {base : Nat} {v : Value} {n : Nat} {l : List UInt8} (h : w.ownsRow base 5 1 v n (bcells l)) (hn : n = l.length) : SrcAt w 1 v n (bcells l) := by
  have h1 := (BAt.own h hn).src
  rw [← hn] at h1
  exact h1
/-- low, from a world on. -/
theorem lowb_here {W V : World} (hV : Below W.heap.size W V) (N sz : Nat) (hsz : sz ≤ 8) (hN : N < 18446744073709551616) :
    Calls Tryd.prog 68 #[.int .u64 N, .int .i64 sz] V fun e w' => ∃ v' L, e = .returned v' ∧ Hid (L = lowBytes N sz ∧ sz = L.length) ∧ Hid (w'.ownsRow W.heap.size 5 1 v' sz (bcells L)) ∧ Hid (Below W.heap.size W w') ∧ Hid (Below V.heap.size V w') := by
  refine (lowb_any N sz hsz hN V).mono ?_
  rintro e w' ⟨v', rfl, hO, hB⟩
  exact ⟨v', _, rfl, Lib.hid ⟨rfl, (lowBytes_len _ _).symm⟩, Lib.hid (own_mono hO hV.size), Lib.hid (hV.trans (hB.mono hV.size)), Lib.hid hB⟩
theorem lowb4 {W V : World} (hV : Below W.heap.size W V) (N : Nat) (hN : N < 18446744073709551616) :
    Calls Tryd.prog 68 #[.int .u64 N, .int .i64 4] V fun e w' => ∃ v' L, e = .returned v' ∧ Hid (L = lowBytes N 4 ∧ 4 = L.length) ∧ Hid (w'.ownsRow W.heap.size 5 1 v' 4 (bcells L)) ∧ Hid (Below W.heap.size W w') ∧ Hid (Below V.heap.size V w') := lowb_here hV N 4 (by omega) hN
theorem lowb8 {W V : World} (hV : Below W.heap.size W V) (N : Nat) (hN : N < 18446744073709551616) :
    Calls Tryd.prog 68 #[.int .u64 N, .int .i64 8] V fun e w' => ∃ v' L, e = .returned v' ∧ Hid (L = lowBytes N 8 ∧ 8 = L.length) ∧ Hid (w'.ownsRow W.heap.size 5 1 v' 8 (bcells L)) ∧ Hid (Below W.heap.size W w') ∧ Hid (Below V.heap.size V w') := lowb_here hV N 8 (by omega) hN

set_option maxHeartbeats 4000000 in
theorem rbytes_any (d : Rec) (w : World) (hd : d.ok) :
    Calls Tryd.prog 66 #[d.val] w fun e w' => ∃ v, e = .returned v ∧ w'.ownsRow w.heap.size 5 1 v 64 (bcells (bytesD d)) ∧ Below w.heap.size w w' := by
  obtain ⟨i0, hi, hz0, hz1, hz2⟩ := info_parts info8
  have h0 := hd.1
  have h1 := hd.2.1
  have h2 := hd.2.2.1
  have HK := Lib.hid hd
  clear hd
  go_enter Tryd.func66, Tryd.ntmps66
  go_wp2_with fail
  obtain ⟨W, hW⟩ : ∃ W, W = w.alloc (.cells d.cells 49) := ⟨_, rfl⟩
  have HX : Hid (W.heap[w.heap.size]? = some (.cells d.cells 49)) := Lib.hid (by rw [hW]; exact heap_alloc_new _ _)
  have HW : Hid (Below w.heap.size w W) := Lib.hid (by rw [hW]; exact ba _ (Below.refl _ _))
  rw [← hW]
  have sx := lt_of_block HX.out
  have x0 : W.cell? ⟨w.heap.size, 0, none⟩ = some (.int .u32 d.nr) := cell_in HX.out 0
  have x1 : W.cell? ⟨w.heap.size, 1, none⟩ = some (.int .u32 d.arch) := cell_in HX.out 1
  obtain ⟨n0, hn0⟩ : ∃ n0, n0 = d.nr := ⟨_, rfl⟩
  obtain ⟨n1, hn1⟩ : ∃ n1, n1 = d.arch := ⟨_, rfl⟩
  rw [← hn0] at x0 h0
  rw [← hn1] at x1 h1
  have HN := Lib.hid (And.intro hn0 hn1)
  clear hW hn0 hn1
  have m0 : n0 < 18446744073709551616 := by omega
  have m1 : n1 < 18446744073709551616 := by omega
  have q0 : IntKind.u64.wrap (n0 : Int) = (n0 : Int) := by rw [IntKind.wrap_u64]; omega
  have q1 : IntKind.u64.wrap (n1 : Int) = (n1 : Int) := by rw [IntKind.wrap_u64]; omega
  go_region_held3 (fun w' => w'.cell? ⟨w.heap.size, 0, none⟩ = some (.int .u32 n0) ∧ w'.cell? ⟨w.heap.size, 1, none⟩ = some (.int .u32 n1)) (first | exact ⟨x0, x1⟩ | exact ⟨a0, a1⟩ | go_keep)
    (first
      | (go_at_call 68; refine (lowb4 (W := W) hB8.out _ ?_).mono ?_; exact m1; rintro e w12 ⟨u12, L12, rfl, hL12, hO12, hB12, hb12⟩; have a0 := (hB12.out.cell (p := ⟨w.heap.size, 0, none⟩) sx).trans x0; have a1 := (hB12.out.cell (p := ⟨w.heap.size, 1, none⟩) sx).trans x1)
      | (go_at_call 68; refine (lowb4 (W := W) (bdN (Below.refl _ _) 1) _ ?_).mono ?_; exact m0; rintro e w8 ⟨u8, L8, rfl, hL8, hO8, hB8, hb8⟩; have a0 := (hB8.out.cell (p := ⟨w.heap.size, 0, none⟩) sx).trans x0; have a1 := (hB8.out.cell (p := ⟨w.heap.size, 1, none⟩) sx).trans x1)
      | (refine step_append_src _ (by rfl) _ _ 101 (by rfl) W.heap.size 5 i0 (.int .u8 0) 1 1 Tryd.underlying101 hi hz0 hz1 hz2 (by rfl) (by decide) u8 4 (bcells L8) (by rfl) (own_below hO8.out hb12.out) u12 4 (bcells L12) (by rfl) (own_src hO12.out hL12.out.2) (bcells_one _) (by decide) (by decide) hB12.out.size ?_; intro u13 w13 hO13 hg13; have hB13 := Lib.hid (grown_below hB12.out (own_below hO8.out hb12.out) hg13 hB12.out.size); have a0 := (hB13.out.cell (p := ⟨w.heap.size, 0, none⟩) sx).trans x0; have a1 := (hB13.out.cell (p := ⟨w.heap.size, 1, none⟩) sx).trans x1))
  rename_i hh
  have HO13 : Hid (w13.ownsRow W.heap.size 5 1 u13 8 (bcells (lowBytes d.nr 4 ++ lowBytes d.arch 4))) := Lib.hid (by
    rw [hL8.out.1, hL12.out.1, HN.out.1, HN.out.2] at hO13
    rw [bcells_app]
    exact hO13)
  have hX13 := (hB13.out.block _ sx).trans HX.out
  clear hh a0 a1 hO13 hg13 hL8 hL12 hO8 hO12 hB8 hb8 hB12 hb12 q0 q1 m0 m1 x0 x1 HN
  have x2 : w13.cell? ⟨w.heap.size, 2, none⟩ = some (.int .u64 d.ip) := cell_in hX13 2
  clear hX13
  go_wp2_with fail
  refine (lowb8 (W := W) hB13.out _ h2).mono ?_
  rintro e w17 ⟨u17, L17, rfl, hL17, hO17, hB17, hb17⟩
  clear x2
  go_wp2_with (at_builtin; refine wpList_append_src _ rfl _ _ 101 rfl W.heap.size 5 i0 (.int .u8 0) 1 1 Tryd.underlying101 hi hz0 hz1 hz2 rfl (by decide) u13 8 (bcells (lowBytes d.nr 4 ++ lowBytes d.arch 4)) rfl (own_below HO13.out hb17.out) u17 8 (bcells L17) rfl (own_src hO17.out hL17.out.2) (bcells_one _) (by decide) (by decide) hB17.out.size ?_)
  intro u18 w18 hO18 hg18
  have HO18 : Hid (w18.ownsRow W.heap.size 5 1 u18 16 (bcells (bytesR d 0))) := Lib.hid (by
    rw [hL17.out.1] at hO18
    have e : bytesR d 0 = lowBytes d.nr 4 ++ lowBytes d.arch 4 ++ lowBytes d.ip 8 := by simp [bytesR, headR]
    rw [e, bcells_app]
    exact hO18)
  have HB18 := Lib.hid (grown_below hB17.out (own_below HO13.out hb17.out) hg18 hB17.out.size)
  clear hO18 hg18 hL17 hO17 hB17 hb17 HO13 hB13
  go_wp2_with fail
  go_loopw [3, 4] (fun u i wr => ∃ k n : Nat, k ≤ 6 ∧ n = 16 + 8 * k ∧ i = .int .i64 k ∧ wr.ownsRow W.heap.size 5 1 u n (bcells (bytesR d k)) ∧ Below W.heap.size W wr) (fun _ i _ => 6 - (intOf i).toNat)
  case atStart => exact ⟨0, 16, by omega, rfl, rfl, HO18.out, HB18.out⟩
  case round =>
    obtain ⟨k, n, hk, hn, rfl, hO, hB⟩ := hrel
    have HO := Lib.hid hO
    have HB := Lib.hid hB
    have hsz := hB.size
    clear hO
    by_cases hlt : k < 6
    · have hXr := (hB.block _ sx).trans HX.out
      have xk := (cell_in hXr (3 + k)).trans (args_cell d k hlt)
      have HAk := Lib.hid (args_lt HK.out k)
      have HNx := Lib.hid (bytesR_next d k hlt)
      obtain ⟨x, hx⟩ : ∃ x, x = (argsD d).getD k 0 := ⟨_, rfl⟩
      rw [← hx] at xk HAk HNx
      clear hx hXr hB HO18 HB18
      go_wp2_with fail
      refine (lowb8 (W := W) HB.out _ HAk.out).mono ?_
      rintro e w28 ⟨u28, L28, rfl, hL28, hO28, hB28, hb28⟩
      clear xk
      go_wp2_with (at_builtin; refine wpList_append_src _ rfl _ _ 101 rfl W.heap.size 5 i0 (.int .u8 0) 1 1 Tryd.underlying101 hi hz0 hz1 hz2 rfl (by decide) u3 n (bcells (bytesR d k)) rfl (own_below HO.out hb28.out) u28 8 (bcells L28) rfl (own_src hO28.out hL28.out.2) (bcells_one _) (by unfold maxLen; omega) (by omega) hB28.out.size ?_)
      intro u29 w29 hO29 hg29
      have HO29 : Hid (w29.ownsRow W.heap.size 5 1 u29 (n + 8) (bcells (bytesR d (k + 1)))) := Lib.hid (by
        rw [hL28.out.1] at hO29
        rw [HNx.out, bcells_app, hn]
        exact hO29)
      have HB29 := Lib.hid (grown_below hB28.out (own_below HO.out hb28.out) hg29 hB28.out.size)
      clear hO29 hg29 hL28 hO28 hB28 hb28 HO HB
      go_wp2_with fail
      go_roundw
      case rel => exact ⟨k + 1, n + 8, by omega, by omega, by go_num, HO29.out, HB29.out⟩
      case measure => simp [intOf]; omega
    · obtain rfl : k = 6 := by omega
      obtain rfl : n = 64 := by omega
      have HE := Lib.hid (bytesR_all d)
      clear hB HO18 HB18 hn
      go_wp2_with fail
      go_ret
      refine ⟨_, rfl, ?_, HW.out.trans (HB.out.mono HW.out.size)⟩
      have h := HO.out
      rw [HE.out] at h
      exact own_mono h HW.out.size
end Go.Proofs.YtmbgcfikpndamaaDoor
/-
  The document's own way (package hurdleref04): From, of sixty-four bytes.
-/
namespace Go.Proofs.YtmbgcfikpndamaaDoor
open Go.ChangeShapes Go.WideShapes Go.ChangeAt Go.RowKit
set_option maxRecDepth 20000

/-- number, of a piece. -/
theorem num_piece {V : World} {v : Value} {b : List UInt8} {x lo n : Nat} (h : BAt V v ((b.drop lo).take n)) (_ _ : Nat) (hl : b.length = 64) (hb : lo + n ≤ 64) (h8 : n ≤ 8) (hx : x = numAt b lo n) :
    Calls Tryd.prog 65 #[v] V fun e w' => e = .returned (.int .u64 (x : Nat)) ∧ V = w' := by
  have hle : ((b.drop lo).take n).length = n := by rw [List.length_take, List.length_drop]; omega
  refine (num_any v _ V h (by omega)).mono ?_
  rintro e w' ⟨rfl, rfl⟩
  rw [hle, numAt_sub b lo n (by omega), hx]
  exact ⟨rfl, rfl⟩

end Go.Proofs.YtmbgcfikpndamaaDoor

/-
  The document's own way (package hurdleref04): Word.
-/
namespace Go.Proofs.YtmbgcfikpndamaaDoor
open Go.ChangeShapes Go.WideShapes Go.ChangeAt Go.RowKit
set_option maxRecDepth 20000

theorem word_num {d : Rec} (hd : d.ok) {n : Nat} (h : hasW n = true) : numAt (bytesD d) n 4 = wordAtD d n := by
  have hh : n % 4 = 0 ∧ n < 64 := by simpa [hasW] using h
  have e := num_flat (wordsD d) (n / 4) (words_lt hd) (by rw [words_len]; omega)
  rw [show 4 * (n / 4) = n by omega] at e
  unfold wordAtD bytesD
  rw [if_pos h, e, List.getD_eq_getElem?_getD, List.getElem?_eq_getElem (by rw [words_len]; omega)]
  rfl

set_option maxHeartbeats 2000000 in
theorem rword_any (d : Rec) (n : Nat) (w : World) (hd : d.ok) (hn : n < 4294967296) :
    Calls Tryd.prog 51 #[d.val, .int .u32 n] w fun e w' => e = .returned (.tuple #[.int .u32 (wordAtD d n), .bool (hasW n)]) ∧ Below w.heap.size w w' := by
  cases hh : hasW n
  · have HE : Hid (wordAtD d n = 0) := Lib.hid (by simp [wordAtD, hh])
    by_cases h4 : n % 4 = 0
    · have h64 : 64 ≤ n := by
        simp [hasW, h4] at hh
        omega
      have h4i : (n : Int) % 4 = 0 := by omega
      have h4b : ((n : Int) % 4 != 0) = false := by simp [h4i]
      clear hh h4 h4i
      go_enter Tryd.func51, Tryd.ntmps51
      go_wp2_with fail
      go_ret2
      exact ⟨by rw [HE.out]; rfl, ba _ (Below.refl _ _)⟩
    · have h4i : ¬ (n : Int) % 4 = 0 := by omega
      have h4b : ((n : Int) % 4 != 0) = true := by simp [h4i]
      clear hh h4 h4i
      go_enter Tryd.func51, Tryd.ntmps51
      go_wp2_with fail
      go_ret2
      exact ⟨by rw [HE.out]; rfl, ba _ (Below.refl _ _)⟩
  · have h2 : n % 4 = 0 ∧ n < 64 := by simpa [hasW] using hh
    have h64 := h2.2
    have h60 : n ≤ 60 := by omega
    have h4b : ((n : Int) % 4 != 0) = false := by
      have : (n : Int) % 4 = 0 := by omega
      simp [this]
    have HE := Lib.hid (word_num hd hh)
    have HD := Lib.hid hd
    have hW : wordAtD d n < 4294967296 := by rw [← HE.out]; exact numAt_lt _ _ _
    clear hd h2 hh
    go_enter Tryd.func51, Tryd.ntmps51
    go_wp2_with fail
    refine (rbytes_any d _ HD.out).mono ?_
    rintro e w1 ⟨v, rfl, hO, hb1⟩
    have HB1 := Lib.hid (below2 (ba (.cells d.cells 49) (Below.refl w.heap.size w)) hb1)
    obtain ⟨u, eu, hu⟩ := (BAt.own hO (bytesD_len d).symm).sub n (n + 4) (n : Int) ((n : Int) + 4) rfl (by simp) (by omega) (by rw [bytesD_len]; omega)
    rw [show n + 4 - n = 4 by omega] at hu
    have HU : Hid (Calls Tryd.prog 65 #[u] w1 fun e w' => e = .returned (.int .u64 (wordAtD d n : Nat)) ∧ w1 = w') := Lib.hid (num_piece hu n 4 (bytesD_len d) (by omega) (by omega) HE.out.symm)
    clear hO hb1 hu
    obtain ⟨x, hx⟩ : ∃ x, x = wordAtD d n := ⟨_, rfl⟩
    rw [← hx] at HU hW
    have HX := Lib.hid hx
    clear hx HE
    go_wp2_with fail
    refine HU.out.mono ?_
    rintro e w' ⟨rfl, rfl⟩
    go_wp2_with fail
    go_ret2
    exact ⟨by rw [← HX.out]; rfl, HB1.out⟩
end Go.Proofs.YtmbgcfikpndamaaDoor
/-
  The document's own answers for runs (package hurdleref06): Step.
-/
namespace Go.Proofs.YtmbgcfikpndamaaDoor
open Go.ChangeShapes Go.WideShapes Go.ChangeAt Go.RowKit
set_option maxRecDepth 20000

/-- The state behind the loop over the cells, and what it has found. -/
def putS (s : St) (op : Int) (k : Nat) : St := if op = 2 then ⟨s.a, s.x, s.m.set k s.a⟩ else if op = 3 then ⟨s.a, s.x, s.m.set k s.x⟩ else s
def midS (s t : St) (k j : Nat) : St := if j ≤ k then s else t
def midC (s : St) (k j : Nat) : Nat := if j ≤ k then 0 else mAt s.m k
theorem midS_start (s t : St) (k : Nat) : midS s t k 0 = s := by simp [midS]
theorem midC_start (s : St) (k : Nat) : midC s k 0 = 0 := by simp [midC]
theorem midS_at (s t : St) (k : Nat) : midS s t k k = s := by simp [midS]
theorem midS_hit (s t : St) (k : Nat) : midS s t k (k + 1) = t := by unfold midS; rw [if_neg (by omega)]
theorem midC_hit (s : St) (k : Nat) : midC s k (k + 1) = mAt s.m k := by unfold midC; rw [if_neg (by omega)]
theorem midS_miss (s t : St) {k j : Nat} (h : j ≠ k) : midS s t k (j + 1) = midS s t k j := by
  unfold midS
  by_cases hj : j ≤ k
  · rw [if_pos hj, if_pos (by omega)]
  · rw [if_neg hj, if_neg (by omega)]
theorem midC_miss (s : St) {k j : Nat} (h : j ≠ k) : midC s k (j + 1) = midC s k j := by
  unfold midC
  by_cases hj : j ≤ k
  · rw [if_pos hj, if_pos (by omega)]
  · rw [if_neg hj, if_neg (by omega)]
theorem midC_end {s : St} (hs : s.ok) (k : Nat) : midC s k 16 = mAt s.m k := by
  unfold midC
  by_cases hj : 16 ≤ k
  · rw [if_pos hj, mAt_out (by have := hs.2.2.1; omega)]
  · rw [if_neg hj]
theorem midS_end {s : St} (hs : s.ok) (op : Int) (k : Nat) : midS s (putS s op k) k 16 = putS s op k := by
  unfold midS
  by_cases hj : 16 ≤ k
  · rw [if_pos hj]
    have e : ∀ v, s.m.set k v = s.m := fun v => List.set_eq_of_length_le (by have := hs.2.2.1; omega)
    unfold putS
    rw [e, e]
    split
    · rfl
    · split <;> rfl
  · rw [if_neg hj]

set_option maxHeartbeats 4000000 in
theorem rstep_any (s : St) (op jt jf : Int) (k : Nat) (d : Rec) (w : World) (hs : s.ok) (hk : k < 4294967296) (hd : d.ok) :
    Calls Tryd.prog 36 #[s.val, insV op jt jf k, d.val] w fun e w' => e = .returned (.tuple #[(stepS s ⟨op, jt, jf, k⟩ d).val, .bool (goesS s ⟨op, jt, jf, k⟩)]) ∧ Below w.heap.size w w' := by
  obtain ⟨W, hW, hG, hX, hD, hR, hb⟩ := box4 w (stB s) (insB op jt jf k) (.cells d.cells 49) (stB zeroSt)
  have hz := st_zero
  have HG := Lib.hid hG
  have HX := Lib.hid hX
  have HD := Lib.hid hD
  have HR := Lib.hid hR
  have HB := Lib.hid hb
  have HSo := Lib.hid hs
  have HDo := Lib.hid hd
  clear hG hX hD hR hb hs hd
  go_enter Tryd.func36, Tryd.ntmps36
  go_upto_region 1 with fail
  rw [← hW]
  clear hW hz
  obtain ⟨c0, c1, c2, c3⟩ := insX HX.out
  go_wp2_with fail
  refine (refAlu_any op jt jf k _).mono ?_
  rintro e w1 ⟨rfl, hb1⟩
  have HG1 := Lib.hid (kb hb1 HG.out)
  have HX1 := Lib.hid (kb hb1 HX.out)
  have HD1 := Lib.hid (kb hb1 HD.out)
  have HR1 := Lib.hid (kb hb1 HR.out)
  have HB1 := Lib.hid (below2 HB.out (hb1.mono (Nat.le_refl _)))
  clear hb1 c0 c1 c2 c3 HG HX HD HR HB
  cases hB : aluB op
  · have HA := Lib.hid hB
    have HGO : Hid (goesS s ⟨op, jt, jf, k⟩ = true) := Lib.hid (by simp [goesS, hB])
    clear hB
    go_wp2_with fail
    go_loopw [14, 15] (fun c i wr => ∃ j : Nat, j ≤ 16 ∧ c = .int .u32 (midC s k j : Nat) ∧ i = .int .i64 j ∧ wr.heap[w.heap.size]? = some (stB (midS s (putS s op k) k j)) ∧ wr.heap[w.heap.size + 1]? = some (insB op jt jf k) ∧ wr.heap[w.heap.size + 2]? = some (.cells d.cells 49) ∧ wr.heap[w.heap.size + 3]? = some (stB zeroSt) ∧ Below w.heap.size w wr) (fun _ i _ => 16 - (intOf i).toNat)
    case atStart => exact ⟨0, by omega, by rw [midC_start]; rfl, rfl, by rw [midS_start]; exact HG1.out, HX1.out, HD1.out, HR1.out, HB1.out⟩
    case round =>
      clear HG1 HX1 HD1 HR1 HB1
      obtain ⟨j, hj, rfl, rfl, hg, hx, hdd, hr, hbw⟩ := hrel
      have HG := Lib.hid hg
      have HX := Lib.hid hx
      have HD := Lib.hid hdd
      have HR := Lib.hid hr
      have HB := Lib.hid hbw
      clear hg hx hdd hr hbw
      by_cases hlt : j < 16
      · by_cases hjk : j = k
        · subst hjk
          have hm := HSo.out.2.2.1
          have h16 : j < 16 := hlt
          rw [midS_at] at HG
          have HSA := Lib.hid (set_m s s.a hm h16)
          have HSX := Lib.hid (set_m s s.x hm h16)
          have f0 := (cell_in HG.out 0).trans (st_a s)
          have f1 := (cell_in HG.out 1).trans (st_x s)
          have fm := (cell_in HG.out (2 + j)).trans (st_m s h16)
          obtain ⟨c0, c1, c2, c3⟩ := insX HX.out
          clear hm
          cases h2 : (op == 2)
          · have n2 : ¬ op = 2 := by simpa using h2
            cases h3 : (op == 3)
            · have n3 : ¬ op = 3 := by simpa using h3
              have HE : Hid (putS s op j = s) := Lib.hid (by simp [putS, n2, n3])
              clear n2 n3
              go_wp2_with fail
              go_roundw
              case rel => exact ⟨j + 1, by omega, by rw [midC_hit], by go_num, by rw [midS_hit, HE.out]; exact HG.out, HX.out, HD.out, HR.out, HB.out⟩
              case measure => simp [intOf]; omega
            · have n3 : op = 3 := by simpa using h3
              have HE : Hid (putS s op j = ⟨s.a, s.x, s.m.set j s.x⟩) := Lib.hid (by simp [putS, n3])
              clear n2 n3
              go_wp2_with (refine st_fld HSX.out HG.out (by omega) rfl rfl rfl rfl ?_; intro W1 hp1; have HP1 := Lib.hid hp1; clear hp1)
              go_roundw
              case rel => exact ⟨j + 1, by omega, by rw [midC_hit], by go_num, by rw [midS_hit, HE.out]; exact HP1.out.row, HP1.out.keep (by omega) HX.out, HP1.out.keep (by omega) HD.out, HP1.out.keep (by omega) HR.out, HP1.out.below HB.out (by omega)⟩
              case measure => simp [intOf]; omega
          · have n2 : op = 2 := by simpa using h2
            have HE : Hid (putS s op j = ⟨s.a, s.x, s.m.set j s.a⟩) := Lib.hid (by simp [putS, n2])
            have h3 : (op == 3) = false := by rw [n2]; rfl
            clear n2
            go_wp2_with (refine st_fld HSA.out HG.out (by omega) rfl rfl rfl rfl ?_; intro W1 hp1; have HP1 := Lib.hid hp1; clear hp1; obtain ⟨c0, c1, c2, c3⟩ := insX (HP1.out.keep (by omega) HX.out))
            go_roundw
            case rel => exact ⟨j + 1, by omega, by rw [midC_hit], by go_num, by rw [midS_hit, HE.out]; exact HP1.out.row, HP1.out.keep (by omega) HX.out, HP1.out.keep (by omega) HD.out, HP1.out.keep (by omega) HR.out, HP1.out.below HB.out (by omega)⟩
            case measure => simp [intOf]; omega
        · have hne : ((j : Int) == (k : Int)) = false := by simp; omega
          have HMS := Lib.hid (midS_miss s (putS s op k) hjk)
          have HMC := Lib.hid (midC_miss s hjk)
          clear hjk
          obtain ⟨c0, c1, c2, c3⟩ := insX HX.out
          go_wp2_with fail
          go_roundw
          case rel => exact ⟨j + 1, by omega, by rw [HMC.out], by go_num, by rw [HMS.out]; exact HG.out, HX.out, HD.out, HR.out, HB.out⟩
          case measure => simp [intOf]; omega
      · have h16 : j = 16 := by omega
        subst h16
        rw [midS_end HSo.out] at HG
        rw [midC_end HSo.out]
        clear hlt hj
        obtain ⟨c0, c1, c2, c3⟩ := insX HX.out
        have hop : op = 0 ∨ op = 1 ∨ op = 32 ∨ op = 96 ∨ op = 97 ∨ op = 7 ∨ op = 135 ∨ op = 132 ∨ (¬ op = 0 ∧ ¬ op = 1 ∧ ¬ op = 32 ∧ ¬ op = 96 ∧ ¬ op = 97 ∧ ¬ op = 7 ∧ ¬ op = 135 ∧ ¬ op = 132) := by omega
        rcases hop with rfl | rfl | rfl | rfl | rfl | rfl | rfl | rfl | ⟨n0, n1, n32, n96, n97, n7, n135, n132⟩
        · have HE : Hid (stepS s ⟨0, jt, jf, k⟩ d = ⟨k, s.x, s.m⟩) := Lib.hid (by simp [stepS, HA.out])
          have HG : Hid (wr.heap[w.heap.size]? = some (stB s)) := HG
          go_wp2_with (first | (refine st_fld (set_a s k) HG.out (by omega) rfl rfl rfl rfl ?_; intro W1 hp1; have HP1 := Lib.hid hp1; clear hp1) | (refine ld_st HP1.out.row rfl rfl rfl ?_) | (refine st_st (HP1.out.keep (by omega) HR.out) rfl rfl rfl rfl rfl ?_; intro W2 hp2; have HP2 := Lib.hid hp2; clear hp2))
          (try simp only [Exit.inBlock, Exit.then])
          exact bodyPost_ret (results_st rfl rfl rfl HP2.out.row) rfl ⟨by rw [HE.out, HGO.out], HP2.out.below (HP1.out.below HB.out (by omega)) (by omega)⟩
        · have HE : Hid (stepS s ⟨1, jt, jf, k⟩ d = ⟨s.a, k, s.m⟩) := Lib.hid (by simp [stepS, HA.out])
          have HG : Hid (wr.heap[w.heap.size]? = some (stB s)) := HG
          go_wp2_with (first | (refine st_fld (set_x s k) HG.out (by omega) rfl rfl rfl rfl ?_; intro W1 hp1; have HP1 := Lib.hid hp1; clear hp1) | (refine ld_st HP1.out.row rfl rfl rfl ?_) | (refine st_st (HP1.out.keep (by omega) HR.out) rfl rfl rfl rfl rfl ?_; intro W2 hp2; have HP2 := Lib.hid hp2; clear hp2))
          (try simp only [Exit.inBlock, Exit.then])
          exact bodyPost_ret (results_st rfl rfl rfl HP2.out.row) rfl ⟨by rw [HE.out, HGO.out], HP2.out.below (HP1.out.below HB.out (by omega)) (by omega)⟩
        · have HE : Hid (stepS s ⟨32, jt, jf, k⟩ d = ⟨wordAtD d k, s.x, s.m⟩) := Lib.hid (by simp [stepS, HA.out])
          have HG : Hid (wr.heap[w.heap.size]? = some (stB s)) := HG
          obtain ⟨x0, x1, x2, x3, x4, x5, x6, x7, x8⟩ := rec_cells HD.out
          go_wp2_with fail
          refine (rword_any d k _ HDo.out hk).mono ?_
          rintro e w3 ⟨rfl, hb3⟩
          have HG3 := Lib.hid (kb hb3 HG.out)
          have HR3 := Lib.hid (kb hb3 HR.out)
          have HB3 := Lib.hid (HB.out.trans (hb3.mono HB.out.size))
          clear hb3 c0 c1 c2 c3 x0 x1 x2 x3 x4 x5 x6 x7 x8
          obtain ⟨v, hv⟩ : ∃ v, v = wordAtD d k := ⟨_, rfl⟩
          rw [← hv] at HE ⊢
          clear hv
          go_wp2_with (first | (refine st_fld (set_a s v) HG3.out (by omega) rfl rfl rfl rfl ?_; intro W1 hp1; have HP1 := Lib.hid hp1; clear hp1) | (refine ld_st HP1.out.row rfl rfl rfl ?_) | (refine st_st (HP1.out.keep (by omega) HR3.out) rfl rfl rfl rfl rfl ?_; intro W2 hp2; have HP2 := Lib.hid hp2; clear hp2))
          (try simp only [Exit.inBlock, Exit.then])
          exact bodyPost_ret (results_st rfl rfl rfl HP2.out.row) rfl ⟨by rw [HE.out, HGO.out], HP2.out.below (HP1.out.below HB3.out (by omega)) (by omega)⟩
        · have HE : Hid (stepS s ⟨96, jt, jf, k⟩ d = ⟨mAt s.m k, s.x, s.m⟩) := Lib.hid (by simp [stepS, HA.out, mAt])
          have HG : Hid (wr.heap[w.heap.size]? = some (stB s)) := HG
          go_wp2_with (first | (refine st_fld (set_a s (mAt s.m k)) HG.out (by omega) rfl rfl rfl rfl ?_; intro W1 hp1; have HP1 := Lib.hid hp1; clear hp1) | (refine ld_st HP1.out.row rfl rfl rfl ?_) | (refine st_st (HP1.out.keep (by omega) HR.out) rfl rfl rfl rfl rfl ?_; intro W2 hp2; have HP2 := Lib.hid hp2; clear hp2))
          (try simp only [Exit.inBlock, Exit.then])
          exact bodyPost_ret (results_st rfl rfl rfl HP2.out.row) rfl ⟨by rw [HE.out, HGO.out], HP2.out.below (HP1.out.below HB.out (by omega)) (by omega)⟩
        · have HE : Hid (stepS s ⟨97, jt, jf, k⟩ d = ⟨s.a, mAt s.m k, s.m⟩) := Lib.hid (by simp [stepS, HA.out, mAt])
          have HG : Hid (wr.heap[w.heap.size]? = some (stB s)) := HG
          go_wp2_with (first | (refine st_fld (set_x s (mAt s.m k)) HG.out (by omega) rfl rfl rfl rfl ?_; intro W1 hp1; have HP1 := Lib.hid hp1; clear hp1) | (refine ld_st HP1.out.row rfl rfl rfl ?_) | (refine st_st (HP1.out.keep (by omega) HR.out) rfl rfl rfl rfl rfl ?_; intro W2 hp2; have HP2 := Lib.hid hp2; clear hp2))
          (try simp only [Exit.inBlock, Exit.then])
          exact bodyPost_ret (results_st rfl rfl rfl HP2.out.row) rfl ⟨by rw [HE.out, HGO.out], HP2.out.below (HP1.out.below HB.out (by omega)) (by omega)⟩
        · have HE : Hid (stepS s ⟨7, jt, jf, k⟩ d = ⟨s.a, s.a, s.m⟩) := Lib.hid (by simp [stepS, HA.out])
          have HG : Hid (wr.heap[w.heap.size]? = some (stB s)) := HG
          have f0 := (cell_in HG.out 0).trans (st_a s)
          go_wp2_with (first | (refine st_fld (set_x s s.a) HG.out (by omega) rfl rfl rfl rfl ?_; intro W1 hp1; have HP1 := Lib.hid hp1; clear hp1) | (refine ld_st HP1.out.row rfl rfl rfl ?_) | (refine st_st (HP1.out.keep (by omega) HR.out) rfl rfl rfl rfl rfl ?_; intro W2 hp2; have HP2 := Lib.hid hp2; clear hp2))
          (try simp only [Exit.inBlock, Exit.then])
          exact bodyPost_ret (results_st rfl rfl rfl HP2.out.row) rfl ⟨by rw [HE.out, HGO.out], HP2.out.below (HP1.out.below HB.out (by omega)) (by omega)⟩
        · have HE : Hid (stepS s ⟨135, jt, jf, k⟩ d = ⟨s.x, s.x, s.m⟩) := Lib.hid (by simp [stepS, HA.out])
          have HG : Hid (wr.heap[w.heap.size]? = some (stB s)) := HG
          have f1 := (cell_in HG.out 1).trans (st_x s)
          go_wp2_with (first | (refine st_fld (set_a s s.x) HG.out (by omega) rfl rfl rfl rfl ?_; intro W1 hp1; have HP1 := Lib.hid hp1; clear hp1) | (refine ld_st HP1.out.row rfl rfl rfl ?_) | (refine st_st (HP1.out.keep (by omega) HR.out) rfl rfl rfl rfl rfl ?_; intro W2 hp2; have HP2 := Lib.hid hp2; clear hp2))
          (try simp only [Exit.inBlock, Exit.then])
          exact bodyPost_ret (results_st rfl rfl rfl HP2.out.row) rfl ⟨by rw [HE.out, HGO.out], HP2.out.below (HP1.out.below HB.out (by omega)) (by omega)⟩
        · have HE : Hid (stepS s ⟨132, jt, jf, k⟩ d = ⟨((-(s.a : Int)) % 4294967296).toNat, s.x, s.m⟩) := Lib.hid (by simp [stepS, HA.out])
          have HG : Hid (wr.heap[w.heap.size]? = some (stB s)) := HG
          have f0 := (cell_in HG.out 0).trans (st_a s)
          obtain ⟨v, hv⟩ : ∃ v : Nat, (-(s.a : Int)) % 4294967296 = v := ⟨((-(s.a : Int)) % 4294967296).toNat, by omega⟩
          have HN := Lib.hid (refNeg_any s.a wr (by omega) (by have := HSo.out.1; omega))
          rw [hv] at HN HE
          rw [Int.toNat_natCast] at HE
          clear hv
          go_wp2_with fail
          refine HN.out.mono ?_
          rintro e w3 ⟨rfl, rfl⟩
          go_wp2_with (first | (refine st_fld (set_a s v) HG.out (by omega) rfl rfl rfl rfl ?_; intro W1 hp1; have HP1 := Lib.hid hp1; clear hp1) | (refine ld_st HP1.out.row rfl rfl rfl ?_) | (refine st_st (HP1.out.keep (by omega) HR.out) rfl rfl rfl rfl rfl ?_; intro W2 hp2; have HP2 := Lib.hid hp2; clear hp2))
          (try simp only [Exit.inBlock, Exit.then])
          exact bodyPost_ret (results_st rfl rfl rfl HP2.out.row) rfl ⟨by rw [HE.out, HGO.out], HP2.out.below (HP1.out.below HB.out (by omega)) (by omega)⟩
        · have HE : Hid (stepS s ⟨op, jt, jf, k⟩ d = putS s op k) := Lib.hid (by
            unfold putS stepS
            simp only [HA.out, Bool.false_eq_true, if_false, if_neg n0, if_neg n1, if_neg n32, if_neg n96, if_neg n97, if_neg n7, if_neg n135, if_neg n132, Int.toNat_natCast])
          have m0 : (op == 0) = false := by simpa using n0
          have m1 : (op == 1) = false := by simpa using n1
          have m32 : (op == 32) = false := by simpa using n32
          have m96 : (op == 96) = false := by simpa using n96
          have m97 : (op == 97) = false := by simpa using n97
          have m7 : (op == 7) = false := by simpa using n7
          have m135 : (op == 135) = false := by simpa using n135
          have m132 : (op == 132) = false := by simpa using n132
          clear n0 n1 n32 n96 n97 n7 n135 n132
          go_wp2_with (first | (refine ld_st HG.out rfl rfl rfl ?_) | (refine st_st HR.out rfl rfl rfl rfl rfl ?_; intro W2 hp2; have HP2 := Lib.hid hp2; clear hp2))
          (try simp only [Exit.inBlock, Exit.then])
          exact bodyPost_ret (results_st rfl rfl rfl HP2.out.row) rfl ⟨by rw [HE.out, HGO.out], HP2.out.below HB.out (by omega)⟩
  · obtain ⟨q, hq⟩ : ∃ q : Nat, argS s ⟨op, jt, jf, k⟩ = q := by
      unfold argS
      split
      · exact ⟨_, rfl⟩
      · exact ⟨_, rfl⟩
    have hq4 : (q : Int) ≤ 4294967295 := by
      rw [← hq]
      unfold argS
      have := (HSo.out.2.1)
      split
      · omega
      · simp only; omega
    have f0 := (cell_in HG1.out 0).trans (st_a s)
    have f1 := (cell_in HG1.out 1).trans (st_x s)
    have c3 := cell_in HX1.out 3
    have hgo : goesS s ⟨op, jt, jf, k⟩ = Wd.doB (aluV op) q := by simp [goesS, hB, hq]
    obtain ⟨v, hv⟩ : ∃ v : Nat, Wd.doV (aluV op) s.a q = v := ⟨(Wd.doV (aluV op) s.a q).toNat, by have := Wd.doV_bd (aluV op) s.a q (by omega) (by have := HSo.out.1; omega) (by omega); omega⟩
    have hc : stepS s ⟨op, jt, jf, k⟩ d = if Wd.doB (aluV op) q then ⟨v, s.x, s.m⟩ else s := by
      unfold stepS
      simp only [hB, if_true]
      rw [hgo, hq, hv]
      rfl
    have HDo2 := Lib.hid (refDo_any (aluV op) s.a q w1 (by omega) (by have := HSo.out.1; omega) (by omega) hq4)
    rw [hv] at HDo2
    have HSA := Lib.hid (set_a s v)
    cases hX2 : aluX op
    · have e : q = k := by
        have h : (k : Int) = q := by rw [← hq]; unfold argS; simp [hX2]
        omega
      subst e
      cases hb2 : Wd.doB (aluV op) q
      · rw [hb2] at HDo2 hgo hc
        have HCQ := Lib.hid hc
        have HGO := Lib.hid hgo
        clear hb2 hc hgo hv hq hB hX2
        go_wp2_with fail
        refine HDo2.out.mono ?_
        rintro e w2 ⟨rfl, hb2⟩
        have HG2 := Lib.hid (kb hb2 HG1.out)
        have HR2 := Lib.hid (kb hb2 HR1.out)
        have HB2 := Lib.hid (HB1.out.trans (hb2.mono HB1.out.size))
        clear hb2 f0 f1 c3
        go_wp2_with (first | (refine ld_st HG2.out rfl rfl rfl ?_) | (refine st_st HR2.out rfl rfl rfl rfl rfl ?_; intro W2 hp2; have HP2 := Lib.hid hp2; clear hp2))
        (try simp only [Exit.inBlock, Exit.then])
        exact bodyPost_ret (results_st rfl rfl rfl HP2.out.row) rfl ⟨by rw [HCQ.out, HGO.out]; rfl, HP2.out.below HB2.out (by omega)⟩
      · rw [hb2] at HDo2 hgo hc
        have HCQ := Lib.hid hc
        have HGO := Lib.hid hgo
        clear hb2 hc hgo hv hq hB hX2
        go_wp2_with fail
        refine HDo2.out.mono ?_
        rintro e w2 ⟨rfl, hb2⟩
        have HG2 := Lib.hid (kb hb2 HG1.out)
        have HR2 := Lib.hid (kb hb2 HR1.out)
        have HB2 := Lib.hid (HB1.out.trans (hb2.mono HB1.out.size))
        clear hb2 f0 f1 c3
        go_wp2_with (first | (refine st_fld HSA.out HG2.out (by omega) rfl rfl rfl rfl ?_; intro W1 hp1; have HP1 := Lib.hid hp1; clear hp1) | (refine ld_st HP1.out.row rfl rfl rfl ?_) | (refine st_st (HP1.out.keep (by omega) HR2.out) rfl rfl rfl rfl rfl ?_; intro W2 hp2; have HP2 := Lib.hid hp2; clear hp2))
        (try simp only [Exit.inBlock, Exit.then])
        exact bodyPost_ret (results_st rfl rfl rfl HP2.out.row) rfl ⟨by rw [HCQ.out, HGO.out]; rfl, HP2.out.below (HP1.out.below HB2.out (by omega)) (by omega)⟩
    · have e : q = s.x := by
        have h : (s.x : Int) = q := by rw [← hq]; unfold argS; simp [hX2]
        omega
      subst e
      cases hb2 : Wd.doB (aluV op) s.x
      · rw [hb2] at HDo2 hgo hc
        have HCQ := Lib.hid hc
        have HGO := Lib.hid hgo
        clear hb2 hc hgo hv hq hB hX2
        go_wp2_with fail
        refine HDo2.out.mono ?_
        rintro e w2 ⟨rfl, hb2⟩
        have HG2 := Lib.hid (kb hb2 HG1.out)
        have HR2 := Lib.hid (kb hb2 HR1.out)
        have HB2 := Lib.hid (HB1.out.trans (hb2.mono HB1.out.size))
        clear hb2 f0 f1 c3
        go_wp2_with (first | (refine ld_st HG2.out rfl rfl rfl ?_) | (refine st_st HR2.out rfl rfl rfl rfl rfl ?_; intro W2 hp2; have HP2 := Lib.hid hp2; clear hp2))
        (try simp only [Exit.inBlock, Exit.then])
        exact bodyPost_ret (results_st rfl rfl rfl HP2.out.row) rfl ⟨by rw [HCQ.out, HGO.out]; rfl, HP2.out.below HB2.out (by omega)⟩
      · rw [hb2] at HDo2 hgo hc
        have HCQ := Lib.hid hc
        have HGO := Lib.hid hgo
        clear hb2 hc hgo hv hq hB hX2
        go_wp2_with fail
        refine HDo2.out.mono ?_
        rintro e w2 ⟨rfl, hb2⟩
        have HG2 := Lib.hid (kb hb2 HG1.out)
        have HR2 := Lib.hid (kb hb2 HR1.out)
        have HB2 := Lib.hid (HB1.out.trans (hb2.mono HB1.out.size))
        clear hb2 f0 f1 c3
        go_wp2_with (first | (refine st_fld HSA.out HG2.out (by omega) rfl rfl rfl rfl ?_; intro W1 hp1; have HP1 := Lib.hid hp1; clear hp1) | (refine ld_st HP1.out.row rfl rfl rfl ?_) | (refine st_st (HP1.out.keep (by omega) HR2.out) rfl rfl rfl rfl rfl ?_; intro W2 hp2; have HP2 := Lib.hid hp2; clear hp2))
        (try simp only [Exit.inBlock, Exit.then])
        exact bodyPost_ret (results_st rfl rfl rfl HP2.out.row) rfl ⟨by rw [HCQ.out, HGO.out]; rfl, HP2.out.below (HP1.out.below HB2.out (by omega)) (by omega)⟩
end Go.Proofs.YtmbgcfikpndamaaDoor
