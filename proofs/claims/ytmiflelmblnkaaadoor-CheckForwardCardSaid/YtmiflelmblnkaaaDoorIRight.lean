/-
  What ins.Right answers, for any instruction, in every world that has the tables.
-/
import Derived.Test.YtmiflelmblnkaaaDoorIBy
import Derived.Lib.QuietBelow
namespace Go.Proofs.YtmiflelmblnkaaaDoor
open Go.ChangeShapes Go.WideShapes Go.ChangeAt Go.RowKit

/-- An instruction's block. -/
abbrev insB (op jt jf k : Int) : Obj := .cells #[.int .i64 op, .int .i64 jt, .int .i64 jf, .int .u32 k] 36
abbrev insV (op jt jf k : Int) : Value := .agg #[.int .i64 op, .int .i64 jt, .int .i64 jf, .int .u32 k]

/-- Is it right? -/
def right (op jt jf k : Int) : Bool := (Ip.byOp op).isSome && Ip.fits ((Ip.byOp op).getD Ip.zeroRow).fmt jt jf k

theorem right_any (op jt jf k : Int) (w : World) (ht : OTab w) :
    Calls Tryd.prog 32 #[insV op jt jf k] w fun e w' => e = .returned (.bool (right op jt jf k)) ∧ Below w.heap.size w w' := by
  have HG : Hid (right op jt jf k = ((Ip.byOp op).isSome && Ip.fits ((Ip.byOp op).getD Ip.zeroRow).fmt jt jf k)) := Lib.hid rfl
  have hb := ba (insB op jt jf k) (Below.refl w.heap.size w)
  have hH : (w.alloc (insB op jt jf k)).heap[w.heap.size]? = some (insB op jt jf k) := heap_alloc_new _ _
  have ht1 := ht.alloc (insB op jt jf k)
  go_enter Tryd.func32, Tryd.ntmps32
  go_wp2_with fail
  refine (byOp_any op _ ht1).mono ?_
  rintro e w1 ⟨r, b, rfl, hr, hbb, hB⟩
  rw [← hr, ← hbb] at HG
  have hH1 : w1.heap[w.heap.size]? = some (insB op jt jf k) := (hB.block _ (lt_of_block hH)).trans hH
  have hsz := lt_of_block hH1
  have c0 : w1.cell? ⟨w.heap.size, 0, none⟩ = some (.int .i64 op) := cell_in hH1 0
  have c1 : w1.cell? ⟨w.heap.size, 1, none⟩ = some (.int .i64 jt) := cell_in hH1 1
  have c2 : w1.cell? ⟨w.heap.size, 2, none⟩ = some (.int .i64 jf) := cell_in hH1 2
  have c3 : w1.cell? ⟨w.heap.size, 3, none⟩ = some (.int .u32 k) := cell_in hH1 3
  have HB := Lib.hid (hb.trans (hB.mono hb.size))
  clear hr hbb hB hH hH1 hb ht1
  cases b
  · go_wp2_with fail
    go_ret
    exact ⟨ret1 HG.out.symm, ba _ HB.out⟩
  · go_wp2_with fail
    refine (fits_any _ _ _ _ _ _ _ _).mono ?_
    rintro e w2 ⟨rfl, hB2⟩
    go_wp2_with fail
    go_ret
    refine ⟨ret1 HG.out.symm, ?_⟩
    have h := ba (.cells #[.int .i64 r.op, .string r.str, .int .i64 r.fmt] 76) HB.out
    exact h.trans (hB2.mono h.size)
end Go.Proofs.YtmiflelmblnkaaaDoor
