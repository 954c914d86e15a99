/-
  What ins.Branch and Ends answer, for any instruction, in every world that has the tables.
-/
import Derived.Test.YtmiflelmblnkaaaDoorIRight
namespace Go.Proofs.YtmiflelmblnkaaaDoor
open Go.ChangeShapes Go.WideShapes Go.ChangeAt Go.RowKit

theorem ends_any (op jt jf k : Int) (w : World) :
    Calls Tryd.prog 25 #[insV op jt jf k] w fun e w' => e = .returned (.bool (op == 6 || op == 22)) ∧ Below w.heap.size w w' := by
  have hb := ba (insB op jt jf k) (Below.refl w.heap.size w)
  have go : ∀ b : Bool, (op == 6) = b → Calls Tryd.prog 25 #[insV op jt jf k] w fun e w' => e = .returned (.bool (b || op == 22)) ∧ Below w.heap.size w w' := by
    intro b h
    cases b
    · go_enter Tryd.func25, Tryd.ntmps25
      go_wp2
      go_ret
      exact ⟨rfl, hb⟩
    · go_enter Tryd.func25, Tryd.ntmps25
      go_wp2
      go_ret
      exact ⟨rfl, hb⟩
  exact go _ rfl

def isBranch (op : Int) : Bool := (Ip.byOp op).isSome && Ip.hasJ ((Ip.byOp op).getD Ip.zeroRow).fmt
theorem branch_any (op jt jf k : Int) (w : World) (ht : OTab w) :
    Calls Tryd.prog 26 #[insV op jt jf k] w fun e w' => e = .returned (.bool (isBranch op)) ∧ Below w.heap.size w w' := by
  have HG : Hid (isBranch op = ((Ip.byOp op).isSome && Ip.hasJ ((Ip.byOp op).getD Ip.zeroRow).fmt)) := Lib.hid rfl
  have hb := ba (insB op jt jf k) (Below.refl w.heap.size w)
  have hH : (w.alloc (insB op jt jf k)).heap[w.heap.size]? = some (insB op jt jf k) := heap_alloc_new _ _
  have ht1 := ht.alloc (insB op jt jf k)
  go_enter Tryd.func26, Tryd.ntmps26
  go_wp2_with fail
  refine (byOp_any op _ ht1).mono ?_
  rintro e w1 ⟨r, b, rfl, hr, hbb, hB⟩
  rw [← hr, ← hbb] at HG
  have hH1 : w1.heap[w.heap.size]? = some (insB op jt jf k) := (hB.block _ (lt_of_block hH)).trans hH
  have hsz := lt_of_block hH1
  have HB := Lib.hid (hb.trans (hB.mono hb.size))
  clear hr hbb hB hH hH1 hb ht1
  cases b
  · go_wp2_with fail
    go_ret
    exact ⟨ret1 HG.out.symm, ba _ HB.out⟩
  · go_wp2_with fail
    refine (hasJ_any _ _ _ _).mono ?_
    rintro e w2 ⟨rfl, rfl⟩
    go_wp2_with fail
    go_ret
    exact ⟨ret1 HG.out.symm, ba _ (ba _ HB.out)⟩
end Go.Proofs.YtmiflelmblnkaaaDoor
