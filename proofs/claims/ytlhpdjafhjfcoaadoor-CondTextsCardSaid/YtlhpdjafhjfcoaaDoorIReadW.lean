/-
  What operation.read answers: its walk.
-/
import Derived.Test.YtlhpdjafhjfcoaaDoorIRead
import Derived.Test.YtlhpdjafhjfcoaaDoorICutW
import Derived.BigRegion
namespace Go.Proofs.YtlhpdjafhjfcoaaDoor
open Go.ChangeShapes Go.WideShapes Go.ChangeAt Go.RowKit
set_option maxRecDepth 20000

theorem nums_at (l : List Nat) (i : Nat) (h : i < l.length) : (nums l)[i]? = some (.int .u64 ((l.getD i 0 : Nat) : Int)) := by
  simp [List.getD, h]

/-- Three new blocks, under one name. -/
theorem jump_world (wr : World) (X A B : Obj) : ∃ W, W = ((wr.alloc X).alloc A).alloc B ∧ W.heap[wr.heap.size]? = some X ∧ Below wr.heap.size wr W := by
  refine ⟨_, rfl, ?_, ba _ (ba _ (ba _ (Below.refl _ _)))⟩
  rw [Below.heap_alloc _ _ _ (by rw [size_alloc, size_alloc]; omega), Below.heap_alloc _ _ _ (by rw [size_alloc]; omega)]
  exact heap_alloc_new _ _

end Go.Proofs.YtlhpdjafhjfcoaaDoor
