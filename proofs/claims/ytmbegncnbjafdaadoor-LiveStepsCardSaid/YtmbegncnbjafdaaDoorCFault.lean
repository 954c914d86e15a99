/-
  A list of instructions that was just laid; its shape.
-/
import Derived.Test.YtmbegncnbjafdaaDoorCPlain
import Derived.Lib.OthersKept
import Derived.Test.YtmbegncnbjafdaaDoorBytes
import Derived.Test.YtmbegncnbjafdaaDoorIRead
import Derived.OwnWalk
import Derived.Laws.OwnMore
import Derived.Test.YtmbegncnbjafdaaDoorRAlu
import Derived.BigQuiet
namespace Go.Proofs.YtmbegncnbjafdaaDoor
open Go.ChangeShapes Go.WideShapes Go.ChangeAt Go.RowKit
set_option maxRecDepth 20000

/-- A list of instructions, and of bytes, that was just laid. -/
theorem FAt.lit (w : World) (l : List X4) (t : TypeId) (cap : Nat) : FAt (w.alloc (.cells (fcells l).toArray t)) (.slice (some ⟨w.heap.size, 0, none⟩) l.length cap) l :=
  FAt.of_cells (fun _ => by rw [size_alloc]; omega) fun i u hu => by
    rw [Nat.zero_add, cell_in (heap_alloc_new w (.cells (fcells l).toArray t)) i]
    simpa using hu
theorem FAt.shape {w : World} {v : Value} {l : List X4} (h : FAt w v l) : ∃ ao cap, v = .slice ao l.length cap := by
  obtain ⟨ao, cap, rfl, _⟩ := h
  exact ⟨ao, cap, rfl⟩
end Go.Proofs.YtmbegncnbjafdaaDoor

/-
  What codec.put answers: the row with so many bytes more.
-/
namespace Go.Proofs.YtmbegncnbjafdaaDoor
open Go.ChangeShapes Go.WideShapes Go.ChangeAt Go.RowKit
set_option maxRecDepth 20000

theorem kept_append {w wr w2 : World} {base n : Nat} {v : Value} {xs : List Value} {x : Value} (hk : Lib.OthersKept 5 none w wr) (hown : wr.ownsRow base 5 1 v n xs) (hg : (wr.alloc (.cells #[x] 5)).grownBy w2 v.ownBlock) : Lib.OthersKept 5 none w w2 := by
  refine (hk.alloc _).grown hg fun g hgg => ?_
  rcases hown.2 with ⟨rfl, _⟩ | ⟨g', cap, cur, rfl, _, hh, _⟩
  · simp [Value.ownBlock] at hgg
  · simp [Value.ownBlock] at hgg
    subst hgg
    exact ⟨cur, (0, 0), (Below.heap_alloc _ _ _ (lt_of_block hh)).trans hh⟩

end Go.Proofs.YtmbegncnbjafdaaDoor

/-
  append(own, src...) where src is any filter, or any bytes, that lie in the world (nil among them).
-/
namespace Go.Proofs.YtmbegncnbjafdaaDoor
open Go.ChangeShapes Go.WideShapes Go.ChangeAt Go.RowKit

theorem FAt.src {w : World} {v : Value} {l : List X4} (h : FAt w v l) : SrcAt w 4 v l.length (fcells l) := by
  obtain ⟨ao, cap, rfl, h⟩ := h
  refine ⟨ao, cap, rfl, fcells_len l, fun h0 => ?_, fun ad had j u hu => ?_⟩
  · rcases h with rfl | ⟨b, off, rfl, _⟩
    · rfl
    · cases h0
  · rcases h with rfl | ⟨b, off, rfl, _, hc⟩
    · simp [fcells] at hu
    · cases had
      have hj : j < l.length * 4 := by rw [← fcells_len]; exact (List.getElem?_eq_some_iff.1 hu).1
      have hd : j / 4 < l.length := by omega
      have e : j = j / 4 * 4 + j % 4 := by omega
      have h4 := fcells_at l (j / 4) hd (j % 4) (by omega)
      rw [← e, hu] at h4
      obtain ⟨c0, c1, c2, c3⟩ := hc (j / 4) hd
      have hm : j % 4 < 4 := by omega
      rw [add_plain]
      generalize hr : j % 4 = r at *
      match r, hm with
      | 0, _ => rw [show off + j = off + j / 4 * 4 by omega, c0]; simpa using h4.symm
      | 1, _ => rw [show off + j = off + j / 4 * 4 + 1 by omega, c1]; simpa using h4.symm
      | 2, _ => rw [show off + j = off + j / 4 * 4 + 2 by omega, c2]; simpa using h4.symm
      | 3, _ => rw [show off + j = off + j / 4 * 4 + 3 by omega, c3]; simpa using h4.symm
end Go.Proofs.YtmbegncnbjafdaaDoor

/-
  What codec.fault answers, for any filter that lies in a world.
-/
namespace Go.Proofs.YtmbegncnbjafdaaDoor
open Go.ChangeShapes Go.WideShapes Go.ChangeAt Go.RowKit
set_option maxRecDepth 20000

end Go.Proofs.YtmbegncnbjafdaaDoor
