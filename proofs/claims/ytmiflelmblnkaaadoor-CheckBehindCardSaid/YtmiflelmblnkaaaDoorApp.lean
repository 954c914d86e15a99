/-
  append(own, src...) where src is any filter, or any bytes, that lie in the world (nil among them).
-/
import Derived.Test.YtmiflelmblnkaaaDoorBytes
import Derived.Test.YtmiflelmblnkaaaDoorCPlain
import Derived.Test.YtmiflelmblnkaaaDoorICut
import Derived.OwnWalk
import Derived.Laws.OwnMore
namespace Go.Proofs.YtmiflelmblnkaaaDoor
open Go.ChangeShapes Go.WideShapes Go.ChangeAt Go.RowKit

theorem FAt.src {w : World} {v : Value} {l : List X4} (h : FAt w v l) : SrcAt w 4 v l.length (fcells l) := by
  obtain ⟨ao, cap, rfl, h⟩ := h
  refine ⟨ao, cap, rfl, fcells_len l, fun h0 => ?_, fun ad had j u hu => ?_⟩
  · rcases h with rfl | ⟨b, off, rfl, _⟩
    · rfl
    · cases h0
  · rcases h with rfl | ⟨b, off, rfl, _, hc⟩
    · simp [fcells] at hu
    · cases had
      have hj : j < l.length * 4 := by rw [← fcells_len]; exact (List.getElem?_eq_some_iff.1 hu).1
      have hd : j / 4 < l.length := by omega
      have e : j = j / 4 * 4 + j % 4 := by omega
      have h4 := fcells_at l (j / 4) hd (j % 4) (by omega)
      rw [← e, hu] at h4
      obtain ⟨c0, c1, c2, c3⟩ := hc (j / 4) hd
      have hm : j % 4 < 4 := by omega
      rw [add_plain]
      generalize hr : j % 4 = r at *
      match r, hm with
      | 0, _ => rw [show off + j = off + j / 4 * 4 by omega, c0]; simpa using h4.symm
      | 1, _ => rw [show off + j = off + j / 4 * 4 + 1 by omega, c1]; simpa using h4.symm
      | 2, _ => rw [show off + j = off + j / 4 * 4 + 2 by omega, c2]; simpa using h4.symm
      | 3, _ => rw [show off + j = off + j / 4 * 4 + 3 by omega, c3]; simpa using h4.symm
end Go.Proofs.YtmiflelmblnkaaaDoor
