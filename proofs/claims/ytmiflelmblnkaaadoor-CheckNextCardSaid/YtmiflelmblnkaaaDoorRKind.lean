/-
  The document's own answers on instructions (package hurdleref02): Branch, Ends answer as package ins does.
-/
import Derived.Test.YtmiflelmblnkaaaDoorRRight
import Derived.Test.YtmiflelmblnkaaaDoorIKind
namespace Go.Proofs.YtmiflelmblnkaaaDoor
open Go.ChangeShapes Go.WideShapes Go.ChangeAt Go.RowKit

theorem refEnds_any (op jt jf k : Int) (w : World) :
    Calls Tryd.prog 17 #[insV op jt jf k] w fun e w' => e = .returned (.bool (op == 6 || op == 22)) ∧ Below w.heap.size w w' := by
  have hb := ba (insB op jt jf k) (Below.refl w.heap.size w)
  have go : ∀ b : Bool, (op == 6) = b → Calls Tryd.prog 17 #[insV op jt jf k] w fun e w' => e = .returned (.bool (b || op == 22)) ∧ Below w.heap.size w w' := by
    intro b h
    cases b
    · go_enter Tryd.func17, Tryd.ntmps17
      go_wp2
      go_ret
      exact ⟨rfl, hb⟩
    · go_enter Tryd.func17, Tryd.ntmps17
      go_wp2
      go_ret
      exact ⟨rfl, hb⟩
  exact go _ rfl
theorem refBranch_any (op jt jf k : Int) (w : World) :
    Calls Tryd.prog 28 #[insV op jt jf k] w fun e w' => e = .returned (.bool (isBranch op)) ∧ Below w.heap.size w w' := by
  have HB0 := Lib.hid (ba (insB op jt jf k) (Below.refl w.heap.size w))
  have HG : Hid (isBranch op = Ip.branchB (Ip.plc op)) := Lib.hid (by
    rcases Ip.plc_cases op with ⟨i, hi, hp, _, hb, _⟩ | ⟨hp, hb⟩
    · unfold isBranch
      rw [hb, hp]
      exact (Ip.ref_all i hi).2.2.2.2.1
    · unfold isBranch
      rw [hb, hp]
      rfl)
  go_enter Tryd.func28, Tryd.ntmps28
  go_wp2_with fail
  refine (place_any _ _).mono ?_
  rintro e w1 ⟨rfl, hb1⟩
  have HB1 := Lib.hid (HB0.out.trans (hb1.mono HB0.out.size))
  clear hb1
  go_wp2_with fail
  refine (rbranch_any _ _).mono ?_
  rintro e w2 ⟨rfl, rfl⟩
  go_wp2_with fail
  go_ret
  exact ⟨ret1 HG.out.symm, HB1.out⟩
end Go.Proofs.YtmiflelmblnkaaaDoor
