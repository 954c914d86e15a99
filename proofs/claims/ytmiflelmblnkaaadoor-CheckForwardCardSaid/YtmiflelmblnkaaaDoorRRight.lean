/-
  The document's own answers on instructions (package hurdleref02): Right answers as package ins does.
-/
import Derived.Test.YtmiflelmblnkaaaDoorRPlace
namespace Go.Proofs.YtmiflelmblnkaaaDoor
open Go.ChangeShapes Go.WideShapes Go.ChangeAt Go.RowKit
set_option maxRecDepth 20000

theorem place_is {k p : Int} (h : Ip.plc k = p) (w : World) :
    Calls Tryd.prog 49 #[.int .i64 k] w fun e w' => e = .returned (.int .i64 p) ∧ Below w.heap.size w w' := by
  rw [← h]
  exact place_any k w
theorem right_at {op jt jf k : Int} {i : Nat} (hi : i < 39) (hb : Ip.byOp op = some (Ip.refRow i)) : right op jt jf k = ((!Ip.plainB i || k == 0) && (if Ip.branchB i then Ip.isJ jt && Ip.isJ jf else jt == 0 && jf == 0)) := by
  obtain ⟨_, _, _, h4, h5, _⟩ := Ip.ref_all i hi
  unfold right
  rw [hb]
  show (true && Ip.fits (Ip.refRow i).fmt jt jf k) = _
  unfold Ip.fits
  rw [h4, h5, Bool.true_and]
theorem right_none {op jt jf k : Int} (hb : Ip.byOp op = none) : right op jt jf k = false := by
  unfold right
  rw [hb]
  rfl

set_option maxHeartbeats 2000000 in
theorem refRight_any (op jt jf k : Int) (w : World) :
    Calls Tryd.prog 38 #[insV op jt jf k] w fun e w' => e = .returned (.bool (right op jt jf k)) ∧ Below w.heap.size w w' := by
  have HB0 := Lib.hid (ba (insB op jt jf k) (Below.refl w.heap.size w))
  have HH0 : Hid ((w.alloc (insB op jt jf k)).heap[w.heap.size]? = some (insB op jt jf k)) := Lib.hid (heap_alloc_new _ _)
  rcases Ip.plc_cases op with ⟨i, hi, hp, hq, hb, hm⟩ | ⟨hp, hb⟩
  · have HG := Lib.hid (right_at (jt := jt) (jf := jf) (k := k) hi hb)
    have HP := Lib.hid hp
    clear hp hb hq hm
    cases hP : Ip.plainB i <;> cases hk : (k != 0) <;> cases hBr : Ip.branchB i
    all_goals
      go_enter Tryd.func38, Tryd.ntmps38
      go_wp2_with fail
      refine (place_is HP.out _).mono ?_
      rintro e w1 ⟨rfl, hb1⟩
      have hH1 := (hb1.block _ (lt_of_block HH0.out)).trans HH0.out
      have HB1 := Lib.hid (HB0.out.trans (hb1.mono HB0.out.size))
      have c1 : w1.cell? ⟨w.heap.size, 1, none⟩ = some (.int .i64 jt) := cell_in hH1 1
      have c2 : w1.cell? ⟨w.heap.size, 2, none⟩ = some (.int .i64 jf) := cell_in hH1 2
      have c3 : w1.cell? ⟨w.heap.size, 3, none⟩ = some (.int .u32 k) := cell_in hH1 3
      clear hb1 hH1
      go_wp2_with (first
        | (go_at_call 59; refine (plain_any _ _).mono ?_; rintro e w' ⟨rfl, rfl⟩)
        | (go_at_call 48; refine (rbranch_any _ _).mono ?_; rintro e w' ⟨rfl, rfl⟩))
      all_goals go_ret
      all_goals
        refine ⟨ret1 ?_, HB1.out⟩
        rw [HG.out]
        have hk' : (k == 0) = !(k != 0) := by simp [bne]
        rw [hk', hk, hP, hBr, Bool.eq_iff_iff]
        simp [Ip.isJ]
        try omega
  · have HG := Lib.hid (right_none (jt := jt) (jf := jf) (k := k) hb)
    have HP := Lib.hid hp
    clear hp hb
    go_enter Tryd.func38, Tryd.ntmps38
    go_wp2_with fail
    refine (place_is HP.out _).mono ?_
    rintro e w1 ⟨rfl, hb1⟩
    have HB1 := Lib.hid (HB0.out.trans (hb1.mono HB0.out.size))
    clear hb1
    go_wp2_with fail
    go_ret
    exact ⟨ret1 HG.out.symm, HB1.out⟩

end Go.Proofs.YtmiflelmblnkaaaDoor
