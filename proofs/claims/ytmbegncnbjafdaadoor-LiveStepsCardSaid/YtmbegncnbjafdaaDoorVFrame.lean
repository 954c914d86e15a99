/-
  The rows of examples at the end of each law of package hurdlelaw07: knows() answers true in every world that has the table of the operations.
-/
import Derived.Test.YtmbegncnbjafdaaDoorVAt
import Derived.Test.YtmbegncnbjafdaaDoorUFrame
import Derived.Lib.QuietBelow
namespace Go.Proofs.YtmbegncnbjafdaaDoor
open Go.ChangeShapes Go.WideShapes Go.ChangeAt Go.RowKit
set_option maxRecDepth 100000

def exV : List X4 := [⟨7, 0, 0, 0⟩, ⟨0, 0, 0, 5⟩, ⟨12, 0, 0, 0⟩, ⟨22, 0, 0, 0⟩]
theorem exv_tax : lineX ⟨7, 0, 0, 0⟩ = [116, 97, 120, 10] := by rfl
theorem exv_ld : lineX ⟨0, 0, 0, 5⟩ = [108, 100, 32, 48, 120, 53, 10] := by
  show [108, 100] ++ ((32 :: 48 :: 120 :: Wd.hex 5) ++ []) ++ [10] = _
  rw [Wd.hex_lt (by omega)]
  rfl
theorem exv_addx : lineX ⟨12, 0, 0, 0⟩ = [97, 100, 100, 120, 10] := by rfl
theorem exv_reta : lineX ⟨22, 0, 0, 0⟩ = [114, 101, 116, 97, 10] := by rfl
theorem exV_ok : ∀ x ∈ exV, x.ok := by unfold exV; intro x hx; simp at hx; rcases hx with rfl | rfl | rfl | rfl <;> simp [X4.ok]
def exVB : List UInt8 := [116, 97, 120, 10, 108, 100, 32, 48, 120, 53, 10, 97, 100, 100, 120, 10, 114, 101, 116, 97, 10]
theorem rdV : rdL exVB = (exV, 0, 0) := by
  have h := rd_lines exV [] (by decide) exV_ok (by decide)
  rw [show exV.flatMap lineX = lineX ⟨7, 0, 0, 0⟩ ++ (lineX ⟨0, 0, 0, 5⟩ ++ (lineX ⟨12, 0, 0, 0⟩ ++ (lineX ⟨22, 0, 0, 0⟩ ++ []))) from rfl, exv_tax, exv_ld, exv_addx, exv_reta] at h
  exact h
theorem soundV : soundB exV = true := by decide +kernel
theorem maskV : maskN (liveF exV 0) 18 = 1 ∧ maskN (liveF exV 1) 18 = 2 ∧ maskN (liveF exV 2) 18 = 3 ∧ maskN (liveF exV 3) 18 = 1 ∧ maskN (behF exV 0) 18 = 2 ∧ setM ⟨2, 0, 0, (3 : Nat)⟩ = 32 := by decide +kernel

set_option maxHeartbeats 4000000 in
theorem vknows_any (w : World) (ht : OTab w) :
    Calls Tryd.prog 12 #[] w fun e w' => e = .returned (.bool true) ∧ Below w.heap.size w w' := by
  obtain ⟨m0, m1, m2, m3, mb, ms⟩ := maskV
  have HM := Lib.hid (And.intro mb ms)
  have HM4 := Lib.hid (And.intro m0 (And.intro m1 (And.intro m2 m3)))
  clear m0 m1 m2 m3 mb ms
  go_enter Tryd.func12, Tryd.ntmps12
  go_wp2_with fail
  refine (cparse_any ⟨#[116, 97, 120, 10, 108, 100, 32, 48, 120, 53, 10, 97, 100, 100, 120, 10, 114, 101, 116, 97, 10]⟩ _ (by decide) ht).mono ?_
  rintro e w1 ⟨u1, rfl, hF1, hb1⟩
  rw [show (⟨#[116, 97, 120, 10, 108, 100, 32, 48, 120, 53, 10, 97, 100, 100, 120, 10, 114, 101, 116, 97, 10]⟩ : ByteArray).data.toList = exVB from rfl, rdV] at hF1 ⊢
  have HF1 := Lib.hid hF1
  have HB1 := Lib.hid hb1
  clear hF1 hb1
  go_wp2_with fail
  refine (lat_any _ exV _ HF1.out exV_ok soundV (ht.below HB1.out)).mono ?_
  rintro e w2 ⟨g, rfl, hg, hb2⟩
  have HG2 := Lib.hid hg
  have HF2 := Lib.hid (HF1.out.below hb2)
  have HB2 := Lib.hid (below2 HB1.out hb2)
  clear hg hb2 HF1 HB1
  go_wp2_with fail
  refine (lbeh_any _ exV 0 _ HF2.out exV_ok (ht.below HB2.out) soundV (by decide)).mono ?_
  rintro e w3 ⟨rfl, hb3⟩
  rw [HM.out.1]
  have HG3 := Lib.hid (kb hb3 HG2.out)
  have HB3 := Lib.hid (below2 HB2.out hb3)
  have d0 := mask_in HG3.out (f := exV) (j := 0) (by decide)
  have d1 := mask_in HG3.out (f := exV) (j := 1) (by decide)
  have d2 := mask_in HG3.out (f := exV) (j := 2) (by decide)
  have d3 := mask_in HG3.out (f := exV) (j := 3) (by decide)
  rw [HM4.out.1] at d0
  rw [HM4.out.2.1] at d1
  rw [HM4.out.2.2.1] at d2
  rw [HM4.out.2.2.2] at d3
  have hl4 : exV.length = 4 := rfl
  clear hb3 HF2 HB2 HG2
  go_wp2_with fail
  refine (lsets_any 2 0 0 3 _ (ht.below HB3.out)).mono ?_
  rintro e w4 ⟨rfl, hb4⟩
  rw [HM.out.2]
  have HB4 := Lib.hid (below2 HB3.out hb4)
  clear hb4 d0 d1 d2 d3
  go_wp2_with fail
  go_ret
  exact ⟨rfl, HB4.out⟩
/-- A mix by a mask is a mix by its parts. -/
theorem mix_mask (P : Nat → Bool) (s t : St) : mixS (fun i => (maskN P 18).testBit i) s t = mixS P s t := by
  have h : ∀ i, i < 18 → (maskN P 18).testBit i = P i := fun i hi => maskN_bit P 18 i hi
  have e : ((List.range 16).map fun i => if (maskN P 18).testBit (i + 2) then s.m.getD i 0 else t.m.getD i 0) = (List.range 16).map fun i => if P (i + 2) then s.m.getD i 0 else t.m.getD i 0 := by
    apply List.map_congr_left
    intro i hi
    have := List.mem_range.1 hi
    rw [h (i + 2) (by omega)]
  show (⟨if (maskN P 18).testBit 0 then s.a else t.a, if (maskN P 18).testBit 1 then s.x else t.x, (List.range 16).map fun i => if (maskN P 18).testBit (i + 2) then s.m.getD i 0 else t.m.getD i 0⟩ : St) = _
  rw [e, h 0 (by omega), h 1 (by omega)]
  rfl
section
variable {ops : Array Oper} {rest : List Oper} {o : Oper} {a : Act} {W : World} {Q : Act → Prop}
/-- A whole state is read, in a region whose order is drawn. -/
theorem q_state {g : Nat} {s : St} {x : Operand} (hG : W.heap[g]? = some (stB s)) (hw : Region.wanted o (yielded ops a.tmps) = true) (ho : o.op = .load 42 x) (hx : a.eval x = .pointer (some ⟨g, 0, none⟩))
    (h : wpQuiet Tryd.prog ops (fun w' => ∃ p : Regrown, w' = Sort.grow (redrawn W p.d) p.os) Q rest (a.put o.dst s.val)) : wpQuiet Tryd.prog ops (fun w' => ∃ p : Regrown, w' = Sort.grow (redrawn W p.d) p.os) Q (o :: rest) a := by
  unfold wpQuiet
  rw [if_pos hw]
  refine ⟨s.val, fun w' hw' => ?_, h⟩
  obtain ⟨p, rfl⟩ := hw'
  have hG' : (Sort.grow (redrawn W p.d) p.os).heap[g]? = some (stB s) := ((below_regrown W p.d p.os).block g (lt_of_block hG)).trans hG
  unfold Oper.quietAt execOp
  simp only [ho, hx, Instr.loadAt, Instr.sureAddr, Sem.run_bind, Sem.run_pure, Result.andThen_ok, run_loadVar_row _ g 42 42 (stC s) (0, 0) _ hG' Tryd.underlying42 rfl (by rw [st_size]; exact infoSt)]
  exact ⟨rfl, rfl⟩
end
/-- The last word of a law: the rows of examples. -/
theorem vknow_end {a w : World} (hb : Below a.heap.size a w) (ht : OTab a) : Calls Tryd.prog 12 #[] w fun e w' => e = .returned (.bool true) ∧ Below a.heap.size a w' :=
  (vknows_any w (ht.below hb)).mono fun _ _ ⟨he, h⟩ => ⟨he, below2 hb h⟩
end Go.Proofs.YtmbegncnbjafdaaDoor
