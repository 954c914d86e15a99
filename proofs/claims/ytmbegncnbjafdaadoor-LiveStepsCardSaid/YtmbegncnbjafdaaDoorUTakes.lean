/-
  What run.Takes and run.skips answer.
-/
import Derived.Test.YtmbegncnbjafdaaDoorUStep
namespace Go.Proofs.YtmbegncnbjafdaaDoor
open Go.ChangeShapes Go.WideShapes Go.ChangeAt Go.RowKit
set_option maxRecDepth 20000

set_option maxHeartbeats 1000000 in
theorem takes_o21 (s : St) (jt jf : Int) (k : Nat) (w : World) :
    Calls Tryd.prog 21 #[s.val, insV 21 jt jf k] w fun e w' => e = .returned (.bool ((s.a : Int) == (k : Int))) ∧ Below w.heap.size w w' := by
  obtain ⟨W, hW, hG, hX, hb⟩ := box2 w (stB s) (insB 21 jt jf k)
  have HG := Lib.hid hG
  have HX := Lib.hid hX
  have HB := Lib.hid hb
  clear hG hX hb
  go_enter Tryd.func21, Tryd.ntmps21
  go_upto_region 1 with fail
  rw [← hW]
  clear hW
  have c0 := cell_in HX.out 0
  have f0 := (cell_in HG.out 0).trans (st_a s)
  have c3 := cell_in HX.out 3
  go_wp2_with fail
  go_ret
  exact ⟨rfl, HB.out⟩

set_option maxHeartbeats 1000000 in
theorem takes_o37 (s : St) (jt jf : Int) (k : Nat) (w : World) :
    Calls Tryd.prog 21 #[s.val, insV 37 jt jf k] w fun e w' => e = .returned (.bool (decide (k < s.a))) ∧ Below w.heap.size w w' := by
  obtain ⟨W, hW, hG, hX, hb⟩ := box2 w (stB s) (insB 37 jt jf k)
  have HG := Lib.hid hG
  have HX := Lib.hid hX
  have HB := Lib.hid hb
  clear hG hX hb
  go_enter Tryd.func21, Tryd.ntmps21
  go_upto_region 1 with fail
  rw [← hW]
  clear hW
  have c0 := cell_in HX.out 0
  have f0 := (cell_in HG.out 0).trans (st_a s)
  have c3 := cell_in HX.out 3
  go_wp2_with fail
  go_ret
  exact ⟨rfl, HB.out⟩

set_option maxHeartbeats 1000000 in
theorem takes_o53 (s : St) (jt jf : Int) (k : Nat) (w : World) :
    Calls Tryd.prog 21 #[s.val, insV 53 jt jf k] w fun e w' => e = .returned (.bool (decide (k ≤ s.a))) ∧ Below w.heap.size w w' := by
  obtain ⟨W, hW, hG, hX, hb⟩ := box2 w (stB s) (insB 53 jt jf k)
  have HG := Lib.hid hG
  have HX := Lib.hid hX
  have HB := Lib.hid hb
  clear hG hX hb
  go_enter Tryd.func21, Tryd.ntmps21
  go_upto_region 1 with fail
  rw [← hW]
  clear hW
  have c0 := cell_in HX.out 0
  have f0 := (cell_in HG.out 0).trans (st_a s)
  have c3 := cell_in HX.out 3
  go_wp2_with fail
  go_ret
  exact ⟨rfl, HB.out⟩

set_option maxHeartbeats 1000000 in
theorem takes_o69 (s : St) (jt jf : Int) (k : Nat) (w : World) :
    Calls Tryd.prog 21 #[s.val, insV 69 jt jf k] w fun e w' => e = .returned (.bool (!(bits .and .u32 (s.a : Int) (k : Int) == 0))) ∧ Below w.heap.size w w' := by
  obtain ⟨W, hW, hG, hX, hb⟩ := box2 w (stB s) (insB 69 jt jf k)
  have HG := Lib.hid hG
  have HX := Lib.hid hX
  have HB := Lib.hid hb
  clear hG hX hb
  go_enter Tryd.func21, Tryd.ntmps21
  go_upto_region 1 with fail
  rw [← hW]
  clear hW
  have c0 := cell_in HX.out 0
  have f0 := (cell_in HG.out 0).trans (st_a s)
  have c3 := cell_in HX.out 3
  go_wp2_with fail
  go_ret
  exact ⟨rfl, HB.out⟩

set_option maxHeartbeats 1000000 in
theorem takes_o29 (s : St) (jt jf : Int) (k : Nat) (w : World) :
    Calls Tryd.prog 21 #[s.val, insV 29 jt jf k] w fun e w' => e = .returned (.bool ((s.a : Int) == (s.x : Int))) ∧ Below w.heap.size w w' := by
  obtain ⟨W, hW, hG, hX, hb⟩ := box2 w (stB s) (insB 29 jt jf k)
  have HG := Lib.hid hG
  have HX := Lib.hid hX
  have HB := Lib.hid hb
  clear hG hX hb
  go_enter Tryd.func21, Tryd.ntmps21
  go_upto_region 1 with fail
  rw [← hW]
  clear hW
  have c0 := cell_in HX.out 0
  have f0 := (cell_in HG.out 0).trans (st_a s)
  have f1 := (cell_in HG.out 1).trans (st_x s)
  go_wp2_with fail
  go_ret
  exact ⟨rfl, HB.out⟩

set_option maxHeartbeats 1000000 in
theorem takes_o45 (s : St) (jt jf : Int) (k : Nat) (w : World) :
    Calls Tryd.prog 21 #[s.val, insV 45 jt jf k] w fun e w' => e = .returned (.bool (decide (s.x < s.a))) ∧ Below w.heap.size w w' := by
  obtain ⟨W, hW, hG, hX, hb⟩ := box2 w (stB s) (insB 45 jt jf k)
  have HG := Lib.hid hG
  have HX := Lib.hid hX
  have HB := Lib.hid hb
  clear hG hX hb
  go_enter Tryd.func21, Tryd.ntmps21
  go_upto_region 1 with fail
  rw [← hW]
  clear hW
  have c0 := cell_in HX.out 0
  have f0 := (cell_in HG.out 0).trans (st_a s)
  have f1 := (cell_in HG.out 1).trans (st_x s)
  go_wp2_with fail
  go_ret
  exact ⟨rfl, HB.out⟩

set_option maxHeartbeats 1000000 in
theorem takes_o61 (s : St) (jt jf : Int) (k : Nat) (w : World) :
    Calls Tryd.prog 21 #[s.val, insV 61 jt jf k] w fun e w' => e = .returned (.bool (decide (s.x ≤ s.a))) ∧ Below w.heap.size w w' := by
  obtain ⟨W, hW, hG, hX, hb⟩ := box2 w (stB s) (insB 61 jt jf k)
  have HG := Lib.hid hG
  have HX := Lib.hid hX
  have HB := Lib.hid hb
  clear hG hX hb
  go_enter Tryd.func21, Tryd.ntmps21
  go_upto_region 1 with fail
  rw [← hW]
  clear hW
  have c0 := cell_in HX.out 0
  have f0 := (cell_in HG.out 0).trans (st_a s)
  have f1 := (cell_in HG.out 1).trans (st_x s)
  go_wp2_with fail
  go_ret
  exact ⟨rfl, HB.out⟩

set_option maxHeartbeats 1000000 in
theorem takes_o77 (s : St) (jt jf : Int) (k : Nat) (w : World) :
    Calls Tryd.prog 21 #[s.val, insV 77 jt jf k] w fun e w' => e = .returned (.bool (!(bits .and .u32 (s.a : Int) (s.x : Int) == 0))) ∧ Below w.heap.size w w' := by
  obtain ⟨W, hW, hG, hX, hb⟩ := box2 w (stB s) (insB 77 jt jf k)
  have HG := Lib.hid hG
  have HX := Lib.hid hX
  have HB := Lib.hid hb
  clear hG hX hb
  go_enter Tryd.func21, Tryd.ntmps21
  go_upto_region 1 with fail
  rw [← hW]
  clear hW
  have c0 := cell_in HX.out 0
  have f0 := (cell_in HG.out 0).trans (st_a s)
  have f1 := (cell_in HG.out 1).trans (st_x s)
  go_wp2_with fail
  go_ret
  exact ⟨rfl, HB.out⟩

set_option maxHeartbeats 1000000 in
theorem takes_else (s : St) (op jt jf : Int) (k : Nat) (w : World) (h21 : (op == 21) = false) (h29 : (op == 29) = false) (h37 : (op == 37) = false) (h45 : (op == 45) = false) (h53 : (op == 53) = false) (h61 : (op == 61) = false) (h69 : (op == 69) = false) (h77 : (op == 77) = false) :
    Calls Tryd.prog 21 #[s.val, insV op jt jf k] w fun e w' => e = .returned (.bool (false)) ∧ Below w.heap.size w w' := by
  obtain ⟨W, hW, hG, hX, hb⟩ := box2 w (stB s) (insB op jt jf k)
  have HG := Lib.hid hG
  have HX := Lib.hid hX
  have HB := Lib.hid hb
  clear hG hX hb
  go_enter Tryd.func21, Tryd.ntmps21
  go_upto_region 1 with fail
  rw [← hW]
  clear hW
  have c0 := cell_in HX.out 0
  go_wp2_with fail
  go_ret
  exact ⟨rfl, HB.out⟩

theorem beq_cast (a b : Nat) : ((a : Int) == (b : Int)) = (a == b) := Bool.eq_iff_iff.2 (by simp [Int.natCast_inj])
theorem takes_any (s : St) (op jt jf : Int) (k : Nat) (w : World) :
    Calls Tryd.prog 21 #[s.val, insV op jt jf k] w fun e w' => e = .returned (.bool (takesS s ⟨op, jt, jf, k⟩)) ∧ Below w.heap.size w w' := by
  by_cases e21 : op = 21
  · subst e21
    exact (takes_o21 s jt jf k w).mono fun e w' h => ⟨h.1.trans (by simp [takesS]), h.2⟩
  by_cases e29 : op = 29
  · subst e29
    exact (takes_o29 s jt jf k w).mono fun e w' h => ⟨h.1.trans (by simp [takesS, beq_cast]), h.2⟩
  by_cases e37 : op = 37
  · subst e37
    exact (takes_o37 s jt jf k w).mono fun e w' h => ⟨h.1.trans (by simp [takesS]), h.2⟩
  by_cases e45 : op = 45
  · subst e45
    exact (takes_o45 s jt jf k w).mono fun e w' h => ⟨h.1.trans (by simp [takesS]), h.2⟩
  by_cases e53 : op = 53
  · subst e53
    exact (takes_o53 s jt jf k w).mono fun e w' h => ⟨h.1.trans (by simp [takesS]), h.2⟩
  by_cases e61 : op = 61
  · subst e61
    exact (takes_o61 s jt jf k w).mono fun e w' h => ⟨h.1.trans (by simp [takesS]), h.2⟩
  by_cases e69 : op = 69
  · subst e69
    exact (takes_o69 s jt jf k w).mono fun e w' h => ⟨h.1.trans (by simp [takesS, bne]), h.2⟩
  by_cases e77 : op = 77
  · subst e77
    exact (takes_o77 s jt jf k w).mono fun e w' h => ⟨h.1.trans (by simp [takesS, bne]), h.2⟩
  refine (takes_else s op jt jf k w (by simpa using e21) (by simpa using e29) (by simpa using e37) (by simpa using e45) (by simpa using e53) (by simpa using e61) (by simpa using e69) (by simpa using e77)).mono fun e w' h => ⟨h.1.trans ?_, h.2⟩
  simp [takesS, e21, e29, e37, e45, e53, e61, e69, e77]

/-- How many instructions a run leaves out behind an instruction. -/
def skipS (s : St) (x : X4) : Int := if x.op = 5 then x.k else if isBranch x.op then (if takesS s x then x.jt else x.jf) else 0
theorem skip_place (s : St) (x : X4) (p : Nat) (hx : x.ok) (h1 : 0 ≤ x.jt) (h2 : 0 ≤ x.jf) : ((placeS s x p : Nat) : Int) = p + skipS s x + 1 ∧ 0 ≤ skipS s x := by
  have hk := hx.1
  unfold placeS skipS
  split
  · omega
  · split
    · split <;> omega
    · omega
end Go.Proofs.YtmbegncnbjafdaaDoor
