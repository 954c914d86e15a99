/-
  The document's own answers for runs (package hurdleref06): Takes.
-/
import Derived.Test.YtmbegncnbjafdaaDoorURun
namespace Go.Proofs.YtmbegncnbjafdaaDoor
open Go.ChangeShapes Go.WideShapes Go.ChangeAt Go.RowKit
set_option maxRecDepth 20000

theorem and_pos (a b : Nat) (h1 : a ≤ 4294967295) (_h2 : b ≤ 4294967295) : decide (0 < Wd.doV 84 a b) = !(bits .and .u32 (a : Int) (b : Int) == 0) := by
  have h := Wd.doV_bd 84 a b (by omega) (by omega) (by omega)
  have e : Wd.doV 84 a b = bits .and .u32 (a : Int) (b : Int) := rfl
  rw [e] at h ⊢
  generalize bits .and .u32 (a : Int) (b : Int) = z at *
  by_cases hz : z = 0
  · subst hz; rfl
  · have : 0 < z := by omega
    simp [this, hz]
set_option maxHeartbeats 1000000 in
theorem rtakes_o21 (s : St) (jt jf : Int) (k : Nat) (w : World) (hB : isBranch 21 = true) :
    Calls Tryd.prog 34 #[s.val, insV 21 jt jf k] w fun e w' => e = .returned (.bool ((s.a : Int) == (k : Int))) ∧ Below w.heap.size w w' := by
  obtain ⟨W, hW, hG, hX, hb⟩ := box2 w (stB s) (insB 21 jt jf k)
  have HG := Lib.hid hG
  have HX := Lib.hid hX
  have HB := Lib.hid hb
  clear hG hX hb
  go_enter Tryd.func34, Tryd.ntmps34
  go_upto_region 1 with fail
  rw [← hW]
  clear hW
  obtain ⟨c0, c1, c2, c3⟩ := insX HX.out
  go_wp2_with fail
  refine (refBranch_any 21 jt jf k _).mono ?_
  rintro e w1 ⟨rfl, hb1⟩
  rw [hB]
  have HG1 := Lib.hid (kb hb1 HG.out)
  have HX1 := Lib.hid (kb hb1 HX.out)
  have HB1 := Lib.hid (below2 HB.out hb1)
  clear hb1 c0 c1 c2 c3 hB
  obtain ⟨c0, c1, c2, c3⟩ := insX HX1.out
  have f0 := (cell_in HG1.out 0).trans (st_a s)
  go_wp2_with fail
  go_ret
  exact ⟨rfl, HB1.out⟩

set_option maxHeartbeats 1000000 in
theorem rtakes_o37 (s : St) (jt jf : Int) (k : Nat) (w : World) (hB : isBranch 37 = true) :
    Calls Tryd.prog 34 #[s.val, insV 37 jt jf k] w fun e w' => e = .returned (.bool (decide (k < s.a))) ∧ Below w.heap.size w w' := by
  obtain ⟨W, hW, hG, hX, hb⟩ := box2 w (stB s) (insB 37 jt jf k)
  have HG := Lib.hid hG
  have HX := Lib.hid hX
  have HB := Lib.hid hb
  clear hG hX hb
  go_enter Tryd.func34, Tryd.ntmps34
  go_upto_region 1 with fail
  rw [← hW]
  clear hW
  obtain ⟨c0, c1, c2, c3⟩ := insX HX.out
  go_wp2_with fail
  refine (refBranch_any 37 jt jf k _).mono ?_
  rintro e w1 ⟨rfl, hb1⟩
  rw [hB]
  have HG1 := Lib.hid (kb hb1 HG.out)
  have HX1 := Lib.hid (kb hb1 HX.out)
  have HB1 := Lib.hid (below2 HB.out hb1)
  clear hb1 c0 c1 c2 c3 hB
  obtain ⟨c0, c1, c2, c3⟩ := insX HX1.out
  have f0 := (cell_in HG1.out 0).trans (st_a s)
  go_wp2_with fail
  go_ret
  exact ⟨rfl, HB1.out⟩

set_option maxHeartbeats 1000000 in
theorem rtakes_o53 (s : St) (jt jf : Int) (k : Nat) (w : World) (hB : isBranch 53 = true) :
    Calls Tryd.prog 34 #[s.val, insV 53 jt jf k] w fun e w' => e = .returned (.bool (decide (k ≤ s.a))) ∧ Below w.heap.size w w' := by
  obtain ⟨W, hW, hG, hX, hb⟩ := box2 w (stB s) (insB 53 jt jf k)
  have HG := Lib.hid hG
  have HX := Lib.hid hX
  have HB := Lib.hid hb
  clear hG hX hb
  go_enter Tryd.func34, Tryd.ntmps34
  go_upto_region 1 with fail
  rw [← hW]
  clear hW
  obtain ⟨c0, c1, c2, c3⟩ := insX HX.out
  go_wp2_with fail
  refine (refBranch_any 53 jt jf k _).mono ?_
  rintro e w1 ⟨rfl, hb1⟩
  rw [hB]
  have HG1 := Lib.hid (kb hb1 HG.out)
  have HX1 := Lib.hid (kb hb1 HX.out)
  have HB1 := Lib.hid (below2 HB.out hb1)
  clear hb1 c0 c1 c2 c3 hB
  obtain ⟨c0, c1, c2, c3⟩ := insX HX1.out
  have f0 := (cell_in HG1.out 0).trans (st_a s)
  go_wp2_with fail
  go_ret
  exact ⟨rfl, HB1.out⟩

set_option maxHeartbeats 1000000 in
theorem rtakes_o69 (s : St) (jt jf : Int) (k : Nat) (w : World) (h1 : s.a ≤ 4294967295) (h2 : k ≤ 4294967295) (hB : isBranch 69 = true) :
    Calls Tryd.prog 34 #[s.val, insV 69 jt jf k] w fun e w' => e = .returned (.bool (!(bits .and .u32 (s.a : Int) (k : Int) == 0))) ∧ Below w.heap.size w w' := by
  obtain ⟨W, hW, hG, hX, hb⟩ := box2 w (stB s) (insB 69 jt jf k)
  have HG := Lib.hid hG
  have HX := Lib.hid hX
  have HB := Lib.hid hb
  clear hG hX hb
  go_enter Tryd.func34, Tryd.ntmps34
  go_upto_region 1 with fail
  rw [← hW]
  clear hW
  obtain ⟨c0, c1, c2, c3⟩ := insX HX.out
  go_wp2_with fail
  refine (refBranch_any 69 jt jf k _).mono ?_
  rintro e w1 ⟨rfl, hb1⟩
  rw [hB]
  have HG1 := Lib.hid (kb hb1 HG.out)
  have HX1 := Lib.hid (kb hb1 HX.out)
  have HB1 := Lib.hid (below2 HB.out hb1)
  clear hb1 c0 c1 c2 c3 hB
  obtain ⟨c0, c1, c2, c3⟩ := insX HX1.out
  have f0 := (cell_in HG1.out 0).trans (st_a s)
  go_wp2_with fail
  refine (refDo_any 84 s.a k _ (by omega) (by omega) (by omega) (by omega)).mono ?_
  rintro e w2 ⟨rfl, hb2⟩
  have HB2 := Lib.hid (below2 HB1.out hb2)
  have HE := Lib.hid (and_pos s.a k h1 h2)
  clear hb2 c0 c1 c2 c3 f0
  go_wp2_with fail
  go_ret
  exact ⟨by rw [← HE.out]; rfl, HB2.out⟩

set_option maxHeartbeats 1000000 in
theorem rtakes_o29 (s : St) (jt jf : Int) (k : Nat) (w : World) (hB : isBranch 29 = true) :
    Calls Tryd.prog 34 #[s.val, insV 29 jt jf k] w fun e w' => e = .returned (.bool ((s.a : Int) == (s.x : Int))) ∧ Below w.heap.size w w' := by
  obtain ⟨W, hW, hG, hX, hb⟩ := box2 w (stB s) (insB 29 jt jf k)
  have HG := Lib.hid hG
  have HX := Lib.hid hX
  have HB := Lib.hid hb
  clear hG hX hb
  go_enter Tryd.func34, Tryd.ntmps34
  go_upto_region 1 with fail
  rw [← hW]
  clear hW
  obtain ⟨c0, c1, c2, c3⟩ := insX HX.out
  go_wp2_with fail
  refine (refBranch_any 29 jt jf k _).mono ?_
  rintro e w1 ⟨rfl, hb1⟩
  rw [hB]
  have HG1 := Lib.hid (kb hb1 HG.out)
  have HX1 := Lib.hid (kb hb1 HX.out)
  have HB1 := Lib.hid (below2 HB.out hb1)
  clear hb1 c0 c1 c2 c3 hB
  obtain ⟨c0, c1, c2, c3⟩ := insX HX1.out
  have f0 := (cell_in HG1.out 0).trans (st_a s)
  have f1 := (cell_in HG1.out 1).trans (st_x s)
  go_wp2_with fail
  go_ret
  exact ⟨rfl, HB1.out⟩

set_option maxHeartbeats 1000000 in
theorem rtakes_o45 (s : St) (jt jf : Int) (k : Nat) (w : World) (hB : isBranch 45 = true) :
    Calls Tryd.prog 34 #[s.val, insV 45 jt jf k] w fun e w' => e = .returned (.bool (decide (s.x < s.a))) ∧ Below w.heap.size w w' := by
  obtain ⟨W, hW, hG, hX, hb⟩ := box2 w (stB s) (insB 45 jt jf k)
  have HG := Lib.hid hG
  have HX := Lib.hid hX
  have HB := Lib.hid hb
  clear hG hX hb
  go_enter Tryd.func34, Tryd.ntmps34
  go_upto_region 1 with fail
  rw [← hW]
  clear hW
  obtain ⟨c0, c1, c2, c3⟩ := insX HX.out
  go_wp2_with fail
  refine (refBranch_any 45 jt jf k _).mono ?_
  rintro e w1 ⟨rfl, hb1⟩
  rw [hB]
  have HG1 := Lib.hid (kb hb1 HG.out)
  have HX1 := Lib.hid (kb hb1 HX.out)
  have HB1 := Lib.hid (below2 HB.out hb1)
  clear hb1 c0 c1 c2 c3 hB
  obtain ⟨c0, c1, c2, c3⟩ := insX HX1.out
  have f0 := (cell_in HG1.out 0).trans (st_a s)
  have f1 := (cell_in HG1.out 1).trans (st_x s)
  go_wp2_with fail
  go_ret
  exact ⟨rfl, HB1.out⟩

set_option maxHeartbeats 1000000 in
theorem rtakes_o61 (s : St) (jt jf : Int) (k : Nat) (w : World) (hB : isBranch 61 = true) :
    Calls Tryd.prog 34 #[s.val, insV 61 jt jf k] w fun e w' => e = .returned (.bool (decide (s.x ≤ s.a))) ∧ Below w.heap.size w w' := by
  obtain ⟨W, hW, hG, hX, hb⟩ := box2 w (stB s) (insB 61 jt jf k)
  have HG := Lib.hid hG
  have HX := Lib.hid hX
  have HB := Lib.hid hb
  clear hG hX hb
  go_enter Tryd.func34, Tryd.ntmps34
  go_upto_region 1 with fail
  rw [← hW]
  clear hW
  obtain ⟨c0, c1, c2, c3⟩ := insX HX.out
  go_wp2_with fail
  refine (refBranch_any 61 jt jf k _).mono ?_
  rintro e w1 ⟨rfl, hb1⟩
  rw [hB]
  have HG1 := Lib.hid (kb hb1 HG.out)
  have HX1 := Lib.hid (kb hb1 HX.out)
  have HB1 := Lib.hid (below2 HB.out hb1)
  clear hb1 c0 c1 c2 c3 hB
  obtain ⟨c0, c1, c2, c3⟩ := insX HX1.out
  have f0 := (cell_in HG1.out 0).trans (st_a s)
  have f1 := (cell_in HG1.out 1).trans (st_x s)
  go_wp2_with fail
  go_ret
  exact ⟨rfl, HB1.out⟩

set_option maxHeartbeats 1000000 in
theorem rtakes_o77 (s : St) (jt jf : Int) (k : Nat) (w : World) (h1 : s.a ≤ 4294967295) (h2 : s.x ≤ 4294967295) (hB : isBranch 77 = true) :
    Calls Tryd.prog 34 #[s.val, insV 77 jt jf k] w fun e w' => e = .returned (.bool (!(bits .and .u32 (s.a : Int) (s.x : Int) == 0))) ∧ Below w.heap.size w w' := by
  obtain ⟨W, hW, hG, hX, hb⟩ := box2 w (stB s) (insB 77 jt jf k)
  have HG := Lib.hid hG
  have HX := Lib.hid hX
  have HB := Lib.hid hb
  clear hG hX hb
  go_enter Tryd.func34, Tryd.ntmps34
  go_upto_region 1 with fail
  rw [← hW]
  clear hW
  obtain ⟨c0, c1, c2, c3⟩ := insX HX.out
  go_wp2_with fail
  refine (refBranch_any 77 jt jf k _).mono ?_
  rintro e w1 ⟨rfl, hb1⟩
  rw [hB]
  have HG1 := Lib.hid (kb hb1 HG.out)
  have HX1 := Lib.hid (kb hb1 HX.out)
  have HB1 := Lib.hid (below2 HB.out hb1)
  clear hb1 c0 c1 c2 c3 hB
  obtain ⟨c0, c1, c2, c3⟩ := insX HX1.out
  have f0 := (cell_in HG1.out 0).trans (st_a s)
  have f1 := (cell_in HG1.out 1).trans (st_x s)
  go_wp2_with fail
  refine (refDo_any 84 s.a s.x _ (by omega) (by omega) (by omega) (by omega)).mono ?_
  rintro e w2 ⟨rfl, hb2⟩
  have HB2 := Lib.hid (below2 HB1.out hb2)
  have HE := Lib.hid (and_pos s.a s.x h1 h2)
  clear hb2 c0 c1 c2 c3 f0 f1
  go_wp2_with fail
  go_ret
  exact ⟨by rw [← HE.out]; rfl, HB2.out⟩
set_option maxHeartbeats 1000000 in
theorem rtakes_any (s : St) (op jt jf : Int) (k : Nat) (w : World) (hs : s.ok) (hk : k < 4294967296) :
    Calls Tryd.prog 34 #[s.val, insV op jt jf k] w fun e w' => e = .returned (.bool (takesS s ⟨op, jt, jf, k⟩)) ∧ Below w.heap.size w w' := by
  cases hB : isBranch op
  · have HE : Hid (takesS s ⟨op, jt, jf, k⟩ = false) := Lib.hid (by
      have h : ∀ n ∈ ([21, 29, 37, 45, 53, 61, 69, 77] : List Int), isBranch n = true := by decide
      have e : ∀ n ∈ ([21, 29, 37, 45, 53, 61, 69, 77] : List Int), ¬ op = n := fun n hn he => by rw [he, h n hn] at hB; cases hB
      simp only [List.mem_cons, List.not_mem_nil, or_false, forall_eq_or_imp, forall_eq] at e
      obtain ⟨e1, e2, e3, e4, e5, e6, e7, e8⟩ := e
      simp [takesS, e1, e2, e3, e4, e5, e6, e7, e8])
    obtain ⟨W, hW, hG, hX, hb⟩ := box2 w (stB s) (insB op jt jf k)
    have HX := Lib.hid hX
    have HB := Lib.hid hb
    clear hG hX hb hs
    go_enter Tryd.func34, Tryd.ntmps34
    go_upto_region 1 with fail
    rw [← hW]
    clear hW
    obtain ⟨c0, c1, c2, c3⟩ := insX HX.out
    go_wp2_with fail
    refine (refBranch_any op jt jf k _).mono ?_
    rintro e w1 ⟨rfl, hb1⟩
    rw [hB]
    have HB1 := Lib.hid (below2 HB.out hb1)
    clear hb1 c0 c1 c2 c3 hB
    go_wp2_with fail
    go_ret
    exact ⟨by rw [HE.out]; rfl, HB1.out⟩
  · have h1 := hs.1
    have h2 := hs.2.1
    have hm := branch_ops hB
    simp only [List.mem_cons, List.not_mem_nil, or_false] at hm
    rcases hm with rfl | rfl | rfl | rfl | rfl | rfl | rfl | rfl
    · exact (rtakes_o21 s jt jf k w hB).mono fun e w' h => ⟨h.1.trans (by simp [takesS]), h.2⟩
    · exact (rtakes_o29 s jt jf k w hB).mono fun e w' h => ⟨h.1.trans (by simp [takesS, beq_cast]), h.2⟩
    · exact (rtakes_o37 s jt jf k w hB).mono fun e w' h => ⟨h.1.trans (by simp [takesS]), h.2⟩
    · exact (rtakes_o45 s jt jf k w hB).mono fun e w' h => ⟨h.1.trans (by simp [takesS]), h.2⟩
    · exact (rtakes_o53 s jt jf k w hB).mono fun e w' h => ⟨h.1.trans (by simp [takesS]), h.2⟩
    · exact (rtakes_o61 s jt jf k w hB).mono fun e w' h => ⟨h.1.trans (by simp [takesS]), h.2⟩
    · exact (rtakes_o69 s jt jf k w h1 (by omega) hB).mono fun e w' h => ⟨h.1.trans (by simp [takesS, bne]), h.2⟩
    · exact (rtakes_o77 s jt jf k w h1 h2 hB).mono fun e w' h => ⟨h.1.trans (by simp [takesS, bne]), h.2⟩
end Go.Proofs.YtmbegncnbjafdaaDoor
