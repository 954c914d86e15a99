/-
  What live.cell, live.Uses and live.Sets answer.
-/
import Derived.Test.YtmbegncnbjafdaaDoorVMask
import Derived.Test.YtmbegncnbjafdaaDoorRAlu
namespace Go.Proofs.YtmbegncnbjafdaaDoor
open Go.ChangeShapes Go.WideShapes Go.ChangeAt Go.RowKit
set_option maxRecDepth 20000

theorem lcell_any (k : Nat) (w : World) :
    Calls Tryd.prog 25 #[.int .u32 k] w fun e w' => e = .returned (.int .u32 (cellM k : Nat)) ∧ Below w.heap.size w w' := by
  by_cases h : k < 16
  · rcases nat16 h with rfl | rfl | rfl | rfl | rfl | rfl | rfl | rfl | rfl | rfl | rfl | rfl | rfl | rfl | rfl | rfl
    all_goals
      go_enter Tryd.func25, Tryd.ntmps25
      go_wp2_with fail
      go_ret
      exact ⟨rfl, Below.refl _ _⟩
  · have HE : Hid (cellM k = 0) := Lib.hid (by unfold cellM; rw [if_neg h])
    have h1 : (16 : Int) ≤ (k : Int) := by omega
    clear h
    go_enter Tryd.func25, Tryd.ntmps25
    go_wp2_with fail
    go_ret
    exact ⟨by rw [HE.out]; rfl, Below.refl _ _⟩
theorem use0 (op jt jf k : Int) : usesP ⟨op, jt, jf, k⟩ 0 = (aluB op || isBranch op || inL op [2, 7, 132, 22]) := rfl
theorem use1 (op jt jf k : Int) : usesP ⟨op, jt, jf, k⟩ 1 = ((aluB op && aluX op) || (isBranch op && op % 16 == 13) || inL op [3, 135]) := rfl
theorem set0 (op jt jf k : Int) : setsP ⟨op, jt, jf, k⟩ 0 = (aluB op || inL op [0, 32, 96, 135, 132]) := rfl
theorem set1 (op jt jf k : Int) : setsP ⟨op, jt, jf, k⟩ 1 = inL op [1, 97, 7] := rfl
theorem retM {n : Nat} {x : Int} (h : n = x) : Ending.returned (.int .u32 x) = .returned (.int .u32 (n : Nat)) := by rw [h]
theorem luses_mem (op jt jf : Int) (k : Nat) (w : World) (h : op = 96 ∨ op = 97) :
    Calls Tryd.prog 10 #[insV op jt jf k] w fun e w' => e = .returned (.int .u32 (useM ⟨op, jt, jf, k⟩ : Nat)) ∧ Below w.heap.size w w' := by
  have HE : Hid (useM ⟨op, jt, jf, k⟩ = cellM k) := Lib.hid (use_cell h)
  rw [HE.out]
  have HB := Lib.hid (ba (insB op jt jf k) (Below.refl w.heap.size w))
  rcases h with rfl | rfl
  all_goals
    go_enter Tryd.func10, Tryd.ntmps10
    go_wp2_with fail
    refine (lcell_any k _).mono ?_
    rintro e w1 ⟨rfl, hb1⟩
    have HB1 := Lib.hid (below2 HB.out hb1)
    clear hb1
    go_wp2_with fail
    go_ret
    exact ⟨rfl, HB1.out⟩
theorem luses_some (op jt jf : Int) (k : Nat) (w : World) (h : op ∈ ([2, 7, 132, 22, 21, 37, 53, 69, 3, 135, 29, 45, 61, 77] : List Int)) :
    Calls Tryd.prog 10 #[insV op jt jf k] w fun e w' => e = .returned (.int .u32 (useM ⟨op, jt, jf, k⟩ : Nat)) ∧ Below w.heap.size w w' := by
  have HB := Lib.hid (ba (insB op jt jf k) (Below.refl w.heap.size w))
  simp only [List.mem_cons, List.not_mem_nil, or_false] at h
  rcases h with rfl | rfl | rfl | rfl | rfl | rfl | rfl | rfl | rfl | rfl | rfl | rfl | rfl | rfl
  all_goals
    go_enter Tryd.func10, Tryd.ntmps10
    go_wp2_with fail
    go_ret
    exact ⟨retM (by rw [use_rest (by decide) (by decide), use0, use1]; decide +kernel), HB.out⟩
set_option maxHeartbeats 1000000 in
theorem luses_rest (op jt jf : Int) (k : Nat) (w : World) (ht : OTab w) (h : ∀ o : Int, o ∈ ([96, 97, 2, 7, 132, 22, 21, 37, 53, 69, 3, 135, 29, 45, 61, 77] : List Int) → (op == o) = false) :
    Calls Tryd.prog 10 #[insV op jt jf k] w fun e w' => e = .returned (.int .u32 (useM ⟨op, jt, jf, k⟩ : Nat)) ∧ Below w.heap.size w w' := by
  have HB := Lib.hid (ba (insB op jt jf k) (Below.refl w.heap.size w))
  have HX := Lib.hid (heap_alloc_new w (insB op jt jf k))
  have HT := Lib.hid (ht.alloc (insB op jt jf k))
  have h1 := h 96 (by decide)
  have h2 := h 97 (by decide)
  have h3 := h 2 (by decide)
  have h4 := h 7 (by decide)
  have h5 := h 132 (by decide)
  have h6 := h 22 (by decide)
  have h7 := h 21 (by decide)
  have h8 := h 37 (by decide)
  have h9 := h 53 (by decide)
  have h10 := h 69 (by decide)
  have h11 := h 3 (by decide)
  have h12 := h 135 (by decide)
  have h13 := h 29 (by decide)
  have h14 := h 45 (by decide)
  have h15 := h 61 (by decide)
  have h16 := h 77 (by decide)
  have nb : isBranch op = false := by
    cases hB : isBranch op
    · rfl
    · have hm := (branch_other hB).2
      simp only [List.mem_cons, List.not_mem_nil, or_false] at hm
      rcases hm with rfl | rfl | rfl | rfl | rfl | rfl | rfl | rfl <;> first | exact absurd h7 (by decide) | exact absurd h8 (by decide) | exact absurd h9 (by decide) | exact absurd h10 (by decide) | exact absurd h13 (by decide) | exact absurd h14 (by decide) | exact absurd h15 (by decide) | exact absurd h16 (by decide)
  have HE : Hid (useM ⟨op, jt, jf, k⟩ = (if aluB op then 1 else 0) + (if aluB op && aluX op then 2 else 0)) := Lib.hid (by
    rw [use_rest (by simpa using h1) (by simpa using h2)]
    have n1 : inL op [2, 7, 132, 22] = false := by
      unfold inL
      simp only [List.contains_cons, List.contains_nil, h3, h4, h5, h6, Bool.or_false]
    have n2 : inL op [3, 135] = false := by
      unfold inL
      simp only [List.contains_cons, List.contains_nil, h11, h12, Bool.or_false]
    rw [use0, use1]
    simp only [n1, n2, nb, Bool.or_false, Bool.false_and])
  clear h nb
  have c0 := cell_in HX.out 0
  have c1 := cell_in HX.out 1
  have c2 := cell_in HX.out 2
  have c3 := cell_in HX.out 3
  go_enter Tryd.func10, Tryd.ntmps10
  go_wp2_with fail
  refine (alu_is op jt jf k _ HT.out).mono ?_
  rintro e w1 ⟨rfl, hb1⟩
  have HB1 := Lib.hid (below2 HB.out hb1)
  clear hb1 c0 c1 c2 c3
  cases hA : aluB op
  · rw [hA] at HE
    go_wp2_with fail
    go_ret
    exact ⟨retM (by rw [HE.out]; rfl), HB1.out⟩
  · cases hX : aluX op
    · rw [hA, hX] at HE
      go_wp2_with fail
      go_ret
      exact ⟨retM (by rw [HE.out]; rfl), HB1.out⟩
    · rw [hA, hX] at HE
      go_wp2_with fail
      go_ret
      exact ⟨retM (by rw [HE.out]; rfl), HB1.out⟩
theorem luses_any (op jt jf : Int) (k : Nat) (w : World) (ht : OTab w) :
    Calls Tryd.prog 10 #[insV op jt jf k] w fun e w' => e = .returned (.int .u32 (useM ⟨op, jt, jf, k⟩ : Nat)) ∧ Below w.heap.size w w' := by
  by_cases h : op = 96 ∨ op = 97
  · exact luses_mem op jt jf k w h
  by_cases h' : op ∈ ([2, 7, 132, 22, 21, 37, 53, 69, 3, 135, 29, 45, 61, 77] : List Int)
  · exact luses_some op jt jf k w h'
  refine luses_rest op jt jf k w ht fun o ho => ?_
  cases hq : (op == o)
  · rfl
  · exfalso
    obtain rfl : op = o := by simpa using hq
    simp only [List.mem_cons, List.not_mem_nil, or_false] at ho h'
    omega

theorem lsets_mem (op jt jf : Int) (k : Nat) (w : World) (h : op = 2 ∨ op = 3) :
    Calls Tryd.prog 11 #[insV op jt jf k] w fun e w' => e = .returned (.int .u32 (setM ⟨op, jt, jf, k⟩ : Nat)) ∧ Below w.heap.size w w' := by
  have HE : Hid (setM ⟨op, jt, jf, k⟩ = cellM k) := Lib.hid (set_cell h)
  rw [HE.out]
  have HB := Lib.hid (ba (insB op jt jf k) (Below.refl w.heap.size w))
  rcases h with rfl | rfl
  all_goals
    go_enter Tryd.func11, Tryd.ntmps11
    go_wp2_with fail
    refine (lcell_any k _).mono ?_
    rintro e w1 ⟨rfl, hb1⟩
    have HB1 := Lib.hid (below2 HB.out hb1)
    clear hb1
    go_wp2_with fail
    go_ret
    exact ⟨rfl, HB1.out⟩
theorem lsets_some (op jt jf : Int) (k : Nat) (w : World) (h : op ∈ ([0, 32, 96, 135, 132, 1, 97, 7] : List Int)) :
    Calls Tryd.prog 11 #[insV op jt jf k] w fun e w' => e = .returned (.int .u32 (setM ⟨op, jt, jf, k⟩ : Nat)) ∧ Below w.heap.size w w' := by
  have HB := Lib.hid (ba (insB op jt jf k) (Below.refl w.heap.size w))
  simp only [List.mem_cons, List.not_mem_nil, or_false] at h
  rcases h with rfl | rfl | rfl | rfl | rfl | rfl | rfl | rfl
  all_goals
    go_enter Tryd.func11, Tryd.ntmps11
    go_wp2_with fail
    go_ret
    exact ⟨retM (by rw [set_rest (by decide) (by decide), set0, set1]; decide +kernel), HB.out⟩
set_option maxHeartbeats 1000000 in
theorem lsets_rest (op jt jf : Int) (k : Nat) (w : World) (ht : OTab w) (h : ∀ o : Int, o ∈ ([2, 3, 0, 32, 96, 135, 132, 1, 97, 7] : List Int) → (op == o) = false) :
    Calls Tryd.prog 11 #[insV op jt jf k] w fun e w' => e = .returned (.int .u32 (setM ⟨op, jt, jf, k⟩ : Nat)) ∧ Below w.heap.size w w' := by
  have HB := Lib.hid (ba (insB op jt jf k) (Below.refl w.heap.size w))
  have HX := Lib.hid (heap_alloc_new w (insB op jt jf k))
  have HT := Lib.hid (ht.alloc (insB op jt jf k))
  have h1 := h 2 (by decide)
  have h2 := h 3 (by decide)
  have h3 := h 0 (by decide)
  have h4 := h 32 (by decide)
  have h5 := h 96 (by decide)
  have h6 := h 135 (by decide)
  have h7 := h 132 (by decide)
  have h8 := h 1 (by decide)
  have h9 := h 97 (by decide)
  have h10 := h 7 (by decide)
  have HE : Hid (setM ⟨op, jt, jf, k⟩ = (if aluB op then 1 else 0)) := Lib.hid (by
    rw [set_rest (by simpa using h1) (by simpa using h2)]
    have n1 : inL op [0, 32, 96, 135, 132] = false := by
      unfold inL
      simp only [List.contains_cons, List.contains_nil, h3, h4, h5, h6, h7, Bool.or_false]
    have n2 : inL op [1, 97, 7] = false := by
      unfold inL
      simp only [List.contains_cons, List.contains_nil, h8, h9, h10, Bool.or_false]
    rw [set0, set1]
    simp only [n1, n2, Bool.or_false]
    rfl)
  clear h
  have c0 := cell_in HX.out 0
  have c1 := cell_in HX.out 1
  have c2 := cell_in HX.out 2
  have c3 := cell_in HX.out 3
  go_enter Tryd.func11, Tryd.ntmps11
  go_wp2_with fail
  refine (alu_is op jt jf k _ HT.out).mono ?_
  rintro e w1 ⟨rfl, hb1⟩
  have HB1 := Lib.hid (below2 HB.out hb1)
  clear hb1 c0 c1 c2 c3
  cases hA : aluB op
  · rw [hA] at HE
    go_wp2_with fail
    go_ret
    exact ⟨retM (by rw [HE.out]; rfl), HB1.out⟩
  · rw [hA] at HE
    go_wp2_with fail
    go_ret
    exact ⟨retM (by rw [HE.out]; rfl), HB1.out⟩
theorem lsets_any (op jt jf : Int) (k : Nat) (w : World) (ht : OTab w) :
    Calls Tryd.prog 11 #[insV op jt jf k] w fun e w' => e = .returned (.int .u32 (setM ⟨op, jt, jf, k⟩ : Nat)) ∧ Below w.heap.size w w' := by
  by_cases h : op = 2 ∨ op = 3
  · exact lsets_mem op jt jf k w h
  by_cases h' : op ∈ ([0, 32, 96, 135, 132, 1, 97, 7] : List Int)
  · exact lsets_some op jt jf k w h'
  refine lsets_rest op jt jf k w ht fun o ho => ?_
  cases hq : (op == o)
  · rfl
  · exfalso
    obtain rfl : op = o := by simpa using hq
    simp only [List.mem_cons, List.not_mem_nil, or_false] at ho h'
    omega
end Go.Proofs.YtmbegncnbjafdaaDoor
