/-
  The document's own answers on what an instruction needs and sets (package hurdleref07): in, Uses, Sets.
-/
import Derived.Test.YtmbegncnbjafdaaDoorVMask
import Derived.Test.YtmbegncnbjafdaaDoorRAlu
namespace Go.Proofs.YtmbegncnbjafdaaDoor
open Go.ChangeShapes Go.WideShapes Go.ChangeAt Go.RowKit
set_option maxRecDepth 20000

theorem IAt.lit (w : World) (l : List Int) (t : TypeId) (cap : Nat) : IAt (w.alloc (.cells (icells l).toArray t)) (.slice (some ⟨w.heap.size, 0, none⟩) l.length cap) l :=
  ⟨_, _, rfl, .inr ⟨w.heap.size, 0, rfl, by rw [size_alloc]; omega, fun i hi => by
    rw [cell_in (heap_alloc_new w (.cells (icells l).toArray t)) (0 + i), Nat.zero_add]
    simp [hi]⟩⟩
theorem inL_at {n : Int} {l : List Int} {j : Nat} (hj : j < l.length) (h : (l[j] == n) = true) : inL n l = true := by
  unfold inL
  rw [List.contains_iff_mem]
  have := List.getElem_mem hj
  rw [eq_of_beq h] at this
  exact this
theorem inL_no {n : Int} {l : List Int} (h : ∀ i (hi : i < l.length), (l[i] == n) = false) : inL n l = false := by
  cases hh : inL n l
  · rfl
  · unfold inL at hh
    rw [List.contains_iff_mem] at hh
    obtain ⟨i, hi, rfl⟩ := List.mem_iff_getElem.1 hh
    have := h i hi
    simp at this
theorem rin_any (n : Int) (v : Value) (l : List Int) (w : World) (hF : IAt w v l) (hl : l.length ≤ 100) :
    Calls Tryd.prog 42 #[.int .i64 n, v] w fun e w' => e = .returned (.bool (inL n l)) ∧ Below w.heap.size w w' := by
  obtain ⟨ao, cap, rfl, hF⟩ := hF
  have HF := Lib.hid hF
  clear hF
  go_enter Tryd.func42, Tryd.ntmps42
  go_wp2_with fail
  go_loopw [5] (fun i wr => ∃ j : Nat, j ≤ l.length ∧ i = .int .i64 j ∧ Below w.heap.size w wr ∧ ∀ i (hi : i < l.length), i < j → (l[i] == n) = false) (fun i _ => l.length - (intOf i).toNat)
  case atStart => exact ⟨0, by omega, rfl, Below.refl _ _, fun i _ h => by omega⟩
  case round =>
    obtain ⟨j, hj, rfl, hbw, hno⟩ := hrel
    have HB := Lib.hid hbw
    have HN := Lib.hid hno
    clear hbw hno
    by_cases hlt : j < l.length
    · rcases HF.out with h0 | ⟨b, off, rfl, hb, hc⟩
      · rw [h0] at hlt; simp at hlt
      have d0 := (HB.out.cell (p := ⟨b, _, none⟩) hb).trans (hc j hlt)
      cases hq : (l[j] == n)
      · have HN' : Hid (∀ i (hi : i < l.length), i < j + 1 → (l[i] == n) = false) := Lib.hid (by
          intro i hi hij
          by_cases h : i < j
          · exact HN.out i hi h
          · obtain rfl : i = j := by omega
            exact hq)
        generalize l[j] = x at *
        clear hc HN
        go_wp2_with fail
        go_roundw
        case rel => exact ⟨j + 1, by omega, by go_num, HB.out, HN'.out⟩
        case measure => simp [intOf]; omega
      · have HR := Lib.hid (inL_at hlt hq)
        generalize l[j] = x at *
        clear hc HN
        go_wp2_with fail
        go_ret
        exact ⟨ret1 HR.out.symm, HB.out⟩
    · have HR := Lib.hid (inL_no fun i hi => HN.out i hi (by omega))
      obtain rfl : j = l.length := by omega
      clear HN
      go_wp2_with fail
      go_ret
      exact ⟨ret1 HR.out.symm, HB.out⟩
theorem branch_bd {op : Int} (h : isBranch op = true) : 0 ≤ op ∧ op ≤ 77 := by
  have hm := (branch_other h).2
  simp only [List.mem_cons, List.not_mem_nil, or_false] at hm
  omega
theorem uses0 (op jt jf k : Int) : usesP ⟨op, jt, jf, k⟩ 0 = (aluB op || isBranch op || inL op [2, 7, 132, 22]) := rfl
theorem uses1 (op jt jf k : Int) : usesP ⟨op, jt, jf, k⟩ 1 = ((aluB op && aluX op) || (isBranch op && op % 16 == 13) || inL op [3, 135]) := rfl
theorem uses2 (op jt jf : Int) (k : Nat) {i : Nat} (h : 2 ≤ i) : usesP ⟨op, jt, jf, k⟩ i = ((op == 96 || op == 97) && ((k : Int) + 2 == (i : Int))) := by
  unfold usesP
  rw [if_neg (by omega), if_neg (by omega)]
  congr 1
  rw [Bool.eq_iff_iff]
  simp
  omega
set_option maxHeartbeats 2000000 in
theorem rUses_any (op jt jf : Int) (k part : Nat) (w : World) (hk : k < 4294967296) (hp : part < 18) :
    Calls Tryd.prog 22 #[insV op jt jf k, .int .i64 part] w fun e w' => e = .returned (.bool (usesP ⟨op, jt, jf, k⟩ part)) ∧ Below w.heap.size w w' := by
  have HB0 := Lib.hid (ba (insB op jt jf k) (Below.refl w.heap.size w))
  have HX0 := Lib.hid (heap_alloc_new w (insB op jt jf k))
  have c0 := cell_in HX0.out 0
  have c1 := cell_in HX0.out 1
  have c2 := cell_in HX0.out 2
  have c3 := cell_in HX0.out 3
  go_enter Tryd.func22, Tryd.ntmps22
  go_wp2_with fail
  refine (refAlu_any op jt jf k _).mono ?_
  rintro e w1 ⟨rfl, hb1⟩
  have HX1 := Lib.hid (kb hb1 HX0.out)
  have HB1 := Lib.hid (below2 HB0.out hb1)
  clear hb1 c0 c1 c2 c3
  have c0 := cell_in HX1.out 0
  have c1 := cell_in HX1.out 1
  have c2 := cell_in HX1.out 2
  have c3 := cell_in HX1.out 3
  go_wp2_with fail
  refine (refBranch_any op jt jf k _).mono ?_
  rintro e w2 ⟨rfl, hb2⟩
  have HX2 := Lib.hid (kb hb2 HX1.out)
  have HB2 := Lib.hid (below2 HB1.out hb2)
  have hz2 := lt_of_block HX2.out
  clear hb2 c0 c1 c2 c3
  have c0 := cell_in HX2.out 0
  have c3 := cell_in HX2.out 3
  have hk1 : (k : Int) ≤ 4294967295 := by omega
  have hp1 : (part : Int) ≤ 17 := by omega
  cases hB : isBranch op
  · by_cases h0 : part = 0
    · subst h0
      cases hA : aluB op
      · have HE : Hid (usesP ⟨op, jt, jf, k⟩ 0 = inL op [2, 7, 132, 22]) := Lib.hid (by rw [uses0, hA, hB]; rfl)
        clear hA hB
        go_wp2_with fail
        refine (rin_any op _ [2, 7, 132, 22] _ (IAt.lit w2 [2, 7, 132, 22] 3 4) (by decide)).mono ?_
        rintro e w3 ⟨rfl, hb3⟩
        have HB3 := Lib.hid (below2 (ba (.cells #[.int .i64 2, .int .i64 7, .int .i64 132, .int .i64 22] 3) HB2.out) hb3)
        clear hb3
        go_wp2_with fail
        go_ret
        exact ⟨ret1 HE.out.symm, HB3.out⟩
      · have HE : Hid (usesP ⟨op, jt, jf, k⟩ 0 = true) := Lib.hid (by rw [uses0, hA]; rfl)
        clear hA hB
        go_wp2_with fail
        go_ret
        exact ⟨ret1 HE.out.symm, HB2.out⟩
    · by_cases h1 : part = 1
      · subst h1
        cases hA : (aluB op && aluX op)
        · have HE : Hid (usesP ⟨op, jt, jf, k⟩ 1 = inL op [3, 135]) := Lib.hid (by rw [uses1, hA, hB]; rfl)
          clear hB
          cases hA1 : aluB op
          · clear hA hA1
            go_wp2_with fail
            refine (rin_any op _ [3, 135] _ (IAt.lit w2 [3, 135] 3 2) (by decide)).mono ?_
            rintro e w3 ⟨rfl, hb3⟩
            have HB3 := Lib.hid (below2 (ba (.cells #[.int .i64 3, .int .i64 135] 3) HB2.out) hb3)
            clear hb3
            go_wp2_with fail
            go_ret
            exact ⟨ret1 HE.out.symm, HB3.out⟩
          · have hA2 : aluX op = false := by rw [hA1] at hA; simpa using hA
            clear hA hA1
            go_wp2_with fail
            refine (rin_any op _ [3, 135] _ (IAt.lit w2 [3, 135] 3 2) (by decide)).mono ?_
            rintro e w3 ⟨rfl, hb3⟩
            have HB3 := Lib.hid (below2 (ba (.cells #[.int .i64 3, .int .i64 135] 3) HB2.out) hb3)
            clear hb3
            go_wp2_with fail
            go_ret
            exact ⟨ret1 HE.out.symm, HB3.out⟩
        · have HE : Hid (usesP ⟨op, jt, jf, k⟩ 1 = true) := Lib.hid (by rw [uses1, hA]; rfl)
          obtain ⟨hA1, hA2⟩ := Bool.and_eq_true_iff.1 hA
          clear hA hB
          go_wp2_with fail
          go_ret
          exact ⟨ret1 HE.out.symm, HB2.out⟩
      · have HE := Lib.hid (uses2 op jt jf k (i := part) (by omega))
        have g0 : ((part : Int) == 0) = false := by simp; omega
        have g1 : ((part : Int) == 1) = false := by simp; omega
        clear hB h0 h1
        cases h96 : (op == 96)
        · cases h97 : (op == 97)
          · rw [h96, h97] at HE
            go_wp2_with fail
            go_ret
            exact ⟨ret1 HE.out.symm, HB2.out⟩
          · rw [h96, h97] at HE
            go_wp2_with fail
            go_ret
            exact ⟨ret1 HE.out.symm, HB2.out⟩
        · rw [h96] at HE
          go_wp2_with fail
          go_ret
          exact ⟨ret1 HE.out.symm, HB2.out⟩
  · obtain ⟨hlo, hhi⟩ := branch_bd hB
    have hA : aluB op = false := by
      cases hA : aluB op
      · rfl
      · rw [(alu_other hA).1] at hB; cases hB
    by_cases h0 : part = 0
    · subst h0
      have HE : Hid (usesP ⟨op, jt, jf, k⟩ 0 = true) := Lib.hid (by rw [uses0, hB, Bool.or_true]; rfl)
      clear hB
      go_wp2_with fail
      go_ret
      exact ⟨ret1 HE.out.symm, HB2.out⟩
    · by_cases h1 : part = 1
      · subst h1
        cases h13 : (op % 16 == 13)
        · have HE : Hid (usesP ⟨op, jt, jf, k⟩ 1 = inL op [3, 135]) := Lib.hid (by rw [uses1, hA, h13, Bool.and_false]; rfl)
          clear hB
          go_wp2_with fail
          refine (rin_any op _ [3, 135] _ (IAt.lit w2 [3, 135] 3 2) (by decide)).mono ?_
          rintro e w3 ⟨rfl, hb3⟩
          have HB3 := Lib.hid (below2 (ba (.cells #[.int .i64 3, .int .i64 135] 3) HB2.out) hb3)
          clear hb3
          go_wp2_with fail
          go_ret
          exact ⟨ret1 HE.out.symm, HB3.out⟩
        · have HE : Hid (usesP ⟨op, jt, jf, k⟩ 1 = true) := Lib.hid (by rw [uses1, hB, h13, Bool.and_true, Bool.or_true]; rfl)
          clear hB
          go_wp2_with fail
          go_ret
          exact ⟨ret1 HE.out.symm, HB2.out⟩
      · have HE := Lib.hid (uses2 op jt jf k (i := part) (by omega))
        have g0 : ((part : Int) == 0) = false := by simp; omega
        have g1 : ((part : Int) == 1) = false := by simp; omega
        clear hB h0 h1
        cases h96 : (op == 96)
        · cases h97 : (op == 97)
          · rw [h96, h97] at HE
            go_wp2_with fail
            go_ret
            exact ⟨ret1 HE.out.symm, HB2.out⟩
          · rw [h96, h97] at HE
            go_wp2_with fail
            go_ret
            exact ⟨ret1 HE.out.symm, HB2.out⟩
        · rw [h96] at HE
          go_wp2_with fail
          go_ret
          exact ⟨ret1 HE.out.symm, HB2.out⟩
theorem sets0 (op jt jf k : Int) : setsP ⟨op, jt, jf, k⟩ 0 = (aluB op || inL op [0, 32, 96, 135, 132]) := rfl
theorem sets1 (op jt jf k : Int) : setsP ⟨op, jt, jf, k⟩ 1 = inL op [1, 97, 7] := rfl
theorem sets2 (op jt jf : Int) (k : Nat) {i : Nat} (h : 2 ≤ i) : setsP ⟨op, jt, jf, k⟩ i = ((op == 2 || op == 3) && ((k : Int) + 2 == (i : Int))) := by
  unfold setsP
  rw [if_neg (by omega), if_neg (by omega)]
  congr 1
  rw [Bool.eq_iff_iff]
  simp
  omega
set_option maxHeartbeats 2000000 in
theorem rSets_any (op jt jf : Int) (k part : Nat) (w : World) (hk : k < 4294967296) (hp : part < 18) :
    Calls Tryd.prog 23 #[insV op jt jf k, .int .i64 part] w fun e w' => e = .returned (.bool (setsP ⟨op, jt, jf, k⟩ part)) ∧ Below w.heap.size w w' := by
  have HB0 := Lib.hid (ba (insB op jt jf k) (Below.refl w.heap.size w))
  have HX0 := Lib.hid (heap_alloc_new w (insB op jt jf k))
  have c0 := cell_in HX0.out 0
  have c1 := cell_in HX0.out 1
  have c2 := cell_in HX0.out 2
  have c3 := cell_in HX0.out 3
  go_enter Tryd.func23, Tryd.ntmps23
  go_wp2_with fail
  refine (refAlu_any op jt jf k _).mono ?_
  rintro e w2 ⟨rfl, hb1⟩
  have HX2 := Lib.hid (kb hb1 HX0.out)
  have HB2 := Lib.hid (below2 HB0.out hb1)
  have hz2 := lt_of_block HX2.out
  clear hb1 c0 c1 c2 c3
  have c0 := cell_in HX2.out 0
  have c3 := cell_in HX2.out 3
  have hk1 : (k : Int) ≤ 4294967295 := by omega
  have hp1 : (part : Int) ≤ 17 := by omega
  by_cases h0 : part = 0
  · subst h0
    cases hA : aluB op
    · have HE : Hid (setsP ⟨op, jt, jf, k⟩ 0 = inL op [0, 32, 96, 135, 132]) := Lib.hid (by rw [sets0, hA]; rfl)
      clear hA
      go_wp2_with fail
      refine (rin_any op _ [0, 32, 96, 135, 132] _ (IAt.lit w2 [0, 32, 96, 135, 132] 3 5) (by decide)).mono ?_
      rintro e w3 ⟨rfl, hb3⟩
      have HB3 := Lib.hid (below2 (ba (.cells #[.int .i64 0, .int .i64 32, .int .i64 96, .int .i64 135, .int .i64 132] 3) HB2.out) hb3)
      clear hb3
      go_wp2_with fail
      go_ret
      exact ⟨ret1 HE.out.symm, HB3.out⟩
    · have HE : Hid (setsP ⟨op, jt, jf, k⟩ 0 = true) := Lib.hid (by rw [sets0, hA]; rfl)
      clear hA
      go_wp2_with fail
      go_ret
      exact ⟨ret1 HE.out.symm, HB2.out⟩
  · by_cases h1 : part = 1
    · subst h1
      have HE := Lib.hid (sets1 op jt jf k)
      go_wp2_with fail
      refine (rin_any op _ [1, 97, 7] _ (IAt.lit w2 [1, 97, 7] 3 3) (by decide)).mono ?_
      rintro e w3 ⟨rfl, hb3⟩
      have HB3 := Lib.hid (below2 (ba (.cells #[.int .i64 1, .int .i64 97, .int .i64 7] 3) HB2.out) hb3)
      clear hb3
      go_wp2_with fail
      go_ret
      exact ⟨ret1 HE.out.symm, HB3.out⟩
    · have HE := Lib.hid (sets2 op jt jf k (i := part) (by omega))
      have g0 : ((part : Int) == 0) = false := by simp; omega
      have g1 : ((part : Int) == 1) = false := by simp; omega
      clear h0 h1
      cases h96 : (op == 2)
      · cases h97 : (op == 3)
        · rw [h96, h97] at HE
          go_wp2_with fail
          go_ret
          exact ⟨ret1 HE.out.symm, HB2.out⟩
        · rw [h96, h97] at HE
          go_wp2_with fail
          go_ret
          exact ⟨ret1 HE.out.symm, HB2.out⟩
      · rw [h96] at HE
        go_wp2_with fail
        go_ret
        exact ⟨ret1 HE.out.symm, HB2.out⟩
end Go.Proofs.YtmbegncnbjafdaaDoor
