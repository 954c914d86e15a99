/-
  The document's own instructions (package hurdleref02): Ops, Words, place, plain, branch.
-/
import Derived.Test.YtmbegncnbjafdaaDoorAluP
import Derived.Test.YtmbegncnbjafdaaDoorIAlu
namespace Go.Proofs.YtmbegncnbjafdaaDoor
open Go.ChangeShapes Go.WideShapes Go.ChangeAt Go.RowKit
set_option maxRecDepth 20000

def opAt (i : Nat) : Int := Ip.refOps.getD i 0
def wordAt (i : Nat) : ByteArray := ⟨(Ip.refWords.getD i []).toArray⟩
def opsC : Array Value := (Ip.refOps.map fun n => Value.int .i64 n).toArray
def wordsC : Array Value := (Ip.refWords.map fun x => Value.string ⟨x.toArray⟩).toArray
theorem opsC_at (i : Nat) (h : i < 39) : opsC[i]? = some (.int .i64 (opAt i)) := by
  have hl : Ip.refOps.length = 39 := rfl
  simp [opsC, opAt, List.getD, hl, h]
theorem wordsC_at (i : Nat) (h : i < 39) : wordsC[i]? = some (.string (wordAt i)) := by
  have hl : Ip.refWords.length = 39 := rfl
  simp [wordsC, wordAt, List.getD, hl, h]

theorem ops_any (w : World) :
    Calls Tryd.prog 67 #[] w fun e w' => e = .returned (.slice (some ⟨w.heap.size, 0, none⟩) 39 39) ∧ w'.heap[w.heap.size]? = some (.cells opsC 3 (0, 0)) ∧ Below w.heap.size w w' := by
  go_enter Tryd.func67, Tryd.ntmps67
  go_wp2
  go_ret
  exact ⟨rfl, heap_alloc_new _ _, ba _ (Below.refl _ _)⟩
theorem plain_any (i : Int) (w : World) :
    Calls Tryd.prog 86 #[.int .i64 i] w fun e w' => e = .returned (.bool (Ip.plainB i)) ∧ w = w' := by
  go_enter Tryd.func86, Tryd.ntmps86
  go_wp2
  all_goals go_ret
  all_goals refine ⟨ret1 ?_, rfl⟩
  all_goals
    show _ = Ip.plainB i
    unfold Ip.plainB
    rw [Bool.eq_iff_iff]
    simp
    omega
theorem rbranch_any (i : Int) (w : World) :
    Calls Tryd.prog 51 #[.int .i64 i] w fun e w' => e = .returned (.bool (Ip.branchB i)) ∧ w = w' := by
  go_enter Tryd.func51, Tryd.ntmps51
  go_wp2
  go_ret
  exact ⟨rfl, rfl⟩
set_option maxHeartbeats 1000000 in
theorem place_any (k : Int) (w : World) :
    Calls Tryd.prog 52 #[.int .i64 k] w fun e w' => e = .returned (.int .i64 (Ip.plc k)) ∧ Below w.heap.size w w' := by
  go_enter Tryd.func52, Tryd.ntmps52
  go_wp2_with fail
  refine (ops_any _).mono ?_
  rintro e w1 ⟨rfl, hH, hB⟩
  have HH := Lib.hid hH
  have HB := Lib.hid hB
  clear hH hB
  go_wp2_with fail
  go_loop [4] (fun i => ∃ n : Nat, n ≤ 39 ∧ i = .int .i64 n ∧ (∀ j, j < n → (opAt j == k) = false)) (fun i => 39 - (intOf i).toNat)
  case atStart => exact ⟨0, by omega, rfl, fun j hj => by omega⟩
  case round =>
    obtain ⟨n, hn, rfl, hno⟩ := hrel
    have NO := Lib.hid hno
    clear hno
    by_cases hlt : n < 39
    · have hc : w1.cell? ⟨w.heap.size, n, none⟩ = some (.int .i64 (opAt n)) := (cell_in HH.out n).trans (opsC_at n hlt)
      cases hop : (opAt n == k)
      · go_wp2_with fail
        go_round
        case rel =>
          refine ⟨n + 1, by omega, by go_num, fun j hj => ?_⟩
          by_cases hj' : j < n
          · exact NO.out j hj'
          · obtain rfl : j = n := by omega
            exact hop
        case measure => simp [intOf]; omega
      · go_wp2_with fail
        go_ret
        exact ⟨by rw [Ip.plc_at hlt hop NO.out]; rfl, HB.out⟩
    · go_wp2_with fail
      go_ret
      exact ⟨by rw [Ip.plc_none fun j hj => NO.out j (by omega)]; rfl, HB.out⟩
end Go.Proofs.YtmbegncnbjafdaaDoor

/-
  The document's own answers on instructions (package hurdleref02): Right answers as package ins does.
-/
namespace Go.Proofs.YtmbegncnbjafdaaDoor
open Go.ChangeShapes Go.WideShapes Go.ChangeAt Go.RowKit
set_option maxRecDepth 20000

theorem place_is {k p : Int} (h : Ip.plc k = p) (w : World) :
    Calls Tryd.prog 52 #[.int .i64 k] w fun e w' => e = .returned (.int .i64 p) ∧ Below w.heap.size w w' := by
  rw [← h]
  exact place_any k w
theorem right_at {op jt jf k : Int} {i : Nat} (hi : i < 39) (hb : Ip.byOp op = some (Ip.refRow i)) : right op jt jf k = ((!Ip.plainB i || k == 0) && (if Ip.branchB i then Ip.isJ jt && Ip.isJ jf else jt == 0 && jf == 0)) := by
  obtain ⟨_, _, _, h4, h5, _⟩ := Ip.ref_all i hi
  unfold right
  rw [hb]
  show (true && Ip.fits (Ip.refRow i).fmt jt jf k) = _
  unfold Ip.fits
  rw [h4, h5, Bool.true_and]
theorem right_none {op jt jf k : Int} (hb : Ip.byOp op = none) : right op jt jf k = false := by
  unfold right
  rw [hb]
  rfl

set_option maxHeartbeats 2000000 in
theorem refRight_any (op jt jf k : Int) (w : World) :
    Calls Tryd.prog 66 #[insV op jt jf k] w fun e w' => e = .returned (.bool (right op jt jf k)) ∧ Below w.heap.size w w' := by
  have HB0 := Lib.hid (ba (insB op jt jf k) (Below.refl w.heap.size w))
  have HH0 : Hid ((w.alloc (insB op jt jf k)).heap[w.heap.size]? = some (insB op jt jf k)) := Lib.hid (heap_alloc_new _ _)
  rcases Ip.plc_cases op with ⟨i, hi, hp, hq, hb, hm⟩ | ⟨hp, hb⟩
  · have HG := Lib.hid (right_at (jt := jt) (jf := jf) (k := k) hi hb)
    have HP := Lib.hid hp
    clear hp hb hq hm
    cases hP : Ip.plainB i <;> cases hk : (k != 0) <;> cases hBr : Ip.branchB i
    all_goals
      go_enter Tryd.func66, Tryd.ntmps66
      go_wp2_with fail
      refine (place_is HP.out _).mono ?_
      rintro e w1 ⟨rfl, hb1⟩
      have hH1 := (hb1.block _ (lt_of_block HH0.out)).trans HH0.out
      have HB1 := Lib.hid (HB0.out.trans (hb1.mono HB0.out.size))
      have c1 : w1.cell? ⟨w.heap.size, 1, none⟩ = some (.int .i64 jt) := cell_in hH1 1
      have c2 : w1.cell? ⟨w.heap.size, 2, none⟩ = some (.int .i64 jf) := cell_in hH1 2
      have c3 : w1.cell? ⟨w.heap.size, 3, none⟩ = some (.int .u32 k) := cell_in hH1 3
      clear hb1 hH1
      go_wp2_with (first
        | (go_at_call 86; refine (plain_any _ _).mono ?_; rintro e w' ⟨rfl, rfl⟩)
        | (go_at_call 51; refine (rbranch_any _ _).mono ?_; rintro e w' ⟨rfl, rfl⟩))
      all_goals go_ret
      all_goals
        refine ⟨ret1 ?_, HB1.out⟩
        rw [HG.out]
        have hk' : (k == 0) = !(k != 0) := by simp [bne]
        rw [hk', hk, hP, hBr, Bool.eq_iff_iff]
        simp [Ip.isJ]
        try omega
  · have HG := Lib.hid (right_none (jt := jt) (jf := jf) (k := k) hb)
    have HP := Lib.hid hp
    clear hp hb
    go_enter Tryd.func66, Tryd.ntmps66
    go_wp2_with fail
    refine (place_is HP.out _).mono ?_
    rintro e w1 ⟨rfl, hb1⟩
    have HB1 := Lib.hid (HB0.out.trans (hb1.mono HB0.out.size))
    clear hb1
    go_wp2_with fail
    go_ret
    exact ⟨ret1 HG.out.symm, HB1.out⟩

end Go.Proofs.YtmbegncnbjafdaaDoor

/-
  The document's own answers on instructions (package hurdleref02): Branch, Ends answer as package ins does.
-/
namespace Go.Proofs.YtmbegncnbjafdaaDoor
open Go.ChangeShapes Go.WideShapes Go.ChangeAt Go.RowKit

theorem refEnds_any (op jt jf k : Int) (w : World) :
    Calls Tryd.prog 50 #[insV op jt jf k] w fun e w' => e = .returned (.bool (op == 6 || op == 22)) ∧ Below w.heap.size w w' := by
  have hb := ba (insB op jt jf k) (Below.refl w.heap.size w)
  have go : ∀ b : Bool, (op == 6) = b → Calls Tryd.prog 50 #[insV op jt jf k] w fun e w' => e = .returned (.bool (b || op == 22)) ∧ Below w.heap.size w w' := by
    intro b h
    cases b
    · go_enter Tryd.func50, Tryd.ntmps50
      go_wp2
      go_ret
      exact ⟨rfl, hb⟩
    · go_enter Tryd.func50, Tryd.ntmps50
      go_wp2
      go_ret
      exact ⟨rfl, hb⟩
  exact go _ rfl
theorem refBranch_any (op jt jf k : Int) (w : World) :
    Calls Tryd.prog 33 #[insV op jt jf k] w fun e w' => e = .returned (.bool (isBranch op)) ∧ Below w.heap.size w w' := by
  have HB0 := Lib.hid (ba (insB op jt jf k) (Below.refl w.heap.size w))
  have HG : Hid (isBranch op = Ip.branchB (Ip.plc op)) := Lib.hid (by
    rcases Ip.plc_cases op with ⟨i, hi, hp, _, hb, _⟩ | ⟨hp, hb⟩
    · unfold isBranch
      rw [hb, hp]
      exact (Ip.ref_all i hi).2.2.2.2.1
    · unfold isBranch
      rw [hb, hp]
      rfl)
  go_enter Tryd.func33, Tryd.ntmps33
  go_wp2_with fail
  refine (place_any _ _).mono ?_
  rintro e w1 ⟨rfl, hb1⟩
  have HB1 := Lib.hid (HB0.out.trans (hb1.mono HB0.out.size))
  clear hb1
  go_wp2_with fail
  refine (rbranch_any _ _).mono ?_
  rintro e w2 ⟨rfl, rfl⟩
  go_wp2_with fail
  go_ret
  exact ⟨ret1 HG.out.symm, HB1.out⟩
end Go.Proofs.YtmbegncnbjafdaaDoor

/-
  The document's own arithmetic of an instruction (hurdleref02.Alu) answers as ins.Alu does.
-/
namespace Go.Proofs.YtmbegncnbjafdaaDoor
open Go.ChangeShapes Go.WideShapes Go.ChangeAt Go.RowKit

theorem alu_is (op jt jf k : Int) (w : World) (ht : OTab w) :
    Calls Tryd.prog 26 #[insV op jt jf k] w fun e w' => e = .returned (.tuple #[.int .i64 (aluV op), .bool (aluX op), .bool (aluB op)]) ∧ Below w.heap.size w w' := by
  refine (alu_any op jt jf k w ht).mono ?_
  rintro e w' ⟨r, b, hr, hb, rfl, hB⟩
  subst hr hb
  exact ⟨rfl, hB⟩
theorem ret3s {a a' : Int} {b b' c c' : Bool} (h : a' = a ∧ b' = b ∧ c' = c) : Ending.returned (.tuple #[.int .i64 a, .bool b, .bool c]) = .returned (.tuple #[.int .i64 a', .bool b', .bool c']) := by rw [h.1, h.2.1, h.2.2]

set_option maxHeartbeats 1000000 in
theorem refAlu_any (op jt jf k : Int) (w : World) :
    Calls Tryd.prog 41 #[insV op jt jf k] w fun e w' => e = .returned (.tuple #[.int .i64 (aluV op), .bool (aluX op), .bool (aluB op)]) ∧ Below w.heap.size w w' := by
  have HB0 := Lib.hid (ba (insB op jt jf k) (Below.refl w.heap.size w))
  have HH0 : Hid ((w.alloc (insB op jt jf k)).heap[w.heap.size]? = some (insB op jt jf k)) := Lib.hid (heap_alloc_new _ _)
  rcases Ip.plc_cases op with ⟨i, hi, hp, hq, hb, hm⟩ | ⟨hp, hb⟩
  · have HP := Lib.hid hp
    have HA := Lib.hid (alu_at hi hq hb)
    have hbd := Ip.row_bd _ hm
    have h2 := (Ip.ref_all i hi).2.1
    rw [← hq] at h2
    rw [h2] at hbd
    obtain ⟨hd0, hd1⟩ := hbd
    clear hp hq hb hm h2
    by_cases h1 : 4 ≤ i ∧ i ≤ 12
    · obtain ⟨h1, h1'⟩ := h1
      go_enter Tryd.func41, Tryd.ntmps41
      go_wp2_with fail
      refine (place_is HP.out _).mono ?_
      rintro e w1 ⟨rfl, hb1⟩
      have hH1 := (hb1.block _ (lt_of_block HH0.out)).trans HH0.out
      have HB1 := Lib.hid (HB0.out.trans (hb1.mono HB0.out.size))
      have c0 : w1.cell? ⟨w.heap.size, 0, none⟩ = some (.int .i64 op) := cell_in hH1 0
      clear hb1 hH1
      go_wp2_with fail
      go_ret3
      exact ⟨ret3s (HA.out.1 h1 h1'), HB1.out⟩
    · by_cases h2 : 13 ≤ i ∧ i ≤ 21
      · obtain ⟨h2, h2'⟩ := h2
        have h1'' : ¬ i ≤ 12 := by omega
        go_enter Tryd.func41, Tryd.ntmps41
        go_wp2_with fail
        refine (place_is HP.out _).mono ?_
        rintro e w1 ⟨rfl, hb1⟩
        have hH1 := (hb1.block _ (lt_of_block HH0.out)).trans HH0.out
        have HB1 := Lib.hid (HB0.out.trans (hb1.mono HB0.out.size))
        have c0 : w1.cell? ⟨w.heap.size, 0, none⟩ = some (.int .i64 op) := cell_in hH1 0
        clear hb1 hH1
        go_wp2_with fail
        go_ret3
        exact ⟨ret3s (HA.out.2.1 h2 h2'), HB1.out⟩
      · have h3 : i < 4 ∨ 21 < i := by omega
        have HE := Lib.hid (HA.out.2.2 h3)
        clear h1 h2
        rcases h3 with h3 | h3
        all_goals
          go_enter Tryd.func41, Tryd.ntmps41
          go_wp2_with fail
          refine (place_is HP.out _).mono ?_
          rintro e w1 ⟨rfl, hb1⟩
          have HB1 := Lib.hid (HB0.out.trans (hb1.mono HB0.out.size))
          clear hb1
          go_wp2_with fail
          go_ret3
          exact ⟨ret3s HE.out, HB1.out⟩
  · have HE := Lib.hid (alu_none hb)
    have HP := Lib.hid hp
    clear hp hb
    go_enter Tryd.func41, Tryd.ntmps41
    go_wp2_with fail
    refine (place_is HP.out _).mono ?_
    rintro e w1 ⟨rfl, hb1⟩
    have HB1 := Lib.hid (HB0.out.trans (hb1.mono HB0.out.size))
    clear hb1
    go_wp2_with fail
    go_ret3
    exact ⟨ret3s HE.out, HB1.out⟩
end Go.Proofs.YtmbegncnbjafdaaDoor
