/-
  What check.Next answers, for any filter that lies in a world, and any place.
-/
import Derived.Test.YtmiflelmblnkaaaDoorKNextP
import Derived.Test.YtmiflelmblnkaaaDoorCLit
namespace Go.Proofs.YtmiflelmblnkaaaDoor
open Go.ChangeShapes Go.WideShapes Go.ChangeAt Go.RowKit
set_option maxRecDepth 20000

theorem inOrder_any (a b : Int) (w : World) :
    Calls Tryd.prog 27 #[.int .i64 a, .int .i64 b] w (IEnd (if a == b then [a] else [min a b, max a b]) w) := by
  cases h : (a == b)
  · have hne : ¬ a = b := by simpa using h
    simp only [Bool.false_eq_true, if_false]
    rcases Int.lt_or_gt_of_ne hne with hlt | hlt
    · rw [Int.min_eq_left (by omega), Int.max_eq_right (by omega)]
      have h1 := Lib.hid (IAt.two w a b 3 2)
      have hb := Lib.hid (ba (.cells #[.int .i64 a, .int .i64 b] 3) (Below.refl w.heap.size w))
      have h2 : a ≤ b := by omega
      have h3 : ¬ b ≤ a := by omega
      go_enter Tryd.func27, Tryd.ntmps27
      go_wp2_with fail
      all_goals first | (exfalso; omega) | skip
      go_ret
      exact ⟨_, rfl, h1.out, hb.out⟩
    · rw [Int.min_eq_right (by omega), Int.max_eq_left (by omega)]
      have h1 := Lib.hid (IAt.two w b a 3 2)
      have hb := Lib.hid (ba (.cells #[.int .i64 b, .int .i64 a] 3) (Below.refl w.heap.size w))
      have h2 : b ≤ a := by omega
      have h3 : ¬ a ≤ b := by omega
      go_enter Tryd.func27, Tryd.ntmps27
      go_wp2_with fail
      all_goals first | (exfalso; omega) | skip
      go_ret
      exact ⟨_, rfl, h1.out, hb.out⟩
  · have h1 := Lib.hid (IAt.one w a 3 1)
    have hb := Lib.hid (ba (.cells #[.int .i64 a] 3) (Below.refl w.heap.size w))
    go_enter Tryd.func27, Tryd.ntmps27
    go_wp2_with fail
    go_ret
    exact ⟨_, rfl, h1.out, hb.out⟩

set_option maxHeartbeats 1000000 in
theorem next_out (v : Value) (l : List X4) (p : Int) (w : World) (hF : FAt w v l) (hok : ∀ x ∈ l, x.ok) (ht : OTab w) (h : p < 0 ∨ (l.length : Int) ≤ p ∨ soundB l = false) :
    Calls Tryd.prog 14 #[v, .int .i64 p] w fun e w' => e = .returned (.slice none 0 0) ∧ Below w.heap.size w w' := by
  have HF := Lib.hid hF
  have HO := Lib.hid hok
  have HT := Lib.hid ht
  obtain ⟨ao, cap, rfl⟩ := hF.shape
  clear hF hok ht
  by_cases h0 : p < 0
  · go_enter Tryd.func14, Tryd.ntmps14
    go_wp2_with fail
    go_ret
    exact ⟨rfl, Below.refl _ _⟩
  by_cases h1 : (l.length : Int) ≤ p
  · go_enter Tryd.func14, Tryd.ntmps14
    go_wp2_with fail
    go_ret
    exact ⟨rfl, Below.refl _ _⟩
  have hs : soundB l = false := by rcases h with h | h | h <;> first | (exact h) | (exact absurd h (by omega))
  clear h
  go_enter Tryd.func14, Tryd.ntmps14
  go_wp2_with fail
  refine (sound_any _ l w HF.out HO.out HT.out).mono ?_
  rintro e w1 ⟨rfl, hb1⟩
  rw [hs]
  have HB1 := Lib.hid hb1
  clear hb1
  go_wp2_with fail
  go_ret
  exact ⟨rfl, HB1.out⟩

set_option maxHeartbeats 1000000 in
theorem next_any (v : Value) (l : List X4) (n : Nat) (w : World) (hF : FAt w v l) (hok : ∀ x ∈ l, x.ok) (ht : OTab w) (hn : n < l.length) (hs : soundB l = true) :
    Calls Tryd.prog 14 #[v, .int .i64 n] w (IEnd (nextX l[n] n) w) := by
  have HS := soundB_iff.1 hs
  have hb0 := HS.2.2.1 n hn
  rw [badAt_at hn] at hb0
  have hjj := right_jumps (one_right hb0)
  have hkk := hok _ (List.getElem_mem hn)
  have hlen : l.length ≤ 4096 := HS.2.1
  obtain ⟨hj0, hj1, hj2, hj3⟩ := hjj
  obtain ⟨hk0, hk1⟩ := hkk
  have HF := Lib.hid hF
  have HO := Lib.hid hok
  have HT := Lib.hid ht
  obtain ⟨ao, cap, rfl, hF'⟩ := hF
  rcases hF' with h0 | ⟨b, off, rfl, hb, hc⟩
  · rw [h0] at hn; simp at hn
  have HC := Lib.hid (hc n hn)
  generalize l[n] = x at HC hb0 hj0 hj1 hj2 hj3 hk0 hk1 ⊢
  clear hc hb0 HS hok ht
  go_enter Tryd.func14, Tryd.ntmps14
  go_wp2_with fail
  refine (sound_any _ l w HF.out HO.out HT.out).mono ?_
  rintro e w1 ⟨rfl, hb1⟩
  rw [hs]
  have HB1 := Lib.hid hb1
  obtain ⟨c0, c1, c2, c3⟩ := HC.out
  have d0 := (hb1.cell (p := ⟨b, _, none⟩) hb).trans c0
  have d1 := (hb1.cell (p := ⟨b, _, none⟩) hb).trans c1
  have d2 := (hb1.cell (p := ⟨b, _, none⟩) hb).trans c2
  have d3 := (hb1.cell (p := ⟨b, _, none⟩) hb).trans c3
  have HX := Lib.hid (heap_alloc_new w1 (insB x.op x.jt x.jf x.k))
  have HB2 := Lib.hid (ba (insB x.op x.jt x.jf x.k) HB1.out)
  clear hb1 c0 c1 c2 c3
  go_wp2_with fail
  refine (ends_any x.op x.jt x.jf x.k _).mono ?_
  rintro e w2 ⟨rfl, hb2⟩
  have HX2 := Lib.hid ((hb2.block _ (lt_of_block HX.out)).trans HX.out)
  have hz : w1.heap.size < w2.heap.size := lt_of_block HX2.out
  have HB3 := Lib.hid (HB2.out.trans (hb2.mono HB2.out.size))
  have HT3 := Lib.hid (HT.out.below HB3.out)
  clear hb2 d0 d1 d2 d3
  cases he : (x.op == 6 || x.op == 22)
  · have hE : endsE x = false := he
    have g0 : w2.cell? ⟨w1.heap.size, 0, none⟩ = some (.int .i64 x.op) := cell_in HX2.out 0
    have g1 : w2.cell? ⟨w1.heap.size, 1, none⟩ = some (.int .i64 x.jt) := cell_in HX2.out 1
    have g2 : w2.cell? ⟨w1.heap.size, 2, none⟩ = some (.int .i64 x.jf) := cell_in HX2.out 2
    have g3 : w2.cell? ⟨w1.heap.size, 3, none⟩ = some (.int .u32 x.k) := cell_in HX2.out 3
    cases h5 : (x.op == 5)
    · have HNx : Hid (nextX x n = if isBranch x.op then (if x.jt == x.jf then [(n : Int) + 1 + x.jt] else [min ((n : Int) + 1 + x.jt) ((n : Int) + 1 + x.jf), max ((n : Int) + 1 + x.jt) ((n : Int) + 1 + x.jf)]) else [(n : Int) + 1]) := Lib.hid (by unfold nextX; rw [hE, h5]; rfl)
      clear hE he
      go_wp2_with fail
      refine (branch_any x.op x.jt x.jf x.k _ HT3.out).mono ?_
      rintro e w3 ⟨rfl, hb3⟩
      have HX3 := Lib.hid ((hb3.block _ hz).trans HX2.out)
      have hz3 := lt_of_block HX3.out
      have HB4 := Lib.hid (HB3.out.trans (hb3.mono HB3.out.size))
      clear hb3 g0 g1 g2 g3
      have k1 : w3.cell? ⟨w1.heap.size, 1, none⟩ = some (.int .i64 x.jt) := cell_in HX3.out 1
      have k2 : w3.cell? ⟨w1.heap.size, 2, none⟩ = some (.int .i64 x.jf) := cell_in HX3.out 2
      cases hB : isBranch x.op
      · have HL : Hid (nextX x n = [(n : Int) + 1]) := Lib.hid (HNx.out.trans (by rw [hB]; rfl))
        clear hB
        go_wp2_with fail
        go_ret
        rw [HL.out]
        exact ⟨_, rfl, IAt.one _ _ _ _, ba _ HB4.out⟩
      · have e1 : (if ((n : Int) + 1 + x.jt == (n : Int) + 1 + x.jf) then [(n : Int) + 1 + x.jt] else [min ((n : Int) + 1 + x.jt) ((n : Int) + 1 + x.jf), max ((n : Int) + 1 + x.jt) ((n : Int) + 1 + x.jf)]) = nextX x n := by
          rw [HNx.out, hB]
          by_cases h : x.jt = x.jf
          · simp [h]
          · simp [h]
        have HI := Lib.hid (inOrder_any ((n : Int) + 1 + x.jt) ((n : Int) + 1 + x.jf) w3)
        rw [e1] at HI
        clear hB e1
        go_wp2_with fail
        refine HI.out.mono ?_
        rintro e w4 ⟨u, rfl, hu, hb4⟩
        have HU := Lib.hid hu
        have HB5 := Lib.hid (HB4.out.trans (hb4.mono HB4.out.size))
        clear hu hb4 k1 k2
        go_wp2_with fail
        go_ret
        exact ⟨_, rfl, HU.out, HB5.out⟩
    · have HL : Hid (nextX x n = [(n : Int) + 1 + x.k]) := Lib.hid (by unfold nextX; rw [hE, h5]; rfl)
      clear hE he
      go_wp2_with fail
      go_ret
      rw [HL.out]
      exact ⟨_, rfl, IAt.one _ _ _ _, ba _ HB3.out⟩
  · have HL : Hid (nextX x n = []) := Lib.hid (by unfold nextX; rw [show endsE x = true from he]; rfl)
    clear he
    go_wp2_with fail
    go_ret
    rw [HL.out]
    exact ⟨_, rfl, IAt.nil _, HB3.out⟩
end Go.Proofs.YtmiflelmblnkaaaDoor
