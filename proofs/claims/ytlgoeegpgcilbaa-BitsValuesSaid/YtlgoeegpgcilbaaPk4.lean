/-
  What the laws' texts use, joined.
-/
import Derived.Test.YtlgoeegpgcilbaaProg
import Derived.WalkKit
import Derived.Laws.BitsAllLaws
import Derived.ProofKit
import Derived.Lib.Hide
import Derived.Laws.Rows
import Derived.Laws.ResultCell
import Derived.Laws.Entries
import Derived.Handy
import Derived.OwnWalk
import Derived.Laws.OwnMore
import Derived.Deep.Draws
import Derived.Laws.IdiomStrings
import Derived.Lib.BufferRead
import Derived.Maps.OwnSet
import Derived.Laws.Tables
import Derived.Deep.DeepCutAuto
import Derived.DeepKeys
import Derived.Laws.StructEq
import Derived.Deep.RegionHeld3
import Derived.BigRegion
import Derived.BigQuiet
import Derived.Test.YtlgoeegpgcilbaaRows
import Derived.OpenShut
import Derived.Carry
import Derived.Deep.DeepHandedRow
import Derived.Lib.SmallJoins
import Derived.Deep.OwnRows
import Derived.Lib.QuietBelow
import Derived.RowKit
import Derived.Deep.QuietTactic
import Derived.Deep.CutBlock
import Derived.Stop.Joined
import Derived.Shelf.Sort.Plain
import Derived.Shelf.Slices.Turned
import Derived.Shelf.Slices.Equal
import Derived.Ground.Names2Prog
import Derived.Shelf.Slices.CompactI
import Derived.Shelf.Slices.In.SortNone
import Derived.Lib.AppendZerosOnto
import Derived.Lib.SliceRun
import Derived.Lib.OwnBridge
import Derived.Sort.OwnSortedInts
import Derived.Deep.MidRow
import Derived.Test.YtlgoeegpgcilbaaPk1
import Derived.Test.YtlgoeegpgcilbaaPk2
import Derived.Test.YtlgoeegpgcilbaaPk3
/-
  Package bits: Const, Var, Same.
-/
namespace Go.Proofs.Ytlgoeegpgcilbaa
open Go.ChangeShapes Go.WideShapes Go.ChangeAt Go.RowKit
set_option maxRecDepth 100000

theorem nrow_new1 {k : IntKind} {w : World} {g : Nat} {cs : Array Value} {t : TypeId} {l : List Int} {n c : Nat} (h : w.heap[g]? = some (.cells cs t)) (hn : n = l.length) (hc : cs = (l.map fun z => Value.int k z).toArray) : NRow k w (.slice (some ⟨g, 0, none⟩) n c) l := by
  subst hn hc
  exact ⟨_, _, rfl, .inr ⟨g, 0, rfl, lt_of_block h, fun i hi => by
    rw [Nat.zero_add, cell_in h]
    simp [hi]⟩⟩
theorem bconst_any (c : Nat) (w : World) (hc : c < 4294967296) : Calls Try.prog 12 #[.int .u32 (c : Nat)] w fun e w' => ∃ v, e = .returned v ∧ GF w' v [] [c] ∧ Below w.heap.size w w' := by
  have _ := hc
  obtain ⟨W, hW, x0, x1, hB⟩ := box2 w (bfB (.slice none 0 0) (.slice none 0 0)) (.cells #[.int .u32 (c : Int)] 26)
  have HN : Hid (NRow .u32 W (.slice (some ⟨w.heap.size + 1, 0, none⟩) 1 1) (natsI [c])) := Lib.hid (nrow_new1 x1 rfl (by simp [natsI]))
  have HB := Lib.hid hB
  have HX := Lib.hid x0
  rw [hW] at HX
  have HW := Lib.hid hW
  clear x0 x1 hB hW
  go_enter Try.func12, Try.ntmps12
  go_wp2_with (refine st_bf HX.out rfl rfl rfl rfl rfl rfl rfl ?_; rw [← HW.out]; intro W5 hp5; have HP5 := Lib.hid hp5; clear hp5)
  (try simp only [Exit.inBlock, Exit.then])
  exact bodyPost_ret (results_bf rfl rfl HP5.out.row) rfl ⟨_, rfl, ⟨_, _, rfl, NRow.nil _ _, HN.out.putr (HW.out ▸ HX.out) HP5.out⟩, HP5.out.below HB.out (Nat.le_refl _)⟩
theorem bvar_out (n : Int) (w : World) (hn : n < 0 ∨ 33 < n) : Calls Try.prog 11 #[.int .i64 n] w fun e w' => ∃ v, e = .returned (.tuple #[v, .int .i64 1]) ∧ GF w' v [] [] ∧ Below w.heap.size w w' := by
  have x0 := heap_alloc_new w (bfB (.slice none 0 0) (.slice none 0 0))
  have hb0 := ba (bfB (.slice none 0 0) (.slice none 0 0)) (Below.refl w.heap.size w)
  have HC := Lib.hid (avar_out n (w.alloc (bfB (.slice none 0 0) (.slice none 0 0))) hn)
  obtain ⟨W, hW⟩ : ∃ W, W = w.alloc (bfB (.slice none 0 0) (.slice none 0 0)) := ⟨_, rfl⟩
  rw [← hW] at x0 hb0 HC
  have X0 := Lib.hid x0
  have HB0 := Lib.hid hb0
  have HL : Hid ((constF 0).length = 35) := Lib.hid (constF_ok (by omega)).1
  generalize constF 0 = F at *
  clear x0 hb0 hn
  go_enter Try.func11, Try.ntmps11
  go_upto_region 1 with fail
  rw [← hW]
  clear hW
  go_wp2_with fail
  refine HC.out.mono ?_
  rintro e w1 ⟨rfl, hb1⟩
  have X1 := Lib.hid (kb hb1 X0.out)
  have HB1 := Lib.hid (below2 HB0.out hb1)
  have hs1 := HB1.out.size
  have hl1 := lt_of_block X1.out
  clear hb1
  go_wp2_with (first | (refine st_form (heap_alloc_new _ _) rfl HL.out rfl rfl rfl rfl ?_; intro W3 hp3; have X3 := Lib.hid (hp3.keep (by omega) (ka _ X1.out)); have HB3 := Lib.hid (hp3.below (ba _ HB1.out) (by omega)); clear hp3) | (refine st_bf X3.out rfl rfl rfl rfl rfl rfl rfl ?_; intro W5 hp5; have HP5 := Lib.hid hp5; clear hp5))
  (try simp only [Exit.inBlock, Exit.then])
  exact bodyPost_ret (results_bf2 rfl rfl rfl HP5.out.row) rfl ⟨_, rfl, ⟨_, _, rfl, NRow.nil _ _, NRow.nil _ _⟩, HP5.out.below HB3.out (Nat.le_refl _)⟩
theorem bvar_in (n : Nat) (w : World) (hn : n < 34) : Calls Try.prog 11 #[.int .i64 (n : Nat)] w fun e w' => ∃ v, e = .returned (.tuple #[v, .int .i64 0]) ∧ GF w' v [(n : Int)] [0, 4294967295] ∧ Below w.heap.size w w' := by
  have x0 := heap_alloc_new w (bfB (.slice none 0 0) (.slice none 0 0))
  have hb0 := ba (bfB (.slice none 0 0) (.slice none 0 0)) (Below.refl w.heap.size w)
  have HC := Lib.hid (avar_in n (w.alloc (bfB (.slice none 0 0) (.slice none 0 0))) hn)
  obtain ⟨W, hW⟩ : ∃ W, W = w.alloc (bfB (.slice none 0 0) (.slice none 0 0)) := ⟨_, rfl⟩
  rw [← hW] at x0 hb0 HC
  have X0 := Lib.hid x0
  have HB0 := Lib.hid hb0
  have HL : Hid ((varF n).length = 35) := Lib.hid (varF_ok n).1
  generalize varF n = F at *
  clear x0 hb0 hn
  go_enter Try.func11, Try.ntmps11
  go_upto_region 1 with fail
  rw [← hW]
  clear hW
  go_wp2_with fail
  refine HC.out.mono ?_
  rintro e w1 ⟨rfl, hb1⟩
  have X1 := Lib.hid (kb hb1 X0.out)
  have HB1 := Lib.hid (below2 HB0.out hb1)
  have hs1 := HB1.out.size
  have hl1 := lt_of_block X1.out
  clear hb1
  go_wp2_with (first | (refine st_form (heap_alloc_new _ _) rfl HL.out rfl rfl rfl rfl ?_; intro W3 hp3; have X3 := Lib.hid (hp3.keep (by omega) (ka _ X1.out)); have HB3 := Lib.hid (hp3.below (ba _ HB1.out) (by omega)); clear hp3) | (refine st_bf (ka _ (ka _ X3.out)) rfl rfl rfl rfl rfl rfl rfl ?_; intro W5 hp5; have HP5 := Lib.hid hp5; clear hp5))
  (try simp only [Exit.inBlock, Exit.then])
  have hA : ((W3.alloc (.cells #[.int .i64 (n : Int)] 3)).alloc (.cells #[.int .u32 0, .int .u32 4294967295] 26)).heap[W3.heap.size]? = some (.cells #[.int .i64 (n : Int)] 3) := ka _ (heap_alloc_new W3 _)
  have hB := heap_alloc_new (W3.alloc (.cells #[.int .i64 (n : Int)] 3)) (.cells #[.int .u32 0, .int .u32 4294967295] 26)
  rw [size_alloc] at hB
  exact bodyPost_ret (results_bf2 rfl rfl rfl HP5.out.row) rfl ⟨_, rfl, ⟨_, _, rfl, (nrow_new1 (l := [(n : Int)]) hA rfl rfl).putr (ka _ (ka _ X3.out)) HP5.out, (nrow_new1 (l := natsI [0, 4294967295]) hB rfl rfl).putr (ka _ (ka _ X3.out)) HP5.out⟩, HP5.out.below (ba _ (ba _ HB3.out)) (Nat.le_refl _)⟩
/-! ### Same -/
theorem gs_equal_u32 (v1 v2 : Value) (t s : List Nat) (w : World) (h1 : NRow .u32 w v1 (natsI t)) (h2 : NRow .u32 w v2 (natsI s)) (hl : t.length ≤ 5000) (hl2 : s.length ≤ 5000) :
    Calls Try.prog 34 #[v1, v2] w fun e w' => e = .returned (.bool (decide (t = s))) ∧ Below w.heap.size w w' := by
  obtain ⟨ao1, cap1, rfl⟩ := h1.shape
  obtain ⟨ao2, cap2, rfl⟩ := h2.shape
  have HC1 := Lib.hid (h1.at2 rfl).2
  have HC2 := Lib.hid (h2.at2 rfl).2
  rw [natsI_len] at HC1 HC2
  rw [natsI_len, natsI_len]
  have HT1 := Lib.hid (fun (i : Nat) (h : i < t.length) => natsI_iAt h)
  have HT2 := Lib.hid (fun (i : Nat) (h : i < s.length) => natsI_iAt h)
  have HE := Lib.hid (fun (hl : t.length = s.length) (h : ∀ i, i < t.length → mAt t i = mAt s i) => decide_eq_true (Bf.ext_list hl h))
  have HN := Lib.hid (fun (h : ¬ t = s) => decide_eq_false h)
  have HNl : Hid (¬ t.length = s.length → ¬ t = s) := Lib.hid (fun h e => h (by rw [e]))
  have HNi : Hid (∀ i, ¬ mAt t i = mAt s i → ¬ t = s) := Lib.hid (fun i h e => h (by rw [e]))
  generalize decide (t = s) = R at *
  clear h1 h2
  generalize t.length = L at *
  generalize s.length = M at *
  go_enter Try.func34, Try.ntmps34
  by_cases hLM : L = M
  · subst hLM
    have e0 : ((L : Int) != (L : Int)) = false := by simp
    go_wp2_with fail
    go_loopw [5, 13] (fun _ i wr => ∃ k : Nat, k ≤ L ∧ i = .int .i64 k ∧ (∀ j, j < k → mAt t j = mAt s j) ∧ Below w.heap.size w wr) (fun _ i _ => L - (intOf i).toNat)
    case atStart => exact ⟨0, by omega, rfl, fun j hj => by omega, Below.refl _ _⟩
    case round =>
      obtain ⟨k, hk, rfl, hA, hBr⟩ := hrel
      have HA := Lib.hid hA
      have HBr := Lib.hid hBr
      clear hA
      by_cases hlt : k < L
      · obtain ⟨b1, o1, rfl, hb1, hc1⟩ := HC1.out (by omega)
        obtain ⟨b2, o2, rfl, hb2, hc2⟩ := HC2.out (by omega)
        have x1 := (hBr.cell (p := ⟨b1, o1 + k, none⟩) hb1).trans (hc1 k hlt)
        have x2 := (hBr.cell (p := ⟨b2, o2 + k, none⟩) hb2).trans (hc2 k hlt)
        rw [HT1.out k hlt] at x1
        rw [HT2.out k hlt] at x2
        have HNk := Lib.hid (HNi.out k)
        obtain ⟨X, hX⟩ : ∃ X, X = mAt t k := ⟨_, rfl⟩
        obtain ⟨Y, hY⟩ : ∃ Y, Y = mAt s k := ⟨_, rfl⟩
        rw [← hX] at x1 HNk
        rw [← hY] at x2 HNk
        have HX := Lib.hid hX
        have HY := Lib.hid hY
        clear hX hY hc1 hc2 hBr
        by_cases hXY : X = Y
        · have g1 : ((X : Int) != (Y : Int)) = false := by simp [hXY]
          have HXY := Lib.hid hXY
          clear hXY
          go_wp2_with (go_quiet (fail))
          go_roundw
          case rel => exact ⟨k + 1, by omega, by go_num, fun j hj => by
            rcases Nat.lt_or_eq_of_le (Nat.le_of_lt_succ hj) with h | rfl
            · exact HA.out j h
            · rw [← HX.out, ← HY.out, HXY.out], bdN HBr.out _⟩
          case measure => simp [intOf]; omega
        · have g1 : ((X : Int) != (Y : Int)) = true := by simp; omega
          have HR := Lib.hid (HN.out (HNk.out hXY))
          clear hXY
          go_wp2_with (go_quiet (fail))
          go_ret
          exact ⟨retB HR.out, bdN HBr.out _⟩
      · obtain rfl : k = L := by omega
        have HR := Lib.hid (HE.out (by trivial) HA.out)
        clear hBr
        go_wp2_with fail
        go_ret
        exact ⟨retB HR.out, HBr.out⟩
  · have HR := Lib.hid (HN.out (HNl.out hLM))
    have e0 : ((L : Int) != (M : Int)) = true := by simp; omega
    clear hLM
    go_wp2_with fail
    go_ret
    exact ⟨retB HR.out, Below.refl _ _⟩
theorem gs_equal_int (v1 v2 : Value) (l m : List Int) (w : World) (h1 : NRow .i64 w v1 l) (h2 : NRow .i64 w v2 m) (hl : l.length ≤ 5000) (hl2 : m.length ≤ 5000) :
    Calls Try.prog 33 #[v1, v2] w fun e w' => e = .returned (.bool (decide (l = m))) ∧ Below w.heap.size w w' := by
  obtain ⟨ao1, cap1, rfl⟩ := h1.shape
  obtain ⟨ao2, cap2, rfl⟩ := h2.shape
  have hc1 := (h1.at2 rfl).2
  have hc2 := (h2.at2 rfl).2
  by_cases hlm : l.length = m.length
  · by_cases h0 : l.length = 0
    · have e1 := List.eq_nil_of_length_eq_zero h0
      have e2 := List.eq_nil_of_length_eq_zero (hlm ▸ h0)
      subst e1 e2
      refine (slices_Equal_int_empty _ _ _ _ _ w (by simp)).mono ?_
      rintro e w' ⟨rfl, rfl⟩
      exact ⟨rfl, Below.refl _ _⟩
    · obtain ⟨b1, o1, rfl, _, hc1⟩ := hc1 (by omega)
      obtain ⟨b2, o2, rfl, _, hc2⟩ := hc2 (by omega)
      refine (slices_Equal_int b1 o1 _ _ b2 o2 _ _ l m w (Nat.le_refl _) (Nat.le_refl _) (by omega) (by omega) hc1 hc2).mono ?_
      rintro e w' ⟨rfl, q, rfl⟩
      refine ⟨?_, bdN (Below.refl _ _) _⟩
      rw [List.take_length, List.take_length, show (l == m) = decide (l = m) from Bool.eq_iff_iff.2 (by simp)]
  · have hne : ¬ l = m := fun e => hlm (by rw [e])
    rw [decide_eq_false hne]
    have e0 : ((l.length : Int) != (m.length : Int)) = true := by simp; omega
    have HB := Lib.hid (Below.refl w.heap.size w)
    clear h1 h2 hc1 hc2 hne
    generalize l.length = L at *
    generalize m.length = M at *
    go_enter Try.func33, Try.ntmps33
    go_wp2_with fail
    go_ret
    exact ⟨rfl, HB.out⟩
set_option maxHeartbeats 4000000 in
theorem bsame_any (v1 v2 : Value) (l m : List Int) (t s : List Nat) (w : World) (h1 : GF w v1 l t) (h2 : GF w v2 m s) (hs1 : Small l t) (hs2 : Small m s) : Calls Try.prog 17 #[v1, v2] w fun e w' => e = .returned (.bool (decide (l = m ∧ t = s))) ∧ Below w.heap.size w w' := by
  obtain ⟨s1, s2, rfl, p1, p2⟩ := h1
  obtain ⟨s3, s4, rfl, p3, p4⟩ := h2
  obtain ⟨W, hW, x0, x1, hB⟩ := box2 w (bfB s1 s2) (bfB s3 s4)
  have HX := Lib.hid x0
  have HY := Lib.hid x1
  have HB := Lib.hid hB
  have l1 := hs1.vs
  have l2 := hs1.tb
  have l3 := hs2.vs
  have l4 := hs2.tb
  have HI := Lib.hid (gs_equal_int s1 s3 l m W (p1.below hB) (p3.below hB) (by omega) (by omega))
  have HU := Lib.hid (fun V (hV : Below w.heap.size w V) => gs_equal_u32 s2 s4 t s V (p2.below hV) (p4.below hV) (by omega) (by omega))
  have hR : decide (l = m ∧ t = s) = (decide (l = m) && decide (t = s)) := by
    by_cases h1 : l = m <;> by_cases h2 : t = s <;> simp [h1, h2]
  rw [hR]
  have c1 : s1.oneCell' = true := by obtain ⟨a, c, rfl⟩ := p1.shape; rfl
  have c2 : s2.oneCell' = true := by obtain ⟨a, c, rfl⟩ := p2.shape; rfl
  have c3 : s3.oneCell' = true := by obtain ⟨a, c, rfl⟩ := p3.shape; rfl
  have c4 : s4.oneCell' = true := by obtain ⟨a, c, rfl⟩ := p4.shape; rfl
  have y1 := (cell_in x0 0).trans rfl
  have y2 := (cell_in x0 1).trans rfl
  have y3 := (cell_in x1 0).trans rfl
  have y4 := (cell_in x1 1).trans rfl
  clear p1 p2 p3 p4 x0 x1 hB hs1 hs2 hR l1 l2 l3 l4
  generalize decide (l = m) = A at *
  generalize decide (t = s) = B at *
  go_enter Try.func17, Try.ntmps17
  go_upto_region 1 with fail
  rw [← hW]
  clear hW
  go_wp2_with fail
  refine HI.out.mono ?_
  rintro e w1 ⟨rfl, hb1⟩
  have HB1 := Lib.hid (below2 HB.out hb1)
  have HX1 := Lib.hid (kb hb1 HX.out)
  have HY1 := Lib.hid (kb hb1 HY.out)
  clear hb1 y1 y2 y3 y4 HI
  have y2 := (cell_in HX1.out 1).trans rfl
  have y4 := (cell_in HY1.out 1).trans rfl
  cases A
  · go_wp2_with fail
    go_ret
    exact ⟨rfl, HB1.out⟩
  · go_wp2_with fail
    refine (HU.out _ HB1.out).mono ?_
    rintro e w2 ⟨rfl, hb2⟩
    have HB2 := Lib.hid (below2 HB1.out hb2)
    clear hb2 y2 y4
    go_wp2_with fail
    go_ret
    exact ⟨by cases B <;> rfl, HB2.out⟩
end Go.Proofs.Ytlgoeegpgcilbaa
/-
  What package bits computes, as plain facts: the word of a number, which variables are kept, the form that comes of it.
-/
namespace Go.Proofs.Ytlgoeegpgcilbaa
namespace Bf
set_option maxRecDepth 20000

/-- Is the bit of a variable set in a number that says of the variables U whether they are all ones? -/
def bitU (U : List Nat) (n x : Nat) : Bool := (List.range U.length).any fun j => mAt U j == x && n.testBit j
theorem asg_bitU (U : List Nat) (n x : Nat) : asgF U n x = if bitU U n x then 4294967295 else 0 := rfl
theorem asg_bitU_test {U : List Nat} {n x i : Nat} (hi : i < 32) : (asgF U n x).testBit i = bitU U n x := by
  rw [asg_bitU]
  cases bitU U n x
  · simp
  · rw [if_pos rfl, ones_bit hi]
/-- The number of the table's word. -/
def overN (vs U : List Nat) (n : Nat) : Nat := maskN (fun j => bitU U n (mAt vs j)) vs.length
theorem over_lt (vs U : List Nat) (n : Nat) : overN vs U n < 2 ^ vs.length := maskN_lt _ _
theorem idx_over (vs U : List Nat) (n : Nat) {i : Nat} (hi : i < 32) : idxF vs (asgF U n) i = overN vs U n := maskN_congr _ fun _ _ => asg_bitU_test hi
theorem val_overN {f : BF} (hw : ∀ n, mAt f.tb n < 4294967296) (U : List Nat) (n : Nat) : valF f (asgF U n) = mAt f.tb (overN f.vs U n) := by
  apply Nat.eq_of_testBit_eq
  intro i
  rw [val_bit]
  by_cases hi : i < 32
  · rw [decide_eq_true hi, Bool.true_and, idx_over _ _ _ hi]
  · rw [decide_eq_false hi, Bool.false_and, Nat.testBit_lt_two_pow (Nat.lt_of_lt_of_le (hw _) (show 2 ^ 32 ≤ 2 ^ i from Nat.pow_le_pow_right (by omega) (by omega)))]
theorem bitU_at {U : List Nat} (hU : Rise U) (n : Nat) {j : Nat} (hj : j < U.length) : bitU U n (mAt U j) = n.testBit j := by
  have h := asg_bit hU n hj (i := 0) (by omega)
  rwa [asg_bitU_test (by omega)] at h
theorem bitU_out {U : List Nat} (n : Nat) {x : Nat} (hx : x ∉ U) : bitU U n x = false := by
  have h := asg_out n hx
  have h2 := asg_bitU_test (U := U) (n := n) (x := x) (i := 0) (by omega)
  rw [h] at h2
  rw [← h2]
  simp
/-- What a form's value hangs on. -/
theorem counts_iff {F : BF} (hF : Fine F) {j : Nat} (hj : j < F.vs.length) : Counts F j ↔ ∃ v v' : Nat → Nat, (∀ x, x ≠ mAt F.vs j → v x = v' x) ∧ valF F v ≠ valF F v' := by
  constructor
  · rintro ⟨n, hn, hne⟩
    refine ⟨asgF F.vs n, asgF F.vs (n ^^^ 2 ^ j), fun x hx => ?_, by rw [val_asg hF hn, val_asg hF (turn_lt hn hj)]; exact hne⟩
    by_cases hm : x ∈ F.vs
    · obtain ⟨k, hk, rfl⟩ := mAt_of_mem hm
      rw [asg_at hF.rise _ hk, asg_at hF.rise _ hk, turn_bit, decide_eq_false (show ¬ j = k from fun e => hx (by rw [e])), Bool.bne_false]
    · rw [asg_out _ hm, asg_out _ hm]
  · rintro ⟨v, v', hv, hne⟩
    refine Classical.byContradiction fun hc => hne ?_
    rw [← drop_val hj hc, ← drop_val hj hc]
    refine val_congr fun k hk => hv _ fun e => ?_
    rw [drop_len hj] at hk
    have e : mAt (F.vs.eraseIdx j) k = mAt F.vs j := e
    rw [erase_at] at e
    by_cases h : k < j
    · rw [if_pos h] at e
      have := hF.rise.inj (by omega) hj e
      omega
    · rw [if_neg h] at e
      have := hF.rise.inj (by omega) hj e
      omega
/-- The variables that count, of the first ones. -/
def keptN (F : BF) (k : Nat) : List Nat := ((List.range k).filter fun j => cntK F.tb j (2 ^ F.vs.length)).map (mAt F.vs)
theorem kept_next (F : BF) (k : Nat) : keptN F (k + 1) = if cntK F.tb k (2 ^ F.vs.length) then keptN F k ++ [mAt F.vs k] else keptN F k := by
  unfold keptN
  rw [List.range_succ, List.filter_append, List.map_append]
  cases h : cntK F.tb k (2 ^ F.vs.length)
  · simp [h]
  · simp [h]
theorem kept_len (F : BF) (k : Nat) : (keptN F k).length ≤ k := by
  unfold keptN
  rw [List.length_map]
  exact Nat.le_trans (List.length_filter_le _ _) (by simp)
theorem kept_mem {F : BF} {k x : Nat} : x ∈ keptN F k ↔ ∃ j, j < k ∧ Counts F j ∧ x = mAt F.vs j := by
  unfold keptN
  rw [List.mem_map]
  constructor
  · rintro ⟨j, hj, rfl⟩
    obtain ⟨h1, h2⟩ := List.mem_filter.1 hj
    exact ⟨j, List.mem_range.1 h1, (cnt_iff (vs := F.vs)).1 h2, rfl⟩
  · rintro ⟨j, hj, hc, rfl⟩
    exact ⟨j, List.mem_filter.2 ⟨List.mem_range.2 hj, (cnt_iff (vs := F.vs)).2 hc⟩, rfl⟩
theorem kept_rise {F : BF} (hF : Rise F.vs) {k : Nat} (hk : k ≤ F.vs.length) : Rise (keptN F k) := by
  refine rise_of ?_
  unfold keptN
  rw [List.pairwise_map]
  refine List.Pairwise.imp_of_mem ?_ (List.Pairwise.filter _ List.pairwise_lt_range)
  intro a b ha hb hab
  have := List.mem_range.1 (List.mem_filter.1 hb).1
  exact hF a b hab (by omega)
/-- The form that is right, of what a form's variables that count are, and the words where all others are 0. -/
theorem made_is {F S : BF} (hF : Fine F) (hS : Valid S) (h : ∀ v, valF S v = valF F v) : keptN F F.vs.length = S.vs ∧ S.tb = (List.range (2 ^ S.vs.length)).map fun n => mAt F.tb (overN F.vs S.vs n) := by
  have e : keptN F F.vs.length = S.vs := rise_eq (kept_rise hF.rise (Nat.le_refl _)) hS.rise fun x => by
    rw [kept_mem]
    constructor
    · rintro ⟨j, hj, hc, rfl⟩
      obtain ⟨v, v', hv, hne⟩ := (counts_iff hF hj).1 hc
      refine Classical.byContradiction fun hx => hne ?_
      rw [← h, ← h]
      exact val_congr fun k hk => hv _ fun e => hx (e ▸ mem_mAt hk)
    · intro hx
      obtain ⟨j, hj, rfl⟩ := mAt_of_mem hx
      obtain ⟨v, v', hv, hne⟩ := (counts_iff hS.toFine hj).1 (hS.counts j hj)
      rw [h, h] at hne
      have hm : mAt S.vs j ∈ F.vs := Classical.byContradiction fun hm => hne (val_congr fun k hk => hv _ fun e => hm (e ▸ mem_mAt hk))
      obtain ⟨k, hk, hke⟩ := mAt_of_mem hm
      exact ⟨k, hk, (counts_iff hF hk).2 ⟨v, v', fun x hx => hv x (by rw [← hke]; exact hx), hne⟩, hke.symm⟩
  refine ⟨e, ext_list (by simp [hS.size]) fun n hn => ?_⟩
  have hn : n < 2 ^ S.vs.length := hS.size ▸ hn
  rw [mAt_of_mem.mAt_get' (l := (List.range (2 ^ S.vs.length)).map fun n => mAt F.tb (overN F.vs S.vs n)) (by simp; exact hn)]
  simp only [List.getElem_map, List.getElem_range]
  rw [← val_overN hF.words, ← h, val_asg hS.toFine hn]
end Bf
end Go.Proofs.Ytlgoeegpgcilbaa
/-
  Package bits: the closures of over, numberOf.
-/
namespace Go.Proofs.Ytlgoeegpgcilbaa
open Go.ChangeShapes Go.WideShapes Go.ChangeAt Go.RowKit
set_option maxRecDepth 100000

theorem gc_idx {U : List Nat} (hU : Bf.Rise U) (x : Nat) : (x ∉ U ∧ Lib.idxOf (natsI U) (x : Int) = -1) ∨ ∃ j, j < U.length ∧ mAt U j = x ∧ Lib.idxOf (natsI U) (x : Int) = j := by
  have at' : ∀ j, j < U.length → (natsI U).getD j 0 = ((mAt U j : Nat) : Int) := fun j hj => natsI_iAt hj
  by_cases hx : x ∈ U
  · obtain ⟨j, hj, rfl⟩ := Bf.mAt_of_mem hx
    refine .inr ⟨j, hj, rfl, ?_⟩
    have h := Lib.idxFrom_hit ((mAt U j : Nat) : Int) (natsI U) j 0 (by rw [natsI_len]; exact hj) (at' j hj) fun i hi => by
      rw [at' i (by omega)]
      have := hU i j hi hj
      omega
    simpa [Lib.idxOf] using h
  · refine .inl ⟨hx, ?_⟩
    refine Lib.idxFrom_miss _ _ 0 fun j hj => ?_
    rw [natsI_len] at hj
    rw [at' j hj]
    intro e
    exact hx (by rw [← Int.ofNat.inj e]; exact Bf.mem_mAt hj)
theorem gindex_any (u : Value) (U : List Nat) (x : Nat) (w : World) (hU : NRow .i64 w u (natsI U)) (hl : U.length ≤ 5000) :
    Calls Try.prog 51 #[u, .int .i64 x] w fun e w' => e = .returned (.int .i64 (Lib.idxOf (natsI U) x)) ∧ w' = w := by
  obtain ⟨ao, cap, rfl⟩ := hU.shape
  by_cases h0 : U.length = 0
  · obtain rfl := List.eq_nil_of_length_eq_zero h0
    exact slices_Index_int_empty _ _ _ _
  · obtain ⟨_, b, off, rfl, hb, hc⟩ := hU.at2 rfl |>.imp id (fun h => h (by rw [natsI_len]; omega)) |> fun h => (⟨h.1, h.2⟩ : _ ∧ _)
    have h := slices_Index_int b off (natsI U).length cap (natsI U) (x : Int) w (Nat.le_refl _) (by rw [natsI_len]; omega) hc
    rw [List.take_length] at h
    exact h
theorem i64_and1 (n : Nat) (hn : n < 9223372036854775808) : bits .and .i64 (n : Int) 1 = ((n % 2 : Nat) : Int) := by
  have hx : n % 2 < 2 := Nat.mod_lt _ (by omega)
  show IntKind.i64.wrap ((BitVec.ofInt 64 (n : Int) &&& BitVec.ofInt 64 ((1 : Nat) : Int)).toNat : Int) = _
  rw [BitVec.toNat_and, ofInt_i64 n hn, ofInt_i64 1 (by omega), Nat.and_one_is_mod, wrap_fit (by omega)]
set_option maxHeartbeats 4000000 in
theorem boverbit_any (x n h b : Nat) (u : Value) (U : List Nat) (w : World) (hu : w.heap[h]? = some (.cells #[u] 22)) (hb : w.heap[b]? = some (.cells #[.int .i64 n] 3)) (hU : NRow .i64 w u (natsI U)) (hR : Bf.Rise U) (h8 : U.length ≤ 8) (hn : n < 256) :
    Calls Try.prog 50 #[.int .i64 x, .pointer (some ⟨h, 0, none⟩), .pointer (some ⟨b, 0, none⟩)] w fun e w' => e = .returned (.int .i64 ((Bf.bitU U n x).toNat : Nat)) ∧ w' = w := by
  have HI := Lib.hid (gindex_any u U x w hU (by omega))
  have y0 := (cell_in hu 0).trans rfl
  have y1 := (cell_in hb 0).trans rfl
  have hone : u.oneCell' = true := by obtain ⟨a, c, rfl⟩ := hU.shape; rfl
  obtain ⟨ao, cap, rfl⟩ := hU.shape
  rcases gc_idx hR x with ⟨hx, hi⟩ | ⟨j, hj, hx, hi⟩
  · rw [Bf.bitU_out n hx]
    rw [hi] at HI
    clear hi hx hU hu hb hR h8
    go_enter Try.func50, Try.ntmps50
    go_wp2_with fail
    refine HI.out.mono ?_
    rintro e w1 ⟨rfl, rfl⟩
    go_wp2_with fail
    go_ret
    exact ⟨rfl, rfl⟩
  · have HV : Hid ((Bf.bitU U n x).toNat = n / 2 ^ j % 2) := Lib.hid (by
      rw [← hx, Bf.bitU_at hR n hj, Nat.testBit_eq_decide_div_mod_eq]
      rcases Nat.mod_two_eq_zero_or_one (n / 2 ^ j) with h | h <;> simp [h])
    rw [HV.out]
    rw [hi] at HI
    have m1 : min j 64 = j := by omega
    have HP := Lib.hid (show (n : Int) / 2 ^ j = ((n / 2 ^ j : Nat) : Int) by simp)
    have lD : n / 2 ^ j ≤ n := Nat.div_le_self _ _
    have g1 : ¬ (j : Int) < 0 := by omega
    obtain ⟨D, hD⟩ : ∃ D, D = n / 2 ^ j := ⟨_, rfl⟩
    rw [← hD] at HP lD ⊢
    have e1 := HP.out
    have e2 := i64_and1 D (by omega)
    clear hi hx hU hu hb hR h8 hD HV hj
    go_enter Try.func50, Try.ntmps50
    go_wp2_with fail
    refine HI.out.mono ?_
    rintro e w1 ⟨rfl, rfl⟩
    go_wp2_with fail
    go_ret
    exact ⟨rfl, rfl⟩
theorem maskN_lor (P : Nat → Bool) (n : Nat) : maskN P n ||| (P n).toNat * 2 ^ n = maskN P (n + 1) := by
  apply Nat.eq_of_testBit_eq
  intro i
  rw [Nat.testBit_or, maskN_test, maskN_test]
  cases hP : P n
  · by_cases h : i = n
    · subst h; simp [hP]
    · have : decide (i < n + 1) = decide (i < n) := by simp; omega
      simp [this]
  · by_cases h : i = n
    · subst h; simp [hP]
    · have : decide (i < n + 1) = decide (i < n) := by simp; omega
      rw [this]
      simp [Ne.symm h]
set_option maxHeartbeats 4000000 in
theorem bnumover_any (uv : Value) (vs : List Nat) (U : List Nat) (u : Value) (n h b : Nat) (w : World) (hv : NRow .i64 w uv (natsI vs)) (h4 : vs.length ≤ 4) (hu : w.heap[h]? = some (.cells #[u] 22)) (hb : w.heap[b]? = some (.cells #[.int .i64 n] 3)) (hU : NRow .i64 w u (natsI U)) (hR : Bf.Rise U) (h8 : U.length ≤ 8) (hn : n < 256) :
    Calls Try.prog 27 #[uv, .func (.func 50) #[] #[.pointer (some ⟨h, 0, none⟩), .pointer (some ⟨b, 0, none⟩)]] w fun e w' => e = .returned (.int .i64 (maskN (fun j => (Bf.bitU U n (mAt vs j))) vs.length : Nat)) ∧ w' = w := by
  obtain ⟨ao, cap, rfl⟩ := hv.shape
  have HC := Lib.hid (hv.at2 rfl).2
  rw [natsI_len] at HC
  rw [natsI_len]
  have HI := Lib.hid (fun j (hj : j < vs.length) => natsI_iAt hj)
  have HCl := Lib.hid (fun x => boverbit_any x n h b u U w hu hb hU hR h8 hn)
  clear hu hb hU hR h8 hn
  have HL := Lib.hid (maskN_lor (fun j => (Bf.bitU U n (mAt vs j))))
  have HM := Lib.hid (maskN_lt (fun j => (Bf.bitU U n (mAt vs j))))
  have H0 : Hid (maskN (fun j => (Bf.bitU U n (mAt vs j))) 0 = 0) := Lib.hid rfl
  clear hv
  generalize vs.length = L at *
  go_enter Try.func27, Try.ntmps27
  go_wp2_with fail
  go_loopw [5, 6, 7, 10] (fun o _ _ i wr => ∃ k N : Nat, k ≤ L ∧ N = maskN (fun j => (Bf.bitU U n (mAt vs j))) k ∧ i = .int .i64 k ∧ o = .int .i64 N ∧ wr = w) (fun _ _ _ i _ => L - (intOf i).toNat)
  case atStart => exact ⟨0, 0, by omega, H0.out.symm, rfl, rfl, rfl⟩
  case round =>
    obtain ⟨k, N, hk, hN, rfl, rfl, rfl⟩ := hrel
    have HN := Lib.hid hN
    have lN : N < 16 := by
      have h := HM.out k
      have h2 := Nat.pow_le_pow_right (n := 2) (show 0 < 2 by omega) (show k ≤ 4 by omega)
      rw [hN]
      exact Nat.lt_of_lt_of_le h h2
    clear hN
    by_cases hlt : k < L
    · obtain ⟨b1, o1, rfl, hb1, hc1⟩ := HC.out (by omega)
      have x2 := hc1 k hlt
      rw [HI.out k hlt] at x2
      have HLk := Lib.hid (HL.out k)
      rw [← HN.out] at HLk
      have HCk := Lib.hid (HCl.out (mAt vs k))
      have m1 : min k 64 = k := by omega
      have lP : 2 ^ k ≤ 8 := Nat.pow_le_pow_right (n := 2) (by omega) (show k ≤ 3 by omega)
      have HP := Lib.hid (show (2 : Int) ^ k = ((2 ^ k : Nat) : Int) by simp)
      obtain ⟨P, hP⟩ : ∃ P, P = 2 ^ k := ⟨_, rfl⟩
      rw [← hP] at HP HLk lP
      clear hP hc1
      have e0 := HP.out
      obtain ⟨X, hX⟩ : ∃ X, X = mAt vs k := ⟨_, rfl⟩
      rw [← hX] at x2 HLk HCk
      clear hX
      have lB : (Bf.bitU U n (X)).toNat ≤ 1 := by cases (Bf.bitU U n (X)) <;> simp
      generalize (Bf.bitU U n (X)).toNat = B at *
      have lQ : B * P ≤ 8 := by
        have := Nat.mul_le_mul lB lP
        omega
      have q1 : IntKind.i64.wrap ((B : Int) * (P : Int)) = ((B * P : Nat) : Int) := by rw [wrap_fit (by rw [← Int.natCast_mul]; omega), Int.natCast_mul]
      generalize B * P = Q at *
      have q2 : bits .or .i64 (N : Int) (Q : Int) = ((N ||| Q : Nat) : Int) := i64_or_nat (by omega) (by omega)
      go_wp2_with fail
      refine HCk.out.mono ?_
      rintro e w1 ⟨rfl, rfl⟩
      go_wp2_with fail
      go_roundw
      case rel => exact ⟨k + 1, N ||| Q, by omega, HLk.out, by go_num, rfl, trivial⟩
      case measure => simp [intOf]; omega
    · obtain rfl : k = L := by omega
      go_wp2_with fail
      go_ret
      exact ⟨by rw [← HN.out]; rfl, rfl⟩

/-- The closure that over makes. -/
def OverAt (w : World) (c : Value) (vs t U : List Nat) : Prop :=
  ∃ (g h : Nat) (v1 v2 u : Value), c = .func (.func 49) #[] #[.pointer (some ⟨g, 0, none⟩), .pointer (some ⟨h, 0, none⟩)] ∧ w.heap[g]? = some (.cells #[v1, v2] 25) ∧ w.heap[h]? = some (.cells #[u] 22) ∧ GF w (.agg #[v1, v2]) (natsI vs) t ∧ NRow .i64 w u (natsI U)
theorem OverAt.below {w w' : World} {c : Value} {vs t U : List Nat} (h : OverAt w c vs t U) (hb : Below w.heap.size w w') : OverAt w' c vs t U := by
  obtain ⟨g, h, v1, v2, u, rfl, h1, h2, h3, h4⟩ := h
  exact ⟨g, h, v1, v2, u, rfl, kb hb h1, kb hb h2, h3.below hb, h4.below hb⟩
set_option maxHeartbeats 4000000 in
theorem bover_any (v u : Value) (vs t U : List Nat) (w : World) (h : GF w v (natsI vs) t) (hU : NRow .i64 w u (natsI U)) :
    Calls Try.prog 37 #[v, u] w fun e w' => ∃ c, e = .returned c ∧ OverAt w' c vs t U ∧ Below w.heap.size w w' := by
  have HF := Lib.hid h
  obtain ⟨s1, s2, rfl, hs1, hs2⟩ := h
  have HU := Lib.hid hU
  obtain ⟨ao1, cap1, rfl⟩ := hs1.shape
  obtain ⟨ao2, cap2, rfl⟩ := hs2.shape
  obtain ⟨ao3, cap3, rfl⟩ := hU.shape
  clear hs1 hs2 hU
  obtain ⟨W, hW, x0, x1, hB⟩ := box2 w (.cells #[.slice ao1 (natsI vs).length cap1, .slice ao2 (natsI t).length cap2] 25) (.cells #[.slice ao3 (natsI U).length cap3] 22)
  have HE : Hid (OverAt W (.func (.func 49) #[] #[.pointer (some ⟨w.heap.size, 0, none⟩), .pointer (some ⟨w.heap.size + 1, 0, none⟩)]) vs t U) := Lib.hid ⟨_, _, _, _, _, rfl, x0, x1, HF.out.below hB, HU.out.below hB⟩
  have HB := Lib.hid hB
  clear x0 x1 hB
  generalize (natsI vs).length = L at *
  generalize (natsI t).length = T at *
  generalize (natsI U).length = S at *
  go_enter Try.func37, Try.ntmps37
  go_upto_region 1 with fail
  rw [← hW]
  clear hW
  go_wp2_with fail
  go_ret
  exact ⟨_, rfl, HE.out, HB.out⟩
set_option maxHeartbeats 4000000 in
theorem boverat_any (c : Value) (vs t U : List Nat) (n : Nat) (w : World) (h : OverAt w c vs t U) (h4 : vs.length ≤ 4) (ht : t.length = 2 ^ vs.length) (hR : Bf.Rise U) (h8 : U.length ≤ 8) (hn : n < 256) :
    ∃ cap, c = .func (.func 49) #[] cap ∧ Calls Try.prog 49 (#[.int .i64 (n : Nat)] ++ cap) w fun e w' => e = .returned (.int .u32 (mAt t (Bf.overN vs U n) : Nat)) ∧ Below w.heap.size w w' := by
  obtain ⟨g, h, v1, v2, u, rfl, x0, x1, hF, hU⟩ := h
  refine ⟨_, rfl, ?_⟩
  show Calls Try.prog 49 #[.int .i64 (n : Nat), .pointer (some ⟨g, 0, none⟩), .pointer (some ⟨h, 0, none⟩)] w _
  obtain ⟨_, _, he, hs1, hs2⟩ := hF
  injection he with he
  obtain ⟨rfl, rfl⟩ : v1 = _ ∧ v2 = _ := by simpa using he
  have HV := Lib.hid hs1
  have HN : Hid (maskN (fun j => Bf.bitU U n (mAt vs j)) vs.length = Bf.overN vs U n) := Lib.hid rfl
  have lO := Bf.over_lt vs U n
  rw [← ht] at lO
  obtain ⟨ao1, cap1, rfl⟩ := hs1.shape
  obtain ⟨ao2, cap2, rfl⟩ := hs2.shape
  have HC2 := Lib.hid (hs2.at2 rfl).2
  rw [natsI_len] at HC2
  rw [natsI_len, natsI_len] at x0
  have HT2 := Lib.hid (fun (i : Nat) (h : i < t.length) => natsI_iAt h)
  have hb := ba (.cells #[.int .i64 n] 3) (Below.refl w.heap.size w)
  have hnb := heap_alloc_new w (.cells #[.int .i64 n] 3)
  have HNum := Lib.hid (fun V (hV : Below (w.alloc (.cells #[.int .i64 n] 3)).heap.size (w.alloc (.cells #[.int .i64 n] 3)) V) => bnumover_any _ vs U u n h w.heap.size V (HV.out.below (below2 hb hV)) h4 (kb (below2 hb hV) x1) (kb hV hnb) (hU.below (below2 hb hV)) hR h8 hn)
  rw [HN.out, natsI_len] at HNum
  have y0 := (cell_in (kb hb x0) 0).trans rfl
  have y1 := (cell_in (kb hb x0) 1).trans rfl
  generalize Bf.overN vs U n = O at *
  obtain ⟨b2, o2, rfl, hb2, hc2⟩ := HC2.out (by omega)
  have x4 := (hb.cell (p := ⟨b2, o2 + O, none⟩) hb2).trans (hc2 O lO)
  rw [HT2.out O lO] at x4
  have HB := Lib.hid hb
  clear hb hnb hc2 hU hs1 hs2 he x0 x1 ht HV HN hR
  generalize mAt t O = Z at *
  generalize t.length = T at *
  generalize vs.length = LL at *
  obtain ⟨W, hW⟩ : ∃ W, W = w.alloc (.cells #[.int .i64 n] 3) := ⟨_, rfl⟩
  rw [← hW] at HB HNum y0 y1 x4
  go_enter Try.func49, Try.ntmps49
  go_upto_region 1 with fail
  rw [← hW]
  clear hW HT2 hb2 h4 h8
  go_region_with (go_at_call 27; refine (HNum.out _ (by go_grown)).mono ?_; rintro e w1 ⟨rfl, rfl⟩)
  all_goals (go_wp2_with fail; go_ret; exact ⟨rfl, bdN HB.out 1⟩)
end Go.Proofs.Ytlgoeegpgcilbaa
/-
  Package bits: Eval.
-/
namespace Go.Proofs.Ytlgoeegpgcilbaa
open Go.ChangeShapes Go.WideShapes Go.ChangeAt Go.RowKit
set_option maxRecDepth 100000

theorem ofInt_u32b (a : Nat) (ha : a < 4294967296) : (BitVec.ofInt 32 (a : Int)).toNat = a := by
  rw [BitVec.ofInt_natCast, BitVec.toNat_ofNat]
  exact Nat.mod_eq_of_lt (by omega)
theorem u32_wrap_fit {n : Nat} (h : n < 4294967296) : IntKind.u32.wrap (n : Int) = n := by rw [IntKind.wrap_u32']; omega
theorem u32_and1b (n : Nat) (hn : n < 4294967296) : bits .and .u32 (n : Int) 1 = ((n % 2 : Nat) : Int) := by
  have hx : n % 2 < 2 := Nat.mod_lt _ (by omega)
  show IntKind.u32.wrap ((BitVec.ofInt 32 (n : Int) &&& BitVec.ofInt 32 ((1 : Nat) : Int)).toNat : Int) = _
  rw [BitVec.toNat_and, ofInt_u32b n hn, ofInt_u32b 1 (by omega), Nat.and_one_is_mod, u32_wrap_fit (by omega)]
set_option maxHeartbeats 4000000 in
theorem bevalbit_any (x i h b : Nat) (V : List Nat) (w : World) (hx : x < 34) (hu : w.heap[h]? = some (rowB V)) (hb : w.heap[b]? = some (.cells #[.int .i64 i] 3)) (hV : VOk V) (hi : i < 32) :
    Calls Try.prog 28 #[.int .i64 x, .pointer (some ⟨h, 0, none⟩), .pointer (some ⟨b, 0, none⟩)] w fun e w' => e = .returned (.int .i64 ((mAt V x).testBit i).toNat) ∧ Below w.heap.size w w' := by
  have y0 : w.cell? ⟨h, x, none⟩ = _ := cell_in hu x
  rw [numsC_at (by rw [hV.1]; omega)] at y0
  have y1 := (cell_in hb 0).trans rfl
  have lX : mAt V x < 4294967296 := mAt_in hV.2 (by omega) x
  have HV : Hid (((mAt V x).testBit i).toNat = mAt V x / 2 ^ i % 2) := Lib.hid (by
    rw [Nat.testBit_eq_decide_div_mod_eq]
    rcases Nat.mod_two_eq_zero_or_one (mAt V x / 2 ^ i) with h | h <;> simp [h])
  rw [HV.out]
  generalize mAt V x = X at *
  have m1 : min i 32 = i := by omega
  have HP := Lib.hid (show (X : Int) / 2 ^ i = ((X / 2 ^ i : Nat) : Int) by simp)
  have lD : X / 2 ^ i ≤ X := Nat.div_le_self _ _
  obtain ⟨D, hD⟩ : ∃ D, D = X / 2 ^ i := ⟨_, rfl⟩
  rw [← hD] at HP lD ⊢
  have e1 := HP.out
  have e2 := u32_and1b D (by omega)
  have e3 : IntKind.i64.wrap ((D : Int) % 2) = (D : Int) % 2 := wrap_fit (by omega)
  clear hu hb hV hD HV
  go_enter Try.func28, Try.ntmps28
  go_wp2_with (go_quiet (fail))
  go_ret
  exact ⟨rfl, bdN (Below.refl _ _) _⟩
set_option maxHeartbeats 4000000 in
theorem bnumeval_any (uv : Value) (vs : List Nat) (V : List Nat) (q h b : Nat) (w : World) (hv : NRow .i64 w uv (natsI vs)) (h4 : vs.length ≤ 4) (hs : ∀ x ∈ vs, x < 34) (hu : w.heap[h]? = some (rowB V)) (hb : w.heap[b]? = some (.cells #[.int .i64 q] 3)) (hV : VOk V) (hi : q < 32) :
    Calls Try.prog 27 #[uv, .func (.func 28) #[] #[.pointer (some ⟨h, 0, none⟩), .pointer (some ⟨b, 0, none⟩)]] w fun e w' => e = .returned (.int .i64 (maskN (fun j => ((mAt V (mAt vs j)).testBit q)) vs.length : Nat)) ∧ Below w.heap.size w w' := by
  obtain ⟨ao, cap, rfl⟩ := hv.shape
  have HC := Lib.hid (hv.at2 rfl).2
  rw [natsI_len] at HC
  rw [natsI_len]
  have HI := Lib.hid (fun j (hj : j < vs.length) => natsI_iAt hj)
  have HCl := Lib.hid (fun W (hW : Below w.heap.size w W) x (hx : x < 34) => bevalbit_any x q h b V W hx (kb hW hu) (kb hW hb) hV hi)
  have HSm := Lib.hid (fun j (hj : j < vs.length) => hs _ (Bf.mem_mAt hj))
  clear hu hb hV hi hs
  have HL := Lib.hid (maskN_lor (fun j => ((mAt V (mAt vs j)).testBit q)))
  have HM := Lib.hid (maskN_lt (fun j => ((mAt V (mAt vs j)).testBit q)))
  have H0 : Hid (maskN (fun j => ((mAt V (mAt vs j)).testBit q)) 0 = 0) := Lib.hid rfl
  clear hv
  generalize vs.length = L at *
  go_enter Try.func27, Try.ntmps27
  go_wp2_with fail
  go_loopw [5, 6, 7, 10] (fun o _ _ i wr => ∃ k N : Nat, k ≤ L ∧ N = maskN (fun j => ((mAt V (mAt vs j)).testBit q)) k ∧ i = .int .i64 k ∧ o = .int .i64 N ∧ Below w.heap.size w wr) (fun _ _ _ i _ => L - (intOf i).toNat)
  case atStart => exact ⟨0, 0, by omega, H0.out.symm, rfl, rfl, Below.refl _ _⟩
  case round =>
    obtain ⟨k, N, hk, hN, rfl, rfl, hBr⟩ := hrel
    have HBr := Lib.hid hBr
    have HN := Lib.hid hN
    have lN : N < 16 := by
      have h := HM.out k
      have h2 := Nat.pow_le_pow_right (n := 2) (show 0 < 2 by omega) (show k ≤ 4 by omega)
      rw [hN]
      exact Nat.lt_of_lt_of_le h h2
    clear hN
    by_cases hlt : k < L
    · obtain ⟨b1, o1, rfl, hb1, hc1⟩ := HC.out (by omega)
      have x2 := (hBr.cell (p := ⟨b1, o1 + k, none⟩) hb1).trans (hc1 k hlt)
      rw [HI.out k hlt] at x2
      have HLk := Lib.hid (HL.out k)
      rw [← HN.out] at HLk
      have HCk := Lib.hid (HCl.out _ HBr.out (mAt vs k) (HSm.out k hlt))
      have m1 : min k 64 = k := by omega
      have lP : 2 ^ k ≤ 8 := Nat.pow_le_pow_right (n := 2) (by omega) (show k ≤ 3 by omega)
      have HP := Lib.hid (show (2 : Int) ^ k = ((2 ^ k : Nat) : Int) by simp)
      obtain ⟨P, hP⟩ : ∃ P, P = 2 ^ k := ⟨_, rfl⟩
      rw [← hP] at HP HLk lP
      clear hP hc1 hBr
      have e0 := HP.out
      obtain ⟨X, hX⟩ : ∃ X, X = mAt vs k := ⟨_, rfl⟩
      rw [← hX] at x2 HLk HCk
      clear hX
      have lB : ((mAt V (X)).testBit q).toNat ≤ 1 := by cases ((mAt V (X)).testBit q) <;> simp
      generalize ((mAt V (X)).testBit q).toNat = B at *
      have lQ : B * P ≤ 8 := by
        have := Nat.mul_le_mul lB lP
        omega
      have q1 : IntKind.i64.wrap ((B : Int) * (P : Int)) = ((B * P : Nat) : Int) := by rw [wrap_fit (by rw [← Int.natCast_mul]; omega), Int.natCast_mul]
      generalize B * P = Q at *
      have q2 : bits .or .i64 (N : Int) (Q : Int) = ((N ||| Q : Nat) : Int) := i64_or_nat (by omega) (by omega)
      go_wp2_with fail
      refine HCk.out.mono ?_
      rintro e w1 ⟨rfl, hb9⟩
      have HB9 := Lib.hid (below2 HBr.out hb9)
      clear hb9 x2
      go_wp2_with fail
      go_roundw
      case rel => exact ⟨k + 1, N ||| Q, by omega, HLk.out, by go_num, rfl, HB9.out⟩
      case measure => simp [intOf]; omega
    · obtain rfl : k = L := by omega
      clear hBr
      go_wp2_with fail
      go_ret
      exact ⟨by rw [← HN.out]; rfl, HBr.out⟩

theorem mask_or (t : List Nat) (I : Nat → Nat) (k : Nat) : maskN (fun i => (mAt t (I i)).testBit i) k ||| (mAt t (I k) &&& 2 ^ k) = maskN (fun i => (mAt t (I i)).testBit i) (k + 1) := by
  rw [← maskN_lor]
  congr 1
  apply Nat.eq_of_testBit_eq
  intro i
  rw [Nat.testBit_and, Nat.testBit_two_pow]
  by_cases h : k = i
  · subst h
    cases h2 : (mAt t (I k)).testBit k <;> simp
  · rw [decide_eq_false h, Bool.and_false]
    cases (mAt t (I k)).testBit k
    · simp
    · simp [h]
theorem u32_or_nat2 {a b : Nat} (ha : a < 4294967296) (hb : b < 4294967296) : bits .or .u32 (a : Int) (b : Int) = ((a ||| b : Nat) : Int) := by
  have hx : a ||| b < 2 ^ 32 := Nat.or_lt_two_pow ha hb
  show IntKind.u32.wrap ((BitVec.ofInt 32 (a : Int) ||| BitVec.ofInt 32 (b : Int)).toNat : Int) = _
  rw [BitVec.toNat_or, ofInt_u32b a ha, ofInt_u32b b hb, u32_wrap_fit hx]
theorem u32_and_nat2 {a b : Nat} (ha : a < 4294967296) (hb : b < 4294967296) : bits .and .u32 (a : Int) (b : Int) = ((a &&& b : Nat) : Int) := by
  have hx : a &&& b < 2 ^ 32 := Nat.and_lt_two_pow _ hb
  show IntKind.u32.wrap ((BitVec.ofInt 32 (a : Int) &&& BitVec.ofInt 32 (b : Int)).toNat : Int) = _
  rw [BitVec.toNat_and, ofInt_u32b a ha, ofInt_u32b b hb, u32_wrap_fit hx]
set_option maxHeartbeats 4000000 in
theorem beval_any (v : Value) (l : List Int) (t V : List Nat) (w : World) (h : GF w v l t) (hs : Small l t) (hV : VOk V) : Calls Try.prog 13 #[v, formV V] w fun e w' => e = .returned (.tuple #[.int .u32 (evalB l t (mAt V) : Nat), .bool (rightB l t)]) ∧ Below w.heap.size w w' := by
  have HG := Lib.hid h
  have HS := Lib.hid hs
  have HV := Lib.hid hV
  obtain ⟨s1, s2, rfl, hs1, hs2⟩ := h
  obtain ⟨ao1, cap1, rfl⟩ := hs1.shape
  obtain ⟨ao2, cap2, rfl⟩ := hs2.shape
  clear hs1 hs2 hs hV
  obtain ⟨W, hW, x0, x1, hB⟩ := box2 w (.cells #[.slice ao1 l.length cap1, .slice ao2 (natsI t).length cap2] 25) (rowB V)
  have HX := Lib.hid x0
  have HY := Lib.hid x1
  have HB := Lib.hid hB
  have y1 := (cell_in x0 0).trans rfl
  have y2 := (cell_in x0 1).trans rfl
  have HRt := Lib.hid (bright_any _ l t W (HG.out.below hB) HS.out)
  clear x0 x1 hB
  obtain ⟨E, hE⟩ : ∃ E, E = evalB l t (mAt V) := ⟨_, rfl⟩
  obtain ⟨R, hR⟩ : ∃ R, R = rightB l t := ⟨_, rfl⟩
  rw [← hR] at HRt ⊢
  rw [← hE]
  have HE := Lib.hid hE
  have HR := Lib.hid hR
  clear hE hR
  go_enter Try.func13, Try.ntmps13
  go_upto_region 1 with fail
  rw [← hW]
  clear hW
  go_wp2_with fail
  refine HRt.out.mono ?_
  rintro e w1 ⟨rfl, hb1⟩
  have HB1 := Lib.hid (below2 HB.out hb1)
  have HX1 := Lib.hid (kb hb1 HX.out)
  have HY1 := Lib.hid (kb hb1 HY.out)
  clear hb1 y1 y2 HRt
  cases R
  · have HE0 : Hid (E = 0) := Lib.hid (by rw [HE.out, evalB, if_neg (by rw [← HR.out]; decide)])
    go_wp2_with fail
    go_ret2
    exact ⟨by rw [HE0.out]; rfl, HB1.out⟩
  · have hr := right_yes HR.out.symm
    obtain ⟨hv, hvs⟩ := gright_of HS.out.words hr
    have HE0 : Hid (E = Bf.valF (bfOf l t) (mAt V)) := Lib.hid (by rw [HE.out, evalB, if_pos HR.out.symm])
    have HF := Lib.hid hv
    clear hr
    obtain ⟨f, hf⟩ : ∃ f, f = bfOf l t := ⟨_, rfl⟩
    have hft : f.tb = t := by rw [hf]; rfl
    rw [← hf] at HE0 HF hv hvs
    subst hft hvs
    clear hf HR HE HS
    have HSz := Lib.hid hv.size
    have H4 := Lib.hid hv.most
    have HSm : Hid (∀ x ∈ f.vs, x < 34) := Lib.hid (fun x hx => by obtain ⟨j, hj, rfl⟩ := Bf.mAt_of_mem hx; exact hv.small j hj)
    obtain ⟨_, _, he, hs1, hs2⟩ := HG.out
    injection he with he
    simp only [Array.mk.injEq, List.cons.injEq, and_true] at he
    obtain ⟨rfl, rfl⟩ := he
    have HN1 := Lib.hid hs1
    obtain ⟨_, b2, o2, rfl, hb2, hc2⟩ := (hs2.at2 rfl).imp id fun h => h (by rw [natsI_len, hv.size]; exact Nat.two_pow_pos _)
    have HC2 : Hid (∀ i, i < f.tb.length → w.cell? ⟨b2, o2 + i, none⟩ = some (.int .u32 (mAt f.tb i : Nat))) := Lib.hid (fun i hi => (hc2 i (by rw [natsI_len]; exact hi)).trans (by rw [natsI_iAt hi]))
    have HW := Lib.hid hv.words
    have HIx := Lib.hid (fun k => Bf.idx_lt f.vs (mAt V) k)
    clear hs1 hs2 hc2 hv HF HG
    rw [natsI_len, natsI_len] at HX1
    rw [natsI_len] at HN1
    have hsW := HB1.out.size
    go_wp2_with fail
    go_loopw [6, 7, 8, 12] (fun o _ _ i wr => ∃ k O : Nat, k ≤ 32 ∧ O = maskN (fun i => (mAt f.tb (Bf.idxF f.vs (mAt V) i)).testBit i) k ∧ i = .int .i64 k ∧ o = .int .u32 O ∧ Below w1.heap.size w1 wr) (fun _ _ _ i _ => 32 - (intOf i).toNat)
    case atStart => exact ⟨0, 0, by omega, rfl, rfl, rfl, Below.refl _ _⟩
    case round =>
      obtain ⟨k, O, hk, hO, rfl, rfl, hBr⟩ := hrel
      have HO := Lib.hid hO
      have HBr := Lib.hid hBr
      have lO : O < 4294967296 := by
        have h := maskN_lt (fun i => (mAt f.tb (Bf.idxF f.vs (mAt V) i)).testBit i) k
        have h2 := Nat.pow_le_pow_right (n := 2) (show 0 < 2 by omega) hk
        rw [hO]
        exact Nat.lt_of_lt_of_le h h2
      clear hO hBr
      by_cases hlt : k < 32
      · have HX2 := Lib.hid (kb HBr.out HX1.out)
        have HY2 := Lib.hid (kb HBr.out HY1.out)
        have HBw := Lib.hid (below2 HB1.out HBr.out)
        have hn1 := heap_alloc_new wr (.cells #[.int .i64 k] 3)
        have hb2' := ba (.cells #[.int .i64 k] 3) (Below.refl wr.heap.size wr)
        have y1 := (cell_in (kb hb2' HX2.out) 0).trans rfl
        have HNum := Lib.hid (bnumeval_any _ f.vs V k (w.heap.size + 1) wr.heap.size _ (HN1.out.below (below2 HBw.out hb2')) H4.out HSm.out (kb hb2' HY2.out) hn1 HV.out hlt)
        rw [show maskN (fun j => ((mAt V (mAt f.vs j)).testBit k)) f.vs.length = Bf.idxF f.vs (mAt V) k from rfl] at HNum
        have lN := HIx.out k
        rw [← HSz.out] at lN
        have HMk := Lib.hid (mask_or f.tb (Bf.idxF f.vs (mAt V)) k)
        rw [← HO.out] at HMk
        obtain ⟨N, hN⟩ : ∃ N, N = Bf.idxF f.vs (mAt V) k := ⟨_, rfl⟩
        rw [← hN] at HNum lN HMk
        have HX3 := Lib.hid (kb hb2' HX2.out)
        have HN3 := Lib.hid hn1
        have HB3 := Lib.hid hb2'
        have HB4 := Lib.hid (below2 HBr.out hb2')
        clear hN hn1 hb2'
        go_wp2_with fail
        refine HNum.out.mono ?_
        rintro e w2 ⟨rfl, hb3⟩
        have y1 := (cell_in (kb hb3 HX3.out) 0).trans rfl
        have y2 := (cell_in (kb hb3 HX3.out) 1).trans rfl
        have y3 := (cell_in (kb hb3 HN3.out) 0).trans rfl
        have HB5 := Lib.hid (below2 HB4.out hb3)
        have x4 := ((below2 HB1.out HB5.out).cell (p := ⟨b2, o2 + N, none⟩) hb2).trans (HC2.out N lN)
        have lZ := HW.out N
        clear hb3 y1
        generalize mAt f.tb N = Z at *
        have m1 : min k 32 = k := by omega
        have lP : 2 ^ k ≤ 2147483648 := Nat.pow_le_pow_right (n := 2) (by omega) (show k ≤ 31 by omega)
        have HP := Lib.hid (show (2 : Int) ^ k = ((2 ^ k : Nat) : Int) by simp)
        obtain ⟨P, hP⟩ : ∃ P, P = 2 ^ k := ⟨_, rfl⟩
        rw [← hP] at HP HMk lP
        clear hP
        have e0 := HP.out
        have e1 : IntKind.u32.wrap (P : Int) = (P : Int) := u32_wrap_fit (by omega)
        have e2 : bits .and .u32 (Z : Int) (P : Int) = ((Z &&& P : Nat) : Int) := u32_and_nat2 lZ (by omega)
        have lQ : Z &&& P < 4294967296 := Nat.and_lt_two_pow (n := 32) _ (by omega)
        generalize Z &&& P = Q at *
        have e3 : bits .or .u32 (O : Int) (Q : Int) = ((O ||| Q : Nat) : Int) := u32_or_nat2 lO lQ
        generalize f.tb.length = T at *
        go_wp2_with (go_quiet (fail))
        go_roundw
        case rel => exact ⟨k + 1, O ||| Q, by omega, HMk.out, by go_num, rfl, bdN HB5.out _⟩
        case measure => simp [intOf]; omega
      · obtain rfl : k = 32 := by omega
        go_wp2_with fail
        go_ret2
        exact ⟨by rw [HE0.out, Bf.valF, ← HO.out]; rfl, below2 HB1.out HBr.out⟩
end Go.Proofs.Ytlgoeegpgcilbaa
/-
  Package bits: table, made.
-/
namespace Go.Proofs.Ytlgoeegpgcilbaa
open Go.ChangeShapes Go.WideShapes Go.ChangeAt Go.RowKit
set_option maxRecDepth 100000

def tabN (A : Nat → Nat) (P k : Nat) : List Nat := (List.range P).map fun n => if n < k then A n else 0
theorem tab_len (A : Nat → Nat) (P k : Nat) : (tabN A P k).length = P := by simp [tabN]
theorem tab_zero (A : Nat → Nat) (P : Nat) : tabN A P 0 = List.replicate P 0 := by
  refine List.ext_getElem (by simp [tabN]) fun i h1 h2 => ?_
  simp [tabN]
theorem tab_set {A : Nat → Nat} {P k : Nat} (_hk : k < P) : (tabN A P k).set k (A k) = tabN A P (k + 1) := by
  refine List.ext_getElem (by simp [tabN]) fun i h1 h2 => ?_
  simp only [tabN, List.getElem_set, List.getElem_map, List.getElem_range]
  by_cases e : k = i
  · subst e
    rw [if_pos rfl, if_pos (by omega)]
  · rw [if_neg e]
    by_cases h : i < k
    · rw [if_pos h, if_pos (by omega)]
    · rw [if_neg h, if_neg (by omega)]
theorem tab_all (A : Nat → Nat) (P : Nat) : tabN A P P = (List.range P).map A := by
  refine List.ext_getElem (by simp [tabN]) fun i h1 h2 => ?_
  have : i < P := by simpa [tabN] using h1
  simp [tabN, this]
theorem mkP {P : Nat} (hP : P ≤ 5000) (W : World) : (Instr.makeSlice 23 (.int .i64 P) (.int .i64 P)).run Try.prog W = .ok (.slice (some ⟨W.heap.size, 0, none⟩) P P) (W.alloc (.cells (numsC (List.replicate P 0)) 26)) := by
  have h := run_make_row' (P := Try.prog) 23 26 (.int .u32 0) 4 Try.underlying23 infoN rfl .i64 .i64 P (by omega) (by omega) W
  have e : madeCells #[Value.int .u32 0] P = numsC (List.replicate P 0) := Array.toList_inj.1 (by rw [toList_madeCells_one]; simp [numsC, ucells])
  rw [e] at h
  exact h
theorem NRow.blockU {w : World} {g n cap : Nat} {l : List Nat} {t : TypeId} {fr : Nat × Nat} (h : w.heap[g]? = some (.cells (numsC l) t fr)) (hn : l.length = n) : NRow .u32 w (.slice (some ⟨g, 0, none⟩) n cap) (natsI l) := by
  subst hn
  exact ⟨_, _, by rw [natsI_len], .inr ⟨g, 0, rfl, lt_of_block h, fun i hi => by
    rw [natsI_len] at hi
    rw [natsI_at, Nat.zero_add, cell_in h, numsC_at hi]⟩⟩
set_option maxHeartbeats 4000000 in
theorem btabover_any (count : Nat) (A : Nat → Nat) (g h : Nat) (w : World) (h4 : count ≤ 4) (hcl : ∀ V n, Below w.heap.size w V → n < 2 ^ count → Calls Try.prog 49 #[.int .i64 (n : Nat), .pointer (some ⟨g, 0, none⟩), .pointer (some ⟨h, 0, none⟩)] V fun e w' => e = .returned (.int .u32 (A n : Nat)) ∧ Below V.heap.size V w') :
    Calls Try.prog 52 #[.int .i64 count, .func (.func 49) #[] #[.pointer (some ⟨g, 0, none⟩), .pointer (some ⟨h, 0, none⟩)]] w fun e w' => ∃ u, e = .returned u ∧ NRow .u32 w' u (natsI ((List.range (2 ^ count)).map A)) ∧ Below w.heap.size w w' := by
  have HCl := Lib.hid hcl
  have lP : 2 ^ count ≤ 16 := Nat.pow_le_pow_right (n := 2) (by omega) (show count ≤ 4 from h4)
  have HP := Lib.hid (show (2 : Int) ^ count = ((2 ^ count : Nat) : Int) by simp)
  have m1 : min count 64 = count := by omega
  clear hcl
  obtain ⟨P, hP⟩ : ∃ P, P = 2 ^ count := ⟨_, rfl⟩
  rw [← hP] at HCl HP lP ⊢
  clear hP
  have HA := Lib.hid (tab_all A P)
  have HS := Lib.hid (fun k => @tab_set A P k)
  have HL := Lib.hid (tab_len A P)
  have hmk := mkP (P := P) (by omega)
  rw [← tab_zero A P] at hmk
  have e0 := HP.out
  have hn1 := heap_alloc_new w (.cells (numsC (tabN A P 0)) 26)
  have hb1 := ba (.cells (numsC (tabN A P 0)) 26) (Below.refl w.heap.size w)
  have HN1 := Lib.hid hn1
  have HB1 := Lib.hid hb1
  clear hn1 hb1
  go_enter Try.func52, Try.ntmps52
  go_upto_region 2 with fail
  obtain ⟨W, hW⟩ : ∃ W, W = w.alloc (.cells (numsC (tabN A P 0)) 26) := ⟨_, rfl⟩
  rw [← hW] at HN1 HB1 ⊢
  clear hW hmk e0
  go_wp2_with fail
  go_loopw [6, 12] (fun _ i wr => ∃ k : Nat, k ≤ P ∧ i = .int .i64 k ∧ wr.heap[w.heap.size]? = some (.cells (numsC (tabN A P k)) 26) ∧ Below w.heap.size w wr) (fun _ i _ => P - (intOf i).toNat)
  case atStart => exact ⟨0, by omega, rfl, HN1.out, HB1.out⟩
  case round =>
    obtain ⟨k, hk, rfl, hN, hB⟩ := hrel
    have HN := Lib.hid hN
    have HB := Lib.hid hB
    have hlw := lt_of_block hN
    clear hN hB
    by_cases hlt : k < P
    · have hln : k < (tabN A P k).length := by rw [HL.out]; exact hlt
      have HSk := Lib.hid (HS.out k hlt)
      go_wp2_with fail
      refine (HCl.out _ k HB.out hlt).mono ?_
      rintro e w2 ⟨rfl, hb2⟩
      have HN2 := Lib.hid (kb hb2 HN.out)
      have HB2 := Lib.hid (below2 HB.out hb2)
      clear hb2
      generalize A k = Z at *
      go_wp2_with (refine st_num HN2.out hln rfl rfl rfl rfl ?_; intro W3 hp3; have HP3 := Lib.hid hp3; clear hp3)
      go_roundw
      case rel => exact ⟨k + 1, by omega, by go_num, by rw [HP3.out.row, HSk.out], HP3.out.below HB2.out (Nat.le_refl _)⟩
      case measure => simp [intOf]; omega
    · obtain rfl : k = P := by omega
      have HE := Lib.hid (NRow.blockU (cap := k) HN.out (HL.out k))
      rw [HA.out] at HE
      go_wp2_with fail
      go_ret
      exact ⟨_, rfl, HE.out, HB.out⟩

set_option maxHeartbeats 4000000 in
theorem btabdo_any (count : Nat) (A : Nat → Nat) (g h d : Nat) (w : World) (h4 : count ≤ 4) (hcl : ∀ V n, Below w.heap.size w V → n < 2 ^ count → Calls Try.prog 39 #[.int .i64 (n : Nat), .pointer (some ⟨g, 0, none⟩), .pointer (some ⟨h, 0, none⟩), .pointer (some ⟨d, 0, none⟩)] V fun e w' => e = .returned (.int .u32 (A n : Nat)) ∧ Below V.heap.size V w') :
    Calls Try.prog 52 #[.int .i64 count, .func (.func 39) #[] #[.pointer (some ⟨g, 0, none⟩), .pointer (some ⟨h, 0, none⟩), .pointer (some ⟨d, 0, none⟩)]] w fun e w' => ∃ u, e = .returned u ∧ NRow .u32 w' u (natsI ((List.range (2 ^ count)).map A)) ∧ Below w.heap.size w w' := by
  have HCl := Lib.hid hcl
  have lP : 2 ^ count ≤ 16 := Nat.pow_le_pow_right (n := 2) (by omega) (show count ≤ 4 from h4)
  have HP := Lib.hid (show (2 : Int) ^ count = ((2 ^ count : Nat) : Int) by simp)
  have m1 : min count 64 = count := by omega
  clear hcl
  obtain ⟨P, hP⟩ : ∃ P, P = 2 ^ count := ⟨_, rfl⟩
  rw [← hP] at HCl HP lP ⊢
  clear hP
  have HA := Lib.hid (tab_all A P)
  have HS := Lib.hid (fun k => @tab_set A P k)
  have HL := Lib.hid (tab_len A P)
  have hmk := mkP (P := P) (by omega)
  rw [← tab_zero A P] at hmk
  have e0 := HP.out
  have hn1 := heap_alloc_new w (.cells (numsC (tabN A P 0)) 26)
  have hb1 := ba (.cells (numsC (tabN A P 0)) 26) (Below.refl w.heap.size w)
  have HN1 := Lib.hid hn1
  have HB1 := Lib.hid hb1
  clear hn1 hb1
  go_enter Try.func52, Try.ntmps52
  go_upto_region 2 with fail
  obtain ⟨W, hW⟩ : ∃ W, W = w.alloc (.cells (numsC (tabN A P 0)) 26) := ⟨_, rfl⟩
  rw [← hW] at HN1 HB1 ⊢
  clear hW hmk e0
  go_wp2_with fail
  go_loopw [6, 12] (fun _ i wr => ∃ k : Nat, k ≤ P ∧ i = .int .i64 k ∧ wr.heap[w.heap.size]? = some (.cells (numsC (tabN A P k)) 26) ∧ Below w.heap.size w wr) (fun _ i _ => P - (intOf i).toNat)
  case atStart => exact ⟨0, by omega, rfl, HN1.out, HB1.out⟩
  case round =>
    obtain ⟨k, hk, rfl, hN, hB⟩ := hrel
    have HN := Lib.hid hN
    have HB := Lib.hid hB
    have hlw := lt_of_block hN
    clear hN hB
    by_cases hlt : k < P
    · have hln : k < (tabN A P k).length := by rw [HL.out]; exact hlt
      have HSk := Lib.hid (HS.out k hlt)
      go_wp2_with fail
      refine (HCl.out _ k HB.out hlt).mono ?_
      rintro e w2 ⟨rfl, hb2⟩
      have HN2 := Lib.hid (kb hb2 HN.out)
      have HB2 := Lib.hid (below2 HB.out hb2)
      clear hb2
      generalize A k = Z at *
      go_wp2_with (refine st_num HN2.out hln rfl rfl rfl rfl ?_; intro W3 hp3; have HP3 := Lib.hid hp3; clear hp3)
      go_roundw
      case rel => exact ⟨k + 1, by omega, by go_num, by rw [HP3.out.row, HSk.out], HP3.out.below HB2.out (Nat.le_refl _)⟩
      case measure => simp [intOf]; omega
    · obtain rfl : k = P := by omega
      have HE := Lib.hid (NRow.blockU (cap := k) HN.out (HL.out k))
      rw [HA.out] at HE
      go_wp2_with fail
      go_ret
      exact ⟨_, rfl, HE.out, HB.out⟩

/-! ### made -/
theorem OverAt.calls {w : World} {c : Value} {vs t U : List Nat} (h : OverAt w c vs t U) (h4 : vs.length ≤ 4) (ht : t.length = 2 ^ vs.length) (hR : Bf.Rise U) (h8 : U.length ≤ 8) :
    ∃ g h : Nat, c = .func (.func 49) #[] #[.pointer (some ⟨g, 0, none⟩), .pointer (some ⟨h, 0, none⟩)] ∧ ∀ V (n : Nat), Below w.heap.size w V → n < 256 → Calls Try.prog 49 #[.int .i64 (n : Nat), .pointer (some ⟨g, 0, none⟩), .pointer (some ⟨h, 0, none⟩)] V fun e w' => e = .returned (.int .u32 (mAt t (Bf.overN vs U n) : Nat)) ∧ Below V.heap.size V w' := by
  have hh := h
  obtain ⟨g, k, _, _, _, rfl, _⟩ := h
  refine ⟨g, k, rfl, fun V n hV hn => ?_⟩
  obtain ⟨cap, he, hc⟩ := boverat_any _ vs t U n V (hh.below hV) h4 ht hR h8 hn
  injection he with _ _ he
  subst he
  exact hc
set_option maxHeartbeats 8000000 in
theorem bmade_any (uU : Value) (U : List Nat) (A : Nat → Nat) (S : Bf.BF) (g h d : Nat) (w : World) (hU : NRow .i64 w uU (natsI U)) (h4 : U.length ≤ 4)
    (hF : Bf.Fine ⟨U, (List.range (2 ^ U.length)).map A⟩) (hS : Bf.Valid S) (hv : ∀ v, Bf.valF S v = Bf.valF ⟨U, (List.range (2 ^ U.length)).map A⟩ v)
    (hcl : ∀ V n, Below w.heap.size w V → n < 2 ^ U.length → Calls Try.prog 39 #[.int .i64 (n : Nat), .pointer (some ⟨g, 0, none⟩), .pointer (some ⟨h, 0, none⟩), .pointer (some ⟨d, 0, none⟩)] V fun e w' => e = .returned (.int .u32 (A n : Nat)) ∧ Below V.heap.size V w') :
    Calls Try.prog 38 #[uU, .func (.func 39) #[] #[.pointer (some ⟨g, 0, none⟩), .pointer (some ⟨h, 0, none⟩), .pointer (some ⟨d, 0, none⟩)]] w fun e w' => ∃ v, e = .returned v ∧ GF w' v (natsI S.vs) S.tb ∧ Below w.heap.size w w' := by
  have HM := Lib.hid (Bf.made_is hF hS hv)
  have HFi := Lib.hid hF
  have hSm := hS.most
  have HSr := Lib.hid hS.rise
  have HU := Lib.hid hU
  obtain ⟨T, hT⟩ : ∃ T, T = (List.range (2 ^ U.length)).map A := ⟨_, rfl⟩
  have hTl : T.length = 2 ^ U.length := by rw [hT]; simp
  rw [← hT] at HM HFi
  have hbA := ba (bfB (.slice none 0 0) (.slice none 0 0)) (Below.refl w.heap.size w)
  have HTab := Lib.hid (btabdo_any U.length A g h d (w.alloc (bfB (.slice none 0 0) (.slice none 0 0))) h4 fun V n hV hn => hcl V n (below2 hbA hV) hn)
  rw [← hT] at HTab
  have hn0 := heap_alloc_new w (bfB (.slice none 0 0) (.slice none 0 0))
  have HK := Lib.hid (Bf.kept_next ⟨U, T⟩)
  have HKl := Lib.hid (Bf.kept_len ⟨U, T⟩)
  have HTl := Lib.hid hTl
  obtain ⟨aoU, capU, rfl⟩ := hU.shape
  have HUc := Lib.hid (hU.at2 rfl).2
  have HUi := Lib.hid (fun j (hj : j < U.length) => natsI_iAt hj)
  rw [natsI_len] at HU HUc ⊢
  obtain ⟨i0, hi, hz0, hz1, hz2⟩ := info_parts infoJ
  obtain ⟨W, hW⟩ : ∃ W, W = w.alloc (bfB (.slice none 0 0) (.slice none 0 0)) := ⟨_, rfl⟩
  rw [← hW] at hbA hn0 HTab
  have HB0 := Lib.hid hbA
  have HR0 := Lib.hid hn0
  clear hbA hn0 hF hS hv hcl hU hT hTl
  go_enter Try.func38, Try.ntmps38
  go_upto_region 1 with fail
  rw [← hW]
  clear hW
  go_wp2_with fail
  refine HTab.out.mono ?_
  rintro e w1 ⟨uT, rfl, hT1, hb1⟩
  have HT1 := Lib.hid hT1
  have HB1 := Lib.hid (below2 HB0.out hb1)
  have HR1 := Lib.hid (kb hb1 HR0.out)
  obtain ⟨aoT, capT, rfl⟩ := hT1.shape
  rw [natsI_len] at HT1 ⊢
  clear hb1 hT1 HTab
  go_wp2_with fail
  have hn2 := heap_alloc_new w1 (bfB (.slice aoU U.length capU) (.slice aoT T.length capT))
  have hb2 := ba (bfB (.slice aoU U.length capU) (.slice aoT T.length capT)) (Below.refl w1.heap.size w1)
  obtain ⟨W2, hW2⟩ : ∃ W2, W2 = w1.alloc (bfB (.slice aoU U.length capU) (.slice aoT T.length capT)) := ⟨_, rfl⟩
  rw [← hW2] at hn2 hb2 ⊢
  have HB2 := Lib.hid (below2 HB1.out hb2)
  have HR2 := Lib.hid (kb hb2 HR1.out)
  have HN2 := Lib.hid hn2
  have HF2 : Hid (GF W2 (.agg #[.slice aoU U.length capU, .slice aoT T.length capT]) (natsI U) T) := Lib.hid ⟨_, _, rfl, HU.out.below HB2.out, HT1.out.below hb2⟩
  have hsW2 := HB2.out.size
  clear hW2 hn2 hb2 HT1 HB1 HR1
  go_loopw [6, 7, 8, 17] (fun u _ _ i wr => ∃ k : Nat, k ≤ U.length ∧ i = .int .i64 k ∧ wr.ownsRow W2.heap.size 3 1 u (Bf.keptN ⟨U, T⟩ k).length (zcells (natsI (Bf.keptN ⟨U, T⟩ k))) ∧ Below W2.heap.size W2 wr) (fun _ _ _ i _ => U.length - (intOf i).toNat)
  case atStart => exact ⟨0, by omega, rfl, by simpa [Bf.keptN, natsI, zcells] using World.ownsRow_nil _ _ _ _, Below.refl _ _⟩
  case round =>
    obtain ⟨k, hk, rfl, hO, hBr⟩ := hrel
    have HO := Lib.hid hO
    have HBr := Lib.hid hBr
    have HX := Lib.hid (kb hBr HN2.out)
    have hbw := hBr.size
    clear hO
    by_cases hlt : k < U.length
    · obtain ⟨b1, o1, rfl, hb1, hc1⟩ := HUc.out (by omega)
      have x2 := ((below2 HB2.out hBr).cell (p := ⟨b1, o1 + k, none⟩) hb1).trans (hc1 k hlt)
      rw [HUi.out k hlt] at x2
      have HKk := Lib.hid (HK.out k)
      have hkl := HKl.out k
      obtain ⟨X, hX⟩ : ∃ X, X = mAt U k := ⟨_, rfl⟩
      have HXe := Lib.hid hX
      rw [← hX] at x2
      clear hX hc1 hBr
      go_wp2_with (refine ld_bf HX.out rfl rfl rfl ?_)
      refine (bmatters_any _ (natsI U) T U.length k _ (HF2.out.below HBr.out) HTl.out h4 hlt).mono ?_
      rintro e w3 ⟨rfl, hb3⟩
      have HB3 := Lib.hid (below2 HBr.out hb3)
      have HO3 := Lib.hid (own_below HO.out hb3)
      have hb3s := HB3.out.size
      clear hb3 x2 HX HO
      cases hc : cntK T k (2 ^ U.length)
      · have HKe : Hid (Bf.keptN ⟨U, T⟩ (k + 1) = Bf.keptN ⟨U, T⟩ k) := Lib.hid (by rw [HKk.out, hc]; rfl)
        clear hc
        go_wp2_with fail
        go_roundw
        case rel => exact ⟨k + 1, by omega, by go_num, by rw [HKe.out]; exact HO3.out, HB3.out⟩
        case measure => simp [intOf]; omega
      · have HKe : Hid (Bf.keptN ⟨U, T⟩ (k + 1) = Bf.keptN ⟨U, T⟩ k ++ [X]) := Lib.hid (by rw [HKk.out, hc, HXe.out]; rfl)
        clear hc
        go_wp2_with (at_builtin; refine wpList_append_own _ rfl _ _ 22 rfl W2.heap.size 3 i0 (.int .i64 0) 1 8 Try.underlying22 hi hz0 hz1 hz2 rfl (by decide) _ _ _ rfl (HO3.out.alloc _) ⟨w3.heap.size, 0, none⟩ 1 1 [.int .i64 (X : Int)] rfl rfl (new_at w3 #[.int .i64 (X : Int)] 3) (by simp [Value.oneCell']) (by unfold maxLen; omega) (by omega) (by rw [size_alloc]; omega) ?_)
        intro v4 w4 hown4 hgrow4 _
        have HB4 := Lib.hid (grown_below (HB3.out.alloc hb3s (.cells #[.int .i64 (X : Int)] 3)) (HO3.out.alloc _) hgrow4 (by rw [size_alloc]; omega))
        have HO4 : Hid (w4.ownsRow W2.heap.size 3 1 v4 (Bf.keptN ⟨U, T⟩ (k + 1)).length (zcells (natsI (Bf.keptN ⟨U, T⟩ (k + 1))))) := Lib.hid (by
          rw [HKe.out, natsI_app, zcells_app, List.length_append]
          exact hown4)
        clear hgrow4 hown4 HO3 HB3
        go_wp2_with fail
        go_roundw
        case rel => exact ⟨k + 1, by omega, by go_num, HO4.out, HB4.out⟩
        case measure => simp [intOf]; omega
    · obtain rfl : k = U.length := by omega
      rw [HM.out.1] at HO
      have HE := Lib.hid (NRow.own HO.out (by rw [natsI_len]))
      obtain ⟨aoK, capK, rfl⟩ := own_shape HO.out
      have HBw := Lib.hid (below2 HB2.out HBr.out)
      have HRr := Lib.hid (kb hBr HR2.out)
      have HFr := Lib.hid (HF2.out.below hBr)
      clear HO hBr HUc
      go_wp2_with (refine ld_bf HX.out rfl rfl rfl ?_)
      refine (bover_any _ _ U T S.vs _ HFr.out HE.out).mono ?_
      rintro e w3 ⟨c, rfl, hov, hb3⟩
      obtain ⟨g2, h2, rfl, hcl⟩ := hov.calls h4 HTl.out HSr.out (by omega)
      have l16 : 2 ^ S.vs.length ≤ 16 := Nat.pow_le_pow_right (n := 2) (by omega) (show S.vs.length ≤ 4 from hSm)
      have HTb := Lib.hid (btabover_any S.vs.length (fun n => mAt T (Bf.overN U S.vs n)) g2 h2 w3 hSm fun V n hV hn => hcl V n hV (by omega))
      rw [← HM.out.2] at HTb
      have HR3 := Lib.hid (kb hb3 HRr.out)
      have HE3 := Lib.hid (HE.out.below hb3)
      have HB3 := Lib.hid (below2 HBw.out hb3)
      clear hb3 hov hcl l16 HX HE HRr HFr
      go_wp2_with fail
      refine HTb.out.mono ?_
      rintro e w4 ⟨u4, rfl, hT4, hb4⟩
      have HR4 := Lib.hid (kb hb4 HR3.out)
      have HE4 := Lib.hid (HE3.out.below hb4)
      have HB4 := Lib.hid (below2 HB3.out hb4)
      have HT4 := Lib.hid hT4
      obtain ⟨ao4, cap4, rfl⟩ := hT4.shape
      clear hb4 hT4 HTb HR3 HE3 HB3
      go_wp2_with (refine st_bf HR4.out rfl rfl rfl rfl rfl rfl rfl ?_; intro W5 hp5; have HP5 := Lib.hid hp5; clear hp5)
      (try simp only [Exit.inBlock, Exit.then])
      exact bodyPost_ret (results_bf rfl rfl HP5.out.row) rfl ⟨_, rfl, ⟨_, _, rfl, HE4.out.putr HR4.out HP5.out, HT4.out.putr HR4.out HP5.out⟩, HP5.out.below HB4.out (Nat.le_refl _)⟩
end Go.Proofs.Ytlgoeegpgcilbaa
/-
  Package bits: Do.
-/
namespace Go.Proofs.Ytlgoeegpgcilbaa
open Go.ChangeShapes Go.WideShapes Go.ChangeAt Go.RowKit
set_option maxRecDepth 100000

theorem gdo_ok {k : Int} {b : Int} (hk : Bf.isK k) : Wd.doB k b = true := by
  rcases hk with rfl | rfl | rfl <;> rfl
theorem bdoc_word {k : Int} (hk : Bf.isK k) {a b : Nat} (ha : a < 4294967296) (hb : b < 4294967296) (w : World) :
    Calls Try.prog 25 #[.int .i64 k, .int .u32 (a : Nat), .int .u32 (b : Nat)] w fun e w' => e = .returned (.tuple #[.int .u32 (Bf.opK k a b : Nat), .bool true]) ∧ Below w.heap.size w w' := by
  refine (do_any k a b w (by omega) (by omega) (by omega) (by omega)).mono ?_
  rintro e w' ⟨rfl, rfl⟩
  rw [do_val hk ha hb, gdo_ok hk]
  exact ⟨rfl, Below.refl _ _⟩
set_option maxHeartbeats 4000000 in
theorem bdoc_any (k : Int) (n g h d : Nat) (c1 c2 : Value) (f1 f2 : Bf.BF) (U : List Nat) (w : World) (hk : Bf.isK k) (hg : w.heap[g]? = some (.cells #[.int .i64 k] 3)) (hh : w.heap[h]? = some (.cells #[c1] 70)) (hd : w.heap[d]? = some (.cells #[c2] 70))
    (h1 : OverAt w c1 f1.vs f1.tb U) (h2 : OverAt w c2 f2.vs f2.tb U) (hf1 : Bf.Fine f1) (hf2 : Bf.Fine f2) (hR : Bf.Rise U) (h8 : U.length ≤ 8) (hn : n < 256) :
    Calls Try.prog 39 #[.int .i64 (n : Nat), .pointer (some ⟨g, 0, none⟩), .pointer (some ⟨h, 0, none⟩), .pointer (some ⟨d, 0, none⟩)] w fun e w' => e = .returned (.int .u32 (Bf.opK k (mAt f1.tb (Bf.overN f1.vs U n)) (mAt f2.tb (Bf.overN f2.vs U n)) : Nat)) ∧ Below w.heap.size w w' := by
  obtain ⟨g1, k1, rfl, hc1⟩ := h1.calls hf1.most hf1.size hR h8
  obtain ⟨g2, k2, rfl, hc2⟩ := h2.calls hf2.most hf2.size hR h8
  have l1 := hf1.words (Bf.overN f1.vs U n)
  have l2 := hf2.words (Bf.overN f2.vs U n)
  have c1 := fun d os => Calls.regrown_of (hc1 (Sort.grow (redrawn w d) os) n (below_regrown w d os) hn)
  have c2 := fun d os => Calls.regrown_of (hc2 (Sort.grow (redrawn w d) os) n (below_regrown w d os) hn)
  have c3 := fun d os => Calls.regrown_of (bdoc_word hk l1 l2 (Sort.grow (redrawn w d) os))
  have y1 := cell_regrown ((cell_in hg 0).trans rfl)
  have y2 := cell_regrown ((cell_in hh 0).trans rfl)
  have y3 := cell_regrown ((cell_in hd 0).trans rfl)
  generalize mAt f1.tb (Bf.overN f1.vs U n) = A1 at *
  generalize mAt f2.tb (Bf.overN f2.vs U n) = A2 at *
  generalize Bf.opK k A1 A2 = R at *
  clear hg hh hd h1 h2 hf1 hf2 hR h8 hn hc1 hc2 hk
  go_enter Try.func39, Try.ntmps39
  go_upto_region 1 with fail
  refine wp_region_quiet_below (by kernel_rfl) (by kernel_rfl) ?_
  repeat (quiet_step (first | with_reducible exact c1 _ _ | with_reducible exact c2 _ _ | with_reducible exact c3 _ _))
  refine wpQuiet_nil ?_
  intro _ hw'
  obtain ⟨⟨dq, osq⟩, hw''⟩ := hw'
  subst hw''
  have HBq := Lib.hid (below_regrown w dq osq)
  clear c1 c2 c3 y1 y2 y3
  generalize Sort.grow (redrawn w dq) osq = Wq at *
  go_wp2_with fail
  go_ret
  exact ⟨rfl, HBq.out⟩
end Go.Proofs.Ytlgoeegpgcilbaa
