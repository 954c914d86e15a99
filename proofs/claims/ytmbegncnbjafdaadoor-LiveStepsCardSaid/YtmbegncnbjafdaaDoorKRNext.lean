/-
  What the document's Next answers, for any sound filter that lies in a world, and each of its places.
-/
import Derived.Test.YtmbegncnbjafdaaDoorKNextP
import Derived.Test.YtmbegncnbjafdaaDoorRAlu
import Derived.Test.YtmbegncnbjafdaaDoorCFault
namespace Go.Proofs.YtmbegncnbjafdaaDoor
open Go.ChangeShapes Go.WideShapes Go.ChangeAt Go.RowKit
set_option maxRecDepth 20000

theorem infoI : (Tryd.prog.info? 3).map (fun i => (i.zero, i.size, i.bytes)) = some (some (.int .i64 0), 1, 8) := by kernel_rfl
theorem filter_step : ∀ (l : List Int) (m : Int), l.Pairwise (· < ·) → l.filter (fun q => decide (q < m + 1)) = l.filter (fun q => decide (q < m)) ++ (if m ∈ l then [m] else [])
  | [], m, _ => by simp
  | a :: l, m, h => by
    have h1 := List.pairwise_cons.1 h
    have ih := filter_step l m h1.2
    rcases Int.lt_trichotomy a m with hlt | rfl | hgt
    · have hm : (m ∈ a :: l) ↔ m ∈ l := by
        simp only [List.mem_cons]
        constructor
        · rintro (h | h)
          · omega
          · exact h
        · exact Or.inr
      simp only [List.filter_cons, show decide (a < m + 1) = true from decide_eq_true (by omega), show decide (a < m) = true from decide_eq_true hlt, if_true, hm, ih, List.cons_append]
    · have hn : ∀ (f : Int → Bool), (∀ q ∈ l, f q = false) → l.filter f = [] := fun f hf => List.filter_eq_nil_iff.2 fun q hq => by rw [hf q hq]; simp
      simp only [List.filter_cons, show decide (a < a + 1) = true from decide_eq_true (by omega), show decide (a < a) = false from decide_eq_false (by omega), if_true, List.mem_cons, true_or]
      rw [hn _ (fun q hq => decide_eq_false (by have := h1.1 q hq; omega)), hn _ (fun q hq => decide_eq_false (by have := h1.1 q hq; omega))]
      simp
    · have hn : ∀ (f : Int → Bool), (∀ q ∈ a :: l, f q = false) → (a :: l).filter f = [] := fun f hf => List.filter_eq_nil_iff.2 fun q hq => by rw [hf q hq]; simp
      have hb : ∀ q ∈ a :: l, m < q := by
        intro q hq
        rcases List.mem_cons.1 hq with rfl | hq
        · exact hgt
        · have := h1.1 q hq; omega
      rw [hn _ (fun q hq => decide_eq_false (by have := hb q hq; omega)), hn _ (fun q hq => decide_eq_false (by have := hb q hq; omega)), if_neg]
      · rfl
      · intro hm
        have := hb m hm
        omega
/-- Whether a run may go so far. -/
def isN (x : X4) (off : Int) : Bool := if isBranch x.op then off == x.jt || off == x.jf else if x.op == 5 then off == x.k else off == 0
theorem branch5 : isBranch 5 = false := by decide
theorem mem_next (x : X4) (p m : Int) : m ∈ nextX x p ↔ (isN x (m - p - 1) && !endsE x) = true := by
  unfold nextX isN
  cases endsE x
  · simp only [Bool.false_eq_true, if_false, Bool.not_false, Bool.and_true]
    cases h5 : (x.op == 5)
    · simp only [Bool.false_eq_true, if_false]
      cases isBranch x.op
      · simp only [Bool.false_eq_true, if_false, List.mem_singleton, beq_iff_eq]
        omega
      · simp only [if_true, Bool.or_eq_true, beq_iff_eq]
        by_cases hJ : x.jt = x.jf
        · simp only [hJ, if_true, List.mem_singleton]
          omega
        · rw [if_neg hJ]
          simp only [List.mem_cons, List.not_mem_nil, or_false]
          omega
    · have e : x.op = 5 := by simpa using h5
      rw [e, branch5]
      simp only [if_true, Bool.false_eq_true, if_false, List.mem_singleton, beq_iff_eq]
      omega
  · simp
/-- What was found so far. -/
def outX (x : X4) (p m : Int) : List Int := (nextX x p).filter fun q => decide (q < m)
theorem outX_yes {x : X4} {p m : Int} (h : (isN x (m - p - 1) && !endsE x) = true) : outX x p (m + 1) = outX x p m ++ [m] := by
  unfold outX
  rw [filter_step _ _ (next_pair x p), if_pos ((mem_next x p m).2 h)]
theorem outX_no {x : X4} {p m : Int} (h : (isN x (m - p - 1) && !endsE x) = false) : outX x p (m + 1) = outX x p m := by
  unfold outX
  rw [filter_step _ _ (next_pair x p), if_neg (by rw [mem_next, h]; decide), List.append_nil]
theorem outX_len (x : X4) (p m : Int) : (outX x p m).length ≤ 2 := Nat.le_trans (List.length_filter_le _ _) (nextX_short x p)
theorem outX_first {x : X4} {p : Int} (h : ∀ q ∈ nextX x p, p < q) : outX x p (p + 1) = [] := List.filter_eq_nil_iff.2 fun q hq => by
  have := h q hq
  simp; omega
theorem outX_last {x : X4} {p m : Int} (h : ∀ q ∈ nextX x p, q < m) : outX x p m = nextX x p := List.filter_eq_self.2 fun q hq => by
  have := h q hq
  simp; omega
set_option maxHeartbeats 4000000 in
theorem rnext_any (v : Value) (l : List X4) (n : Nat) (w : World) (hF : FAt w v l) (hok : ∀ x ∈ l, x.ok) (hn : n < l.length) (hs : soundB l = true) :
    Calls Tryd.prog 32 #[v, .int .i64 n] w (IEnd (nextX l[n] n) w) := by
  obtain ⟨i0, hi, hz0, hz1, hz2⟩ := info_parts infoI
  have HS := soundB_iff.1 hs
  have hin := Lib.hid (next_in HS hok hn)
  obtain ⟨hk0, hk1⟩ := hok _ (List.getElem_mem hn)
  have hlen : l.length ≤ 4096 := HS.2.1
  obtain ⟨ao, cap, rfl, hF'⟩ := hF
  rcases hF' with h0 | ⟨b, off, rfl, hb, hc⟩
  · rw [h0] at hn; simp at hn
  obtain ⟨c0, c1, c2, c3⟩ := hc n hn
  generalize l[n] = x at c0 c1 c2 c3 hk0 hk1 hin ⊢
  have HFst := Lib.hid (outX_first fun q hq => (hin.out q hq).1)
  have HLst := Lib.hid (outX_last fun q hq => (hin.out q hq).2)
  have HX := Lib.hid (heap_alloc_new w (insB x.op x.jt x.jf x.k))
  have hz : w.heap.size < (w.alloc (insB x.op x.jt x.jf x.k)).heap.size := lt_of_block HX.out
  have HB0 := Lib.hid (ba (insB x.op x.jt x.jf x.k) (Below.refl w.heap.size w))
  clear hc hs HS hok hin
  go_enter Tryd.func32, Tryd.ntmps32
  go_wp2_with fail
  clear c0 c1 c2 c3
  go_loopw [6, 7] (fun u i wr => ∃ m : Nat, n + 1 ≤ m ∧ m ≤ l.length ∧ i = .int .i64 m ∧ Below (w.alloc (insB x.op x.jt x.jf x.k)).heap.size (w.alloc (insB x.op x.jt x.jf x.k)) wr ∧ wr.ownsRow (w.alloc (insB x.op x.jt x.jf x.k)).heap.size 3 1 u (outX x n m).length (icells (outX x n m))) (fun _ i _ => l.length - (intOf i).toNat)
  case atStart =>
    refine ⟨n + 1, by omega, by omega, by go_num, Below.refl _ _, ?_⟩
    have h := HFst.out
    rw [show ((n + 1 : Nat) : Int) = (n : Int) + 1 by omega, h]
    exact World.ownsRow_nil _ _ _ _
  case round =>
    obtain ⟨m, hm0, hm1, rfl, hB, hO⟩ := hrel
    have HB := Lib.hid hB
    have HO := Lib.hid hO
    have hX := (hB.block _ hz).trans HX.out
    have g0 : wr.cell? ⟨w.heap.size, 0, none⟩ = some (.int .i64 x.op) := cell_in hX 0
    have g1 : wr.cell? ⟨w.heap.size, 1, none⟩ = some (.int .i64 x.jt) := cell_in hX 1
    have g2 : wr.cell? ⟨w.heap.size, 2, none⟩ = some (.int .i64 x.jf) := cell_in hX 2
    have g3 : wr.cell? ⟨w.heap.size, 3, none⟩ = some (.int .u32 x.k) := cell_in hX 3
    have hzr := lt_of_block hX
    have hl2 := outX_len x n m
    clear hB hO hX
    by_cases hlt : m < l.length
    · have hu1 : IntKind.u64.wrap ((m : Int) - n - 1) = (m : Int) - n - 1 := by rw [IntKind.wrap_u64]; omega
      have hu2 : IntKind.u64.wrap x.k = x.k := by rw [IntKind.wrap_u64]; omega
      cases h5 : (x.op == 5)
      · have H5 := Lib.hid h5
        go_wp2_with fail
        refine (refBranch_any x.op x.jt x.jf x.k _).mono ?_
        rintro e w2 ⟨rfl, hb2⟩
        have hX2 := (hb2.block _ hzr).trans ((HB.out.block _ hz).trans HX.out)
        have hz2' := lt_of_block hX2
        have k0 : w2.cell? ⟨w.heap.size, 0, none⟩ = some (.int .i64 x.op) := cell_in hX2 0
        have k1 : w2.cell? ⟨w.heap.size, 1, none⟩ = some (.int .i64 x.jt) := cell_in hX2 1
        have k2 : w2.cell? ⟨w.heap.size, 2, none⟩ = some (.int .i64 x.jf) := cell_in hX2 2
        have k3 : w2.cell? ⟨w.heap.size, 3, none⟩ = some (.int .u32 x.k) := cell_in hX2 3
        have HBN := Lib.hid (HB.out.trans (hb2.mono HB.out.size))
        have HON := Lib.hid (own_below HO.out hb2)
        clear hb2 hX2 g0 g1 g2 g3
        cases hBr : isBranch x.op
        · have hN0 : ∀ off, isN x off = (off == 0) := fun off => by unfold isN; rw [hBr, H5.out]; rfl
          cases hq : (((m : Int) - n - 1) == 0)
          · have hN : isN x ((m : Int) - n - 1) = false := (hN0 _).trans hq
            clear hN0 hBr
            have HN := Lib.hid (outX_no (x := x) (p := n) (m := m) (by rw [hN]; rfl))
            clear hN
            go_wp2_with fail
            go_roundw
            case rel => exact ⟨m + 1, by omega, by omega, by go_num, HBN.out, by rw [show ((m + 1 : Nat) : Int) = (m : Int) + 1 by omega, HN.out]; exact HON.out⟩
            case measure => simp [intOf]; omega
          · have hN : isN x ((m : Int) - n - 1) = true := (hN0 _).trans hq
            clear hN0 hBr
            go_wp2_with fail
            refine (refEnds_any x.op x.jt x.jf x.k _).mono ?_
            rintro e w3 ⟨rfl, hb3⟩
            have HB3 := Lib.hid (HBN.out.trans (hb3.mono HBN.out.size))
            have HO3 := Lib.hid (own_below HON.out hb3)
            have hs3 := HB3.out.size
            clear hb3 k0 k1 k2 k3
            cases he : (x.op == 6 || x.op == 22)
            · have HN := Lib.hid (outX_yes (x := x) (p := n) (m := m) (by rw [hN, show endsE x = false from he]; rfl))
              clear hN he
              go_wp2_with (at_builtin; refine wpList_append_own _ rfl _ _ 68 rfl (w.alloc (insB x.op x.jt x.jf x.k)).heap.size 3 i0 (.int .i64 0) 1 8 Tryd.underlying68 hi hz0 hz1 hz2 rfl (by decide) _ _ _ rfl (HO3.out.alloc _) ⟨w3.heap.size, 0, none⟩ 1 1 [.int .i64 m] rfl rfl (new_at w3 #[.int .i64 m] 3) (by simp [Value.oneCell']) (by unfold maxLen; omega) (by omega) (by rw [size_alloc w3]; omega) ?_)
              intro v6 w6 hown6 hgrow6 _
              have HB6 := Lib.hid (grown_below (HB3.out.alloc hs3 (.cells #[.int .i64 m] 3)) (HO3.out.alloc _) hgrow6 (by rw [size_alloc w3]; omega))
              have e1 : icells (outX x n m) ++ [.int .i64 m] = icells (outX x n ((m : Int) + 1)) := by rw [HN.out]; simp
              have e2 : (outX x n m).length + 1 = (outX x n ((m : Int) + 1)).length := by rw [HN.out]; simp
              rw [e1, e2] at hown6
              have HO6 := Lib.hid hown6
              clear hown6 hgrow6 e1 e2
              go_wp2_with fail
              go_roundw
              case rel => exact ⟨m + 1, by omega, by omega, by go_num, HB6.out, by rw [size_alloc, show ((m + 1 : Nat) : Int) = (m : Int) + 1 by omega]; exact HO6.out⟩
              case measure => simp [intOf]; omega
            · have HN := Lib.hid (outX_no (x := x) (p := n) (m := m) (by rw [hN, show endsE x = true from he]; rfl))
              clear hN he
              go_wp2_with fail
              go_roundw
              case rel => exact ⟨m + 1, by omega, by omega, by go_num, HB3.out, by rw [show ((m + 1 : Nat) : Int) = (m : Int) + 1 by omega, HN.out]; exact HO3.out⟩
              case measure => simp [intOf]; omega
        · have hN0 : ∀ off, isN x off = (off == x.jt || off == x.jf) := fun off => by unfold isN; rw [hBr]; rfl
          cases hq : (((m : Int) - n - 1) == x.jt)
          · cases hq2 : (((m : Int) - n - 1) == x.jf)
            · have hN : isN x ((m : Int) - n - 1) = false := (hN0 _).trans (by rw [hq, hq2]; rfl)
              clear hN0 hBr
              have HN := Lib.hid (outX_no (x := x) (p := n) (m := m) (by rw [hN]; rfl))
              clear hN
              go_wp2_with fail
              go_roundw
              case rel => exact ⟨m + 1, by omega, by omega, by go_num, HBN.out, by rw [show ((m + 1 : Nat) : Int) = (m : Int) + 1 by omega, HN.out]; exact HON.out⟩
              case measure => simp [intOf]; omega
            · have hN : isN x ((m : Int) - n - 1) = true := (hN0 _).trans (by rw [hq, hq2]; rfl)
              clear hN0 hBr
              go_wp2_with fail
              refine (refEnds_any x.op x.jt x.jf x.k _).mono ?_
              rintro e w3 ⟨rfl, hb3⟩
              have HB3 := Lib.hid (HBN.out.trans (hb3.mono HBN.out.size))
              have HO3 := Lib.hid (own_below HON.out hb3)
              have hs3 := HB3.out.size
              clear hb3 k0 k1 k2 k3
              cases he : (x.op == 6 || x.op == 22)
              · have HN := Lib.hid (outX_yes (x := x) (p := n) (m := m) (by rw [hN, show endsE x = false from he]; rfl))
                clear hN he
                go_wp2_with (at_builtin; refine wpList_append_own _ rfl _ _ 68 rfl (w.alloc (insB x.op x.jt x.jf x.k)).heap.size 3 i0 (.int .i64 0) 1 8 Tryd.underlying68 hi hz0 hz1 hz2 rfl (by decide) _ _ _ rfl (HO3.out.alloc _) ⟨w3.heap.size, 0, none⟩ 1 1 [.int .i64 m] rfl rfl (new_at w3 #[.int .i64 m] 3) (by simp [Value.oneCell']) (by unfold maxLen; omega) (by omega) (by rw [size_alloc w3]; omega) ?_)
                intro v6 w6 hown6 hgrow6 _
                have HB6 := Lib.hid (grown_below (HB3.out.alloc hs3 (.cells #[.int .i64 m] 3)) (HO3.out.alloc _) hgrow6 (by rw [size_alloc w3]; omega))
                have e1 : icells (outX x n m) ++ [.int .i64 m] = icells (outX x n ((m : Int) + 1)) := by rw [HN.out]; simp
                have e2 : (outX x n m).length + 1 = (outX x n ((m : Int) + 1)).length := by rw [HN.out]; simp
                rw [e1, e2] at hown6
                have HO6 := Lib.hid hown6
                clear hown6 hgrow6 e1 e2
                go_wp2_with fail
                go_roundw
                case rel => exact ⟨m + 1, by omega, by omega, by go_num, HB6.out, by rw [size_alloc, show ((m + 1 : Nat) : Int) = (m : Int) + 1 by omega]; exact HO6.out⟩
                case measure => simp [intOf]; omega
              · have HN := Lib.hid (outX_no (x := x) (p := n) (m := m) (by rw [hN, show endsE x = true from he]; rfl))
                clear hN he
                go_wp2_with fail
                go_roundw
                case rel => exact ⟨m + 1, by omega, by omega, by go_num, HB3.out, by rw [show ((m + 1 : Nat) : Int) = (m : Int) + 1 by omega, HN.out]; exact HO3.out⟩
                case measure => simp [intOf]; omega
          · have hN : isN x ((m : Int) - n - 1) = true := (hN0 _).trans (by rw [hq]; rfl)
            clear hN0 hBr
            go_wp2_with fail
            refine (refEnds_any x.op x.jt x.jf x.k _).mono ?_
            rintro e w3 ⟨rfl, hb3⟩
            have HB3 := Lib.hid (HBN.out.trans (hb3.mono HBN.out.size))
            have HO3 := Lib.hid (own_below HON.out hb3)
            have hs3 := HB3.out.size
            clear hb3 k0 k1 k2 k3
            cases he : (x.op == 6 || x.op == 22)
            · have HN := Lib.hid (outX_yes (x := x) (p := n) (m := m) (by rw [hN, show endsE x = false from he]; rfl))
              clear hN he
              go_wp2_with (at_builtin; refine wpList_append_own _ rfl _ _ 68 rfl (w.alloc (insB x.op x.jt x.jf x.k)).heap.size 3 i0 (.int .i64 0) 1 8 Tryd.underlying68 hi hz0 hz1 hz2 rfl (by decide) _ _ _ rfl (HO3.out.alloc _) ⟨w3.heap.size, 0, none⟩ 1 1 [.int .i64 m] rfl rfl (new_at w3 #[.int .i64 m] 3) (by simp [Value.oneCell']) (by unfold maxLen; omega) (by omega) (by rw [size_alloc w3]; omega) ?_)
              intro v6 w6 hown6 hgrow6 _
              have HB6 := Lib.hid (grown_below (HB3.out.alloc hs3 (.cells #[.int .i64 m] 3)) (HO3.out.alloc _) hgrow6 (by rw [size_alloc w3]; omega))
              have e1 : icells (outX x n m) ++ [.int .i64 m] = icells (outX x n ((m : Int) + 1)) := by rw [HN.out]; simp
              have e2 : (outX x n m).length + 1 = (outX x n ((m : Int) + 1)).length := by rw [HN.out]; simp
              rw [e1, e2] at hown6
              have HO6 := Lib.hid hown6
              clear hown6 hgrow6 e1 e2
              go_wp2_with fail
              go_roundw
              case rel => exact ⟨m + 1, by omega, by omega, by go_num, HB6.out, by rw [size_alloc, show ((m + 1 : Nat) : Int) = (m : Int) + 1 by omega]; exact HO6.out⟩
              case measure => simp [intOf]; omega
            · have HN := Lib.hid (outX_no (x := x) (p := n) (m := m) (by rw [hN, show endsE x = true from he]; rfl))
              clear hN he
              go_wp2_with fail
              go_roundw
              case rel => exact ⟨m + 1, by omega, by omega, by go_num, HB3.out, by rw [show ((m + 1 : Nat) : Int) = (m : Int) + 1 by omega, HN.out]; exact HO3.out⟩
              case measure => simp [intOf]; omega
      · have e5 : x.op = 5 := by simpa using h5
        have HBr : Hid (isBranch x.op = false) := Lib.hid (by rw [e5]; exact branch5)
        have H5 := Lib.hid h5
        have hN0 : ∀ off, isN x off = (off == x.k) := fun off => by unfold isN; rw [HBr.out, H5.out]; rfl
        clear e5
        cases hq : (((m : Int) - n - 1) == x.k)
        · have hN : isN x ((m : Int) - n - 1) = false := (hN0 _).trans hq
          clear hN0
          go_wp2_with fail
          refine (refBranch_any x.op x.jt x.jf x.k _).mono ?_
          rintro e w2 ⟨rfl, hb2⟩
          have hX2 := (hb2.block _ hzr).trans ((HB.out.block _ hz).trans HX.out)
          have hz2' := lt_of_block hX2
          have k0 : w2.cell? ⟨w.heap.size, 0, none⟩ = some (.int .i64 x.op) := cell_in hX2 0
          have k1 : w2.cell? ⟨w.heap.size, 1, none⟩ = some (.int .i64 x.jt) := cell_in hX2 1
          have k2 : w2.cell? ⟨w.heap.size, 2, none⟩ = some (.int .i64 x.jf) := cell_in hX2 2
          have k3 : w2.cell? ⟨w.heap.size, 3, none⟩ = some (.int .u32 x.k) := cell_in hX2 3
          have HBN := Lib.hid (HB.out.trans (hb2.mono HB.out.size))
          have HON := Lib.hid (own_below HO.out hb2)
          clear hb2 hX2 g0 g1 g2 g3
          rw [HBr.out]
          have HN := Lib.hid (outX_no (x := x) (p := n) (m := m) (by rw [hN]; rfl))
          clear hN
          go_wp2_with fail
          go_roundw
          case rel => exact ⟨m + 1, by omega, by omega, by go_num, HBN.out, by rw [show ((m + 1 : Nat) : Int) = (m : Int) + 1 by omega, HN.out]; exact HON.out⟩
          case measure => simp [intOf]; omega
        · have hN : isN x ((m : Int) - n - 1) = true := (hN0 _).trans hq
          clear hN0
          go_wp2_with fail
          refine (refBranch_any x.op x.jt x.jf x.k _).mono ?_
          rintro e w2 ⟨rfl, hb2⟩
          have hX2 := (hb2.block _ hzr).trans ((HB.out.block _ hz).trans HX.out)
          have hz2' := lt_of_block hX2
          have k0 : w2.cell? ⟨w.heap.size, 0, none⟩ = some (.int .i64 x.op) := cell_in hX2 0
          have k1 : w2.cell? ⟨w.heap.size, 1, none⟩ = some (.int .i64 x.jt) := cell_in hX2 1
          have k2 : w2.cell? ⟨w.heap.size, 2, none⟩ = some (.int .i64 x.jf) := cell_in hX2 2
          have k3 : w2.cell? ⟨w.heap.size, 3, none⟩ = some (.int .u32 x.k) := cell_in hX2 3
          have HBN := Lib.hid (HB.out.trans (hb2.mono HB.out.size))
          have HON := Lib.hid (own_below HO.out hb2)
          clear hb2 hX2 g0 g1 g2 g3
          rw [HBr.out]
          go_wp2_with fail
          refine (refEnds_any x.op x.jt x.jf x.k _).mono ?_
          rintro e w3 ⟨rfl, hb3⟩
          have HB3 := Lib.hid (HBN.out.trans (hb3.mono HBN.out.size))
          have HO3 := Lib.hid (own_below HON.out hb3)
          have hs3 := HB3.out.size
          clear hb3 k0 k1 k2 k3
          cases he : (x.op == 6 || x.op == 22)
          · have HN := Lib.hid (outX_yes (x := x) (p := n) (m := m) (by rw [hN, show endsE x = false from he]; rfl))
            clear hN he
            go_wp2_with (at_builtin; refine wpList_append_own _ rfl _ _ 68 rfl (w.alloc (insB x.op x.jt x.jf x.k)).heap.size 3 i0 (.int .i64 0) 1 8 Tryd.underlying68 hi hz0 hz1 hz2 rfl (by decide) _ _ _ rfl (HO3.out.alloc _) ⟨w3.heap.size, 0, none⟩ 1 1 [.int .i64 m] rfl rfl (new_at w3 #[.int .i64 m] 3) (by simp [Value.oneCell']) (by unfold maxLen; omega) (by omega) (by rw [size_alloc w3]; omega) ?_)
            intro v6 w6 hown6 hgrow6 _
            have HB6 := Lib.hid (grown_below (HB3.out.alloc hs3 (.cells #[.int .i64 m] 3)) (HO3.out.alloc _) hgrow6 (by rw [size_alloc w3]; omega))
            have e1 : icells (outX x n m) ++ [.int .i64 m] = icells (outX x n ((m : Int) + 1)) := by rw [HN.out]; simp
            have e2 : (outX x n m).length + 1 = (outX x n ((m : Int) + 1)).length := by rw [HN.out]; simp
            rw [e1, e2] at hown6
            have HO6 := Lib.hid hown6
            clear hown6 hgrow6 e1 e2
            go_wp2_with fail
            go_roundw
            case rel => exact ⟨m + 1, by omega, by omega, by go_num, HB6.out, by rw [size_alloc, show ((m + 1 : Nat) : Int) = (m : Int) + 1 by omega]; exact HO6.out⟩
            case measure => simp [intOf]; omega
          · have HN := Lib.hid (outX_no (x := x) (p := n) (m := m) (by rw [hN, show endsE x = true from he]; rfl))
            clear hN he
            go_wp2_with fail
            go_roundw
            case rel => exact ⟨m + 1, by omega, by omega, by go_num, HB3.out, by rw [show ((m + 1 : Nat) : Int) = (m : Int) + 1 by omega, HN.out]; exact HO3.out⟩
            case measure => simp [intOf]; omega
    · obtain rfl : m = l.length := by omega
      go_wp2_with fail
      go_ret
      have h := HO.out
      rw [HLst.out] at h
      exact ⟨_, rfl, IAt.own h rfl, below2 HB0.out HB.out⟩
end Go.Proofs.YtmbegncnbjafdaaDoor
