/-
  Package cond: what Parse answers.
-/
import Derived.Test.YtlhpdjafhjfcoaaDoorQPrint
namespace Go.Proofs.YtlhpdjafhjfcoaaDoor
open Go.ChangeShapes Go.WideShapes Go.ChangeAt Go.RowKit
set_option maxRecDepth 100000

/-! ### The pieces of a text -/
theorem index_at {a r : List UInt8} (h : ∀ c ∈ a, c ≠ 32) : Lib.indexByte (a ++ 32 :: r) 32 = (a.length : Nat) := by
  rcases index_cases (a ++ 32 :: r) 32 with ⟨_, hno⟩ | ⟨o, ho, hix, hsp, hno⟩
  · exact absurd rfl (hno 32 (by simp))
  · rw [hix]
    have hlo : o = a.length := by
      rcases Nat.lt_trichotomy o a.length with hlt | he | hgt
      · have h1 : (a ++ 32 :: r)[o]? = some 32 := by
          rw [hsp, List.getElem?_append_right (by rw [List.length_take]; omega), List.length_take, Nat.min_eq_left (by omega)]
          simp
        rw [List.getElem?_append_left hlt] at h1
        exact absurd rfl (h 32 (List.mem_of_getElem? h1))
      · exact he
      · refine absurd rfl (hno 32 ?_)
        have h1 : ((a ++ 32 :: r).take o)[a.length]? = some 32 := by
          rw [List.getElem?_take, if_pos hgt, List.getElem?_append_right (Nat.le_refl _)]
          simp
        exact List.mem_of_getElem? h1
    rw [hlo]
theorem cuts_text {c : Cd} (hr : c.right = true) : cutsL 32 3 (textQ c) = [argW c.arg, numT c.mask, cmpW c.cmp, numT c.value] := by
  obtain ⟨a0, a5, k0, k5⟩ := (c.right_iff).1 hr
  have step : ∀ (k : Nat) (a r : List UInt8), (∀ x ∈ a, x ≠ 32) → cutsL 32 (k + 1) (a ++ 32 :: r) = a :: cutsL 32 k r := by
    intro k a r h
    have hd : (a ++ 32 :: r).drop (a.length + 1) = r := by
      rw [← List.drop_drop, List.drop_left]
      rfl
    rw [cutsL_hit k (index_at h), List.take_left, hd]
  unfold textQ
  rw [step 2 _ _ (argW_32 a0 a5), step 1 _ _ (numT_32 _), step 0 _ _ (cmpW_32 _)]
  rfl
theorem cuts_four {l : List UInt8} {k : Nat} {p0 p1 p2 p3 : List UInt8} (h : cutsL 32 k l = [p0, p1, p2, p3]) : l = p0 ++ 32 :: (p1 ++ 32 :: (p2 ++ 32 :: p3)) := by
  have step : ∀ (k : Nat) (l : List UInt8) (p q : List UInt8) (r : List (List UInt8)), cutsL 32 k l = p :: q :: r → ∃ j l', k = j + 1 ∧ l = p ++ 32 :: l' ∧ cutsL 32 j l' = q :: r := by
    intro k l p q r h
    cases k with
    | zero => simp [cutsL] at h
    | succ j =>
      rcases index_cases l 32 with ⟨hix, _⟩ | ⟨o, ho, hix, hsp, hno⟩
      · rw [cutsL_miss _ hix] at h
        simp at h
      · rw [cutsL_hit j hix] at h
        simp only [List.cons.injEq] at h
        exact ⟨j, _, rfl, by rw [← h.1]; exact hsp, h.2⟩
  obtain ⟨k1, l1, rfl, rfl, h1⟩ := step _ _ _ _ _ h
  obtain ⟨k2, l2, rfl, rfl, h2⟩ := step _ _ _ _ _ h1
  obtain ⟨k3, l3, rfl, rfl, h3⟩ := step _ _ _ _ _ h2
  have : l3 = p3 := by
    cases k3 with
    | zero => simpa [cutsL] using h3
    | succ j =>
      rcases index_cases l3 32 with ⟨hix, _⟩ | ⟨o, ho, hix, hsp, hno⟩
      · rw [cutsL_miss _ hix] at h3
        simpa using h3
      · rw [cutsL_hit j hix] at h3
        have := cutsL_len 32 j (l3.drop (o + 1))
        simp only [List.cons.injEq] at h3
        rw [h3.2] at this
        simp at this
  rw [this]
def QPEnd (s : ByteArray) (e : Ending) : Prop :=
  (∃ c : Cd, c.ok ∧ c.right = true ∧ s = textT c ∧ e = .returned (.tuple #[c.val, .int .i64 0])) ∨ ((∀ c : Cd, c.ok → c.right = true → s ≠ textT c) ∧ e = .returned (.tuple #[zeroCd.val, .int .i64 2]))
/-- What a text's first part says. -/
def ArgEnd (s : ByteArray) (e : Ending) : Prop :=
  (∃ n : Nat, n < 6 ∧ s = argT n ∧ e = .returned (.tuple #[.int .i64 n, .bool true])) ∨ ((∀ n : Nat, n < 6 → s ≠ argT n) ∧ e = .returned (.tuple #[.int .i64 0, .bool false]))
theorem readArg_any (s : ByteArray) (w : World) : Calls Tryd.prog 25 #[.string s] w fun e w' => ArgEnd s e ∧ Below w.heap.size w w' := by
  go_enter Tryd.func25, Tryd.ntmps25
  go_wp2_with fail
  go_loopw [5] (fun i wr => ∃ n : Nat, n ≤ 6 ∧ i = .int .i64 n ∧ Below w.heap.size w wr ∧ ∀ m, m < n → s ≠ argT m) (fun i _ => 6 - (Lib.intOf i).toNat)
  case atStart => exact ⟨0, by omega, rfl, Below.refl _ _, fun m h => by omega⟩
  case round =>
    obtain ⟨n, hn, rfl, hb, hno⟩ := hrel
    have HB := Lib.hid hb
    have HN := Lib.hid hno
    clear hb hno
    by_cases h6 : n < 6
    · have hd : decide ((n : Int) < 6) = true := by simp; omega
      go_wp2_with fail
      refine (argument_any n _ h6).mono ?_
      rintro e w1 ⟨rfl, hb1⟩
      have HB1 := Lib.hid (HB.out.trans (hb1.mono HB.out.size))
      clear hb1
      cases hq : ((argT n).toList == s.toList)
      · have HN' : Hid (∀ m, m < n + 1 → s ≠ argT m) := Lib.hid (by
          intro m hm
          by_cases e : m < n
          · exact HN.out m e
          · obtain rfl : m = n := by omega
            intro e
            rw [e] at hq
            simp at hq)
        go_wp2_with fail
        go_roundw
        case rel => exact ⟨n + 1, by omega, by go_num, HB1.out, HN'.out⟩
        case measure => simp [Lib.intOf]; omega
      · have HE : Hid (ArgEnd s (.returned (.tuple #[.int .i64 n, .bool true]))) := Lib.hid (.inl ⟨n, h6, by
          have := beq_iff_eq.1 hq
          rw [Go.ByteArray.toList_eq, Go.ByteArray.toList_eq] at this
          exact (ByteArray.ext (Array.ext' this)).symm, rfl⟩)
        go_wp2_with fail
        go_ret2
        exact ⟨HE.out, HB1.out⟩
    · obtain rfl : n = 6 := by omega
      have HE : Hid (ArgEnd s (.returned (.tuple #[.int .i64 0, .bool false]))) := Lib.hid (.inr ⟨HN.out, rfl⟩)
      go_wp2_with fail
      go_ret2
      exact ⟨HE.out, HB.out⟩

/-- What a text's third part says. -/
def CmpEnd (s : ByteArray) (e : Ending) : Prop :=
  (∃ n : Nat, n < 6 ∧ s = wordT n ∧ e = .returned (.tuple #[.int .i64 n, .bool true])) ∨ ((∀ n : Nat, n < 6 → s ≠ wordT n) ∧ e = .returned (.tuple #[.int .i64 0, .bool false]))
theorem readCmp_any (s : ByteArray) (w : World) : Calls Tryd.prog 27 #[.string s] w fun e w' => CmpEnd s e ∧ Below w.heap.size w w' := by
  go_enter Tryd.func27, Tryd.ntmps27
  go_wp2_with fail
  refine (comparisons_any _).mono ?_
  rintro e w1 ⟨rfl, hw1⟩
  have HC1 : Hid (w1.heap[w.heap.size]? = some (.cells cmpCells 46)) := Lib.hid (by rw [hw1]; exact heap_alloc_new w _)
  have HB1 : Hid (Below w.heap.size w w1) := Lib.hid (by rw [hw1]; exact ba _ (Below.refl _ _))
  clear hw1
  go_wp2_with fail
  go_loopw [8] (fun i wr => ∃ n : Nat, n ≤ 6 ∧ i = .int .i64 n ∧ Below w.heap.size w wr ∧ wr.heap[w.heap.size]? = some (.cells cmpCells 46) ∧ ∀ m : Nat, m < n → s ≠ wordT m) (fun i _ => 6 - (Lib.intOf i).toNat)
  case atStart => exact ⟨0, by omega, rfl, HB1.out, HC1.out, fun m h => by omega⟩
  case round =>
    obtain ⟨n, hn, rfl, hb, hc, hno⟩ := hrel
    have HB := Lib.hid hb
    have HC := Lib.hid hc
    have HN := Lib.hid hno
    clear hb hno hc HB1 HC1
    by_cases h6 : n < 6
    · have hd : decide ((n : Int) < 6) = true := by simp; omega
      obtain ⟨r0, r1, r2⟩ := cmpCells_at h6
      have d0 := (cell_in HC.out (n * 3)).trans r0
      have d1 := (cell_in HC.out (n * 3 + 1)).trans r1
      have d2 := (cell_in HC.out (n * 3 + 2)).trans r2
      have l0 : (0 : Int) ≤ (n : Int) := by omega
      have l1 : (n : Int) < 6 := by omega
      have hst := run_storeF (fnC_one n)
      have HC' : Hid (∀ o, (wr.alloc o).heap[w.heap.size]? = some (.cells cmpCells 46)) := Lib.hid (fun o => ka o HC.out)
      have HB' : Hid (∀ o, Below w.heap.size w (wr.alloc o)) := Lib.hid (fun o => ba o HB.out)
      generalize fnC n = F at *
      generalize notK n = K at *
      obtain ⟨T, hT⟩ : ∃ T, T = wordT n := ⟨_, rfl⟩
      rw [← hT] at d0
      have HT := Lib.hid hT
      clear hT r0 r1 r2
      cases hq : (T.toList == s.toList)
      · have HN' : Hid (∀ m : Nat, m < n + 1 → s ≠ wordT m) := Lib.hid (by
          intro m hm
          by_cases e : m < n
          · exact HN.out m e
          · obtain rfl : m = n := by omega
            intro e
            rw [HT.out, e] at hq
            simp at hq)
        go_wp2_with fail
        go_roundw
        case rel => exact ⟨n + 1, by omega, by go_num, HB'.out _, HC'.out _, HN'.out⟩
        case measure => simp [Lib.intOf]; omega
      · have HE : Hid (CmpEnd s (.returned (.tuple #[.int .i64 n, .bool true]))) := Lib.hid (.inl ⟨n, h6, by
          have := beq_iff_eq.1 hq
          rw [Go.ByteArray.toList_eq, Go.ByteArray.toList_eq] at this
          rw [← HT.out]
          exact (ByteArray.ext (Array.ext' this)).symm, rfl⟩)
        go_wp2_with fail
        go_ret2
        exact ⟨HE.out, HB'.out _⟩
    · obtain rfl : n = 6 := by omega
      have HE : Hid (CmpEnd s (.returned (.tuple #[.int .i64 0, .bool false]))) := Lib.hid (.inr ⟨HN.out, rfl⟩)
      go_wp2_with fail
      go_ret2
      exact ⟨HE.out, HB.out⟩
/-! ### The same, with letters -/
theorem ArgEnd.letters {s : ByteArray} {e : Ending} (h : ArgEnd s e) : ∃ (n : Nat) (b : Bool), e = .returned (.tuple #[.int .i64 n, .bool b]) ∧ ((b = true ∧ n < 6 ∧ s = argT n) ∨ (b = false ∧ ∀ m : Nat, m < 6 → s ≠ argT m)) := by
  rcases h with ⟨n, h1, h2, rfl⟩ | ⟨h, rfl⟩
  · exact ⟨n, true, rfl, .inl ⟨rfl, h1, h2⟩⟩
  · exact ⟨0, false, rfl, .inr ⟨rfl, h⟩⟩
theorem CmpEnd.letters {s : ByteArray} {e : Ending} (h : CmpEnd s e) : ∃ (n : Nat) (b : Bool), e = .returned (.tuple #[.int .i64 n, .bool b]) ∧ ((b = true ∧ n < 6 ∧ s = wordT n) ∨ (b = false ∧ ∀ m : Nat, m < 6 → s ≠ wordT m)) := by
  rcases h with ⟨n, h1, h2, rfl⟩ | ⟨h, rfl⟩
  · exact ⟨n, true, rfl, .inl ⟨rfl, h1, h2⟩⟩
  · exact ⟨0, false, rfl, .inr ⟨rfl, h⟩⟩
theorem ParseEnd.letters {s : ByteArray} {e : Ending} (h : ParseEnd s e) : ∃ (n : Nat) (x : Int), e = .returned (.tuple #[.int .u64 n, .int .i64 x]) ∧ n < 18446744073709551616 ∧ ((x = 0 ∧ s = Wd.txt n) ∨ (x = 2 ∧ ∀ m : Nat, m < 18446744073709551616 → s ≠ Wd.txt m)) := by
  rcases h with ⟨n, h1, h2, rfl⟩ | ⟨h, rfl⟩
  · exact ⟨n, 0, rfl, h1, .inl ⟨rfl, h2⟩⟩
  · exact ⟨0, 2, rfl, by omega, .inr ⟨rfl, h⟩⟩
theorem bsT_inj {a b : List UInt8} (h : bsT a = bsT b) : a = b := by
  have := congrArg (fun x : ByteArray => x.data.toList) h
  simpa using this
theorem textQ_len {c : Cd} : 6 ≤ (textQ c).length := by
  unfold textQ
  simp [argW, numT]
  omega
/-- The pieces of a condition's text. -/
theorem parts_of {l : List UInt8} {c : Cd} (hr : c.right = true) (e : bsT l = textT c) : cutsL 32 (min 4 (l.length + 1) - 1) l = [argW c.arg, numT c.mask, cmpW c.cmp, numT c.value] := by
  have hl : l = textQ c := bsT_inj e
  have := textQ_len (c := c)
  rw [hl, Nat.min_eq_left (by omega)]
  exact cuts_text hr
theorem four_cells {p0 p1 p2 p3 : List UInt8} : cutCells [p0, p1, p2, p3] 4 = #[.string (bsT p0), .string (bsT p1), .string (bsT p2), .string (bsT p3)] := by
  unfold cutCells Lib.cellsOf
  simp
set_option maxHeartbeats 4000000 in
theorem qparse_any (s : ByteArray) (w : World) (hs : s.size ≤ 4611686018427387904) (_ht : QTab w) :
    Calls Tryd.prog 15 #[.string s] w fun e w' => QPEnd s e ∧ Below w.heap.size w w' := by
  obtain ⟨l, rfl⟩ : ∃ l : List UInt8, s = bsT l := ⟨s.data.toList, by simp⟩
  have hl : l.length ≤ 4611686018427387904 := by simpa [ByteArray.size] using hs
  have hz := heap_alloc_new w (cdB zeroCd)
  have HB0 := Lib.hid (ba (cdB zeroCd) (Below.refl w.heap.size w))
  obtain ⟨W, hW⟩ : ∃ W, W = w.alloc (cdB zeroCd) := ⟨_, rfl⟩
  rw [← hW] at hz HB0
  have HZ0 := Lib.hid hz
  clear hz hs
  obtain ⟨N, hN⟩ : ∃ N, N = min 4 (l.length + 1) := ⟨_, rfl⟩
  obtain ⟨ps, hps⟩ : ∃ ps, ps = cutsL 32 (N - 1) l := ⟨_, rfl⟩
  have hsp := splitN_any l 32 4 N W hl (by omega) hN (by omega)
  rw [← hps] at hsp
  have HSP := Lib.hid hsp
  have HT : Hid (∀ c : Cd, c.right = true → bsT l = textT c → ps = [argW c.arg, numT c.mask, cmpW c.cmp, numT c.value]) := Lib.hid (fun c hr e => by rw [hps, hN]; exact parts_of hr e)
  have HPS := Lib.hid hps
  have hle : ps.length ≤ N - 1 + 1 := by rw [hps]; exact (cutsL_len 32 _ l).2
  have hN4 : N ≤ 4 := by omega
  have hN1 : 1 ≤ N := by omega
  clear hps hN hsp
  have HEQ : Hid (∀ p0 p1 p2 p3, ps = [p0, p1, p2, p3] → l = p0 ++ 32 :: (p1 ++ 32 :: (p2 ++ 32 :: p3))) := Lib.hid (fun p0 p1 p2 p3 h => cuts_four (by rw [← HPS.out]; exact h))
  obtain ⟨S, hS⟩ : ∃ S, S = bsT l := ⟨_, rfl⟩
  rw [← hS] at HSP HT ⊢
  have HS := Lib.hid hS
  clear hS
  by_cases h4 : ps.length = 4
  · obtain ⟨p0, p1, p2, p3, rfl⟩ : ∃ p0 p1 p2 p3, ps = [p0, p1, p2, p3] := by
      match ps, h4 with
      | [p0, p1, p2, p3], _ => exact ⟨p0, p1, p2, p3, rfl⟩
    obtain rfl : N = 4 := by simp at hle; omega
    have hlen : l.length = p0.length + (p1.length + (p2.length + (p3.length + 1) + 1) + 1) := by
      have e := HEQ.out _ _ _ _ rfl
      rw [e]
      simp only [List.length_append, List.length_cons]
    have hz1 : (bsT p1).size ≤ 4611686018427387904 := by
      have : (bsT p1).size = p1.length := by simp [ByteArray.size]
      omega
    have hz3 : (bsT p3).size ≤ 4611686018427387904 := by
      have : (bsT p3).size = p3.length := by simp [ByteArray.size]
      omega
    have hsp := HSP.out
    rw [four_cells] at hsp
    have HSP4 := Lib.hid hsp
    clear hsp HSP hlen h4 hle hN4 hN1 hl
    obtain ⟨S0, hS0⟩ : ∃ S, S = bsT p0 := ⟨_, rfl⟩
    obtain ⟨S1, hS1⟩ : ∃ S, S = bsT p1 := ⟨_, rfl⟩
    obtain ⟨S2, hS2⟩ : ∃ S, S = bsT p2 := ⟨_, rfl⟩
    obtain ⟨S3, hS3⟩ : ∃ S, S = bsT p3 := ⟨_, rfl⟩
    rw [← hS0, ← hS1, ← hS2, ← hS3] at HSP4
    rw [← hS1] at hz1
    rw [← hS3] at hz3
    have HS0 := Lib.hid hS0
    have HS1 := Lib.hid hS1
    have HS2 := Lib.hid hS2
    have HS3 := Lib.hid hS3
    clear hS0 hS1 hS2 hS3
    go_enter Tryd.func15, Tryd.ntmps15
    go_upto_region 1 with fail
    change Code.wp _ _ _ _ (w.alloc (cdB zeroCd))
    rw [← hW]
    clear hW
    go_wp2_with fail
    refine HSP4.out.mono ?_
    rintro e w1 ⟨rfl, hw1⟩
    have hr1 : w1.heap[W.heap.size]? = some (.cells #[.string S0, .string S1, .string S2, .string S3] 9) := by rw [hw1]; exact heap_alloc_new W _
    have HR1 := Lib.hid hr1
    have HB1 : Hid (Below w.heap.size w w1) := Lib.hid (by rw [hw1]; exact ba _ HB0.out)
    have HZ1 : Hid (w1.heap[w.heap.size]? = some (cdB zeroCd)) := Lib.hid (by rw [hw1]; exact ka _ HZ0.out)
    have e0 : w1.cell? ⟨W.heap.size, 0, none⟩ = some (.string S0) := cell_in hr1 0
    generalize W.heap.size = g at *
    clear hw1 hr1 HSP4 HZ0 HB0
    go_wp2_with fail
    refine (readArg_any _ _).mono ?_
    rintro e w2 ⟨hA, hb2⟩
    obtain ⟨n, b0, rfl, hA0⟩ := hA.letters
    have HA := Lib.hid hA0
    have HR2 := Lib.hid (kb hb2 HR1.out)
    have HZ2 := Lib.hid (kb hb2 HZ1.out)
    have HB2 := Lib.hid (below2 HB1.out hb2)
    have e1 : w2.cell? ⟨g, 1, none⟩ = some (.string S1) := cell_in HR2.out 1
    clear hA hA0 hb2 e0 HR1 HZ1 HB1
    go_wp2_with fail
    refine (parse_any S1 _ hz1).mono ?_
    rintro e w3 ⟨hA, hb3⟩
    obtain ⟨m, x1, rfl, hm, hA0⟩ := hA.letters
    have HM := Lib.hid hA0
    have HR3 := Lib.hid (kb hb3 HR2.out)
    have HZ3 := Lib.hid (kb hb3 HZ2.out)
    have HB3 := Lib.hid (below2 HB2.out hb3)
    have e2 : w3.cell? ⟨g, 2, none⟩ = some (.string S2) := cell_in HR3.out 2
    clear hA hA0 hb3 e1 HR2 HZ2 HB2
    go_wp2_with fail
    refine (readCmp_any S2 _).mono ?_
    rintro e w4 ⟨hA, hb4⟩
    obtain ⟨k, b2, rfl, hA0⟩ := hA.letters
    have HK := Lib.hid hA0
    have HR4 := Lib.hid (kb hb4 HR3.out)
    have HZ4 := Lib.hid (kb hb4 HZ3.out)
    have HB4 := Lib.hid (below2 HB3.out hb4)
    have e3 : w4.cell? ⟨g, 3, none⟩ = some (.string S3) := cell_in HR4.out 3
    clear hA hA0 hb4 e2 HR3 HZ3 HB3
    go_wp2_with fail
    refine (parse_any S3 _ hz3).mono ?_
    rintro e w5 ⟨hA, hb5⟩
    obtain ⟨v, x3, rfl, hv, hA0⟩ := hA.letters
    have HV := Lib.hid hA0
    have HZ5 := Lib.hid (kb hb5 HZ4.out)
    have HB5 := Lib.hid (below2 HB4.out hb5)
    have r0 := cell_in HZ5.out 0
    have r1 := cell_in HZ5.out 1
    have r2 := cell_in HZ5.out 2
    have r3 := cell_in HZ5.out 3
    have f0 := free_in HZ5.out 0
    have f1 := free_in HZ5.out 1
    have f2 := free_in HZ5.out 2
    have f3 := free_in HZ5.out 3
    have hlt : w.heap.size < w5.heap.size := lt_of_block HZ5.out
    clear hA hA0 hb5 e3 HR4 HZ4 HB4
    rcases HA.out with ⟨rfl, hn6, hn⟩ | ⟨rfl, hno⟩
    rotate_left
    · have HE : Hid (QPEnd S (.returned (.tuple #[zeroCd.val, .int .i64 2]))) := Lib.hid (.inr ⟨fun c _ hr e => by
        have h := HT.out c hr e
        simp only [List.cons.injEq] at h
        have h' := (c.right_iff).1 hr
        exact hno c.arg.toNat (by omega) (by rw [HS0.out, h.1]; unfold argT; rw [show ((c.arg.toNat : Nat) : Int) = c.arg by omega]), rfl⟩)
      clear hno
      go_wp2_with fail
      (try simp only [Exit.inBlock, Exit.then])
      refine bodyPost_ret (v := .tuple #[.agg #[.int .i64 0, .int .i64 0, .int .u64 0, .int .u64 0], .int .i64 2]) ?_ rfl ⟨HE.out, ?_⟩
      · rw [results_cell_tmp rfl]
        go_simp
      · have hB := HB5.out
        go_grown
    rcases HM.out with ⟨rfl, hm1⟩ | ⟨rfl, hno⟩
    rotate_left
    · have HE : Hid (QPEnd S (.returned (.tuple #[zeroCd.val, .int .i64 2]))) := Lib.hid (.inr ⟨fun c hc hr e => by
        have h := HT.out c hr e
        simp only [List.cons.injEq] at h
        exact hno c.mask hc.1 (by rw [HS1.out, h.2.1]; rfl), rfl⟩)
      clear hno hn
      go_wp2_with fail
      (try simp only [Exit.inBlock, Exit.then])
      refine bodyPost_ret (v := .tuple #[.agg #[.int .i64 0, .int .i64 0, .int .u64 0, .int .u64 0], .int .i64 2]) ?_ rfl ⟨HE.out, ?_⟩
      · rw [results_cell_tmp rfl]
        go_simp
      · have hB := HB5.out
        go_grown
    rcases HK.out with ⟨rfl, hk6, hk⟩ | ⟨rfl, hno⟩
    rotate_left
    · have HE : Hid (QPEnd S (.returned (.tuple #[zeroCd.val, .int .i64 2]))) := Lib.hid (.inr ⟨fun c hc hr e => by
        have h := HT.out c hr e
        simp only [List.cons.injEq] at h
        have h' := (c.right_iff).1 hr
        exact hno c.cmp.toNat (by omega) (by rw [HS2.out, h.2.2.1]; unfold wordT; rw [show ((c.cmp.toNat : Nat) : Int) = c.cmp by omega]), rfl⟩)
      clear hno hn hm1
      go_wp2_with fail
      (try simp only [Exit.inBlock, Exit.then])
      refine bodyPost_ret (v := .tuple #[.agg #[.int .i64 0, .int .i64 0, .int .u64 0, .int .u64 0], .int .i64 2]) ?_ rfl ⟨HE.out, ?_⟩
      · rw [results_cell_tmp rfl]
        go_simp
      · have hB := HB5.out
        go_grown
    rcases HV.out with ⟨rfl, hv1⟩ | ⟨rfl, hno⟩
    rotate_left
    · have HE : Hid (QPEnd S (.returned (.tuple #[zeroCd.val, .int .i64 2]))) := Lib.hid (.inr ⟨fun c hc hr e => by
        have h := HT.out c hr e
        simp only [List.cons.injEq] at h
        exact hno c.value hc.2 (by rw [HS3.out, h.2.2.2.1]; rfl), rfl⟩)
      clear hno hn hm1 hk
      go_wp2_with fail
      (try simp only [Exit.inBlock, Exit.then])
      refine bodyPost_ret (v := .tuple #[.agg #[.int .i64 0, .int .i64 0, .int .u64 0, .int .u64 0], .int .i64 2]) ?_ rfl ⟨HE.out, ?_⟩
      · rw [results_cell_tmp rfl]
        go_simp
      · have hB := HB5.out
        go_grown
    have HE : Hid (QPEnd S (.returned (.tuple #[(⟨n, k, m, v⟩ : Cd).val, .int .i64 0]))) := Lib.hid (.inl ⟨⟨n, k, m, v⟩, ⟨hm, hv⟩, cd_right hn6 hk6, by
      have q0 : p0 = argW n := bsT_inj (HS0.out.symm.trans hn)
      have q1 : p1 = numT m := bsT_inj (HS1.out.symm.trans hm1)
      have q2 : p2 = cmpW k := bsT_inj (HS2.out.symm.trans hk)
      have q3 : p3 = numT v := bsT_inj (HS3.out.symm.trans hv1)
      rw [HS.out, HEQ.out _ _ _ _ rfl, q0, q1, q2, q3]
      rfl, rfl⟩)
    clear hn hm1 hk hv1
    go_wp2_with fail
    (try simp only [Exit.inBlock, Exit.then])
    refine bodyPost_ret (v := .tuple #[.agg #[.int .i64 n, .int .i64 k, .int .u64 m, .int .u64 v], .int .i64 0]) ?_ rfl ⟨HE.out, ?_⟩
    · rw [results_cell_tmp rfl]
      go_simp
    · have hB := HB5.out
      go_grown
  · have HE : Hid (QPEnd S (.returned (.tuple #[zeroCd.val, .int .i64 2]))) := Lib.hid (.inr ⟨fun c _ hr e => h4 (by rw [HT.out c hr e]; rfl), rfl⟩)
    have h4' : ((ps.length : Int) != 4) = true := by simp; omega
    have r0 := cell_in HZ0.out 0
    have r1 := cell_in HZ0.out 1
    have r2 := cell_in HZ0.out 2
    have r3 := cell_in HZ0.out 3
    have f0 := free_in HZ0.out 0
    have f1 := free_in HZ0.out 1
    have f2 := free_in HZ0.out 2
    have f3 := free_in HZ0.out 3
    have hlt : w.heap.size < W.heap.size := lt_of_block HZ0.out
    clear h4
    go_enter Tryd.func15, Tryd.ntmps15
    go_upto_region 1 with fail
    change Code.wp _ _ _ _ (w.alloc (cdB zeroCd))
    rw [← hW]
    clear hW
    go_wp2_with fail
    refine HSP.out.mono ?_
    rintro e w1 ⟨rfl, rfl⟩
    go_wp2_with fail
    (try simp only [Exit.inBlock, Exit.then])
    refine bodyPost_ret (v := .tuple #[.agg #[.int .i64 0, .int .i64 0, .int .u64 0, .int .u64 0], .int .i64 2]) ?_ rfl ⟨HE.out, ?_⟩
    · rw [results_cell_tmp rfl]
      go_simp
    · have hB := HB0.out
      go_grown
end Go.Proofs.YtlhpdjafhjfcoaaDoor
