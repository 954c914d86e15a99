/-
  For every record, any two places and any word: the law DataSets returns true and changes nothing that was there.
-/
import Derived.Test.YtlklgifpdneolaaDFrame
import Derived.Test.YtlklgifpdneolaaDWith
import Derived.Test.YtlklgifpdneolaaDEq
namespace Go.Proofs.Ytlklgifpdneolaa.dataSets
open Go.ChangeShapes Go.WideShapes Go.ChangeAt Go.RowKit

theorem word_with {d : Rec} {n v : Nat} (hd : d.ok) (hv : v < 4294967296) (h : hasW n = true) : wordAtD (withD d n v) n = v := by
  have hh : n % 4 = 0 ∧ n < 64 := by simpa [hasW] using h
  unfold wordAtD
  rw [if_pos h, withD_words hd hv h, List.getD_eq_getElem?_getD, List.getElem?_set_self (by rw [words_len]; omega)]
  rfl
theorem word_other {d : Rec} {n m v : Nat} (hd : d.ok) (hv : v < 4294967296) (hne : n ≠ m) : wordAtD (withD d n v) m = wordAtD d m := by
  cases h : hasW n
  · have e : withD d n v = d := by simp [withD, h]
    rw [e]
  · unfold wordAtD
    cases hm : hasW m
    · rfl
    · have h1 : n % 4 = 0 ∧ n < 64 := by simpa [hasW] using h
      have h2 : m % 4 = 0 ∧ m < 64 := by simpa [hasW] using hm
      rw [if_pos rfl, if_pos rfl, withD_words hd hv h, List.getD_eq_getElem?_getD, List.getElem?_set_ne (by omega), List.getD_eq_getElem?_getD]
set_option maxHeartbeats 4000000 in
theorem walk_at (d : Rec) (n v m : Nat) (w : World) (hd : d.ok) (hn : n < 4294967296) (hv : v < 4294967296) (hm : m < 4294967296) :
    Calls Try.prog 6 #[d.val, .int .u32 n, .int .u32 v, .int .u32 m] w fun e w' => e = .returned (.bool true) ∧ Below w.heap.size w w' := by
  have HD := Lib.hid hd
  have HY := Lib.hid (withD_ok (at_ := n) hd hv)
  have HX0 := Lib.hid (heap_alloc_new w (.cells d.cells 26))
  have HB0 := Lib.hid (ba (.cells d.cells 26) (Below.refl w.heap.size w))
  go_enter Try.func6, Try.ntmps6
  go_wp2_with fail
  refine (with_any d n v _ HD.out hn hv).mono ?_
  rintro e w1 ⟨rfl, hb1⟩
  have HX1 := Lib.hid (keep_block hb1 HX0.out)
  have HB1 := Lib.hid (below2 HB0.out hb1)
  obtain ⟨y, hy⟩ : ∃ y, y = withD d n v := ⟨_, rfl⟩
  rw [← hy] at HY ⊢
  have HYE := Lib.hid hy
  have HYB := Lib.hid (heap_alloc_new w1 (.cells y.cells 26))
  have HX2 := Lib.hid (keep_block (ba (.cells y.cells 26) (Below.refl w1.heap.size w1)) HX1.out)
  have HB2 := Lib.hid (below2 HB1.out (ba (.cells y.cells 26) (Below.refl w1.heap.size w1)))
  clear hb1 hy HX0 HB0
  go_wp2_with fail
  refine (word_any y n _ HY.out hn).mono ?_
  rintro e w3 ⟨rfl, hb3⟩
  have HX3 := Lib.hid (keep_block hb3 HX2.out)
  have HY3 := Lib.hid (keep_block hb3 HYB.out)
  have HB3 := Lib.hid (below2 HB2.out hb3)
  clear hb3 HX1 HX2 HB1 HB2 HYB
  obtain ⟨x0, x1, x2, x3, x4, x5, x6, x7, x8⟩ := rec_cells HX3.out
  go_wp2_with fail
  refine (word_any d m _ HD.out hm).mono ?_
  rintro e w4 ⟨rfl, hb4⟩
  have HX4 := Lib.hid (keep_block hb4 HX3.out)
  have HY4 := Lib.hid (keep_block hb4 HY3.out)
  have HB4 := Lib.hid (below2 HB3.out hb4)
  clear hb4 HX3 HY3 HB3 x0 x1 x2 x3 x4 x5 x6 x7 x8
  obtain ⟨y0, y1, y2, y3, y4, y5, y6, y7, y8⟩ := rec_cells HY4.out
  go_wp2_with fail
  refine (word_any y m _ HY.out hm).mono ?_
  rintro e w5 ⟨rfl, hb5⟩
  have HX5 := Lib.hid (keep_block hb5 HX4.out)
  have HY5 := Lib.hid (keep_block hb5 HY4.out)
  have HB5 := Lib.hid (below2 HB4.out hb5)
  clear hb5 HX4 HY4 HB4 y0 y1 y2 y3 y4 y5 y6 y7 y8
  cases hh : hasW n
  · have e0 : wordAtD y n = 0 := by simp [wordAtD, hh]
    obtain rfl : y = d := by rw [HYE.out]; simp [withD, hh]
    rw [e0]
    clear hh e0
    have hq := eq_same y HY.out
    have hq2 := eqIn_same y HY.out
    obtain ⟨x0, x1, x2, x3, x4, x5, x6, x7, x8⟩ := rec_cells HX5.out
    obtain ⟨y0, y1, y2, y3, y4, y5, y6, y7, y8⟩ := rec_cells HY5.out
    go_wp2_with fail
    refine (dknows_any _).mono ?_
    rintro e w6 ⟨rfl, hb6⟩
    go_wp2_with fail
    go_ret
    exact ⟨rfl, below2 HB5.out hb6⟩
  · have e0 : wordAtD y n = v := by rw [HYE.out]; exact word_with HD.out hv hh
    rw [e0]
    by_cases hnm : n = m
    · subst hnm
      rw [e0, hh]
      clear e0 hh
      generalize wordAtD d n = z at *
      go_wp2_with fail
      refine (dknows_any _).mono ?_
      rintro e w6 ⟨rfl, hb6⟩
      go_wp2_with fail
      go_ret
      exact ⟨rfl, below2 HB5.out hb6⟩
    · have e1 : wordAtD y m = wordAtD d m := by rw [HYE.out]; exact word_other HD.out hv hnm
      have hnb : ((n : Int) == (m : Int)) = false := by simp; omega
      rw [e1]
      clear e0 e1 hh hnm
      generalize wordAtD d m = z at *
      generalize hasW m = bm at *
      go_wp2_with fail
      refine (dknows_any _).mono ?_
      rintro e w6 ⟨rfl, hb6⟩
      go_wp2_with fail
      go_ret
      exact ⟨rfl, below2 HB5.out hb6⟩
theorem walk (d : Rec) (n v m : Int) (w : World) (hd : d.ok) (h0 : 0 ≤ n) (h1 : n ≤ 4294967295) (h2 : 0 ≤ v) (h3 : v ≤ 4294967295) (h4 : 0 ≤ m) (h5 : m ≤ 4294967295) :
    Calls Try.prog 6 #[d.val, .int .u32 n, .int .u32 v, .int .u32 m] w fun e w' => e = .returned (.bool true) ∧ Below w.heap.size w w' := by
  obtain ⟨n, rfl⟩ : ∃ k : Nat, n = k := ⟨n.toNat, by omega⟩
  obtain ⟨v, rfl⟩ : ∃ k : Nat, v = k := ⟨v.toNat, by omega⟩
  obtain ⟨m, rfl⟩ : ∃ k : Nat, m = k := ⟨m.toNat, by omega⟩
  exact walk_at d n v m w hd (by omega) (by omega) (by omega)

set_option maxRecDepth 100000 in
/-- The row's contract, for every argument and every world. -/
theorem contract (H : Type) (enc : TypeId × Value → H) (W : World) (base : Nat) (args : Array Value) (ds gs : List (DataW H)) (before : List MemPlace)
    (hval : ∀ (j : Nat) t v, Try.f6.params[j]? = some t → args[j]? = some v → Value.okWide Try.prog W .any base t v)
    (hW : DataW.Whole enc Try.prog Try.f6.params.toList Rows.dataSetsSpec.vars false W args.toList ds gs before) (hL : laidMetH Try.prog Rows.dataSetsRow.laid W) :
    Calls Try.prog 6 args W fun e W' => ∃ v, e = .returned v ∧ Rows.dataSetsSpec.post enc Try.prog Try.f6 false true false false W args v W' := by
  have hW' := hW
  obtain ⟨p, q, hA0, hV, rfl, hfz, hnd⟩ := hW
  have hA : DataW.TrodAll enc Try.prog W 0 (fun _ => true) true Try.f6.params.toList args.toList ds p := hA0
  rw [Try.params6] at hA hval
  obtain ⟨v0, vs0, d0, ds0, p0, q0, hargs0, rfl, rfl, t0, r0⟩ := trodAll_cons hA
  obtain ⟨v1, vs1, d1, ds1, p1, q1, hargs1, rfl, rfl, t1, r1⟩ := trodAll_cons r0
  obtain ⟨v2, vs2, d2, ds2, p2, q2, hargs2, rfl, rfl, t2, r2⟩ := trodAll_cons r1
  obtain ⟨v3, vs3, d3, ds3, p3, q3, hargs3, rfl, rfl, t3, r3⟩ := trodAll_cons r2
  obtain ⟨rfl, rfl, rfl⟩ := trodAll_nil r3
  obtain rfl : args = #[v0, v1, v2, v3] := by cases args; simp_all
  obtain ⟨d, rfl, hd0⟩ := open_data (hval 0 26 v0 rfl rfl) t0
  obtain ⟨at_, rfl, rfl, rfl, wf1⟩ := open_int Try.underlying22 (hval 1 22 v1 rfl rfl) t1
  have bd1 := bounds_u32 wf1
  obtain ⟨v, rfl, rfl, rfl, wf2⟩ := open_int Try.underlying22 (hval 2 22 v2 rfl rfl) t2
  have bd2 := bounds_u32 wf2
  obtain ⟨other, rfl, rfl, rfl, wf3⟩ := open_int Try.underlying22 (hval 3 22 v3 rfl rfl) t3
  have bd3 := bounds_u32 wf3
  refine (walk d at_ v other W hd0 bd1.1 bd1.2 bd2.1 bd2.2 bd3.1 bd3.2).mono fun e W' ⟨he, hg⟩ => ?_
  subst he
  exact ⟨_, rfl, law_post (tb := 4) laidOut (fun t ht => by rw [Try.params6] at ht; revert t; exact of_decide_eq_true (by kernel_rfl)) (by kernel_rfl) Try.underlying4 rfl
    (fun ds h => by rw [Try.params6] at h; match ds, h with | [_, _, _, _], _ => rfl) hW' hg⟩

theorem laid_met (os : Os) : laidMet Try.prog Rows.dataSetsRow.laid ((laidWorld os).forCall (fun _ _ => 0) ⟨#[], #[.agg #[.int .u32 0, .int .u32 0, .int .u64 0, .int .u64 0, .int .u64 0, .int .u64 0, .int .u64 0, .int .u64 0, .int .u64 0], .int .u32 0, .int .u32 0, .int .u32 0], []⟩).memory :=
  laidMet_nil _ _
theorem reads (os : Os) {H : Type} (enc : TypeId × Value → H) : ∃ places, DataW.whole enc Try.prog ((laidWorld os).forCall (fun _ _ => 0) ⟨#[], #[.agg #[.int .u32 0, .int .u32 0, .int .u64 0, .int .u64 0, .int .u64 0, .int .u64 0, .int .u64 0, .int .u64 0, .int .u64 0], .int .u32 0, .int .u32 0, .int .u32 0], []⟩).memory Try.f6.params.toList Rows.dataSetsSpec.vars false #[Value.agg #[.int .u32 0, .int .u32 0, .int .u64 0, .int .u64 0, .int .u64 0, .int .u64 0, .int .u64 0, .int .u64 0, .int .u64 0], Value.int .u32 0, Value.int .u32 0, Value.int .u32 0].toList 8 = some ([.agg [.lit (.int .u32 0), .lit (.int .u32 0), .lit (.int .u64 0), .agg [.lit (.int .u64 0), .lit (.int .u64 0), .lit (.int .u64 0), .lit (.int .u64 0), .lit (.int .u64 0), .lit (.int .u64 0)]], .lit (.int .u32 0), .lit (.int .u32 0), .lit (.int .u32 0)], [], places) :=
  ⟨[], by kernel_rfl⟩

set_option maxRecDepth 100000 in
theorem lifted (os : Os) (started : os.Started) (H : Type) (enc : TypeId × Value → H) (F : Stop.Interp) :
    ReturnsInHanded {} Try.checked os 6 .any ((OpenSpec.ofChange Rows.dataSetsSpec).preRow enc Try.prog Try.f6 Rows.dataSetsRow.domain false Rows.dataSetsRow.laid) (((OpenSpec.ofChange Rows.dataSetsSpec).at F).post enc Try.prog Try.f6 false true false false) := by
  obtain ⟨places, hx⟩ := reads os enc
  refine returnsInHanded_of_row (C := Try.checked) (s := OpenSpec.ofChange Rows.dataSetsSpec) own started (by kernel_rfl) Try.func6
    (witness_row_at (enc := enc) (C := Try.checked) false (laidWorld os) #[.agg #[.int .u32 0, .int .u32 0, .int .u64 0, .int .u64 0, .int .u64 0, .int .u64 0, .int .u64 0, .int .u64 0, .int .u64 0], .int .u32 0, .int .u32 0, .int .u32 0] rfl (by kernel_rfl) (by kernel_rfl) (by kernel_rfl)
      (OpenSpec.preRow_of_cond 8 hx (by kernel_rfl) (fun k hk => by cases hk) (by kernel_rfl) (laid_met os))) ?_
  intro W base args ds gs before hval hW _ _ _ hL _ _
  exact contract H enc W base args ds gs before hval hW hL

theorem said : Rows.DataSetsSaid :=
  OpenClaim.holds_of_cond 6 Try.f6 rfl rfl rfl rfl rfl rfl rfl ⟨rfl, rfl, rfl, rfl, rfl⟩ rfl rfl rfl rfl rfl (by kernel_rfl) Try.func6 (by kernel_rfl)
    (of_decide_eq_true (by kernel_rfl)) (by unfold Func.isWrapper; first | (rw [if_pos (by decide +kernel)]; kernel_rfl) | (rw [if_neg (by decide +kernel)]; exact ⟨rfl, rfl⟩))
    (fun os started H enc _ F => by rw [OpenClaim.pre_eq_preRow]; exact lifted os started H enc F)

end Go.Proofs.Ytlklgifpdneolaa.dataSets
