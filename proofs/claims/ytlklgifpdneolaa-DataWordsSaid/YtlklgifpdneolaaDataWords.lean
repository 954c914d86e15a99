/-
  For any record, any place, word and number: the law DataWords returns true and changes nothing that was there.
-/
import Derived.Test.YtlklgifpdneolaaDFrame
import Derived.Test.YtlklgifpdneolaaDWord
import Derived.Test.YtlklgifpdneolaaDWith
import Derived.Test.YtlklgifpdneolaaDRWord
import Derived.Test.YtlklgifpdneolaaDRWith
import Derived.Test.YtlklgifpdneolaaDRLow
import Derived.Test.YtlklgifpdneolaaDEq
import Derived.Lib.QuietBelow
namespace Go.Proofs.Ytlklgifpdneolaa.dataWords
open Go.ChangeShapes Go.WideShapes Go.ChangeAt Go.RowKit

set_option maxHeartbeats 4000000 in
theorem walk_of (d : Rec) (n v : Nat) (arg p q : Int) (w : World) (hd : d.ok) (hn : n < 4294967296) (hv : v < 4294967296) (hp0 : 0 ≤ p) (hpq : p < 64 ∧ q = p + 4 ∨ ¬ p < 64 ∧ q = p)
    (hL : ∀ W, Calls Try.prog 18 #[.int .i64 arg] W fun e w' => e = .returned (.int .u32 p) ∧ W = w')
    (hR : ∀ W, Calls Try.prog 15 #[.int .i64 arg] W fun e w' => e = .returned (.int .u32 p) ∧ W = w')
    (hH : ∀ W, Calls Try.prog 19 #[.int .i64 arg] W fun e w' => e = .returned (.int .u32 q) ∧ W = w') :
    Calls Try.prog 4 #[d.val, .int .u32 n, .int .u32 v, .int .i64 arg] w fun e w' => e = .returned (.bool true) ∧ Below w.heap.size w w' := by
  have HD := Lib.hid hd
  have HY := Lib.hid (withD_ok (at_ := n) hd hv)
  have HL := Lib.hid hL
  have HR := Lib.hid hR
  have HH := Lib.hid hH
  have HPQ := Lib.hid hpq
  have HX0 := Lib.hid (heap_alloc_new w (.cells d.cells 26))
  have HB0 := Lib.hid (ba (.cells d.cells 26) (Below.refl w.heap.size w))
  clear hd hL hR hH hpq
  go_enter Try.func4, Try.ntmps4
  go_wp2_with fail
  refine (word_any d n _ HD.out hn).mono ?_
  rintro e w1 ⟨rfl, hb1⟩
  have HX1 := Lib.hid (keep_block hb1 HX0.out)
  have HB1 := Lib.hid (below2 HB0.out hb1)
  clear hb1 HX0 HB0
  obtain ⟨x0, x1, x2, x3, x4, x5, x6, x7, x8⟩ := rec_cells HX1.out
  go_wp2_with fail
  refine (rword_any d n _ HD.out hn).mono ?_
  rintro e w2 ⟨rfl, hb2⟩
  have HX2 := Lib.hid (keep_block hb2 HX1.out)
  have HB2 := Lib.hid (below2 HB1.out hb2)
  clear hb2 HX1 HB1 x0 x1 x2 x3 x4 x5 x6 x7 x8
  go_wp2_with fail
  refine (HR.out _).mono ?_
  rintro e w3 ⟨rfl, rfl⟩
  obtain ⟨y, hy⟩ : ∃ y, y = withD d n v := ⟨_, rfl⟩
  rw [← hy] at HY
  have y0 := cell_regrown (cell_in HX2.out 0)
  have y1 := cell_regrown (cell_in HX2.out 1)
  have y2 := cell_regrown (cell_in HX2.out 2)
  have y3 := cell_regrown (cell_in HX2.out 3)
  have y4 := cell_regrown (cell_in HX2.out 4)
  have y5 := cell_regrown (cell_in HX2.out 5)
  have y6 := cell_regrown (cell_in HX2.out 6)
  have y7 := cell_regrown (cell_in HX2.out 7)
  have y8 := cell_regrown (cell_in HX2.out 8)
  have cA : ∀ d' os, Calls Try.prog 16 #[d.val, .int .u32 n, .int .u32 v] (Sort.grow (redrawn w2 d') os) fun e w'' => e = .returned y.val ∧ ∃ p : Regrown, w'' = Sort.grow (redrawn w2 p.d) p.os := fun d' os => Calls.regrown_of (by rw [hy]; exact with_any d n v _ HD.out hn hv)
  have cB : ∀ d' os, Calls Try.prog 17 #[d.val, .int .u32 n, .int .u32 v] (Sort.grow (redrawn w2 d') os) fun e w'' => e = .returned y.val ∧ ∃ p : Regrown, w'' = Sort.grow (redrawn w2 p.d) p.os := fun d' os => Calls.regrown_of (by rw [hy]; exact rwith_any d n v _ HD.out hn hv)
  have cC : ∀ d' os, Calls Try.prog 18 #[.int .i64 arg] (Sort.grow (redrawn w2 d') os) fun e w'' => e = .returned (.int .u32 p) ∧ ∃ p : Regrown, w'' = Sort.grow (redrawn w2 p.d) p.os := fun d' os => Calls.regrown_of ((HL.out _).mono (by rintro e w' ⟨rfl, rfl⟩; exact ⟨rfl, Below.refl _ _⟩))
  have cD : ∀ d' os, Calls Try.prog 19 #[.int .i64 arg] (Sort.grow (redrawn w2 d') os) fun e w'' => e = .returned (.int .u32 q) ∧ ∃ p : Regrown, w'' = Sort.grow (redrawn w2 p.d) p.os := fun d' os => Calls.regrown_of ((HH.out _).mono (by rintro e w' ⟨rfl, rfl⟩; exact ⟨rfl, Below.refl _ _⟩))
  have cE : ∀ d' os, Calls Try.prog 8 #[] (Sort.grow (redrawn w2 d') os) fun e w'' => e = .returned (.bool true) ∧ ∃ p : Regrown, w'' = Sort.grow (redrawn w2 p.d) p.os := fun d' os => Calls.regrown_of (dknows_any _)
  have hq := eq_same y HY.out
  have hq2 := eqIn_same y HY.out
  clear hy
  generalize wordAtD d n = wa at *
  generalize hasW n = wb at *
  rcases HPQ.out with ⟨h64, hqq⟩ | ⟨h64, hqq⟩
  · subst hqq
    go_wp2_with fail
    refine wp_region_quiet_below (by kernel_rfl) (by kernel_rfl) ?_
    repeat (quiet_step (first | exact cA _ _ | exact cB _ _ | exact cC _ _ | exact cD _ _ | exact cE _ _))
    refine wpQuiet_nil ?_
    intro _ hw'
    obtain ⟨⟨dq, osq⟩, hw''⟩ := hw'
    subst hw''
    have hbq := below_regrown w2 dq osq
    generalize Sort.grow (redrawn w2 dq) osq = Wq at *
    go_wp2_with fail
    go_ret
    exact ⟨rfl, HB2.out.trans (hbq.mono HB2.out.size)⟩
  · subst hqq
    go_wp2_with fail
    refine wp_region_quiet_below (by kernel_rfl) (by kernel_rfl) ?_
    repeat (quiet_step (first | exact cA _ _ | exact cB _ _ | exact cC _ _ | exact cD _ _ | exact cE _ _))
    refine wpQuiet_nil ?_
    intro _ hw'
    obtain ⟨⟨dq, osq⟩, hw''⟩ := hw'
    subst hw''
    have hbq := below_regrown w2 dq osq
    generalize Sort.grow (redrawn w2 dq) osq = Wq at *
    go_wp2_with fail
    go_ret
    exact ⟨rfl, HB2.out.trans (hbq.mono HB2.out.size)⟩
theorem walk (d : Rec) (n v arg : Int) (w : World) (hd : d.ok) (h0 : 0 ≤ n) (h1 : n ≤ 4294967295) (h2 : 0 ≤ v) (h3 : v ≤ 4294967295) (_ : -9223372036854775808 ≤ arg) (_ : arg ≤ 9223372036854775807) :
    Calls Try.prog 4 #[d.val, .int .u32 n, .int .u32 v, .int .i64 arg] w fun e w' => e = .returned (.bool true) ∧ Below w.heap.size w w' := by
  obtain ⟨n, rfl⟩ : ∃ k : Nat, n = k := ⟨n.toNat, by omega⟩
  obtain ⟨v, rfl⟩ : ∃ k : Nat, v = k := ⟨v.toNat, by omega⟩
  refine walk_of d n v arg (argAt arg 0) (argAt arg 1) w hd (by omega) (by omega) ?_ ?_ (low_any arg) (rlow_any arg) (high_any arg)
  · by_cases h : 0 ≤ arg ∧ arg < 6
    · rw [argAt_in h.1 h.2]; omega
    · rw [argAt_out (by omega)]; omega
  · by_cases h : 0 ≤ arg ∧ arg < 6
    · rw [argAt_in h.1 h.2, argAt_in h.1 h.2]; omega
    · rw [argAt_out (by omega), argAt_out (by omega)]; omega

set_option maxRecDepth 100000 in
/-- The row's contract, for every argument and every world. -/
theorem contract (H : Type) (enc : TypeId × Value → H) (W : World) (base : Nat) (args : Array Value) (ds gs : List (DataW H)) (before : List MemPlace)
    (hval : ∀ (j : Nat) t v, Try.f4.params[j]? = some t → args[j]? = some v → Value.okWide Try.prog W .any base t v)
    (hW : DataW.Whole enc Try.prog Try.f4.params.toList Rows.dataWordsSpec.vars false W args.toList ds gs before) (hL : laidMetH Try.prog Rows.dataWordsRow.laid W) :
    Calls Try.prog 4 args W fun e W' => ∃ v, e = .returned v ∧ Rows.dataWordsSpec.post enc Try.prog Try.f4 false true false false W args v W' := by
  have hW' := hW
  obtain ⟨p, q, hA0, hV, rfl, hfz, hnd⟩ := hW
  have hA : DataW.TrodAll enc Try.prog W 0 (fun _ => true) true Try.f4.params.toList args.toList ds p := hA0
  rw [Try.params4] at hA hval
  obtain ⟨v0, vs0, d0, ds0, p0, q0, hargs0, rfl, rfl, t0, r0⟩ := trodAll_cons hA
  obtain ⟨v1, vs1, d1, ds1, p1, q1, hargs1, rfl, rfl, t1, r1⟩ := trodAll_cons r0
  obtain ⟨v2, vs2, d2, ds2, p2, q2, hargs2, rfl, rfl, t2, r2⟩ := trodAll_cons r1
  obtain ⟨v3, vs3, d3, ds3, p3, q3, hargs3, rfl, rfl, t3, r3⟩ := trodAll_cons r2
  obtain ⟨rfl, rfl, rfl⟩ := trodAll_nil r3
  obtain rfl : args = #[v0, v1, v2, v3] := by cases args; simp_all
  obtain ⟨d, rfl, hd0⟩ := open_data (hval 0 26 v0 rfl rfl) t0
  obtain ⟨at_, rfl, rfl, rfl, wf1⟩ := open_int Try.underlying22 (hval 1 22 v1 rfl rfl) t1
  have bd1 := bounds_u32 wf1
  obtain ⟨v, rfl, rfl, rfl, wf2⟩ := open_int Try.underlying22 (hval 2 22 v2 rfl rfl) t2
  have bd2 := bounds_u32 wf2
  obtain ⟨arg, rfl, rfl, rfl, wf3⟩ := open_int Try.underlying3 (hval 3 3 v3 rfl rfl) t3
  have bd3 := bounds_i64 wf3
  refine (walk d at_ v arg W hd0 bd1.1 bd1.2 bd2.1 bd2.2 bd3.1 bd3.2).mono fun e W' ⟨he, hg⟩ => ?_
  subst he
  exact ⟨_, rfl, law_post (tb := 4) laidOut (fun t ht => by rw [Try.params4] at ht; revert t; exact of_decide_eq_true (by kernel_rfl)) (by kernel_rfl) Try.underlying4 rfl
    (fun ds h => by rw [Try.params4] at h; match ds, h with | [_, _, _, _], _ => rfl) hW' hg⟩

theorem laid_met (os : Os) : laidMet Try.prog Rows.dataWordsRow.laid ((laidWorld os).forCall (fun _ _ => 0) ⟨#[], #[.agg #[.int .u32 0, .int .u32 0, .int .u64 0, .int .u64 0, .int .u64 0, .int .u64 0, .int .u64 0, .int .u64 0, .int .u64 0], .int .u32 0, .int .u32 0, .int .i64 0], []⟩).memory :=
  laidMet_nil _ _
theorem reads (os : Os) {H : Type} (enc : TypeId × Value → H) : ∃ places, DataW.whole enc Try.prog ((laidWorld os).forCall (fun _ _ => 0) ⟨#[], #[.agg #[.int .u32 0, .int .u32 0, .int .u64 0, .int .u64 0, .int .u64 0, .int .u64 0, .int .u64 0, .int .u64 0, .int .u64 0], .int .u32 0, .int .u32 0, .int .i64 0], []⟩).memory Try.f4.params.toList Rows.dataWordsSpec.vars false #[Value.agg #[.int .u32 0, .int .u32 0, .int .u64 0, .int .u64 0, .int .u64 0, .int .u64 0, .int .u64 0, .int .u64 0, .int .u64 0], Value.int .u32 0, Value.int .u32 0, Value.int .i64 0].toList 8 = some ([.agg [.lit (.int .u32 0), .lit (.int .u32 0), .lit (.int .u64 0), .agg [.lit (.int .u64 0), .lit (.int .u64 0), .lit (.int .u64 0), .lit (.int .u64 0), .lit (.int .u64 0), .lit (.int .u64 0)]], .lit (.int .u32 0), .lit (.int .u32 0), .lit (.int .i64 0)], [], places) :=
  ⟨[], by kernel_rfl⟩

set_option maxRecDepth 100000 in
theorem lifted (os : Os) (started : os.Started) (H : Type) (enc : TypeId × Value → H) (F : Stop.Interp) :
    ReturnsInHanded {} Try.checked os 4 .any ((OpenSpec.ofChange Rows.dataWordsSpec).preRow enc Try.prog Try.f4 Rows.dataWordsRow.domain false Rows.dataWordsRow.laid) (((OpenSpec.ofChange Rows.dataWordsSpec).at F).post enc Try.prog Try.f4 false true false false) := by
  obtain ⟨places, hx⟩ := reads os enc
  refine returnsInHanded_of_row (C := Try.checked) (s := OpenSpec.ofChange Rows.dataWordsSpec) own started (by kernel_rfl) Try.func4
    (witness_row_at (enc := enc) (C := Try.checked) false (laidWorld os) #[.agg #[.int .u32 0, .int .u32 0, .int .u64 0, .int .u64 0, .int .u64 0, .int .u64 0, .int .u64 0, .int .u64 0, .int .u64 0], .int .u32 0, .int .u32 0, .int .i64 0] rfl (by kernel_rfl) (by kernel_rfl) (by kernel_rfl)
      (OpenSpec.preRow_of_cond 8 hx (by kernel_rfl) (fun k hk => by cases hk) (by kernel_rfl) (laid_met os))) ?_
  intro W base args ds gs before hval hW _ _ _ hL _ _
  exact contract H enc W base args ds gs before hval hW hL

theorem said : Rows.DataWordsSaid :=
  OpenClaim.holds_of_cond 4 Try.f4 rfl rfl rfl rfl rfl rfl rfl ⟨rfl, rfl, rfl, rfl, rfl⟩ rfl rfl rfl rfl rfl (by kernel_rfl) Try.func4 (by kernel_rfl)
    (of_decide_eq_true (by kernel_rfl)) (by unfold Func.isWrapper; first | (rw [if_pos (by decide +kernel)]; kernel_rfl) | (rw [if_neg (by decide +kernel)]; exact ⟨rfl, rfl⟩))
    (fun os started H enc _ F => by rw [OpenClaim.pre_eq_preRow]; exact lifted os started H enc F)

end Go.Proofs.Ytlklgifpdneolaa.dataWords
