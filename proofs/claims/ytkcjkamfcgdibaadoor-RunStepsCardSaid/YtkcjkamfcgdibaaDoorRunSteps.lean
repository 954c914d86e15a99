/-
  For every state, every instruction and every record, in every world that has the table of package ins as its initialiser lays it: the law RunSteps returns true and changes nothing that was there.
-/
import Derived.Test.YtkcjkamfcgdibaaDoorUFrame
import Derived.Test.YtkcjkamfcgdibaaDoorURStep
import Derived.Lib.QuietBelow
namespace Go.Proofs.YtkcjkamfcgdibaaDoor.runSteps
open Go.ChangeShapes Go.WideShapes Go.ChangeAt Go.RowKit

section
variable {ops : Array Oper} {rest : List Oper} {o : Oper} {a : Act} {W : World} {Q : Act → Prop}
/-- A whole state is read, in a region whose order is drawn. -/
theorem q_ld {g : Nat} {s : St} {x : Operand} (hG : W.heap[g]? = some (stB s)) (hw : Region.wanted o (yielded ops a.tmps) = true) (ho : o.op = .load 25 x) (hx : a.eval x = .pointer (some ⟨g, 0, none⟩))
    (h : wpQuiet Tryd.prog ops (fun w' => ∃ p : Regrown, w' = Sort.grow (redrawn W p.d) p.os) Q rest (a.put o.dst s.val)) : wpQuiet Tryd.prog ops (fun w' => ∃ p : Regrown, w' = Sort.grow (redrawn W p.d) p.os) Q (o :: rest) a := by
  unfold wpQuiet
  rw [if_pos hw]
  refine ⟨s.val, fun w' hw' => ?_, h⟩
  obtain ⟨p, rfl⟩ := hw'
  have hG' : (Sort.grow (redrawn W p.d) p.os).heap[g]? = some (stB s) := ((below_regrown W p.d p.os).block g (lt_of_block hG)).trans hG
  unfold Oper.quietAt execOp
  simp only [ho, hx, Instr.loadAt, Instr.sureAddr, Sem.run_bind, Sem.run_pure, Result.andThen_ok, run_loadVar_row _ g 25 25 (stC s) (0, 0) _ hG' Tryd.underlying25 rfl (by rw [st_size]; exact infoSt)]
  exact ⟨rfl, rfl⟩
end
set_option maxHeartbeats 8000000 in
theorem walk_nat (s : St) (op jt jf : Int) (k : Nat) (d : Rec) (w : World) (hs : s.ok) (hk : k < 4294967296) (hd : d.ok) (ht : OTab w) :
    Calls Tryd.prog 3 #[s.val, insV op jt jf k, d.val] w fun e w' => e = .returned (.bool true) ∧ Below w.heap.size w w' := by
  obtain ⟨W, hW, hG, hX, hD, hb⟩ := box3 w (stB s) (insB op jt jf k) (.cells d.cells 31)
  have hz := st_zero
  have HG := Lib.hid hG
  have HX := Lib.hid hX
  have HD := Lib.hid hD
  have HB := Lib.hid hb
  have HSo := Lib.hid hs
  have HDo := Lib.hid hd
  have HT := Lib.hid ht
  have HSo' := Lib.hid (stepS_ok (x := ⟨op, jt, jf, (k : Int)⟩) hs ⟨by show (0 : Int) ≤ k; omega, by show (k : Int) ≤ 4294967295; omega⟩ hd)
  clear hG hX hD hb hs hd ht
  go_enter Tryd.func3, Tryd.ntmps3
  go_upto_region 1 with fail
  rw [← hW]
  clear hW
  obtain ⟨c0, c1, c2, c3⟩ := insX HX.out
  obtain ⟨x0, x1, x2, x3, x4, x5, x6, x7, x8⟩ := rec_cells HD.out
  go_wp2_with (refine ld_st HG.out rfl rfl rfl ?_)
  refine (step_any s op jt jf k d _ HSo.out hk HDo.out (HT.out.below HB.out)).mono ?_
  rintro e w1 ⟨rfl, hb1⟩
  obtain ⟨s', hs'⟩ : ∃ s', s' = stepS s ⟨op, jt, jf, k⟩ d := ⟨_, rfl⟩
  obtain ⟨g', hg'⟩ : ∃ g', g' = goesS s ⟨op, jt, jf, k⟩ := ⟨_, rfl⟩
  rw [← hs'] at HSo' ⊢
  rw [← hg']
  have HS' := Lib.hid hs'
  have HG' := Lib.hid hg'
  have HG1 := Lib.hid (ka (stB zeroSt) (kb hb1 HG.out))
  have HX1 := Lib.hid (ka (stB zeroSt) (kb hb1 HX.out))
  have HD1 := Lib.hid (ka (stB zeroSt) (kb hb1 HD.out))
  have HB1 := Lib.hid (ba (stB zeroSt) (HB.out.trans (hb1.mono HB.out.size)))
  have HN1 := Lib.hid (heap_alloc_new w1 (stB zeroSt))
  have hz1 : w.heap.size + 2 < w1.heap.size := lt_of_block (kb hb1 HD.out)
  clear hb1 hs' hg' c0 c1 c2 c3 x0 x1 x2 x3 x4 x5 x6 x7 x8
  go_wp2_with (first | (refine st_st HN1.out rfl rfl rfl rfl rfl ?_; intro W2 hp2; have HP2 := Lib.hid hp2; have HG2 := Lib.hid (hp2.keep (by omega) HG1.out); have HX2 := Lib.hid (hp2.keep (by omega) HX1.out); have HD2 := Lib.hid (hp2.keep (by omega) HD1.out); clear hp2; obtain ⟨c0, c1, c2, c3⟩ := insX HX2.out; obtain ⟨x0, x1, x2, x3, x4, x5, x6, x7, x8⟩ := rec_cells HD2.out) | (refine ld_st HG2.out rfl rfl rfl ?_))
  refine (rstep_any s op jt jf k d _ HSo.out hk HDo.out).mono ?_
  rintro e w3 ⟨rfl, hb3⟩
  rw [← HS'.out, ← HG'.out]
  have HB2 := Lib.hid (HP2.out.below HB1.out (by omega))
  have HG3 := Lib.hid (ka (stB zeroSt) (kb hb3 HG2.out))
  have HX3 := Lib.hid (ka (stB zeroSt) (kb hb3 HX2.out))
  have HS3 := Lib.hid (ka (stB zeroSt) (kb hb3 HP2.out.row))
  have HB3 := Lib.hid (ba (stB zeroSt) (HB2.out.trans (hb3.mono HB2.out.size)))
  have HN3 := Lib.hid (heap_alloc_new w3 (stB zeroSt))
  have hz3 : w1.heap.size < w3.heap.size := lt_of_block (kb hb3 HP2.out.row)
  clear hb3 c0 c1 c2 c3 x0 x1 x2 x3 x4 x5 x6 x7 x8
  go_wp2_with (refine st_st HN3.out rfl rfl rfl rfl rfl ?_; intro W4 hp4; have HP4 := Lib.hid hp4; clear hp4)
  have HB4 := Lib.hid (HP4.out.below HB3.out (by omega))
  have HG4 := Lib.hid (HP4.out.keep (by omega) HG3.out)
  have HX4 := Lib.hid (HP4.out.keep (by omega) HX3.out)
  have HS4 := Lib.hid (HP4.out.keep (by omega) HS3.out)
  have HU4 := Lib.hid HP4.out.row
  clear hz HP4 HG3 HX3 HS3 HB3 HN3 HG2 HX2 HD2 HP2 HB2 HG1 HX1 HD1 HB1 HN1 HG HX HD HB
  have y0 := cell_regrown (cell_in HX4.out 0)
  have y1 := cell_regrown (cell_in HX4.out 1)
  have y2 := cell_regrown (cell_in HX4.out 2)
  have y3 := cell_regrown (cell_in HX4.out 3)
  have cA : ∀ d' os, Calls Tryd.prog 12 #[s.val, insV op jt jf k] (Sort.grow (redrawn W4 d') os) fun e w'' => e = .returned (.bool (takesS s ⟨op, jt, jf, k⟩)) ∧ ∃ p : Regrown, w'' = Sort.grow (redrawn W4 p.d) p.os := fun d' os => Calls.regrown_of (takes_any s op jt jf k _)
  have cB : ∀ d' os, Calls Tryd.prog 13 #[s.val, insV op jt jf k] (Sort.grow (redrawn W4 d') os) fun e w'' => e = .returned (.bool (takesS s ⟨op, jt, jf, k⟩)) ∧ ∃ p : Regrown, w'' = Sort.grow (redrawn W4 p.d) p.os := fun d' os => Calls.regrown_of (rtakes_any s op jt jf k _ HSo.out hk)
  have cC : ∀ d' os, Calls Tryd.prog 14 #[] (Sort.grow (redrawn W4 d') os) fun e w'' => e = .returned (.bool true) ∧ ∃ p : Regrown, w'' = Sort.grow (redrawn W4 p.d) p.os := fun d' os => Calls.regrown_of (uknows_any _ (HT.out.below (HB4.out.trans ((below_regrown W4 d' os).mono HB4.out.size))))
  have hq := eq_st HSo'.out
  have hq2 := eqIn_st HSo'.out
  generalize takesS s ⟨op, jt, jf, k⟩ = tk at *
  have hgg : (g' == g') = true := by simp
  have htk : (tk == tk) = true := by simp
  refine wp_region_quiet_below (by kernel_rfl) (by kernel_rfl) ?_
  repeat (first | (refine q_ld HG4.out rfl rfl rfl ?_) | (refine q_ld HS4.out rfl rfl rfl ?_) | (refine q_ld HU4.out rfl rfl rfl ?_) | (quiet_step (first | exact cA _ _ | exact cB _ _ | exact cC _ _)))
  refine wpQuiet_nil ?_
  intro _ hw'
  obtain ⟨⟨dq, osq⟩, hw''⟩ := hw'
  subst hw''
  have hbq := below_regrown W4 dq osq
  generalize Sort.grow (redrawn W4 dq) osq = Wq at *
  go_wp2_with fail
  go_ret
  exact ⟨rfl, HB4.out.trans (hbq.mono HB4.out.size)⟩
theorem walk (s : St) (xo xt xf xk : Int) (d : Rec) (w : World) (hs : s.ok) (h0 : 0 ≤ xk) (h1 : xk ≤ 4294967295) (hd : d.ok) (ht : OTab w) :
    Calls Tryd.prog 3 #[s.val, insV xo xt xf xk, d.val] w fun e w' => e = .returned (.bool true) ∧ Below w.heap.size w w' := by
  obtain ⟨k, rfl⟩ : ∃ n : Nat, xk = n := ⟨xk.toNat, by omega⟩
  exact walk_nat s xo xt xf k d w hs (by omega) hd ht

set_option maxRecDepth 100000 in
/-- The row's contract, for every argument and every world. -/
theorem contract (H : Type) (enc : TypeId × Value → H) (W : World) (base : Nat) (args : Array Value) (ds gs : List (DataW H)) (before : List MemPlace)
    (hval : ∀ (j : Nat) t v, Tryd.f3.params[j]? = some t → args[j]? = some v → Value.okWide Tryd.prog W .any base t v)
    (hW : DataW.Whole enc Tryd.prog Tryd.f3.params.toList Rows.runStepsSpec.vars false W args.toList ds gs before) (hL : laidMetH Tryd.prog Rows.runStepsRow.laid W) :
    Calls Tryd.prog 3 args W fun e W' => ∃ v, e = .returned v ∧ Rows.runStepsSpec.post enc Tryd.prog Tryd.f3 false true false false W args v W' := by
  have hW' := hW
  obtain ⟨p, q, hA0, hV, rfl, hfz, hnd⟩ := hW
  have hA : DataW.TrodAll enc Tryd.prog W 0 (fun _ => true) true Tryd.f3.params.toList args.toList ds p := hA0
  rw [Tryd.params3] at hA hval
  obtain ⟨v0, vs0, d0, ds0, p0, q0, hargs0, rfl, rfl, t0, r0⟩ := trodAll_cons hA
  obtain ⟨v1, vs1, d1, ds1, p1, q1, hargs1, rfl, rfl, t1, r1⟩ := trodAll_cons r0
  obtain ⟨v2, vs2, d2, ds2, p2, q2, hargs2, rfl, rfl, t2, r2⟩ := trodAll_cons r1
  obtain ⟨rfl, rfl, rfl⟩ := trodAll_nil r2
  obtain rfl : args = #[v0, v1, v2] := by cases args; simp_all
  obtain ⟨s, rfl, hd0⟩ := open_state (hval 0 25 v0 rfl rfl) t0
  obtain ⟨a1, b1, c1, e1, y1, z1, u1, w1, n1, rfl, rfl, hp1, ha1, hb1, hc1, he1⟩ := Joins.open_agg4 Tryd.underlying27 (by kernel_rfl) (by kernel_rfl) (hval 1 27 v1 rfl rfl) t1
  obtain ⟨xo, qha1, gha1, wfha1⟩ := DataW.trod_int Tryd.underlying3 ha1
  obtain rfl := (List.cons.inj qha1).1
  obtain ⟨xt, qhb1, ghb1, wfhb1⟩ := DataW.trod_int Tryd.underlying3 hb1
  obtain rfl := (List.cons.inj qhb1).1
  obtain ⟨xf, qhc1, ghc1, wfhc1⟩ := DataW.trod_int Tryd.underlying3 hc1
  obtain rfl := (List.cons.inj qhc1).1
  obtain ⟨xk, qhe1, ghe1, wfhe1⟩ := DataW.trod_int Tryd.underlying22 he1
  obtain rfl := (List.cons.inj qhe1).1
  have bd1 := bounds_u32 wfhe1
  obtain ⟨d, rfl, hd2⟩ := open_data (hval 2 31 v2 rfl rfl) t2
  refine (walk s xo xt xf xk d W hd0 bd1.1 bd1.2 hd2 (otab1_of hL)).mono fun e W' ⟨he, hg⟩ => ?_
  subst he
  exact ⟨_, rfl, law_post (tb := 4) laidOut (fun t ht => by rw [Tryd.params3] at ht; revert t; exact of_decide_eq_true (by kernel_rfl)) (by kernel_rfl) Tryd.underlying4 rfl
    (fun ds h => by rw [Tryd.params3] at h; match ds, h with | [_, _, _], _ => rfl) hW' hg⟩

theorem laid_met (os : Os) : laidMet Tryd.prog Rows.runStepsRow.laid ((laidWorld1 os).forCall (fun _ _ => 0) ⟨#[], #[.agg #[.int .u32 0, .int .u32 0, .int .u32 0, .int .u32 0, .int .u32 0, .int .u32 0, .int .u32 0, .int .u32 0, .int .u32 0, .int .u32 0, .int .u32 0, .int .u32 0, .int .u32 0, .int .u32 0, .int .u32 0, .int .u32 0, .int .u32 0, .int .u32 0], .agg #[.int .i64 0, .int .i64 0, .int .i64 0, .int .u32 0], .agg #[.int .u32 0, .int .u32 0, .int .u64 0, .int .u64 0, .int .u64 0, .int .u64 0, .int .u64 0, .int .u64 0, .int .u64 0]], []⟩).memory :=
  laidMet_of_run' 8 (by kernel_rfl) (by kernel_rfl)
theorem reads (os : Os) {H : Type} (enc : TypeId × Value → H) : ∃ places, DataW.whole enc Tryd.prog ((laidWorld1 os).forCall (fun _ _ => 0) ⟨#[], #[.agg #[.int .u32 0, .int .u32 0, .int .u32 0, .int .u32 0, .int .u32 0, .int .u32 0, .int .u32 0, .int .u32 0, .int .u32 0, .int .u32 0, .int .u32 0, .int .u32 0, .int .u32 0, .int .u32 0, .int .u32 0, .int .u32 0, .int .u32 0, .int .u32 0], .agg #[.int .i64 0, .int .i64 0, .int .i64 0, .int .u32 0], .agg #[.int .u32 0, .int .u32 0, .int .u64 0, .int .u64 0, .int .u64 0, .int .u64 0, .int .u64 0, .int .u64 0, .int .u64 0]], []⟩).memory Tryd.f3.params.toList Rows.runStepsSpec.vars false #[Value.agg #[.int .u32 0, .int .u32 0, .int .u32 0, .int .u32 0, .int .u32 0, .int .u32 0, .int .u32 0, .int .u32 0, .int .u32 0, .int .u32 0, .int .u32 0, .int .u32 0, .int .u32 0, .int .u32 0, .int .u32 0, .int .u32 0, .int .u32 0, .int .u32 0], Value.agg #[.int .i64 0, .int .i64 0, .int .i64 0, .int .u32 0], Value.agg #[.int .u32 0, .int .u32 0, .int .u64 0, .int .u64 0, .int .u64 0, .int .u64 0, .int .u64 0, .int .u64 0, .int .u64 0]].toList 8 = some ([.agg [.lit (.int .u32 0), .lit (.int .u32 0), .agg [.lit (.int .u32 0), .lit (.int .u32 0), .lit (.int .u32 0), .lit (.int .u32 0), .lit (.int .u32 0), .lit (.int .u32 0), .lit (.int .u32 0), .lit (.int .u32 0), .lit (.int .u32 0), .lit (.int .u32 0), .lit (.int .u32 0), .lit (.int .u32 0), .lit (.int .u32 0), .lit (.int .u32 0), .lit (.int .u32 0), .lit (.int .u32 0)]], .agg [.lit (.int .i64 0), .lit (.int .i64 0), .lit (.int .i64 0), .lit (.int .u32 0)], .agg [.lit (.int .u32 0), .lit (.int .u32 0), .lit (.int .u64 0), .agg [.lit (.int .u64 0), .lit (.int .u64 0), .lit (.int .u64 0), .lit (.int .u64 0), .lit (.int .u64 0), .lit (.int .u64 0)]]], [], places) :=
  ⟨[], by kernel_rfl⟩

set_option maxRecDepth 100000 in
theorem lifted (os : Os) (started : os.Started) (H : Type) (enc : TypeId × Value → H) (F : Stop.Interp) :
    ReturnsInHanded {} Tryd.checked os 3 .any ((OpenSpec.ofChange Rows.runStepsSpec).preRow enc Tryd.prog Tryd.f3 Rows.runStepsRow.domain false Rows.runStepsRow.laid) (((OpenSpec.ofChange Rows.runStepsSpec).at F).post enc Tryd.prog Tryd.f3 false true false false) := by
  obtain ⟨places, hx⟩ := reads os enc
  refine returnsInHanded_of_row (C := Tryd.checked) (s := OpenSpec.ofChange Rows.runStepsSpec) own started (by kernel_rfl) Tryd.func3
    (witness_row_at (enc := enc) (C := Tryd.checked) false (laidWorld1 os) #[.agg #[.int .u32 0, .int .u32 0, .int .u32 0, .int .u32 0, .int .u32 0, .int .u32 0, .int .u32 0, .int .u32 0, .int .u32 0, .int .u32 0, .int .u32 0, .int .u32 0, .int .u32 0, .int .u32 0, .int .u32 0, .int .u32 0, .int .u32 0, .int .u32 0], .agg #[.int .i64 0, .int .i64 0, .int .i64 0, .int .u32 0], .agg #[.int .u32 0, .int .u32 0, .int .u64 0, .int .u64 0, .int .u64 0, .int .u64 0, .int .u64 0, .int .u64 0, .int .u64 0]] rfl (by kernel_rfl) (by kernel_rfl) (by kernel_rfl)
      (OpenSpec.preRow_of_cond 8 hx (by kernel_rfl) (fun k hk => by cases hk) (by kernel_rfl) (laid_met os))) ?_
  intro W base args ds gs before hval hW _ _ _ hL _ _
  exact contract H enc W base args ds gs before hval hW hL

theorem said : Rows.RunStepsSaid :=
  OpenClaim.holds_of_cond 3 Tryd.f3 rfl rfl rfl rfl rfl rfl rfl ⟨rfl, rfl, rfl, rfl, rfl⟩ rfl rfl rfl rfl rfl (by kernel_rfl) Tryd.func3 (by kernel_rfl)
    (of_decide_eq_true (by kernel_rfl)) (by unfold Func.isWrapper; first | (rw [if_pos (by decide +kernel)]; kernel_rfl) | (rw [if_neg (by decide +kernel)]; exact ⟨rfl, rfl⟩))
    (fun os started H enc _ F => by rw [OpenClaim.pre_eq_preRow]; exact lifted os started H enc F)

/-- No parameter wants a stand-in; the program's own looks are off. -/
theorem plain (f : FuncId) (fn : Func) (hf : Tryd.pinned.checked.prog.funcNamed "hurdle/hurdlelaw06.RunSteps" = some f) (hfn : Tryd.pinned.checked.prog.funcs[f]? = some fn) :
    false = Tryd.pinned.checked.prog.looks [] ∧ ∀ (j : Nat) t, fn.params[j]? = some t → Tryd.pinned.checked.prog.wantsStandIn t = false := by
  obtain rfl : f = 3 := Option.some.inj ((show Tryd.prog.funcNamed "hurdle/hurdlelaw06.RunSteps" = some 3 by kernel_rfl).symm.trans hf) |>.symm
  obtain rfl : fn = Tryd.f3 := (Option.some.inj (Tryd.func3.symm.trans hfn)).symm
  refine ⟨by kernel_rfl, fun j t ht => ?_⟩
  have hm := Array.mem_of_getElem? ht
  rw [Tryd.params3] at hm
  have all : ∀ t ∈ (#[25, 27, 31] : Array TypeId).toList, Tryd.prog.wantsStandIn t = false := of_decide_eq_true (by kernel_rfl)
  exact all t (Array.mem_toList_iff.2 hm)

/-- The tied card. -/
theorem card : Rows.RunStepsCardSaid :=
  Claim7.holds_tied_plain_at .later [] _ _ _ _ said (fun _ h => by cases h) (by kernel_rfl) (fun _ h => by cases h) runSteps_row_tie rfl ⟨rfl, rfl⟩ (by kernel_rfl) rfl plain (by kernel_rfl)
end Go.Proofs.YtkcjkamfcgdibaaDoor.runSteps
