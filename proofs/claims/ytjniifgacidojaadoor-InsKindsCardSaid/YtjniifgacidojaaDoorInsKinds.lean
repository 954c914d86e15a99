/-
  For every instruction, in every world that has the tables of math/bits, of strconv and of package ins as their initialisers lay them: the law InsKinds returns true and changes nothing that was there.
-/
import Derived.Test.YtjniifgacidojaaDoorIFrame
import Derived.Test.YtjniifgacidojaaDoorRKind
namespace Go.Proofs.YtjniifgacidojaaDoor.insKinds
open Go.ChangeShapes Go.WideShapes Go.ChangeAt Go.RowKit

set_option maxHeartbeats 1000000 in
theorem walk (xo xt xf xk : Int) (w : World) (_ : 0 ≤ xk) (_ : xk ≤ 4294967295) (hT : Tab w) (ht : OTab w) :
    Calls Tryd.prog 5 #[insV xo xt xf xk] w fun e w' => e = .returned (.bool true) ∧ Below w.heap.size w w' := by
  have HB0 := Lib.hid (ba (insB xo xt xf xk) (Below.refl w.heap.size w))
  have HX0 : Hid ((w.alloc (insB xo xt xf xk)).heap[w.heap.size]? = some (insB xo xt xf xk)) := Lib.hid (heap_alloc_new _ _)
  go_enter Tryd.func5, Tryd.ntmps5
  go_wp2_with fail
  refine (alu_is _ _ _ _ _ (ht.below HB0.out)).mono ?_
  rintro e w1 ⟨rfl, hb1⟩
  have hX1 := (hb1.block _ (lt_of_block HX0.out)).trans HX0.out
  have HB1 := Lib.hid (HB0.out.trans (hb1.mono HB0.out.size))
  have c0 : w1.cell? ⟨w.heap.size, 0, none⟩ = some (.int .i64 xo) := cell_in hX1 0
  have c1 : w1.cell? ⟨w.heap.size, 1, none⟩ = some (.int .i64 xt) := cell_in hX1 1
  have c2 : w1.cell? ⟨w.heap.size, 2, none⟩ = some (.int .i64 xf) := cell_in hX1 2
  have c3 : w1.cell? ⟨w.heap.size, 3, none⟩ = some (.int .u32 xk) := cell_in hX1 3
  have HX1 := Lib.hid hX1
  clear hb1 hX1 HX0 HB0
  go_wp2_with fail
  refine (refAlu_any _ _ _ _ _).mono ?_
  rintro e w2 ⟨rfl, hb2⟩
  have hX2 := (hb2.block _ (lt_of_block HX1.out)).trans HX1.out
  have HB2 := Lib.hid (HB1.out.trans (hb2.mono HB1.out.size))
  clear c0 c1 c2 c3
  have c0 : w2.cell? ⟨w.heap.size, 0, none⟩ = some (.int .i64 xo) := cell_in hX2 0
  have c1 : w2.cell? ⟨w.heap.size, 1, none⟩ = some (.int .i64 xt) := cell_in hX2 1
  have c2 : w2.cell? ⟨w.heap.size, 2, none⟩ = some (.int .i64 xf) := cell_in hX2 2
  have c3 : w2.cell? ⟨w.heap.size, 3, none⟩ = some (.int .u32 xk) := cell_in hX2 3
  have HX2 := Lib.hid hX2
  clear hb2 hX2 HX1 HB1
  have HBw := HB2
  have hT2 := hT.below HB2.out
  have ht2 := ht.below HB2.out
  have y0 := cell_regrown (cell_in HX2.out 0)
  have y1 := cell_regrown (cell_in HX2.out 1)
  have y2 := cell_regrown (cell_in HX2.out 2)
  have y3 := cell_regrown (cell_in HX2.out 3)
  clear c0 c1 c2 c3
  have cA : ∀ d os, Calls Tryd.prog 18 #[insV xo xt xf xk] (Sort.grow (redrawn w2 d) os) fun e w'' => e = .returned (.bool (isBranch xo)) ∧ ∃ p : Regrown, w'' = Sort.grow (redrawn w2 p.d) p.os := fun d os => Calls.regrown_of (branch_any _ _ _ _ _ (ht2.below (below_regrown w2 d os)))
  have cB : ∀ d os, Calls Tryd.prog 19 #[insV xo xt xf xk] (Sort.grow (redrawn w2 d) os) fun e w'' => e = .returned (.bool (isBranch xo)) ∧ ∃ p : Regrown, w'' = Sort.grow (redrawn w2 p.d) p.os := fun d os => Calls.regrown_of (refBranch_any _ _ _ _ _)
  have cC : ∀ d os, Calls Tryd.prog 20 #[insV xo xt xf xk] (Sort.grow (redrawn w2 d) os) fun e w'' => e = .returned (.bool (xo == 6 || xo == 22)) ∧ ∃ p : Regrown, w'' = Sort.grow (redrawn w2 p.d) p.os := fun d os => Calls.regrown_of (ends_any _ _ _ _ _)
  have cD : ∀ d os, Calls Tryd.prog 21 #[insV xo xt xf xk] (Sort.grow (redrawn w2 d) os) fun e w'' => e = .returned (.bool (xo == 6 || xo == 22)) ∧ ∃ p : Regrown, w'' = Sort.grow (redrawn w2 p.d) p.os := fun d os => Calls.regrown_of (refEnds_any _ _ _ _ _)
  have cE : ∀ d os, Calls Tryd.prog 12 #[] (Sort.grow (redrawn w2 d) os) fun e w'' => e = .returned (.bool true) ∧ ∃ p : Regrown, w'' = Sort.grow (redrawn w2 p.d) p.os := fun d os => Calls.regrown_of (iknows_any _ (hT2.below (below_regrown w2 d os)) (ht2.below (below_regrown w2 d os)))
  generalize (xo == 6 || xo == 22) = bE at *
  generalize isBranch xo = bB at *
  generalize aluX xo = bX at *
  generalize aluB xo = bA at *
  generalize aluV xo = vA at *
  go_wp2_with fail
  refine wp_region_quiet_below (by kernel_rfl) (by kernel_rfl) ?_
  repeat (quiet_step (first | exact cA _ _ | exact cB _ _ | exact cC _ _ | exact cD _ _ | exact cE _ _))
  refine wpQuiet_nil ?_
  intro _ hw'
  obtain ⟨⟨dq, osq⟩, hw''⟩ := hw'
  subst hw''
  have hbq := below_regrown w2 dq osq
  generalize Sort.grow (redrawn w2 dq) osq = Wq at *
  go_wp2_with fail
  go_ret
  exact ⟨rfl, HBw.out.trans (hbq.mono HBw.out.size)⟩

/-- The row's contract, for every argument and every world. -/
theorem contract (H : Type) (enc : TypeId × Value → H) (W : World) (base : Nat) (args : Array Value) (ds gs : List (DataW H)) (before : List MemPlace)
    (hval : ∀ (j : Nat) t v, Tryd.f5.params[j]? = some t → args[j]? = some v → Value.okWide Tryd.prog W .any base t v)
    (hW : DataW.Whole enc Tryd.prog Tryd.f5.params.toList Rows.insKindsSpec.vars false W args.toList ds gs before) (hL : laidMetH Tryd.prog Rows.insKindsRow.laid W) :
    Calls Tryd.prog 5 args W fun e W' => ∃ v, e = .returned v ∧ Rows.insKindsSpec.post enc Tryd.prog Tryd.f5 false true false false W args v W' := by
  have hW' := hW
  obtain ⟨p, q, hA0, hV, rfl, hfz, hnd⟩ := hW
  have hA : DataW.TrodAll enc Tryd.prog W 0 (fun _ => true) true Tryd.f5.params.toList args.toList ds p := hA0
  rw [Tryd.params5] at hA hval
  obtain ⟨v0, vs0, d0, ds0, p0, q0, hargs0, rfl, rfl, t0, r0⟩ := trodAll_cons hA
  obtain ⟨rfl, rfl, rfl⟩ := trodAll_nil r0
  obtain rfl : args = #[v0] := by cases args; simp_all
  obtain ⟨a0, b0, c0, e0, y0, z0, u0, w0, n0, rfl, rfl, hp0, ha0, hb0, hc0, he0⟩ := Joins.open_agg4 Tryd.underlying24 (by kernel_rfl) (by kernel_rfl) (hval 0 24 v0 rfl rfl) t0
  obtain ⟨xo, qha0, gha0, wfha0⟩ := DataW.trod_int Tryd.underlying3 ha0
  obtain rfl := (List.cons.inj qha0).1
  obtain ⟨xt, qhb0, ghb0, wfhb0⟩ := DataW.trod_int Tryd.underlying3 hb0
  obtain rfl := (List.cons.inj qhb0).1
  obtain ⟨xf, qhc0, ghc0, wfhc0⟩ := DataW.trod_int Tryd.underlying3 hc0
  obtain rfl := (List.cons.inj qhc0).1
  obtain ⟨xk, qhe0, ghe0, wfhe0⟩ := DataW.trod_int Tryd.underlying22 he0
  obtain rfl := (List.cons.inj qhe0).1
  have bd0 := bounds_u32 wfhe0
  refine (walk xo xt xf xk W bd0.1 bd0.2 (tab_of hL) (otab_of hL)).mono fun e W' ⟨he, hg⟩ => ?_
  subst he
  exact ⟨_, rfl, law_post (tb := 4) laidOut (fun t ht => by rw [Tryd.params5] at ht; revert t; exact of_decide_eq_true (by kernel_rfl)) (by kernel_rfl) Tryd.underlying4 rfl
    (fun ds h => by rw [Tryd.params5] at h; match ds, h with | [_], _ => rfl) hW' hg⟩

theorem laid_met (os : Os) : laidMet Tryd.prog Rows.insKindsRow.laid ((laidWorld os).forCall (fun _ _ => 0) ⟨#[], #[.agg #[.int .i64 0, .int .i64 0, .int .i64 0, .int .u32 0]], []⟩).memory :=
  laidMet_of_run' 8 (by kernel_rfl) (by kernel_rfl)
theorem reads (os : Os) {H : Type} (enc : TypeId × Value → H) : ∃ places, DataW.whole enc Tryd.prog ((laidWorld os).forCall (fun _ _ => 0) ⟨#[], #[.agg #[.int .i64 0, .int .i64 0, .int .i64 0, .int .u32 0]], []⟩).memory Tryd.f5.params.toList Rows.insKindsSpec.vars false #[Value.agg #[.int .i64 0, .int .i64 0, .int .i64 0, .int .u32 0]].toList 8 = some ([.agg [.lit (.int .i64 0), .lit (.int .i64 0), .lit (.int .i64 0), .lit (.int .u32 0)]], [], places) :=
  ⟨[], by kernel_rfl⟩

set_option maxRecDepth 100000 in
theorem lifted (os : Os) (started : os.Started) (H : Type) (enc : TypeId × Value → H) (F : Stop.Interp) :
    ReturnsInHanded {} Tryd.checked os 5 .any ((OpenSpec.ofChange Rows.insKindsSpec).preRow enc Tryd.prog Tryd.f5 Rows.insKindsRow.domain false Rows.insKindsRow.laid) (((OpenSpec.ofChange Rows.insKindsSpec).at F).post enc Tryd.prog Tryd.f5 false true false false) := by
  obtain ⟨places, hx⟩ := reads os enc
  refine returnsInHanded_of_row (C := Tryd.checked) (s := OpenSpec.ofChange Rows.insKindsSpec) own started (by kernel_rfl) Tryd.func5
    (witness_row_at (enc := enc) (C := Tryd.checked) false (laidWorld os) #[.agg #[.int .i64 0, .int .i64 0, .int .i64 0, .int .u32 0]] rfl (by kernel_rfl) (by kernel_rfl) (by kernel_rfl)
      (OpenSpec.preRow_of_cond 8 hx (by kernel_rfl) (fun k hk => by cases hk) (by kernel_rfl) (laid_met os))) ?_
  intro W base args ds gs before hval hW _ _ _ hL _ _
  exact contract H enc W base args ds gs before hval hW hL

theorem said : Rows.InsKindsSaid :=
  OpenClaim.holds_of_cond 5 Tryd.f5 rfl rfl rfl rfl rfl rfl rfl ⟨rfl, rfl, rfl, rfl, rfl⟩ rfl rfl rfl rfl rfl (by kernel_rfl) Tryd.func5 (by kernel_rfl)
    (of_decide_eq_true (by kernel_rfl)) (by unfold Func.isWrapper; first | (rw [if_pos (by decide +kernel)]; kernel_rfl) | (rw [if_neg (by decide +kernel)]; exact ⟨rfl, rfl⟩))
    (fun os started H enc _ F => by rw [OpenClaim.pre_eq_preRow]; exact lifted os started H enc F)

/-- No parameter wants a stand-in; the program's own looks are off. -/
theorem plain (f : FuncId) (fn : Func) (hf : Tryd.pinned.checked.prog.funcNamed "hurdle/hurdlelaw02.InsKinds" = some f) (hfn : Tryd.pinned.checked.prog.funcs[f]? = some fn) :
    false = Tryd.pinned.checked.prog.looks [] ∧ ∀ (j : Nat) t, fn.params[j]? = some t → Tryd.pinned.checked.prog.wantsStandIn t = false := by
  obtain rfl : f = 5 := Option.some.inj ((show Tryd.prog.funcNamed "hurdle/hurdlelaw02.InsKinds" = some 5 by kernel_rfl).symm.trans hf) |>.symm
  obtain rfl : fn = Tryd.f5 := (Option.some.inj (Tryd.func5.symm.trans hfn)).symm
  refine ⟨by kernel_rfl, fun j t ht => ?_⟩
  have hm := Array.mem_of_getElem? ht
  rw [Tryd.params5] at hm
  have all : ∀ t ∈ (#[24] : Array TypeId).toList, Tryd.prog.wantsStandIn t = false := of_decide_eq_true (by kernel_rfl)
  exact all t (Array.mem_toList_iff.2 hm)

/-- The tied card. -/
theorem card : Rows.InsKindsCardSaid :=
  Claim7.holds_tied_plain_at .later [] _ _ _ _ said (fun _ h => by cases h) (by kernel_rfl) (fun _ h => by cases h) insKinds_row_tie rfl ⟨rfl, rfl⟩ (by kernel_rfl) rfl plain (by kernel_rfl)
end Go.Proofs.YtjniifgacidojaaDoor.insKinds
