/-
  For every instruction and any two states, in every world that has the table of package ins as its initialiser lays it: the law LiveBranches returns true and changes nothing that was there.
-/
import Derived.Test.YtmbegncnbjafdaaDoorVFrame
import Derived.Lib.QuietBelow
namespace Go.Proofs.YtmbegncnbjafdaaDoor.liveBranches
open Go.ChangeShapes Go.WideShapes Go.ChangeAt Go.RowKit

theorem mask_over (P : Nat → Bool) : bits .andNot .u32 (maskN P 18 : Nat) 262143 = 0 := by
  have h := bits_not P fun _ => true
  have e : maskN (fun _ => true) 18 = 262143 := by decide +kernel
  rw [e] at h
  refine h.trans ?_
  rw [maskN_none fun i _ => by simp]
  rfl
set_option maxHeartbeats 8000000 in
theorem walk_nat (op jt jf : Int) (k : Nat) (s t : St) (w : World) (_hk : k < 4294967296) (_hs : s.ok) (hto : t.ok) (ht : OTab w) :
    Calls Tryd.prog 7 #[insV op jt jf k, s.val, t.val] w fun e w' => e = .returned (.bool true) ∧ Below w.heap.size w w' := by
  obtain ⟨W, hW, hX, hS, hT, hb⟩ := box3 w (insB op jt jf k) (stB s) (stB t)
  have HX := Lib.hid hX
  have HS := Lib.hid hS
  have HT := Lib.hid hT
  have HB := Lib.hid hb
  have HTW := Lib.hid (ht.below hb)
  have HTo := Lib.hid hto
  clear hX hS hT hb hto
  go_enter Tryd.func7, Tryd.ntmps7
  go_upto_region 1 with fail
  rw [← hW]
  clear hW
  obtain ⟨c0, c1, c2, c3⟩ := insX HX.out
  have y0 := cell_regrown c0
  have y1 := cell_regrown c1
  have y2 := cell_regrown c2
  have y3 := cell_regrown c3
  have hT : ∀ d' os, OTab (Sort.grow (redrawn W d') os) := fun d' os => HTW.out.below (below_regrown W d' os)
  have HTT := Lib.hid hT
  clear hT
  have cA : ∀ d' os, Calls Tryd.prog 21 #[s.val, insV op jt jf k] (Sort.grow (redrawn W d') os) fun e w'' => e = .returned (.bool (takesS s ⟨op, jt, jf, k⟩)) ∧ ∃ p : Regrown, w'' = Sort.grow (redrawn W p.d) p.os := fun d' os => Calls.regrown_of (takes_any s op jt jf k _)
  have cU : ∀ d' os, Calls Tryd.prog 10 #[insV op jt jf k] (Sort.grow (redrawn W d') os) fun e w'' => e = .returned (.int .u32 (useM ⟨op, jt, jf, k⟩ : Nat)) ∧ ∃ p : Regrown, w'' = Sort.grow (redrawn W p.d) p.os := fun d' os => Calls.regrown_of (luses_any op jt jf k _ (HTT.out d' os))
  have cS : ∀ d' os, Calls Tryd.prog 11 #[insV op jt jf k] (Sort.grow (redrawn W d') os) fun e w'' => e = .returned (.int .u32 (setM ⟨op, jt, jf, k⟩ : Nat)) ∧ ∃ p : Regrown, w'' = Sort.grow (redrawn W p.d) p.os := fun d' os => Calls.regrown_of (lsets_any op jt jf k _ (HTT.out d' os))
  have cM : ∀ d' os, Calls Tryd.prog 19 #[.int .u32 (useM ⟨op, jt, jf, k⟩ : Nat), s.val, t.val] (Sort.grow (redrawn W d') os) fun e w'' => e = .returned (mixS (usesP ⟨op, jt, jf, k⟩) s t).val ∧ ∃ p : Regrown, w'' = Sort.grow (redrawn W p.d) p.os := fun d' os => Calls.regrown_of ((rmix_any (useM ⟨op, jt, jf, k⟩) s t _ (maskN_u32 _) HTo.out.2.2.1).mono fun e w' h => ⟨by rw [← mix_mask]; exact h.1, h.2⟩)
  have cB : ∀ d' os, Calls Tryd.prog 21 #[(mixS (usesP ⟨op, jt, jf, k⟩) s t).val, insV op jt jf k] (Sort.grow (redrawn W d') os) fun e w'' => e = .returned (.bool (takesS s ⟨op, jt, jf, k⟩)) ∧ ∃ p : Regrown, w'' = Sort.grow (redrawn W p.d) p.os := fun d' os => Calls.regrown_of ((takes_any (mixS (usesP ⟨op, jt, jf, k⟩) s t) op jt jf k _).mono fun e w' h => ⟨by rw [← takes_mix s t]; exact h.1, h.2⟩)
  have cK : ∀ d' os, Calls Tryd.prog 12 #[] (Sort.grow (redrawn W d') os) fun e w'' => e = .returned (.bool true) ∧ ∃ p : Regrown, w'' = Sort.grow (redrawn W p.d) p.os := fun d' os => Calls.regrown_of (vknows_any _ (HTT.out d' os))
  have hu : bits .andNot .u32 (useM ⟨op, jt, jf, k⟩ : Nat) 262143 = 0 := mask_over _
  have hs : bits .andNot .u32 (setM ⟨op, jt, jf, k⟩ : Nat) 262143 = 0 := mask_over _
  generalize useM ⟨op, jt, jf, k⟩ = U at *
  generalize setM ⟨op, jt, jf, k⟩ = S at *
  generalize mixS (usesP ⟨op, jt, jf, k⟩) s t = Y at *
  generalize takesS s ⟨op, jt, jf, k⟩ = tk at *
  have htk : (tk == tk) = true := by simp
  clear c0 c1 c2 c3
  refine wp_region_quiet_below (by kernel_rfl) (by kernel_rfl) ?_
  repeat (first | (refine q_state HS.out rfl rfl rfl ?_) | (refine q_state HT.out rfl rfl rfl ?_) | (quiet_step (first | with_reducible exact cA _ _ | with_reducible exact cB _ _ | with_reducible exact cU _ _ | with_reducible exact cM _ _ | with_reducible exact cS _ _ | with_reducible exact cK _ _)))
  refine wpQuiet_nil ?_
  intro _ hw'
  obtain ⟨⟨dq, osq⟩, hw''⟩ := hw'
  subst hw''
  have HBq := Lib.hid (HB.out.trans ((below_regrown W dq osq).mono HB.out.size))
  clear y0 y1 y2 y3 cA cU cS cM cB cK hu hs
  generalize Sort.grow (redrawn W dq) osq = Wq at *
  go_wp2_with fail
  go_ret
  exact ⟨rfl, HBq.out⟩
theorem walk (xo xt xf xk : Int) (s t : St) (w : World) (h0 : 0 ≤ xk) (h1 : xk ≤ 4294967295) (hs : s.ok) (hto : t.ok) (ht : OTab w) :
    Calls Tryd.prog 7 #[insV xo xt xf xk, s.val, t.val] w fun e w' => e = .returned (.bool true) ∧ Below w.heap.size w w' := by
  obtain ⟨k, rfl⟩ : ∃ n : Nat, xk = n := ⟨xk.toNat, by omega⟩
  exact walk_nat xo xt xf k s t w (by omega) hs hto ht

set_option maxRecDepth 100000 in
/-- The row's contract, for every argument and every world. -/
theorem contract (H : Type) (enc : TypeId × Value → H) (W : World) (base : Nat) (args : Array Value) (ds gs : List (DataW H)) (before : List MemPlace)
    (hval : ∀ (j : Nat) t v, Tryd.f7.params[j]? = some t → args[j]? = some v → Value.okWide Tryd.prog W .any base t v)
    (hW : DataW.Whole enc Tryd.prog Tryd.f7.params.toList Rows.liveBranchesSpec.vars false W args.toList ds gs before) (hL : laidMetH Tryd.prog Rows.liveBranchesRow.laid W) :
    Calls Tryd.prog 7 args W fun e W' => ∃ v, e = .returned v ∧ Rows.liveBranchesSpec.post enc Tryd.prog Tryd.f7 false true false false W args v W' := by
  have hW' := hW
  obtain ⟨p, q, hA0, hV, rfl, hfz, hnd⟩ := hW
  have hA : DataW.TrodAll enc Tryd.prog W 0 (fun _ => true) true Tryd.f7.params.toList args.toList ds p := hA0
  rw [Tryd.params7] at hA hval
  obtain ⟨v0, vs0, d0, ds0, p0, q0, hargs0, rfl, rfl, t0, r0⟩ := trodAll_cons hA
  obtain ⟨v1, vs1, d1, ds1, p1, q1, hargs1, rfl, rfl, t1, r1⟩ := trodAll_cons r0
  obtain ⟨v2, vs2, d2, ds2, p2, q2, hargs2, rfl, rfl, t2, r2⟩ := trodAll_cons r1
  obtain ⟨rfl, rfl, rfl⟩ := trodAll_nil r2
  obtain rfl : args = #[v0, v1, v2] := by cases args; simp_all
  obtain ⟨a0, b0, c0, e0, y0, z0, u0, w0, n0, rfl, rfl, hp0, ha0, hb0, hc0, he0⟩ := Joins.open_agg4 Tryd.underlying24 (by kernel_rfl) (by kernel_rfl) (hval 0 24 v0 rfl rfl) t0
  obtain ⟨xo, qha0, gha0, wfha0⟩ := DataW.trod_int Tryd.underlying3 ha0
  obtain rfl := (List.cons.inj qha0).1
  obtain ⟨xt, qhb0, ghb0, wfhb0⟩ := DataW.trod_int Tryd.underlying3 hb0
  obtain rfl := (List.cons.inj qhb0).1
  obtain ⟨xf, qhc0, ghc0, wfhc0⟩ := DataW.trod_int Tryd.underlying3 hc0
  obtain rfl := (List.cons.inj qhc0).1
  obtain ⟨xk, qhe0, ghe0, wfhe0⟩ := DataW.trod_int Tryd.underlying22 he0
  obtain rfl := (List.cons.inj qhe0).1
  have bd0 := bounds_u32 wfhe0
  obtain ⟨s, rfl, hd1⟩ := open_state (hval 1 42 v1 rfl rfl) t1
  obtain ⟨t, rfl, hd2⟩ := open_state (hval 2 42 v2 rfl rfl) t2
  refine (walk xo xt xf xk s t W bd0.1 bd0.2 hd1 hd2 (otab1_of hL)).mono fun e W' ⟨he, hg⟩ => ?_
  subst he
  exact ⟨_, rfl, law_post (tb := 4) laidOut (fun t ht => by rw [Tryd.params7] at ht; revert t; exact of_decide_eq_true (by kernel_rfl)) (by kernel_rfl) Tryd.underlying4 rfl
    (fun ds h => by rw [Tryd.params7] at h; match ds, h with | [_, _, _], _ => rfl) hW' hg⟩

theorem laid_met (os : Os) : laidMet Tryd.prog Rows.liveBranchesRow.laid ((laidWorld1 os).forCall (fun _ _ => 0) ⟨#[], #[.agg #[.int .i64 0, .int .i64 0, .int .i64 0, .int .u32 0], .agg #[.int .u32 0, .int .u32 0, .int .u32 0, .int .u32 0, .int .u32 0, .int .u32 0, .int .u32 0, .int .u32 0, .int .u32 0, .int .u32 0, .int .u32 0, .int .u32 0, .int .u32 0, .int .u32 0, .int .u32 0, .int .u32 0, .int .u32 0, .int .u32 0], .agg #[.int .u32 0, .int .u32 0, .int .u32 0, .int .u32 0, .int .u32 0, .int .u32 0, .int .u32 0, .int .u32 0, .int .u32 0, .int .u32 0, .int .u32 0, .int .u32 0, .int .u32 0, .int .u32 0, .int .u32 0, .int .u32 0, .int .u32 0, .int .u32 0]], []⟩).memory :=
  laidMet_of_run' 8 (by kernel_rfl) (by kernel_rfl)
theorem reads (os : Os) {H : Type} (enc : TypeId × Value → H) : ∃ places, DataW.whole enc Tryd.prog ((laidWorld1 os).forCall (fun _ _ => 0) ⟨#[], #[.agg #[.int .i64 0, .int .i64 0, .int .i64 0, .int .u32 0], .agg #[.int .u32 0, .int .u32 0, .int .u32 0, .int .u32 0, .int .u32 0, .int .u32 0, .int .u32 0, .int .u32 0, .int .u32 0, .int .u32 0, .int .u32 0, .int .u32 0, .int .u32 0, .int .u32 0, .int .u32 0, .int .u32 0, .int .u32 0, .int .u32 0], .agg #[.int .u32 0, .int .u32 0, .int .u32 0, .int .u32 0, .int .u32 0, .int .u32 0, .int .u32 0, .int .u32 0, .int .u32 0, .int .u32 0, .int .u32 0, .int .u32 0, .int .u32 0, .int .u32 0, .int .u32 0, .int .u32 0, .int .u32 0, .int .u32 0]], []⟩).memory Tryd.f7.params.toList Rows.liveBranchesSpec.vars false #[Value.agg #[.int .i64 0, .int .i64 0, .int .i64 0, .int .u32 0], Value.agg #[.int .u32 0, .int .u32 0, .int .u32 0, .int .u32 0, .int .u32 0, .int .u32 0, .int .u32 0, .int .u32 0, .int .u32 0, .int .u32 0, .int .u32 0, .int .u32 0, .int .u32 0, .int .u32 0, .int .u32 0, .int .u32 0, .int .u32 0, .int .u32 0], Value.agg #[.int .u32 0, .int .u32 0, .int .u32 0, .int .u32 0, .int .u32 0, .int .u32 0, .int .u32 0, .int .u32 0, .int .u32 0, .int .u32 0, .int .u32 0, .int .u32 0, .int .u32 0, .int .u32 0, .int .u32 0, .int .u32 0, .int .u32 0, .int .u32 0]].toList 8 = some ([.agg [.lit (.int .i64 0), .lit (.int .i64 0), .lit (.int .i64 0), .lit (.int .u32 0)], .agg [.lit (.int .u32 0), .lit (.int .u32 0), .agg [.lit (.int .u32 0), .lit (.int .u32 0), .lit (.int .u32 0), .lit (.int .u32 0), .lit (.int .u32 0), .lit (.int .u32 0), .lit (.int .u32 0), .lit (.int .u32 0), .lit (.int .u32 0), .lit (.int .u32 0), .lit (.int .u32 0), .lit (.int .u32 0), .lit (.int .u32 0), .lit (.int .u32 0), .lit (.int .u32 0), .lit (.int .u32 0)]], .agg [.lit (.int .u32 0), .lit (.int .u32 0), .agg [.lit (.int .u32 0), .lit (.int .u32 0), .lit (.int .u32 0), .lit (.int .u32 0), .lit (.int .u32 0), .lit (.int .u32 0), .lit (.int .u32 0), .lit (.int .u32 0), .lit (.int .u32 0), .lit (.int .u32 0), .lit (.int .u32 0), .lit (.int .u32 0), .lit (.int .u32 0), .lit (.int .u32 0), .lit (.int .u32 0), .lit (.int .u32 0)]]], [], places) :=
  ⟨[], by kernel_rfl⟩

set_option maxRecDepth 100000 in
theorem lifted (os : Os) (started : os.Started) (H : Type) (enc : TypeId × Value → H) (F : Stop.Interp) :
    ReturnsInHanded {} Tryd.checked os 7 .any ((OpenSpec.ofChange Rows.liveBranchesSpec).preRow enc Tryd.prog Tryd.f7 Rows.liveBranchesRow.domain false Rows.liveBranchesRow.laid) (((OpenSpec.ofChange Rows.liveBranchesSpec).at F).post enc Tryd.prog Tryd.f7 false true false false) := by
  obtain ⟨places, hx⟩ := reads os enc
  refine returnsInHanded_of_row (C := Tryd.checked) (s := OpenSpec.ofChange Rows.liveBranchesSpec) own started (by kernel_rfl) Tryd.func7
    (witness_row_at (enc := enc) (C := Tryd.checked) false (laidWorld1 os) #[.agg #[.int .i64 0, .int .i64 0, .int .i64 0, .int .u32 0], .agg #[.int .u32 0, .int .u32 0, .int .u32 0, .int .u32 0, .int .u32 0, .int .u32 0, .int .u32 0, .int .u32 0, .int .u32 0, .int .u32 0, .int .u32 0, .int .u32 0, .int .u32 0, .int .u32 0, .int .u32 0, .int .u32 0, .int .u32 0, .int .u32 0], .agg #[.int .u32 0, .int .u32 0, .int .u32 0, .int .u32 0, .int .u32 0, .int .u32 0, .int .u32 0, .int .u32 0, .int .u32 0, .int .u32 0, .int .u32 0, .int .u32 0, .int .u32 0, .int .u32 0, .int .u32 0, .int .u32 0, .int .u32 0, .int .u32 0]] rfl (by kernel_rfl) (by kernel_rfl) (by kernel_rfl)
      (OpenSpec.preRow_of_cond 8 hx (by kernel_rfl) (fun k hk => by cases hk) (by kernel_rfl) (laid_met os))) ?_
  intro W base args ds gs before hval hW _ _ _ hL _ _
  exact contract H enc W base args ds gs before hval hW hL

theorem said : Rows.LiveBranchesSaid :=
  OpenClaim.holds_of_cond 7 Tryd.f7 rfl rfl rfl rfl rfl rfl rfl ⟨rfl, rfl, rfl, rfl, rfl⟩ rfl rfl rfl rfl rfl (by kernel_rfl) Tryd.func7 (by kernel_rfl)
    (of_decide_eq_true (by kernel_rfl)) (by unfold Func.isWrapper; first | (rw [if_pos (by decide +kernel)]; kernel_rfl) | (rw [if_neg (by decide +kernel)]; exact ⟨rfl, rfl⟩))
    (fun os started H enc _ F => by rw [OpenClaim.pre_eq_preRow]; exact lifted os started H enc F)

/-- No parameter wants a stand-in; the program's own looks are off. -/
theorem plain (f : FuncId) (fn : Func) (hf : Tryd.pinned.checked.prog.funcNamed "hurdle/hurdlelaw07.LiveBranches" = some f) (hfn : Tryd.pinned.checked.prog.funcs[f]? = some fn) :
    false = Tryd.pinned.checked.prog.looks [] ∧ ∀ (j : Nat) t, fn.params[j]? = some t → Tryd.pinned.checked.prog.wantsStandIn t = false := by
  obtain rfl : f = 7 := Option.some.inj ((show Tryd.prog.funcNamed "hurdle/hurdlelaw07.LiveBranches" = some 7 by kernel_rfl).symm.trans hf) |>.symm
  obtain rfl : fn = Tryd.f7 := (Option.some.inj (Tryd.func7.symm.trans hfn)).symm
  refine ⟨by kernel_rfl, fun j t ht => ?_⟩
  have hm := Array.mem_of_getElem? ht
  rw [Tryd.params7] at hm
  have all : ∀ t ∈ (#[24, 42, 42] : Array TypeId).toList, Tryd.prog.wantsStandIn t = false := of_decide_eq_true (by kernel_rfl)
  exact all t (Array.mem_toList_iff.2 hm)

/-- The tied card. -/
theorem card : Rows.LiveBranchesCardSaid :=
  Claim7.holds_tied_plain_at .later [] _ _ _ _ said (fun _ h => by cases h) (by kernel_rfl) (fun _ h => by cases h) liveBranches_row_tie rfl ⟨rfl, rfl⟩ (by kernel_rfl) rfl plain (by kernel_rfl)
end Go.Proofs.YtmbegncnbjafdaaDoor.liveBranches
