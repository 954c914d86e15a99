/-
  For every filter, every place, any two states and every record, in every world that has the table of package ins as its initialiser lays it: the law LiveRuns returns true and changes nothing that was there.
-/
import Derived.Test.YtmbegncnbjafdaaDoorVFrame
import Derived.Test.YtmbegncnbjafdaaDoorKRCheck
import Derived.Test.YtmbegncnbjafdaaDoorURFrom
import Derived.Lib.QuietBelow
namespace Go.Proofs.YtmbegncnbjafdaaDoor.liveRuns
open Go.ChangeShapes Go.WideShapes Go.ChangeAt Go.RowKit

set_option maxHeartbeats 8000000 in
theorem walk (v0 : Value) (f : List X4) (q : Int) (s t : St) (d : Rec) (w : World) (hF : FAt w v0 f) (hk : ∀ x ∈ f, x.ok) (_hm : f.length ≤ 9223372036854775807) (_h0 : -9223372036854775808 ≤ q) (_h1 : q ≤ 9223372036854775807) (hso : s.ok) (hto : t.ok) (hd : d.ok) (ht : OTab w) :
    Calls Tryd.prog 5 #[v0, .int .i64 q, s.val, t.val, d.val] w fun e w' => e = .returned (.bool true) ∧ Below w.heap.size w w' := by
  obtain ⟨ao0, cap0, rfl⟩ := hF.shape
  have HF := Lib.hid hF
  have HK := Lib.hid hk
  have HSo := Lib.hid hso
  have HTo := Lib.hid hto
  have HDo := Lib.hid hd
  obtain ⟨W, hW, hS, hT, hD, hb⟩ := box3 w (stB s) (stB t) (.cells d.cells 46)
  have HS := Lib.hid hS
  have HT := Lib.hid hT
  have HD := Lib.hid hD
  have HB := Lib.hid hb
  clear hF hk hso hto hd hS hT hD hb
  by_cases h1 : 300 < f.length
  · go_enter Tryd.func5, Tryd.ntmps5
    go_upto_region 1 with fail
    rw [← hW]
    clear hW
    go_wp2_with fail
    refine (vknow_end HB.out ht).mono ?_
    rintro e wb ⟨rfl, hbb⟩
    have HBB := Lib.hid hbb
    clear hbb
    go_wp2_with fail
    go_ret
    exact ⟨rfl, HBB.out⟩
  by_cases h2 : q < 0
  · go_enter Tryd.func5, Tryd.ntmps5
    go_upto_region 1 with fail
    rw [← hW]
    clear hW
    go_wp2_with fail
    all_goals first | (exfalso; omega) | skip
    refine (vknow_end HB.out ht).mono ?_
    rintro e wb ⟨rfl, hbb⟩
    have HBB := Lib.hid hbb
    clear hbb
    go_wp2_with fail
    go_ret
    exact ⟨rfl, HBB.out⟩
  by_cases h3 : (f.length : Int) ≤ q
  · go_enter Tryd.func5, Tryd.ntmps5
    go_upto_region 1 with fail
    rw [← hW]
    clear hW
    go_wp2_with fail
    all_goals first | (exfalso; omega) | skip
    refine (vknow_end HB.out ht).mono ?_
    rintro e wb ⟨rfl, hbb⟩
    have HBB := Lib.hid hbb
    clear hbb
    go_wp2_with fail
    go_ret
    exact ⟨rfl, HBB.out⟩
  obtain ⟨p, rfl⟩ : ∃ p : Nat, q = p := ⟨q.toNat, by omega⟩
  have hp : p < f.length := by omega
  have hp2 : (p : Int) < (f.length : Int) := by omega
  clear h2 h3
  go_enter Tryd.func5, Tryd.ntmps5
  go_upto_region 1 with fail
  rw [← hW]
  clear hW
  go_wp2_with fail
  all_goals first | (exfalso; omega) | skip
  refine (rsound5_any _ f _ (HF.out.below HB.out) HK.out).mono ?_
  rintro e w1 ⟨rfl, hb1⟩
  have HB1 := Lib.hid (below2 HB.out hb1)
  have HS1 := Lib.hid (kb hb1 HS.out)
  have HT1 := Lib.hid (kb hb1 HT.out)
  have HD1 := Lib.hid (kb hb1 HD.out)
  clear hb1
  cases hs : soundB f
  · clear hs
    go_wp2_with fail
    refine (vknow_end HB1.out ht).mono ?_
    rintro e wb ⟨rfl, hbb⟩
    have HBB := Lib.hid hbb
    clear hbb
    go_wp2_with fail
    go_ret
    exact ⟨rfl, HBB.out⟩
  have HSB := Lib.hid hs
  have HSd := Lib.hid (soundB_iff.1 hs)
  clear hs
  go_wp2_with fail
  refine (lat_any _ f _ (HF.out.below HB1.out) HK.out HSB.out (ht.below HB1.out)).mono ?_
  rintro e w2 ⟨g, rfl, hg, hb2⟩
  have HB2 := Lib.hid (below2 HB1.out hb2)
  have HG2 := Lib.hid hg
  have HS2 := Lib.hid (kb hb2 HS1.out)
  have HT2 := Lib.hid (kb hb2 HT1.out)
  have HD2 := Lib.hid (kb hb2 HD1.out)
  clear hb2 hg HS1 HT1 HD1 HS HT HD
  obtain ⟨x0, x1, x2, x3, x4, x5, x6, x7, x8⟩ := rec_cells HD2.out
  go_wp2_with (refine ld_st HS2.out rfl rfl rfl ?_)
  refine (rfrom6_any _ f d HDo.out HK.out HSd.out f.length s p _ (HF.out.below HB2.out) HSo.out hp (by omega)).mono ?_
  rintro e w3 ⟨rfl, hb3⟩
  have HB3 := Lib.hid (below2 HB2.out hb3)
  have HG3 := Lib.hid (kb hb3 HG2.out)
  have HS3 := Lib.hid (kb hb3 HS2.out)
  have HT3 := Lib.hid (kb hb3 HT2.out)
  have HD3 := Lib.hid (kb hb3 HD2.out)
  clear hb3 x0 x1 x2 x3 x4 x5 x6 x7 x8 HG2 HS2 HT2 HD2
  have HEQ := Lib.hid (runs_mix HSd.out HK.out d f.length s t p hp (by omega) HSo.out.2.2.1)
  have HMO := Lib.hid (mix_ok (P := liveF f p) HSo.out HTo.out)
  obtain ⟨R, hR⟩ : ∃ R, R = fromS f d f.length s p := ⟨_, rfl⟩
  rw [← hR] at HEQ ⊢
  clear hR
  obtain ⟨x0, x1, x2, x3, x4, x5, x6, x7, x8⟩ := rec_cells HD3.out
  have z0 := cell_regrown x0
  have z1 := cell_regrown x1
  have z2 := cell_regrown x2
  have z3 := cell_regrown x3
  have z4 := cell_regrown x4
  have z5 := cell_regrown x5
  have z6 := cell_regrown x6
  have z7 := cell_regrown x7
  have z8 := cell_regrown x8
  have y0 := cell_regrown (mask_in HG3.out hp)
  have cA : ∀ d' os, Calls Tryd.prog 19 #[.int .u32 (maskN (liveF f p) 18 : Nat), s.val, t.val] (Sort.grow (redrawn w3 d') os) fun e w'' => e = .returned (mixS (liveF f p) s t).val ∧ ∃ p : Regrown, w'' = Sort.grow (redrawn w3 p.d) p.os := fun d' os => Calls.regrown_of ((rmix_any (maskN (liveF f p) 18) s t _ (maskN_u32 _) HTo.out.2.2.1).mono fun e w' h => ⟨by rw [← mix_mask]; exact h.1, h.2⟩)
  have cB : ∀ d' os, Calls Tryd.prog 18 #[.slice ao0 f.length cap0, (mixS (liveF f p) s t).val, .int .i64 p, d.val] (Sort.grow (redrawn w3 d') os) fun e w'' => e = .returned (.tuple #[.int .u32 (R.1 : Nat), .int .i64 (R.2 : Nat)]) ∧ ∃ p : Regrown, w'' = Sort.grow (redrawn w3 p.d) p.os := fun d' os => Calls.regrown_of ((rfrom6_any _ f d HDo.out HK.out HSd.out f.length (mixS (liveF f p) s t) p _ (HF.out.below (HB3.out.trans ((below_regrown w3 d' os).mono HB3.out.size))) HMO.out hp (by omega)).mono fun e w' h => ⟨by rw [← HEQ.out]; exact h.1, h.2⟩)
  obtain ⟨r1, r2⟩ := R
  obtain ⟨M, hM⟩ : ∃ M, M = maskN (liveF f p) 18 := ⟨_, rfl⟩
  obtain ⟨Y, hY⟩ : ∃ Y, Y = mixS (liveF f p) s t := ⟨_, rfl⟩
  rw [← hM] at y0 cA
  rw [← hY] at cA cB
  clear x0 x1 x2 x3 x4 x5 x6 x7 x8 hM hY HEQ HMO
  go_wp2_with fail
  have l0 : (0 : Int) ≤ (p : Int) := by omega
  have t1 : (p : Int).toNat = p := by omega
  refine wp_region_quiet_below (by kernel_rfl) (by kernel_rfl) ?_
  repeat (first | (refine q_state HS3.out rfl rfl rfl ?_) | (refine q_state HT3.out rfl rfl rfl ?_) | (quiet_step (first | exact cA _ _ | exact cB _ _)))
  refine wpQuiet_nil ?_
  intro _ hw'
  obtain ⟨⟨dq, osq⟩, hw''⟩ := hw'
  subst hw''
  have hbq := below_regrown w3 dq osq
  have HBq := Lib.hid (HB3.out.trans (hbq.mono HB3.out.size))
  clear hbq y0 z0 z1 z2 z3 z4 z5 z6 z7 z8 cA cB
  generalize Sort.grow (redrawn w3 dq) osq = Wq at *
  have e1 : ((r1 : Int) == (r1 : Int)) = true := by simp
  have e2 : ((r2 : Int) == (r2 : Int)) = true := by simp
  go_wp2_with fail
  refine (vknow_end HBq.out ht).mono ?_
  rintro e wb ⟨rfl, hbb⟩
  have HBB := Lib.hid hbb
  clear hbb
  go_wp2_with fail
  go_ret
  exact ⟨rfl, HBB.out⟩

set_option maxRecDepth 100000 in
/-- The row's contract, for every argument and every world. -/
theorem contract (H : Type) (enc : TypeId × Value → H) (W : World) (base : Nat) (args : Array Value) (ds gs : List (DataW H)) (before : List MemPlace)
    (hval : ∀ (j : Nat) t v, Tryd.f5.params[j]? = some t → args[j]? = some v → Value.okWide Tryd.prog W .any base t v)
    (hW : DataW.Whole enc Tryd.prog Tryd.f5.params.toList Rows.liveRunsSpec.vars false W args.toList ds gs before) (hL : laidMetH Tryd.prog Rows.liveRunsRow.laid W) :
    Calls Tryd.prog 5 args W fun e W' => ∃ v, e = .returned v ∧ Rows.liveRunsSpec.post enc Tryd.prog Tryd.f5 false true false false W args v W' := by
  have hW' := hW
  obtain ⟨p, q, hA0, hV, rfl, hfz, hnd⟩ := hW
  have hA : DataW.TrodAll enc Tryd.prog W 0 (fun _ => true) true Tryd.f5.params.toList args.toList ds p := hA0
  rw [Tryd.params5] at hA hval
  obtain ⟨v0, vs0, d0, ds0, p0, q0, hargs0, rfl, rfl, t0, r0⟩ := trodAll_cons hA
  obtain ⟨v1, vs1, d1, ds1, p1, q1, hargs1, rfl, rfl, t1, r1⟩ := trodAll_cons r0
  obtain ⟨v2, vs2, d2, ds2, p2, q2, hargs2, rfl, rfl, t2, r2⟩ := trodAll_cons r1
  obtain ⟨v3, vs3, d3, ds3, p3, q3, hargs3, rfl, rfl, t3, r3⟩ := trodAll_cons r2
  obtain ⟨v4, vs4, d4, ds4, p4, q4, hargs4, rfl, rfl, t4, r4⟩ := trodAll_cons r3
  obtain ⟨rfl, rfl, rfl⟩ := trodAll_nil r4
  obtain rfl : args = #[v0, v1, v2, v3, v4] := by cases args; simp_all
  obtain ⟨f, hF0, hk0, hm0⟩ := open_filt (hval 0 30 v0 rfl rfl) t0
  obtain ⟨q, rfl, rfl, rfl, wf1⟩ := open_int Tryd.underlying3 (hval 1 3 v1 rfl rfl) t1
  have bd1 := bounds_i64 wf1
  obtain ⟨s, rfl, hd2⟩ := open_state (hval 2 42 v2 rfl rfl) t2
  obtain ⟨t, rfl, hd3⟩ := open_state (hval 3 42 v3 rfl rfl) t3
  obtain ⟨d, rfl, hd4⟩ := open_data (hval 4 46 v4 rfl rfl) t4
  refine (walk v0 f q s t d W hF0 hk0 hm0 bd1.1 bd1.2 hd2 hd3 hd4 (otab1_of hL)).mono fun e W' ⟨he, hg⟩ => ?_
  subst he
  exact ⟨_, rfl, law_post (tb := 4) laidOut (fun t ht => by rw [Tryd.params5] at ht; revert t; exact of_decide_eq_true (by kernel_rfl)) (by kernel_rfl) Tryd.underlying4 rfl
    (fun ds h => by rw [Tryd.params5] at h; match ds, h with | [_, _, _, _, _], _ => rfl) hW' hg⟩

theorem laid_met (os : Os) : laidMet Tryd.prog Rows.liveRunsRow.laid ((laidWorld1 os).forCall (fun _ _ => 0) ⟨#[], #[.slice none 0 0, .int .i64 0, .agg #[.int .u32 0, .int .u32 0, .int .u32 0, .int .u32 0, .int .u32 0, .int .u32 0, .int .u32 0, .int .u32 0, .int .u32 0, .int .u32 0, .int .u32 0, .int .u32 0, .int .u32 0, .int .u32 0, .int .u32 0, .int .u32 0, .int .u32 0, .int .u32 0], .agg #[.int .u32 0, .int .u32 0, .int .u32 0, .int .u32 0, .int .u32 0, .int .u32 0, .int .u32 0, .int .u32 0, .int .u32 0, .int .u32 0, .int .u32 0, .int .u32 0, .int .u32 0, .int .u32 0, .int .u32 0, .int .u32 0, .int .u32 0, .int .u32 0], .agg #[.int .u32 0, .int .u32 0, .int .u64 0, .int .u64 0, .int .u64 0, .int .u64 0, .int .u64 0, .int .u64 0, .int .u64 0]], []⟩).memory :=
  laidMet_of_run' 8 (by kernel_rfl) (by kernel_rfl)
theorem reads (os : Os) {H : Type} (enc : TypeId × Value → H) : ∃ places, DataW.whole enc Tryd.prog ((laidWorld1 os).forCall (fun _ _ => 0) ⟨#[], #[.slice none 0 0, .int .i64 0, .agg #[.int .u32 0, .int .u32 0, .int .u32 0, .int .u32 0, .int .u32 0, .int .u32 0, .int .u32 0, .int .u32 0, .int .u32 0, .int .u32 0, .int .u32 0, .int .u32 0, .int .u32 0, .int .u32 0, .int .u32 0, .int .u32 0, .int .u32 0, .int .u32 0], .agg #[.int .u32 0, .int .u32 0, .int .u32 0, .int .u32 0, .int .u32 0, .int .u32 0, .int .u32 0, .int .u32 0, .int .u32 0, .int .u32 0, .int .u32 0, .int .u32 0, .int .u32 0, .int .u32 0, .int .u32 0, .int .u32 0, .int .u32 0, .int .u32 0], .agg #[.int .u32 0, .int .u32 0, .int .u64 0, .int .u64 0, .int .u64 0, .int .u64 0, .int .u64 0, .int .u64 0, .int .u64 0]], []⟩).memory Tryd.f5.params.toList Rows.liveRunsSpec.vars false #[Value.slice none 0 0, Value.int .i64 0, Value.agg #[.int .u32 0, .int .u32 0, .int .u32 0, .int .u32 0, .int .u32 0, .int .u32 0, .int .u32 0, .int .u32 0, .int .u32 0, .int .u32 0, .int .u32 0, .int .u32 0, .int .u32 0, .int .u32 0, .int .u32 0, .int .u32 0, .int .u32 0, .int .u32 0], Value.agg #[.int .u32 0, .int .u32 0, .int .u32 0, .int .u32 0, .int .u32 0, .int .u32 0, .int .u32 0, .int .u32 0, .int .u32 0, .int .u32 0, .int .u32 0, .int .u32 0, .int .u32 0, .int .u32 0, .int .u32 0, .int .u32 0, .int .u32 0, .int .u32 0], Value.agg #[.int .u32 0, .int .u32 0, .int .u64 0, .int .u64 0, .int .u64 0, .int .u64 0, .int .u64 0, .int .u64 0, .int .u64 0]].toList 8 = some ([.nil, .lit (.int .i64 0), .agg [.lit (.int .u32 0), .lit (.int .u32 0), .agg [.lit (.int .u32 0), .lit (.int .u32 0), .lit (.int .u32 0), .lit (.int .u32 0), .lit (.int .u32 0), .lit (.int .u32 0), .lit (.int .u32 0), .lit (.int .u32 0), .lit (.int .u32 0), .lit (.int .u32 0), .lit (.int .u32 0), .lit (.int .u32 0), .lit (.int .u32 0), .lit (.int .u32 0), .lit (.int .u32 0), .lit (.int .u32 0)]], .agg [.lit (.int .u32 0), .lit (.int .u32 0), .agg [.lit (.int .u32 0), .lit (.int .u32 0), .lit (.int .u32 0), .lit (.int .u32 0), .lit (.int .u32 0), .lit (.int .u32 0), .lit (.int .u32 0), .lit (.int .u32 0), .lit (.int .u32 0), .lit (.int .u32 0), .lit (.int .u32 0), .lit (.int .u32 0), .lit (.int .u32 0), .lit (.int .u32 0), .lit (.int .u32 0), .lit (.int .u32 0)]], .agg [.lit (.int .u32 0), .lit (.int .u32 0), .lit (.int .u64 0), .agg [.lit (.int .u64 0), .lit (.int .u64 0), .lit (.int .u64 0), .lit (.int .u64 0), .lit (.int .u64 0), .lit (.int .u64 0)]]], [], places) :=
  ⟨[], by kernel_rfl⟩

set_option maxRecDepth 100000 in
theorem lifted (os : Os) (started : os.Started) (H : Type) (enc : TypeId × Value → H) (F : Stop.Interp) :
    ReturnsInHanded {} Tryd.checked os 5 .any ((OpenSpec.ofChange Rows.liveRunsSpec).preRow enc Tryd.prog Tryd.f5 Rows.liveRunsRow.domain false Rows.liveRunsRow.laid) (((OpenSpec.ofChange Rows.liveRunsSpec).at F).post enc Tryd.prog Tryd.f5 false true false false) := by
  obtain ⟨places, hx⟩ := reads os enc
  refine returnsInHanded_of_row (C := Tryd.checked) (s := OpenSpec.ofChange Rows.liveRunsSpec) own started (by kernel_rfl) Tryd.func5
    (witness_row_at (enc := enc) (C := Tryd.checked) false (laidWorld1 os) #[.slice none 0 0, .int .i64 0, .agg #[.int .u32 0, .int .u32 0, .int .u32 0, .int .u32 0, .int .u32 0, .int .u32 0, .int .u32 0, .int .u32 0, .int .u32 0, .int .u32 0, .int .u32 0, .int .u32 0, .int .u32 0, .int .u32 0, .int .u32 0, .int .u32 0, .int .u32 0, .int .u32 0], .agg #[.int .u32 0, .int .u32 0, .int .u32 0, .int .u32 0, .int .u32 0, .int .u32 0, .int .u32 0, .int .u32 0, .int .u32 0, .int .u32 0, .int .u32 0, .int .u32 0, .int .u32 0, .int .u32 0, .int .u32 0, .int .u32 0, .int .u32 0, .int .u32 0], .agg #[.int .u32 0, .int .u32 0, .int .u64 0, .int .u64 0, .int .u64 0, .int .u64 0, .int .u64 0, .int .u64 0, .int .u64 0]] rfl (by kernel_rfl) (by kernel_rfl) (by kernel_rfl)
      (OpenSpec.preRow_of_cond 8 hx (by kernel_rfl) (fun k hk => by cases hk) (by kernel_rfl) (laid_met os))) ?_
  intro W base args ds gs before hval hW _ _ _ hL _ _
  exact contract H enc W base args ds gs before hval hW hL

theorem said : Rows.LiveRunsSaid :=
  OpenClaim.holds_of_cond 5 Tryd.f5 rfl rfl rfl rfl rfl rfl rfl ⟨rfl, rfl, rfl, rfl, rfl⟩ rfl rfl rfl rfl rfl (by kernel_rfl) Tryd.func5 (by kernel_rfl)
    (of_decide_eq_true (by kernel_rfl)) (by unfold Func.isWrapper; first | (rw [if_pos (by decide +kernel)]; kernel_rfl) | (rw [if_neg (by decide +kernel)]; exact ⟨rfl, rfl⟩))
    (fun os started H enc _ F => by rw [OpenClaim.pre_eq_preRow]; exact lifted os started H enc F)

/-- No parameter wants a stand-in; the program's own looks are off. -/
theorem plain (f : FuncId) (fn : Func) (hf : Tryd.pinned.checked.prog.funcNamed "hurdle/hurdlelaw07.LiveRuns" = some f) (hfn : Tryd.pinned.checked.prog.funcs[f]? = some fn) :
    false = Tryd.pinned.checked.prog.looks [] ∧ ∀ (j : Nat) t, fn.params[j]? = some t → Tryd.pinned.checked.prog.wantsStandIn t = false := by
  obtain rfl : f = 5 := Option.some.inj ((show Tryd.prog.funcNamed "hurdle/hurdlelaw07.LiveRuns" = some 5 by kernel_rfl).symm.trans hf) |>.symm
  obtain rfl : fn = Tryd.f5 := (Option.some.inj (Tryd.func5.symm.trans hfn)).symm
  refine ⟨by kernel_rfl, fun j t ht => ?_⟩
  have hm := Array.mem_of_getElem? ht
  rw [Tryd.params5] at hm
  have all : ∀ t ∈ (#[30, 3, 42, 42, 46] : Array TypeId).toList, Tryd.prog.wantsStandIn t = false := of_decide_eq_true (by kernel_rfl)
  exact all t (Array.mem_toList_iff.2 hm)

/-- The tied card. -/
theorem card : Rows.LiveRunsCardSaid :=
  Claim7.holds_tied_plain_at .later [] _ _ _ _ said (fun _ h => by cases h) (by kernel_rfl) (fun _ h => by cases h) liveRuns_row_tie rfl ⟨rfl, rfl⟩ (by kernel_rfl) rfl plain (by kernel_rfl)
end Go.Proofs.YtmbegncnbjafdaaDoor.liveRuns
