/-
  For every code, every instruction and every two numbers, in every world that has the table of package ins as its initialiser lays it: the law CodeLabels returns true and changes nothing that was there.
-/
import Derived.Test.YtmbgcfikpndamaaDoorProg
import Derived.WalkKit
import Derived.ProofKit
import Derived.Lib.Hide
import Derived.Laws.Rows
import Derived.Laws.ResultCell
import Derived.Laws.Entries
import Derived.Handy
import Derived.OwnWalk
import Derived.Laws.OwnMore
import Derived.Deep.Draws
import Derived.Laws.IdiomStrings
import Derived.Lib.BufferRead
import Derived.Maps.OwnSet
import Derived.Laws.BitsAllLaws
import Derived.RowKit
import Derived.Lib.QuietBelow
import Derived.Lib.OthersKept
import Derived.BigQuiet
import Derived.Laws.Tables
import Derived.Deep.DeepCutAuto
import Derived.IntWalk
import Derived.Deep.RegionHeld3
import Derived.BigRegion
import Derived.Deep.QuietTactic
import Derived.Test.YtmbgcfikpndamaaDoorRows
import Derived.OpenShut
import Derived.Carry
import Derived.Deep.DeepHandedRow
import Derived.Lib.SmallJoins
import Derived.WalkMore
import Derived.Lib.AppendZerosOnto
import Derived.Lib.SliceRun
import Derived.Test.YtmbgcfikpndamaaDoorCards
import Derived.Test.YtmbgcfikpndamaaDoorTie
import Derived.Lib.LaidTab
import Derived.Stop.LaidErr
import Derived.Deep.Slices
import Derived.Test.YtmbgcfikpndamaaDoorPk1
import Derived.Test.YtmbgcfikpndamaaDoorPk2
import Derived.Test.YtmbgcfikpndamaaDoorPk3
namespace Go.Proofs.YtmbgcfikpndamaaDoor.codeLabels
open Go.ChangeShapes Go.WideShapes Go.ChangeAt Go.RowKit

set_option maxRecDepth 100000 in
set_option maxHeartbeats 8000000 in
theorem walk (v0 : Value) (c : List X4) (xo xt xf xk t f : Int) (w : World) (hF : CdAt w v0 c) (_hk : ∀ x ∈ c, x.ok) (_hm : c.length ≤ 9223372036854775807) (_k0 : 0 ≤ xk) (_k1 : xk ≤ 4294967295) (_t0 : -9223372036854775808 ≤ t) (_t1 : t ≤ 9223372036854775807) (_f0 : -9223372036854775808 ≤ f) (_f1 : f ≤ 9223372036854775807) (ht : OTab w) :
    Calls Tryd.prog 4 #[v0, insV xo xt xf xk, .int .i64 t, .int .i64 f] w fun e w' => e = .returned (.bool true) ∧ Below w.heap.size w w' := by
  obtain ⟨ao, cap, rfl⟩ := hF.shape
  have HF := Lib.hid hF
  have HT := Lib.hid ht
  obtain ⟨W, hW, X0, HBx⟩ : ∃ W, W = w.alloc (insB xo xt xf xk) ∧ W.heap[w.heap.size]? = some (insB xo xt xf xk) ∧ Below w.heap.size w W := ⟨_, rfl, heap_alloc_new _ _, ba _ (Below.refl _ _)⟩
  have HX := Lib.hid X0
  have HB0 := Lib.hid HBx
  clear X0 HBx hF
  go_enter Tryd.func4, Tryd.ntmps4
  go_upto_region 1 with fail
  rw [← hW]
  clear hW
  by_cases hbig : 1000 < c.length
  · go_wp2_with fail
    refine (hknow_end HB0.out HT.out).mono ?_
    rintro e w1 ⟨rfl, hb1⟩
    have HB1 := Lib.hid hb1
    clear hb1
    go_wp2_with fail
    go_ret
    exact ⟨rfl, HB1.out⟩
  have hl1 := (jumpN_len c t).2
  have hl2 := (branchN_len c xo xk t f).2
  obtain ⟨g1, hg1⟩ : ∃ g, g = jumpN c t := ⟨_, rfl⟩
  obtain ⟨g2, hg2⟩ : ∃ g, g = branchN c xo xk t f := ⟨_, rfl⟩
  rw [← hg1] at hl1
  rw [← hg2] at hl2
  have L1 : g1.1.length ≤ 1003 := by omega
  have L2 : g2.1.length ≤ 1003 := by omega
  have HG1 := Lib.hid hg1
  have HG2 := Lib.hid hg2
  clear hl1 hl2 hg1 hg2
  go_wp2_with fail
  refine (hjump_any _ c t _ (HF.out.below HB0.out) (by omega)).mono ?_
  rintro e w1 ⟨h, hb1⟩
  rw [← HG1.out] at h
  obtain ⟨v1, h1, _, rfl⟩ := h
  have HX1 := Lib.hid (kb hb1 HX.out)
  have HB1 := Lib.hid (below2 HB0.out hb1)
  have H1 := Lib.hid h1.1
  obtain ⟨o1, p1, rfl⟩ := h1.shape
  clear h1 hb1
  go_wp2_with fail
  refine (rjump12_any _ c t _ (HF.out.1.below HB1.out) (by omega)).mono ?_
  rintro e w2 ⟨h, hb2⟩
  rw [← HG1.out] at h
  obtain ⟨v2, h2, rfl⟩ := h
  have HX2 := Lib.hid (kb hb2 HX1.out)
  have HB2 := Lib.hid (below2 HB1.out hb2)
  have H12 := Lib.hid (H1.out.below hb2)
  have H2 := Lib.hid h2
  obtain ⟨o2, p2, rfl⟩ := h2.shape
  clear h2 hb2 H1 HX1
  obtain ⟨c0, c1, c2, c3⟩ := insX HX2.out
  go_wp2_with fail
  refine (hbranch_any _ c xo xk t f _ (HF.out.below HB2.out) (by omega) (HT.out.below HB2.out)).mono ?_
  rintro e w3 ⟨h, hb3⟩
  rw [← HG2.out] at h
  obtain ⟨v3, h3, _, rfl⟩ := h
  have HX3 := Lib.hid (kb hb3 HX2.out)
  have HB3 := Lib.hid (below2 HB2.out hb3)
  have H13 := Lib.hid (H12.out.below hb3)
  have H23 := Lib.hid (H2.out.below hb3)
  have H3 := Lib.hid h3.1
  obtain ⟨o3, p3, rfl⟩ := h3.shape
  clear h3 hb3 H12 H2 HX2 c0 c1 c2 c3
  obtain ⟨c0, c1, c2, c3⟩ := insX HX3.out
  go_wp2_with fail
  refine (rbranch12_any _ c xo xk t f _ (HF.out.1.below HB3.out) (by omega)).mono ?_
  rintro e w4 ⟨h, hb4⟩
  rw [← HG2.out] at h
  obtain ⟨v4, h4, rfl⟩ := h
  have HB4 := Lib.hid (below2 HB3.out hb4)
  have H14 := Lib.hid (H13.out.below hb4)
  have H24 := Lib.hid (H23.out.below hb4)
  have H34 := Lib.hid (H3.out.below hb4)
  have H4 := Lib.hid h4
  obtain ⟨o4, p4, rfl⟩ := h4.shape
  clear h4 hb4 H13 H23 H3 HX3 c0 c1 c2 c3
  go_wp2_with fail
  refine (same_any _ _ g1.1 g1.1 _ (by omega) H14.out H24.out).mono ?_
  rintro e w5 ⟨rfl, hb5⟩
  rw [decide_eq_true rfl]
  have HB5 := Lib.hid (below2 HB4.out hb5)
  have H35 := Lib.hid (H34.out.below hb5)
  have H45 := Lib.hid (H4.out.below hb5)
  clear hb5 H14 H24 H34 H4
  have q1 : (g1.2.1 == g1.2.1) = true := by simp
  have q2 : (g1.2.2 == g1.2.2) = true := by simp
  have q3 : (g2.2.1 == g2.2.1) = true := by simp
  have q4 : (g2.2.2 == g2.2.2) = true := by simp
  go_wp2_with fail
  refine (same_any _ _ g2.1 g2.1 _ (by omega) H35.out H45.out).mono ?_
  rintro e w6 ⟨rfl, hb6⟩
  rw [decide_eq_true rfl]
  have HB6 := Lib.hid (below2 HB5.out hb6)
  clear hb6 H35 H45
  go_wp2_with fail
  refine (hknow_end HB6.out HT.out).mono ?_
  rintro e w7 ⟨rfl, hb7⟩
  have HB7 := Lib.hid hb7
  clear hb7
  go_wp2_with fail
  go_ret
  exact ⟨rfl, HB7.out⟩

set_option maxRecDepth 100000 in
/-- The row's contract, for every argument and every world. -/
theorem contract (H : Type) (enc : TypeId × Value → H) (W : World) (base : Nat) (args : Array Value) (ds gs : List (DataW H)) (before : List MemPlace)
    (hval : ∀ (j : Nat) t v, Tryd.f4.params[j]? = some t → args[j]? = some v → Value.okWide Tryd.prog W .any base t v)
    (hW : DataW.Whole enc Tryd.prog Tryd.f4.params.toList Rows.codeLabelsSpec.vars false W args.toList ds gs before) (hL : laidMetH Tryd.prog Rows.codeLabelsRow.laid W) :
    Calls Tryd.prog 4 args W fun e W' => ∃ v, e = .returned v ∧ Rows.codeLabelsSpec.post enc Tryd.prog Tryd.f4 false true false false W args v W' := by
  have hW' := hW
  obtain ⟨p, q, hA0, hV, rfl, hfz, hnd⟩ := hW
  have hA : DataW.TrodAll enc Tryd.prog W 0 (fun _ => true) true Tryd.f4.params.toList args.toList ds p := hA0
  rw [Tryd.params4] at hA hval
  obtain ⟨v0, vs0, d0, ds0, p0, q0, hargs0, rfl, rfl, t0, r0⟩ := trodAll_cons hA
  obtain ⟨v1, vs1, d1, ds1, p1, q1, hargs1, rfl, rfl, t1, r1⟩ := trodAll_cons r0
  obtain ⟨v2, vs2, d2, ds2, p2, q2, hargs2, rfl, rfl, t2, r2⟩ := trodAll_cons r1
  obtain ⟨v3, vs3, d3, ds3, p3, q3, hargs3, rfl, rfl, t3, r3⟩ := trodAll_cons r2
  obtain ⟨rfl, rfl, rfl⟩ := trodAll_nil r3
  obtain rfl : args = #[v0, v1, v2, v3] := by cases args; simp_all
  obtain ⟨c, hF0, hk0, hm0⟩ := open_code (hval 0 22 v0 rfl rfl) t0
  obtain ⟨a1, b1, c1, e1, y1, z1, u1, w1, n1, rfl, rfl, hp1, ha1, hb1, hc1, he1⟩ := Joins.open_agg4 Tryd.underlying30 (by kernel_rfl) (by kernel_rfl) (hval 1 30 v1 rfl rfl) t1
  obtain ⟨xo, qha1, gha1, wfha1⟩ := DataW.trod_int Tryd.underlying3 ha1
  obtain rfl := (List.cons.inj qha1).1
  obtain ⟨xt, qhb1, ghb1, wfhb1⟩ := DataW.trod_int Tryd.underlying3 hb1
  obtain rfl := (List.cons.inj qhb1).1
  obtain ⟨xf, qhc1, ghc1, wfhc1⟩ := DataW.trod_int Tryd.underlying3 hc1
  obtain rfl := (List.cons.inj qhc1).1
  obtain ⟨xk, qhe1, ghe1, wfhe1⟩ := DataW.trod_int Tryd.underlying28 he1
  obtain rfl := (List.cons.inj qhe1).1
  have bd1 := bounds_u32 wfhe1
  obtain ⟨t, rfl, rfl, rfl, wf2⟩ := open_int Tryd.underlying3 (hval 2 3 v2 rfl rfl) t2
  have bd2 := bounds_i64 wf2
  obtain ⟨f, rfl, rfl, rfl, wf3⟩ := open_int Tryd.underlying3 (hval 3 3 v3 rfl rfl) t3
  have bd3 := bounds_i64 wf3
  refine (walk v0 c xo xt xf xk t f W hF0 hk0 hm0 bd1.1 bd1.2 bd2.1 bd2.2 bd3.1 bd3.2 (otab1_of hL)).mono fun e W' ⟨he, hg⟩ => ?_
  subst he
  exact ⟨_, rfl, law_post (tb := 4) laidOut (fun t ht => by rw [Tryd.params4] at ht; revert t; exact of_decide_eq_true (by kernel_rfl)) (by kernel_rfl) Tryd.underlying4 rfl
    (fun ds h => by rw [Tryd.params4] at h; match ds, h with | [_, _, _, _], _ => rfl) hW' hg⟩

theorem laid_met (os : Os) : laidMet Tryd.prog Rows.codeLabelsRow.laid ((laidWorld1 os).forCall (fun _ _ => 0) ⟨#[], #[.slice none 0 0, .agg #[.int .i64 0, .int .i64 0, .int .i64 0, .int .u32 0], .int .i64 0, .int .i64 0], []⟩).memory :=
  laidMet_of_run' 8 (by kernel_rfl) (by kernel_rfl)
theorem reads (os : Os) {H : Type} (enc : TypeId × Value → H) : ∃ places, DataW.whole enc Tryd.prog ((laidWorld1 os).forCall (fun _ _ => 0) ⟨#[], #[.slice none 0 0, .agg #[.int .i64 0, .int .i64 0, .int .i64 0, .int .u32 0], .int .i64 0, .int .i64 0], []⟩).memory Tryd.f4.params.toList Rows.codeLabelsSpec.vars false #[Value.slice none 0 0, Value.agg #[.int .i64 0, .int .i64 0, .int .i64 0, .int .u32 0], Value.int .i64 0, Value.int .i64 0].toList 8 = some ([.nil, .agg [.lit (.int .i64 0), .lit (.int .i64 0), .lit (.int .i64 0), .lit (.int .u32 0)], .lit (.int .i64 0), .lit (.int .i64 0)], [], places) :=
  ⟨[], by kernel_rfl⟩

set_option maxRecDepth 100000 in
theorem lifted (os : Os) (started : os.Started) (H : Type) (enc : TypeId × Value → H) (F : Stop.Interp) :
    ReturnsInHanded {} Tryd.checked os 4 .any ((OpenSpec.ofChange Rows.codeLabelsSpec).preRow enc Tryd.prog Tryd.f4 Rows.codeLabelsRow.domain false Rows.codeLabelsRow.laid) (((OpenSpec.ofChange Rows.codeLabelsSpec).at F).post enc Tryd.prog Tryd.f4 false true false false) := by
  obtain ⟨places, hx⟩ := reads os enc
  refine returnsInHanded_of_row (C := Tryd.checked) (s := OpenSpec.ofChange Rows.codeLabelsSpec) own started (by kernel_rfl) Tryd.func4
    (witness_row_at (enc := enc) (C := Tryd.checked) false (laidWorld1 os) #[.slice none 0 0, .agg #[.int .i64 0, .int .i64 0, .int .i64 0, .int .u32 0], .int .i64 0, .int .i64 0] rfl (by kernel_rfl) (by kernel_rfl) (by kernel_rfl)
      (OpenSpec.preRow_of_cond 8 hx (by kernel_rfl) (fun k hk => by cases hk) (by kernel_rfl) (laid_met os))) ?_
  intro W base args ds gs before hval hW _ _ _ hL _ _
  exact contract H enc W base args ds gs before hval hW hL

theorem said : Rows.CodeLabelsSaid :=
  OpenClaim.holds_of_cond 4 Tryd.f4 rfl rfl rfl rfl rfl rfl rfl ⟨rfl, rfl, rfl, rfl, rfl⟩ rfl rfl rfl rfl rfl (by kernel_rfl) Tryd.func4 (by kernel_rfl)
    (of_decide_eq_true (by kernel_rfl)) (by unfold Func.isWrapper; first | (rw [if_pos (by decide +kernel)]; kernel_rfl) | (rw [if_neg (by decide +kernel)]; exact ⟨rfl, rfl⟩))
    (fun os started H enc _ F => by rw [OpenClaim.pre_eq_preRow]; exact lifted os started H enc F)

/-- No parameter wants a stand-in; the program's own looks are off. -/
theorem plain (f : FuncId) (fn : Func) (hf : Tryd.pinned.checked.prog.funcNamed "hurdle/hurdlelaw12.CodeLabels" = some f) (hfn : Tryd.pinned.checked.prog.funcs[f]? = some fn) :
    false = Tryd.pinned.checked.prog.looks [] ∧ ∀ (j : Nat) t, fn.params[j]? = some t → Tryd.pinned.checked.prog.wantsStandIn t = false := by
  obtain rfl : f = 4 := Option.some.inj ((show Tryd.prog.funcNamed "hurdle/hurdlelaw12.CodeLabels" = some 4 by kernel_rfl).symm.trans hf) |>.symm
  obtain rfl : fn = Tryd.f4 := (Option.some.inj (Tryd.func4.symm.trans hfn)).symm
  refine ⟨by kernel_rfl, fun j t ht => ?_⟩
  have hm := Array.mem_of_getElem? ht
  rw [Tryd.params4] at hm
  have all : ∀ t ∈ (#[22, 30, 3, 3] : Array TypeId).toList, Tryd.prog.wantsStandIn t = false := of_decide_eq_true (by kernel_rfl)
  exact all t (Array.mem_toList_iff.2 hm)

/-- The tied card. -/
theorem card : Rows.CodeLabelsCardSaid :=
  Claim7.holds_tied_plain_at .later [] _ _ _ _ said (fun _ h => by cases h) (by kernel_rfl) (fun _ h => by cases h) codeLabels_row_tie rfl ⟨rfl, rfl⟩ (by kernel_rfl) rfl plain (by kernel_rfl)
end Go.Proofs.YtmbgcfikpndamaaDoor.codeLabels
