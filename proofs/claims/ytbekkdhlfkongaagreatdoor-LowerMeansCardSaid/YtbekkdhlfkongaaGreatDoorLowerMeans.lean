/-
  For every policy and every record, in every world that has the listed tables as their initialisers lay them: the law LowerMeans returns true and changes nothing that was there.
-/
import Derived.Test.YtbekkdhlfkongaaGreatDoorProg
import Derived.WalkKit
import Derived.ProofKit
import Derived.Lib.Hide
import Derived.Laws.Rows
import Derived.Laws.ResultCell
import Derived.Laws.Entries
import Derived.Handy
import Derived.OwnWalk
import Derived.Laws.OwnMore
import Derived.Deep.Draws
import Derived.Laws.IdiomStrings
import Derived.Lib.BufferRead
import Derived.Maps.OwnSet
import Derived.Laws.BitsAllLaws
import Derived.RowKit
import Derived.Lib.QuietBelow
import Derived.Lib.OthersKept
import Derived.BigQuiet
import Derived.IntWalk
import Derived.Deep.RegionHeld3
import Derived.BigRegion
import Derived.Laws.Tables
import Derived.Deep.DeepCutAuto
import Derived.Deep.QuietTactic
import Derived.Test.YtbekkdhlfkongaaGreatDoorRows
import Derived.OpenShut
import Derived.Carry
import Derived.Deep.DeepHandedRow
import Derived.Lib.SmallJoins
import Derived.WalkMore
import Derived.Shelf.Strings.Builder1
import Derived.Shelf.Strings.Search1
import Derived.Lib.IndexLaws
import Derived.Lib.AppendZerosOnto
import Derived.Lib.SliceRun
import Derived.Deep.RegionWith
import Derived.Deep.Cut
import Derived.Deep.Slices
import Derived.RangeFuncNested
import Derived.RangeFuncBound
import Derived.RangeFuncCalls
import Derived.RangeFuncLeaves
import Derived.Shelf.Abstract
import Derived.Shelf.RegionOpen
import Derived.OwnWalkIn
import Derived.TacticsInMore
import Derived.LoopNIn
import Derived.LoopIn
import Derived.Sort.MapsRangeIn
import Derived.Sort.KeysCollected
import Derived.Maps.AppendAt
import Derived.RangeFuncBox
import Derived.RangeFuncFrom
import Derived.RangeFuncSeq
import Derived.Sort.WalkA
import Derived.CellFam
import Derived.Sort.WalkC
import Derived.Sort.LotC
import Derived.Deep.CutBlock
import Derived.Deep.LoopGhost
import Derived.Sort.WalkC4
import Derived.Sort.WalkA6
import Derived.Laws.Closers25b
import Derived.Laws.Bits64b
import Derived.Sort.WalkB2
import Derived.Sort.WalkB3
import Derived.Sort.LotB
import Derived.Sort.LotD3
import Derived.Maps.RangeWalk
import Derived.StringKeys
import Derived.Lib.Split
import Derived.Deep.OwnRows
import Derived.Laws.Strings3
import Derived.Lib.Join
import Derived.Lib.MakeNoZero
import Derived.Lib.Builder
import Derived.Laws.IdiomCopy
import Derived.Test.YtbekkdhlfkongaaGreatDoorCards
import Derived.Test.YtbekkdhlfkongaaGreatDoorTie
import Derived.Lib.LaidTab
import Derived.Stop.LaidErr
import Derived.Laws.RangeAny
import Derived.Deep.AppendLies
import Derived.Deep.RegionLaw
import Derived.Test.YtbekkdhlfkongaaGreatDoorPk1
import Derived.Test.YtbekkdhlfkongaaGreatDoorPk2
import Derived.Test.YtbekkdhlfkongaaGreatDoorPk3
import Derived.Test.YtbekkdhlfkongaaGreatDoorPk4
import Derived.Test.YtbekkdhlfkongaaGreatDoorPk5
import Derived.Test.YtbekkdhlfkongaaGreatDoorPk6
import Derived.Test.YtbekkdhlfkongaaGreatDoorPk7
import Derived.Test.YtbekkdhlfkongaaGreatDoorPk8
import Derived.Test.YtbekkdhlfkongaaGreatDoorPk9
import Derived.Test.YtbekkdhlfkongaaGreatDoorPk10
import Derived.Test.YtbekkdhlfkongaaGreatDoorPk11
namespace Go.Proofs.YtbekkdhlfkongaaGreatDoor.lowerMeans
open Go.ChangeShapes Go.WideShapes Go.ChangeAt Go.RowKit

set_option maxHeartbeats 8000000 in
theorem walk (rv : Value) (q : Po) (d : Rec) (w : World) (hL : LAt w rv q.rules) (hk : q.ok) (hl : q.rules.length ≤ 9223372036854775807) (hm : ∀ x ∈ q.rules, x.conds.length ≤ 9223372036854775807) (hd : d.ok) (ht : Tab w) (hot : OTab w) :
    Calls Tryz.prog 3 #[poV rv q.dflt, d.val] w fun e w' => e = .returned (.bool true) ∧ Below w.heap.size w w' := by
  have HTab := Lib.hid ht
  have HOT := Lib.hid hot
  obtain ⟨ao, cap, rfl⟩ := hL.shape
  have HL := Lib.hid hL
  have HK := Lib.hid hk
  have HM := Lib.hid hm
  have HDo := Lib.hid hd
  have HCG : Hid (∀ V, Below w.heap.size w V → Calls Tryz.prog 8 #[poV (.slice ao q.rules.length cap) q.dflt] V fun e w' => e = .returned (.bool (greatP q)) ∧ Below V.heap.size V w') := Lib.hid (fun V hV => great_any _ q V (HL.out.below hV) hl HM.out)
  have HCR : Hid (∀ V, Below w.heap.size w V → Calls Tryz.prog 11 #[poV (.slice ao q.rules.length cap) q.dflt] V fun e w' => e = .returned (.bool q.right) ∧ Below V.heap.size V w') := Lib.hid (fun V hV => rright10_any _ q V (HL.out.below hV) HK.out hl HM.out)
  have HLO : Hid (greatP q = false → ∀ V, Below w.heap.size w V → Calls Tryz.prog 10 #[poV (.slice ao q.rules.length cap) q.dflt] V fun e w' => (∃ v, FAt w' v (if q.right then lowerN q else []) ∧ e = .returned (.tuple #[v, .int .i64 (if q.right then 0 else 1)])) ∧ Below V.heap.size V w') := Lib.hid (fun hg V hV => lower_any _ q V (HL.out.below hV) HK.out (great_no hg).1 (great_no hg).2 (HTab.out.below hV) (HOT.out.below hV))
  obtain ⟨J, hJ⟩ : ∃ J, J = judgeR q.rules q.dflt d := ⟨_, rfl⟩
  have HJ := Lib.hid hJ
  have HJD : Hid (∀ V, Below w.heap.size w V → Calls Tryz.prog 13 #[poV (.slice ao q.rules.length cap) q.dflt, d.val] V fun e w' => e = .returned (.int .u32 (J : Nat)) ∧ Below V.heap.size V w') := Lib.hid (fun V hV => by rw [hJ]; exact rjudge_any _ q d V (HL.out.below hV) HK.out hl HM.out HDo.out)
  obtain ⟨W, hW, X0, X1, HBx⟩ := box2 w (poB (.slice ao q.rules.length cap) q.dflt) (.cells d.cells 29)
  have HP0 := Lib.hid X0
  have HD0 := Lib.hid X1
  have HB0 := Lib.hid HBx
  clear X0 X1 HBx hL hk hm hd ht hot hl hJ
  go_enter Tryz.func3, Tryz.ntmps3
  go_upto_region 1 with fail
  change Code.wp _ _ _ _ ((w.alloc (poB (.slice ao q.rules.length cap) q.dflt)).alloc (.cells d.cells 29))
  rw [← hW]
  clear hW
  obtain ⟨c0, c1⟩ := pbox HP0.out
  go_wp2_with fail
  refine (HCG.out _ HB0.out).mono ?_
  rintro e w1 ⟨rfl, hb1⟩
  have HB1 := Lib.hid (below2 HB0.out hb1)
  have HP1 := Lib.hid (kb hb1 HP0.out)
  have HD1 := Lib.hid (kb hb1 HD0.out)
  clear hb1 c0 c1 HP0 HD0 HB0
  cases hgr : greatP q
  rotate_left
  · clear hgr
    go_wp2_with fail
    refine (zknow_end HB1.out HTab.out HOT.out).mono ?_
    rintro e wb ⟨rfl, hbb⟩
    have HBB := Lib.hid hbb
    clear hbb
    go_wp2_with fail
    go_ret
    exact ⟨rfl, HBB.out⟩
  have HLO2 := Lib.hid (HLO.out hgr)
  clear hgr HLO
  obtain ⟨c0, c1⟩ := pbox HP1.out
  cases hr : q.right
  · rw [hr, if_neg (by decide), if_neg (by decide)] at HLO2
    go_wp2_with fail
    refine (HLO2.out _ HB1.out).mono ?_
    rintro e w2 ⟨⟨v, hv, rfl⟩, hb2⟩
    have HB2 := Lib.hid (below2 HB1.out hb2)
    have HP2 := Lib.hid (kb hb2 HP1.out)
    obtain ⟨vo, vc, hvs⟩ := hv.shape
    have hvs2 : v = .slice vo 0 vc := hvs
    subst hvs2
    clear hv hvs hb2 c0 c1 HP1 HD1 HB1 HLO2
    obtain ⟨c0, c1⟩ := pbox HP2.out
    go_wp2_with fail
    refine (HCR.out _ HB2.out).mono ?_
    rintro e w3 ⟨rfl, hb3⟩
    rw [hr]
    have HB3 := Lib.hid (below2 HB2.out hb3)
    clear hb3 c0 c1 HP2 HB2 hr
    go_wp2_with fail
    refine (zknow_end HB3.out HTab.out HOT.out).mono ?_
    rintro e wb ⟨rfl, hbb⟩
    have HBB := Lib.hid hbb
    clear hbb
    go_wp2_with fail
    go_ret
    exact ⟨rfl, HBB.out⟩
  obtain ⟨g1, g2, _, g4⟩ := lower_ok HK.out hr
  have g5 := (g4 d HDo.out).trans HJ.out.symm
  rw [hr, if_pos rfl, if_pos rfl] at HLO2
  obtain ⟨f, hf⟩ : ∃ f, f = lowerN q := ⟨_, rfl⟩
  rw [← hf] at g1 g2 g5 HLO2
  have HS := Lib.hid g1
  have HO := Lib.hid g2
  have HR := Lib.hid g5
  have HRT := Lib.hid hr
  clear hf g1 g2 g4 g5 hr
  go_wp2_with fail
  refine (HLO2.out _ HB1.out).mono ?_
  rintro e w2 ⟨⟨v, hv, rfl⟩, hb2⟩
  have HV2 := Lib.hid hv
  have HB2 := Lib.hid (below2 HB1.out hb2)
  have HP2 := Lib.hid (kb hb2 HP1.out)
  have HD2 := Lib.hid (kb hb2 HD1.out)
  obtain ⟨vo, vc, rfl⟩ := hv.shape
  clear hv hb2 c0 c1 HP1 HD1 HB1 HLO2
  obtain ⟨c0, c1⟩ := pbox HP2.out
  go_wp2_with fail
  refine (HCR.out _ HB2.out).mono ?_
  rintro e w3 ⟨rfl, hb3⟩
  rw [HRT.out]
  have HV3 := Lib.hid (HV2.out.below hb3)
  have HB3 := Lib.hid (below2 HB2.out hb3)
  have HP3 := Lib.hid (kb hb3 HP2.out)
  have HD3 := Lib.hid (kb hb3 HD2.out)
  clear hb3 c0 c1 HP2 HD2 HB2 HV2
  obtain ⟨x0, x1, x2, x3, x4, x5, x6, x7, x8⟩ := rec_cells HD3.out
  go_wp2_with fail
  refine (run_any _ f d _ HV3.out HO.out HDo.out (HOT.out.below HB3.out) (soundB_iff.2 HS.out)).mono ?_
  rintro e w4 ⟨rfl, hb4⟩
  rw [HR.out]
  have HB4 := Lib.hid (below2 HB3.out hb4)
  have HP4 := Lib.hid (kb hb4 HP3.out)
  have HD4 := Lib.hid (kb hb4 HD3.out)
  clear hb4 x0 x1 x2 x3 x4 x5 x6 x7 x8 HP3 HD3 HB3 HV3
  obtain ⟨c0, c1⟩ := pbox HP4.out
  obtain ⟨x0, x1, x2, x3, x4, x5, x6, x7, x8⟩ := rec_cells HD4.out
  go_wp2_with fail
  refine (HJD.out _ HB4.out).mono ?_
  rintro e w5 ⟨rfl, hb5⟩
  have HB5 := Lib.hid (below2 HB4.out hb5)
  clear hb5 c0 c1 x0 x1 x2 x3 x4 x5 x6 x7 x8 HP4 HD4 HB4
  have hJJ : ((J : Int) == (J : Int)) = true := by simp
  go_wp2_with fail
  refine (zknow_end HB5.out HTab.out HOT.out).mono ?_
  rintro e wb ⟨rfl, hbb⟩
  have HBB := Lib.hid hbb
  clear hbb
  go_wp2_with fail
  go_ret
  exact ⟨rfl, HBB.out⟩

set_option maxRecDepth 100000 in
/-- The row's contract, for every argument and every world. -/
theorem contract (H : Type) (enc : TypeId × Value → H) (W : World) (base : Nat) (args : Array Value) (ds gs : List (DataW H)) (before : List MemPlace)
    (hval : ∀ (j : Nat) t v, Tryz.f3.params[j]? = some t → args[j]? = some v → Value.okWide Tryz.prog W .any base t v)
    (hW : DataW.Whole enc Tryz.prog Tryz.f3.params.toList Rows.lowerMeansSpec.vars false W args.toList ds gs before) (hL : laidMetH Tryz.prog Rows.lowerMeansRow.laid W) :
    Calls Tryz.prog 3 args W fun e W' => ∃ v, e = .returned v ∧ Rows.lowerMeansSpec.post enc Tryz.prog Tryz.f3 false true false false W args v W' := by
  have hW' := hW
  obtain ⟨p, q, hA0, hV, rfl, hfz, hnd⟩ := hW
  have hA : DataW.TrodAll enc Tryz.prog W 0 (fun _ => true) true Tryz.f3.params.toList args.toList ds p := hA0
  rw [Tryz.params3] at hA hval
  obtain ⟨v0, vs0, d0, ds0, p0, q0, hargs0, rfl, rfl, t0, r0⟩ := trodAll_cons hA
  obtain ⟨v1, vs1, d1, ds1, p1, q1, hargs1, rfl, rfl, t1, r1⟩ := trodAll_cons r0
  obtain ⟨rfl, rfl, rfl⟩ := trodAll_nil r1
  obtain rfl : args = #[v0, v1] := by cases args; simp_all
  obtain ⟨q, rv0, rfl, hL0, hk0, hl0, hm0⟩ := open_policy (hval 0 25 v0 rfl rfl) t0
  obtain ⟨d, rfl, hd1⟩ := open_data (hval 1 29 v1 rfl rfl) t1
  refine (walk rv0 q d W hL0 hk0 hl0 hm0 hd1 (tab_of hL) (otab_of hL)).mono fun e W' ⟨he, hg⟩ => ?_
  subst he
  exact ⟨_, rfl, law_post (tb := 4) laidOut (fun t ht => by rw [Tryz.params3] at ht; revert t; exact of_decide_eq_true (by kernel_rfl)) (by kernel_rfl) Tryz.underlying4 rfl
    (fun ds h => by rw [Tryz.params3] at h; match ds, h with | [_, _], _ => rfl) hW' hg⟩

theorem laid_met (os : Os) : laidMet Tryz.prog Rows.lowerMeansRow.laid ((laidWorld os).forCall (fun _ _ => 0) ⟨#[], #[.agg #[.slice none 0 0, .int .u32 0], .agg #[.int .u32 0, .int .u32 0, .int .u64 0, .int .u64 0, .int .u64 0, .int .u64 0, .int .u64 0, .int .u64 0, .int .u64 0]], []⟩).memory :=
  laidMet_of_run' 8 (by kernel_rfl) (by kernel_rfl)
theorem reads (os : Os) {H : Type} (enc : TypeId × Value → H) : ∃ places, DataW.whole enc Tryz.prog ((laidWorld os).forCall (fun _ _ => 0) ⟨#[], #[.agg #[.slice none 0 0, .int .u32 0], .agg #[.int .u32 0, .int .u32 0, .int .u64 0, .int .u64 0, .int .u64 0, .int .u64 0, .int .u64 0, .int .u64 0, .int .u64 0]], []⟩).memory Tryz.f3.params.toList Rows.lowerMeansSpec.vars false #[Value.agg #[.slice none 0 0, .int .u32 0], Value.agg #[.int .u32 0, .int .u32 0, .int .u64 0, .int .u64 0, .int .u64 0, .int .u64 0, .int .u64 0, .int .u64 0, .int .u64 0]].toList 8 = some ([.agg [.nil, .lit (.int .u32 0)], .agg [.lit (.int .u32 0), .lit (.int .u32 0), .lit (.int .u64 0), .agg [.lit (.int .u64 0), .lit (.int .u64 0), .lit (.int .u64 0), .lit (.int .u64 0), .lit (.int .u64 0), .lit (.int .u64 0)]]], [], places) :=
  ⟨[], by kernel_rfl⟩

set_option maxRecDepth 100000 in
theorem lifted (os : Os) (started : os.Started) (H : Type) (enc : TypeId × Value → H) (F : Stop.Interp) :
    ReturnsInHanded {} Tryz.checked os 3 .any ((OpenSpec.ofChange Rows.lowerMeansSpec).preRow enc Tryz.prog Tryz.f3 Rows.lowerMeansRow.domain false Rows.lowerMeansRow.laid) (((OpenSpec.ofChange Rows.lowerMeansSpec).at F).post enc Tryz.prog Tryz.f3 false true false false) := by
  obtain ⟨places, hx⟩ := reads os enc
  refine returnsInHanded_of_row (C := Tryz.checked) (s := OpenSpec.ofChange Rows.lowerMeansSpec) own started (by kernel_rfl) Tryz.func3
    (witness_row_at (enc := enc) (C := Tryz.checked) false (laidWorld os) #[.agg #[.slice none 0 0, .int .u32 0], .agg #[.int .u32 0, .int .u32 0, .int .u64 0, .int .u64 0, .int .u64 0, .int .u64 0, .int .u64 0, .int .u64 0, .int .u64 0]] rfl (by kernel_rfl) (by kernel_rfl) (by kernel_rfl)
      (OpenSpec.preRow_of_cond 8 hx (by kernel_rfl) (fun k hk => by cases hk) (by kernel_rfl) (laid_met os))) ?_
  intro W base args ds gs before hval hW _ _ _ hL _ _
  exact contract H enc W base args ds gs before hval hW hL

theorem said : Rows.LowerMeansSaid :=
  OpenClaim.holds_of_cond 3 Tryz.f3 rfl rfl rfl rfl rfl rfl rfl ⟨rfl, rfl, rfl, rfl, rfl⟩ rfl rfl rfl rfl rfl (by kernel_rfl) Tryz.func3 (by kernel_rfl)
    (of_decide_eq_true (by kernel_rfl)) (by unfold Func.isWrapper; first | (rw [if_pos (by decide +kernel)]; kernel_rfl) | (rw [if_neg (by decide +kernel)]; exact ⟨rfl, rfl⟩))
    (fun os started H enc _ F => by rw [OpenClaim.pre_eq_preRow]; exact lifted os started H enc F)

/-- No parameter wants a stand-in; the program's own looks are off. -/
theorem plain (f : FuncId) (fn : Func) (hf : Tryz.pinned.checked.prog.funcNamed "hurdle/hurdlelaw13.LowerMeans" = some f) (hfn : Tryz.pinned.checked.prog.funcs[f]? = some fn) :
    false = Tryz.pinned.checked.prog.looks [] ∧ ∀ (j : Nat) t, fn.params[j]? = some t → Tryz.pinned.checked.prog.wantsStandIn t = false := by
  obtain rfl : f = 3 := Option.some.inj ((show Tryz.prog.funcNamed "hurdle/hurdlelaw13.LowerMeans" = some 3 by kernel_rfl).symm.trans hf) |>.symm
  obtain rfl : fn = Tryz.f3 := (Option.some.inj (Tryz.func3.symm.trans hfn)).symm
  refine ⟨by kernel_rfl, fun j t ht => ?_⟩
  have hm := Array.mem_of_getElem? ht
  rw [Tryz.params3] at hm
  have all : ∀ t ∈ (#[25, 29] : Array TypeId).toList, Tryz.prog.wantsStandIn t = false := of_decide_eq_true (by kernel_rfl)
  exact all t (Array.mem_toList_iff.2 hm)

/-- The tied card. -/
theorem card : Rows.LowerMeansCardSaid :=
  Claim7.holds_tied_plain_at .later [] _ _ _ _ said (fun _ h => by cases h) (by kernel_rfl) (fun _ h => by cases h) lowerMeans_row_tie rfl ⟨rfl, rfl⟩ (by kernel_rfl) rfl plain (by kernel_rfl)
end Go.Proofs.YtbekkdhlfkongaaGreatDoor.lowerMeans
