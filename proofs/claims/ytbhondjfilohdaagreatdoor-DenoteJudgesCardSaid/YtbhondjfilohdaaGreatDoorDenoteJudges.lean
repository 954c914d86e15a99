/-
  For every policy, rule and record, in every world that has the listed tables as their initialisers lay them: the law DenoteJudges returns true and changes nothing that was there.
-/
import Derived.Test.YtbhondjfilohdaaGreatDoorProg
import Derived.WalkKit
import Derived.Laws.BitsAllLaws
import Derived.RowKit
import Derived.ProofKit
import Derived.Lib.Hide
import Derived.Laws.Rows
import Derived.Laws.ResultCell
import Derived.Laws.Entries
import Derived.Handy
import Derived.OwnWalk
import Derived.Laws.OwnMore
import Derived.Deep.Draws
import Derived.Laws.IdiomStrings
import Derived.Lib.BufferRead
import Derived.Maps.OwnSet
import Derived.BigQuiet
import Derived.IntWalk
import Derived.Deep.RegionHeld3
import Derived.BigRegion
import Derived.Lib.OthersKept
import Derived.Lib.QuietBelow
import Derived.Shelf.Strings.Builder1
import Derived.Shelf.Strings.Search1
import Derived.Lib.IndexLaws
import Derived.Laws.Tables
import Derived.Deep.DeepCutAuto
import Derived.Deep.Cut
import Derived.Deep.Slices
import Derived.Maps.RangeWalk
import Derived.StringKeys
import Derived.Lib.Split
import Derived.Deep.OwnRows
import Derived.Laws.Strings3
import Derived.Lib.Join
import Derived.Lib.MakeNoZero
import Derived.Lib.Builder
import Derived.Laws.IdiomCopy
import Derived.Test.YtbhondjfilohdaaGreatDoorRows
import Derived.OpenShut
import Derived.Carry
import Derived.Deep.DeepHandedRow
import Derived.Lib.SmallJoins
import Derived.Laws.RangeAny
import Derived.Deep.LoopGhost
import Derived.WalkMore
import Derived.Deep.AppendLies
import Derived.Deep.RegionLaw
import Derived.Test.YtbhondjfilohdaaGreatDoorCards
import Derived.Test.YtbhondjfilohdaaGreatDoorTie
import Derived.Lib.LaidTab
import Derived.Stop.LaidErr
import Derived.Test.YtbhondjfilohdaaGreatDoorPk1
import Derived.Test.YtbhondjfilohdaaGreatDoorPk2
import Derived.Test.YtbhondjfilohdaaGreatDoorPk3
import Derived.Test.YtbhondjfilohdaaGreatDoorPk4
import Derived.Test.YtbhondjfilohdaaGreatDoorPk5
namespace Go.Proofs.YtbhondjfilohdaaGreatDoor.denoteJudges
open Go.ChangeShapes Go.WideShapes Go.ChangeAt Go.RowKit

set_option maxHeartbeats 8000000 in
theorem walk (rv : Value) (q : Po) (cv : Value) (x : Rl) (d : Rec) (w : World) (hL : LAt w rv q.rules) (hk : q.ok) (hl : q.rules.length ≤ 9223372036854775807) (hm : ∀ x ∈ q.rules, x.conds.length ≤ 9223372036854775807) (hC : CAt w cv x.conds) (hxk : x.ok) (hxl : x.conds.length ≤ 9223372036854775807) (hd : d.ok) (ht : Tab w) :
    Calls Tryz.prog 3 #[poV rv q.dflt, x.val cv, d.val] w fun e w' => e = .returned (.bool true) ∧ Below w.heap.size w w' := by
  have HTab := Lib.hid ht
  have HDo := Lib.hid hd
  obtain ⟨ao, cap, rfl⟩ := hL.shape
  obtain ⟨co, ccap, rfl⟩ := hC.shape
  have HL := Lib.hid hL
  have HC := Lib.hid hC
  have HK := Lib.hid hk
  have HXK := Lib.hid hxk
  have HM := Lib.hid hm
  obtain ⟨F, hF⟩ : ∃ F, fitsR x d = F := ⟨_, rfl⟩
  have HCG : Hid (∀ V, Below w.heap.size w V → Calls Tryz.prog 4 #[poV (.slice ao q.rules.length cap) q.dflt] V fun e w' => e = .returned (.bool (greatP q)) ∧ Below V.heap.size V w') := Lib.hid (fun V hV => great_any _ q V (HL.out.below hV) hl HM.out)
  have HCR : Hid (∀ V, Below w.heap.size w V → Calls Tryz.prog 10 #[poV (.slice ao q.rules.length cap) q.dflt] V fun e w' => e = .returned (.bool q.right) ∧ Below V.heap.size V w') := Lib.hid (fun V hV => rright10_any _ q V (HL.out.below hV) HK.out hl HM.out)
  have HCF : Hid (∀ V, Below w.heap.size w V → Calls Tryz.prog 8 #[x.val (.slice co x.conds.length ccap), d.val] V fun e w' => e = .returned (.bool F) ∧ Below V.heap.size V w') := Lib.hid (fun V hV => by rw [← hF]; exact efits_any _ x d V (HC.out.below hV) HXK.out hxl HDo.out (HTab.out.below hV))
  have HDF : Hid (∀ V, Below w.heap.size w V → Calls Tryz.prog 9 #[x.val (.slice co x.conds.length ccap), d.val] V fun e w' => e = .returned (.bool F) ∧ Below V.heap.size V w') := Lib.hid (fun V hV => by rw [← hF]; exact rfits_any _ x d V (HC.out.below hV) HXK.out hxl HDo.out)
  obtain ⟨Fi, hFi⟩ : ∃ F : Int, F = if q.right then firstN q.rules 0 d else 0 := ⟨_, rfl⟩
  obtain ⟨Ju, hJu⟩ : ∃ J : Nat, J = if q.right then judgeR q.rules q.dflt d else 0 := ⟨_, rfl⟩
  obtain ⟨En, hEn⟩ : ∃ E : Int, E = if q.right then 0 else 1 := ⟨_, rfl⟩
  have HFI : Hid (∀ V, Below w.heap.size w V → Calls Tryz.prog 6 #[poV (.slice ao q.rules.length cap) q.dflt, d.val] V fun e w' => e = .returned (.tuple #[.int .i64 Fi, .int .i64 En]) ∧ Below V.heap.size V w') := Lib.hid (fun V hV => by rw [hFi, hEn]; exact efirst_any _ q d V (HL.out.below hV) HK.out hl HM.out HDo.out (HTab.out.below hV))
  have HJU : Hid (∀ V, Below w.heap.size w V → Calls Tryz.prog 7 #[poV (.slice ao q.rules.length cap) q.dflt, d.val] V fun e w' => e = .returned (.tuple #[.int .u32 (Ju : Nat), .int .i64 En]) ∧ Below V.heap.size V w') := Lib.hid (fun V hV => by rw [hJu, hEn]; exact ejudge_any _ q d V (HL.out.below hV) HK.out hl HM.out HDo.out (HTab.out.below hV))
  have HDI : Hid (∀ V, Below w.heap.size w V → Calls Tryz.prog 11 #[poV (.slice ao q.rules.length cap) q.dflt, d.val] V fun e w' => e = .returned (.int .i64 (firstN q.rules 0 d)) ∧ Below V.heap.size V w') := Lib.hid (fun V hV => rfirst_any _ q d V (HL.out.below hV) HK.out hl HM.out HDo.out)
  have HDJ : Hid (∀ V, Below w.heap.size w V → Calls Tryz.prog 12 #[poV (.slice ao q.rules.length cap) q.dflt, d.val] V fun e w' => e = .returned (.int .u32 (judgeR q.rules q.dflt d : Nat)) ∧ Below V.heap.size V w') := Lib.hid (fun V hV => rjudge_any _ q d V (HL.out.below hV) HK.out hl HM.out HDo.out)
  have HFi := Lib.hid hFi
  have HJu := Lib.hid hJu
  have HEn := Lib.hid hEn
  obtain ⟨W, hW, X0, X1, X2, HBx⟩ := box3 w (poB (.slice ao q.rules.length cap) q.dflt) (rlB x (.slice co x.conds.length ccap)) (.cells d.cells 32)
  have HP0 := Lib.hid X0
  have HX0 := Lib.hid X1
  have HD0 := Lib.hid X2
  have HB0 := Lib.hid HBx
  clear X0 X1 X2 HBx hL hC hk hxk hm hd ht hl hF hFi hJu hEn
  go_enter Tryz.func3, Tryz.ntmps3
  go_upto_region 1 with fail
  change Code.wp _ _ _ _ (((w.alloc (poB (.slice ao q.rules.length cap) q.dflt)).alloc (rlB x (.slice co x.conds.length ccap))).alloc (.cells d.cells 32))
  rw [← hW]
  clear hW
  obtain ⟨c0, c1⟩ := pbox HP0.out
  go_wp2_with fail
  refine (HCG.out _ HB0.out).mono ?_
  rintro e w1 ⟨rfl, hb1⟩
  have HB1 := Lib.hid (below2 HB0.out hb1)
  have HP1 := Lib.hid (kb hb1 HP0.out)
  have HX1 := Lib.hid (kb hb1 HX0.out)
  have HD1 := Lib.hid (kb hb1 HD0.out)
  clear hb1 c0 c1 HP0 HX0 HD0 HB0
  cases hgr : greatP q
  rotate_left
  · clear hgr
    go_wp2_with fail
    refine (eknow_end HB1.out HTab.out).mono ?_
    rintro e wb ⟨rfl, hbb⟩
    have HBB := Lib.hid hbb
    clear hbb
    go_wp2_with fail
    go_ret
    exact ⟨rfl, HBB.out⟩
  clear hgr
  obtain ⟨x0, x1, x2, x3⟩ := rbox HX1.out
  by_cases h100 : 100 < x.conds.length
  · have e1 : decide ((100 : Int) < (x.conds.length : Int)) = true := by simp; omega
    clear h100
    go_wp2_with fail
    refine (eknow_end HB1.out HTab.out).mono ?_
    rintro e wb ⟨rfl, hbb⟩
    have HBB := Lib.hid hbb
    clear hbb
    go_wp2_with fail
    go_ret
    exact ⟨rfl, HBB.out⟩
  have e1 : decide ((100 : Int) < (x.conds.length : Int)) = false := by simp; omega
  obtain ⟨c0, c1⟩ := pbox HP1.out
  obtain ⟨d0, d1, d2, d3, d4, d5, d6, d7, d8⟩ := rec_cells HD1.out
  clear h100
  go_wp2_with fail
  refine (HFI.out _ HB1.out).mono ?_
  rintro e w2 ⟨rfl, hb2⟩
  have HB2 := Lib.hid (below2 HB1.out hb2)
  have HP2 := Lib.hid (kb hb2 HP1.out)
  have HX2 := Lib.hid (kb hb2 HX1.out)
  have HD2 := Lib.hid (kb hb2 HD1.out)
  clear hb2 c0 c1 x0 x1 x2 x3 d0 d1 d2 d3 d4 d5 d6 d7 d8 HP1 HX1 HD1 HB1
  obtain ⟨c0, c1⟩ := pbox HP2.out
  obtain ⟨d0, d1, d2, d3, d4, d5, d6, d7, d8⟩ := rec_cells HD2.out
  go_wp2_with fail
  refine (HJU.out _ HB2.out).mono ?_
  rintro e w3 ⟨rfl, hb3⟩
  have HB3 := Lib.hid (below2 HB2.out hb3)
  have HP3 := Lib.hid (kb hb3 HP2.out)
  have HX3 := Lib.hid (kb hb3 HX2.out)
  have HD3 := Lib.hid (kb hb3 HD2.out)
  clear hb3 c0 c1 d0 d1 d2 d3 d4 d5 d6 d7 d8 HP2 HX2 HD2 HB2
  obtain ⟨x0, x1, x2, x3⟩ := rbox HX3.out
  obtain ⟨d0, d1, d2, d3, d4, d5, d6, d7, d8⟩ := rec_cells HD3.out
  have cA : ∀ d' os, Calls Tryz.prog 8 #[x.val (.slice co x.conds.length ccap), d.val] (Sort.grow (redrawn w3 d') os) fun e w'' => e = .returned (.bool F) ∧ ∃ p : Regrown, w'' = Sort.grow (redrawn w3 p.d) p.os := fun d' os => Calls.regrown_of (HCF.out _ (HB3.out.trans ((below_regrown w3 d' os).mono HB3.out.size)))
  have cB : ∀ d' os, Calls Tryz.prog 9 #[x.val (.slice co x.conds.length ccap), d.val] (Sort.grow (redrawn w3 d') os) fun e w'' => e = .returned (.bool F) ∧ ∃ p : Regrown, w'' = Sort.grow (redrawn w3 p.d) p.os := fun d' os => Calls.regrown_of (HDF.out _ (HB3.out.trans ((below_regrown w3 d' os).mono HB3.out.size)))
  have y0 := cell_regrown d0
  have y1 := cell_regrown d1
  have y2 := cell_regrown d2
  have y3 := cell_regrown d3
  have y4 := cell_regrown d4
  have y5 := cell_regrown d5
  have y6 := cell_regrown d6
  have y7 := cell_regrown d7
  have y8 := cell_regrown d8
  have z0 := cell_regrown x0
  have z1 := cell_regrown x1
  have z2 := cell_regrown x2
  have z3 := cell_regrown x3
  have ef : (F != F) = false := by simp
  clear d0 d1 d2 d3 d4 d5 d6 d7 d8 x0 x1 x2 x3
  go_wp2_with fail
  refine wp_region_quiet_below (by kernel_rfl) (by kernel_rfl) ?_
  repeat (quiet_step (first | with_reducible exact cA _ _ | with_reducible exact cB _ _))
  refine wpQuiet_nil ?_
  intro _ hw'
  obtain ⟨⟨dq, osq⟩, hw''⟩ := hw'
  subst hw''
  have hbq := below_regrown w3 dq osq
  have HB4 := Lib.hid (below2 HB3.out hbq)
  have HP4 := Lib.hid (kb hbq HP3.out)
  have HD4 := Lib.hid (kb hbq HD3.out)
  clear hbq cA cB y0 y1 y2 y3 y4 y5 y6 y7 y8 z0 z1 z2 z3 HP3 HX3 HD3 HB3
  generalize Sort.grow (redrawn w3 dq) osq = w4 at *
  obtain ⟨c0, c1⟩ := pbox HP4.out
  go_wp2_with fail
  refine (HCR.out _ HB4.out).mono ?_
  rintro e w5 ⟨rfl, hb5⟩
  have HB5 := Lib.hid (below2 HB4.out hb5)
  have HP5 := Lib.hid (kb hb5 HP4.out)
  have HD5 := Lib.hid (kb hb5 HD4.out)
  clear hb5 c0 c1 ef HP4 HD4 HB4
  cases hr : q.right
  · obtain rfl : Fi = 0 := by rw [HFi.out, hr]; rfl
    obtain rfl : Ju = 0 := by rw [HJu.out, hr]; rfl
    obtain rfl : En = 1 := by rw [HEn.out, hr]; rfl
    clear hr HFi HJu HEn
    go_wp2_with fail
    refine (eknow_end HB5.out HTab.out).mono ?_
    rintro e wb ⟨rfl, hbb⟩
    have HBB := Lib.hid hbb
    clear hbb
    go_wp2_with fail
    go_ret
    exact ⟨rfl, HBB.out⟩
  obtain rfl : En = 0 := by rw [HEn.out, hr]; rfl
  have hfi : firstN q.rules 0 d = Fi := by rw [HFi.out, hr]; rfl
  have hju : judgeR q.rules q.dflt d = Ju := by rw [HJu.out, hr]; rfl
  rw [hfi] at HDI
  rw [hju] at HDJ
  have e2 : (Fi == Fi) = true := by simp
  have e3 : ((Ju : Int) == (Ju : Int)) = true := by simp
  clear hr HFi HJu HEn hfi hju
  obtain ⟨c0, c1⟩ := pbox HP5.out
  obtain ⟨d0, d1, d2, d3, d4, d5, d6, d7, d8⟩ := rec_cells HD5.out
  go_wp2_with fail
  refine (HDI.out _ HB5.out).mono ?_
  rintro e w6 ⟨rfl, hb6⟩
  have HB6 := Lib.hid (below2 HB5.out hb6)
  have HP6 := Lib.hid (kb hb6 HP5.out)
  have HD6 := Lib.hid (kb hb6 HD5.out)
  clear hb6 c0 c1 d0 d1 d2 d3 d4 d5 d6 d7 d8 HP5 HD5 HB5
  obtain ⟨c0, c1⟩ := pbox HP6.out
  obtain ⟨d0, d1, d2, d3, d4, d5, d6, d7, d8⟩ := rec_cells HD6.out
  go_wp2_with fail
  refine (HDJ.out _ HB6.out).mono ?_
  rintro e w7 ⟨rfl, hb7⟩
  have HB7 := Lib.hid (below2 HB6.out hb7)
  clear hb7 c0 c1 d0 d1 d2 d3 d4 d5 d6 d7 d8 HP6 HD6 HB6
  go_wp2_with fail
  refine (eknow_end HB7.out HTab.out).mono ?_
  rintro e wb ⟨rfl, hbb⟩
  have HBB := Lib.hid hbb
  clear hbb
  go_wp2_with fail
  go_ret
  exact ⟨rfl, HBB.out⟩

set_option maxRecDepth 100000 in
/-- The row's contract, for every argument and every world. -/
theorem contract (H : Type) (enc : TypeId × Value → H) (W : World) (base : Nat) (args : Array Value) (ds gs : List (DataW H)) (before : List MemPlace)
    (hval : ∀ (j : Nat) t v, Tryz.f3.params[j]? = some t → args[j]? = some v → Value.okWide Tryz.prog W .any base t v)
    (hW : DataW.Whole enc Tryz.prog Tryz.f3.params.toList Rows.denoteJudgesSpec.vars false W args.toList ds gs before) (hL : laidMetH Tryz.prog Rows.denoteJudgesRow.laid W) :
    Calls Tryz.prog 3 args W fun e W' => ∃ v, e = .returned v ∧ Rows.denoteJudgesSpec.post enc Tryz.prog Tryz.f3 false true false false W args v W' := by
  have hW' := hW
  obtain ⟨p, q, hA0, hV, rfl, hfz, hnd⟩ := hW
  have hA : DataW.TrodAll enc Tryz.prog W 0 (fun _ => true) true Tryz.f3.params.toList args.toList ds p := hA0
  rw [Tryz.params3] at hA hval
  obtain ⟨v0, vs0, d0, ds0, p0, q0, hargs0, rfl, rfl, t0, r0⟩ := trodAll_cons hA
  obtain ⟨v1, vs1, d1, ds1, p1, q1, hargs1, rfl, rfl, t1, r1⟩ := trodAll_cons r0
  obtain ⟨v2, vs2, d2, ds2, p2, q2, hargs2, rfl, rfl, t2, r2⟩ := trodAll_cons r1
  obtain ⟨rfl, rfl, rfl⟩ := trodAll_nil r2
  obtain rfl : args = #[v0, v1, v2] := by cases args; simp_all
  obtain ⟨q, rv0, rfl, hL0, hk0, hl0, hm0⟩ := open_policy (hval 0 25 v0 rfl rfl) t0
  obtain ⟨x, cv1, rfl, hC1, hk1, hl1⟩ := open_rule (hval 1 28 v1 rfl rfl) t1
  obtain ⟨d, rfl, hd2⟩ := open_data (hval 2 32 v2 rfl rfl) t2
  refine (walk rv0 q cv1 x d W hL0 hk0 hl0 hm0 hC1 hk1 hl1 hd2 (qtab_of hL)).mono fun e W' ⟨he, hg⟩ => ?_
  subst he
  exact ⟨_, rfl, law_post (tb := 4) laidOut (fun t ht => by rw [Tryz.params3] at ht; revert t; exact of_decide_eq_true (by kernel_rfl)) (by kernel_rfl) Tryz.underlying4 rfl
    (fun ds h => by rw [Tryz.params3] at h; match ds, h with | [_, _, _], _ => rfl) hW' hg⟩

theorem laid_met (os : Os) : laidMet Tryz.prog Rows.denoteJudgesRow.laid ((laidWorldQ os).forCall (fun _ _ => 0) ⟨#[], #[.agg #[.slice none 0 0, .int .u32 0], .agg #[.int .u32 0, .int .u32 0, .slice none 0 0, .int .u32 0], .agg #[.int .u32 0, .int .u32 0, .int .u64 0, .int .u64 0, .int .u64 0, .int .u64 0, .int .u64 0, .int .u64 0, .int .u64 0]], []⟩).memory :=
  laidMet_of_run' 8 (by kernel_rfl) (by kernel_rfl)
theorem reads (os : Os) {H : Type} (enc : TypeId × Value → H) : ∃ places, DataW.whole enc Tryz.prog ((laidWorldQ os).forCall (fun _ _ => 0) ⟨#[], #[.agg #[.slice none 0 0, .int .u32 0], .agg #[.int .u32 0, .int .u32 0, .slice none 0 0, .int .u32 0], .agg #[.int .u32 0, .int .u32 0, .int .u64 0, .int .u64 0, .int .u64 0, .int .u64 0, .int .u64 0, .int .u64 0, .int .u64 0]], []⟩).memory Tryz.f3.params.toList Rows.denoteJudgesSpec.vars false #[Value.agg #[.slice none 0 0, .int .u32 0], Value.agg #[.int .u32 0, .int .u32 0, .slice none 0 0, .int .u32 0], Value.agg #[.int .u32 0, .int .u32 0, .int .u64 0, .int .u64 0, .int .u64 0, .int .u64 0, .int .u64 0, .int .u64 0, .int .u64 0]].toList 8 = some ([.agg [.nil, .lit (.int .u32 0)], .agg [.lit (.int .u32 0), .lit (.int .u32 0), .nil, .lit (.int .u32 0)], .agg [.lit (.int .u32 0), .lit (.int .u32 0), .lit (.int .u64 0), .agg [.lit (.int .u64 0), .lit (.int .u64 0), .lit (.int .u64 0), .lit (.int .u64 0), .lit (.int .u64 0), .lit (.int .u64 0)]]], [], places) :=
  ⟨[], by kernel_rfl⟩

set_option maxRecDepth 100000 in
theorem lifted (os : Os) (started : os.Started) (H : Type) (enc : TypeId × Value → H) (F : Stop.Interp) :
    ReturnsInHanded {} Tryz.checked os 3 .any ((OpenSpec.ofChange Rows.denoteJudgesSpec).preRow enc Tryz.prog Tryz.f3 Rows.denoteJudgesRow.domain false Rows.denoteJudgesRow.laid) (((OpenSpec.ofChange Rows.denoteJudgesSpec).at F).post enc Tryz.prog Tryz.f3 false true false false) := by
  obtain ⟨places, hx⟩ := reads os enc
  refine returnsInHanded_of_row (C := Tryz.checked) (s := OpenSpec.ofChange Rows.denoteJudgesSpec) own started (by kernel_rfl) Tryz.func3
    (witness_row_at (enc := enc) (C := Tryz.checked) false (laidWorldQ os) #[.agg #[.slice none 0 0, .int .u32 0], .agg #[.int .u32 0, .int .u32 0, .slice none 0 0, .int .u32 0], .agg #[.int .u32 0, .int .u32 0, .int .u64 0, .int .u64 0, .int .u64 0, .int .u64 0, .int .u64 0, .int .u64 0, .int .u64 0]] rfl (by kernel_rfl) (by kernel_rfl) (by kernel_rfl)
      (OpenSpec.preRow_of_cond 8 hx (by kernel_rfl) (fun k hk => by cases hk) (by kernel_rfl) (laid_met os))) ?_
  intro W base args ds gs before hval hW _ _ _ hL _ _
  exact contract H enc W base args ds gs before hval hW hL

theorem said : Rows.DenoteJudgesSaid :=
  OpenClaim.holds_of_cond 3 Tryz.f3 rfl rfl rfl rfl rfl rfl rfl ⟨rfl, rfl, rfl, rfl, rfl⟩ rfl rfl rfl rfl rfl (by kernel_rfl) Tryz.func3 (by kernel_rfl)
    (of_decide_eq_true (by kernel_rfl)) (by unfold Func.isWrapper; first | (rw [if_pos (by decide +kernel)]; kernel_rfl) | (rw [if_neg (by decide +kernel)]; exact ⟨rfl, rfl⟩))
    (fun os started H enc _ F => by rw [OpenClaim.pre_eq_preRow]; exact lifted os started H enc F)

/-- No parameter wants a stand-in; the program's own looks are off. -/
theorem plain (f : FuncId) (fn : Func) (hf : Tryz.pinned.checked.prog.funcNamed "hurdle/hurdlelaw11.DenoteJudges" = some f) (hfn : Tryz.pinned.checked.prog.funcs[f]? = some fn) :
    false = Tryz.pinned.checked.prog.looks [] ∧ ∀ (j : Nat) t, fn.params[j]? = some t → Tryz.pinned.checked.prog.wantsStandIn t = false := by
  obtain rfl : f = 3 := Option.some.inj ((show Tryz.prog.funcNamed "hurdle/hurdlelaw11.DenoteJudges" = some 3 by kernel_rfl).symm.trans hf) |>.symm
  obtain rfl : fn = Tryz.f3 := (Option.some.inj (Tryz.func3.symm.trans hfn)).symm
  refine ⟨by kernel_rfl, fun j t ht => ?_⟩
  have hm := Array.mem_of_getElem? ht
  rw [Tryz.params3] at hm
  have all : ∀ t ∈ (#[25, 28, 32] : Array TypeId).toList, Tryz.prog.wantsStandIn t = false := of_decide_eq_true (by kernel_rfl)
  exact all t (Array.mem_toList_iff.2 hm)

/-- The tied card. -/
theorem card : Rows.DenoteJudgesCardSaid :=
  Claim7.holds_tied_plain_at .later [] _ _ _ _ said (fun _ h => by cases h) (by kernel_rfl) (fun _ h => by cases h) denoteJudges_row_tie rfl ⟨rfl, rfl⟩ (by kernel_rfl) rfl plain (by kernel_rfl)
end Go.Proofs.YtbhondjfilohdaaGreatDoor.denoteJudges
