/-
  For every policy, rule and record, in every world that has the listed tables as their initialisers lay them: the law DenoteAhead returns true and changes nothing that was there.
-/
import Derived.Test.YtbhondjfilohdaaDoorProg
import Derived.WalkKit
import Derived.Laws.BitsAllLaws
import Derived.RowKit
import Derived.ProofKit
import Derived.Lib.Hide
import Derived.Laws.Rows
import Derived.Laws.ResultCell
import Derived.Laws.Entries
import Derived.Handy
import Derived.OwnWalk
import Derived.Laws.OwnMore
import Derived.Deep.Draws
import Derived.Laws.IdiomStrings
import Derived.Lib.BufferRead
import Derived.Maps.OwnSet
import Derived.BigQuiet
import Derived.IntWalk
import Derived.Deep.RegionHeld3
import Derived.BigRegion
import Derived.Lib.OthersKept
import Derived.Lib.QuietBelow
import Derived.Shelf.Strings.Builder1
import Derived.Shelf.Strings.Search1
import Derived.Lib.IndexLaws
import Derived.Laws.Tables
import Derived.Deep.DeepCutAuto
import Derived.Deep.Cut
import Derived.Deep.Slices
import Derived.Maps.RangeWalk
import Derived.StringKeys
import Derived.Lib.Split
import Derived.Deep.OwnRows
import Derived.Laws.Strings3
import Derived.Lib.Join
import Derived.Lib.MakeNoZero
import Derived.Lib.Builder
import Derived.Laws.IdiomCopy
import Derived.Test.YtbhondjfilohdaaDoorRows
import Derived.OpenShut
import Derived.Carry
import Derived.Deep.DeepHandedRow
import Derived.Lib.SmallJoins
import Derived.Laws.RangeAny
import Derived.Deep.LoopGhost
import Derived.WalkMore
import Derived.Deep.AppendLies
import Derived.Deep.RegionLaw
import Derived.Test.YtbhondjfilohdaaDoorCards
import Derived.Test.YtbhondjfilohdaaDoorTie
import Derived.Lib.LaidTab
import Derived.Stop.LaidErr
import Derived.Test.YtbhondjfilohdaaDoorPk1
import Derived.Test.YtbhondjfilohdaaDoorPk2
import Derived.Test.YtbhondjfilohdaaDoorPk3
import Derived.Test.YtbhondjfilohdaaDoorPk4
import Derived.Test.YtbhondjfilohdaaDoorPk5
namespace Go.Proofs.YtbhondjfilohdaaDoor.denoteAhead
open Go.ChangeShapes Go.WideShapes Go.ChangeAt Go.RowKit

set_option maxHeartbeats 8000000 in
theorem walk (rv : Value) (q : Po) (cv : Value) (x : Rl) (d : Rec) (w : World) (hLC : LAt w rv q.rules ∧ CapOk rv) (hk : q.ok) (hl : q.rules.length ≤ 9223372036854775807) (hm : ∀ x ∈ q.rules, x.conds.length ≤ 9223372036854775807) (hC : CAt w cv x.conds) (hxk : x.ok) (hxl : x.conds.length ≤ 9223372036854775807) (hd : d.ok) (ht : Tab w) :
    Calls Tryd.prog 4 #[poV rv q.dflt, x.val cv, d.val] w fun e w' => e = .returned (.bool true) ∧ Below w.heap.size w w' := by
  obtain ⟨hL, hcap⟩ := hLC
  have HTab := Lib.hid ht
  have HDo := Lib.hid hd
  obtain ⟨ao, cap, rfl⟩ := hL.shape
  obtain ⟨co, ccap, rfl⟩ := hC.shape
  have HL := Lib.hid hL
  have HCap := Lib.hid hcap
  have HC := Lib.hid hC
  have HK := Lib.hid hk
  have HXK := Lib.hid hxk
  have HM := Lib.hid hm
  have HQK : Hid ((⟨putR q.rules 0 x, q.dflt⟩ : Po).ok) := Lib.hid (putR_ok hk hxk)
  have HQM : Hid (∀ y ∈ putR q.rules 0 x, y.conds.length ≤ 9223372036854775807) := Lib.hid (fun y hy => by
    rcases putR_mem hy with rfl | hy
    · exact hxl
    · exact hm y hy)
  have HCG : Hid (∀ V, Below w.heap.size w V → Calls Tryd.prog 11 #[poV (.slice ao q.rules.length cap) q.dflt] V fun e w' => e = .returned (.bool (greatP q)) ∧ Below V.heap.size V w') := Lib.hid (fun V hV => great_any _ q V (HL.out.below hV) hl HM.out)
  have HCR : Hid (∀ V, Below w.heap.size w V → Calls Tryd.prog 7 #[poV (.slice ao q.rules.length cap) q.dflt] V fun e w' => e = .returned (.bool q.right) ∧ Below V.heap.size V w') := Lib.hid (fun V hV => rright10_any _ q V (HL.out.below hV) HK.out hl HM.out)
  have HCF : Hid (∀ V, Below w.heap.size w V → Calls Tryd.prog 12 #[x.val (.slice co x.conds.length ccap), d.val] V fun e w' => e = .returned (.bool (fitsR x d)) ∧ Below V.heap.size V w') := Lib.hid (fun V hV => efits_any _ x d V (HC.out.below hV) HXK.out hxl HDo.out (HTab.out.below hV))
  obtain ⟨W, hW, X0, X1, X2, HBx⟩ := box3 w (poB (.slice ao q.rules.length cap) q.dflt) (rlB x (.slice co x.conds.length ccap)) (.cells d.cells 32)
  have HP0 := Lib.hid X0
  have HX0 := Lib.hid X1
  have HD0 := Lib.hid X2
  have HB0 := Lib.hid HBx
  clear X0 X1 X2 HBx hL hcap hC hk hxk hm hd ht hl hxl
  go_enter Tryd.func4, Tryd.ntmps4
  go_upto_region 1 with fail
  change Code.wp _ _ _ _ (((w.alloc (poB (.slice ao q.rules.length cap) q.dflt)).alloc (rlB x (.slice co x.conds.length ccap))).alloc (.cells d.cells 32))
  rw [← hW]
  clear hW
  obtain ⟨c0, c1⟩ := pbox HP0.out
  go_wp2_with fail
  refine (HCG.out _ HB0.out).mono ?_
  rintro e w1 ⟨rfl, hb1⟩
  have HB1 := Lib.hid (below2 HB0.out hb1)
  have HP1 := Lib.hid (kb hb1 HP0.out)
  have HX1 := Lib.hid (kb hb1 HX0.out)
  have HD1 := Lib.hid (kb hb1 HD0.out)
  clear hb1 c0 c1 HP0 HX0 HD0 HB0
  cases hgr : greatP q
  rotate_left
  · clear hgr
    go_wp2_with fail
    refine (eknow_end HB1.out HTab.out).mono ?_
    rintro e wb ⟨rfl, hbb⟩
    have HBB := Lib.hid hbb
    clear hbb
    go_wp2_with fail
    go_ret
    exact ⟨rfl, HBB.out⟩
  have h100 := (great_no hgr).1
  have HQL : Hid ((putR q.rules 0 x).length = q.rules.length + 1) := Lib.hid (putR_len (Nat.zero_le _) x)
  obtain ⟨c0, c1⟩ := pbox HP1.out
  obtain ⟨x0, x1, x2, x3⟩ := rbox HX1.out
  clear hgr HCG
  go_wp2_with fail
  refine (eput_zero _ _ q x _ (HL.out.below HB1.out) HCap.out (HC.out.below HB1.out) (by omega)).mono ?_
  rintro e w2 ⟨⟨rv2, hL2, _, rfl⟩, hb2⟩
  obtain ⟨ao2, cap2, rfl⟩ := hL2.shape
  have HB2 := Lib.hid (below2 HB1.out hb2)
  have HP2 := Lib.hid (kb hb2 HP1.out)
  have HX2 := Lib.hid (kb hb2 HX1.out)
  have HD2 := Lib.hid (kb hb2 HD1.out)
  have HLQ := Lib.hid hL2
  clear hb2 c0 c1 x0 x1 x2 x3 HP1 HX1 HD1 HB1 hL2
  obtain ⟨m, hm⟩ : ∃ m, m = (putR q.rules 0 x).length := ⟨_, rfl⟩
  have hm1 : m ≤ 101 := by rw [hm, HQL.out]; omega
  rw [← hm] at HLQ ⊢
  have HMM := Lib.hid hm
  clear hm
  go_upto_region 4 with fail
  obtain ⟨W3, hW3⟩ : ∃ V, V = w2.alloc (poB (.slice ao2 m cap2) q.dflt) := ⟨_, rfl⟩
  have hb3 : Below w2.heap.size w2 W3 := by rw [hW3]; exact ba _ (Below.refl _ _)
  have HQ3 : Hid (W3.heap[w2.heap.size]? = some (poB (.slice ao2 m cap2) q.dflt)) := Lib.hid (by rw [hW3]; exact heap_alloc_new w2 _)
  have HB3 := Lib.hid (below2 HB2.out hb3)
  have HP3 := Lib.hid (kb hb3 HP2.out)
  have HX3 := Lib.hid (kb hb3 HX2.out)
  have HD3 := Lib.hid (kb hb3 HD2.out)
  have HLV : Hid (∀ V, Below W3.heap.size W3 V → LAt V (.slice ao2 m cap2) (putR q.rules 0 x)) := Lib.hid (fun V hV => HLQ.out.below (below2 hb3 hV))
  change Code.wp _ _ _ _ (w2.alloc (poB (.slice ao2 m cap2) q.dflt))
  rw [← hW3]
  clear hW3 hb3 HB2 HP2 HX2 HD2 HLQ
  generalize w2.heap.size = gq at *
  obtain ⟨c0, c1⟩ := pbox HP3.out
  obtain ⟨b0, b1⟩ := pbox HQ3.out
  go_wp2_with fail
  refine (HCR.out _ HB3.out).mono ?_
  rintro e w4 ⟨rfl, hb4⟩
  have HW4 := Lib.hid hb4
  have HB4 := Lib.hid (below2 HB3.out hb4)
  have HP4 := Lib.hid (kb hb4 HP3.out)
  have HQ4 := Lib.hid (kb hb4 HQ3.out)
  have HX4 := Lib.hid (kb hb4 HX3.out)
  have HD4 := Lib.hid (kb hb4 HD3.out)
  clear hb4 c0 c1 b0 b1 HP3 HQ3 HX3 HD3
  cases hr : q.right
  · clear hr
    go_wp2_with fail
    refine (eknow_end HB4.out HTab.out).mono ?_
    rintro e wb ⟨rfl, hbb⟩
    have HBB := Lib.hid hbb
    clear hbb
    go_wp2_with fail
    go_ret
    exact ⟨rfl, HBB.out⟩
  have HR := Lib.hid hr
  obtain ⟨b0, b1⟩ := pbox HQ4.out
  clear hr
  go_wp2_with fail
  refine (rright10_any _ ⟨putR q.rules 0 x, q.dflt⟩ _ (HLV.out _ HW4.out) HQK.out (by show (putR q.rules 0 x).length ≤ _; rw [← HMM.out]; omega) HQM.out).mono ?_
  rintro e w5 ⟨rfl, hb5⟩
  have HW5 := Lib.hid (below2 HW4.out hb5)
  have HB5 := Lib.hid (below2 HB4.out hb5)
  have HP5 := Lib.hid (kb hb5 HP4.out)
  have HQ5 := Lib.hid (kb hb5 HQ4.out)
  have HX5 := Lib.hid (kb hb5 HX4.out)
  have HD5 := Lib.hid (kb hb5 HD4.out)
  clear hb5 b0 b1 HP4 HQ4 HX4 HD4
  cases hr : (⟨putR q.rules 0 x, q.dflt⟩ : Po).right
  · clear hr
    go_wp2_with fail
    refine (eknow_end HB5.out HTab.out).mono ?_
    rintro e wb ⟨rfl, hbb⟩
    have HBB := Lib.hid hbb
    clear hbb
    go_wp2_with fail
    go_ret
    exact ⟨rfl, HBB.out⟩
  have HRQ := Lib.hid hr
  obtain ⟨J, hJ⟩ : ∃ J, judgeR q.rules q.dflt d = J := ⟨_, rfl⟩
  obtain ⟨J2, hJ2⟩ : ∃ J, judgeR (putR q.rules 0 x) q.dflt d = J := ⟨_, rfl⟩
  have HJ := Lib.hid hJ
  have HJ2 := Lib.hid hJ2
  have HJJ : Hid (J2 = if fitsR x d then x.act else J) := Lib.hid (by rw [← hJ2, ← hJ, judge_ahead])
  clear hr hJ hJ2
  obtain ⟨c0, c1⟩ := pbox HP5.out
  obtain ⟨d0, d1, d2, d3, d4, d5, d6, d7, d8⟩ := rec_cells HD5.out
  go_wp2_with fail
  refine (ejudge_good _ q d J _ (HL.out.below HB5.out) HK.out HR.out HDo.out HJ.out (HTab.out.below HB5.out)).mono ?_
  rintro e w6 ⟨rfl, hb6⟩
  have HW6 := Lib.hid (below2 HW5.out hb6)
  have HB6 := Lib.hid (below2 HB5.out hb6)
  have HQ6 := Lib.hid (kb hb6 HQ5.out)
  have HX6 := Lib.hid (kb hb6 HX5.out)
  have HD6 := Lib.hid (kb hb6 HD5.out)
  clear hb6 c0 c1 d0 d1 d2 d3 d4 d5 d6 d7 d8 HP5 HQ5 HX5 HD5
  obtain ⟨b0, b1⟩ := pbox HQ6.out
  obtain ⟨d0, d1, d2, d3, d4, d5, d6, d7, d8⟩ := rec_cells HD6.out
  go_wp2_with fail
  refine (ejudge_good _ ⟨putR q.rules 0 x, q.dflt⟩ d J2 _ (HLV.out _ HW6.out) HQK.out HRQ.out HDo.out HJ2.out (HTab.out.below HB6.out)).mono ?_
  rintro e w7 ⟨rfl, hb7⟩
  have HB7 := Lib.hid (below2 HB6.out hb7)
  have HX7 := Lib.hid (kb hb7 HX6.out)
  have HD7 := Lib.hid (kb hb7 HD6.out)
  clear hb7 b0 b1 d0 d1 d2 d3 d4 d5 d6 d7 d8 HQ6 HX6 HD6
  obtain ⟨x0, x1, x2, x3⟩ := rbox HX7.out
  obtain ⟨d0, d1, d2, d3, d4, d5, d6, d7, d8⟩ := rec_cells HD7.out
  go_wp2_with fail
  refine (HCF.out _ HB7.out).mono ?_
  rintro e w8 ⟨rfl, hb8⟩
  have HB8 := Lib.hid (below2 HB7.out hb8)
  have HX8 := Lib.hid (kb hb8 HX7.out)
  clear hb8 x0 x1 x2 x3 d0 d1 d2 d3 d4 d5 d6 d7 d8 HX7 HD7
  cases hf : fitsR x d
  · obtain rfl : J2 = J := by rw [HJJ.out, hf]; rfl
    have e1 : ((J2 : Int) == (J2 : Int)) = true := by simp
    clear hf HJJ
    go_wp2_with fail
    refine (eknow_end HB8.out HTab.out).mono ?_
    rintro e wb ⟨rfl, hbb⟩
    have HBB := Lib.hid hbb
    clear hbb
    go_wp2_with fail
    go_ret
    exact ⟨rfl, HBB.out⟩
  · obtain rfl : J2 = x.act := by rw [HJJ.out, hf]; rfl
    have e1 : ((x.act : Int) == (x.act : Int)) = true := by simp
    obtain ⟨x0, x1, x2, x3⟩ := rbox HX8.out
    clear hf HJJ
    go_wp2_with fail
    refine (eknow_end HB8.out HTab.out).mono ?_
    rintro e wb ⟨rfl, hbb⟩
    have HBB := Lib.hid hbb
    clear hbb
    go_wp2_with fail
    go_ret
    exact ⟨rfl, HBB.out⟩

set_option maxRecDepth 100000 in
/-- The row's contract, for every argument and every world. -/
theorem contract (H : Type) (enc : TypeId × Value → H) (W : World) (base : Nat) (args : Array Value) (ds gs : List (DataW H)) (before : List MemPlace)
    (hval : ∀ (j : Nat) t v, Tryd.f4.params[j]? = some t → args[j]? = some v → Value.okWide Tryd.prog W .any base t v)
    (hW : DataW.Whole enc Tryd.prog Tryd.f4.params.toList Rows.denoteAheadSpec.vars false W args.toList ds gs before) (hL : laidMetH Tryd.prog Rows.denoteAheadRow.laid W) :
    Calls Tryd.prog 4 args W fun e W' => ∃ v, e = .returned v ∧ Rows.denoteAheadSpec.post enc Tryd.prog Tryd.f4 false true false false W args v W' := by
  have hW' := hW
  obtain ⟨p, q, hA0, hV, rfl, hfz, hnd⟩ := hW
  have hA : DataW.TrodAll enc Tryd.prog W 0 (fun _ => true) true Tryd.f4.params.toList args.toList ds p := hA0
  rw [Tryd.params4] at hA hval
  obtain ⟨v0, vs0, d0, ds0, p0, q0, hargs0, rfl, rfl, t0, r0⟩ := trodAll_cons hA
  obtain ⟨v1, vs1, d1, ds1, p1, q1, hargs1, rfl, rfl, t1, r1⟩ := trodAll_cons r0
  obtain ⟨v2, vs2, d2, ds2, p2, q2, hargs2, rfl, rfl, t2, r2⟩ := trodAll_cons r1
  obtain ⟨rfl, rfl, rfl⟩ := trodAll_nil r2
  obtain rfl : args = #[v0, v1, v2] := by cases args; simp_all
  obtain ⟨q, rv0, rfl, hL0, hk0, hl0, hm0⟩ := open_policyc (hval 0 25 v0 rfl rfl) t0
  obtain ⟨x, cv1, rfl, hC1, hk1, hl1⟩ := open_rule (hval 1 28 v1 rfl rfl) t1
  obtain ⟨d, rfl, hd2⟩ := open_data (hval 2 32 v2 rfl rfl) t2
  refine (walk rv0 q cv1 x d W hL0 hk0 hl0 hm0 hC1 hk1 hl1 hd2 (qtab_of hL)).mono fun e W' ⟨he, hg⟩ => ?_
  subst he
  exact ⟨_, rfl, law_post (tb := 4) laidOut (fun t ht => by rw [Tryd.params4] at ht; revert t; exact of_decide_eq_true (by kernel_rfl)) (by kernel_rfl) Tryd.underlying4 rfl
    (fun ds h => by rw [Tryd.params4] at h; match ds, h with | [_, _, _], _ => rfl) hW' hg⟩

theorem laid_met (os : Os) : laidMet Tryd.prog Rows.denoteAheadRow.laid ((laidWorldQ os).forCall (fun _ _ => 0) ⟨#[], #[.agg #[.slice none 0 0, .int .u32 0], .agg #[.int .u32 0, .int .u32 0, .slice none 0 0, .int .u32 0], .agg #[.int .u32 0, .int .u32 0, .int .u64 0, .int .u64 0, .int .u64 0, .int .u64 0, .int .u64 0, .int .u64 0, .int .u64 0]], []⟩).memory :=
  laidMet_of_run' 8 (by kernel_rfl) (by kernel_rfl)
theorem reads (os : Os) {H : Type} (enc : TypeId × Value → H) : ∃ places, DataW.whole enc Tryd.prog ((laidWorldQ os).forCall (fun _ _ => 0) ⟨#[], #[.agg #[.slice none 0 0, .int .u32 0], .agg #[.int .u32 0, .int .u32 0, .slice none 0 0, .int .u32 0], .agg #[.int .u32 0, .int .u32 0, .int .u64 0, .int .u64 0, .int .u64 0, .int .u64 0, .int .u64 0, .int .u64 0, .int .u64 0]], []⟩).memory Tryd.f4.params.toList Rows.denoteAheadSpec.vars false #[Value.agg #[.slice none 0 0, .int .u32 0], Value.agg #[.int .u32 0, .int .u32 0, .slice none 0 0, .int .u32 0], Value.agg #[.int .u32 0, .int .u32 0, .int .u64 0, .int .u64 0, .int .u64 0, .int .u64 0, .int .u64 0, .int .u64 0, .int .u64 0]].toList 8 = some ([.agg [.nil, .lit (.int .u32 0)], .agg [.lit (.int .u32 0), .lit (.int .u32 0), .nil, .lit (.int .u32 0)], .agg [.lit (.int .u32 0), .lit (.int .u32 0), .lit (.int .u64 0), .agg [.lit (.int .u64 0), .lit (.int .u64 0), .lit (.int .u64 0), .lit (.int .u64 0), .lit (.int .u64 0), .lit (.int .u64 0)]]], [], places) :=
  ⟨[], by kernel_rfl⟩

set_option maxRecDepth 100000 in
theorem lifted (os : Os) (started : os.Started) (H : Type) (enc : TypeId × Value → H) (F : Stop.Interp) :
    ReturnsInHanded {} Tryd.checked os 4 .any ((OpenSpec.ofChange Rows.denoteAheadSpec).preRow enc Tryd.prog Tryd.f4 Rows.denoteAheadRow.domain false Rows.denoteAheadRow.laid) (((OpenSpec.ofChange Rows.denoteAheadSpec).at F).post enc Tryd.prog Tryd.f4 false true false false) := by
  obtain ⟨places, hx⟩ := reads os enc
  refine returnsInHanded_of_row (C := Tryd.checked) (s := OpenSpec.ofChange Rows.denoteAheadSpec) own started (by kernel_rfl) Tryd.func4
    (witness_row_at (enc := enc) (C := Tryd.checked) false (laidWorldQ os) #[.agg #[.slice none 0 0, .int .u32 0], .agg #[.int .u32 0, .int .u32 0, .slice none 0 0, .int .u32 0], .agg #[.int .u32 0, .int .u32 0, .int .u64 0, .int .u64 0, .int .u64 0, .int .u64 0, .int .u64 0, .int .u64 0, .int .u64 0]] rfl (by kernel_rfl) (by kernel_rfl) (by kernel_rfl)
      (OpenSpec.preRow_of_cond 8 hx (by kernel_rfl) (fun k hk => by cases hk) (by kernel_rfl) (laid_met os))) ?_
  intro W base args ds gs before hval hW _ _ _ hL _ _
  exact contract H enc W base args ds gs before hval hW hL

theorem said : Rows.DenoteAheadSaid :=
  OpenClaim.holds_of_cond 4 Tryd.f4 rfl rfl rfl rfl rfl rfl rfl ⟨rfl, rfl, rfl, rfl, rfl⟩ rfl rfl rfl rfl rfl (by kernel_rfl) Tryd.func4 (by kernel_rfl)
    (of_decide_eq_true (by kernel_rfl)) (by unfold Func.isWrapper; first | (rw [if_pos (by decide +kernel)]; kernel_rfl) | (rw [if_neg (by decide +kernel)]; exact ⟨rfl, rfl⟩))
    (fun os started H enc _ F => by rw [OpenClaim.pre_eq_preRow]; exact lifted os started H enc F)

/-- No parameter wants a stand-in; the program's own looks are off. -/
theorem plain (f : FuncId) (fn : Func) (hf : Tryd.pinned.checked.prog.funcNamed "hurdle/hurdlelaw11.DenoteAhead" = some f) (hfn : Tryd.pinned.checked.prog.funcs[f]? = some fn) :
    false = Tryd.pinned.checked.prog.looks [] ∧ ∀ (j : Nat) t, fn.params[j]? = some t → Tryd.pinned.checked.prog.wantsStandIn t = false := by
  obtain rfl : f = 4 := Option.some.inj ((show Tryd.prog.funcNamed "hurdle/hurdlelaw11.DenoteAhead" = some 4 by kernel_rfl).symm.trans hf) |>.symm
  obtain rfl : fn = Tryd.f4 := (Option.some.inj (Tryd.func4.symm.trans hfn)).symm
  refine ⟨by kernel_rfl, fun j t ht => ?_⟩
  have hm := Array.mem_of_getElem? ht
  rw [Tryd.params4] at hm
  have all : ∀ t ∈ (#[25, 28, 32] : Array TypeId).toList, Tryd.prog.wantsStandIn t = false := of_decide_eq_true (by kernel_rfl)
  exact all t (Array.mem_toList_iff.2 hm)

/-- The tied card. -/
theorem card : Rows.DenoteAheadCardSaid :=
  Claim7.holds_tied_plain_at .later [] _ _ _ _ said (fun _ h => by cases h) (by kernel_rfl) (fun _ h => by cases h) denoteAhead_row_tie rfl ⟨rfl, rfl⟩ (by kernel_rfl) rfl plain (by kernel_rfl)
end Go.Proofs.YtbhondjfilohdaaDoor.denoteAhead
