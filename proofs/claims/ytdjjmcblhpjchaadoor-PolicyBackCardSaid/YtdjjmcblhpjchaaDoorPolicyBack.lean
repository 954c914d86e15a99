/-
  For every policy, in every world that has the listed tables as their initialisers lay them: the law PolicyBack returns true and changes nothing that was there.
-/
import Derived.Test.YtdjjmcblhpjchaaDoorProg
import Derived.WalkKit
import Derived.Laws.BitsAllLaws
import Derived.RowKit
import Derived.ProofKit
import Derived.Lib.Hide
import Derived.Laws.Rows
import Derived.Laws.ResultCell
import Derived.Laws.Entries
import Derived.Handy
import Derived.OwnWalk
import Derived.Laws.OwnMore
import Derived.Deep.Draws
import Derived.Laws.IdiomStrings
import Derived.Lib.BufferRead
import Derived.Maps.OwnSet
import Derived.BigQuiet
import Derived.IntWalk
import Derived.Deep.RegionHeld3
import Derived.BigRegion
import Derived.Lib.OthersKept
import Derived.Lib.QuietBelow
import Derived.Shelf.Strings.Builder1
import Derived.Shelf.Strings.Search1
import Derived.Lib.IndexLaws
import Derived.Laws.Tables
import Derived.Deep.DeepCutAuto
import Derived.Deep.Cut
import Derived.Deep.Slices
import Derived.Maps.RangeWalk
import Derived.StringKeys
import Derived.Lib.Split
import Derived.Deep.OwnRows
import Derived.Laws.Strings3
import Derived.Lib.Join
import Derived.Lib.MakeNoZero
import Derived.Lib.Builder
import Derived.Laws.IdiomCopy
import Derived.Laws.RangeAny
import Derived.Deep.LoopGhost
import Derived.WalkMore
import Derived.Deep.AppendLies
import Derived.Deep.RegionLaw
import Derived.Test.YtdjjmcblhpjchaaDoorRows
import Derived.OpenShut
import Derived.Carry
import Derived.Deep.DeepHandedRow
import Derived.Lib.SmallJoins
import Derived.Test.YtdjjmcblhpjchaaDoorCards
import Derived.Test.YtdjjmcblhpjchaaDoorTie
import Derived.Lib.LaidTab
import Derived.Stop.LaidErr
import Derived.Test.YtdjjmcblhpjchaaDoorPk1
import Derived.Test.YtdjjmcblhpjchaaDoorPk2
import Derived.Test.YtdjjmcblhpjchaaDoorPk3
import Derived.Test.YtdjjmcblhpjchaaDoorPk4
import Derived.Test.YtdjjmcblhpjchaaDoorPk5
namespace Go.Proofs.YtdjjmcblhpjchaaDoor.policyBack
open Go.ChangeShapes Go.WideShapes Go.ChangeAt Go.RowKit

set_option maxHeartbeats 8000000 in
theorem walk (rv : Value) (q : Po) (w : World) (hL : LAt w rv q.rules) (hk : q.ok) (hl : q.rules.length ≤ 9223372036854775807) (hm : ∀ x ∈ q.rules, x.conds.length ≤ 9223372036854775807) (ht : Tab w) :
    Calls Tryd.prog 3 #[poV rv q.dflt] w fun e w' => e = .returned (.bool true) ∧ Below w.heap.size w w' := by
  have HK := Lib.hid hk
  have HM := Lib.hid hm
  have HTab := Lib.hid ht
  have HX0 := Lib.hid (heap_alloc_new w (poB rv q.dflt))
  have HB0 := Lib.hid (ba (poB rv q.dflt) (Below.refl w.heap.size w))
  obtain ⟨W, hW⟩ : ∃ W, W = w.alloc (poB rv q.dflt) := ⟨_, rfl⟩
  rw [← hW] at HX0 HB0
  have HL := Lib.hid hL
  have hsh := hL.shape
  obtain ⟨ao, cap, rfl⟩ := hsh
  have HCG : Hid (∀ V, Below w.heap.size w V → Calls Tryd.prog 7 #[poV (.slice ao q.rules.length cap) q.dflt] V fun e w' => e = .returned (.bool (greatP q)) ∧ Below V.heap.size V w') := Lib.hid (fun V hV => great_any _ q V (HL.out.below hV) hl HM.out)
  have HCP : Hid (∀ V, Below w.heap.size w V → Calls Tryd.prog 9 #[poV (.slice ao q.rules.length cap) q.dflt] V fun e w' => e = .returned (.tuple #[.string (if q.right then polB q else ⟨#[]⟩), .int .i64 (if q.right then 0 else 1)]) ∧ Below V.heap.size V w') := Lib.hid (fun V hV => ppprint_any _ q V (HL.out.below hV) HK.out hl HM.out (HTab.out.below hV))
  have HSM : Hid (∀ V u2, Below w.heap.size w V → LAt V u2 q.rules → Calls Tryd.prog 11 #[poV (.slice ao q.rules.length cap) q.dflt, poV u2 q.dflt] V fun e w' => e = .returned (.bool true) ∧ Below V.heap.size V w') := Lib.hid (fun V u2 hV h2 => by
    have := rsame10_any q q (.slice ao q.rules.length cap) u2 V (HL.out.below hV) h2 hl HM.out
    rw [show decide (q = q) = true by simp] at this
    exact this)
  clear hk hm ht hL hl
  go_enter Tryd.func3, Tryd.ntmps3
  go_upto_region 1 with fail
  change Code.wp _ _ _ _ (w.alloc (poB (.slice ao q.rules.length cap) q.dflt))
  rw [← hW]
  clear hW
  obtain ⟨c0, c1⟩ := pbox HX0.out
  go_wp2_with fail
  refine (HCG.out _ HB0.out).mono ?_
  rintro e w1 ⟨rfl, hb1⟩
  have HB1 := Lib.hid (below2 HB0.out hb1)
  have HX1 := Lib.hid (kb hb1 HX0.out)
  clear hb1 c0 c1 HX0 HB0
  obtain ⟨c0, c1⟩ := pbox HX1.out
  cases greatP q
  rotate_left
  · go_wp2_with fail
    refine (pknow_end HB1.out HTab.out).mono ?_
    rintro e wb ⟨rfl, hbb⟩
    have HBB := Lib.hid hbb
    clear hbb
    go_wp2_with fail
    go_ret
    exact ⟨rfl, HBB.out⟩
  go_wp2_with fail
  refine (HCP.out _ HB1.out).mono ?_
  rintro e w2 ⟨rfl, hb2⟩
  have HB2 := Lib.hid (below2 HB1.out hb2)
  have HX2 := Lib.hid (kb hb2 HX1.out)
  clear hb2 c0 c1 HX1 HB1
  obtain ⟨c0, c1⟩ := pbox HX2.out
  cases hr : q.right
  · rw [if_neg (by decide), if_neg (by decide)]
    clear hr
    go_wp2_with fail
    refine (pknow_end HB2.out HTab.out).mono ?_
    rintro e wb ⟨rfl, hbb⟩
    have HBB := Lib.hid hbb
    clear hbb
    go_wp2_with fail
    go_ret
    exact ⟨rfl, HBB.out⟩
  rw [if_pos rfl, if_pos rfl]
  have HT := Lib.hid (polT_text HK.out hr)
  obtain ⟨S, hS⟩ : ∃ S, S = polB q := ⟨_, rfl⟩
  have HSL : Hid (S.data.toList = textP q) := Lib.hid (by rw [hS]; rfl)
  have HSZ : Hid (S.size = (textP q).length) := Lib.hid (by rw [hS]; rfl)
  rw [← hS]
  clear hr hS
  by_cases hbig : 20000 < S.size
  · have HPT : Hid (polT S.data.toList = (zeroPo, 0, 3)) := Lib.hid (by rw [HSL.out, HT.out, if_pos (by rw [← HSZ.out]; exact hbig)])
    have HCQ : Hid (∀ V, Below w.heap.size w V → Calls Tryd.prog 10 #[.string S] V fun e w' => PPIs zeroPo 0 3 w' e ∧ Below V.heap.size V w') := Lib.hid (fun V hV => pparse_is HPT.out V (HTab.out.below hV))
    have hb : decide ((20000 : Int) < (S.size : Int)) = true := by simp; omega
    clear hbig
    go_wp2_with fail
    refine (HCQ.out _ HB2.out).mono ?_
    rintro e w3 ⟨⟨ao3, cap3, hL3, rfl⟩, hb3⟩
    have HB3 := Lib.hid (below2 HB2.out hb3)
    have hz : zeroPo.rules.length = 0 := rfl
    have hz2 : zeroPo.dflt = 0 := rfl
    clear hb3 hL3 c0 c1
    go_wp2_with fail
    refine (pknow_end (ba _ HB3.out) HTab.out).mono ?_
    rintro e wb ⟨rfl, hbb⟩
    have HBB := Lib.hid hbb
    clear hbb
    go_wp2_with fail
    go_ret
    exact ⟨rfl, HBB.out⟩
  have HPT : Hid (polT S.data.toList = (q, 0, 0)) := Lib.hid (by rw [HSL.out, HT.out, if_neg (by rw [← HSZ.out]; exact hbig)])
  have HCQ : Hid (∀ V, Below w.heap.size w V → Calls Tryd.prog 10 #[.string S] V fun e w' => PPIs q 0 0 w' e ∧ Below V.heap.size V w') := Lib.hid (fun V hV => pparse_is HPT.out V (HTab.out.below hV))
  have hb : decide ((20000 : Int) < (S.size : Int)) = false := by simp; omega
  clear hbig
  go_wp2_with fail
  refine (HCQ.out _ HB2.out).mono ?_
  rintro e w3 ⟨⟨ao3, cap3, hL3, rfl⟩, hb3⟩
  have HX3 := Lib.hid (kb hb3 HX2.out)
  have HB3 := Lib.hid (below2 HB2.out hb3)
  have HL3 := Lib.hid hL3
  clear hb3 hL3 c0 c1 HX2 HB2
  go_upto_region 7 with fail
  obtain ⟨W4, hW4⟩ : ∃ V, V = w3.alloc (poB (.slice ao3 q.rules.length cap3) q.dflt) := ⟨_, rfl⟩
  have hb4 : Below w3.heap.size w3 W4 := by rw [hW4]; exact ba _ (Below.refl _ _)
  have HY4 : Hid (W4.heap[w3.heap.size]? = some (poB (.slice ao3 q.rules.length cap3) q.dflt)) := Lib.hid (by rw [hW4]; exact heap_alloc_new w3 _)
  have HX4 := Lib.hid (kb hb4 HX3.out)
  have HB4 := Lib.hid (below2 HB3.out hb4)
  have HL4 := Lib.hid (HL3.out.below hb4)
  change Code.wp _ _ _ _ (w3.alloc (poB (.slice ao3 q.rules.length cap3) q.dflt))
  rw [← hW4]
  clear hW4 hb4 HB3 HL3 HX3
  generalize w3.heap.size = gy at *
  obtain ⟨c0, c1⟩ := pbox HX4.out
  obtain ⟨d0, d1⟩ := pbox HY4.out
  go_wp2_with fail
  refine (HSM.out W4 _ HB4.out HL4.out).mono ?_
  rintro e w5 ⟨rfl, hb5⟩
  have HB5 := Lib.hid (below2 HB4.out hb5)
  clear hb5 c0 c1 d0 d1
  go_wp2_with fail
  refine (pknow_end HB5.out HTab.out).mono ?_
  rintro e wb ⟨rfl, hbb⟩
  have HBB := Lib.hid hbb
  clear hbb
  go_wp2_with fail
  go_ret
  exact ⟨rfl, HBB.out⟩

set_option maxRecDepth 100000 in
/-- The row's contract, for every argument and every world. -/
theorem contract (H : Type) (enc : TypeId × Value → H) (W : World) (base : Nat) (args : Array Value) (ds gs : List (DataW H)) (before : List MemPlace)
    (hval : ∀ (j : Nat) t v, Tryd.f3.params[j]? = some t → args[j]? = some v → Value.okWide Tryd.prog W .any base t v)
    (hW : DataW.Whole enc Tryd.prog Tryd.f3.params.toList Rows.policyBackSpec.vars false W args.toList ds gs before) (hL : laidMetH Tryd.prog Rows.policyBackRow.laid W) :
    Calls Tryd.prog 3 args W fun e W' => ∃ v, e = .returned v ∧ Rows.policyBackSpec.post enc Tryd.prog Tryd.f3 false true false false W args v W' := by
  have hW' := hW
  obtain ⟨p, q, hA0, hV, rfl, hfz, hnd⟩ := hW
  have hA : DataW.TrodAll enc Tryd.prog W 0 (fun _ => true) true Tryd.f3.params.toList args.toList ds p := hA0
  rw [Tryd.params3] at hA hval
  obtain ⟨v0, vs0, d0, ds0, p0, q0, hargs0, rfl, rfl, t0, r0⟩ := trodAll_cons hA
  obtain ⟨rfl, rfl, rfl⟩ := trodAll_nil r0
  obtain rfl : args = #[v0] := by cases args; simp_all
  obtain ⟨q, rv0, rfl, hL0, hk0, hl0, hm0⟩ := open_policy (hval 0 25 v0 rfl rfl) t0
  refine (walk rv0 q W hL0 hk0 hl0 hm0 (qtab_of hL)).mono fun e W' ⟨he, hg⟩ => ?_
  subst he
  exact ⟨_, rfl, law_post (tb := 4) laidOut (fun t ht => by rw [Tryd.params3] at ht; revert t; exact of_decide_eq_true (by kernel_rfl)) (by kernel_rfl) Tryd.underlying4 rfl
    (fun ds h => by rw [Tryd.params3] at h; match ds, h with | [_], _ => rfl) hW' hg⟩

theorem laid_met (os : Os) : laidMet Tryd.prog Rows.policyBackRow.laid ((laidWorldQ os).forCall (fun _ _ => 0) ⟨#[], #[.agg #[.slice none 0 0, .int .u32 0]], []⟩).memory :=
  laidMet_of_run' 8 (by kernel_rfl) (by kernel_rfl)
theorem reads (os : Os) {H : Type} (enc : TypeId × Value → H) : ∃ places, DataW.whole enc Tryd.prog ((laidWorldQ os).forCall (fun _ _ => 0) ⟨#[], #[.agg #[.slice none 0 0, .int .u32 0]], []⟩).memory Tryd.f3.params.toList Rows.policyBackSpec.vars false #[Value.agg #[.slice none 0 0, .int .u32 0]].toList 8 = some ([.agg [.nil, .lit (.int .u32 0)]], [], places) :=
  ⟨[], by kernel_rfl⟩

set_option maxRecDepth 100000 in
theorem lifted (os : Os) (started : os.Started) (H : Type) (enc : TypeId × Value → H) (F : Stop.Interp) :
    ReturnsInHanded {} Tryd.checked os 3 .any ((OpenSpec.ofChange Rows.policyBackSpec).preRow enc Tryd.prog Tryd.f3 Rows.policyBackRow.domain false Rows.policyBackRow.laid) (((OpenSpec.ofChange Rows.policyBackSpec).at F).post enc Tryd.prog Tryd.f3 false true false false) := by
  obtain ⟨places, hx⟩ := reads os enc
  refine returnsInHanded_of_row (C := Tryd.checked) (s := OpenSpec.ofChange Rows.policyBackSpec) own started (by kernel_rfl) Tryd.func3
    (witness_row_at (enc := enc) (C := Tryd.checked) false (laidWorldQ os) #[.agg #[.slice none 0 0, .int .u32 0]] rfl (by kernel_rfl) (by kernel_rfl) (by kernel_rfl)
      (OpenSpec.preRow_of_cond 8 hx (by kernel_rfl) (fun k hk => by cases hk) (by kernel_rfl) (laid_met os))) ?_
  intro W base args ds gs before hval hW _ _ _ hL _ _
  exact contract H enc W base args ds gs before hval hW hL

theorem said : Rows.PolicyBackSaid :=
  OpenClaim.holds_of_cond 3 Tryd.f3 rfl rfl rfl rfl rfl rfl rfl ⟨rfl, rfl, rfl, rfl, rfl⟩ rfl rfl rfl rfl rfl (by kernel_rfl) Tryd.func3 (by kernel_rfl)
    (of_decide_eq_true (by kernel_rfl)) (by unfold Func.isWrapper; first | (rw [if_pos (by decide +kernel)]; kernel_rfl) | (rw [if_neg (by decide +kernel)]; exact ⟨rfl, rfl⟩))
    (fun os started H enc _ F => by rw [OpenClaim.pre_eq_preRow]; exact lifted os started H enc F)

/-- No parameter wants a stand-in; the program's own looks are off. -/
theorem plain (f : FuncId) (fn : Func) (hf : Tryd.pinned.checked.prog.funcNamed "hurdle/hurdlelaw10.PolicyBack" = some f) (hfn : Tryd.pinned.checked.prog.funcs[f]? = some fn) :
    false = Tryd.pinned.checked.prog.looks [] ∧ ∀ (j : Nat) t, fn.params[j]? = some t → Tryd.pinned.checked.prog.wantsStandIn t = false := by
  obtain rfl : f = 3 := Option.some.inj ((show Tryd.prog.funcNamed "hurdle/hurdlelaw10.PolicyBack" = some 3 by kernel_rfl).symm.trans hf) |>.symm
  obtain rfl : fn = Tryd.f3 := (Option.some.inj (Tryd.func3.symm.trans hfn)).symm
  refine ⟨by kernel_rfl, fun j t ht => ?_⟩
  have hm := Array.mem_of_getElem? ht
  rw [Tryd.params3] at hm
  have all : ∀ t ∈ (#[25] : Array TypeId).toList, Tryd.prog.wantsStandIn t = false := of_decide_eq_true (by kernel_rfl)
  exact all t (Array.mem_toList_iff.2 hm)

/-- The tied card. -/
theorem card : Rows.PolicyBackCardSaid :=
  Claim7.holds_tied_plain_at .later [] _ _ _ _ said (fun _ h => by cases h) (by kernel_rfl) (fun _ h => by cases h) policyBack_row_tie rfl ⟨rfl, rfl⟩ (by kernel_rfl) rfl plain (by kernel_rfl)
end Go.Proofs.YtdjjmcblhpjchaaDoor.policyBack
