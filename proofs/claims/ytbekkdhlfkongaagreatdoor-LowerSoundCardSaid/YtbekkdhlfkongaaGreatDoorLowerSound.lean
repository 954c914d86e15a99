/-
  For every policy, in every world that has the listed tables as their initialisers lay them: the law LowerSound returns true and changes nothing that was there.
-/
import Derived.Test.YtbekkdhlfkongaaGreatDoorProg
import Derived.WalkKit
import Derived.ProofKit
import Derived.Lib.Hide
import Derived.Laws.Rows
import Derived.Laws.ResultCell
import Derived.Laws.Entries
import Derived.Handy
import Derived.OwnWalk
import Derived.Laws.OwnMore
import Derived.Deep.Draws
import Derived.Laws.IdiomStrings
import Derived.Lib.BufferRead
import Derived.Maps.OwnSet
import Derived.Laws.BitsAllLaws
import Derived.RowKit
import Derived.Lib.QuietBelow
import Derived.Lib.OthersKept
import Derived.BigQuiet
import Derived.IntWalk
import Derived.Deep.RegionHeld3
import Derived.BigRegion
import Derived.Laws.Tables
import Derived.Deep.DeepCutAuto
import Derived.Deep.QuietTactic
import Derived.Test.YtbekkdhlfkongaaGreatDoorRows
import Derived.OpenShut
import Derived.Carry
import Derived.Deep.DeepHandedRow
import Derived.Lib.SmallJoins
import Derived.WalkMore
import Derived.Shelf.Strings.Builder1
import Derived.Shelf.Strings.Search1
import Derived.Lib.IndexLaws
import Derived.Lib.AppendZerosOnto
import Derived.Lib.SliceRun
import Derived.Deep.RegionWith
import Derived.Deep.Cut
import Derived.Deep.Slices
import Derived.RangeFuncNested
import Derived.RangeFuncBound
import Derived.RangeFuncCalls
import Derived.RangeFuncLeaves
import Derived.Shelf.Abstract
import Derived.Shelf.RegionOpen
import Derived.OwnWalkIn
import Derived.TacticsInMore
import Derived.LoopNIn
import Derived.LoopIn
import Derived.Sort.MapsRangeIn
import Derived.Sort.KeysCollected
import Derived.Maps.AppendAt
import Derived.RangeFuncBox
import Derived.RangeFuncFrom
import Derived.RangeFuncSeq
import Derived.Sort.WalkA
import Derived.CellFam
import Derived.Sort.WalkC
import Derived.Sort.LotC
import Derived.Deep.CutBlock
import Derived.Deep.LoopGhost
import Derived.Sort.WalkC4
import Derived.Sort.WalkA6
import Derived.Laws.Closers25b
import Derived.Laws.Bits64b
import Derived.Sort.WalkB2
import Derived.Sort.WalkB3
import Derived.Sort.LotB
import Derived.Sort.LotD3
import Derived.Maps.RangeWalk
import Derived.StringKeys
import Derived.Lib.Split
import Derived.Deep.OwnRows
import Derived.Laws.Strings3
import Derived.Lib.Join
import Derived.Lib.MakeNoZero
import Derived.Lib.Builder
import Derived.Laws.IdiomCopy
import Derived.Test.YtbekkdhlfkongaaGreatDoorCards
import Derived.Test.YtbekkdhlfkongaaGreatDoorTie
import Derived.Lib.LaidTab
import Derived.Stop.LaidErr
import Derived.Laws.RangeAny
import Derived.Deep.AppendLies
import Derived.Deep.RegionLaw
import Derived.Test.YtbekkdhlfkongaaGreatDoorPk1
import Derived.Test.YtbekkdhlfkongaaGreatDoorPk2
import Derived.Test.YtbekkdhlfkongaaGreatDoorPk3
import Derived.Test.YtbekkdhlfkongaaGreatDoorPk4
import Derived.Test.YtbekkdhlfkongaaGreatDoorPk5
import Derived.Test.YtbekkdhlfkongaaGreatDoorPk6
import Derived.Test.YtbekkdhlfkongaaGreatDoorPk7
import Derived.Test.YtbekkdhlfkongaaGreatDoorPk8
import Derived.Test.YtbekkdhlfkongaaGreatDoorPk9
import Derived.Test.YtbekkdhlfkongaaGreatDoorPk10
import Derived.Test.YtbekkdhlfkongaaGreatDoorPk11
import Derived.Test.YtbekkdhlfkongaaGreatDoorPk12
namespace Go.Proofs.YtbekkdhlfkongaaGreatDoor.lowerSound
open Go.ChangeShapes Go.WideShapes Go.ChangeAt Go.RowKit

theorem sound_ferr {l : List X4} (h : SoundL l) : ferr l = 0 := by
  obtain ⟨_, h1, hg, _⟩ := h
  refine ferr_of h1 (List.all_eq_true.2 fun x hx => ?_)
  obtain ⟨i, hi, rfl⟩ := List.getElem_of_mem hx
  have hb := hg i hi
  rw [badAt_at hi] at hb
  exact one_right hb
set_option maxHeartbeats 8000000 in
theorem walk (rv : Value) (q : Po) (w : World) (hL : LAt w rv q.rules) (hk : q.ok) (hl : q.rules.length ≤ 9223372036854775807) (hm : ∀ x ∈ q.rules, x.conds.length ≤ 9223372036854775807) (ht : Tab w) (hot : OTab w) :
    Calls Tryz.prog 5 #[poV rv q.dflt] w fun e w' => e = .returned (.bool true) ∧ Below w.heap.size w w' := by
  have HTab := Lib.hid ht
  have HOT := Lib.hid hot
  obtain ⟨ao, cap, rfl⟩ := hL.shape
  have HL := Lib.hid hL
  have HK := Lib.hid hk
  have HM := Lib.hid hm
  have HCG : Hid (∀ V, Below w.heap.size w V → Calls Tryz.prog 8 #[poV (.slice ao q.rules.length cap) q.dflt] V fun e w' => e = .returned (.bool (greatP q)) ∧ Below V.heap.size V w') := Lib.hid (fun V hV => great_any _ q V (HL.out.below hV) hl HM.out)
  have HCR : Hid (∀ V, Below w.heap.size w V → Calls Tryz.prog 11 #[poV (.slice ao q.rules.length cap) q.dflt] V fun e w' => e = .returned (.bool q.right) ∧ Below V.heap.size V w') := Lib.hid (fun V hV => rright10_any _ q V (HL.out.below hV) HK.out hl HM.out)
  have HLO : Hid (greatP q = false → ∀ V, Below w.heap.size w V → Calls Tryz.prog 10 #[poV (.slice ao q.rules.length cap) q.dflt] V fun e w' => (∃ v, FAt w' v (if q.right then lowerN q else []) ∧ e = .returned (.tuple #[v, .int .i64 (if q.right then 0 else 1)])) ∧ Below V.heap.size V w') := Lib.hid (fun hg V hV => lower_any _ q V (HL.out.below hV) HK.out (great_no hg).1 (great_no hg).2 (HTab.out.below hV) (HOT.out.below hV))
  have HMO : Hid (greatP q = false → ∀ V, Below w.heap.size w V → Calls Tryz.prog 20 #[poV (.slice ao q.rules.length cap) q.dflt] V fun e w' => e = .returned (.int .i64 (mostN q.rules : Nat)) ∧ Below V.heap.size V w') := Lib.hid (fun hg V hV => rmost_any _ q V (HL.out.below hV) (great_no hg).1 (great_no hg).2)
  obtain ⟨W, hW, X0, HBx⟩ : ∃ W, W = w.alloc (poB (.slice ao q.rules.length cap) q.dflt) ∧ W.heap[w.heap.size]? = some (poB (.slice ao q.rules.length cap) q.dflt) ∧ Below w.heap.size w W := ⟨_, rfl, heap_alloc_new _ _, ba _ (Below.refl _ _)⟩
  have HP0 := Lib.hid X0
  have HB0 := Lib.hid HBx
  clear X0 HBx hL hk hm ht hot hl
  go_enter Tryz.func5, Tryz.ntmps5
  go_upto_region 1 with fail
  change Code.wp _ _ _ _ (w.alloc (poB (.slice ao q.rules.length cap) q.dflt))
  rw [← hW]
  clear hW
  obtain ⟨c0, c1⟩ := pbox HP0.out
  go_wp2_with fail
  refine (HCG.out _ HB0.out).mono ?_
  rintro e w1 ⟨rfl, hb1⟩
  have HB1 := Lib.hid (below2 HB0.out hb1)
  have HP1 := Lib.hid (kb hb1 HP0.out)
  clear hb1 c0 c1 HP0 HB0
  cases hgr : greatP q
  rotate_left
  · clear hgr
    go_wp2_with fail
    refine (zknow_end HB1.out HTab.out HOT.out).mono ?_
    rintro e wb ⟨rfl, hbb⟩
    have HBB := Lib.hid hbb
    clear hbb
    go_wp2_with fail
    go_ret
    exact ⟨rfl, HBB.out⟩
  have HGR := Lib.hid hgr
  clear hgr
  obtain ⟨c0, c1⟩ := pbox HP1.out
  go_wp2_with fail
  refine (HCR.out _ HB1.out).mono ?_
  rintro e w2 ⟨rfl, hb2⟩
  have HB2 := Lib.hid (below2 HB1.out hb2)
  have HP2 := Lib.hid (kb hb2 HP1.out)
  clear hb2 c0 c1 HP1 HB1
  cases hr : q.right
  · clear hr
    go_wp2_with fail
    refine (zknow_end HB2.out HTab.out HOT.out).mono ?_
    rintro e wb ⟨rfl, hbb⟩
    have HBB := Lib.hid hbb
    clear hbb
    go_wp2_with fail
    go_ret
    exact ⟨rfl, HBB.out⟩
  obtain ⟨g1, g2, g3, _⟩ := lower_ok HK.out hr
  have HLO2 := Lib.hid (HLO.out HGR.out)
  rw [if_pos hr, if_pos hr] at HLO2
  have HMO2 := Lib.hid (HMO.out HGR.out)
  obtain ⟨f, hf⟩ : ∃ f, f = lowerN q := ⟨_, rfl⟩
  rw [← hf] at g1 g2 g3 HLO2
  obtain ⟨m, hmm⟩ : ∃ m, m = mostN q.rules := ⟨_, rfl⟩
  rw [← hmm] at g3 HMO2
  have HS := Lib.hid g1
  have HO := Lib.hid g2
  have hlen : f.length ≤ 4096 := g1.2.1
  have hle : (f.length : Int) ≤ (m : Int) := by omega
  clear hf hmm g1 g2 g3 hr HLO HMO HGR HCR HCG
  obtain ⟨c0, c1⟩ := pbox HP2.out
  go_wp2_with fail
  refine (HLO2.out _ HB2.out).mono ?_
  rintro e w3 ⟨⟨v, hv, rfl⟩, hb3⟩
  have HV3 := Lib.hid hv
  have HB3 := Lib.hid (below2 HB2.out hb3)
  have HP3 := Lib.hid (kb hb3 HP2.out)
  obtain ⟨vo, vc, rfl⟩ := hv.shape
  clear hv hb3 c0 c1 HP2 HB2 HLO2
  go_wp2_with fail
  refine (encode_any _ f _ HV3.out HO.out (HOT.out.below HB3.out)).mono ?_
  rintro e w4 ⟨ub, rfl, hub, hb4⟩
  rw [sound_ferr HS.out]
  have HU4 := Lib.hid hub
  have HB4 := Lib.hid (below2 HB3.out hb4)
  have HP4 := Lib.hid (kb hb4 HP3.out)
  have HV4 := Lib.hid (HV3.out.below hb4)
  clear hub hb4 HP3 HB3 HV3
  go_wp2_with fail
  refine (decode_any _ _ _ HU4.out (HOT.out.below HB4.out)).mono ?_
  rintro e w5 ⟨u5, rfl, hF5, hb5⟩
  have HTrip := Lib.hid (dec_enc (sound_ferr HS.out) HO.out)
  rw [HTrip.out.1]
  rw [HTrip.out.2] at hF5
  have HF5 := Lib.hid hF5
  have HB5 := Lib.hid (below2 HB4.out hb5)
  have HP5 := Lib.hid (kb hb5 HP4.out)
  have HV5 := Lib.hid (HV4.out.below hb5)
  obtain ⟨uo, uc, rfl⟩ := hF5.shape
  clear hF5 hb5 HP4 HB4 HV4 HU4 HTrip
  go_wp2_with fail
  refine (sound_any _ f _ HV5.out HO.out (HOT.out.below HB5.out)).mono ?_
  rintro e w6 ⟨rfl, hb6⟩
  rw [soundB_iff.2 HS.out]
  have HB6 := Lib.hid (below2 HB5.out hb6)
  have HP6 := Lib.hid (kb hb6 HP5.out)
  have HV6 := Lib.hid (HV5.out.below hb6)
  have HF6 := Lib.hid (HF5.out.below hb6)
  clear hb6 HP5 HB5 HV5 HF5
  go_wp2_with fail
  refine (rsound5_any _ f _ HV6.out HO.out).mono ?_
  rintro e w7 ⟨rfl, hb7⟩
  rw [soundB_iff.2 HS.out]
  have HB7 := Lib.hid (below2 HB6.out hb7)
  have HP7 := Lib.hid (kb hb7 HP6.out)
  have HV7 := Lib.hid (HV6.out.below hb7)
  have HF7 := Lib.hid (HF6.out.below hb7)
  clear hb7 HP6 HB6 HV6 HF6
  obtain ⟨c0, c1⟩ := pbox HP7.out
  go_wp2_with fail
  refine (HMO2.out _ HB7.out).mono ?_
  rintro e w8 ⟨rfl, hb8⟩
  have HB8 := Lib.hid (below2 HB7.out hb8)
  have HV8 := Lib.hid (HV7.out.below hb8)
  have HF8 := Lib.hid (HF7.out.below hb8)
  clear hb8 HP7 HB7 HV7 HF7 c0 c1
  go_wp2_with fail
  refine (same_any _ _ f f _ (by omega) HV8.out HF8.out).mono ?_
  rintro e w9 ⟨rfl, hb9⟩
  rw [decide_eq_true rfl]
  have HB9 := Lib.hid (below2 HB8.out hb9)
  clear hb9 HV8 HF8
  go_wp2_with fail
  refine (zknow_end HB9.out HTab.out HOT.out).mono ?_
  rintro e wb ⟨rfl, hbb⟩
  have HBB := Lib.hid hbb
  clear hbb
  go_wp2_with fail
  go_ret
  exact ⟨rfl, HBB.out⟩

set_option maxRecDepth 100000 in
/-- The row's contract, for every argument and every world. -/
theorem contract (H : Type) (enc : TypeId × Value → H) (W : World) (base : Nat) (args : Array Value) (ds gs : List (DataW H)) (before : List MemPlace)
    (hval : ∀ (j : Nat) t v, Tryz.f5.params[j]? = some t → args[j]? = some v → Value.okWide Tryz.prog W .any base t v)
    (hW : DataW.Whole enc Tryz.prog Tryz.f5.params.toList Rows.lowerSoundSpec.vars false W args.toList ds gs before) (hL : laidMetH Tryz.prog Rows.lowerSoundRow.laid W) :
    Calls Tryz.prog 5 args W fun e W' => ∃ v, e = .returned v ∧ Rows.lowerSoundSpec.post enc Tryz.prog Tryz.f5 false true false false W args v W' := by
  have hW' := hW
  obtain ⟨p, q, hA0, hV, rfl, hfz, hnd⟩ := hW
  have hA : DataW.TrodAll enc Tryz.prog W 0 (fun _ => true) true Tryz.f5.params.toList args.toList ds p := hA0
  rw [Tryz.params5] at hA hval
  obtain ⟨v0, vs0, d0, ds0, p0, q0, hargs0, rfl, rfl, t0, r0⟩ := trodAll_cons hA
  obtain ⟨rfl, rfl, rfl⟩ := trodAll_nil r0
  obtain rfl : args = #[v0] := by cases args; simp_all
  obtain ⟨q, rv0, rfl, hL0, hk0, hl0, hm0⟩ := open_policy (hval 0 25 v0 rfl rfl) t0
  refine (walk rv0 q W hL0 hk0 hl0 hm0 (tab_of hL) (otab_of hL)).mono fun e W' ⟨he, hg⟩ => ?_
  subst he
  exact ⟨_, rfl, law_post (tb := 4) laidOut (fun t ht => by rw [Tryz.params5] at ht; revert t; exact of_decide_eq_true (by kernel_rfl)) (by kernel_rfl) Tryz.underlying4 rfl
    (fun ds h => by rw [Tryz.params5] at h; match ds, h with | [_], _ => rfl) hW' hg⟩

theorem laid_met (os : Os) : laidMet Tryz.prog Rows.lowerSoundRow.laid ((laidWorld os).forCall (fun _ _ => 0) ⟨#[], #[.agg #[.slice none 0 0, .int .u32 0]], []⟩).memory :=
  laidMet_of_run' 8 (by kernel_rfl) (by kernel_rfl)
theorem reads (os : Os) {H : Type} (enc : TypeId × Value → H) : ∃ places, DataW.whole enc Tryz.prog ((laidWorld os).forCall (fun _ _ => 0) ⟨#[], #[.agg #[.slice none 0 0, .int .u32 0]], []⟩).memory Tryz.f5.params.toList Rows.lowerSoundSpec.vars false #[Value.agg #[.slice none 0 0, .int .u32 0]].toList 8 = some ([.agg [.nil, .lit (.int .u32 0)]], [], places) :=
  ⟨[], by kernel_rfl⟩

set_option maxRecDepth 100000 in
theorem lifted (os : Os) (started : os.Started) (H : Type) (enc : TypeId × Value → H) (F : Stop.Interp) :
    ReturnsInHanded {} Tryz.checked os 5 .any ((OpenSpec.ofChange Rows.lowerSoundSpec).preRow enc Tryz.prog Tryz.f5 Rows.lowerSoundRow.domain false Rows.lowerSoundRow.laid) (((OpenSpec.ofChange Rows.lowerSoundSpec).at F).post enc Tryz.prog Tryz.f5 false true false false) := by
  obtain ⟨places, hx⟩ := reads os enc
  refine returnsInHanded_of_row (C := Tryz.checked) (s := OpenSpec.ofChange Rows.lowerSoundSpec) own started (by kernel_rfl) Tryz.func5
    (witness_row_at (enc := enc) (C := Tryz.checked) false (laidWorld os) #[.agg #[.slice none 0 0, .int .u32 0]] rfl (by kernel_rfl) (by kernel_rfl) (by kernel_rfl)
      (OpenSpec.preRow_of_cond 8 hx (by kernel_rfl) (fun k hk => by cases hk) (by kernel_rfl) (laid_met os))) ?_
  intro W base args ds gs before hval hW _ _ _ hL _ _
  exact contract H enc W base args ds gs before hval hW hL

theorem said : Rows.LowerSoundSaid :=
  OpenClaim.holds_of_cond 5 Tryz.f5 rfl rfl rfl rfl rfl rfl rfl ⟨rfl, rfl, rfl, rfl, rfl⟩ rfl rfl rfl rfl rfl (by kernel_rfl) Tryz.func5 (by kernel_rfl)
    (of_decide_eq_true (by kernel_rfl)) (by unfold Func.isWrapper; first | (rw [if_pos (by decide +kernel)]; kernel_rfl) | (rw [if_neg (by decide +kernel)]; exact ⟨rfl, rfl⟩))
    (fun os started H enc _ F => by rw [OpenClaim.pre_eq_preRow]; exact lifted os started H enc F)

/-- No parameter wants a stand-in; the program's own looks are off. -/
theorem plain (f : FuncId) (fn : Func) (hf : Tryz.pinned.checked.prog.funcNamed "hurdle/hurdlelaw13.LowerSound" = some f) (hfn : Tryz.pinned.checked.prog.funcs[f]? = some fn) :
    false = Tryz.pinned.checked.prog.looks [] ∧ ∀ (j : Nat) t, fn.params[j]? = some t → Tryz.pinned.checked.prog.wantsStandIn t = false := by
  obtain rfl : f = 5 := Option.some.inj ((show Tryz.prog.funcNamed "hurdle/hurdlelaw13.LowerSound" = some 5 by kernel_rfl).symm.trans hf) |>.symm
  obtain rfl : fn = Tryz.f5 := (Option.some.inj (Tryz.func5.symm.trans hfn)).symm
  refine ⟨by kernel_rfl, fun j t ht => ?_⟩
  have hm := Array.mem_of_getElem? ht
  rw [Tryz.params5] at hm
  have all : ∀ t ∈ (#[25] : Array TypeId).toList, Tryz.prog.wantsStandIn t = false := of_decide_eq_true (by kernel_rfl)
  exact all t (Array.mem_toList_iff.2 hm)

/-- The tied card. -/
theorem card : Rows.LowerSoundCardSaid :=
  Claim7.holds_tied_plain_at .later [] _ _ _ _ said (fun _ h => by cases h) (by kernel_rfl) (fun _ h => by cases h) lowerSound_row_tie rfl ⟨rfl, rfl⟩ (by kernel_rfl) rfl plain (by kernel_rfl)
end Go.Proofs.YtbekkdhlfkongaaGreatDoor.lowerSound
