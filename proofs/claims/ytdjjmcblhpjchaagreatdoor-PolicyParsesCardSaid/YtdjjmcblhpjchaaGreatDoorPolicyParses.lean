/-
  For every text, in every world that has the listed tables as their initialisers lay them: the law PolicyParses returns true and changes nothing that was there.
-/
import Derived.Test.YtdjjmcblhpjchaaGreatDoorProg
import Derived.WalkKit
import Derived.Laws.BitsAllLaws
import Derived.RowKit
import Derived.ProofKit
import Derived.Lib.Hide
import Derived.Laws.Rows
import Derived.Laws.ResultCell
import Derived.Laws.Entries
import Derived.Handy
import Derived.OwnWalk
import Derived.Laws.OwnMore
import Derived.Deep.Draws
import Derived.Laws.IdiomStrings
import Derived.Lib.BufferRead
import Derived.Maps.OwnSet
import Derived.BigQuiet
import Derived.IntWalk
import Derived.Deep.RegionHeld3
import Derived.BigRegion
import Derived.Lib.OthersKept
import Derived.Lib.QuietBelow
import Derived.Shelf.Strings.Builder1
import Derived.Shelf.Strings.Search1
import Derived.Lib.IndexLaws
import Derived.Laws.Tables
import Derived.Deep.DeepCutAuto
import Derived.Deep.Cut
import Derived.Deep.Slices
import Derived.Maps.RangeWalk
import Derived.StringKeys
import Derived.Lib.Split
import Derived.Deep.OwnRows
import Derived.Laws.Strings3
import Derived.Lib.Join
import Derived.Lib.MakeNoZero
import Derived.Lib.Builder
import Derived.Laws.IdiomCopy
import Derived.Laws.RangeAny
import Derived.Deep.LoopGhost
import Derived.WalkMore
import Derived.Deep.AppendLies
import Derived.Deep.RegionLaw
import Derived.Test.YtdjjmcblhpjchaaGreatDoorRows
import Derived.OpenShut
import Derived.Carry
import Derived.Deep.DeepHandedRow
import Derived.Lib.SmallJoins
import Derived.Test.YtdjjmcblhpjchaaGreatDoorCards
import Derived.Test.YtdjjmcblhpjchaaGreatDoorTie
import Derived.Lib.LaidTab
import Derived.Stop.LaidErr
import Derived.Test.YtdjjmcblhpjchaaGreatDoorPk1
import Derived.Test.YtdjjmcblhpjchaaGreatDoorPk2
import Derived.Test.YtdjjmcblhpjchaaGreatDoorPk3
import Derived.Test.YtdjjmcblhpjchaaGreatDoorPk4
import Derived.Test.YtdjjmcblhpjchaaGreatDoorPk5
import Derived.Test.YtdjjmcblhpjchaaGreatDoorPk6
import Derived.Test.YtdjjmcblhpjchaaGreatDoorPk7
namespace Go.Proofs.YtdjjmcblhpjchaaGreatDoor.policyParses
open Go.ChangeShapes Go.WideShapes Go.ChangeAt Go.RowKit

set_option maxHeartbeats 8000000 in
theorem walk (s : ByteArray) (w : World) (hs : s.size ≤ maxLen) (ht : Tab w) :
    Calls Tryz.prog 4 #[.string s] w fun e w' => e = .returned (.bool true) ∧ Below w.heap.size w w' := by
  obtain ⟨p, i, n, hp⟩ : ∃ p i n, polT s.data.toList = (p, i, n) := ⟨_, _, _, rfl⟩
  have HTab := Lib.hid ht
  obtain ⟨h64, hc⟩ := polT_small hp
  have HC1 : Hid (Calls Tryz.prog 11 #[.string s] w fun e w' => PPIs p i n w' e ∧ Below w.heap.size w w') := Lib.hid (pparse_is hp w ht)
  have HC2 : Hid (∀ V, Calls Tryz.prog 12 #[.string s] V fun e w' => PPIs p i n w' e ∧ Below V.heap.size V w') := Lib.hid (fun V => rparse_is hp V)
  have HS : Hid (∀ V u1 u2, LAt V u1 p.rules → LAt V u2 p.rules → Calls Tryz.prog 13 #[poV u1 p.dflt, poV u2 p.dflt] V fun e w' => e = .returned (.bool true) ∧ Below V.heap.size V w') := Lib.hid (fun V u1 u2 h1 h2 => by
    have := rsame10_any p p u1 u2 V h1 h2 (by omega) hc
    rw [show decide (p = p) = true by simp] at this
    exact this)
  clear ht hp hc
  go_enter Tryz.func4, Tryz.ntmps4
  by_cases hl : 25000 < s.size
  · have hb : decide ((25000 : Int) < (s.size : Int)) = true := by simp; omega
    go_wp2_with fail
    refine (pknow_end (Below.refl _ _) HTab.out).mono ?_
    rintro e wb ⟨rfl, hbb⟩
    have HBB := Lib.hid hbb
    clear hbb
    go_wp2_with fail
    go_ret
    exact ⟨rfl, HBB.out⟩
  have hb : decide ((25000 : Int) < (s.size : Int)) = false := by simp; omega
  clear hl
  go_wp2_with fail
  refine HC1.out.mono ?_
  rintro e w1 ⟨⟨ao, cap, hL1, rfl⟩, hb1⟩
  have HB1 := Lib.hid hb1
  have HL1 := Lib.hid hL1
  clear hb1 hL1
  go_wp2_with fail
  obtain ⟨W2, hW2⟩ : ∃ V, V = w1.alloc (poB (.slice ao p.rules.length cap) p.dflt) := ⟨_, rfl⟩
  have hb2 : Below w1.heap.size w1 W2 := by rw [hW2]; exact ba _ (Below.refl _ _)
  have HX2 : Hid (W2.heap[w1.heap.size]? = some (poB (.slice ao p.rules.length cap) p.dflt)) := Lib.hid (by rw [hW2]; exact heap_alloc_new w1 _)
  have HB2 := Lib.hid (below2 HB1.out hb2)
  have HL2 := Lib.hid (HL1.out.below hb2)
  rw [← hW2]
  clear hW2 hb2 HB1 HL1
  generalize w1.heap.size = gx at *
  refine (HC2.out W2).mono ?_
  rintro e w3 ⟨⟨ao2, cap2, hL3, rfl⟩, hb3⟩
  have HX3 := Lib.hid (kb hb3 HX2.out)
  have HB3 := Lib.hid (below2 HB2.out hb3)
  have HL3 := Lib.hid (HL2.out.below hb3)
  have HM3 := Lib.hid hL3
  clear hb3 hL3 HX2 HB2 HL2
  go_upto_region 5 with fail
  obtain ⟨W4, hW4⟩ : ∃ V, V = w3.alloc (poB (.slice ao2 p.rules.length cap2) p.dflt) := ⟨_, rfl⟩
  have hb4 : Below w3.heap.size w3 W4 := by rw [hW4]; exact ba _ (Below.refl _ _)
  have HY4 : Hid (W4.heap[w3.heap.size]? = some (poB (.slice ao2 p.rules.length cap2) p.dflt)) := Lib.hid (by rw [hW4]; exact heap_alloc_new w3 _)
  have HX4 := Lib.hid (kb hb4 HX3.out)
  have HB4 := Lib.hid (below2 HB3.out hb4)
  have HL4 := Lib.hid (HL3.out.below hb4)
  have HM4 := Lib.hid (HM3.out.below hb4)
  change Code.wp _ _ _ _ (w3.alloc (poB (.slice ao2 p.rules.length cap2) p.dflt))
  rw [← hW4]
  clear hW4 hb4 HB3 HL3 HM3 HX3
  generalize w3.heap.size = gy at *
  obtain ⟨c0, c1⟩ := pbox HX4.out
  obtain ⟨d0, d1⟩ := pbox HY4.out
  have e1 : ((i : Int) == (i : Int)) = true := by simp
  have e2 : ((n : Int) == (n : Int)) = true := by simp
  go_wp2_with fail
  refine (HS.out W4 _ _ HL4.out HM4.out).mono ?_
  rintro e w5 ⟨rfl, hb5⟩
  have HB5 := Lib.hid (below2 HB4.out hb5)
  clear hb5 c0 c1 d0 d1
  go_wp2_with fail
  refine (pknow_end HB5.out HTab.out).mono ?_
  rintro e wb ⟨rfl, hbb⟩
  have HBB := Lib.hid hbb
  clear hbb
  go_wp2_with fail
  go_ret
  exact ⟨rfl, HBB.out⟩

set_option maxRecDepth 100000 in
/-- The row's contract, for every argument and every world. -/
theorem contract (H : Type) (enc : TypeId × Value → H) (W : World) (base : Nat) (args : Array Value) (ds gs : List (DataW H)) (before : List MemPlace)
    (hval : ∀ (j : Nat) t v, Tryz.f4.params[j]? = some t → args[j]? = some v → Value.okWide Tryz.prog W .any base t v)
    (hW : DataW.Whole enc Tryz.prog Tryz.f4.params.toList Rows.policyParsesSpec.vars false W args.toList ds gs before) (hL : laidMetH Tryz.prog Rows.policyParsesRow.laid W) :
    Calls Tryz.prog 4 args W fun e W' => ∃ v, e = .returned v ∧ Rows.policyParsesSpec.post enc Tryz.prog Tryz.f4 false true false false W args v W' := by
  have hW' := hW
  obtain ⟨p, q, hA0, hV, rfl, hfz, hnd⟩ := hW
  have hA : DataW.TrodAll enc Tryz.prog W 0 (fun _ => true) true Tryz.f4.params.toList args.toList ds p := hA0
  rw [Tryz.params4] at hA hval
  obtain ⟨v0, vs0, d0, ds0, p0, q0, hargs0, rfl, rfl, t0, r0⟩ := trodAll_cons hA
  obtain ⟨rfl, rfl, rfl⟩ := trodAll_nil r0
  obtain rfl : args = #[v0] := by cases args; simp_all
  obtain ⟨s, rfl, rfl, rfl, hs0⟩ := ChangeMaps.open_string Tryz.underlying9 (hval 0 9 v0 rfl rfl) t0
  refine (walk s W hs0 (qtab_of hL)).mono fun e W' ⟨he, hg⟩ => ?_
  subst he
  exact ⟨_, rfl, law_post (tb := 4) laidOut (fun t ht => by rw [Tryz.params4] at ht; revert t; exact of_decide_eq_true (by kernel_rfl)) (by kernel_rfl) Tryz.underlying4 rfl
    (fun ds h => by rw [Tryz.params4] at h; match ds, h with | [_], _ => rfl) hW' hg⟩

theorem laid_met (os : Os) : laidMet Tryz.prog Rows.policyParsesRow.laid ((laidWorldQ os).forCall (fun _ _ => 0) ⟨#[], #[.string ByteArray.empty], []⟩).memory :=
  laidMet_of_run' 8 (by kernel_rfl) (by kernel_rfl)
theorem reads (os : Os) {H : Type} (enc : TypeId × Value → H) : ∃ places, DataW.whole enc Tryz.prog ((laidWorldQ os).forCall (fun _ _ => 0) ⟨#[], #[.string ByteArray.empty], []⟩).memory Tryz.f4.params.toList Rows.policyParsesSpec.vars false #[Value.string ByteArray.empty].toList 8 = some ([.lit (.string [])], [], places) :=
  ⟨[], by kernel_rfl⟩

set_option maxRecDepth 100000 in
theorem lifted (os : Os) (started : os.Started) (H : Type) (enc : TypeId × Value → H) (F : Stop.Interp) :
    ReturnsInHanded {} Tryz.checked os 4 .any ((OpenSpec.ofChange Rows.policyParsesSpec).preRow enc Tryz.prog Tryz.f4 Rows.policyParsesRow.domain false Rows.policyParsesRow.laid) (((OpenSpec.ofChange Rows.policyParsesSpec).at F).post enc Tryz.prog Tryz.f4 false true false false) := by
  obtain ⟨places, hx⟩ := reads os enc
  refine returnsInHanded_of_row (C := Tryz.checked) (s := OpenSpec.ofChange Rows.policyParsesSpec) own started (by kernel_rfl) Tryz.func4
    (witness_row_at (enc := enc) (C := Tryz.checked) false (laidWorldQ os) #[.string ByteArray.empty] rfl (by kernel_rfl) (by kernel_rfl) (by kernel_rfl)
      (OpenSpec.preRow_of_cond 8 hx (by kernel_rfl) (fun k hk => by cases hk) (by kernel_rfl) (laid_met os))) ?_
  intro W base args ds gs before hval hW _ _ _ hL _ _
  exact contract H enc W base args ds gs before hval hW hL

theorem said : Rows.PolicyParsesSaid :=
  OpenClaim.holds_of_cond 4 Tryz.f4 rfl rfl rfl rfl rfl rfl rfl ⟨rfl, rfl, rfl, rfl, rfl⟩ rfl rfl rfl rfl rfl (by kernel_rfl) Tryz.func4 (by kernel_rfl)
    (of_decide_eq_true (by kernel_rfl)) (by unfold Func.isWrapper; first | (rw [if_pos (by decide +kernel)]; kernel_rfl) | (rw [if_neg (by decide +kernel)]; exact ⟨rfl, rfl⟩))
    (fun os started H enc _ F => by rw [OpenClaim.pre_eq_preRow]; exact lifted os started H enc F)

/-- No parameter wants a stand-in; the program's own looks are off. -/
theorem plain (f : FuncId) (fn : Func) (hf : Tryz.pinned.checked.prog.funcNamed "hurdle/hurdlelaw10.PolicyParses" = some f) (hfn : Tryz.pinned.checked.prog.funcs[f]? = some fn) :
    false = Tryz.pinned.checked.prog.looks [] ∧ ∀ (j : Nat) t, fn.params[j]? = some t → Tryz.pinned.checked.prog.wantsStandIn t = false := by
  obtain rfl : f = 4 := Option.some.inj ((show Tryz.prog.funcNamed "hurdle/hurdlelaw10.PolicyParses" = some 4 by kernel_rfl).symm.trans hf) |>.symm
  obtain rfl : fn = Tryz.f4 := (Option.some.inj (Tryz.func4.symm.trans hfn)).symm
  refine ⟨by kernel_rfl, fun j t ht => ?_⟩
  have hm := Array.mem_of_getElem? ht
  rw [Tryz.params4] at hm
  have all : ∀ t ∈ (#[9] : Array TypeId).toList, Tryz.prog.wantsStandIn t = false := of_decide_eq_true (by kernel_rfl)
  exact all t (Array.mem_toList_iff.2 hm)

/-- The tied card. -/
theorem card : Rows.PolicyParsesCardSaid :=
  Claim7.holds_tied_plain_at .later [] _ _ _ _ said (fun _ h => by cases h) (by kernel_rfl) (fun _ h => by cases h) policyParses_row_tie rfl ⟨rfl, rfl⟩ (by kernel_rfl) rfl plain (by kernel_rfl)
end Go.Proofs.YtdjjmcblhpjchaaGreatDoor.policyParses
