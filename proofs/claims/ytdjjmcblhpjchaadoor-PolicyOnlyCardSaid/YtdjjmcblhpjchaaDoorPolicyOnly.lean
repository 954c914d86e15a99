/-
  For every text, in every world that has the listed tables as their initialisers lay them: the law PolicyOnly returns true and changes nothing that was there.
-/
import Derived.Test.YtdjjmcblhpjchaaDoorProg
import Derived.WalkKit
import Derived.Laws.BitsAllLaws
import Derived.RowKit
import Derived.ProofKit
import Derived.Lib.Hide
import Derived.Laws.Rows
import Derived.Laws.ResultCell
import Derived.Laws.Entries
import Derived.Handy
import Derived.OwnWalk
import Derived.Laws.OwnMore
import Derived.Deep.Draws
import Derived.Laws.IdiomStrings
import Derived.Lib.BufferRead
import Derived.Maps.OwnSet
import Derived.BigQuiet
import Derived.IntWalk
import Derived.Deep.RegionHeld3
import Derived.BigRegion
import Derived.Lib.OthersKept
import Derived.Lib.QuietBelow
import Derived.Shelf.Strings.Builder1
import Derived.Shelf.Strings.Search1
import Derived.Lib.IndexLaws
import Derived.Laws.Tables
import Derived.Deep.DeepCutAuto
import Derived.Deep.Cut
import Derived.Deep.Slices
import Derived.Maps.RangeWalk
import Derived.StringKeys
import Derived.Lib.Split
import Derived.Deep.OwnRows
import Derived.Laws.Strings3
import Derived.Lib.Join
import Derived.Lib.MakeNoZero
import Derived.Lib.Builder
import Derived.Laws.IdiomCopy
import Derived.Laws.RangeAny
import Derived.Deep.LoopGhost
import Derived.WalkMore
import Derived.Deep.AppendLies
import Derived.Deep.RegionLaw
import Derived.Test.YtdjjmcblhpjchaaDoorRows
import Derived.OpenShut
import Derived.Carry
import Derived.Deep.DeepHandedRow
import Derived.Lib.SmallJoins
import Derived.Test.YtdjjmcblhpjchaaDoorCards
import Derived.Test.YtdjjmcblhpjchaaDoorTie
import Derived.Lib.LaidTab
import Derived.Stop.LaidErr
import Derived.Test.YtdjjmcblhpjchaaDoorPk1
import Derived.Test.YtdjjmcblhpjchaaDoorPk2
import Derived.Test.YtdjjmcblhpjchaaDoorPk3
import Derived.Test.YtdjjmcblhpjchaaDoorPk4
import Derived.Test.YtdjjmcblhpjchaaDoorPk5
namespace Go.Proofs.YtdjjmcblhpjchaaDoor.policyOnly
open Go.ChangeShapes Go.WideShapes Go.ChangeAt Go.RowKit

set_option maxHeartbeats 8000000 in
theorem walk (s : ByteArray) (w : World) (_ : s.size ≤ maxLen) (ht : Tab w) :
    Calls Tryd.prog 4 #[.string s] w fun e w' => e = .returned (.bool true) ∧ Below w.heap.size w w' := by
  obtain ⟨p, i, n, hp⟩ : ∃ p i n, polT s.data.toList = (p, i, n) := ⟨_, _, _, rfl⟩
  have HTab := Lib.hid ht
  have HP := Lib.hid hp
  have HC1 : Hid (Calls Tryd.prog 10 #[.string s] w fun e w' => PPIs p i n w' e ∧ Below w.heap.size w w') := Lib.hid (pparse_is hp w ht)
  clear ht hp
  go_enter Tryd.func4, Tryd.ntmps4
  by_cases hl : 25000 < s.size
  · have hb : decide ((25000 : Int) < (s.size : Int)) = true := by simp; omega
    go_wp2_with fail
    refine (pknow_end (Below.refl _ _) HTab.out).mono ?_
    rintro e wb ⟨rfl, hbb⟩
    have HBB := Lib.hid hbb
    clear hbb
    go_wp2_with fail
    go_ret
    exact ⟨rfl, HBB.out⟩
  have hb : decide ((25000 : Int) < (s.size : Int)) = false := by simp; omega
  clear hl
  go_wp2_with fail
  refine HC1.out.mono ?_
  rintro e w1 ⟨⟨ao, cap, hL1, rfl⟩, hb1⟩
  have HB1 := Lib.hid hb1
  have HL1 := Lib.hid hL1
  clear hb1 hL1
  by_cases hn : n = 0
  · subst hn
    obtain ⟨rfl, hk, hr, hs, _⟩ := polT_sound HP.out
    have HS : Hid (polB p = s) := Lib.hid (by unfold polB; rw [← hs])
    have HG : Hid (∀ V, Below w1.heap.size w1 V → Calls Tryd.prog 9 #[poV (.slice ao p.rules.length cap) p.dflt] V fun e w' => e = .returned (.tuple #[.string s, .int .i64 0]) ∧ Below V.heap.size V w') := Lib.hid (fun V hV => by
      have := ppprint_good _ p V (HL1.out.below hV) hk hr (HTab.out.below (below2 HB1.out hV))
      rw [HS.out] at this
      exact this)
    have HR : Hid (∀ V, Below w1.heap.size w1 V → Calls Tryd.prog 12 #[poV (.slice ao p.rules.length cap) p.dflt] V fun e w' => e = .returned (.bool true) ∧ Below V.heap.size V w') := Lib.hid (fun V hV => by
      have := ppright_any _ p V (HL1.out.below hV) hk (by have := (po_right hr).1; omega) (fun x hx => by have := (right_conds ((po_right hr).2.2 x hx)).1; omega) (HTab.out.below (below2 HB1.out hV))
      rw [hr] at this
      exact this)
    clear hk hr hs HP HS
    go_wp2_with fail
    obtain ⟨W2, hW2⟩ : ∃ V, V = w1.alloc (poB (.slice ao p.rules.length cap) p.dflt) := ⟨_, rfl⟩
    have HV2 : Hid (Below w1.heap.size w1 W2) := Lib.hid (by rw [hW2]; exact ba _ (Below.refl _ _))
    have HX2 : Hid (W2.heap[w1.heap.size]? = some (poB (.slice ao p.rules.length cap) p.dflt)) := Lib.hid (by rw [hW2]; exact heap_alloc_new w1 _)
    rw [← hW2]
    clear hW2
    refine (HG.out _ HV2.out).mono ?_
    rintro e w3 ⟨rfl, hb3⟩
    have HV3 := Lib.hid (below2 HV2.out hb3)
    have HX3 := Lib.hid (kb hb3 HX2.out)
    clear hb3 HV2 HX2
    obtain ⟨c0, c1⟩ := pbox HX3.out
    have e1 : (s.toList == s.toList) = true := by simp
    go_wp2_with fail
    refine (HR.out _ HV3.out).mono ?_
    rintro e w4 ⟨rfl, hb4⟩
    have HB4 := Lib.hid (below2 HB1.out (below2 HV3.out hb4))
    clear hb4 c0 c1
    go_wp2_with fail
    refine (pknow_end HB4.out HTab.out).mono ?_
    rintro e wb ⟨rfl, hbb⟩
    have HBB := Lib.hid hbb
    clear hbb
    go_wp2_with fail
    go_ret
    exact ⟨rfl, HBB.out⟩
  have hne : ((n : Int) == 0) = false := by simp; omega
  obtain rfl := polT_err HP.out hn
  have HS : Hid (∀ V, Below w1.heap.size w1 V → Calls Tryd.prog 11 #[.agg #[.slice ao 0 cap, .int .u32 0], .agg #[.slice none 0 0, .int .u32 0]] V fun e w' => e = .returned (.bool true) ∧ Below V.heap.size V w') := Lib.hid (fun V hV => by
    have := rsame10_any zeroPo zeroPo (.slice ao 0 cap) (.slice none 0 0) V (HL1.out.below hV) (LAt.nil V) (by decide) (fun x hx => by cases hx)
    rw [show decide (zeroPo = zeroPo) = true by simp] at this
    exact this)
  have hz : zeroPo.rules.length = 0 := rfl
  have hz2 : zeroPo.dflt = 0 := rfl
  clear hn HP
  go_wp2_with fail
  refine (HS.out _ (ba _ (Below.refl _ _))).mono ?_
  rintro e w3 ⟨rfl, hb3⟩
  have HB3 := Lib.hid (below2 (ba _ HB1.out) hb3)
  clear hb3
  go_wp2_with fail
  refine (pknow_end HB3.out HTab.out).mono ?_
  rintro e wb ⟨rfl, hbb⟩
  have HBB := Lib.hid hbb
  clear hbb
  go_wp2_with fail
  go_ret
  exact ⟨rfl, HBB.out⟩

set_option maxRecDepth 100000 in
/-- The row's contract, for every argument and every world. -/
theorem contract (H : Type) (enc : TypeId × Value → H) (W : World) (base : Nat) (args : Array Value) (ds gs : List (DataW H)) (before : List MemPlace)
    (hval : ∀ (j : Nat) t v, Tryd.f4.params[j]? = some t → args[j]? = some v → Value.okWide Tryd.prog W .any base t v)
    (hW : DataW.Whole enc Tryd.prog Tryd.f4.params.toList Rows.policyOnlySpec.vars false W args.toList ds gs before) (hL : laidMetH Tryd.prog Rows.policyOnlyRow.laid W) :
    Calls Tryd.prog 4 args W fun e W' => ∃ v, e = .returned v ∧ Rows.policyOnlySpec.post enc Tryd.prog Tryd.f4 false true false false W args v W' := by
  have hW' := hW
  obtain ⟨p, q, hA0, hV, rfl, hfz, hnd⟩ := hW
  have hA : DataW.TrodAll enc Tryd.prog W 0 (fun _ => true) true Tryd.f4.params.toList args.toList ds p := hA0
  rw [Tryd.params4] at hA hval
  obtain ⟨v0, vs0, d0, ds0, p0, q0, hargs0, rfl, rfl, t0, r0⟩ := trodAll_cons hA
  obtain ⟨rfl, rfl, rfl⟩ := trodAll_nil r0
  obtain rfl : args = #[v0] := by cases args; simp_all
  obtain ⟨s, rfl, rfl, rfl, hs0⟩ := ChangeMaps.open_string Tryd.underlying9 (hval 0 9 v0 rfl rfl) t0
  refine (walk s W hs0 (qtab_of hL)).mono fun e W' ⟨he, hg⟩ => ?_
  subst he
  exact ⟨_, rfl, law_post (tb := 4) laidOut (fun t ht => by rw [Tryd.params4] at ht; revert t; exact of_decide_eq_true (by kernel_rfl)) (by kernel_rfl) Tryd.underlying4 rfl
    (fun ds h => by rw [Tryd.params4] at h; match ds, h with | [_], _ => rfl) hW' hg⟩

theorem laid_met (os : Os) : laidMet Tryd.prog Rows.policyOnlyRow.laid ((laidWorldQ os).forCall (fun _ _ => 0) ⟨#[], #[.string ByteArray.empty], []⟩).memory :=
  laidMet_of_run' 8 (by kernel_rfl) (by kernel_rfl)
theorem reads (os : Os) {H : Type} (enc : TypeId × Value → H) : ∃ places, DataW.whole enc Tryd.prog ((laidWorldQ os).forCall (fun _ _ => 0) ⟨#[], #[.string ByteArray.empty], []⟩).memory Tryd.f4.params.toList Rows.policyOnlySpec.vars false #[Value.string ByteArray.empty].toList 8 = some ([.lit (.string [])], [], places) :=
  ⟨[], by kernel_rfl⟩

set_option maxRecDepth 100000 in
theorem lifted (os : Os) (started : os.Started) (H : Type) (enc : TypeId × Value → H) (F : Stop.Interp) :
    ReturnsInHanded {} Tryd.checked os 4 .any ((OpenSpec.ofChange Rows.policyOnlySpec).preRow enc Tryd.prog Tryd.f4 Rows.policyOnlyRow.domain false Rows.policyOnlyRow.laid) (((OpenSpec.ofChange Rows.policyOnlySpec).at F).post enc Tryd.prog Tryd.f4 false true false false) := by
  obtain ⟨places, hx⟩ := reads os enc
  refine returnsInHanded_of_row (C := Tryd.checked) (s := OpenSpec.ofChange Rows.policyOnlySpec) own started (by kernel_rfl) Tryd.func4
    (witness_row_at (enc := enc) (C := Tryd.checked) false (laidWorldQ os) #[.string ByteArray.empty] rfl (by kernel_rfl) (by kernel_rfl) (by kernel_rfl)
      (OpenSpec.preRow_of_cond 8 hx (by kernel_rfl) (fun k hk => by cases hk) (by kernel_rfl) (laid_met os))) ?_
  intro W base args ds gs before hval hW _ _ _ hL _ _
  exact contract H enc W base args ds gs before hval hW hL

theorem said : Rows.PolicyOnlySaid :=
  OpenClaim.holds_of_cond 4 Tryd.f4 rfl rfl rfl rfl rfl rfl rfl ⟨rfl, rfl, rfl, rfl, rfl⟩ rfl rfl rfl rfl rfl (by kernel_rfl) Tryd.func4 (by kernel_rfl)
    (of_decide_eq_true (by kernel_rfl)) (by unfold Func.isWrapper; first | (rw [if_pos (by decide +kernel)]; kernel_rfl) | (rw [if_neg (by decide +kernel)]; exact ⟨rfl, rfl⟩))
    (fun os started H enc _ F => by rw [OpenClaim.pre_eq_preRow]; exact lifted os started H enc F)

/-- No parameter wants a stand-in; the program's own looks are off. -/
theorem plain (f : FuncId) (fn : Func) (hf : Tryd.pinned.checked.prog.funcNamed "hurdle/hurdlelaw10.PolicyOnly" = some f) (hfn : Tryd.pinned.checked.prog.funcs[f]? = some fn) :
    false = Tryd.pinned.checked.prog.looks [] ∧ ∀ (j : Nat) t, fn.params[j]? = some t → Tryd.pinned.checked.prog.wantsStandIn t = false := by
  obtain rfl : f = 4 := Option.some.inj ((show Tryd.prog.funcNamed "hurdle/hurdlelaw10.PolicyOnly" = some 4 by kernel_rfl).symm.trans hf) |>.symm
  obtain rfl : fn = Tryd.f4 := (Option.some.inj (Tryd.func4.symm.trans hfn)).symm
  refine ⟨by kernel_rfl, fun j t ht => ?_⟩
  have hm := Array.mem_of_getElem? ht
  rw [Tryd.params4] at hm
  have all : ∀ t ∈ (#[9] : Array TypeId).toList, Tryd.prog.wantsStandIn t = false := of_decide_eq_true (by kernel_rfl)
  exact all t (Array.mem_toList_iff.2 hm)

/-- The tied card. -/
theorem card : Rows.PolicyOnlyCardSaid :=
  Claim7.holds_tied_plain_at .later [] _ _ _ _ said (fun _ h => by cases h) (by kernel_rfl) (fun _ h => by cases h) policyOnly_row_tie rfl ⟨rfl, rfl⟩ (by kernel_rfl) rfl plain (by kernel_rfl)
end Go.Proofs.YtdjjmcblhpjchaaDoor.policyOnly
