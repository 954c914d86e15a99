/-
  For every text, in every world that has the listed tables as their initialisers lay them: the law PolicyPlaces returns true and changes nothing that was there.
-/
import Derived.Test.YtdjjmcblhpjchaaDoorProg
import Derived.WalkKit
import Derived.Laws.BitsAllLaws
import Derived.RowKit
import Derived.ProofKit
import Derived.Lib.Hide
import Derived.Laws.Rows
import Derived.Laws.ResultCell
import Derived.Laws.Entries
import Derived.Handy
import Derived.OwnWalk
import Derived.Laws.OwnMore
import Derived.Deep.Draws
import Derived.Laws.IdiomStrings
import Derived.Lib.BufferRead
import Derived.Maps.OwnSet
import Derived.BigQuiet
import Derived.IntWalk
import Derived.Deep.RegionHeld3
import Derived.BigRegion
import Derived.Lib.OthersKept
import Derived.Lib.QuietBelow
import Derived.Shelf.Strings.Builder1
import Derived.Shelf.Strings.Search1
import Derived.Lib.IndexLaws
import Derived.Laws.Tables
import Derived.Deep.DeepCutAuto
import Derived.Deep.Cut
import Derived.Deep.Slices
import Derived.Maps.RangeWalk
import Derived.StringKeys
import Derived.Lib.Split
import Derived.Deep.OwnRows
import Derived.Laws.Strings3
import Derived.Lib.Join
import Derived.Lib.MakeNoZero
import Derived.Lib.Builder
import Derived.Laws.IdiomCopy
import Derived.Laws.RangeAny
import Derived.Deep.LoopGhost
import Derived.WalkMore
import Derived.Deep.AppendLies
import Derived.Deep.RegionLaw
import Derived.Test.YtdjjmcblhpjchaaDoorRows
import Derived.OpenShut
import Derived.Carry
import Derived.Deep.DeepHandedRow
import Derived.Lib.SmallJoins
import Derived.Test.YtdjjmcblhpjchaaDoorCards
import Derived.Test.YtdjjmcblhpjchaaDoorTie
import Derived.Lib.LaidTab
import Derived.Stop.LaidErr
import Derived.Test.YtdjjmcblhpjchaaDoorPk1
import Derived.Test.YtdjjmcblhpjchaaDoorPk2
import Derived.Test.YtdjjmcblhpjchaaDoorPk3
import Derived.Test.YtdjjmcblhpjchaaDoorPk4
import Derived.Test.YtdjjmcblhpjchaaDoorPk5
namespace Go.Proofs.YtdjjmcblhpjchaaDoor.policyPlaces
open Go.ChangeShapes Go.WideShapes Go.ChangeAt Go.RowKit

theorem byte_at {s : ByteArray} {i : Nat} (h : s.data.toList[i - 1]? = some 10) {z : Nat} (hz : z = i - 1) (hlt : z < s.size) : ((s[z]'hlt).toNat : Int) = 10 := by
  subst hz
  have hlt2 : i - 1 < s.data.toList.length := hlt
  rw [List.getElem?_eq_getElem hlt2] at h
  have h2 := Option.some.inj h
  have h3 : s[i - 1]'hlt = s.data.toList[i - 1] := rfl
  rw [h3, h2]
  rfl
set_option maxHeartbeats 8000000 in
theorem walk (s : ByteArray) (w : World) (_ : s.size ≤ maxLen) (ht : Tab w) :
    Calls Tryd.prog 5 #[.string s] w fun e w' => e = .returned (.bool true) ∧ Below w.heap.size w w' := by
  obtain ⟨p, i, n, hp⟩ : ∃ p i n, polT s.data.toList = (p, i, n) := ⟨_, _, _, rfl⟩
  have HTab := Lib.hid ht
  obtain ⟨hpl, hpz⟩ := polT_place s.data.toList
  rw [hp] at hpl hpz
  simp only at hpl hpz
  have HP := Lib.hid hpl
  have HZ := Lib.hid hpz
  have HC1 : Hid (Calls Tryd.prog 10 #[.string s] w fun e w' => PPIs p i n w' e ∧ Below w.heap.size w w') := Lib.hid (pparse_is hp w ht)
  clear ht hp hpl hpz
  go_enter Tryd.func5, Tryd.ntmps5
  by_cases hl : 25000 < s.size
  · have hb : decide ((25000 : Int) < (s.size : Int)) = true := by simp; omega
    go_wp2_with fail
    refine (pknow_end (Below.refl _ _) HTab.out).mono ?_
    rintro e wb ⟨rfl, hbb⟩
    have HBB := Lib.hid hbb
    clear hbb
    go_wp2_with fail
    go_ret
    exact ⟨rfl, HBB.out⟩
  have hb : decide ((25000 : Int) < (s.size : Int)) = false := by simp; omega
  clear hl
  go_wp2_with fail
  refine HC1.out.mono ?_
  rintro e w1 ⟨⟨ao, cap, hL1, rfl⟩, hb1⟩
  have HB1 := Lib.hid hb1
  have HBA : Hid (Below w.heap.size w (w1.alloc (poB (.slice ao p.rules.length cap) p.dflt))) := Lib.hid (ba _ hb1)
  clear hb1 hL1
  by_cases hn : n = 0
  · subst hn
    obtain rfl : i = 0 := HZ.out rfl
    clear HZ HP
    go_wp2_with fail
    refine (pknow_end HBA.out HTab.out).mono ?_
    rintro e wb ⟨rfl, hbb⟩
    have HBB := Lib.hid hbb
    clear hbb
    go_wp2_with fail
    go_ret
    exact ⟨rfl, HBB.out⟩
  have hne : ((n : Int) == 0) = false := by simp; omega
  clear hn
  by_cases h0 : i = 0
  · subst h0
    have h1 : (0 : Int) ≤ (s.size : Int) := by omega
    clear HZ HP
    go_wp2_with fail
    refine (pknow_end HBA.out HTab.out).mono ?_
    rintro e wb ⟨rfl, hbb⟩
    have HBB := Lib.hid hbb
    clear hbb
    go_wp2_with fail
    go_ret
    exact ⟨rfl, HBB.out⟩
  obtain ⟨hi, hj⟩ := HP.out
  have hsl : s.data.toList.length = s.size := rfl
  have hss : Hid (s.size ≤ 25000) := Lib.hid (by simp at hb; omega)
  have h1 : (i : Int) ≤ (s.size : Int) := by omega
  have h2 : ((i : Int) == 0) = false := by simp; omega
  have h3 : (0 : Int) ≤ (i : Int) := by omega
  have h4 : (1 : Int) ≤ (i : Int) := by omega
  have h5 : wrap64 ((i : Int) - 1) = (i : Int) - 1 := by have := hss.out; unfold wrap64; omega
  have h6 : (i : Int) - 1 < (s.size : Int) := by omega
  have HJ := Lib.hid hj
  have HN := Lib.hid h0
  clear HZ HP hj hsl hi h0
  go_wp2_with fail
  all_goals first
    | (exfalso
       rename_i q1 q2
       rcases HJ.out with h | h | h
       · exact HN.out h
       · exact q1 (byte_at h rfl (by omega))
       · exact q2 (by rw [h]; rfl))
    | (refine (pknow_end HBA.out HTab.out).mono ?_
       rintro e wb ⟨rfl, hbb⟩
       have HBB := Lib.hid hbb
       clear hbb
       go_wp2_with fail
       go_ret
       exact ⟨rfl, HBB.out⟩)

set_option maxRecDepth 100000 in
/-- The row's contract, for every argument and every world. -/
theorem contract (H : Type) (enc : TypeId × Value → H) (W : World) (base : Nat) (args : Array Value) (ds gs : List (DataW H)) (before : List MemPlace)
    (hval : ∀ (j : Nat) t v, Tryd.f5.params[j]? = some t → args[j]? = some v → Value.okWide Tryd.prog W .any base t v)
    (hW : DataW.Whole enc Tryd.prog Tryd.f5.params.toList Rows.policyPlacesSpec.vars false W args.toList ds gs before) (hL : laidMetH Tryd.prog Rows.policyPlacesRow.laid W) :
    Calls Tryd.prog 5 args W fun e W' => ∃ v, e = .returned v ∧ Rows.policyPlacesSpec.post enc Tryd.prog Tryd.f5 false true false false W args v W' := by
  have hW' := hW
  obtain ⟨p, q, hA0, hV, rfl, hfz, hnd⟩ := hW
  have hA : DataW.TrodAll enc Tryd.prog W 0 (fun _ => true) true Tryd.f5.params.toList args.toList ds p := hA0
  rw [Tryd.params5] at hA hval
  obtain ⟨v0, vs0, d0, ds0, p0, q0, hargs0, rfl, rfl, t0, r0⟩ := trodAll_cons hA
  obtain ⟨rfl, rfl, rfl⟩ := trodAll_nil r0
  obtain rfl : args = #[v0] := by cases args; simp_all
  obtain ⟨s, rfl, rfl, rfl, hs0⟩ := ChangeMaps.open_string Tryd.underlying9 (hval 0 9 v0 rfl rfl) t0
  refine (walk s W hs0 (qtab_of hL)).mono fun e W' ⟨he, hg⟩ => ?_
  subst he
  exact ⟨_, rfl, law_post (tb := 4) laidOut (fun t ht => by rw [Tryd.params5] at ht; revert t; exact of_decide_eq_true (by kernel_rfl)) (by kernel_rfl) Tryd.underlying4 rfl
    (fun ds h => by rw [Tryd.params5] at h; match ds, h with | [_], _ => rfl) hW' hg⟩

theorem laid_met (os : Os) : laidMet Tryd.prog Rows.policyPlacesRow.laid ((laidWorldQ os).forCall (fun _ _ => 0) ⟨#[], #[.string ByteArray.empty], []⟩).memory :=
  laidMet_of_run' 8 (by kernel_rfl) (by kernel_rfl)
theorem reads (os : Os) {H : Type} (enc : TypeId × Value → H) : ∃ places, DataW.whole enc Tryd.prog ((laidWorldQ os).forCall (fun _ _ => 0) ⟨#[], #[.string ByteArray.empty], []⟩).memory Tryd.f5.params.toList Rows.policyPlacesSpec.vars false #[Value.string ByteArray.empty].toList 8 = some ([.lit (.string [])], [], places) :=
  ⟨[], by kernel_rfl⟩

set_option maxRecDepth 100000 in
theorem lifted (os : Os) (started : os.Started) (H : Type) (enc : TypeId × Value → H) (F : Stop.Interp) :
    ReturnsInHanded {} Tryd.checked os 5 .any ((OpenSpec.ofChange Rows.policyPlacesSpec).preRow enc Tryd.prog Tryd.f5 Rows.policyPlacesRow.domain false Rows.policyPlacesRow.laid) (((OpenSpec.ofChange Rows.policyPlacesSpec).at F).post enc Tryd.prog Tryd.f5 false true false false) := by
  obtain ⟨places, hx⟩ := reads os enc
  refine returnsInHanded_of_row (C := Tryd.checked) (s := OpenSpec.ofChange Rows.policyPlacesSpec) own started (by kernel_rfl) Tryd.func5
    (witness_row_at (enc := enc) (C := Tryd.checked) false (laidWorldQ os) #[.string ByteArray.empty] rfl (by kernel_rfl) (by kernel_rfl) (by kernel_rfl)
      (OpenSpec.preRow_of_cond 8 hx (by kernel_rfl) (fun k hk => by cases hk) (by kernel_rfl) (laid_met os))) ?_
  intro W base args ds gs before hval hW _ _ _ hL _ _
  exact contract H enc W base args ds gs before hval hW hL

theorem said : Rows.PolicyPlacesSaid :=
  OpenClaim.holds_of_cond 5 Tryd.f5 rfl rfl rfl rfl rfl rfl rfl ⟨rfl, rfl, rfl, rfl, rfl⟩ rfl rfl rfl rfl rfl (by kernel_rfl) Tryd.func5 (by kernel_rfl)
    (of_decide_eq_true (by kernel_rfl)) (by unfold Func.isWrapper; first | (rw [if_pos (by decide +kernel)]; kernel_rfl) | (rw [if_neg (by decide +kernel)]; exact ⟨rfl, rfl⟩))
    (fun os started H enc _ F => by rw [OpenClaim.pre_eq_preRow]; exact lifted os started H enc F)

/-- No parameter wants a stand-in; the program's own looks are off. -/
theorem plain (f : FuncId) (fn : Func) (hf : Tryd.pinned.checked.prog.funcNamed "hurdle/hurdlelaw10.PolicyPlaces" = some f) (hfn : Tryd.pinned.checked.prog.funcs[f]? = some fn) :
    false = Tryd.pinned.checked.prog.looks [] ∧ ∀ (j : Nat) t, fn.params[j]? = some t → Tryd.pinned.checked.prog.wantsStandIn t = false := by
  obtain rfl : f = 5 := Option.some.inj ((show Tryd.prog.funcNamed "hurdle/hurdlelaw10.PolicyPlaces" = some 5 by kernel_rfl).symm.trans hf) |>.symm
  obtain rfl : fn = Tryd.f5 := (Option.some.inj (Tryd.func5.symm.trans hfn)).symm
  refine ⟨by kernel_rfl, fun j t ht => ?_⟩
  have hm := Array.mem_of_getElem? ht
  rw [Tryd.params5] at hm
  have all : ∀ t ∈ (#[9] : Array TypeId).toList, Tryd.prog.wantsStandIn t = false := of_decide_eq_true (by kernel_rfl)
  exact all t (Array.mem_toList_iff.2 hm)

/-- The tied card. -/
theorem card : Rows.PolicyPlacesCardSaid :=
  Claim7.holds_tied_plain_at .later [] _ _ _ _ said (fun _ h => by cases h) (by kernel_rfl) (fun _ h => by cases h) policyPlaces_row_tie rfl ⟨rfl, rfl⟩ (by kernel_rfl) rfl plain (by kernel_rfl)
end Go.Proofs.YtdjjmcblhpjchaaDoor.policyPlaces
