/-
  For every text, in every world that has the listed tables as their initialisers lay them: the law PolicyCuts returns true and changes nothing that was there.
-/
import Derived.Test.YtdjjmcblhpjchaaDoorProg
import Derived.WalkKit
import Derived.Laws.BitsAllLaws
import Derived.RowKit
import Derived.ProofKit
import Derived.Lib.Hide
import Derived.Laws.Rows
import Derived.Laws.ResultCell
import Derived.Laws.Entries
import Derived.Handy
import Derived.OwnWalk
import Derived.Laws.OwnMore
import Derived.Deep.Draws
import Derived.Laws.IdiomStrings
import Derived.Lib.BufferRead
import Derived.Maps.OwnSet
import Derived.BigQuiet
import Derived.IntWalk
import Derived.Deep.RegionHeld3
import Derived.BigRegion
import Derived.Lib.OthersKept
import Derived.Lib.QuietBelow
import Derived.Shelf.Strings.Builder1
import Derived.Shelf.Strings.Search1
import Derived.Lib.IndexLaws
import Derived.Laws.Tables
import Derived.Deep.DeepCutAuto
import Derived.Deep.Cut
import Derived.Deep.Slices
import Derived.Maps.RangeWalk
import Derived.StringKeys
import Derived.Lib.Split
import Derived.Deep.OwnRows
import Derived.Laws.Strings3
import Derived.Lib.Join
import Derived.Lib.MakeNoZero
import Derived.Lib.Builder
import Derived.Laws.IdiomCopy
import Derived.Laws.RangeAny
import Derived.Deep.LoopGhost
import Derived.WalkMore
import Derived.Deep.AppendLies
import Derived.Deep.RegionLaw
import Derived.Test.YtdjjmcblhpjchaaDoorRows
import Derived.OpenShut
import Derived.Carry
import Derived.Deep.DeepHandedRow
import Derived.Lib.SmallJoins
import Derived.Test.YtdjjmcblhpjchaaDoorCards
import Derived.Test.YtdjjmcblhpjchaaDoorTie
import Derived.Lib.LaidTab
import Derived.Stop.LaidErr
import Derived.Test.YtdjjmcblhpjchaaDoorPk1
import Derived.Test.YtdjjmcblhpjchaaDoorPk2
import Derived.Test.YtdjjmcblhpjchaaDoorPk3
import Derived.Test.YtdjjmcblhpjchaaDoorPk4
import Derived.Test.YtdjjmcblhpjchaaDoorPk5
namespace Go.Proofs.YtdjjmcblhpjchaaDoor.policyCuts
open Go.ChangeShapes Go.WideShapes Go.ChangeAt Go.RowKit

theorem cut_last (s : ByteArray) : (s.extract 0 (s.size - 1)).data.toList = s.data.toList.dropLast := by
  have h : s.size = s.data.toList.length := rfl
  rw [List.dropLast_eq_take, ← h]
  simp only [ByteArray.data_extract, Array.toList_extract]
  simp [List.extract]
theorem more_line (s : ByteArray) : (s ++ ⟨#[100, 101, 102, 97, 117, 108, 116, 32, 107, 105, 108, 108, 10]⟩).data.toList = s.data.toList ++ (lineD 0 ++ [10]) := by
  rw [kill_line]
  simp
set_option maxHeartbeats 8000000 in
theorem walk (s : ByteArray) (w : World) (_ : s.size ≤ maxLen) (ht : Tab w) :
    Calls Tryd.prog 6 #[.string s] w fun e w' => e = .returned (.bool true) ∧ Below w.heap.size w w' := by
  obtain ⟨p, i, n, hp⟩ : ∃ p i n, polT s.data.toList = (p, i, n) := ⟨_, _, _, rfl⟩
  have HTab := Lib.hid ht
  have HP := Lib.hid hp
  have HC1 : Hid (Calls Tryd.prog 10 #[.string s] w fun e w' => PPIs p i n w' e ∧ Below w.heap.size w w') := Lib.hid (pparse_is hp w ht)
  clear ht hp
  go_enter Tryd.func6, Tryd.ntmps6
  by_cases hl : 20000 < s.size
  · have hb : decide ((20000 : Int) < (s.size : Int)) = true := by simp; omega
    go_wp2_with fail
    refine (pknow_end (Below.refl _ _) HTab.out).mono ?_
    rintro e wb ⟨rfl, hbb⟩
    have HBB := Lib.hid hbb
    clear hbb
    go_wp2_with fail
    go_ret
    exact ⟨rfl, HBB.out⟩
  have hb : decide ((20000 : Int) < (s.size : Int)) = false := by simp; omega
  by_cases h0 : s.size = 0
  · have hb2 : ((s.size : Int) == 0) = true := by rw [h0]; rfl
    clear hl h0
    go_wp2_with fail
    refine (pknow_end (Below.refl _ _) HTab.out).mono ?_
    rintro e wb ⟨rfl, hbb⟩
    have HBB := Lib.hid hbb
    clear hbb
    go_wp2_with fail
    go_ret
    exact ⟨rfl, HBB.out⟩
  have hb2 : ((s.size : Int) == 0) = false := by simp only [beq_eq_false_iff_ne]; omega
  have HSZ : Hid (s.size ≤ 20000 ∧ 1 ≤ s.size) := Lib.hid ⟨by omega, by omega⟩
  clear hl h0
  go_wp2_with fail
  refine HC1.out.mono ?_
  rintro e w1 ⟨⟨ao, cap, hL1, rfl⟩, hb1⟩
  have HB1 := Lib.hid hb1
  clear hb1 hL1
  by_cases hn : n = 0
  rotate_left
  · have hne : ((n : Int) == 0) = false := by simp; omega
    clear hn
    go_wp2_with fail
    refine (pknow_end (ba _ HB1.out) HTab.out).mono ?_
    rintro e wb ⟨rfl, hbb⟩
    have HBB := Lib.hid hbb
    clear hbb
    go_wp2_with fail
    go_ret
    exact ⟨rfl, HBB.out⟩
  subst hn
  obtain ⟨rfl, hk, hr, hs, hlen⟩ := polT_sound HP.out
  obtain ⟨j1, h1⟩ := polT_cut HP.out
  obtain ⟨j2, er, h2, her⟩ := polT_more HP.out
  rw [← cut_last] at h1
  rw [← more_line] at h2
  have HCA : Hid (∀ V, Below w.heap.size w V → Calls Tryd.prog 10 #[.string (s.extract 0 (s.size - 1))] V fun e w' => PPIs zeroPo j1 2 w' e ∧ Below V.heap.size V w') := Lib.hid (fun V hV => pparse_is h1 V (HTab.out.below hV))
  have HCB : Hid (∀ V, Below w.heap.size w V → Calls Tryd.prog 10 #[.string (s ++ ⟨#[100, 101, 102, 97, 117, 108, 116, 32, 107, 105, 108, 108, 10]⟩)] V fun e w' => PPIs zeroPo j2 er w' e ∧ Below V.heap.size V w') := Lib.hid (fun V hV => pparse_is h2 V (HTab.out.below hV))
  have HER := Lib.hid her
  have hw : wrap64 ((s.size : Int) - 1) = (s.size : Int) - 1 := by have := HSZ.out; unfold wrap64; omega
  have hi : ((s.size : Int) - 1).toNat = s.size - 1 := by omega
  have hg : (0 : Int) ≤ (s.size : Int) - 1 := by have := HSZ.out; omega
  have hg2 : (1 : Int) ≤ (s.size : Int) := by have := HSZ.out; omega
  clear hk hr hs hlen h1 h2 her HP
  have HB2 := Lib.hid (ba (poB (.slice ao p.rules.length cap) p.dflt) HB1.out)
  go_wp2_with fail
  clear HB1
  generalize hW2 : w1.alloc _ = W2
  have HB3 : Hid (Below w.heap.size w W2) := Lib.hid (by rw [← hW2]; exact HB2.out)
  clear hW2 HB2
  refine (HCA.out _ HB3.out).mono ?_
  rintro e w3 ⟨⟨ao3, cap3, hL3, rfl⟩, hb3⟩
  have HB4 := Lib.hid (below2 HB3.out hb3)
  have hz : zeroPo.rules.length = 0 := rfl
  have hz2 : zeroPo.dflt = 0 := rfl
  have HB5 := Lib.hid (ba (poB (.slice ao3 0 cap3) 0) HB4.out)
  clear hb3 hL3
  have hsum : ¬ 9223372036854775807 < s.size + 13 := by have := HSZ.out; omega
  go_wp2_with fail
  clear HB4
  generalize hW5 : w3.alloc _ = W5
  have HB6 : Hid (Below w.heap.size w W5) := Lib.hid (by rw [← hW5]; exact HB5.out)
  clear hW5 HB5
  refine (HCB.out _ HB6.out).mono ?_
  rintro e w7 ⟨⟨ao7, cap7, hL7, rfl⟩, hb7⟩
  have HB7 := Lib.hid (below2 HB6.out hb7)
  have HB8 := Lib.hid (ba (poB (.slice ao7 0 cap7) 0) HB7.out)
  clear hb7 hL7
  rcases HER.out with rfl | rfl
  · go_wp2_with fail
    refine (pknow_end HB8.out HTab.out).mono ?_
    rintro e wb ⟨rfl, hbb⟩
    have HBB := Lib.hid hbb
    clear hbb
    go_wp2_with fail
    go_ret
    exact ⟨rfl, HBB.out⟩
  · go_wp2_with fail
    refine (pknow_end HB8.out HTab.out).mono ?_
    rintro e wb ⟨rfl, hbb⟩
    have HBB := Lib.hid hbb
    clear hbb
    go_wp2_with fail
    go_ret
    exact ⟨rfl, HBB.out⟩

set_option maxRecDepth 100000 in
/-- The row's contract, for every argument and every world. -/
theorem contract (H : Type) (enc : TypeId × Value → H) (W : World) (base : Nat) (args : Array Value) (ds gs : List (DataW H)) (before : List MemPlace)
    (hval : ∀ (j : Nat) t v, Tryd.f6.params[j]? = some t → args[j]? = some v → Value.okWide Tryd.prog W .any base t v)
    (hW : DataW.Whole enc Tryd.prog Tryd.f6.params.toList Rows.policyCutsSpec.vars false W args.toList ds gs before) (hL : laidMetH Tryd.prog Rows.policyCutsRow.laid W) :
    Calls Tryd.prog 6 args W fun e W' => ∃ v, e = .returned v ∧ Rows.policyCutsSpec.post enc Tryd.prog Tryd.f6 false true false false W args v W' := by
  have hW' := hW
  obtain ⟨p, q, hA0, hV, rfl, hfz, hnd⟩ := hW
  have hA : DataW.TrodAll enc Tryd.prog W 0 (fun _ => true) true Tryd.f6.params.toList args.toList ds p := hA0
  rw [Tryd.params6] at hA hval
  obtain ⟨v0, vs0, d0, ds0, p0, q0, hargs0, rfl, rfl, t0, r0⟩ := trodAll_cons hA
  obtain ⟨rfl, rfl, rfl⟩ := trodAll_nil r0
  obtain rfl : args = #[v0] := by cases args; simp_all
  obtain ⟨s, rfl, rfl, rfl, hs0⟩ := ChangeMaps.open_string Tryd.underlying9 (hval 0 9 v0 rfl rfl) t0
  refine (walk s W hs0 (qtab_of hL)).mono fun e W' ⟨he, hg⟩ => ?_
  subst he
  exact ⟨_, rfl, law_post (tb := 4) laidOut (fun t ht => by rw [Tryd.params6] at ht; revert t; exact of_decide_eq_true (by kernel_rfl)) (by kernel_rfl) Tryd.underlying4 rfl
    (fun ds h => by rw [Tryd.params6] at h; match ds, h with | [_], _ => rfl) hW' hg⟩

theorem laid_met (os : Os) : laidMet Tryd.prog Rows.policyCutsRow.laid ((laidWorldQ os).forCall (fun _ _ => 0) ⟨#[], #[.string ByteArray.empty], []⟩).memory :=
  laidMet_of_run' 8 (by kernel_rfl) (by kernel_rfl)
theorem reads (os : Os) {H : Type} (enc : TypeId × Value → H) : ∃ places, DataW.whole enc Tryd.prog ((laidWorldQ os).forCall (fun _ _ => 0) ⟨#[], #[.string ByteArray.empty], []⟩).memory Tryd.f6.params.toList Rows.policyCutsSpec.vars false #[Value.string ByteArray.empty].toList 8 = some ([.lit (.string [])], [], places) :=
  ⟨[], by kernel_rfl⟩

set_option maxRecDepth 100000 in
theorem lifted (os : Os) (started : os.Started) (H : Type) (enc : TypeId × Value → H) (F : Stop.Interp) :
    ReturnsInHanded {} Tryd.checked os 6 .any ((OpenSpec.ofChange Rows.policyCutsSpec).preRow enc Tryd.prog Tryd.f6 Rows.policyCutsRow.domain false Rows.policyCutsRow.laid) (((OpenSpec.ofChange Rows.policyCutsSpec).at F).post enc Tryd.prog Tryd.f6 false true false false) := by
  obtain ⟨places, hx⟩ := reads os enc
  refine returnsInHanded_of_row (C := Tryd.checked) (s := OpenSpec.ofChange Rows.policyCutsSpec) own started (by kernel_rfl) Tryd.func6
    (witness_row_at (enc := enc) (C := Tryd.checked) false (laidWorldQ os) #[.string ByteArray.empty] rfl (by kernel_rfl) (by kernel_rfl) (by kernel_rfl)
      (OpenSpec.preRow_of_cond 8 hx (by kernel_rfl) (fun k hk => by cases hk) (by kernel_rfl) (laid_met os))) ?_
  intro W base args ds gs before hval hW _ _ _ hL _ _
  exact contract H enc W base args ds gs before hval hW hL

theorem said : Rows.PolicyCutsSaid :=
  OpenClaim.holds_of_cond 6 Tryd.f6 rfl rfl rfl rfl rfl rfl rfl ⟨rfl, rfl, rfl, rfl, rfl⟩ rfl rfl rfl rfl rfl (by kernel_rfl) Tryd.func6 (by kernel_rfl)
    (of_decide_eq_true (by kernel_rfl)) (by unfold Func.isWrapper; first | (rw [if_pos (by decide +kernel)]; kernel_rfl) | (rw [if_neg (by decide +kernel)]; exact ⟨rfl, rfl⟩))
    (fun os started H enc _ F => by rw [OpenClaim.pre_eq_preRow]; exact lifted os started H enc F)

/-- No parameter wants a stand-in; the program's own looks are off. -/
theorem plain (f : FuncId) (fn : Func) (hf : Tryd.pinned.checked.prog.funcNamed "hurdle/hurdlelaw10.PolicyCuts" = some f) (hfn : Tryd.pinned.checked.prog.funcs[f]? = some fn) :
    false = Tryd.pinned.checked.prog.looks [] ∧ ∀ (j : Nat) t, fn.params[j]? = some t → Tryd.pinned.checked.prog.wantsStandIn t = false := by
  obtain rfl : f = 6 := Option.some.inj ((show Tryd.prog.funcNamed "hurdle/hurdlelaw10.PolicyCuts" = some 6 by kernel_rfl).symm.trans hf) |>.symm
  obtain rfl : fn = Tryd.f6 := (Option.some.inj (Tryd.func6.symm.trans hfn)).symm
  refine ⟨by kernel_rfl, fun j t ht => ?_⟩
  have hm := Array.mem_of_getElem? ht
  rw [Tryd.params6] at hm
  have all : ∀ t ∈ (#[9] : Array TypeId).toList, Tryd.prog.wantsStandIn t = false := of_decide_eq_true (by kernel_rfl)
  exact all t (Array.mem_toList_iff.2 hm)

/-- The tied card. -/
theorem card : Rows.PolicyCutsCardSaid :=
  Claim7.holds_tied_plain_at .later [] _ _ _ _ said (fun _ h => by cases h) (by kernel_rfl) (fun _ h => by cases h) policyCuts_row_tie rfl ⟨rfl, rfl⟩ (by kernel_rfl) rfl plain (by kernel_rfl)
end Go.Proofs.YtdjjmcblhpjchaaDoor.policyCuts
