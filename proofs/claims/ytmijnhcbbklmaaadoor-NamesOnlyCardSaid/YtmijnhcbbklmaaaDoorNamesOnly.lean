/-
  For every 32-bit number and every text, in every world that has the tables of math/bits and strconv as their initialisers lay them: the law NamesOnly returns true and changes nothing that was there.
-/
import Derived.Test.YtmijnhcbbklmaaaDoorNFrame
import Derived.Test.YtmijnhcbbklmaaaDoorFrame
namespace Go.Proofs.YtmijnhcbbklmaaaDoor.namesOnly
open Go.ChangeShapes Go.WideShapes Go.ChangeAt Go.RowKit

theorem act_is {v : Nat} {s : ByteArray} (h : actT v = some s) : actS v = s ∧ (actT v).isSome = true := by
  unfold actS
  rw [h]
  exact ⟨rfl, rfl⟩
set_option maxHeartbeats 8000000 in
theorem walk_nat (m : Nat) (s : ByteArray) (w : World) (hm : m < 4294967296) (hs : s.size ≤ maxLen) (ht : Tab w) :
    Calls Tryd.prog 6 #[.int .u32 m, .string s] w fun e w' => e = .returned (.bool true) ∧ Below w.heap.size w w' := by
  unfold maxLen at hs
  have HTab := Lib.hid ht
  clear ht
  by_cases hl : 200 < s.size
  · have hl' : (200 : Int) < (s.size : Int) := by omega
    go_enter Tryd.func6, Tryd.ntmps6
    go_wp2_with fail
    refine (nknows_any _ HTab.out).mono ?_
    rintro e wb ⟨rfl, hbb⟩
    have HBB := Lib.hid hbb
    clear hbb
    go_wp2_with fail
    go_ret
    exact ⟨rfl, HBB.out⟩
  · have hl' : ¬ (200 : Int) < (s.size : Int) := by omega
    have HS : Hid (s.size ≤ 4611686018427387904) := Lib.hid (by omega)
    have hself : (s.toList == s.toList) = true := by simp
    clear hs hl
    go_enter Tryd.func6, Tryd.ntmps6
    go_wp2_with fail
    refine (nreadmachine_any s _ HS.out HTab.out).mono ?_
    rintro e w1 ⟨⟨o1, ho1, rfl⟩, hb1⟩
    have HB1 := Lib.hid hb1
    have HO1 := Lib.hid ho1
    clear hb1 ho1
    cases o1 with
    | none =>
      clear HO1
      simp only [Option.getD_none, Option.isSome_none, Bool.false_eq_true, if_false]
      go_wp2_with fail
      refine (nreadcall_any m s _ hm HS.out (HTab.out.below HB1.out)).mono ?_
      rintro e w2 ⟨⟨o2, ho2, rfl⟩, hb2⟩
      have HB2 := Lib.hid (below2 HB1.out hb2)
      have HO2 := Lib.hid ho2
      clear hb2 ho2
      cases o2 with
      | none =>
        clear HO2
        simp only [Option.getD_none, Option.isSome_none, Bool.false_eq_true, if_false]
        go_wp2_with fail
        refine (nreadaction_any s _ HS.out (HTab.out.below HB2.out)).mono ?_
        rintro e w3 ⟨⟨o3, ho3, rfl⟩, hb3⟩
        have HB3 := Lib.hid (below2 HB2.out hb3)
        have HO3 := Lib.hid ho3
        clear hb3 ho3
        cases o3 with
        | none =>
          clear HO3
          simp only [Option.getD_none, Option.isSome_none, Bool.false_eq_true, if_false]
          go_wp2_with fail
          refine (nknow_end HB3.out HTab.out).mono ?_
          rintro e wb ⟨rfl, hbb⟩
          have HBB := Lib.hid hbb
          clear hbb
          go_wp2_with fail
          go_ret
          exact ⟨rfl, HBB.out⟩
        | some c =>
          have HVM := Lib.hid (act_is HO3.out.2)
          have HVL := Lib.hid (HO3.out.1)
          clear HO3
          simp only [Option.getD_some, Option.isSome_some, if_true]
          go_wp2_with fail
          refine (naction_any c _ HVL.out (HTab.out.below HB3.out)).mono ?_
          rintro e w4 ⟨rfl, hb4⟩
          rw [HVM.out.1, if_pos HVM.out.2]
          have HB4 := Lib.hid (below2 HB3.out hb4)
          clear hb4
          go_wp2_with fail
          refine (nknow_end HB4.out HTab.out).mono ?_
          rintro e wb ⟨rfl, hbb⟩
          have HBB := Lib.hid hbb
          clear hbb
          go_wp2_with fail
          go_ret
          exact ⟨rfl, HBB.out⟩
      | some b =>
        have HCM := Lib.hid (HO2.out.2)
        have HCL := Lib.hid (HO2.out.1)
        clear HO2
        simp only [Option.getD_some, Option.isSome_some, if_true]
        go_wp2_with fail
        refine (nreadaction_any s _ HS.out (HTab.out.below HB2.out)).mono ?_
        rintro e w3 ⟨⟨o3, ho3, rfl⟩, hb3⟩
        have HB3 := Lib.hid (below2 HB2.out hb3)
        have HO3 := Lib.hid ho3
        clear hb3 ho3
        cases o3 with
        | none =>
          clear HO3
          simp only [Option.getD_none, Option.isSome_none, Bool.false_eq_true, if_false]
          go_wp2_with fail
          refine (ncall_any m b _ hm HCL.out (HTab.out.below HB3.out)).mono ?_
          rintro e w4 ⟨rfl, hb4⟩
          rw [← HCM.out]
          have HB4 := Lib.hid (below2 HB3.out hb4)
          clear hb4
          go_wp2_with fail
          refine (nknow_end HB4.out HTab.out).mono ?_
          rintro e wb ⟨rfl, hbb⟩
          have HBB := Lib.hid hbb
          clear hbb
          go_wp2_with fail
          go_ret
          exact ⟨rfl, HBB.out⟩
        | some c =>
          have HVM := Lib.hid (act_is HO3.out.2)
          have HVL := Lib.hid (HO3.out.1)
          clear HO3
          simp only [Option.getD_some, Option.isSome_some, if_true]
          go_wp2_with fail
          refine (ncall_any m b _ hm HCL.out (HTab.out.below HB3.out)).mono ?_
          rintro e w4 ⟨rfl, hb4⟩
          rw [← HCM.out]
          have HB4 := Lib.hid (below2 HB3.out hb4)
          clear hb4
          go_wp2_with fail
          refine (naction_any c _ HVL.out (HTab.out.below HB4.out)).mono ?_
          rintro e w5 ⟨rfl, hb5⟩
          rw [HVM.out.1, if_pos HVM.out.2]
          have HB5 := Lib.hid (below2 HB4.out hb5)
          clear hb5
          go_wp2_with fail
          refine (nknow_end HB5.out HTab.out).mono ?_
          rintro e wb ⟨rfl, hbb⟩
          have HBB := Lib.hid hbb
          clear hbb
          go_wp2_with fail
          go_ret
          exact ⟨rfl, HBB.out⟩
    | some a =>
      have HAM := Lib.hid (HO1.out.2)
      have HAL := Lib.hid (HO1.out.1)
      clear HO1
      simp only [Option.getD_some, Option.isSome_some, if_true]
      go_wp2_with fail
      refine (nreadcall_any m s _ hm HS.out (HTab.out.below HB1.out)).mono ?_
      rintro e w2 ⟨⟨o2, ho2, rfl⟩, hb2⟩
      have HB2 := Lib.hid (below2 HB1.out hb2)
      have HO2 := Lib.hid ho2
      clear hb2 ho2
      cases o2 with
      | none =>
        clear HO2
        simp only [Option.getD_none, Option.isSome_none, Bool.false_eq_true, if_false]
        go_wp2_with fail
        refine (nreadaction_any s _ HS.out (HTab.out.below HB2.out)).mono ?_
        rintro e w3 ⟨⟨o3, ho3, rfl⟩, hb3⟩
        have HB3 := Lib.hid (below2 HB2.out hb3)
        have HO3 := Lib.hid ho3
        clear hb3 ho3
        cases o3 with
        | none =>
          clear HO3
          simp only [Option.getD_none, Option.isSome_none, Bool.false_eq_true, if_false]
          go_wp2_with fail
          refine (nmachine_any a _ HAL.out (HTab.out.below HB3.out)).mono ?_
          rintro e w4 ⟨rfl, hb4⟩
          rw [← HAM.out]
          have HB4 := Lib.hid (below2 HB3.out hb4)
          clear hb4
          go_wp2_with fail
          refine (nknow_end HB4.out HTab.out).mono ?_
          rintro e wb ⟨rfl, hbb⟩
          have HBB := Lib.hid hbb
          clear hbb
          go_wp2_with fail
          go_ret
          exact ⟨rfl, HBB.out⟩
        | some c =>
          have HVM := Lib.hid (act_is HO3.out.2)
          have HVL := Lib.hid (HO3.out.1)
          clear HO3
          simp only [Option.getD_some, Option.isSome_some, if_true]
          go_wp2_with fail
          refine (nmachine_any a _ HAL.out (HTab.out.below HB3.out)).mono ?_
          rintro e w4 ⟨rfl, hb4⟩
          rw [← HAM.out]
          have HB4 := Lib.hid (below2 HB3.out hb4)
          clear hb4
          go_wp2_with fail
          refine (naction_any c _ HVL.out (HTab.out.below HB4.out)).mono ?_
          rintro e w5 ⟨rfl, hb5⟩
          rw [HVM.out.1, if_pos HVM.out.2]
          have HB5 := Lib.hid (below2 HB4.out hb5)
          clear hb5
          go_wp2_with fail
          refine (nknow_end HB5.out HTab.out).mono ?_
          rintro e wb ⟨rfl, hbb⟩
          have HBB := Lib.hid hbb
          clear hbb
          go_wp2_with fail
          go_ret
          exact ⟨rfl, HBB.out⟩
      | some b =>
        have HCM := Lib.hid (HO2.out.2)
        have HCL := Lib.hid (HO2.out.1)
        clear HO2
        simp only [Option.getD_some, Option.isSome_some, if_true]
        go_wp2_with fail
        refine (nreadaction_any s _ HS.out (HTab.out.below HB2.out)).mono ?_
        rintro e w3 ⟨⟨o3, ho3, rfl⟩, hb3⟩
        have HB3 := Lib.hid (below2 HB2.out hb3)
        have HO3 := Lib.hid ho3
        clear hb3 ho3
        cases o3 with
        | none =>
          clear HO3
          simp only [Option.getD_none, Option.isSome_none, Bool.false_eq_true, if_false]
          go_wp2_with fail
          refine (nmachine_any a _ HAL.out (HTab.out.below HB3.out)).mono ?_
          rintro e w4 ⟨rfl, hb4⟩
          rw [← HAM.out]
          have HB4 := Lib.hid (below2 HB3.out hb4)
          clear hb4
          go_wp2_with fail
          refine (ncall_any m b _ hm HCL.out (HTab.out.below HB4.out)).mono ?_
          rintro e w5 ⟨rfl, hb5⟩
          rw [← HCM.out]
          have HB5 := Lib.hid (below2 HB4.out hb5)
          clear hb5
          go_wp2_with fail
          refine (nknow_end HB5.out HTab.out).mono ?_
          rintro e wb ⟨rfl, hbb⟩
          have HBB := Lib.hid hbb
          clear hbb
          go_wp2_with fail
          go_ret
          exact ⟨rfl, HBB.out⟩
        | some c =>
          have HVM := Lib.hid (act_is HO3.out.2)
          have HVL := Lib.hid (HO3.out.1)
          clear HO3
          simp only [Option.getD_some, Option.isSome_some, if_true]
          go_wp2_with fail
          refine (nmachine_any a _ HAL.out (HTab.out.below HB3.out)).mono ?_
          rintro e w4 ⟨rfl, hb4⟩
          rw [← HAM.out]
          have HB4 := Lib.hid (below2 HB3.out hb4)
          clear hb4
          go_wp2_with fail
          refine (ncall_any m b _ hm HCL.out (HTab.out.below HB4.out)).mono ?_
          rintro e w5 ⟨rfl, hb5⟩
          rw [← HCM.out]
          have HB5 := Lib.hid (below2 HB4.out hb5)
          clear hb5
          go_wp2_with fail
          refine (naction_any c _ HVL.out (HTab.out.below HB5.out)).mono ?_
          rintro e w6 ⟨rfl, hb6⟩
          rw [HVM.out.1, if_pos HVM.out.2]
          have HB6 := Lib.hid (below2 HB5.out hb6)
          clear hb6
          go_wp2_with fail
          refine (nknow_end HB6.out HTab.out).mono ?_
          rintro e wb ⟨rfl, hbb⟩
          have HBB := Lib.hid hbb
          clear hbb
          go_wp2_with fail
          go_ret
          exact ⟨rfl, HBB.out⟩
theorem walk (m : Int) (s : ByteArray) (w : World) (h0 : 0 ≤ m) (h1 : m ≤ 4294967295) (hs : s.size ≤ maxLen) (ht : Tab w) :
    Calls Tryd.prog 6 #[.int .u32 m, .string s] w fun e w' => e = .returned (.bool true) ∧ Below w.heap.size w w' := by
  obtain ⟨m, rfl⟩ : ∃ k : Nat, m = k := ⟨m.toNat, by omega⟩
  exact walk_nat m s w (by omega) hs ht

set_option maxRecDepth 100000 in
/-- The row's contract, for every argument and every world. -/
theorem contract (H : Type) (enc : TypeId × Value → H) (W : World) (base : Nat) (args : Array Value) (ds gs : List (DataW H)) (before : List MemPlace)
    (hval : ∀ (j : Nat) t v, Tryd.f6.params[j]? = some t → args[j]? = some v → Value.okWide Tryd.prog W .any base t v)
    (hW : DataW.Whole enc Tryd.prog Tryd.f6.params.toList Rows.namesOnlySpec.vars false W args.toList ds gs before) (hL : laidMetH Tryd.prog Rows.namesOnlyRow.laid W) :
    Calls Tryd.prog 6 args W fun e W' => ∃ v, e = .returned v ∧ Rows.namesOnlySpec.post enc Tryd.prog Tryd.f6 false true false false W args v W' := by
  have hW' := hW
  obtain ⟨p, q, hA0, hV, rfl, hfz, hnd⟩ := hW
  have hA : DataW.TrodAll enc Tryd.prog W 0 (fun _ => true) true Tryd.f6.params.toList args.toList ds p := hA0
  rw [Tryd.params6] at hA hval
  obtain ⟨v0, vs0, d0, ds0, p0, q0, hargs0, rfl, rfl, t0, r0⟩ := trodAll_cons hA
  obtain ⟨v1, vs1, d1, ds1, p1, q1, hargs1, rfl, rfl, t1, r1⟩ := trodAll_cons r0
  obtain ⟨rfl, rfl, rfl⟩ := trodAll_nil r1
  obtain rfl : args = #[v0, v1] := by cases args; simp_all
  obtain ⟨arch, rfl, rfl, rfl, wf0⟩ := open_int Tryd.underlying22 (hval 0 22 v0 rfl rfl) t0
  have bd0 := bounds_u32 wf0
  obtain ⟨s, rfl, rfl, rfl, hs1⟩ := ChangeMaps.open_string Tryd.underlying9 (hval 1 9 v1 rfl rfl) t1
  refine (walk arch s W bd0.1 bd0.2 hs1 (tab_of hL)).mono fun e W' ⟨he, hg⟩ => ?_
  subst he
  exact ⟨_, rfl, law_post (tb := 4) laidOut (fun t ht => by rw [Tryd.params6] at ht; revert t; exact of_decide_eq_true (by kernel_rfl)) (by kernel_rfl) Tryd.underlying4 rfl
    (fun ds h => by rw [Tryd.params6] at h; match ds, h with | [_, _], _ => rfl) hW' hg⟩

theorem laid_met (os : Os) : laidMet Tryd.prog Rows.namesOnlyRow.laid ((laidWorld os).forCall (fun _ _ => 0) ⟨#[], #[.int .u32 0, .string ByteArray.empty], []⟩).memory :=
  laidMet_of_run' 8 (by kernel_rfl) (by kernel_rfl)
theorem reads (os : Os) {H : Type} (enc : TypeId × Value → H) : ∃ places, DataW.whole enc Tryd.prog ((laidWorld os).forCall (fun _ _ => 0) ⟨#[], #[.int .u32 0, .string ByteArray.empty], []⟩).memory Tryd.f6.params.toList Rows.namesOnlySpec.vars false #[Value.int .u32 0, Value.string ByteArray.empty].toList 8 = some ([.lit (.int .u32 0), .lit (.string [])], [], places) :=
  ⟨[], by kernel_rfl⟩

set_option maxRecDepth 100000 in
theorem lifted (os : Os) (started : os.Started) (H : Type) (enc : TypeId × Value → H) (F : Stop.Interp) :
    ReturnsInHanded {} Tryd.checked os 6 .any ((OpenSpec.ofChange Rows.namesOnlySpec).preRow enc Tryd.prog Tryd.f6 Rows.namesOnlyRow.domain false Rows.namesOnlyRow.laid) (((OpenSpec.ofChange Rows.namesOnlySpec).at F).post enc Tryd.prog Tryd.f6 false true false false) := by
  obtain ⟨places, hx⟩ := reads os enc
  refine returnsInHanded_of_row (C := Tryd.checked) (s := OpenSpec.ofChange Rows.namesOnlySpec) own started (by kernel_rfl) Tryd.func6
    (witness_row_at (enc := enc) (C := Tryd.checked) false (laidWorld os) #[.int .u32 0, .string ByteArray.empty] rfl (by kernel_rfl) (by kernel_rfl) (by kernel_rfl)
      (OpenSpec.preRow_of_cond 8 hx (by kernel_rfl) (fun k hk => by cases hk) (by kernel_rfl) (laid_met os))) ?_
  intro W base args ds gs before hval hW _ _ _ hL _ _
  exact contract H enc W base args ds gs before hval hW hL

theorem said : Rows.NamesOnlySaid :=
  OpenClaim.holds_of_cond 6 Tryd.f6 rfl rfl rfl rfl rfl rfl rfl ⟨rfl, rfl, rfl, rfl, rfl⟩ rfl rfl rfl rfl rfl (by kernel_rfl) Tryd.func6 (by kernel_rfl)
    (of_decide_eq_true (by kernel_rfl)) (by unfold Func.isWrapper; first | (rw [if_pos (by decide +kernel)]; kernel_rfl) | (rw [if_neg (by decide +kernel)]; exact ⟨rfl, rfl⟩))
    (fun os started H enc _ F => by rw [OpenClaim.pre_eq_preRow]; exact lifted os started H enc F)

/-- No parameter wants a stand-in; the program's own looks are off. -/
theorem plain (f : FuncId) (fn : Func) (hf : Tryd.pinned.checked.prog.funcNamed "hurdle/hurdlelaw09.NamesOnly" = some f) (hfn : Tryd.pinned.checked.prog.funcs[f]? = some fn) :
    false = Tryd.pinned.checked.prog.looks [] ∧ ∀ (j : Nat) t, fn.params[j]? = some t → Tryd.pinned.checked.prog.wantsStandIn t = false := by
  obtain rfl : f = 6 := Option.some.inj ((show Tryd.prog.funcNamed "hurdle/hurdlelaw09.NamesOnly" = some 6 by kernel_rfl).symm.trans hf) |>.symm
  obtain rfl : fn = Tryd.f6 := (Option.some.inj (Tryd.func6.symm.trans hfn)).symm
  refine ⟨by kernel_rfl, fun j t ht => ?_⟩
  have hm := Array.mem_of_getElem? ht
  rw [Tryd.params6] at hm
  have all : ∀ t ∈ (#[22, 9] : Array TypeId).toList, Tryd.prog.wantsStandIn t = false := of_decide_eq_true (by kernel_rfl)
  exact all t (Array.mem_toList_iff.2 hm)

/-- The tied card. -/
theorem card : Rows.NamesOnlyCardSaid :=
  Claim7.holds_tied_plain_at .later [] _ _ _ _ said (fun _ h => by cases h) (by kernel_rfl) (fun _ h => by cases h) namesOnly_row_tie rfl ⟨rfl, rfl⟩ (by kernel_rfl) rfl plain (by kernel_rfl)
end Go.Proofs.YtmijnhcbbklmaaaDoor.namesOnly
