/-
  For every filter, in every world that has the tables of math/bits, of strconv and of package ins as their initialisers lay them: the law CodecBytes returns true and changes nothing that was there.
-/
import Derived.Test.YtbndnkicmlecoaaDoorCFrame
import Derived.Test.YtbndnkicmlecoaaDoorR3Enc
import Derived.Deep.RegionWith
import Derived.BigRegion
namespace Go.Proofs.YtbndnkicmlecoaaDoor.codecBytes
open Go.ChangeShapes Go.WideShapes Go.ChangeAt Go.RowKit

set_option maxRecDepth 100000 in
set_option maxHeartbeats 8000000 in
theorem walk (v0 : Value) (f : List X4) (w : World) (hF : FAt w v0 f) (hk : ∀ x ∈ f, x.ok) (_hm : f.length ≤ 9223372036854775807) (hT : Tab w) (ht : OTab w) :
    Calls Tryd.prog 3 #[v0] w fun e w' => e = .returned (.bool true) ∧ Below w.heap.size w w' := by
  obtain ⟨ao0, cap0, rfl⟩ := hF.shape
  have HF := Lib.hid hF
  have HK := Lib.hid hk
  clear hF hk
  by_cases h1 : 5000 < f.length
  · go_enter Tryd.func3, Tryd.ntmps3
    go_wp2_with fail
    refine (cknows_any _ ht).mono ?_
    rintro e wb ⟨rfl, hbb⟩
    go_wp2_with fail
    go_ret
    exact ⟨rfl, hbb⟩
  go_enter Tryd.func3, Tryd.ntmps3
  go_wp2_with fail
  refine (encode_any _ f _ HF.out HK.out ht).mono ?_
  rintro e w1 ⟨u1, rfl, hE1, hb1⟩
  have HB1 := Lib.hid hb1
  have HE1 := Lib.hid hE1
  clear hb1 hE1
  go_wp2_with fail
  refine (cprint_any _ f _ (HF.out.below HB1.out) HK.out (hT.below HB1.out) (ht.below HB1.out)).mono ?_
  rintro e w2 ⟨rfl, hb2⟩
  have HB2 := Lib.hid (HB1.out.trans (hb2.mono HB1.out.size))
  have HE2 := Lib.hid (HE1.out.below hb2)
  clear hb2 HE1 HB1
  go_wp2_with fail
  refine (rcheck_any _ f _ (HF.out.below HB2.out)).mono ?_
  rintro e w3 ⟨rfl, hb3⟩
  have HB3 := Lib.hid (HB2.out.trans (hb3.mono HB2.out.size))
  have HE3 := Lib.hid (HE2.out.below hb3)
  clear hb3 HE2 HB2
  go_wp2_with fail
  refine (cright_any _ f _ (HF.out.below HB3.out) (ht.below HB3.out)).mono ?_
  rintro e w4 ⟨rfl, hb4⟩
  have HB4 := Lib.hid (HB3.out.trans (hb4.mono HB3.out.size))
  have hE4 := HE3.out.below hb4
  clear hb4 HE3 HB3
  by_cases he : ferr f = 0
  · have HE := Lib.hid he
    have HE4 := Lib.hid hE4
    rw [he]
    clear he hE4
    have HBd := Lib.hid (bdN HB4.out 1)
    have c1 : (convert 24 9 u1).run Tryd.prog w4.drew = .ok (.string ⟨(encL f).toArray⟩) w4.drew := (show BAt w4.drew u1 (encL f) from HE4.out).conv
    go_wp2_with fail
    go_region_with (first
      | (go_at_call 14; refine (r3encode_any _ f _ (HF.out.below HBd.out) HK.out HE.out).mono ?_; rintro e w5 ⟨u5, rfl, hE5, hb5⟩; have c2 := (BAt.below (show BAt w4.drew u1 (encL f) from HE4.out) hb5).conv; have c5 := hE5.conv; have HB5 := Lib.hid (HBd.out.trans (hb5.mono HBd.out.size)); clear hb5 hE5)
      | (go_at_call 15; refine (r3print_any _ f _ (HF.out.below HB5.out) HK.out HE.out).mono ?_; rintro e w6 ⟨rfl, hb6⟩; have HB6 := Lib.hid (HB5.out.trans (hb6.mono HB5.out.size)); clear hb6)
      | (go_at_call 9; refine (cknows_any _ (ht.below HB6.out)).mono ?_; rintro e w7 ⟨rfl, hb7⟩; have HB7 := Lib.hid (HB6.out.trans (hb7.mono HB6.out.size)); clear hb7))
    all_goals
      go_wp2_with fail
      go_ret
      exact ⟨rfl, HB7.out⟩
  · have heb : (ferr f == 0) = false := by simpa using he
    rw [encL_bad he] at hE4
    rw [textL_bad he]
    obtain ⟨ao4, cap4, rfl⟩ := hE4.shape
    clear he hE4
    go_wp2_with fail
    refine (cknows_any _ (ht.below HB4.out)).mono ?_
    rintro e w7 ⟨rfl, hb7⟩
    go_wp2_with fail
    go_ret
    exact ⟨rfl, HB4.out.trans (hb7.mono HB4.out.size)⟩

set_option maxRecDepth 100000 in
/-- The row's contract, for every argument and every world. -/
theorem contract (H : Type) (enc : TypeId × Value → H) (W : World) (base : Nat) (args : Array Value) (ds gs : List (DataW H)) (before : List MemPlace)
    (hval : ∀ (j : Nat) t v, Tryd.f3.params[j]? = some t → args[j]? = some v → Value.okWide Tryd.prog W .any base t v)
    (hW : DataW.Whole enc Tryd.prog Tryd.f3.params.toList Rows.codecBytesSpec.vars false W args.toList ds gs before) (hL : laidMetH Tryd.prog Rows.codecBytesRow.laid W) :
    Calls Tryd.prog 3 args W fun e W' => ∃ v, e = .returned v ∧ Rows.codecBytesSpec.post enc Tryd.prog Tryd.f3 false true false false W args v W' := by
  have hW' := hW
  obtain ⟨p, q, hA0, hV, rfl, hfz, hnd⟩ := hW
  have hA : DataW.TrodAll enc Tryd.prog W 0 (fun _ => true) true Tryd.f3.params.toList args.toList ds p := hA0
  rw [Tryd.params3] at hA hval
  obtain ⟨v0, vs0, d0, ds0, p0, q0, hargs0, rfl, rfl, t0, r0⟩ := trodAll_cons hA
  obtain ⟨rfl, rfl, rfl⟩ := trodAll_nil r0
  obtain rfl : args = #[v0] := by cases args; simp_all
  obtain ⟨f, hF0, hk0, hm0⟩ := open_filt (hval 0 22 v0 rfl rfl) t0
  refine (walk v0 f W hF0 hk0 hm0 (tab_of hL) (otab_of hL)).mono fun e W' ⟨he, hg⟩ => ?_
  subst he
  exact ⟨_, rfl, law_post (tb := 4) laidOut (fun t ht => by rw [Tryd.params3] at ht; revert t; exact of_decide_eq_true (by kernel_rfl)) (by kernel_rfl) Tryd.underlying4 rfl
    (fun ds h => by rw [Tryd.params3] at h; match ds, h with | [_], _ => rfl) hW' hg⟩

theorem laid_met (os : Os) : laidMet Tryd.prog Rows.codecBytesRow.laid ((laidWorld os).forCall (fun _ _ => 0) ⟨#[], #[.slice none 0 0], []⟩).memory :=
  laidMet_of_run' 8 (by kernel_rfl) (by kernel_rfl)
theorem reads (os : Os) {H : Type} (enc : TypeId × Value → H) : ∃ places, DataW.whole enc Tryd.prog ((laidWorld os).forCall (fun _ _ => 0) ⟨#[], #[.slice none 0 0], []⟩).memory Tryd.f3.params.toList Rows.codecBytesSpec.vars false #[Value.slice none 0 0].toList 8 = some ([.nil], [], places) :=
  ⟨[], by kernel_rfl⟩

set_option maxRecDepth 100000 in
theorem lifted (os : Os) (started : os.Started) (H : Type) (enc : TypeId × Value → H) (F : Stop.Interp) :
    ReturnsInHanded {} Tryd.checked os 3 .any ((OpenSpec.ofChange Rows.codecBytesSpec).preRow enc Tryd.prog Tryd.f3 Rows.codecBytesRow.domain false Rows.codecBytesRow.laid) (((OpenSpec.ofChange Rows.codecBytesSpec).at F).post enc Tryd.prog Tryd.f3 false true false false) := by
  obtain ⟨places, hx⟩ := reads os enc
  refine returnsInHanded_of_row (C := Tryd.checked) (s := OpenSpec.ofChange Rows.codecBytesSpec) own started (by kernel_rfl) Tryd.func3
    (witness_row_at (enc := enc) (C := Tryd.checked) false (laidWorld os) #[.slice none 0 0] rfl (by kernel_rfl) (by kernel_rfl) (by kernel_rfl)
      (OpenSpec.preRow_of_cond 8 hx (by kernel_rfl) (fun k hk => by cases hk) (by kernel_rfl) (laid_met os))) ?_
  intro W base args ds gs before hval hW _ _ _ hL _ _
  exact contract H enc W base args ds gs before hval hW hL

theorem said : Rows.CodecBytesSaid :=
  OpenClaim.holds_of_cond 3 Tryd.f3 rfl rfl rfl rfl rfl rfl rfl ⟨rfl, rfl, rfl, rfl, rfl⟩ rfl rfl rfl rfl rfl (by kernel_rfl) Tryd.func3 (by kernel_rfl)
    (of_decide_eq_true (by kernel_rfl)) (by unfold Func.isWrapper; first | (rw [if_pos (by decide +kernel)]; kernel_rfl) | (rw [if_neg (by decide +kernel)]; exact ⟨rfl, rfl⟩))
    (fun os started H enc _ F => by rw [OpenClaim.pre_eq_preRow]; exact lifted os started H enc F)

/-- No parameter wants a stand-in; the program's own looks are off. -/
theorem plain (f : FuncId) (fn : Func) (hf : Tryd.pinned.checked.prog.funcNamed "hurdle/hurdlelaw03.CodecBytes" = some f) (hfn : Tryd.pinned.checked.prog.funcs[f]? = some fn) :
    false = Tryd.pinned.checked.prog.looks [] ∧ ∀ (j : Nat) t, fn.params[j]? = some t → Tryd.pinned.checked.prog.wantsStandIn t = false := by
  obtain rfl : f = 3 := Option.some.inj ((show Tryd.prog.funcNamed "hurdle/hurdlelaw03.CodecBytes" = some 3 by kernel_rfl).symm.trans hf) |>.symm
  obtain rfl : fn = Tryd.f3 := (Option.some.inj (Tryd.func3.symm.trans hfn)).symm
  refine ⟨by kernel_rfl, fun j t ht => ?_⟩
  have hm := Array.mem_of_getElem? ht
  rw [Tryd.params3] at hm
  have all : ∀ t ∈ (#[22] : Array TypeId).toList, Tryd.prog.wantsStandIn t = false := of_decide_eq_true (by kernel_rfl)
  exact all t (Array.mem_toList_iff.2 hm)

/-- The tied card. -/
theorem card : Rows.CodecBytesCardSaid :=
  Claim7.holds_tied_plain_at .later [] _ _ _ _ said (fun _ h => by cases h) (by kernel_rfl) (fun _ h => by cases h) codecBytes_row_tie rfl ⟨rfl, rfl⟩ (by kernel_rfl) rfl plain (by kernel_rfl)
end Go.Proofs.YtbndnkicmlecoaaDoor.codecBytes
