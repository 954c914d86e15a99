/-
  For every filter, in every world that has the tables of math/bits, of strconv and of package ins as their initialisers lay them: the law CheckBytes returns true and changes nothing that was there.
-/
import Derived.Test.YtmiflelmblnkaaaDoorKFrame
import Derived.Test.YtmiflelmblnkaaaDoorCTrip
import Derived.Test.YtmiflelmblnkaaaDoorCEnc
import Derived.Test.YtmiflelmblnkaaaDoorCPrint
namespace Go.Proofs.YtmiflelmblnkaaaDoor.checkBytes
open Go.ChangeShapes Go.WideShapes Go.ChangeAt Go.RowKit

theorem text_len {f : List X4} (h : ferr f = 0) (hk : ∀ x ∈ f, x.ok) : (textL f).length ≤ 63 * f.length := by
  rw [textL_ok h]
  exact lines_le (ferr_zero h).2 hk
theorem read_text {f : List X4} (h : ferr f = 0) (hk : ∀ x ∈ f, x.ok) : rdL (textL f) = (f, 0, 0) := by
  rw [textL_ok h]
  exact rd_lines f [] (ferr_zero h).2 hk (by have := (ferr_zero h).1; simpa using this)
theorem sound_ferr {f : List X4} (h : soundB f = true) : ferr f = 0 := by
  obtain ⟨_, h1, hg, _⟩ := soundB_iff.1 h
  refine ferr_of h1 (List.all_eq_true.2 fun x hx => ?_)
  obtain ⟨i, hi, rfl⟩ := List.getElem_of_mem hx
  have hb := hg i hi
  rw [badAt_at hi] at hb
  exact one_right hb

set_option maxRecDepth 100000 in
set_option maxHeartbeats 8000000 in
theorem walk (v0 : Value) (f : List X4) (w : World) (hF : FAt w v0 f) (hk : ∀ x ∈ f, x.ok) (_hm : f.length ≤ 9223372036854775807) (hT : Tab w) (ht : OTab w) :
    Calls Tryd.prog 6 #[v0] w fun e w' => e = .returned (.bool true) ∧ Below w.heap.size w w' := by
  obtain ⟨ao0, cap0, rfl⟩ := hF.shape
  have HF := Lib.hid hF
  have HK := Lib.hid hk
  clear hF hk
  by_cases h1 : 500 < f.length
  · go_enter Tryd.func6, Tryd.ntmps6
    go_wp2_with fail
    refine (kknow_end (Below.refl _ _) ht).mono ?_
    rintro e wb ⟨rfl, hbb⟩
    have HB := Lib.hid hbb
    clear hbb
    go_wp2_with fail
    go_ret
    exact ⟨rfl, HB.out⟩
  go_enter Tryd.func6, Tryd.ntmps6
  go_wp2_with fail
  refine (sound_any _ f _ HF.out HK.out ht).mono ?_
  rintro e w0 ⟨rfl, hb0⟩
  have HB0 := Lib.hid hb0
  clear hb0
  cases hs : soundB f
  · have HS := Lib.hid hs
    clear hs
    go_wp2_with fail
    refine (rsound5_any _ f _ (HF.out.below HB0.out) HK.out).mono ?_
    rintro e w1 ⟨rfl, hb1⟩
    rw [HS.out]
    have HB1 := Lib.hid (below2 HB0.out hb1)
    clear hb1
    go_wp2_with fail
    refine (kknow_end HB1.out ht).mono ?_
    rintro e w2 ⟨rfl, hb2⟩
    have HB2 := Lib.hid hb2
    clear hb2
    go_wp2_with fail
    go_ret
    exact ⟨rfl, HB2.out⟩
  · have HS := Lib.hid hs
    have HE := Lib.hid (sound_ferr hs)
    have HLT := Lib.hid (text_len HE.out HK.out)
    have HTrip := Lib.hid (dec_enc HE.out HK.out)
    clear hs
    go_wp2_with fail
    refine (encode_any _ f _ (HF.out.below HB0.out) HK.out (ht.below HB0.out)).mono ?_
    rintro e w1 ⟨u1, rfl, hE1, hb1⟩
    rw [HE.out]
    have HB1 := Lib.hid (below2 HB0.out hb1)
    have HE1 := Lib.hid hE1
    clear hb1 hE1 HB0
    go_wp2_with fail
    refine (decode_any _ _ _ HE1.out (ht.below HB1.out)).mono ?_
    rintro e w2 ⟨u2, rfl, hF2, hb2⟩
    rw [HTrip.out.1]
    rw [HTrip.out.2] at hF2
    have HF2 := Lib.hid hF2
    have HB2 := Lib.hid (below2 HB1.out hb2)
    clear hb2 hF2 HE1 HB1
    go_wp2_with fail
    refine (cprint_any _ f _ (HF.out.below HB2.out) HK.out (hT.below HB2.out) (ht.below HB2.out)).mono ?_
    rintro e w3 ⟨rfl, hb3⟩
    rw [HE.out]
    have HB3 := Lib.hid (below2 HB2.out hb3)
    have HF3 := Lib.hid (HF2.out.below hb3)
    clear hb3 HF2 HB2
    go_wp2_with fail
    refine (cparse_any _ _ (show (textL f).length ≤ _ by have := HLT.out; omega) (ht.below HB3.out)).mono ?_
    rintro e w4 ⟨u4, rfl, hF4, hb4⟩
    rw [show rdL (⟨(textL f).toArray⟩ : ByteArray).data.toList = (f, 0, 0) from read_text HE.out HK.out] at hF4 ⊢
    have HG4 := Lib.hid hF4
    have HF4 := Lib.hid (HF3.out.below hb4)
    have HB4 := Lib.hid (below2 HB3.out hb4)
    clear hb4 hF4 HF3 HB3
    go_wp2_with fail
    refine (sound_any _ f _ HF4.out HK.out (ht.below HB4.out)).mono ?_
    rintro e w5 ⟨rfl, hb5⟩
    rw [HS.out]
    have HG5 := Lib.hid (HG4.out.below hb5)
    have HB5 := Lib.hid (below2 HB4.out hb5)
    clear hb5 HG4 HB4 HF4
    go_wp2_with fail
    refine (sound_any _ f _ HG5.out HK.out (ht.below HB5.out)).mono ?_
    rintro e w6 ⟨rfl, hb6⟩
    rw [HS.out]
    have HB6 := Lib.hid (below2 HB5.out hb6)
    clear hb6 HG5 HB5
    go_wp2_with fail
    refine (kknow_end HB6.out ht).mono ?_
    rintro e w7 ⟨rfl, hb7⟩
    have HB7 := Lib.hid hb7
    clear hb7
    go_wp2_with fail
    go_ret
    exact ⟨rfl, HB7.out⟩

set_option maxRecDepth 100000 in
/-- The row's contract, for every argument and every world. -/
theorem contract (H : Type) (enc : TypeId × Value → H) (W : World) (base : Nat) (args : Array Value) (ds gs : List (DataW H)) (before : List MemPlace)
    (hval : ∀ (j : Nat) t v, Tryd.f6.params[j]? = some t → args[j]? = some v → Value.okWide Tryd.prog W .any base t v)
    (hW : DataW.Whole enc Tryd.prog Tryd.f6.params.toList Rows.checkBytesSpec.vars false W args.toList ds gs before) (hL : laidMetH Tryd.prog Rows.checkBytesRow.laid W) :
    Calls Tryd.prog 6 args W fun e W' => ∃ v, e = .returned v ∧ Rows.checkBytesSpec.post enc Tryd.prog Tryd.f6 false true false false W args v W' := by
  have hW' := hW
  obtain ⟨p, q, hA0, hV, rfl, hfz, hnd⟩ := hW
  have hA : DataW.TrodAll enc Tryd.prog W 0 (fun _ => true) true Tryd.f6.params.toList args.toList ds p := hA0
  rw [Tryd.params6] at hA hval
  obtain ⟨v0, vs0, d0, ds0, p0, q0, hargs0, rfl, rfl, t0, r0⟩ := trodAll_cons hA
  obtain ⟨rfl, rfl, rfl⟩ := trodAll_nil r0
  obtain rfl : args = #[v0] := by cases args; simp_all
  obtain ⟨f, hF0, hk0, hm0⟩ := open_filt (hval 0 22 v0 rfl rfl) t0
  refine (walk v0 f W hF0 hk0 hm0 (tab_of hL) (otab_of hL)).mono fun e W' ⟨he, hg⟩ => ?_
  subst he
  exact ⟨_, rfl, law_post (tb := 4) laidOut (fun t ht => by rw [Tryd.params6] at ht; revert t; exact of_decide_eq_true (by kernel_rfl)) (by kernel_rfl) Tryd.underlying4 rfl
    (fun ds h => by rw [Tryd.params6] at h; match ds, h with | [_], _ => rfl) hW' hg⟩

theorem laid_met (os : Os) : laidMet Tryd.prog Rows.checkBytesRow.laid ((laidWorld os).forCall (fun _ _ => 0) ⟨#[], #[.slice none 0 0], []⟩).memory :=
  laidMet_of_run' 8 (by kernel_rfl) (by kernel_rfl)
theorem reads (os : Os) {H : Type} (enc : TypeId × Value → H) : ∃ places, DataW.whole enc Tryd.prog ((laidWorld os).forCall (fun _ _ => 0) ⟨#[], #[.slice none 0 0], []⟩).memory Tryd.f6.params.toList Rows.checkBytesSpec.vars false #[Value.slice none 0 0].toList 8 = some ([.nil], [], places) :=
  ⟨[], by kernel_rfl⟩

set_option maxRecDepth 100000 in
theorem lifted (os : Os) (started : os.Started) (H : Type) (enc : TypeId × Value → H) (F : Stop.Interp) :
    ReturnsInHanded {} Tryd.checked os 6 .any ((OpenSpec.ofChange Rows.checkBytesSpec).preRow enc Tryd.prog Tryd.f6 Rows.checkBytesRow.domain false Rows.checkBytesRow.laid) (((OpenSpec.ofChange Rows.checkBytesSpec).at F).post enc Tryd.prog Tryd.f6 false true false false) := by
  obtain ⟨places, hx⟩ := reads os enc
  refine returnsInHanded_of_row (C := Tryd.checked) (s := OpenSpec.ofChange Rows.checkBytesSpec) own started (by kernel_rfl) Tryd.func6
    (witness_row_at (enc := enc) (C := Tryd.checked) false (laidWorld os) #[.slice none 0 0] rfl (by kernel_rfl) (by kernel_rfl) (by kernel_rfl)
      (OpenSpec.preRow_of_cond 8 hx (by kernel_rfl) (fun k hk => by cases hk) (by kernel_rfl) (laid_met os))) ?_
  intro W base args ds gs before hval hW _ _ _ hL _ _
  exact contract H enc W base args ds gs before hval hW hL

theorem said : Rows.CheckBytesSaid :=
  OpenClaim.holds_of_cond 6 Tryd.f6 rfl rfl rfl rfl rfl rfl rfl ⟨rfl, rfl, rfl, rfl, rfl⟩ rfl rfl rfl rfl rfl (by kernel_rfl) Tryd.func6 (by kernel_rfl)
    (of_decide_eq_true (by kernel_rfl)) (by unfold Func.isWrapper; first | (rw [if_pos (by decide +kernel)]; kernel_rfl) | (rw [if_neg (by decide +kernel)]; exact ⟨rfl, rfl⟩))
    (fun os started H enc _ F => by rw [OpenClaim.pre_eq_preRow]; exact lifted os started H enc F)

/-- No parameter wants a stand-in; the program's own looks are off. -/
theorem plain (f : FuncId) (fn : Func) (hf : Tryd.pinned.checked.prog.funcNamed "hurdle/hurdlelaw05.CheckBytes" = some f) (hfn : Tryd.pinned.checked.prog.funcs[f]? = some fn) :
    false = Tryd.pinned.checked.prog.looks [] ∧ ∀ (j : Nat) t, fn.params[j]? = some t → Tryd.pinned.checked.prog.wantsStandIn t = false := by
  obtain rfl : f = 6 := Option.some.inj ((show Tryd.prog.funcNamed "hurdle/hurdlelaw05.CheckBytes" = some 6 by kernel_rfl).symm.trans hf) |>.symm
  obtain rfl : fn = Tryd.f6 := (Option.some.inj (Tryd.func6.symm.trans hfn)).symm
  refine ⟨by kernel_rfl, fun j t ht => ?_⟩
  have hm := Array.mem_of_getElem? ht
  rw [Tryd.params6] at hm
  have all : ∀ t ∈ (#[22] : Array TypeId).toList, Tryd.prog.wantsStandIn t = false := of_decide_eq_true (by kernel_rfl)
  exact all t (Array.mem_toList_iff.2 hm)

/-- The tied card. -/
theorem card : Rows.CheckBytesCardSaid :=
  Claim7.holds_tied_plain_at .later [] _ _ _ _ said (fun _ h => by cases h) (by kernel_rfl) (fun _ h => by cases h) checkBytes_row_tie rfl ⟨rfl, rfl⟩ (by kernel_rfl) rfl plain (by kernel_rfl)
end Go.Proofs.YtmiflelmblnkaaaDoor.checkBytes
