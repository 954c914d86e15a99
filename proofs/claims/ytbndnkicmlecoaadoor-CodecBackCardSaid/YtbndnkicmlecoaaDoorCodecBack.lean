/-
  For every filter and every bytes, in every world that has the tables of math/bits, of strconv and of package ins as their initialisers lay them: the law CodecBack returns true and changes nothing that was there.
-/
import Derived.Test.YtbndnkicmlecoaaDoorCFrame
namespace Go.Proofs.YtbndnkicmlecoaaDoor.codecBack
open Go.ChangeShapes Go.WideShapes Go.ChangeAt Go.RowKit

theorem text_len {f : List X4} (h : ferr f = 0) (hk : ∀ x ∈ f, x.ok) : (textL f).length ≤ 63 * f.length := by
  rw [textL_ok h]
  exact lines_le (ferr_zero h).2 hk
theorem read_text {f : List X4} (h : ferr f = 0) (hk : ∀ x ∈ f, x.ok) : rdL (textL f) = (f, 0, 0) := by
  rw [textL_ok h]
  exact rd_lines f [] (ferr_zero h).2 hk (by have := (ferr_zero h).1; simpa using this)

set_option maxRecDepth 100000 in
set_option maxHeartbeats 8000000 in
theorem walk (v0 : Value) (f : List X4) (v1 : Value) (b : List UInt8) (w : World) (hF : FAt w v0 f) (hk : ∀ x ∈ f, x.ok) (_hm : f.length ≤ 9223372036854775807) (hB : BAt w v1 b) (hT : Tab w) (ht : OTab w) :
    Calls Tryd.prog 6 #[v0, v1] w fun e w' => e = .returned (.bool true) ∧ Below w.heap.size w w' := by
  obtain ⟨ao0, cap0, rfl⟩ := hF.shape
  obtain ⟨ao1, cap1, rfl⟩ := hB.shape
  have HF := Lib.hid hF
  have HB := Lib.hid hB
  have HK := Lib.hid hk
  clear hF hB hk
  by_cases h1 : 500 < f.length
  · go_enter Tryd.func6, Tryd.ntmps6
    go_wp2_with fail
    refine (cknows_any _ ht).mono ?_
    rintro e wb ⟨rfl, hbb⟩
    go_wp2_with fail
    go_ret
    exact ⟨rfl, hbb⟩
  by_cases h2 : 5000 < b.length
  · go_enter Tryd.func6, Tryd.ntmps6
    go_wp2_with fail
    refine (cknows_any _ ht).mono ?_
    rintro e wb ⟨rfl, hbb⟩
    go_wp2_with fail
    go_ret
    exact ⟨rfl, hbb⟩
  go_enter Tryd.func6, Tryd.ntmps6
  go_wp2_with fail
  refine (encode_any _ f _ HF.out HK.out ht).mono ?_
  rintro e w1 ⟨u1, rfl, hE1, hb1⟩
  have HB1 := Lib.hid hb1
  have HE1 := Lib.hid hE1
  by_cases he : ferr f = 0
  · have HE := Lib.hid he
    have hlen : (encL f).length = 8 * f.length := by rw [encL_ok he, enc_len]
    obtain ⟨aoe, cape, hsh⟩ := hE1.shape
    rw [hlen] at hsh
    subst hsh
    have HLT := Lib.hid (text_len he HK.out)
    rw [he]
    clear he hlen hE1 hb1
    go_wp2_with fail
    refine (cprint_any _ f _ (HF.out.below HB1.out) HK.out (hT.below HB1.out) (ht.below HB1.out)).mono ?_
    rintro e w2 ⟨rfl, hb2⟩
    rw [HE.out]
    have HB2 := Lib.hid (HB1.out.trans (hb2.mono HB1.out.size))
    have HE2 := Lib.hid (HE1.out.below hb2)
    clear hb2 HE1 HB1
    go_wp2_with fail
    refine (decode_any _ _ _ HE2.out (ht.below HB2.out)).mono ?_
    rintro e w3 ⟨u3, rfl, hF3, hb3⟩
    have HTrip := Lib.hid (dec_enc HE.out HK.out)
    rw [HTrip.out.1]
    rw [HTrip.out.2] at hF3
    have HF3 := Lib.hid hF3
    have HB3 := Lib.hid (HB2.out.trans (hb3.mono HB2.out.size))
    clear hb3 hF3 HE2 HB2
    go_wp2_with fail
    refine (cparse_any _ _ (show (textL f).length ≤ _ by have := HLT.out; omega) (ht.below HB3.out)).mono ?_
    rintro e w4 ⟨u4, rfl, hF4, hb4⟩
    rw [show rdL (⟨(textL f).toArray⟩ : ByteArray).data.toList = (f, 0, 0) from read_text HE.out HK.out] at hF4 ⊢
    have HF4 := Lib.hid hF4
    have HF3' := Lib.hid (HF3.out.below hb4)
    have HB4 := Lib.hid (HB3.out.trans (hb4.mono HB3.out.size))
    clear hb4 hF4 HF3 HB3
    go_wp2_with fail
    refine (same_any _ _ f f _ (by omega) (HF.out.below HB4.out) HF3'.out).mono ?_
    rintro e w5 ⟨rfl, hb5⟩
    rw [show decide (f = f) = true by simp]
    have HF5 := Lib.hid (HF4.out.below hb5)
    have HB5 := Lib.hid (HB4.out.trans (hb5.mono HB4.out.size))
    clear hb5 HF4 HF3' HB4
    go_wp2_with fail
    refine (same_any _ _ f f _ (by omega) (HF.out.below HB5.out) HF5.out).mono ?_
    rintro e w6 ⟨rfl, hb6⟩
    rw [show decide (f = f) = true by simp]
    have HBW := Lib.hid (HB5.out.trans (hb6.mono HB5.out.size))
    clear hb6 HF5 HB5
    obtain ⟨i0, hi, hz0, hz1, hz2⟩ := info_parts info8
    have HBA := Lib.hid (HBW.out.alloc HBW.out.size (.cells #[] 5))
    have HSrc := Lib.hid ((HB.out.below HBA.out).src)
    have hsA := HBA.out.size
    go_wp2_with (at_builtin; refine wpList_append_src _ rfl _ _ 24 rfl w.heap.size 5 i0 (.int .u8 0) 1 1 Tryd.underlying24 hi hz0 hz1 hz2 rfl (by decide) _ 0 [] rfl (own_empty w6 w.heap.size 5 1 HBW.out.size) _ b.length (bcells b) rfl HSrc.out (bcells_one b) (by unfold maxLen; omega) (by omega) hsA ?_)
    intro v7 w7 hown7 hgrow7
    have HB7 := Lib.hid (grown_below HBA.out (own_empty w6 w.heap.size 5 1 HBW.out.size) hgrow7 hsA)
    have HD7 : Hid (BAt w7 v7 b) := Lib.hid (BAt.own (by simpa using hown7) (Nat.zero_add _))
    clear hown7 hgrow7 hi hz0 hz1 hz2 HSrc HBA hsA
    go_wp2_with fail
    refine (decode_any _ _ _ HD7.out (ht.below HB7.out)).mono ?_
    rintro e w8 ⟨u8, rfl, hF8, hb8⟩
    have HB8 := Lib.hid (HB7.out.trans (hb8.mono HB7.out.size))
    have HF8 := Lib.hid hF8
    clear hb8
    by_cases hd : derr b = 0
    · have HTrip := Lib.hid (enc_dec hd)
      rw [hd]
      clear hd hF8
      go_wp2_with fail
      refine (encode_any _ _ _ HF8.out (decL_ok' b) (ht.below HB8.out)).mono ?_
      rintro e w9 ⟨u9, rfl, hE9, hb9⟩
      rw [HTrip.out.1]
      rw [HTrip.out.2] at hE9
      have HB9 := Lib.hid (HB8.out.trans (hb9.mono HB8.out.size))
      have hc1 := hE9.conv
      have hc2 := (HB.out.below HB9.out).conv
      have HF9 := Lib.hid (HF8.out.below hb9)
      clear hb9 hE9
      go_wp2_with fail
      refine (cright_any _ _ _ HF9.out (ht.below HB9.out)).mono ?_
      rintro e wa ⟨rfl, hba⟩
      rw [HTrip.out.1]
      have HBa := Lib.hid (HB9.out.trans (hba.mono HB9.out.size))
      clear hba hc1 hc2
      go_wp2_with fail
      refine (cknows_any _ (ht.below HBa.out)).mono ?_
      rintro e wb ⟨rfl, hbb⟩
      go_wp2_with fail
      go_ret
      exact ⟨rfl, HBa.out.trans (hbb.mono HBa.out.size)⟩
    · have hdb : (derr b == 0) = false := by simpa using hd
      rw [decL_bad hd] at hF8
      obtain ⟨ao8, cap8, rfl⟩ := hF8.shape
      clear hd hF8
      go_wp2_with fail
      refine (cknows_any _ (ht.below HB8.out)).mono ?_
      rintro e wb ⟨rfl, hbb⟩
      go_wp2_with fail
      go_ret
      exact ⟨rfl, HB8.out.trans (hbb.mono HB8.out.size)⟩
  · have heb : (ferr f == 0) = false := by simpa using he
    have HBW := HB1
    clear he hE1 hb1
    obtain ⟨i0, hi, hz0, hz1, hz2⟩ := info_parts info8
    have HBA := Lib.hid (HBW.out.alloc HBW.out.size (.cells #[] 5))
    have HSrc := Lib.hid ((HB.out.below HBA.out).src)
    have hsA := HBA.out.size
    go_wp2_with (at_builtin; refine wpList_append_src _ rfl _ _ 24 rfl w.heap.size 5 i0 (.int .u8 0) 1 1 Tryd.underlying24 hi hz0 hz1 hz2 rfl (by decide) _ 0 [] rfl (own_empty w1 w.heap.size 5 1 HBW.out.size) _ b.length (bcells b) rfl HSrc.out (bcells_one b) (by unfold maxLen; omega) (by omega) hsA ?_)
    intro v7 w7 hown7 hgrow7
    have HB7 := Lib.hid (grown_below HBA.out (own_empty w1 w.heap.size 5 1 HBW.out.size) hgrow7 hsA)
    have HD7 : Hid (BAt w7 v7 b) := Lib.hid (BAt.own (by simpa using hown7) (Nat.zero_add _))
    clear hown7 hgrow7 hi hz0 hz1 hz2 HSrc HBA hsA
    go_wp2_with fail
    refine (decode_any _ _ _ HD7.out (ht.below HB7.out)).mono ?_
    rintro e w8 ⟨u8, rfl, hF8, hb8⟩
    have HB8 := Lib.hid (HB7.out.trans (hb8.mono HB7.out.size))
    have HF8 := Lib.hid hF8
    clear hb8
    by_cases hd : derr b = 0
    · have HTrip := Lib.hid (enc_dec hd)
      rw [hd]
      clear hd hF8
      go_wp2_with fail
      refine (encode_any _ _ _ HF8.out (decL_ok' b) (ht.below HB8.out)).mono ?_
      rintro e w9 ⟨u9, rfl, hE9, hb9⟩
      rw [HTrip.out.1]
      rw [HTrip.out.2] at hE9
      have HB9 := Lib.hid (HB8.out.trans (hb9.mono HB8.out.size))
      have hc1 := hE9.conv
      have hc2 := (HB.out.below HB9.out).conv
      have HF9 := Lib.hid (HF8.out.below hb9)
      clear hb9 hE9
      go_wp2_with fail
      refine (cright_any _ _ _ HF9.out (ht.below HB9.out)).mono ?_
      rintro e wa ⟨rfl, hba⟩
      rw [HTrip.out.1]
      have HBa := Lib.hid (HB9.out.trans (hba.mono HB9.out.size))
      clear hba hc1 hc2
      go_wp2_with fail
      refine (cknows_any _ (ht.below HBa.out)).mono ?_
      rintro e wb ⟨rfl, hbb⟩
      go_wp2_with fail
      go_ret
      exact ⟨rfl, HBa.out.trans (hbb.mono HBa.out.size)⟩
    · have hdb : (derr b == 0) = false := by simpa using hd
      rw [decL_bad hd] at hF8
      obtain ⟨ao8, cap8, rfl⟩ := hF8.shape
      clear hd hF8
      go_wp2_with fail
      refine (cknows_any _ (ht.below HB8.out)).mono ?_
      rintro e wb ⟨rfl, hbb⟩
      go_wp2_with fail
      go_ret
      exact ⟨rfl, HB8.out.trans (hbb.mono HB8.out.size)⟩

set_option maxRecDepth 100000 in
/-- The row's contract, for every argument and every world. -/
theorem contract (H : Type) (enc : TypeId × Value → H) (W : World) (base : Nat) (args : Array Value) (ds gs : List (DataW H)) (before : List MemPlace)
    (hval : ∀ (j : Nat) t v, Tryd.f6.params[j]? = some t → args[j]? = some v → Value.okWide Tryd.prog W .any base t v)
    (hW : DataW.Whole enc Tryd.prog Tryd.f6.params.toList Rows.codecBackSpec.vars false W args.toList ds gs before) (hL : laidMetH Tryd.prog Rows.codecBackRow.laid W) :
    Calls Tryd.prog 6 args W fun e W' => ∃ v, e = .returned v ∧ Rows.codecBackSpec.post enc Tryd.prog Tryd.f6 false true false false W args v W' := by
  have hW' := hW
  obtain ⟨p, q, hA0, hV, rfl, hfz, hnd⟩ := hW
  have hA : DataW.TrodAll enc Tryd.prog W 0 (fun _ => true) true Tryd.f6.params.toList args.toList ds p := hA0
  rw [Tryd.params6] at hA hval
  obtain ⟨v0, vs0, d0, ds0, p0, q0, hargs0, rfl, rfl, t0, r0⟩ := trodAll_cons hA
  obtain ⟨v1, vs1, d1, ds1, p1, q1, hargs1, rfl, rfl, t1, r1⟩ := trodAll_cons r0
  obtain ⟨rfl, rfl, rfl⟩ := trodAll_nil r1
  obtain rfl : args = #[v0, v1] := by cases args; simp_all
  obtain ⟨f, hF0, hk0, hm0⟩ := open_filt (hval 0 22 v0 rfl rfl) t0
  obtain ⟨b, hF1⟩ := open_byteArg (hval 1 24 v1 rfl rfl) t1
  refine (walk v0 f v1 b W hF0 hk0 hm0 hF1 (tab_of hL) (otab_of hL)).mono fun e W' ⟨he, hg⟩ => ?_
  subst he
  exact ⟨_, rfl, law_post (tb := 4) laidOut (fun t ht => by rw [Tryd.params6] at ht; revert t; exact of_decide_eq_true (by kernel_rfl)) (by kernel_rfl) Tryd.underlying4 rfl
    (fun ds h => by rw [Tryd.params6] at h; match ds, h with | [_, _], _ => rfl) hW' hg⟩

theorem laid_met (os : Os) : laidMet Tryd.prog Rows.codecBackRow.laid ((laidWorld os).forCall (fun _ _ => 0) ⟨#[], #[.slice none 0 0, .slice none 0 0], []⟩).memory :=
  laidMet_of_run' 8 (by kernel_rfl) (by kernel_rfl)
theorem reads (os : Os) {H : Type} (enc : TypeId × Value → H) : ∃ places, DataW.whole enc Tryd.prog ((laidWorld os).forCall (fun _ _ => 0) ⟨#[], #[.slice none 0 0, .slice none 0 0], []⟩).memory Tryd.f6.params.toList Rows.codecBackSpec.vars false #[Value.slice none 0 0, Value.slice none 0 0].toList 8 = some ([.nil, .nil], [], places) :=
  ⟨[], by kernel_rfl⟩

set_option maxRecDepth 100000 in
theorem lifted (os : Os) (started : os.Started) (H : Type) (enc : TypeId × Value → H) (F : Stop.Interp) :
    ReturnsInHanded {} Tryd.checked os 6 .any ((OpenSpec.ofChange Rows.codecBackSpec).preRow enc Tryd.prog Tryd.f6 Rows.codecBackRow.domain false Rows.codecBackRow.laid) (((OpenSpec.ofChange Rows.codecBackSpec).at F).post enc Tryd.prog Tryd.f6 false true false false) := by
  obtain ⟨places, hx⟩ := reads os enc
  refine returnsInHanded_of_row (C := Tryd.checked) (s := OpenSpec.ofChange Rows.codecBackSpec) own started (by kernel_rfl) Tryd.func6
    (witness_row_at (enc := enc) (C := Tryd.checked) false (laidWorld os) #[.slice none 0 0, .slice none 0 0] rfl (by kernel_rfl) (by kernel_rfl) (by kernel_rfl)
      (OpenSpec.preRow_of_cond 8 hx (by kernel_rfl) (fun k hk => by cases hk) (by kernel_rfl) (laid_met os))) ?_
  intro W base args ds gs before hval hW _ _ _ hL _ _
  exact contract H enc W base args ds gs before hval hW hL

theorem said : Rows.CodecBackSaid :=
  OpenClaim.holds_of_cond 6 Tryd.f6 rfl rfl rfl rfl rfl rfl rfl ⟨rfl, rfl, rfl, rfl, rfl⟩ rfl rfl rfl rfl rfl (by kernel_rfl) Tryd.func6 (by kernel_rfl)
    (of_decide_eq_true (by kernel_rfl)) (by unfold Func.isWrapper; first | (rw [if_pos (by decide +kernel)]; kernel_rfl) | (rw [if_neg (by decide +kernel)]; exact ⟨rfl, rfl⟩))
    (fun os started H enc _ F => by rw [OpenClaim.pre_eq_preRow]; exact lifted os started H enc F)

/-- No parameter wants a stand-in; the program's own looks are off. -/
theorem plain (f : FuncId) (fn : Func) (hf : Tryd.pinned.checked.prog.funcNamed "hurdle/hurdlelaw03.CodecBack" = some f) (hfn : Tryd.pinned.checked.prog.funcs[f]? = some fn) :
    false = Tryd.pinned.checked.prog.looks [] ∧ ∀ (j : Nat) t, fn.params[j]? = some t → Tryd.pinned.checked.prog.wantsStandIn t = false := by
  obtain rfl : f = 6 := Option.some.inj ((show Tryd.prog.funcNamed "hurdle/hurdlelaw03.CodecBack" = some 6 by kernel_rfl).symm.trans hf) |>.symm
  obtain rfl : fn = Tryd.f6 := (Option.some.inj (Tryd.func6.symm.trans hfn)).symm
  refine ⟨by kernel_rfl, fun j t ht => ?_⟩
  have hm := Array.mem_of_getElem? ht
  rw [Tryd.params6] at hm
  have all : ∀ t ∈ (#[22, 24] : Array TypeId).toList, Tryd.prog.wantsStandIn t = false := of_decide_eq_true (by kernel_rfl)
  exact all t (Array.mem_toList_iff.2 hm)

/-- The tied card. -/
theorem card : Rows.CodecBackCardSaid :=
  Claim7.holds_tied_plain_at .later [] _ _ _ _ said (fun _ h => by cases h) (by kernel_rfl) (fun _ h => by cases h) codecBack_row_tie rfl ⟨rfl, rfl⟩ (by kernel_rfl) rfl plain (by kernel_rfl)
end Go.Proofs.YtbndnkicmlecoaaDoor.codecBack
