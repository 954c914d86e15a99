/-
  For every two filters, in every world that has the tables of math/bits, of strconv and of package ins as their initialisers lay them: the law CodecRows returns true and changes nothing that was there.
-/
import Derived.Test.YtbndnkicmlecoaaDoorCFrame
namespace Go.Proofs.YtbndnkicmlecoaaDoor.codecRows
open Go.ChangeShapes Go.WideShapes Go.ChangeAt Go.RowKit

theorem ferr_app {f g : List X4} (h1 : f.length ≤ 500) (h2 : g.length ≤ 500) : ferr (f ++ g) = if ferr f = 0 ∧ ferr g = 0 then 0 else 1 := by
  have e : ∀ l : List X4, l.length ≤ 500 → ferr l = if l.all X4.right then 0 else 1 := by
    intro l hl
    unfold ferr
    rw [if_neg (by omega)]
  have e2 : ferr (f ++ g) = if (f ++ g).all X4.right then 0 else 1 := by
    unfold ferr
    rw [if_neg (by rw [List.length_append]; omega)]
  rw [e2, e f h1, e g h2, List.all_append]
  cases f.all X4.right <;> cases g.all X4.right <;> rfl
theorem enc_app {f g : List X4} (h1 : f.length ≤ 500) (h2 : g.length ≤ 500) (hf : ferr f = 0) (hg : ferr g = 0) : (⟨(encL f).toArray⟩ : ByteArray) ++ ⟨(encL g).toArray⟩ = ⟨(encL (f ++ g)).toArray⟩ := by
  have h : ferr (f ++ g) = 0 := by rw [ferr_app h1 h2, if_pos ⟨hf, hg⟩]
  rw [Wd.joined, encL_ok hf, encL_ok hg, encL_ok h, List.flatMap_append]
theorem text_app {f g : List X4} (h1 : f.length ≤ 500) (h2 : g.length ≤ 500) (hf : ferr f = 0) (hg : ferr g = 0) : (⟨(textL f).toArray⟩ : ByteArray) ++ ⟨(textL g).toArray⟩ = ⟨(textL (f ++ g)).toArray⟩ := by
  have h : ferr (f ++ g) = 0 := by rw [ferr_app h1 h2, if_pos ⟨hf, hg⟩]
  rw [Wd.joined, textL_ok hf, textL_ok hg, textL_ok h, List.flatMap_append]
theorem ok_app {f g : List X4} (h1 : ∀ x ∈ f, x.ok) (h2 : ∀ x ∈ g, x.ok) : ∀ x ∈ f ++ g, x.ok := fun x hx => (List.mem_append.1 hx).elim (h1 x) (h2 x)

set_option maxRecDepth 100000 in
set_option maxHeartbeats 8000000 in
theorem walk (v0 : Value) (f : List X4) (v1 : Value) (g : List X4) (w : World) (hF : FAt w v0 f) (hk : ∀ x ∈ f, x.ok) (_hm : f.length ≤ 9223372036854775807) (hG : FAt w v1 g) (hk' : ∀ x ∈ g, x.ok) (_hm' : g.length ≤ 9223372036854775807) (hT : Tab w) (ht : OTab w) :
    Calls Tryd.prog 8 #[v0, v1] w fun e w' => e = .returned (.bool true) ∧ Below w.heap.size w w' := by
  obtain ⟨ao0, cap0, rfl⟩ := hF.shape
  obtain ⟨ao1, cap1, rfl⟩ := hG.shape
  have HF := Lib.hid hF
  have HG := Lib.hid hG
  have HK := Lib.hid hk
  have HK' := Lib.hid hk'
  clear hF hG hk hk'
  by_cases h1 : 500 < f.length
  · go_enter Tryd.func8, Tryd.ntmps8
    go_wp2_with fail
    refine (cknows_any _ ht).mono ?_
    rintro e wb ⟨rfl, hbb⟩
    go_wp2_with fail
    go_ret
    exact ⟨rfl, hbb⟩
  by_cases h2 : 500 < g.length
  · go_enter Tryd.func8, Tryd.ntmps8
    go_wp2_with fail
    refine (cknows_any _ ht).mono ?_
    rintro e wb ⟨rfl, hbb⟩
    go_wp2_with fail
    go_ret
    exact ⟨rfl, hbb⟩
  have HFE := Lib.hid (ferr_app (f := f) (g := g) (by omega) (by omega))
  have HEA := Lib.hid (enc_app (f := f) (g := g) (by omega) (by omega))
  have HTA := Lib.hid (text_app (f := f) (g := g) (by omega) (by omega))
  obtain ⟨i0, hi, hz0, hz1, hz2⟩ := info_parts infoX
  go_enter Tryd.func8, Tryd.ntmps8
  go_wp2_with fail
  refine (encode_any _ f _ HF.out HK.out ht).mono ?_
  rintro e w1 ⟨u1, rfl, hE1, hb1⟩
  have HB1 := Lib.hid hb1
  have HE1 := Lib.hid hE1
  clear hb1 hE1
  go_wp2_with fail
  refine (encode_any _ g _ (HG.out.below HB1.out) HK'.out (ht.below HB1.out)).mono ?_
  rintro e w2 ⟨u2, rfl, hE2, hb2⟩
  have HB2 := Lib.hid (HB1.out.trans (hb2.mono HB1.out.size))
  have HE2 := Lib.hid hE2
  have HE1' := Lib.hid (HE1.out.below hb2)
  clear hb2 hE2 HE1 HB1
  have HBA1 := Lib.hid (ba (.cells #[] 48) (Below.refl w2.heap.size w2))
  have hsA1 := HBA1.out.size
  go_wp2_with (at_builtin; refine wpList_append_src _ rfl _ _ 22 rfl w2.heap.size 48 i0 (.agg #[.int .i64 0, .int .i64 0, .int .i64 0, .int .u32 0]) 4 32 Tryd.underlying22 hi hz0 hz1 hz2 rfl (by decide) _ 0 [] rfl (own_empty w2 w2.heap.size 48 4 (Nat.le_refl _)) _ f.length (fcells f) rfl (HF.out.below (HB2.out.trans (HBA1.out.mono HB2.out.size))).src (fcells_one' f) (by unfold maxLen; omega) (by omega) hsA1 ?_)
  intro va1 wa1 hown hgrow
  have HBa1 := Lib.hid (grown_below HBA1.out (own_empty w2 w2.heap.size 48 4 (Nat.le_refl _)) hgrow hsA1)
  have HOa1 := Lib.hid hown
  have hsa1 := HBa1.out.size
  clear hown hgrow
  go_wp2_with (at_builtin; refine wpList_append_src _ rfl _ _ 22 rfl w2.heap.size 48 i0 (.agg #[.int .i64 0, .int .i64 0, .int .i64 0, .int .u32 0]) 4 32 Tryd.underlying22 hi hz0 hz1 hz2 rfl (by decide) _ _ _ rfl HOa1.out _ g.length (fcells g) rfl (HG.out.below (HB2.out.trans (HBa1.out.mono HB2.out.size))).src (fcells_one' g) (by unfold maxLen; omega) (by omega) hsa1 ?_)
  intro vb1 wb1 hown hgrow
  have HC1 := Lib.hid (grown_below HBa1.out HOa1.out hgrow hsa1)
  have HBb1 := Lib.hid (HB2.out.trans (HC1.out.mono HB2.out.size))
  have HJ1 : Hid (FAt wb1 vb1 (f ++ g)) := Lib.hid (FAt.own (l := f ++ g) (by rw [fcells_app]; simpa using hown) (by rw [List.length_append]))
  clear hown hgrow HOa1 HBa1 HBA1 hsa1 hsA1
  have HE1a := Lib.hid (HE1'.out.below HC1.out)
  have HE2a := Lib.hid (HE2.out.below HC1.out)
  clear HC1 HE1' HE2 HB2
  go_wp2_with fail
  refine (encode_any _ _ _ HJ1.out (ok_app HK.out HK'.out) (ht.below HBb1.out)).mono ?_
  rintro e w5 ⟨u5, rfl, hE5, hb5⟩
  have HB5 := Lib.hid (HBb1.out.trans (hb5.mono HBb1.out.size))
  have HE1b := Lib.hid (HE1a.out.below hb5)
  have HE2b := Lib.hid (HE2a.out.below hb5)
  have HE5 := Lib.hid hE5
  clear hE5 hb5 HE1a HE2a HBb1 HJ1
  go_wp2_with fail
  refine (cprint_any _ f _ (HF.out.below HB5.out) HK.out (hT.below HB5.out) (ht.below HB5.out)).mono ?_
  rintro e w6 ⟨rfl, hb6⟩
  have HB6 := Lib.hid (HB5.out.trans (hb6.mono HB5.out.size))
  have HE1c := Lib.hid (HE1b.out.below hb6)
  have HE2c := Lib.hid (HE2b.out.below hb6)
  have HE5c := Lib.hid (HE5.out.below hb6)
  clear hb6 HE1b HE2b HE5 HB5
  go_wp2_with fail
  refine (cprint_any _ g _ (HG.out.below HB6.out) HK'.out (hT.below HB6.out) (ht.below HB6.out)).mono ?_
  rintro e w7 ⟨rfl, hb7⟩
  have HB7 := Lib.hid (HB6.out.trans (hb7.mono HB6.out.size))
  have HE1d := Lib.hid (HE1c.out.below hb7)
  have HE2d := Lib.hid (HE2c.out.below hb7)
  have HE5d := Lib.hid (HE5c.out.below hb7)
  clear hb7 HE1c HE2c HE5c HB6
  have HBA2 := Lib.hid (ba (.cells #[] 48) (Below.refl w7.heap.size w7))
  have hsA2 := HBA2.out.size
  go_wp2_with (at_builtin; refine wpList_append_src _ rfl _ _ 22 rfl w7.heap.size 48 i0 (.agg #[.int .i64 0, .int .i64 0, .int .i64 0, .int .u32 0]) 4 32 Tryd.underlying22 hi hz0 hz1 hz2 rfl (by decide) _ 0 [] rfl (own_empty w7 w7.heap.size 48 4 (Nat.le_refl _)) _ f.length (fcells f) rfl (HF.out.below (HB7.out.trans (HBA2.out.mono HB7.out.size))).src (fcells_one' f) (by unfold maxLen; omega) (by omega) hsA2 ?_)
  intro va2 wa2 hown hgrow
  have HBa2 := Lib.hid (grown_below HBA2.out (own_empty w7 w7.heap.size 48 4 (Nat.le_refl _)) hgrow hsA2)
  have HOa2 := Lib.hid hown
  have hsa2 := HBa2.out.size
  clear hown hgrow
  go_wp2_with (at_builtin; refine wpList_append_src _ rfl _ _ 22 rfl w7.heap.size 48 i0 (.agg #[.int .i64 0, .int .i64 0, .int .i64 0, .int .u32 0]) 4 32 Tryd.underlying22 hi hz0 hz1 hz2 rfl (by decide) _ _ _ rfl HOa2.out _ g.length (fcells g) rfl (HG.out.below (HB7.out.trans (HBa2.out.mono HB7.out.size))).src (fcells_one' g) (by unfold maxLen; omega) (by omega) hsa2 ?_)
  intro vb2 wb2 hown hgrow
  have HC2 := Lib.hid (grown_below HBa2.out HOa2.out hgrow hsa2)
  have HBb2 := Lib.hid (HB7.out.trans (HC2.out.mono HB7.out.size))
  have HJ2 : Hid (FAt wb2 vb2 (f ++ g)) := Lib.hid (FAt.own (l := f ++ g) (by rw [fcells_app]; simpa using hown) (by rw [List.length_append]))
  clear hown hgrow HOa2 HBa2 HBA2 hsa2 hsA2
  have HE1e := Lib.hid (HE1d.out.below HC2.out)
  have HE2e := Lib.hid (HE2d.out.below HC2.out)
  have HE5e := Lib.hid (HE5d.out.below HC2.out)
  clear HC2 HE1d HE2d HE5d HB7
  go_wp2_with fail
  refine (cprint_any _ _ _ HJ2.out (ok_app HK.out HK'.out) (hT.below HBb2.out) (ht.below HBb2.out)).mono ?_
  rintro e w8 ⟨rfl, hb8⟩
  have HB8 := Lib.hid (HBb2.out.trans (hb8.mono HBb2.out.size))
  have HE1f := Lib.hid (HE1e.out.below hb8)
  have HE2f := Lib.hid (HE2e.out.below hb8)
  have HE5f := Lib.hid (HE5e.out.below hb8)
  clear hb8 HE1e HE2e HE5e HBb2 HJ2
  by_cases hf : ferr f = 0
  · by_cases hg : ferr g = 0
    · have hfe : ferr (f ++ g) = 0 := by rw [HFE.out, if_pos ⟨hf, hg⟩]
      have q1 := HEA.out hf hg
      have q2 := HTA.out hf hg
      have c1 := HE1f.out.conv
      have c2 := HE2f.out.conv
      have c5 := HE5f.out.conv
      have z1 : (encL f).length ≤ 4000 := by rw [encL_ok hf, enc_len]; omega
      have z2 : (encL g).length ≤ 4000 := by rw [encL_ok hg, enc_len]; omega
      have z3 : (textL f).length ≤ 31500 := by rw [textL_ok hf]; have := lines_le (ferr_zero hf).2 HK.out; omega
      have z4 : (textL g).length ≤ 31500 := by rw [textL_ok hg]; have := lines_le (ferr_zero hg).2 HK'.out; omega
      rw [hf, hg, hfe]
      clear hf hg hfe
      go_wp2_with fail
      refine (cknows_any _ (ht.below HB8.out)).mono ?_
      rintro e w9 ⟨rfl, hb9⟩
      go_wp2_with fail
      go_ret
      exact ⟨rfl, HB8.out.trans (hb9.mono HB8.out.size)⟩
    · have hfe : ferr (f ++ g) = 1 := by rw [HFE.out, if_neg (fun h => hg h.2)]
      have hgb : (ferr g == 0) = false := by simpa using hg
      rw [hf, hfe]
      clear hf hg hfe
      go_wp2_with fail
      refine (cknows_any _ (ht.below HB8.out)).mono ?_
      rintro e w9 ⟨rfl, hb9⟩
      go_wp2_with fail
      go_ret
      exact ⟨rfl, HB8.out.trans (hb9.mono HB8.out.size)⟩
  · have hfe : ferr (f ++ g) = 1 := by rw [HFE.out, if_neg (fun h => hf h.1)]
    have hfb : (ferr f == 0) = false := by simpa using hf
    rw [hfe]
    clear hf hfe
    go_wp2_with fail
    refine (cknows_any _ (ht.below HB8.out)).mono ?_
    rintro e w9 ⟨rfl, hb9⟩
    go_wp2_with fail
    go_ret
    exact ⟨rfl, HB8.out.trans (hb9.mono HB8.out.size)⟩

set_option maxRecDepth 100000 in
/-- The row's contract, for every argument and every world. -/
theorem contract (H : Type) (enc : TypeId × Value → H) (W : World) (base : Nat) (args : Array Value) (ds gs : List (DataW H)) (before : List MemPlace)
    (hval : ∀ (j : Nat) t v, Tryd.f8.params[j]? = some t → args[j]? = some v → Value.okWide Tryd.prog W .any base t v)
    (hW : DataW.Whole enc Tryd.prog Tryd.f8.params.toList Rows.codecRowsSpec.vars false W args.toList ds gs before) (hL : laidMetH Tryd.prog Rows.codecRowsRow.laid W) :
    Calls Tryd.prog 8 args W fun e W' => ∃ v, e = .returned v ∧ Rows.codecRowsSpec.post enc Tryd.prog Tryd.f8 false true false false W args v W' := by
  have hW' := hW
  obtain ⟨p, q, hA0, hV, rfl, hfz, hnd⟩ := hW
  have hA : DataW.TrodAll enc Tryd.prog W 0 (fun _ => true) true Tryd.f8.params.toList args.toList ds p := hA0
  rw [Tryd.params8] at hA hval
  obtain ⟨v0, vs0, d0, ds0, p0, q0, hargs0, rfl, rfl, t0, r0⟩ := trodAll_cons hA
  obtain ⟨v1, vs1, d1, ds1, p1, q1, hargs1, rfl, rfl, t1, r1⟩ := trodAll_cons r0
  obtain ⟨rfl, rfl, rfl⟩ := trodAll_nil r1
  obtain rfl : args = #[v0, v1] := by cases args; simp_all
  obtain ⟨f, hF0, hk0, hm0⟩ := open_filt (hval 0 22 v0 rfl rfl) t0
  obtain ⟨g, hF1, hk1, hm1⟩ := open_filt (hval 1 22 v1 rfl rfl) t1
  refine (walk v0 f v1 g W hF0 hk0 hm0 hF1 hk1 hm1 (tab_of hL) (otab_of hL)).mono fun e W' ⟨he, hg⟩ => ?_
  subst he
  exact ⟨_, rfl, law_post (tb := 4) laidOut (fun t ht => by rw [Tryd.params8] at ht; revert t; exact of_decide_eq_true (by kernel_rfl)) (by kernel_rfl) Tryd.underlying4 rfl
    (fun ds h => by rw [Tryd.params8] at h; match ds, h with | [_, _], _ => rfl) hW' hg⟩

theorem laid_met (os : Os) : laidMet Tryd.prog Rows.codecRowsRow.laid ((laidWorld os).forCall (fun _ _ => 0) ⟨#[], #[.slice none 0 0, .slice none 0 0], []⟩).memory :=
  laidMet_of_run' 8 (by kernel_rfl) (by kernel_rfl)
theorem reads (os : Os) {H : Type} (enc : TypeId × Value → H) : ∃ places, DataW.whole enc Tryd.prog ((laidWorld os).forCall (fun _ _ => 0) ⟨#[], #[.slice none 0 0, .slice none 0 0], []⟩).memory Tryd.f8.params.toList Rows.codecRowsSpec.vars false #[Value.slice none 0 0, Value.slice none 0 0].toList 8 = some ([.nil, .nil], [], places) :=
  ⟨[], by kernel_rfl⟩

set_option maxRecDepth 100000 in
theorem lifted (os : Os) (started : os.Started) (H : Type) (enc : TypeId × Value → H) (F : Stop.Interp) :
    ReturnsInHanded {} Tryd.checked os 8 .any ((OpenSpec.ofChange Rows.codecRowsSpec).preRow enc Tryd.prog Tryd.f8 Rows.codecRowsRow.domain false Rows.codecRowsRow.laid) (((OpenSpec.ofChange Rows.codecRowsSpec).at F).post enc Tryd.prog Tryd.f8 false true false false) := by
  obtain ⟨places, hx⟩ := reads os enc
  refine returnsInHanded_of_row (C := Tryd.checked) (s := OpenSpec.ofChange Rows.codecRowsSpec) own started (by kernel_rfl) Tryd.func8
    (witness_row_at (enc := enc) (C := Tryd.checked) false (laidWorld os) #[.slice none 0 0, .slice none 0 0] rfl (by kernel_rfl) (by kernel_rfl) (by kernel_rfl)
      (OpenSpec.preRow_of_cond 8 hx (by kernel_rfl) (fun k hk => by cases hk) (by kernel_rfl) (laid_met os))) ?_
  intro W base args ds gs before hval hW _ _ _ hL _ _
  exact contract H enc W base args ds gs before hval hW hL

theorem said : Rows.CodecRowsSaid :=
  OpenClaim.holds_of_cond 8 Tryd.f8 rfl rfl rfl rfl rfl rfl rfl ⟨rfl, rfl, rfl, rfl, rfl⟩ rfl rfl rfl rfl rfl (by kernel_rfl) Tryd.func8 (by kernel_rfl)
    (of_decide_eq_true (by kernel_rfl)) (by unfold Func.isWrapper; first | (rw [if_pos (by decide +kernel)]; kernel_rfl) | (rw [if_neg (by decide +kernel)]; exact ⟨rfl, rfl⟩))
    (fun os started H enc _ F => by rw [OpenClaim.pre_eq_preRow]; exact lifted os started H enc F)

/-- No parameter wants a stand-in; the program's own looks are off. -/
theorem plain (f : FuncId) (fn : Func) (hf : Tryd.pinned.checked.prog.funcNamed "hurdle/hurdlelaw03.CodecRows" = some f) (hfn : Tryd.pinned.checked.prog.funcs[f]? = some fn) :
    false = Tryd.pinned.checked.prog.looks [] ∧ ∀ (j : Nat) t, fn.params[j]? = some t → Tryd.pinned.checked.prog.wantsStandIn t = false := by
  obtain rfl : f = 8 := Option.some.inj ((show Tryd.prog.funcNamed "hurdle/hurdlelaw03.CodecRows" = some 8 by kernel_rfl).symm.trans hf) |>.symm
  obtain rfl : fn = Tryd.f8 := (Option.some.inj (Tryd.func8.symm.trans hfn)).symm
  refine ⟨by kernel_rfl, fun j t ht => ?_⟩
  have hm := Array.mem_of_getElem? ht
  rw [Tryd.params8] at hm
  have all : ∀ t ∈ (#[22, 22] : Array TypeId).toList, Tryd.prog.wantsStandIn t = false := of_decide_eq_true (by kernel_rfl)
  exact all t (Array.mem_toList_iff.2 hm)

/-- The tied card. -/
theorem card : Rows.CodecRowsCardSaid :=
  Claim7.holds_tied_plain_at .later [] _ _ _ _ said (fun _ h => by cases h) (by kernel_rfl) (fun _ h => by cases h) codecRows_row_tie rfl ⟨rfl, rfl⟩ (by kernel_rfl) rfl plain (by kernel_rfl)
end Go.Proofs.YtbndnkicmlecoaaDoor.codecRows
