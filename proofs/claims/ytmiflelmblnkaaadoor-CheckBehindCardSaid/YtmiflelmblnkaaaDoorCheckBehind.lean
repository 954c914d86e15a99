/-
  For every two filters, in every world that has the table of package ins as its initialiser lays it: the law CheckBehind returns true and changes nothing that was there.
-/
import Derived.Test.YtmiflelmblnkaaaDoorKFrame
import Derived.Test.YtmiflelmblnkaaaDoorApp
namespace Go.Proofs.YtmiflelmblnkaaaDoor.checkBehind
open Go.ChangeShapes Go.WideShapes Go.ChangeAt Go.RowKit

theorem behind_sound {f g : List X4} (hf : soundB f = true) (hg : soundB g = true) (h : f.length + g.length ≤ 4096) : soundB (f ++ g) = true := soundB_iff.2 (sound_app (soundB_iff.1 hf) (soundB_iff.1 hg) h)
theorem ok_app {f g : List X4} (h1 : ∀ x ∈ f, x.ok) (h2 : ∀ x ∈ g, x.ok) : ∀ x ∈ f ++ g, x.ok := fun x hx => (List.mem_append.1 hx).elim (h1 x) (h2 x)

set_option maxRecDepth 100000 in
set_option maxHeartbeats 8000000 in
theorem walk (v0 : Value) (f : List X4) (v1 : Value) (g : List X4) (w : World) (hF : FAt w v0 f) (hk : ∀ x ∈ f, x.ok) (_hm : f.length ≤ 9223372036854775807) (hG : FAt w v1 g) (hk' : ∀ x ∈ g, x.ok) (_hm' : g.length ≤ 9223372036854775807) (ht : OTab w) :
    Calls Tryd.prog 7 #[v0, v1] w fun e w' => e = .returned (.bool true) ∧ Below w.heap.size w w' := by
  obtain ⟨ao0, cap0, rfl⟩ := hF.shape
  obtain ⟨ao1, cap1, rfl⟩ := hG.shape
  have HF := Lib.hid hF
  have HG := Lib.hid hG
  have HK := Lib.hid hk
  have HK' := Lib.hid hk'
  clear hF hG hk hk'
  by_cases h1 : 500 < f.length
  · go_enter Tryd.func7, Tryd.ntmps7
    go_wp2_with fail
    refine (kknow_end (Below.refl _ _) ht).mono ?_
    rintro e wb ⟨rfl, hbb⟩
    go_wp2_with fail
    go_ret
    exact ⟨rfl, hbb⟩
  by_cases h2 : 500 < g.length
  · go_enter Tryd.func7, Tryd.ntmps7
    go_wp2_with fail
    refine (kknow_end (Below.refl _ _) ht).mono ?_
    rintro e wb ⟨rfl, hbb⟩
    go_wp2_with fail
    go_ret
    exact ⟨rfl, hbb⟩
  obtain ⟨i0, hi, hz0, hz1, hz2⟩ := info_parts infoX
  go_enter Tryd.func7, Tryd.ntmps7
  go_wp2_with fail
  refine (rsound5_any _ f _ HF.out HK.out).mono ?_
  rintro e w1 ⟨rfl, hb1⟩
  have HB1 := Lib.hid hb1
  clear hb1
  cases hsf : soundB f
  · clear hsf
    go_wp2_with fail
    refine (kknow_end HB1.out ht).mono ?_
    rintro e w2 ⟨rfl, hb2⟩
    have HB2 := Lib.hid hb2
    clear hb2
    go_wp2_with fail
    go_ret
    exact ⟨rfl, HB2.out⟩
  have HSF := Lib.hid hsf
  clear hsf
  go_wp2_with fail
  refine (rsound5_any _ g _ (HG.out.below HB1.out) HK'.out).mono ?_
  rintro e w2 ⟨rfl, hb2⟩
  have HB2 := Lib.hid (below2 HB1.out hb2)
  clear hb2 HB1
  cases hsg : soundB g
  · clear hsg
    go_wp2_with fail
    refine (kknow_end HB2.out ht).mono ?_
    rintro e w3 ⟨rfl, hb3⟩
    have HB3 := Lib.hid hb3
    clear hb3
    go_wp2_with fail
    go_ret
    exact ⟨rfl, HB3.out⟩
  have HSS := Lib.hid (behind_sound HSF.out hsg (by omega))
  clear hsg HSF
  have HBA1 := Lib.hid (ba (.cells #[] 36) (Below.refl w2.heap.size w2))
  have hsA1 := HBA1.out.size
  go_wp2_with (at_builtin; refine wpList_append_src _ rfl _ _ 22 rfl w2.heap.size 36 i0 (.agg #[.int .i64 0, .int .i64 0, .int .i64 0, .int .u32 0]) 4 32 Tryd.underlying22 hi hz0 hz1 hz2 rfl (by decide) _ 0 [] rfl (own_empty w2 w2.heap.size 36 4 (Nat.le_refl _)) _ f.length (fcells f) rfl (HF.out.below (HB2.out.trans (HBA1.out.mono HB2.out.size))).src (fcells_one' f) (by unfold maxLen; omega) (by omega) hsA1 ?_)
  intro va1 wa1 hown hgrow
  have HBa1 := Lib.hid (grown_below HBA1.out (own_empty w2 w2.heap.size 36 4 (Nat.le_refl _)) hgrow hsA1)
  have HOa1 := Lib.hid hown
  have hsa1 := HBa1.out.size
  clear hown hgrow
  go_wp2_with (at_builtin; refine wpList_append_src _ rfl _ _ 22 rfl w2.heap.size 36 i0 (.agg #[.int .i64 0, .int .i64 0, .int .i64 0, .int .u32 0]) 4 32 Tryd.underlying22 hi hz0 hz1 hz2 rfl (by decide) _ _ _ rfl HOa1.out _ g.length (fcells g) rfl (HG.out.below (HB2.out.trans (HBa1.out.mono HB2.out.size))).src (fcells_one' g) (by unfold maxLen; omega) (by omega) hsa1 ?_)
  intro vb1 wb1 hown hgrow
  have HC1 := Lib.hid (grown_below HBa1.out HOa1.out hgrow hsa1)
  have HBb1 := Lib.hid (HB2.out.trans (HC1.out.mono HB2.out.size))
  have HJ1 : Hid (FAt wb1 vb1 (f ++ g)) := Lib.hid (FAt.own (l := f ++ g) (by rw [fcells_app]; simpa using hown) (by rw [List.length_append]))
  clear hown hgrow HOa1 HBa1 HBA1 hsa1 hsA1 HC1 HB2
  go_wp2_with fail
  refine (sound_any _ _ _ HJ1.out (ok_app HK.out HK'.out) (ht.below HBb1.out)).mono ?_
  rintro e w5 ⟨rfl, hb5⟩
  rw [HSS.out]
  have HB5 := Lib.hid (below2 HBb1.out hb5)
  clear hb5
  go_wp2_with fail
  refine (kknow_end HB5.out ht).mono ?_
  rintro e w6 ⟨rfl, hb6⟩
  have HB6 := Lib.hid hb6
  clear hb6
  go_wp2_with fail
  go_ret
  exact ⟨rfl, HB6.out⟩

set_option maxRecDepth 100000 in
/-- The row's contract, for every argument and every world. -/
theorem contract (H : Type) (enc : TypeId × Value → H) (W : World) (base : Nat) (args : Array Value) (ds gs : List (DataW H)) (before : List MemPlace)
    (hval : ∀ (j : Nat) t v, Tryd.f7.params[j]? = some t → args[j]? = some v → Value.okWide Tryd.prog W .any base t v)
    (hW : DataW.Whole enc Tryd.prog Tryd.f7.params.toList Rows.checkBehindSpec.vars false W args.toList ds gs before) (hL : laidMetH Tryd.prog Rows.checkBehindRow.laid W) :
    Calls Tryd.prog 7 args W fun e W' => ∃ v, e = .returned v ∧ Rows.checkBehindSpec.post enc Tryd.prog Tryd.f7 false true false false W args v W' := by
  have hW' := hW
  obtain ⟨p, q, hA0, hV, rfl, hfz, hnd⟩ := hW
  have hA : DataW.TrodAll enc Tryd.prog W 0 (fun _ => true) true Tryd.f7.params.toList args.toList ds p := hA0
  rw [Tryd.params7] at hA hval
  obtain ⟨v0, vs0, d0, ds0, p0, q0, hargs0, rfl, rfl, t0, r0⟩ := trodAll_cons hA
  obtain ⟨v1, vs1, d1, ds1, p1, q1, hargs1, rfl, rfl, t1, r1⟩ := trodAll_cons r0
  obtain ⟨rfl, rfl, rfl⟩ := trodAll_nil r1
  obtain rfl : args = #[v0, v1] := by cases args; simp_all
  obtain ⟨f, hF0, hk0, hm0⟩ := open_filt (hval 0 22 v0 rfl rfl) t0
  obtain ⟨g, hF1, hk1, hm1⟩ := open_filt (hval 1 22 v1 rfl rfl) t1
  refine (walk v0 f v1 g W hF0 hk0 hm0 hF1 hk1 hm1 (otab1_of hL)).mono fun e W' ⟨he, hg⟩ => ?_
  subst he
  exact ⟨_, rfl, law_post (tb := 4) laidOut (fun t ht => by rw [Tryd.params7] at ht; revert t; exact of_decide_eq_true (by kernel_rfl)) (by kernel_rfl) Tryd.underlying4 rfl
    (fun ds h => by rw [Tryd.params7] at h; match ds, h with | [_, _], _ => rfl) hW' hg⟩

theorem laid_met (os : Os) : laidMet Tryd.prog Rows.checkBehindRow.laid ((laidWorld os).forCall (fun _ _ => 0) ⟨#[], #[.slice none 0 0, .slice none 0 0], []⟩).memory :=
  laidMet_of_run' 8 (by kernel_rfl) (by kernel_rfl)
theorem reads (os : Os) {H : Type} (enc : TypeId × Value → H) : ∃ places, DataW.whole enc Tryd.prog ((laidWorld os).forCall (fun _ _ => 0) ⟨#[], #[.slice none 0 0, .slice none 0 0], []⟩).memory Tryd.f7.params.toList Rows.checkBehindSpec.vars false #[Value.slice none 0 0, Value.slice none 0 0].toList 8 = some ([.nil, .nil], [], places) :=
  ⟨[], by kernel_rfl⟩

set_option maxRecDepth 100000 in
theorem lifted (os : Os) (started : os.Started) (H : Type) (enc : TypeId × Value → H) (F : Stop.Interp) :
    ReturnsInHanded {} Tryd.checked os 7 .any ((OpenSpec.ofChange Rows.checkBehindSpec).preRow enc Tryd.prog Tryd.f7 Rows.checkBehindRow.domain false Rows.checkBehindRow.laid) (((OpenSpec.ofChange Rows.checkBehindSpec).at F).post enc Tryd.prog Tryd.f7 false true false false) := by
  obtain ⟨places, hx⟩ := reads os enc
  refine returnsInHanded_of_row (C := Tryd.checked) (s := OpenSpec.ofChange Rows.checkBehindSpec) own started (by kernel_rfl) Tryd.func7
    (witness_row_at (enc := enc) (C := Tryd.checked) false (laidWorld os) #[.slice none 0 0, .slice none 0 0] rfl (by kernel_rfl) (by kernel_rfl) (by kernel_rfl)
      (OpenSpec.preRow_of_cond 8 hx (by kernel_rfl) (fun k hk => by cases hk) (by kernel_rfl) (laid_met os))) ?_
  intro W base args ds gs before hval hW _ _ _ hL _ _
  exact contract H enc W base args ds gs before hval hW hL

theorem said : Rows.CheckBehindSaid :=
  OpenClaim.holds_of_cond 7 Tryd.f7 rfl rfl rfl rfl rfl rfl rfl ⟨rfl, rfl, rfl, rfl, rfl⟩ rfl rfl rfl rfl rfl (by kernel_rfl) Tryd.func7 (by kernel_rfl)
    (of_decide_eq_true (by kernel_rfl)) (by unfold Func.isWrapper; first | (rw [if_pos (by decide +kernel)]; kernel_rfl) | (rw [if_neg (by decide +kernel)]; exact ⟨rfl, rfl⟩))
    (fun os started H enc _ F => by rw [OpenClaim.pre_eq_preRow]; exact lifted os started H enc F)

/-- No parameter wants a stand-in; the program's own looks are off. -/
theorem plain (f : FuncId) (fn : Func) (hf : Tryd.pinned.checked.prog.funcNamed "hurdle/hurdlelaw05.CheckBehind" = some f) (hfn : Tryd.pinned.checked.prog.funcs[f]? = some fn) :
    false = Tryd.pinned.checked.prog.looks [] ∧ ∀ (j : Nat) t, fn.params[j]? = some t → Tryd.pinned.checked.prog.wantsStandIn t = false := by
  obtain rfl : f = 7 := Option.some.inj ((show Tryd.prog.funcNamed "hurdle/hurdlelaw05.CheckBehind" = some 7 by kernel_rfl).symm.trans hf) |>.symm
  obtain rfl : fn = Tryd.f7 := (Option.some.inj (Tryd.func7.symm.trans hfn)).symm
  refine ⟨by kernel_rfl, fun j t ht => ?_⟩
  have hm := Array.mem_of_getElem? ht
  rw [Tryd.params7] at hm
  have all : ∀ t ∈ (#[22, 22] : Array TypeId).toList, Tryd.prog.wantsStandIn t = false := of_decide_eq_true (by kernel_rfl)
  exact all t (Array.mem_toList_iff.2 hm)

/-- The tied card. -/
theorem card : Rows.CheckBehindCardSaid :=
  Claim7.holds_tied_plain_at .later [] _ _ _ _ said (fun _ h => by cases h) (by kernel_rfl) (fun _ h => by cases h) checkBehind_row_tie rfl ⟨rfl, rfl⟩ (by kernel_rfl) rfl plain (by kernel_rfl)
end Go.Proofs.YtmiflelmblnkaaaDoor.checkBehind
