/-
  For every condition and every text, in every world that has the listed tables as their initialisers lay them: the law CondBack returns true and changes nothing that was there.
-/
import Derived.Test.YtlhpdjafhjfcoaaDoorQFrame
import Derived.Test.YtlhpdjafhjfcoaaDoorQTabs
namespace Go.Proofs.YtlhpdjafhjfcoaaDoor.condBack
open Go.ChangeShapes Go.WideShapes Go.ChangeAt Go.RowKit

theorem qp_yes {s : ByteArray} {x : Cd} {e : Ending} (hx : x.ok) (hr : x.right = true) (hs : s = textT x) (h : QPEnd s e) : e = .returned (.tuple #[x.val, .int .i64 0]) := by
  rcases h with ⟨c, _, hr', hs', rfl⟩ | ⟨hno, _⟩
  · rw [hs] at hs'
    rw [textT_inj hr hr' hs']
  · exact absurd hs (hno x hx hr)
theorem qp_no {s : ByteArray} {e : Ending} (hno : ∀ x : Cd, x.ok → x.right = true → s ≠ textT x) (h : QPEnd s e) : e = .returned (.tuple #[zeroCd.val, .int .i64 2]) := by
  rcases h with ⟨c, hc, hr, hs, _⟩ | ⟨_, rfl⟩
  · exact absurd hs (hno c hc hr)
  · rfl
theorem same_cd (x : Cd) : (x.arg == x.arg) = true ∧ (x.cmp == x.cmp) = true ∧ ((x.mask : Int) == (x.mask : Int)) = true ∧ ((x.value : Int) == (x.value : Int)) = true := by simp
theorem textT_small {c : Cd} (hc : c.ok) (hr : c.right = true) : (textT c).size ≤ 4611686018427387904 := by
  obtain ⟨a0, a5, k0, k5⟩ := (c.right_iff).1 hr
  have h1 := txt_le18 hc.1
  have h2 := txt_le18 hc.2
  have h3 := wordT_size k0 k5
  have h4 : (digitT c.arg).size = 1 := rfl
  have h5 : (⟨#[97]⟩ : ByteArray).size = 1 := rfl
  have h6 : (⟨#[32]⟩ : ByteArray).size = 1 := rfl
  rw [← textT_eq c]
  simp only [ByteArray.size_append]
  omega
set_option maxHeartbeats 8000000 in
theorem walk (c : Cd) (s : ByteArray) (w : World) (hc : c.ok) (hs0 : s.size ≤ maxLen) (ht : QTab w) :
    Calls Tryd.prog 6 #[c.val, .string s] w fun e w' => e = .returned (.bool true) ∧ Below w.heap.size w w' := by
  unfold maxLen at hs0
  have HX0 := Lib.hid (heap_alloc_new w (cdB c))
  have HB0 := Lib.hid (ba (cdB c) (Below.refl w.heap.size w))
  obtain ⟨W, hW⟩ : ∃ W, W = w.alloc (cdB c) := ⟨_, rfl⟩
  rw [← hW] at HX0 HB0
  have HTab := Lib.hid ht
  have HC := Lib.hid hc
  clear ht hc
  by_cases hbig : 1000 < s.size
  · go_enter Tryd.func6, Tryd.ntmps6
    go_upto_region 1 with fail
    rw [← hW]
    clear hW
    go_wp2_with fail
    refine (qknow_end HB0.out HTab.out).mono ?_
    rintro e wb ⟨rfl, hbb⟩
    have HBB := Lib.hid hbb
    clear hbb
    go_wp2_with fail
    go_ret
    exact ⟨rfl, HBB.out⟩
  have hs : s.size ≤ 4611686018427387904 := by omega
  clear hs0
  go_enter Tryd.func6, Tryd.ntmps6
  go_upto_region 1 with fail
  rw [← hW]
  clear hW
  obtain ⟨c0, c1, c2, c3⟩ := cdX HX0.out
  by_cases hx : ∃ x : Cd, x.ok ∧ x.right = true ∧ s = textT x
  · obtain ⟨x, hxk, hxr, hxs⟩ := hx
    have HXK := Lib.hid hxk
    have HXR := Lib.hid hxr
    have HXS := Lib.hid hxs
    clear hxk hxr hxs
    cases hr : c.right
    · have HR := Lib.hid hr
      clear hr
      go_wp2_with fail
      refine (qprint_bad c _ HR.out (HTab.out.below HB0.out)).mono ?_
      rintro e w1 ⟨rfl, hb1⟩
      have HX1 := Lib.hid (kb hb1 HX0.out)
      have HB1 := Lib.hid (HB0.out.trans (hb1.mono HB0.out.size))
      clear hb1 c0 c1 c2 c3
      go_wp2_with fail
      refine (qparse_any s _ hs (HTab.out.below HB1.out)).mono ?_
      rintro e w3 ⟨hE, hb3⟩
      obtain rfl := qp_yes HXK.out HXR.out HXS.out hE
      clear hE
      have HN3 := Lib.hid (heap_alloc_new w3 (cdB x))
      have HB3 := Lib.hid (ba (cdB x) (HB1.out.trans (hb3.mono HB1.out.size)))
      obtain ⟨W3, hW3⟩ : ∃ v, v = w3.alloc (cdB x) := ⟨_, rfl⟩
      rw [← hW3] at HN3 HB3
      clear hb3
      go_upto_region 9 with fail
      change Code.wp _ _ _ _ (w3.alloc (cdB x))
      rw [← hW3]
      clear hW3
      obtain ⟨g0, g1, g2, g3⟩ := cdX HN3.out
      go_wp2_with fail
      refine (qprint_good x _ HXK.out HXR.out (HTab.out.below HB3.out)).mono ?_
      rintro e w4 ⟨rfl, hb4⟩
      rw [← HXS.out]
      have HN4 := Lib.hid (kb hb4 HN3.out)
      have HB4 := Lib.hid (HB3.out.trans (hb4.mono HB3.out.size))
      clear hb4 g0 g1 g2 g3
      obtain ⟨g0, g1, g2, g3⟩ := cdX HN4.out
      have htt : (s.toList == s.toList) = true := by simp
      go_wp2_with fail
      refine (qright_any x _ (HTab.out.below HB4.out)).mono ?_
      rintro e w5 ⟨rfl, hb5⟩
      rw [HXR.out]
      have HB5 := Lib.hid (HB4.out.trans (hb5.mono HB4.out.size))
      clear hb5 g0 g1 g2 g3
      go_wp2_with fail
      refine (qknow_end HB5.out HTab.out).mono ?_
      rintro e wb ⟨rfl, hbb⟩
      have HBB := Lib.hid hbb
      clear hbb
      go_wp2_with fail
      go_ret
      exact ⟨rfl, HBB.out⟩
    · have HR := Lib.hid hr
      clear hr
      go_wp2_with fail
      refine (qprint_good c _ HC.out HR.out (HTab.out.below HB0.out)).mono ?_
      rintro e w1 ⟨rfl, hb1⟩
      have HX1 := Lib.hid (kb hb1 HX0.out)
      have HB1 := Lib.hid (HB0.out.trans (hb1.mono HB0.out.size))
      clear hb1 c0 c1 c2 c3
      have htz := textT_small HC.out HR.out
      go_wp2_with fail
      refine (qparse_any (textT c) _ htz (HTab.out.below HB1.out)).mono ?_
      rintro e w2 ⟨hE, hb2⟩
      obtain rfl := qp_yes HC.out HR.out rfl hE
      clear hE
      have HX2 := Lib.hid (ka (cdB c) (kb hb2 HX1.out))
      have HN2 := Lib.hid (heap_alloc_new w2 (cdB c))
      have HB2 := Lib.hid (ba (cdB c) (HB1.out.trans (hb2.mono HB1.out.size)))
      obtain ⟨W2, hW2⟩ : ∃ v, v = w2.alloc (cdB c) := ⟨_, rfl⟩
      rw [← hW2] at HX2 HN2 HB2
      clear hb2 HX1 HB1
      go_upto_region 6 with fail
      change Code.wp _ _ _ _ (w2.alloc (cdB c))
      rw [← hW2]
      clear hW2
      obtain ⟨c0, c1, c2, c3⟩ := cdX HX2.out
      obtain ⟨d0, d1, d2, d3⟩ := cdX HN2.out
      obtain ⟨e0, e1, e2, e3⟩ := same_cd c
      go_wp2_with fail
      refine (qparse_any s _ hs (HTab.out.below HB2.out)).mono ?_
      rintro e w3 ⟨hE, hb3⟩
      obtain rfl := qp_yes HXK.out HXR.out HXS.out hE
      clear hE c0 c1 c2 c3 d0 d1 d2 d3 e0 e1 e2 e3
      have HN3 := Lib.hid (heap_alloc_new w3 (cdB x))
      have HB3 := Lib.hid (ba (cdB x) (HB2.out.trans (hb3.mono HB2.out.size)))
      obtain ⟨W3, hW3⟩ : ∃ v, v = w3.alloc (cdB x) := ⟨_, rfl⟩
      rw [← hW3] at HN3 HB3
      clear hb3
      go_upto_region 9 with fail
      change Code.wp _ _ _ _ (w3.alloc (cdB x))
      rw [← hW3]
      clear hW3
      obtain ⟨g0, g1, g2, g3⟩ := cdX HN3.out
      go_wp2_with fail
      refine (qprint_good x _ HXK.out HXR.out (HTab.out.below HB3.out)).mono ?_
      rintro e w4 ⟨rfl, hb4⟩
      rw [← HXS.out]
      have HN4 := Lib.hid (kb hb4 HN3.out)
      have HB4 := Lib.hid (HB3.out.trans (hb4.mono HB3.out.size))
      clear hb4 g0 g1 g2 g3
      obtain ⟨g0, g1, g2, g3⟩ := cdX HN4.out
      have htt : (s.toList == s.toList) = true := by simp
      go_wp2_with fail
      refine (qright_any x _ (HTab.out.below HB4.out)).mono ?_
      rintro e w5 ⟨rfl, hb5⟩
      rw [HXR.out]
      have HB5 := Lib.hid (HB4.out.trans (hb5.mono HB4.out.size))
      clear hb5 g0 g1 g2 g3
      go_wp2_with fail
      refine (qknow_end HB5.out HTab.out).mono ?_
      rintro e wb ⟨rfl, hbb⟩
      have HBB := Lib.hid hbb
      clear hbb
      go_wp2_with fail
      go_ret
      exact ⟨rfl, HBB.out⟩
  · have HNO : Hid (∀ x : Cd, x.ok → x.right = true → s ≠ textT x) := Lib.hid (fun x h1 h2 h3 => hx ⟨x, h1, h2, h3⟩)
    clear hx
    cases hr : c.right
    · have HR := Lib.hid hr
      clear hr
      go_wp2_with fail
      refine (qprint_bad c _ HR.out (HTab.out.below HB0.out)).mono ?_
      rintro e w1 ⟨rfl, hb1⟩
      have HX1 := Lib.hid (kb hb1 HX0.out)
      have HB1 := Lib.hid (HB0.out.trans (hb1.mono HB0.out.size))
      clear hb1 c0 c1 c2 c3
      go_wp2_with fail
      refine (qparse_any s _ hs (HTab.out.below HB1.out)).mono ?_
      rintro e w3 ⟨hE, hb3⟩
      obtain rfl := qp_no HNO.out hE
      clear hE
      have HN3 := Lib.hid (heap_alloc_new w3 (cdB zeroCd))
      have HB3 := Lib.hid (ba (cdB zeroCd) (HB1.out.trans (hb3.mono HB1.out.size)))
      obtain ⟨W3, hW3⟩ : ∃ v, v = w3.alloc (cdB zeroCd) := ⟨_, rfl⟩
      rw [← hW3] at HN3 HB3
      clear hb3
      go_upto_region 9 with fail
      change Code.wp _ _ _ _ (w3.alloc (cdB zeroCd))
      rw [← hW3]
      clear hW3
      obtain ⟨g0, g1, g2, g3⟩ := cdX HN3.out
      have k0 : zeroCd.arg = 0 := rfl
      have k1 : zeroCd.cmp = 0 := rfl
      have k2 : zeroCd.mask = 0 := rfl
      have k3 : zeroCd.value = 0 := rfl
      rw [k0] at g0
      rw [k1] at g1
      rw [k2] at g2
      rw [k3] at g3
      clear k0 k1 k2 k3
      go_wp2_with fail
      refine (qknow_end HB3.out HTab.out).mono ?_
      rintro e wb ⟨rfl, hbb⟩
      have HBB := Lib.hid hbb
      clear hbb
      go_wp2_with fail
      go_ret
      exact ⟨rfl, HBB.out⟩
    · have HR := Lib.hid hr
      clear hr
      go_wp2_with fail
      refine (qprint_good c _ HC.out HR.out (HTab.out.below HB0.out)).mono ?_
      rintro e w1 ⟨rfl, hb1⟩
      have HX1 := Lib.hid (kb hb1 HX0.out)
      have HB1 := Lib.hid (HB0.out.trans (hb1.mono HB0.out.size))
      clear hb1 c0 c1 c2 c3
      have htz := textT_small HC.out HR.out
      go_wp2_with fail
      refine (qparse_any (textT c) _ htz (HTab.out.below HB1.out)).mono ?_
      rintro e w2 ⟨hE, hb2⟩
      obtain rfl := qp_yes HC.out HR.out rfl hE
      clear hE
      have HX2 := Lib.hid (ka (cdB c) (kb hb2 HX1.out))
      have HN2 := Lib.hid (heap_alloc_new w2 (cdB c))
      have HB2 := Lib.hid (ba (cdB c) (HB1.out.trans (hb2.mono HB1.out.size)))
      obtain ⟨W2, hW2⟩ : ∃ v, v = w2.alloc (cdB c) := ⟨_, rfl⟩
      rw [← hW2] at HX2 HN2 HB2
      clear hb2 HX1 HB1
      go_upto_region 6 with fail
      change Code.wp _ _ _ _ (w2.alloc (cdB c))
      rw [← hW2]
      clear hW2
      obtain ⟨c0, c1, c2, c3⟩ := cdX HX2.out
      obtain ⟨d0, d1, d2, d3⟩ := cdX HN2.out
      obtain ⟨e0, e1, e2, e3⟩ := same_cd c
      go_wp2_with fail
      refine (qparse_any s _ hs (HTab.out.below HB2.out)).mono ?_
      rintro e w3 ⟨hE, hb3⟩
      obtain rfl := qp_no HNO.out hE
      clear hE c0 c1 c2 c3 d0 d1 d2 d3 e0 e1 e2 e3
      have HN3 := Lib.hid (heap_alloc_new w3 (cdB zeroCd))
      have HB3 := Lib.hid (ba (cdB zeroCd) (HB2.out.trans (hb3.mono HB2.out.size)))
      obtain ⟨W3, hW3⟩ : ∃ v, v = w3.alloc (cdB zeroCd) := ⟨_, rfl⟩
      rw [← hW3] at HN3 HB3
      clear hb3
      go_upto_region 9 with fail
      change Code.wp _ _ _ _ (w3.alloc (cdB zeroCd))
      rw [← hW3]
      clear hW3
      obtain ⟨g0, g1, g2, g3⟩ := cdX HN3.out
      have k0 : zeroCd.arg = 0 := rfl
      have k1 : zeroCd.cmp = 0 := rfl
      have k2 : zeroCd.mask = 0 := rfl
      have k3 : zeroCd.value = 0 := rfl
      rw [k0] at g0
      rw [k1] at g1
      rw [k2] at g2
      rw [k3] at g3
      clear k0 k1 k2 k3
      go_wp2_with fail
      refine (qknow_end HB3.out HTab.out).mono ?_
      rintro e wb ⟨rfl, hbb⟩
      have HBB := Lib.hid hbb
      clear hbb
      go_wp2_with fail
      go_ret
      exact ⟨rfl, HBB.out⟩

set_option maxRecDepth 100000 in
/-- The row's contract, for every argument and every world. -/
theorem contract (H : Type) (enc : TypeId × Value → H) (W : World) (base : Nat) (args : Array Value) (ds gs : List (DataW H)) (before : List MemPlace)
    (hval : ∀ (j : Nat) t v, Tryd.f6.params[j]? = some t → args[j]? = some v → Value.okWide Tryd.prog W .any base t v)
    (hW : DataW.Whole enc Tryd.prog Tryd.f6.params.toList Rows.condBackSpec.vars false W args.toList ds gs before) (hL : laidMetH Tryd.prog Rows.condBackRow.laid W) :
    Calls Tryd.prog 6 args W fun e W' => ∃ v, e = .returned v ∧ Rows.condBackSpec.post enc Tryd.prog Tryd.f6 false true false false W args v W' := by
  have hW' := hW
  obtain ⟨p, q, hA0, hV, rfl, hfz, hnd⟩ := hW
  have hA : DataW.TrodAll enc Tryd.prog W 0 (fun _ => true) true Tryd.f6.params.toList args.toList ds p := hA0
  rw [Tryd.params6] at hA hval
  obtain ⟨v0, vs0, d0, ds0, p0, q0, hargs0, rfl, rfl, t0, r0⟩ := trodAll_cons hA
  obtain ⟨v1, vs1, d1, ds1, p1, q1, hargs1, rfl, rfl, t1, r1⟩ := trodAll_cons r0
  obtain ⟨rfl, rfl, rfl⟩ := trodAll_nil r1
  obtain rfl : args = #[v0, v1] := by cases args; simp_all
  obtain ⟨c, rfl, hd0⟩ := open_cond (hval 0 24 v0 rfl rfl) t0
  obtain ⟨s, rfl, rfl, rfl, hs1⟩ := ChangeMaps.open_string Tryd.underlying9 (hval 1 9 v1 rfl rfl) t1
  refine (walk c s W hd0 hs1 (qtab_of hL)).mono fun e W' ⟨he, hg⟩ => ?_
  subst he
  exact ⟨_, rfl, law_post (tb := 4) laidOut (fun t ht => by rw [Tryd.params6] at ht; revert t; exact of_decide_eq_true (by kernel_rfl)) (by kernel_rfl) Tryd.underlying4 rfl
    (fun ds h => by rw [Tryd.params6] at h; match ds, h with | [_, _], _ => rfl) hW' hg⟩

theorem laid_met (os : Os) : laidMet Tryd.prog Rows.condBackRow.laid ((laidWorldQ os).forCall (fun _ _ => 0) ⟨#[], #[.agg #[.int .i64 0, .int .i64 0, .int .u64 0, .int .u64 0], .string ByteArray.empty], []⟩).memory :=
  laidMet_of_run' 8 (by kernel_rfl) (by kernel_rfl)
theorem reads (os : Os) {H : Type} (enc : TypeId × Value → H) : ∃ places, DataW.whole enc Tryd.prog ((laidWorldQ os).forCall (fun _ _ => 0) ⟨#[], #[.agg #[.int .i64 0, .int .i64 0, .int .u64 0, .int .u64 0], .string ByteArray.empty], []⟩).memory Tryd.f6.params.toList Rows.condBackSpec.vars false #[Value.agg #[.int .i64 0, .int .i64 0, .int .u64 0, .int .u64 0], Value.string ByteArray.empty].toList 8 = some ([.agg [.lit (.int .i64 0), .lit (.int .i64 0), .lit (.int .u64 0), .lit (.int .u64 0)], .lit (.string [])], [], places) :=
  ⟨[], by kernel_rfl⟩

set_option maxRecDepth 100000 in
theorem lifted (os : Os) (started : os.Started) (H : Type) (enc : TypeId × Value → H) (F : Stop.Interp) :
    ReturnsInHanded {} Tryd.checked os 6 .any ((OpenSpec.ofChange Rows.condBackSpec).preRow enc Tryd.prog Tryd.f6 Rows.condBackRow.domain false Rows.condBackRow.laid) (((OpenSpec.ofChange Rows.condBackSpec).at F).post enc Tryd.prog Tryd.f6 false true false false) := by
  obtain ⟨places, hx⟩ := reads os enc
  refine returnsInHanded_of_row (C := Tryd.checked) (s := OpenSpec.ofChange Rows.condBackSpec) own started (by kernel_rfl) Tryd.func6
    (witness_row_at (enc := enc) (C := Tryd.checked) false (laidWorldQ os) #[.agg #[.int .i64 0, .int .i64 0, .int .u64 0, .int .u64 0], .string ByteArray.empty] rfl (by kernel_rfl) (by kernel_rfl) (by kernel_rfl)
      (OpenSpec.preRow_of_cond 8 hx (by kernel_rfl) (fun k hk => by cases hk) (by kernel_rfl) (laid_met os))) ?_
  intro W base args ds gs before hval hW _ _ _ hL _ _
  exact contract H enc W base args ds gs before hval hW hL

theorem said : Rows.CondBackSaid :=
  OpenClaim.holds_of_cond 6 Tryd.f6 rfl rfl rfl rfl rfl rfl rfl ⟨rfl, rfl, rfl, rfl, rfl⟩ rfl rfl rfl rfl rfl (by kernel_rfl) Tryd.func6 (by kernel_rfl)
    (of_decide_eq_true (by kernel_rfl)) (by unfold Func.isWrapper; first | (rw [if_pos (by decide +kernel)]; kernel_rfl) | (rw [if_neg (by decide +kernel)]; exact ⟨rfl, rfl⟩))
    (fun os started H enc _ F => by rw [OpenClaim.pre_eq_preRow]; exact lifted os started H enc F)

/-- No parameter wants a stand-in; the program's own looks are off. -/
theorem plain (f : FuncId) (fn : Func) (hf : Tryd.pinned.checked.prog.funcNamed "hurdle/hurdlelaw08.CondBack" = some f) (hfn : Tryd.pinned.checked.prog.funcs[f]? = some fn) :
    false = Tryd.pinned.checked.prog.looks [] ∧ ∀ (j : Nat) t, fn.params[j]? = some t → Tryd.pinned.checked.prog.wantsStandIn t = false := by
  obtain rfl : f = 6 := Option.some.inj ((show Tryd.prog.funcNamed "hurdle/hurdlelaw08.CondBack" = some 6 by kernel_rfl).symm.trans hf) |>.symm
  obtain rfl : fn = Tryd.f6 := (Option.some.inj (Tryd.func6.symm.trans hfn)).symm
  refine ⟨by kernel_rfl, fun j t ht => ?_⟩
  have hm := Array.mem_of_getElem? ht
  rw [Tryd.params6] at hm
  have all : ∀ t ∈ (#[24, 9] : Array TypeId).toList, Tryd.prog.wantsStandIn t = false := of_decide_eq_true (by kernel_rfl)
  exact all t (Array.mem_toList_iff.2 hm)

/-- The tied card. -/
theorem card : Rows.CondBackCardSaid :=
  Claim7.holds_tied_plain_at .later [] _ _ _ _ said (fun _ h => by cases h) (by kernel_rfl) (fun _ h => by cases h) condBack_row_tie rfl ⟨rfl, rfl⟩ (by kernel_rfl) rfl plain (by kernel_rfl)
end Go.Proofs.YtlhpdjafhjfcoaaDoor.condBack
