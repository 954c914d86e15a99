/-
  For every filter and every place, in every world that has the table of package ins as its initialiser lays it: the law LivePlaces returns true and changes nothing that was there.
-/
import Derived.Test.YtmbegncnbjafdaaDoorVFrame
import Derived.Test.YtmbegncnbjafdaaDoorKRCheck
import Derived.Lib.QuietBelow
namespace Go.Proofs.YtmbegncnbjafdaaDoor.livePlaces
open Go.ChangeShapes Go.WideShapes Go.ChangeAt Go.RowKit

def Place (f : List X4) (q B G : Int) : Prop := (q < 0 ∧ B = 0 ∧ G = 1) ∨ ((f.length : Int) ≤ q ∧ B = 0 ∧ G = 1) ∨ ∃ p : Nat, q = p ∧ p < f.length ∧ B = (maskN (behF f p) 18 : Nat) ∧ G = 0
set_option maxHeartbeats 8000000 in
theorem walk (v0 : Value) (f : List X4) (q : Int) (w : World) (hF : FAt w v0 f) (hk : ∀ x ∈ f, x.ok) (_hm : f.length ≤ 9223372036854775807) (_h0 : -9223372036854775808 ≤ q) (_h1 : q ≤ 9223372036854775807) (ht : OTab w) :
    Calls Tryd.prog 4 #[v0, .int .i64 q] w fun e w' => e = .returned (.bool true) ∧ Below w.heap.size w w' := by
  obtain ⟨ao0, cap0, rfl⟩ := hF.shape
  have HF := Lib.hid hF
  have HK := Lib.hid hk
  clear hF hk
  by_cases h1 : 60 < f.length
  · go_enter Tryd.func4, Tryd.ntmps4
    go_wp2_with fail
    refine (vknow_end (Below.refl w.heap.size w) ht).mono ?_
    rintro e wb ⟨rfl, hbb⟩
    have HBB := Lib.hid hbb
    clear hbb
    go_wp2_with fail
    go_ret
    exact ⟨rfl, HBB.out⟩
  cases hs : soundB f
  · go_enter Tryd.func4, Tryd.ntmps4
    go_wp2_with fail
    refine (lat_bad _ f _ HF.out HK.out hs ht).mono ?_
    rintro e w1 ⟨rfl, hb1⟩
    have HB1 := Lib.hid hb1
    clear hb1
    go_wp2_with fail
    refine (lbeh_bad _ f q _ (HF.out.below HB1.out) HK.out (ht.below HB1.out) (.inl hs)).mono ?_
    rintro e w2 ⟨rfl, hb2⟩
    have HB2 := Lib.hid (below2 HB1.out hb2)
    clear hb2
    go_wp2_with fail
    refine (rsound5_any _ f _ (HF.out.below HB2.out) HK.out).mono ?_
    rintro e w3 ⟨rfl, hb3⟩
    rw [hs]
    have HB3 := Lib.hid (below2 HB2.out hb3)
    clear hb3 hs
    go_wp2_with fail
    refine (vknow_end HB3.out ht).mono ?_
    rintro e wb ⟨rfl, hbb⟩
    have HBB := Lib.hid hbb
    clear hbb
    go_wp2_with fail
    go_ret
    exact ⟨rfl, HBB.out⟩
  have HS := Lib.hid hs
  clear hs
  obtain ⟨B, G, HQ, HCB⟩ : ∃ B G, Hid (Place f q B G) ∧ Hid (∀ V, FAt V (.slice ao0 f.length cap0) f → OTab V → Calls Tryd.prog 14 #[.slice ao0 f.length cap0, .int .i64 q] V fun e w' => e = .returned (.tuple #[.int .u32 B, .int .i64 G]) ∧ Below V.heap.size V w') := by
    rcases (show q < 0 ∨ 0 ≤ q by omega) with hq | hq
    · exact ⟨0, 1, Lib.hid (.inl ⟨hq, rfl, rfl⟩), Lib.hid (fun V hV hT => lbeh_bad _ f q V hV HK.out hT (.inr (.inl hq)))⟩
    · rcases (show q < (f.length : Int) ∨ (f.length : Int) ≤ q by omega) with hq2 | hq2
      · obtain ⟨p, rfl⟩ : ∃ p : Nat, q = p := ⟨q.toNat, by omega⟩
        exact ⟨_, 0, Lib.hid (.inr (.inr ⟨p, rfl, by omega, rfl, rfl⟩)), Lib.hid (fun V hV hT => lbeh_any _ f p V hV HK.out hT HS.out (by omega))⟩
      · exact ⟨0, 1, Lib.hid (.inr (.inl ⟨hq2, rfl, rfl⟩)), Lib.hid (fun V hV hT => lbeh_bad _ f q V hV HK.out hT (.inr (.inr hq2)))⟩
  go_enter Tryd.func4, Tryd.ntmps4
  go_wp2_with fail
  refine (lat_any _ f _ HF.out HK.out HS.out ht).mono ?_
  rintro e w1 ⟨g, rfl, hg, hb1⟩
  have HB1 := Lib.hid hb1
  have HG1 := Lib.hid hg
  clear hb1 hg
  go_wp2_with fail
  refine (HCB.out _ (HF.out.below HB1.out) (ht.below HB1.out)).mono ?_
  rintro e w2 ⟨rfl, hb2⟩
  have HB2 := Lib.hid (below2 HB1.out hb2)
  have HG2 := Lib.hid (kb hb2 HG1.out)
  clear hb2
  go_wp2_with fail
  refine (rsound5_any _ f _ (HF.out.below HB2.out) HK.out).mono ?_
  rintro e w3 ⟨rfl, hb3⟩
  rw [HS.out]
  have HB3 := Lib.hid (below2 HB2.out hb3)
  have HG3 := Lib.hid (kb hb3 HG2.out)
  clear hb3 HG2 HG1 HB1 HB2
  go_wp2_with fail
  go_loopw [9] (fun i wr => ∃ n : Nat, n ≤ f.length ∧ i = .int .i64 n ∧ Below w.heap.size w wr ∧ wr.heap[g]? = some (.cells (maskC f 0) 22)) (fun i _ => f.length - (intOf i).toNat)
  case atStart => exact ⟨0, by omega, rfl, HB3.out, HG3.out⟩
  case round =>
    clear HB3 HG3
    obtain ⟨n, hn, rfl, hbw, hg⟩ := hrel
    have HB := Lib.hid hbw
    have HG := Lib.hid hg
    clear hbw hg
    by_cases hlt : n < f.length
    · have l0 : (n : Int) < (f.length : Int) := by omega
      go_wp2_with fail
      have l1 : (0 : Int) ≤ (n : Int) := by omega
      have t1 : (n : Int).toNat = n := by omega
      have y0 := cell_regrown (mask_in HG.out hlt)
      have cA : ∀ d' os, Calls Tryd.prog 16 #[.slice ao0 f.length cap0, .int .i64 n] (Sort.grow (redrawn wr d') os) fun e w'' => e = .returned (.int .u32 (maskN (liveF f n) 18 : Nat)) ∧ ∃ p : Regrown, w'' = Sort.grow (redrawn wr p.d) p.os := fun d' os => Calls.regrown_of (rat_any _ f n _ (HF.out.below (HB.out.trans ((below_regrown wr d' os).mono HB.out.size))) HK.out HS.out hlt)
      generalize maskN (liveF f n) 18 = M at *
      have hq : ((M : Int) == (M : Int)) = true := by simp
      refine wp_region_quiet_below (by kernel_rfl) (by kernel_rfl) ?_
      repeat (quiet_step (exact cA _ _))
      refine wpQuiet_nil ?_
      intro _ hw'
      obtain ⟨⟨dq, osq⟩, hw''⟩ := hw'
      subst hw''
      have hbq := below_regrown wr dq osq
      have HBq := Lib.hid (HB.out.trans (hbq.mono HB.out.size))
      have HGq := Lib.hid (kb hbq HG.out)
      clear hbq y0 cA
      generalize Sort.grow (redrawn wr dq) osq = Wq at *
      go_wp2_with fail
      go_roundw
      case rel => exact ⟨n + 1, by omega, by go_num, HBq.out, HGq.out⟩
      case measure => simp [intOf]; omega
    · obtain rfl : n = f.length := by omega
      have hg0 : ∀ a : Int, (a == a) = true := fun a => by simp
      rcases HQ.out with ⟨h2, rfl, rfl⟩ | ⟨h2, rfl, rfl⟩ | ⟨p, rfl, h2, rfl, rfl⟩
      · go_wp2_with fail
        all_goals first | (exfalso; omega) | skip
        refine (vknow_end HB.out ht).mono ?_
        rintro e wb ⟨rfl, hbb⟩
        have HBB := Lib.hid hbb
        clear hbb
        go_wp2_with fail
        go_ret
        exact ⟨rfl, HBB.out⟩
      · have h3 : ¬ q < 0 := by omega
        go_wp2_with fail
        all_goals first | (exfalso; omega) | skip
        refine (vknow_end HB.out ht).mono ?_
        rintro e wb ⟨rfl, hbb⟩
        have HBB := Lib.hid hbb
        clear hbb
        go_wp2_with fail
        go_ret
        exact ⟨rfl, HBB.out⟩
      · have h3 : (p : Int) < (f.length : Int) := by omega
        go_wp2_with fail
        all_goals first | (exfalso; omega) | skip
        refine (rbehind_any _ f p _ (HF.out.below HB.out) HK.out HS.out h2).mono ?_
        rintro e w5 ⟨rfl, hb5⟩
        have HB5 := Lib.hid (below2 HB.out hb5)
        clear hb5
        generalize maskN (behF f p) 18 = M at *
        go_wp2_with fail
        refine (vknow_end HB5.out ht).mono ?_
        rintro e wb ⟨rfl, hbb⟩
        have HBB := Lib.hid hbb
        clear hbb
        go_wp2_with fail
        go_ret
        exact ⟨rfl, HBB.out⟩

set_option maxRecDepth 100000 in
/-- The row's contract, for every argument and every world. -/
theorem contract (H : Type) (enc : TypeId × Value → H) (W : World) (base : Nat) (args : Array Value) (ds gs : List (DataW H)) (before : List MemPlace)
    (hval : ∀ (j : Nat) t v, Tryd.f4.params[j]? = some t → args[j]? = some v → Value.okWide Tryd.prog W .any base t v)
    (hW : DataW.Whole enc Tryd.prog Tryd.f4.params.toList Rows.livePlacesSpec.vars false W args.toList ds gs before) (hL : laidMetH Tryd.prog Rows.livePlacesRow.laid W) :
    Calls Tryd.prog 4 args W fun e W' => ∃ v, e = .returned v ∧ Rows.livePlacesSpec.post enc Tryd.prog Tryd.f4 false true false false W args v W' := by
  have hW' := hW
  obtain ⟨p, q, hA0, hV, rfl, hfz, hnd⟩ := hW
  have hA : DataW.TrodAll enc Tryd.prog W 0 (fun _ => true) true Tryd.f4.params.toList args.toList ds p := hA0
  rw [Tryd.params4] at hA hval
  obtain ⟨v0, vs0, d0, ds0, p0, q0, hargs0, rfl, rfl, t0, r0⟩ := trodAll_cons hA
  obtain ⟨v1, vs1, d1, ds1, p1, q1, hargs1, rfl, rfl, t1, r1⟩ := trodAll_cons r0
  obtain ⟨rfl, rfl, rfl⟩ := trodAll_nil r1
  obtain rfl : args = #[v0, v1] := by cases args; simp_all
  obtain ⟨f, hF0, hk0, hm0⟩ := open_filt (hval 0 30 v0 rfl rfl) t0
  obtain ⟨q, rfl, rfl, rfl, wf1⟩ := open_int Tryd.underlying3 (hval 1 3 v1 rfl rfl) t1
  have bd1 := bounds_i64 wf1
  refine (walk v0 f q W hF0 hk0 hm0 bd1.1 bd1.2 (otab1_of hL)).mono fun e W' ⟨he, hg⟩ => ?_
  subst he
  exact ⟨_, rfl, law_post (tb := 4) laidOut (fun t ht => by rw [Tryd.params4] at ht; revert t; exact of_decide_eq_true (by kernel_rfl)) (by kernel_rfl) Tryd.underlying4 rfl
    (fun ds h => by rw [Tryd.params4] at h; match ds, h with | [_, _], _ => rfl) hW' hg⟩

theorem laid_met (os : Os) : laidMet Tryd.prog Rows.livePlacesRow.laid ((laidWorld1 os).forCall (fun _ _ => 0) ⟨#[], #[.slice none 0 0, .int .i64 0], []⟩).memory :=
  laidMet_of_run' 8 (by kernel_rfl) (by kernel_rfl)
theorem reads (os : Os) {H : Type} (enc : TypeId × Value → H) : ∃ places, DataW.whole enc Tryd.prog ((laidWorld1 os).forCall (fun _ _ => 0) ⟨#[], #[.slice none 0 0, .int .i64 0], []⟩).memory Tryd.f4.params.toList Rows.livePlacesSpec.vars false #[Value.slice none 0 0, Value.int .i64 0].toList 8 = some ([.nil, .lit (.int .i64 0)], [], places) :=
  ⟨[], by kernel_rfl⟩

set_option maxRecDepth 100000 in
theorem lifted (os : Os) (started : os.Started) (H : Type) (enc : TypeId × Value → H) (F : Stop.Interp) :
    ReturnsInHanded {} Tryd.checked os 4 .any ((OpenSpec.ofChange Rows.livePlacesSpec).preRow enc Tryd.prog Tryd.f4 Rows.livePlacesRow.domain false Rows.livePlacesRow.laid) (((OpenSpec.ofChange Rows.livePlacesSpec).at F).post enc Tryd.prog Tryd.f4 false true false false) := by
  obtain ⟨places, hx⟩ := reads os enc
  refine returnsInHanded_of_row (C := Tryd.checked) (s := OpenSpec.ofChange Rows.livePlacesSpec) own started (by kernel_rfl) Tryd.func4
    (witness_row_at (enc := enc) (C := Tryd.checked) false (laidWorld1 os) #[.slice none 0 0, .int .i64 0] rfl (by kernel_rfl) (by kernel_rfl) (by kernel_rfl)
      (OpenSpec.preRow_of_cond 8 hx (by kernel_rfl) (fun k hk => by cases hk) (by kernel_rfl) (laid_met os))) ?_
  intro W base args ds gs before hval hW _ _ _ hL _ _
  exact contract H enc W base args ds gs before hval hW hL

theorem said : Rows.LivePlacesSaid :=
  OpenClaim.holds_of_cond 4 Tryd.f4 rfl rfl rfl rfl rfl rfl rfl ⟨rfl, rfl, rfl, rfl, rfl⟩ rfl rfl rfl rfl rfl (by kernel_rfl) Tryd.func4 (by kernel_rfl)
    (of_decide_eq_true (by kernel_rfl)) (by unfold Func.isWrapper; first | (rw [if_pos (by decide +kernel)]; kernel_rfl) | (rw [if_neg (by decide +kernel)]; exact ⟨rfl, rfl⟩))
    (fun os started H enc _ F => by rw [OpenClaim.pre_eq_preRow]; exact lifted os started H enc F)

/-- No parameter wants a stand-in; the program's own looks are off. -/
theorem plain (f : FuncId) (fn : Func) (hf : Tryd.pinned.checked.prog.funcNamed "hurdle/hurdlelaw07.LivePlaces" = some f) (hfn : Tryd.pinned.checked.prog.funcs[f]? = some fn) :
    false = Tryd.pinned.checked.prog.looks [] ∧ ∀ (j : Nat) t, fn.params[j]? = some t → Tryd.pinned.checked.prog.wantsStandIn t = false := by
  obtain rfl : f = 4 := Option.some.inj ((show Tryd.prog.funcNamed "hurdle/hurdlelaw07.LivePlaces" = some 4 by kernel_rfl).symm.trans hf) |>.symm
  obtain rfl : fn = Tryd.f4 := (Option.some.inj (Tryd.func4.symm.trans hfn)).symm
  refine ⟨by kernel_rfl, fun j t ht => ?_⟩
  have hm := Array.mem_of_getElem? ht
  rw [Tryd.params4] at hm
  have all : ∀ t ∈ (#[30, 3] : Array TypeId).toList, Tryd.prog.wantsStandIn t = false := of_decide_eq_true (by kernel_rfl)
  exact all t (Array.mem_toList_iff.2 hm)

/-- The tied card. -/
theorem card : Rows.LivePlacesCardSaid :=
  Claim7.holds_tied_plain_at .later [] _ _ _ _ said (fun _ h => by cases h) (by kernel_rfl) (fun _ h => by cases h) livePlaces_row_tie rfl ⟨rfl, rfl⟩ (by kernel_rfl) rfl plain (by kernel_rfl)
end Go.Proofs.YtmbegncnbjafdaaDoor.livePlaces
