/-
  For every filter, in every world that has the table of package ins as its initialiser lays it: the law LiveLast returns true and changes nothing that was there.
-/
import Derived.Test.YtmbegncnbjafdaaDoorVFrame
import Derived.Test.YtmbegncnbjafdaaDoorKRCheck
import Derived.Lib.QuietBelow
namespace Go.Proofs.YtmbegncnbjafdaaDoor.liveLast
open Go.ChangeShapes Go.WideShapes Go.ChangeAt Go.RowKit

theorem last_mask {f : List X4} (hs : SoundL f) : maskN (liveF f (f.length - 1)) 18 ≤ 1 := by
  have he : endsE (f.getD (f.length - 1) zeroX) = true := hs.2.2.2
  rw [mask_ax (P := liveF f (f.length - 1)) fun i h2 _ => live_end he (by omega)]
  have h1 : liveF f (f.length - 1) 1 = false := live_end he (by omega)
  rw [h1]
  split <;> simp
theorem use_live {f : List X4} (hs : SoundL f) (hok : ∀ x ∈ f, x.ok) {p : Nat} (hp : p < f.length) : bits .and .u32 (maskN (liveF f p) 18 : Nat) (useM (f.getD p zeroX) : Nat) = ((useM (f.getD p zeroX) : Nat) : Int) := by
  unfold useM
  rw [bits_and]
  congr 1
  refine maskN_congr _ fun i _ => ?_
  rw [liveF_eq hs hok hp, getD_at hp]
  cases usesP f[p] i <;> simp
set_option maxHeartbeats 8000000 in
theorem walk (v0 : Value) (f : List X4) (w : World) (hF : FAt w v0 f) (hk : ∀ x ∈ f, x.ok) (_hm : f.length ≤ 9223372036854775807) (ht : OTab w) :
    Calls Tryd.prog 8 #[v0] w fun e w' => e = .returned (.bool true) ∧ Below w.heap.size w w' := by
  obtain ⟨ao0, cap0, rfl, hF'⟩ := hF
  have hF : FAt w (.slice ao0 f.length cap0) f := ⟨ao0, cap0, rfl, hF'⟩
  have HC := Lib.hid hF'
  have HF := Lib.hid hF
  have HK := Lib.hid hk
  clear hF hF' hk
  by_cases h1 : 300 < f.length
  · go_enter Tryd.func8, Tryd.ntmps8
    go_wp2_with fail
    refine (vknow_end (Below.refl w.heap.size w) ht).mono ?_
    rintro e wb ⟨rfl, hbb⟩
    have HBB := Lib.hid hbb
    clear hbb
    go_wp2_with fail
    go_ret
    exact ⟨rfl, HBB.out⟩
  go_enter Tryd.func8, Tryd.ntmps8
  go_wp2_with fail
  refine (rsound5_any _ f _ HF.out HK.out).mono ?_
  rintro e w1 ⟨rfl, hb1⟩
  have HB1 := Lib.hid hb1
  clear hb1
  cases hs : soundB f
  · clear hs
    go_wp2_with fail
    refine (vknow_end HB1.out ht).mono ?_
    rintro e wb ⟨rfl, hbb⟩
    have HBB := Lib.hid hbb
    clear hbb
    go_wp2_with fail
    go_ret
    exact ⟨rfl, HBB.out⟩
  have HSB := Lib.hid hs
  have HSd := Lib.hid (soundB_iff.1 hs)
  have hpos : 0 < f.length := HSd.out.1
  clear hs
  go_wp2_with fail
  refine (lat_any _ f _ (HF.out.below HB1.out) HK.out HSB.out (ht.below HB1.out)).mono ?_
  rintro e w2 ⟨g, rfl, hg, hb2⟩
  have HB2 := Lib.hid (below2 HB1.out hb2)
  have HG2 := Lib.hid hg
  have HLM := Lib.hid (last_mask HSd.out)
  have d0 := mask_in hg (show f.length - 1 < f.length by omega)
  have hM := HLM.out
  generalize maskN (liveF f (f.length - 1)) 18 = M at *
  have hM1 : ¬ (1 : Int) < (M : Int) := by omega
  have hl1 : (0 : Int) ≤ (f.length : Int) - 1 := by omega
  have hl2 : ((f.length : Int) - 1).toNat = f.length - 1 := by omega
  have hl3 : (f.length : Int) - 1 < (f.length : Int) := by omega
  clear hb2 hg
  go_wp2_with fail
  all_goals first | (exfalso; omega) | skip
  go_loopw [5] (fun i wr => ∃ n : Nat, n ≤ f.length ∧ i = .int .i64 n ∧ Below w.heap.size w wr ∧ wr.heap[g]? = some (.cells (maskC f 0) 22)) (fun i _ => f.length - (intOf i).toNat)
  case atStart => exact ⟨0, by omega, rfl, HB2.out, HG2.out⟩
  case round =>
    clear HB2 HG2 d0 hl1 hl2 hl3 hM hM1
    obtain ⟨n, hn, rfl, hbw, hg⟩ := hrel
    have HB := Lib.hid hbw
    have HG := Lib.hid hg
    clear hbw hg
    by_cases hlt : n < f.length
    · have l0 : (n : Int) < (f.length : Int) := by omega
      rcases HC.out with h0 | ⟨b, off, rfl, hb, hc⟩
      · rw [h0] at hlt; simp at hlt
      obtain ⟨c0, c1, c2, c3⟩ := hc n hlt
      have y0 := cell_regrown ((HB.out.cell (p := ⟨b, _, none⟩) hb).trans c0)
      have y1 := cell_regrown ((HB.out.cell (p := ⟨b, _, none⟩) hb).trans c1)
      have y2 := cell_regrown ((HB.out.cell (p := ⟨b, _, none⟩) hb).trans c2)
      have y3 := cell_regrown ((HB.out.cell (p := ⟨b, _, none⟩) hb).trans c3)
      have z0 := cell_regrown (mask_in HG.out hlt)
      have HXo := Lib.hid (HK.out _ (List.getElem_mem hlt))
      have hul := use_live HSd.out HK.out hlt
      rw [getD_at hlt] at hul
      obtain ⟨x, hx⟩ : ∃ x, x = f[n] := ⟨_, rfl⟩
      rw [← hx] at y0 y1 y2 y3 HXo hul
      clear hx hc c0 c1 c2 c3
      obtain ⟨op, jt, jf, kk⟩ := x
      obtain ⟨k, hk, hk4⟩ := nat_k4 HXo.out
      simp only at hk
      subst hk
      have cA : ∀ d' os, Calls Tryd.prog 10 #[insV op jt jf k] (Sort.grow (redrawn wr d') os) fun e w'' => e = .returned (.int .u32 (useM ⟨op, jt, jf, k⟩ : Nat)) ∧ ∃ p : Regrown, w'' = Sort.grow (redrawn wr p.d) p.os := fun d' os => Calls.regrown_of (luses_any op jt jf k _ (ht.below (HB.out.trans ((below_regrown wr d' os).mono HB.out.size))))
      generalize maskN (liveF f n) 18 = M at *
      generalize useM ⟨op, jt, jf, k⟩ = U at *
      have hq : ((U : Int) == (U : Int)) = true := by simp
      go_wp2_with fail
      have l1 : (0 : Int) ≤ (n : Int) := by omega
      have t1 : (n : Int).toNat = n := by omega
      refine wp_region_quiet_below (by kernel_rfl) (by kernel_rfl) ?_
      repeat (quiet_step (exact cA _ _))
      refine wpQuiet_nil ?_
      intro _ hw'
      obtain ⟨⟨dq, osq⟩, hw''⟩ := hw'
      subst hw''
      have hbq := below_regrown wr dq osq
      have HBq := Lib.hid (HB.out.trans (hbq.mono HB.out.size))
      have HGq := Lib.hid (kb hbq HG.out)
      clear hbq y0 y1 y2 y3 z0 cA hul
      generalize Sort.grow (redrawn wr dq) osq = Wq at *
      go_wp2_with fail
      go_roundw
      case rel => exact ⟨n + 1, by omega, by go_num, HBq.out, HGq.out⟩
      case measure => simp [intOf]; omega
    · obtain rfl : n = f.length := by omega
      go_wp2_with fail
      refine (vknow_end HB.out ht).mono ?_
      rintro e wb ⟨rfl, hbb⟩
      have HBB := Lib.hid hbb
      clear hbb
      go_wp2_with fail
      go_ret
      exact ⟨rfl, HBB.out⟩

set_option maxRecDepth 100000 in
/-- The row's contract, for every argument and every world. -/
theorem contract (H : Type) (enc : TypeId × Value → H) (W : World) (base : Nat) (args : Array Value) (ds gs : List (DataW H)) (before : List MemPlace)
    (hval : ∀ (j : Nat) t v, Tryd.f8.params[j]? = some t → args[j]? = some v → Value.okWide Tryd.prog W .any base t v)
    (hW : DataW.Whole enc Tryd.prog Tryd.f8.params.toList Rows.liveLastSpec.vars false W args.toList ds gs before) (hL : laidMetH Tryd.prog Rows.liveLastRow.laid W) :
    Calls Tryd.prog 8 args W fun e W' => ∃ v, e = .returned v ∧ Rows.liveLastSpec.post enc Tryd.prog Tryd.f8 false true false false W args v W' := by
  have hW' := hW
  obtain ⟨p, q, hA0, hV, rfl, hfz, hnd⟩ := hW
  have hA : DataW.TrodAll enc Tryd.prog W 0 (fun _ => true) true Tryd.f8.params.toList args.toList ds p := hA0
  rw [Tryd.params8] at hA hval
  obtain ⟨v0, vs0, d0, ds0, p0, q0, hargs0, rfl, rfl, t0, r0⟩ := trodAll_cons hA
  obtain ⟨rfl, rfl, rfl⟩ := trodAll_nil r0
  obtain rfl : args = #[v0] := by cases args; simp_all
  obtain ⟨f, hF0, hk0, hm0⟩ := open_filt (hval 0 30 v0 rfl rfl) t0
  refine (walk v0 f W hF0 hk0 hm0 (otab1_of hL)).mono fun e W' ⟨he, hg⟩ => ?_
  subst he
  exact ⟨_, rfl, law_post (tb := 4) laidOut (fun t ht => by rw [Tryd.params8] at ht; revert t; exact of_decide_eq_true (by kernel_rfl)) (by kernel_rfl) Tryd.underlying4 rfl
    (fun ds h => by rw [Tryd.params8] at h; match ds, h with | [_], _ => rfl) hW' hg⟩

theorem laid_met (os : Os) : laidMet Tryd.prog Rows.liveLastRow.laid ((laidWorld1 os).forCall (fun _ _ => 0) ⟨#[], #[.slice none 0 0], []⟩).memory :=
  laidMet_of_run' 8 (by kernel_rfl) (by kernel_rfl)
theorem reads (os : Os) {H : Type} (enc : TypeId × Value → H) : ∃ places, DataW.whole enc Tryd.prog ((laidWorld1 os).forCall (fun _ _ => 0) ⟨#[], #[.slice none 0 0], []⟩).memory Tryd.f8.params.toList Rows.liveLastSpec.vars false #[Value.slice none 0 0].toList 8 = some ([.nil], [], places) :=
  ⟨[], by kernel_rfl⟩

set_option maxRecDepth 100000 in
theorem lifted (os : Os) (started : os.Started) (H : Type) (enc : TypeId × Value → H) (F : Stop.Interp) :
    ReturnsInHanded {} Tryd.checked os 8 .any ((OpenSpec.ofChange Rows.liveLastSpec).preRow enc Tryd.prog Tryd.f8 Rows.liveLastRow.domain false Rows.liveLastRow.laid) (((OpenSpec.ofChange Rows.liveLastSpec).at F).post enc Tryd.prog Tryd.f8 false true false false) := by
  obtain ⟨places, hx⟩ := reads os enc
  refine returnsInHanded_of_row (C := Tryd.checked) (s := OpenSpec.ofChange Rows.liveLastSpec) own started (by kernel_rfl) Tryd.func8
    (witness_row_at (enc := enc) (C := Tryd.checked) false (laidWorld1 os) #[.slice none 0 0] rfl (by kernel_rfl) (by kernel_rfl) (by kernel_rfl)
      (OpenSpec.preRow_of_cond 8 hx (by kernel_rfl) (fun k hk => by cases hk) (by kernel_rfl) (laid_met os))) ?_
  intro W base args ds gs before hval hW _ _ _ hL _ _
  exact contract H enc W base args ds gs before hval hW hL

theorem said : Rows.LiveLastSaid :=
  OpenClaim.holds_of_cond 8 Tryd.f8 rfl rfl rfl rfl rfl rfl rfl ⟨rfl, rfl, rfl, rfl, rfl⟩ rfl rfl rfl rfl rfl (by kernel_rfl) Tryd.func8 (by kernel_rfl)
    (of_decide_eq_true (by kernel_rfl)) (by unfold Func.isWrapper; first | (rw [if_pos (by decide +kernel)]; kernel_rfl) | (rw [if_neg (by decide +kernel)]; exact ⟨rfl, rfl⟩))
    (fun os started H enc _ F => by rw [OpenClaim.pre_eq_preRow]; exact lifted os started H enc F)

/-- No parameter wants a stand-in; the program's own looks are off. -/
theorem plain (f : FuncId) (fn : Func) (hf : Tryd.pinned.checked.prog.funcNamed "hurdle/hurdlelaw07.LiveLast" = some f) (hfn : Tryd.pinned.checked.prog.funcs[f]? = some fn) :
    false = Tryd.pinned.checked.prog.looks [] ∧ ∀ (j : Nat) t, fn.params[j]? = some t → Tryd.pinned.checked.prog.wantsStandIn t = false := by
  obtain rfl : f = 8 := Option.some.inj ((show Tryd.prog.funcNamed "hurdle/hurdlelaw07.LiveLast" = some 8 by kernel_rfl).symm.trans hf) |>.symm
  obtain rfl : fn = Tryd.f8 := (Option.some.inj (Tryd.func8.symm.trans hfn)).symm
  refine ⟨by kernel_rfl, fun j t ht => ?_⟩
  have hm := Array.mem_of_getElem? ht
  rw [Tryd.params8] at hm
  have all : ∀ t ∈ (#[30] : Array TypeId).toList, Tryd.prog.wantsStandIn t = false := of_decide_eq_true (by kernel_rfl)
  exact all t (Array.mem_toList_iff.2 hm)

/-- The tied card. -/
theorem card : Rows.LiveLastCardSaid :=
  Claim7.holds_tied_plain_at .later [] _ _ _ _ said (fun _ h => by cases h) (by kernel_rfl) (fun _ h => by cases h) liveLast_row_tie rfl ⟨rfl, rfl⟩ (by kernel_rfl) rfl plain (by kernel_rfl)
end Go.Proofs.YtmbegncnbjafdaaDoor.liveLast
