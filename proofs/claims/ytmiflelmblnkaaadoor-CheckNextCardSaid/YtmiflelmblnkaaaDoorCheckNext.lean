/-
  For every filter and every place, in every world that has the table of package ins as its initialiser lays it: the law CheckNext returns true and changes nothing that was there.
-/
import Derived.Test.YtmiflelmblnkaaaDoorKFrame
import Derived.Test.YtmiflelmblnkaaaDoorKRNext
import Derived.BigQuiet
namespace Go.Proofs.YtmiflelmblnkaaaDoor.checkNext
open Go.ChangeShapes Go.WideShapes Go.ChangeAt Go.RowKit

set_option maxRecDepth 100000 in
set_option maxHeartbeats 8000000 in
theorem walk_none (v : Value) (f : List X4) (p : Int) (w : World) (hF : FAt w v f) (hk : ∀ x ∈ f, x.ok) (ht : OTab w) (h500 : f.length ≤ 300) (h : p < 0 ∨ (f.length : Int) ≤ p ∨ soundB f = false) :
    Calls Tryd.prog 4 #[v, .int .i64 p] w fun e w' => e = .returned (.bool true) ∧ Below w.heap.size w w' := by
  obtain ⟨ao, cap, rfl⟩ := hF.shape
  have HF := Lib.hid hF
  have HK := Lib.hid hk
  have HH := Lib.hid h
  clear hF hk h
  go_enter Tryd.func4, Tryd.ntmps4
  go_wp2_with fail
  refine (next_out _ f p _ HF.out HK.out ht HH.out).mono ?_
  rintro e w1 ⟨rfl, hb1⟩
  have HB1 := Lib.hid hb1
  clear hb1
  by_cases h0 : p < 0
  · go_wp2_with fail
    refine (kknow_end HB1.out ht).mono ?_
    rintro e w2 ⟨rfl, hb2⟩
    have HB2 := Lib.hid hb2
    clear hb2
    go_wp2_with fail
    go_ret
    exact ⟨rfl, HB2.out⟩
  by_cases h1 : (f.length : Int) ≤ p
  · go_wp2_with fail
    refine (kknow_end HB1.out ht).mono ?_
    rintro e w2 ⟨rfl, hb2⟩
    have HB2 := Lib.hid hb2
    clear hb2
    go_wp2_with fail
    go_ret
    exact ⟨rfl, HB2.out⟩
  have hs : Hid (soundB f = false) := Lib.hid (by rcases HH.out with h | h | h <;> first | (exact h) | (exact absurd h (by omega)))
  go_wp2_with fail
  refine (rsound5_any _ f _ (HF.out.below HB1.out) HK.out).mono ?_
  rintro e w2 ⟨rfl, hb2⟩
  rw [hs.out]
  have HB2 := Lib.hid (below2 HB1.out hb2)
  clear hb2
  go_wp2_with fail
  refine (kknow_end HB2.out ht).mono ?_
  rintro e w3 ⟨rfl, hb3⟩
  have HB3 := Lib.hid hb3
  clear hb3
  go_wp2_with fail
  go_ret
  exact ⟨rfl, HB3.out⟩

set_option maxRecDepth 100000 in
set_option maxHeartbeats 8000000 in
theorem walk_sound (v : Value) (f : List X4) (n : Nat) (w : World) (hF : FAt w v f) (hk : ∀ x ∈ f, x.ok) (ht : OTab w) (h500 : f.length ≤ 300) (hn : n < f.length) (hs : soundB f = true) :
    Calls Tryd.prog 4 #[v, .int .i64 n] w fun e w' => e = .returned (.bool true) ∧ Below w.heap.size w w' := by
  obtain ⟨ao, cap, rfl⟩ := hF.shape
  have HF := Lib.hid hF
  have HK := Lib.hid hk
  have HS := Lib.hid hs
  have hfi : decide (f.length ≤ n) = false := decide_eq_false (by omega)
  clear hF hk hs
  go_enter Tryd.func4, Tryd.ntmps4
  go_wp2_with fail
  refine (next_any _ f n _ HF.out HK.out ht hn HS.out).mono ?_
  rintro e w1 ⟨u1, rfl, hi1, hb1⟩
  have HB1 := Lib.hid hb1
  have HI1 := Lib.hid hi1
  clear hb1 hi1
  go_wp2_with fail
  refine (rsound5_any _ f _ (HF.out.below HB1.out) HK.out).mono ?_
  rintro e w2 ⟨rfl, hb2⟩
  rw [HS.out]
  have HB2 := Lib.hid (below2 HB1.out hb2)
  have HI2 := Lib.hid (HI1.out.below hb2)
  clear hb2 HB1 HI1
  go_wp2_with fail
  refine (rnext_any _ f n _ (HF.out.below HB2.out) HK.out hn HS.out).mono ?_
  rintro e w3 ⟨u3, rfl, hi3, hb3⟩
  have HB3 := Lib.hid (below2 HB2.out hb3)
  have hi1 := HI2.out.below hb3
  clear hb3 HB2 HI2
  have hL2 := nextX_short f[n] n
  generalize nextX f[n] n = L at hi1 hi3 hL2
  obtain ⟨ao1, cap1, rfl, h1⟩ := hi1
  obtain ⟨ao3, cap3, rfl, h3⟩ := hi3
  have H1 := Lib.hid h1
  have H3 := Lib.hid h3
  have hL : ((L.length : Int) == L.length) = true := by simp
  clear h1 h3
  go_wp2_with fail
  go_loopw [7] (fun i wr => ∃ j : Nat, j ≤ L.length ∧ i = .int .i64 j ∧ Below w3.heap.size w3 wr) (fun i _ => L.length - (intOf i).toNat)
  case atStart => exact ⟨0, by omega, rfl, Below.refl _ _⟩
  case round =>
    obtain ⟨j, hj, rfl, hB⟩ := hrel
    by_cases hlt : j < L.length
    · rcases H1.out with h0 | ⟨b1, o1, rfl, hb1, hc1⟩
      · rw [h0] at hlt; simp at hlt
      rcases H3.out with h0 | ⟨b3, o3, rfl, hb3, hc3⟩
      · rw [h0] at hlt; simp at hlt
      have c1 := (hB.cell (p := ⟨b1, _, none⟩) hb1).trans (hc1 j hlt)
      have c3 := (hB.cell (p := ⟨b3, _, none⟩) hb3).trans (hc3 j hlt)
      generalize L[j] = q at c1 c3
      have hq : (q == q) = true := by simp
      have HB := Lib.hid hB
      clear hB hc1 hc3 H1 H3
      go_wp2_with fail
      go_quiet (fail)
      go_wp2_with fail
      go_roundw
      case rel => exact ⟨j + 1, by omega, by go_num, bdN HB.out _⟩
      case measure => simp [intOf]; omega
    · have HB := Lib.hid (below2 HB3.out hB)
      clear hB
      go_wp2_with fail
      refine (kknow_end HB.out ht).mono ?_
      rintro e w4 ⟨rfl, hb4⟩
      have HB4 := Lib.hid hb4
      clear hb4
      go_wp2_with fail
      go_ret
      exact ⟨rfl, HB4.out⟩

set_option maxRecDepth 100000 in
set_option maxHeartbeats 8000000 in
theorem walk (v : Value) (f : List X4) (p : Int) (w : World) (hF : FAt w v f) (hk : ∀ x ∈ f, x.ok) (_hm : f.length ≤ 9223372036854775807) (_hp : -9223372036854775808 ≤ p) (_hp' : p ≤ 9223372036854775807) (ht : OTab w) :
    Calls Tryd.prog 4 #[v, .int .i64 p] w fun e w' => e = .returned (.bool true) ∧ Below w.heap.size w w' := by
  by_cases hbig : 300 < f.length
  · obtain ⟨ao, cap, rfl⟩ := hF.shape
    clear hF hk
    go_enter Tryd.func4, Tryd.ntmps4
    go_wp2_with fail
    refine (kknow_end (Below.refl _ _) ht).mono ?_
    rintro e wb ⟨rfl, hbb⟩
    have HB := Lib.hid hbb
    clear hbb
    go_wp2_with fail
    go_ret
    exact ⟨rfl, HB.out⟩
  by_cases h0 : p < 0
  · exact walk_none v f p w hF hk ht (by omega) (.inl h0)
  by_cases h1 : (f.length : Int) ≤ p
  · exact walk_none v f p w hF hk ht (by omega) (.inr (.inl h1))
  cases hs : soundB f
  · exact walk_none v f p w hF hk ht (by omega) (.inr (.inr hs))
  · have h := walk_sound v f p.toNat w hF hk ht (by omega) (by omega) hs
    rw [show ((p.toNat : Nat) : Int) = p by omega] at h
    exact h

set_option maxRecDepth 100000 in
/-- The row's contract, for every argument and every world. -/
theorem contract (H : Type) (enc : TypeId × Value → H) (W : World) (base : Nat) (args : Array Value) (ds gs : List (DataW H)) (before : List MemPlace)
    (hval : ∀ (j : Nat) t v, Tryd.f4.params[j]? = some t → args[j]? = some v → Value.okWide Tryd.prog W .any base t v)
    (hW : DataW.Whole enc Tryd.prog Tryd.f4.params.toList Rows.checkNextSpec.vars false W args.toList ds gs before) (hL : laidMetH Tryd.prog Rows.checkNextRow.laid W) :
    Calls Tryd.prog 4 args W fun e W' => ∃ v, e = .returned v ∧ Rows.checkNextSpec.post enc Tryd.prog Tryd.f4 false true false false W args v W' := by
  have hW' := hW
  obtain ⟨p, q, hA0, hV, rfl, hfz, hnd⟩ := hW
  have hA : DataW.TrodAll enc Tryd.prog W 0 (fun _ => true) true Tryd.f4.params.toList args.toList ds p := hA0
  rw [Tryd.params4] at hA hval
  obtain ⟨v0, vs0, d0, ds0, p0, q0, hargs0, rfl, rfl, t0, r0⟩ := trodAll_cons hA
  obtain ⟨v1, vs1, d1, ds1, p1, q1, hargs1, rfl, rfl, t1, r1⟩ := trodAll_cons r0
  obtain ⟨rfl, rfl, rfl⟩ := trodAll_nil r1
  obtain rfl : args = #[v0, v1] := by cases args; simp_all
  obtain ⟨f, hF0, hk0, hm0⟩ := open_filt (hval 0 22 v0 rfl rfl) t0
  obtain ⟨p, rfl, rfl, rfl, wf1⟩ := open_int Tryd.underlying3 (hval 1 3 v1 rfl rfl) t1
  have bd1 := bounds_i64 wf1
  refine (walk v0 f p W hF0 hk0 hm0 bd1.1 bd1.2 (otab1_of hL)).mono fun e W' ⟨he, hg⟩ => ?_
  subst he
  exact ⟨_, rfl, law_post (tb := 4) laidOut (fun t ht => by rw [Tryd.params4] at ht; revert t; exact of_decide_eq_true (by kernel_rfl)) (by kernel_rfl) Tryd.underlying4 rfl
    (fun ds h => by rw [Tryd.params4] at h; match ds, h with | [_, _], _ => rfl) hW' hg⟩

theorem laid_met (os : Os) : laidMet Tryd.prog Rows.checkNextRow.laid ((laidWorld os).forCall (fun _ _ => 0) ⟨#[], #[.slice none 0 0, .int .i64 0], []⟩).memory :=
  laidMet_of_run' 8 (by kernel_rfl) (by kernel_rfl)
theorem reads (os : Os) {H : Type} (enc : TypeId × Value → H) : ∃ places, DataW.whole enc Tryd.prog ((laidWorld os).forCall (fun _ _ => 0) ⟨#[], #[.slice none 0 0, .int .i64 0], []⟩).memory Tryd.f4.params.toList Rows.checkNextSpec.vars false #[Value.slice none 0 0, Value.int .i64 0].toList 8 = some ([.nil, .lit (.int .i64 0)], [], places) :=
  ⟨[], by kernel_rfl⟩

set_option maxRecDepth 100000 in
theorem lifted (os : Os) (started : os.Started) (H : Type) (enc : TypeId × Value → H) (F : Stop.Interp) :
    ReturnsInHanded {} Tryd.checked os 4 .any ((OpenSpec.ofChange Rows.checkNextSpec).preRow enc Tryd.prog Tryd.f4 Rows.checkNextRow.domain false Rows.checkNextRow.laid) (((OpenSpec.ofChange Rows.checkNextSpec).at F).post enc Tryd.prog Tryd.f4 false true false false) := by
  obtain ⟨places, hx⟩ := reads os enc
  refine returnsInHanded_of_row (C := Tryd.checked) (s := OpenSpec.ofChange Rows.checkNextSpec) own started (by kernel_rfl) Tryd.func4
    (witness_row_at (enc := enc) (C := Tryd.checked) false (laidWorld os) #[.slice none 0 0, .int .i64 0] rfl (by kernel_rfl) (by kernel_rfl) (by kernel_rfl)
      (OpenSpec.preRow_of_cond 8 hx (by kernel_rfl) (fun k hk => by cases hk) (by kernel_rfl) (laid_met os))) ?_
  intro W base args ds gs before hval hW _ _ _ hL _ _
  exact contract H enc W base args ds gs before hval hW hL

theorem said : Rows.CheckNextSaid :=
  OpenClaim.holds_of_cond 4 Tryd.f4 rfl rfl rfl rfl rfl rfl rfl ⟨rfl, rfl, rfl, rfl, rfl⟩ rfl rfl rfl rfl rfl (by kernel_rfl) Tryd.func4 (by kernel_rfl)
    (of_decide_eq_true (by kernel_rfl)) (by unfold Func.isWrapper; first | (rw [if_pos (by decide +kernel)]; kernel_rfl) | (rw [if_neg (by decide +kernel)]; exact ⟨rfl, rfl⟩))
    (fun os started H enc _ F => by rw [OpenClaim.pre_eq_preRow]; exact lifted os started H enc F)

/-- No parameter wants a stand-in; the program's own looks are off. -/
theorem plain (f : FuncId) (fn : Func) (hf : Tryd.pinned.checked.prog.funcNamed "hurdle/hurdlelaw05.CheckNext" = some f) (hfn : Tryd.pinned.checked.prog.funcs[f]? = some fn) :
    false = Tryd.pinned.checked.prog.looks [] ∧ ∀ (j : Nat) t, fn.params[j]? = some t → Tryd.pinned.checked.prog.wantsStandIn t = false := by
  obtain rfl : f = 4 := Option.some.inj ((show Tryd.prog.funcNamed "hurdle/hurdlelaw05.CheckNext" = some 4 by kernel_rfl).symm.trans hf) |>.symm
  obtain rfl : fn = Tryd.f4 := (Option.some.inj (Tryd.func4.symm.trans hfn)).symm
  refine ⟨by kernel_rfl, fun j t ht => ?_⟩
  have hm := Array.mem_of_getElem? ht
  rw [Tryd.params4] at hm
  have all : ∀ t ∈ (#[22, 3] : Array TypeId).toList, Tryd.prog.wantsStandIn t = false := of_decide_eq_true (by kernel_rfl)
  exact all t (Array.mem_toList_iff.2 hm)

/-- The tied card. -/
theorem card : Rows.CheckNextCardSaid :=
  Claim7.holds_tied_plain_at .later [] _ _ _ _ said (fun _ h => by cases h) (by kernel_rfl) (fun _ h => by cases h) checkNext_row_tie rfl ⟨rfl, rfl⟩ (by kernel_rfl) rfl plain (by kernel_rfl)
end Go.Proofs.YtmiflelmblnkaaaDoor.checkNext
