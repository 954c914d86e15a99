/-
  For every two filters and every record, in every world that has the table of package ins as its initialiser lays it: the law RunJumps returns true and changes nothing that was there.
-/
import Derived.Test.YtkcjkamfcgdibaaDoorUFrame
import Derived.Test.YtkcjkamfcgdibaaDoorKRCheck
import Derived.Test.YtkcjkamfcgdibaaDoorCFault
namespace Go.Proofs.YtkcjkamfcgdibaaDoor.runJumps
open Go.ChangeShapes Go.WideShapes Go.ChangeAt Go.RowKit

theorem own_lit (w : World) (a b c d : Int) : (w.alloc (insB a b c d)).ownsRow w.heap.size 27 4 (.slice (some ⟨w.heap.size, 0, none⟩) 1 1) 1 (X4.mk a b c d).cells :=
  ⟨by simp, .inr ⟨w.heap.size, 1, _, rfl, Nat.le_refl _, heap_alloc_new w _, Nat.le_refl _, by unfold maxLen; omega, by simp, by simp⟩⟩
theorem ok_jump {f l : List X4} (n : Nat) (hn : n ≤ 20) (hf : ∀ x ∈ f, x.ok) (hl : ∀ x ∈ l, x.ok) : ∀ x ∈ (⟨5, 0, 0, (n : Int)⟩ :: l ++ f : List X4), x.ok := by
  intro x hx
  rcases List.mem_append.1 hx with h | h
  · rcases List.mem_cons.1 h with rfl | h
    · exact ⟨by show (0 : Int) ≤ n; omega, by show (n : Int) ≤ 4294967295; omega⟩
    · exact hl x h
  · exact hf x h

set_option maxRecDepth 100000 in
set_option maxHeartbeats 8000000 in
theorem walk (v0 : Value) (f : List X4) (v1 : Value) (l : List X4) (d : Rec) (w : World) (hF : FAt w v0 f) (hk : ∀ x ∈ f, x.ok) (_hm : f.length ≤ 9223372036854775807) (hG : FAt w v1 l) (hk' : ∀ x ∈ l, x.ok) (_hm' : l.length ≤ 9223372036854775807) (hd : d.ok) (ht : OTab w) :
    Calls Tryd.prog 8 #[v0, v1, d.val] w fun e w' => e = .returned (.bool true) ∧ Below w.heap.size w w' := by
  obtain ⟨ao0, cap0, rfl⟩ := hF.shape
  obtain ⟨ao1, cap1, rfl⟩ := hG.shape
  have HF := Lib.hid hF
  have HG := Lib.hid hG
  have HK := Lib.hid hk
  have HK' := Lib.hid hk'
  have HDo := Lib.hid hd
  have HB0 := Lib.hid (ba (.cells d.cells 31) (Below.refl w.heap.size w))
  have HD0 := Lib.hid (heap_alloc_new w (.cells d.cells 31))
  clear hF hG hk hk' hd
  by_cases h1 : 300 < f.length
  · go_enter Tryd.func8, Tryd.ntmps8
    go_wp2_with fail
    refine (uknow_end HB0.out ht).mono ?_
    rintro e wb ⟨rfl, hbb⟩
    have HBB := Lib.hid hbb
    clear hbb
    go_wp2_with fail
    go_ret
    exact ⟨rfl, HBB.out⟩
  by_cases h2 : 20 < l.length
  · go_enter Tryd.func8, Tryd.ntmps8
    go_wp2_with fail
    refine (uknow_end HB0.out ht).mono ?_
    rintro e wb ⟨rfl, hbb⟩
    have HBB := Lib.hid hbb
    clear hbb
    go_wp2_with fail
    go_ret
    exact ⟨rfl, HBB.out⟩
  obtain ⟨i0, hi, hz0, hz1, hz2⟩ := info_parts infoX
  go_enter Tryd.func8, Tryd.ntmps8
  go_wp2_with fail
  refine (rsound5_any _ f _ (HF.out.below HB0.out) HK.out).mono ?_
  rintro e w1 ⟨rfl, hb1⟩
  have HB1 := Lib.hid (below2 HB0.out (hb1.mono (Nat.le_refl _)))
  have HD1 := Lib.hid (kb hb1 HD0.out)
  clear hb1
  cases hs : soundB f
  · clear hs
    go_wp2_with fail
    refine (uknow_end HB1.out ht).mono ?_
    rintro e wb ⟨rfl, hbb⟩
    have HBB := Lib.hid hbb
    clear hbb
    go_wp2_with fail
    go_ret
    exact ⟨rfl, HBB.out⟩
  have HS := Lib.hid hs
  clear hs
  have HBA := Lib.hid (ba (insB 5 0 0 l.length) (Below.refl w1.heap.size w1))
  have hsA := HBA.out.size
  have HOne := Lib.hid (own_lit w1 5 0 0 l.length)
  have hll : (l.length : Int) ≤ 20 := by omega
  go_wp2_with (at_builtin; refine wpList_append_src _ rfl _ _ 37 rfl w1.heap.size 27 i0 (.agg #[.int .i64 0, .int .i64 0, .int .i64 0, .int .u32 0]) 4 32 Tryd.underlying37 hi hz0 hz1 hz2 rfl (by decide) _ 1 (X4.mk 5 0 0 l.length).cells rfl HOne.out _ l.length (fcells l) rfl (HG.out.below (HB1.out.trans (HBA.out.mono HB1.out.size))).src (fcells_one' l) (by unfold maxLen; omega) (by omega) hsA ?_)
  intro va wa hown hgrow
  have HBa := Lib.hid (grown_below HBA.out HOne.out hgrow hsA)
  have HOa := Lib.hid hown
  have hsa := HBa.out.size
  clear hown hgrow
  go_wp2_with (at_builtin; refine wpList_append_src _ rfl _ _ 37 rfl w1.heap.size 27 i0 (.agg #[.int .i64 0, .int .i64 0, .int .i64 0, .int .u32 0]) 4 32 Tryd.underlying37 hi hz0 hz1 hz2 rfl (by decide) _ _ _ rfl HOa.out _ f.length (fcells f) rfl (HF.out.below (HB1.out.trans (HBa.out.mono HB1.out.size))).src (fcells_one' f) (by unfold maxLen; omega) (by omega) hsa ?_)
  intro vb wb hown hgrow
  have HC := Lib.hid (grown_below HBa.out HOa.out hgrow hsa)
  have HB2 := Lib.hid (HB1.out.trans (HC.out.mono HB1.out.size))
  have HD2 := Lib.hid (kb HC.out HD1.out)
  have HJ : Hid (FAt wb vb (⟨5, 0, 0, (l.length : Int)⟩ :: l ++ f)) := Lib.hid (FAt.own (l := ⟨5, 0, 0, (l.length : Int)⟩ :: l ++ f) (by rw [fcells_app]; simpa [fcells] using hown) (by simp; omega))
  have HKJ := Lib.hid (ok_jump l.length (by omega) HK.out HK'.out)
  have HRJ := Lib.hid (run_jump (soundB_iff.1 HS.out) HK.out l d)
  obtain ⟨g, hg⟩ : ∃ g, g = (⟨5, 0, 0, (l.length : Int)⟩ :: l ++ f : List X4) := ⟨_, rfl⟩
  rw [← hg] at HJ HKJ HRJ
  clear hown hgrow HOa HBa HBA hsa hsA HC HOne hg
  obtain ⟨aog, capg, rfl⟩ := HJ.out.shape
  go_wp2_with fail
  refine (rsound5_any _ g _ HJ.out HKJ.out).mono ?_
  rintro e w3 ⟨rfl, hb3⟩
  have HB3 := Lib.hid (below2 HB2.out (hb3.mono (Nat.le_refl _)))
  have HD3 := Lib.hid (kb hb3 HD2.out)
  have HJ3 := Lib.hid (HJ.out.below hb3)
  clear hb3
  cases hsg : soundB g
  · clear hsg
    go_wp2_with fail
    refine (uknow_end HB3.out ht).mono ?_
    rintro e wb ⟨rfl, hbb⟩
    have HBB := Lib.hid hbb
    clear hbb
    go_wp2_with fail
    go_ret
    exact ⟨rfl, HBB.out⟩
  have HSG := Lib.hid hsg
  clear hsg
  obtain ⟨x0, x1, x2, x3, x4, x5, x6, x7, x8⟩ := rec_cells HD3.out
  go_wp2_with fail
  refine (run_any _ f d _ (HF.out.below HB3.out) HK.out HDo.out (ht.below HB3.out) HS.out).mono ?_
  rintro e w4 ⟨rfl, hb4⟩
  have HB4 := Lib.hid (below2 HB3.out (hb4.mono (Nat.le_refl _)))
  have HD4 := Lib.hid (kb hb4 HD3.out)
  have HJ4 := Lib.hid (HJ3.out.below hb4)
  clear hb4 x0 x1 x2 x3 x4 x5 x6 x7 x8
  obtain ⟨x0, x1, x2, x3, x4, x5, x6, x7, x8⟩ := rec_cells HD4.out
  go_wp2_with fail
  refine (run_any _ g d _ HJ4.out HKJ.out HDo.out (ht.below HB4.out) HSG.out).mono ?_
  rintro e w5 ⟨rfl, hb5⟩
  have HB5 := Lib.hid (below2 HB4.out (hb5.mono (Nat.le_refl _)))
  clear hb5 x0 x1 x2 x3 x4 x5 x6 x7 x8
  rw [HRJ.out]
  have hn0 := (fromS_len (soundB_iff.1 HS.out) HK.out d f.length zeroSt 0 (soundB_iff.1 HS.out).1 (by omega)).2
  have hn1 : (runS f d).2 ≤ f.length := hn0
  obtain ⟨R, hR⟩ : ∃ R, R = runS f d := ⟨_, rfl⟩
  rw [← hR] at hn1 ⊢
  clear hR hn0 HRJ
  obtain ⟨r1, r2⟩ := R
  simp only at hn1
  have hr2 : (((r2 + 1 : Nat)) : Int) = (r2 : Int) + 1 := by omega
  have hr3 : (r2 : Int) ≤ 300 := by omega
  rw [hr2]
  have hp : ((r1 : Int) == (r1 : Int)) = true := by simp
  have hq : ((r2 : Int) + 1 == (r2 : Int) + 1) = true := by simp
  clear hr2 hn1
  go_wp2_with fail
  refine (uknow_end HB5.out ht).mono ?_
  rintro e wb ⟨rfl, hbb⟩
  have HBB := Lib.hid hbb
  clear hbb
  go_wp2_with fail
  go_ret
  exact ⟨rfl, HBB.out⟩

set_option maxRecDepth 100000 in
/-- The row's contract, for every argument and every world. -/
theorem contract (H : Type) (enc : TypeId × Value → H) (W : World) (base : Nat) (args : Array Value) (ds gs : List (DataW H)) (before : List MemPlace)
    (hval : ∀ (j : Nat) t v, Tryd.f8.params[j]? = some t → args[j]? = some v → Value.okWide Tryd.prog W .any base t v)
    (hW : DataW.Whole enc Tryd.prog Tryd.f8.params.toList Rows.runJumpsSpec.vars false W args.toList ds gs before) (hL : laidMetH Tryd.prog Rows.runJumpsRow.laid W) :
    Calls Tryd.prog 8 args W fun e W' => ∃ v, e = .returned v ∧ Rows.runJumpsSpec.post enc Tryd.prog Tryd.f8 false true false false W args v W' := by
  have hW' := hW
  obtain ⟨p, q, hA0, hV, rfl, hfz, hnd⟩ := hW
  have hA : DataW.TrodAll enc Tryd.prog W 0 (fun _ => true) true Tryd.f8.params.toList args.toList ds p := hA0
  rw [Tryd.params8] at hA hval
  obtain ⟨v0, vs0, d0, ds0, p0, q0, hargs0, rfl, rfl, t0, r0⟩ := trodAll_cons hA
  obtain ⟨v1, vs1, d1, ds1, p1, q1, hargs1, rfl, rfl, t1, r1⟩ := trodAll_cons r0
  obtain ⟨v2, vs2, d2, ds2, p2, q2, hargs2, rfl, rfl, t2, r2⟩ := trodAll_cons r1
  obtain ⟨rfl, rfl, rfl⟩ := trodAll_nil r2
  obtain rfl : args = #[v0, v1, v2] := by cases args; simp_all
  obtain ⟨f, hF0, hk0, hm0⟩ := open_filt (hval 0 37 v0 rfl rfl) t0
  obtain ⟨l, hF1, hk1, hm1⟩ := open_filt (hval 1 37 v1 rfl rfl) t1
  obtain ⟨d, rfl, hd2⟩ := open_data (hval 2 31 v2 rfl rfl) t2
  refine (walk v0 f v1 l d W hF0 hk0 hm0 hF1 hk1 hm1 hd2 (otab1_of hL)).mono fun e W' ⟨he, hg⟩ => ?_
  subst he
  exact ⟨_, rfl, law_post (tb := 4) laidOut (fun t ht => by rw [Tryd.params8] at ht; revert t; exact of_decide_eq_true (by kernel_rfl)) (by kernel_rfl) Tryd.underlying4 rfl
    (fun ds h => by rw [Tryd.params8] at h; match ds, h with | [_, _, _], _ => rfl) hW' hg⟩

theorem laid_met (os : Os) : laidMet Tryd.prog Rows.runJumpsRow.laid ((laidWorld1 os).forCall (fun _ _ => 0) ⟨#[], #[.slice none 0 0, .slice none 0 0, .agg #[.int .u32 0, .int .u32 0, .int .u64 0, .int .u64 0, .int .u64 0, .int .u64 0, .int .u64 0, .int .u64 0, .int .u64 0]], []⟩).memory :=
  laidMet_of_run' 8 (by kernel_rfl) (by kernel_rfl)
theorem reads (os : Os) {H : Type} (enc : TypeId × Value → H) : ∃ places, DataW.whole enc Tryd.prog ((laidWorld1 os).forCall (fun _ _ => 0) ⟨#[], #[.slice none 0 0, .slice none 0 0, .agg #[.int .u32 0, .int .u32 0, .int .u64 0, .int .u64 0, .int .u64 0, .int .u64 0, .int .u64 0, .int .u64 0, .int .u64 0]], []⟩).memory Tryd.f8.params.toList Rows.runJumpsSpec.vars false #[Value.slice none 0 0, Value.slice none 0 0, Value.agg #[.int .u32 0, .int .u32 0, .int .u64 0, .int .u64 0, .int .u64 0, .int .u64 0, .int .u64 0, .int .u64 0, .int .u64 0]].toList 8 = some ([.nil, .nil, .agg [.lit (.int .u32 0), .lit (.int .u32 0), .lit (.int .u64 0), .agg [.lit (.int .u64 0), .lit (.int .u64 0), .lit (.int .u64 0), .lit (.int .u64 0), .lit (.int .u64 0), .lit (.int .u64 0)]]], [], places) :=
  ⟨[], by kernel_rfl⟩

set_option maxRecDepth 100000 in
theorem lifted (os : Os) (started : os.Started) (H : Type) (enc : TypeId × Value → H) (F : Stop.Interp) :
    ReturnsInHanded {} Tryd.checked os 8 .any ((OpenSpec.ofChange Rows.runJumpsSpec).preRow enc Tryd.prog Tryd.f8 Rows.runJumpsRow.domain false Rows.runJumpsRow.laid) (((OpenSpec.ofChange Rows.runJumpsSpec).at F).post enc Tryd.prog Tryd.f8 false true false false) := by
  obtain ⟨places, hx⟩ := reads os enc
  refine returnsInHanded_of_row (C := Tryd.checked) (s := OpenSpec.ofChange Rows.runJumpsSpec) own started (by kernel_rfl) Tryd.func8
    (witness_row_at (enc := enc) (C := Tryd.checked) false (laidWorld1 os) #[.slice none 0 0, .slice none 0 0, .agg #[.int .u32 0, .int .u32 0, .int .u64 0, .int .u64 0, .int .u64 0, .int .u64 0, .int .u64 0, .int .u64 0, .int .u64 0]] rfl (by kernel_rfl) (by kernel_rfl) (by kernel_rfl)
      (OpenSpec.preRow_of_cond 8 hx (by kernel_rfl) (fun k hk => by cases hk) (by kernel_rfl) (laid_met os))) ?_
  intro W base args ds gs before hval hW _ _ _ hL _ _
  exact contract H enc W base args ds gs before hval hW hL

theorem said : Rows.RunJumpsSaid :=
  OpenClaim.holds_of_cond 8 Tryd.f8 rfl rfl rfl rfl rfl rfl rfl ⟨rfl, rfl, rfl, rfl, rfl⟩ rfl rfl rfl rfl rfl (by kernel_rfl) Tryd.func8 (by kernel_rfl)
    (of_decide_eq_true (by kernel_rfl)) (by unfold Func.isWrapper; first | (rw [if_pos (by decide +kernel)]; kernel_rfl) | (rw [if_neg (by decide +kernel)]; exact ⟨rfl, rfl⟩))
    (fun os started H enc _ F => by rw [OpenClaim.pre_eq_preRow]; exact lifted os started H enc F)

/-- No parameter wants a stand-in; the program's own looks are off. -/
theorem plain (f : FuncId) (fn : Func) (hf : Tryd.pinned.checked.prog.funcNamed "hurdle/hurdlelaw06.RunJumps" = some f) (hfn : Tryd.pinned.checked.prog.funcs[f]? = some fn) :
    false = Tryd.pinned.checked.prog.looks [] ∧ ∀ (j : Nat) t, fn.params[j]? = some t → Tryd.pinned.checked.prog.wantsStandIn t = false := by
  obtain rfl : f = 8 := Option.some.inj ((show Tryd.prog.funcNamed "hurdle/hurdlelaw06.RunJumps" = some 8 by kernel_rfl).symm.trans hf) |>.symm
  obtain rfl : fn = Tryd.f8 := (Option.some.inj (Tryd.func8.symm.trans hfn)).symm
  refine ⟨by kernel_rfl, fun j t ht => ?_⟩
  have hm := Array.mem_of_getElem? ht
  rw [Tryd.params8] at hm
  have all : ∀ t ∈ (#[37, 37, 31] : Array TypeId).toList, Tryd.prog.wantsStandIn t = false := of_decide_eq_true (by kernel_rfl)
  exact all t (Array.mem_toList_iff.2 hm)

/-- The tied card. -/
theorem card : Rows.RunJumpsCardSaid :=
  Claim7.holds_tied_plain_at .later [] _ _ _ _ said (fun _ h => by cases h) (by kernel_rfl) (fun _ h => by cases h) runJumps_row_tie rfl ⟨rfl, rfl⟩ (by kernel_rfl) rfl plain (by kernel_rfl)
end Go.Proofs.YtkcjkamfcgdibaaDoor.runJumps
