/-
  For every two filters and every record that together hold at most 1048576 values, in every world that has the table of package ins as its initialiser lays it: the law RunBehind returns true and changes nothing that was there.
-/
import Derived.Test.YtkcjkamfcgdibaaDoorUFrame
import Derived.Test.YtkcjkamfcgdibaaDoorKRCheck
import Derived.Test.YtkcjkamfcgdibaaDoorCFault
namespace Go.Proofs.YtkcjkamfcgdibaaDoor.runBehind
open Go.ChangeShapes Go.WideShapes Go.ChangeAt Go.RowKit

theorem bulk_pos {H : Type} (d : DataW H) : 1 ≤ Rows.uptoBulk d := by
  cases d with
  | lit l => cases l <;> simp [Rows.uptoBulk]
  | _ => simp [Rows.uptoBulk]
theorem bulk_len {H : Type} : ∀ l : List (DataW H), l.length ≤ Rows.uptoBulkAll l
  | [] => by simp
  | d :: l => by
    have h1 := bulk_len l
    have h2 := bulk_pos d
    simp only [Rows.uptoBulkAll, List.length_cons]
    omega
section
variable {H : Type} {enc : TypeId × Value → H} {W : World} {v : Value} {d d' : DataW H} {p : List MemPlace} {l : List X4}
/-- A filter that was read is of as many values, at least, as it has instructions. -/
theorem filt_bulk (h : DataW.Trod enc Tryd.prog W 0 (fun _ => true) true 37 v d p) (hF : FAt W v l) : l.length ≤ Rows.uptoBulk d := by
  obtain ⟨ao, cap, rfl⟩ := hF.shape
  obtain ⟨fuel, hf⟩ := h
  rcases Go.Deep.open_slice Tryd.underlying37 hf with ⟨hcs, _⟩ | ⟨a, len', cap', m, n, D, Pl, hcs, _, hl, hm, hmm, hx, hi⟩
  · simp [Value.cells] at hcs
    rw [hcs.2.1]
    simp
  · simp [Value.cells] at hcs
    have hd : d = .slice ((List.range len').map D) ((List.range (m - len')).map fun j => D (len' + j)) := congrArg Prod.fst hx
    have hb := bulk_len ((List.range len').map D)
    rw [List.length_map, List.length_range] at hb
    rw [hd]
    simp only [Rows.uptoBulk]
    have := hcs.2.1
    omega
theorem upto_two {rest gs : List (DataW H)} {a b : Nat} (h : Rows.uptoSmall H ((d :: d' :: rest) ++ gs) = true) (h1 : a ≤ Rows.uptoBulk d) (h2 : b ≤ Rows.uptoBulk d') : a + b ≤ 1048576 := by
  unfold Rows.uptoSmall at h
  have h3 := of_decide_eq_true h
  simp only [List.cons_append, Rows.uptoBulkAll] at h3
  omega
end
theorem ok_app {f g : List X4} (h1 : ∀ x ∈ f, x.ok) (h2 : ∀ x ∈ g, x.ok) : ∀ x ∈ f ++ g, x.ok := fun x hx => (List.mem_append.1 hx).elim (h1 x) (h2 x)

set_option maxRecDepth 100000 in
set_option maxHeartbeats 8000000 in
theorem walk (v0 : Value) (f : List X4) (v1 : Value) (l : List X4) (d : Rec) (w : World) (hF : FAt w v0 f) (hk : ∀ x ∈ f, x.ok) (_hm : f.length ≤ 9223372036854775807) (hG : FAt w v1 l) (hk' : ∀ x ∈ l, x.ok) (_hm' : l.length ≤ 9223372036854775807) (hd : d.ok) (hbk : f.length + l.length ≤ 1048576) (ht : OTab w) :
    Calls Tryd.prog 7 #[v0, v1, d.val] w fun e w' => e = .returned (.bool true) ∧ Below w.heap.size w w' := by
  obtain ⟨ao0, cap0, rfl⟩ := hF.shape
  obtain ⟨ao1, cap1, rfl⟩ := hG.shape
  have HF := Lib.hid hF
  have HG := Lib.hid hG
  have HK := Lib.hid hk
  have HK' := Lib.hid hk'
  have HDo := Lib.hid hd
  obtain ⟨W, hW, hD, hB⟩ : ∃ W, W = w.alloc (.cells d.cells 31) ∧ W.heap[w.heap.size]? = some (.cells d.cells 31) ∧ Below w.heap.size w W := ⟨_, rfl, heap_alloc_new _ _, ba _ (Below.refl _ _)⟩
  have HD0 := Lib.hid hD
  have HB0 := Lib.hid hB
  have HBA := Lib.hid (ba (.cells #[] 27) (Below.refl W.heap.size W))
  have hsA := HBA.out.size
  clear hF hG hk hk' hd hD hB
  obtain ⟨i0, hi, hz0, hz1, hz2⟩ := info_parts infoX
  have HOA := Lib.hid (own_empty W W.heap.size 27 4 (Nat.le_refl _))
  go_enter Tryd.func7, Tryd.ntmps7
  go_upto_region 1 with fail
  rw [← hW]
  clear hW
  go_wp2_with (at_builtin; refine wpList_append_src _ rfl _ _ 37 rfl W.heap.size 27 i0 (.agg #[.int .i64 0, .int .i64 0, .int .i64 0, .int .u32 0]) 4 32 Tryd.underlying37 hi hz0 hz1 hz2 rfl (by decide) _ 0 [] rfl HOA.out _ f.length (fcells f) rfl (HF.out.below (HB0.out.trans (HBA.out.mono HB0.out.size))).src (fcells_one' f) (by unfold maxLen; omega) (by omega) hsA ?_)
  intro va wa hown hgrow
  have HBa := Lib.hid (grown_below HBA.out HOA.out hgrow hsA)
  have HOa := Lib.hid hown
  have HBwa := Lib.hid (HB0.out.trans (HBa.out.mono HB0.out.size))
  have hsa := HBa.out.size
  clear hown hgrow
  go_wp2_with (at_builtin; refine wpList_append_src _ rfl _ _ 37 rfl W.heap.size 27 i0 (.agg #[.int .i64 0, .int .i64 0, .int .i64 0, .int .u32 0]) 4 32 Tryd.underlying37 hi hz0 hz1 hz2 rfl (by decide) _ _ _ rfl HOa.out _ l.length (fcells l) rfl (HG.out.below HBwa.out).src (fcells_one' l) (by unfold maxLen; omega) (by omega) hsa ?_)
  intro vb wb hown hgrow
  have HC := Lib.hid (grown_below HBa.out HOa.out hgrow hsa)
  have HB2 := Lib.hid (HB0.out.trans (HC.out.mono HB0.out.size))
  have HD2 := Lib.hid (kb HC.out HD0.out)
  have HJ : Hid (FAt wb vb (f ++ l)) := Lib.hid (FAt.own (l := f ++ l) (by rw [fcells_app]; simpa using hown) (by rw [List.length_append]))
  have HKJ := Lib.hid (ok_app HK.out HK'.out)
  have HRJ : Hid (soundB f = true → runS (f ++ l) d = runS f d) := Lib.hid fun h => run_behind (soundB_iff.1 h) HK.out d
  obtain ⟨g, hg⟩ : ∃ g, g = f ++ l := ⟨_, rfl⟩
  rw [← hg] at HJ HKJ HRJ
  clear hown hgrow HOa HBa HBA hsa hsA HC HOA hg HBwa
  obtain ⟨aog, capg, rfl⟩ := HJ.out.shape
  by_cases h1 : 300 < g.length
  · go_wp2_with fail
    refine (uknow_end HB2.out ht).mono ?_
    rintro e wb ⟨rfl, hbb⟩
    have HBB := Lib.hid hbb
    clear hbb
    go_wp2_with fail
    go_ret
    exact ⟨rfl, HBB.out⟩
  go_wp2_with fail
  refine (rsound5_any _ f _ (HF.out.below HB2.out) HK.out).mono ?_
  rintro e w1 ⟨rfl, hb1⟩
  have HB3 := Lib.hid (below2 HB2.out (hb1.mono (Nat.le_refl _)))
  have HD3 := Lib.hid (kb hb1 HD2.out)
  have HJ3 := Lib.hid (HJ.out.below hb1)
  clear hb1
  cases hs : soundB f
  · clear hs
    go_wp2_with fail
    refine (uknow_end HB3.out ht).mono ?_
    rintro e wb ⟨rfl, hbb⟩
    have HBB := Lib.hid hbb
    clear hbb
    go_wp2_with fail
    go_ret
    exact ⟨rfl, HBB.out⟩
  have HS := Lib.hid hs
  clear hs
  go_wp2_with fail
  refine (rsound5_any _ g _ HJ3.out HKJ.out).mono ?_
  rintro e w3 ⟨rfl, hb3⟩
  have HB4 := Lib.hid (below2 HB3.out (hb3.mono (Nat.le_refl _)))
  have HD4 := Lib.hid (kb hb3 HD3.out)
  have HJ4 := Lib.hid (HJ3.out.below hb3)
  clear hb3
  cases hsg : soundB g
  · clear hsg
    go_wp2_with fail
    refine (uknow_end HB4.out ht).mono ?_
    rintro e wb ⟨rfl, hbb⟩
    have HBB := Lib.hid hbb
    clear hbb
    go_wp2_with fail
    go_ret
    exact ⟨rfl, HBB.out⟩
  have HSG := Lib.hid hsg
  clear hsg
  obtain ⟨x0, x1, x2, x3, x4, x5, x6, x7, x8⟩ := rec_cells HD4.out
  go_wp2_with fail
  refine (run_any _ f d _ (HF.out.below HB4.out) HK.out HDo.out (ht.below HB4.out) HS.out).mono ?_
  rintro e w4 ⟨rfl, hb4⟩
  have HB5 := Lib.hid (below2 HB4.out (hb4.mono (Nat.le_refl _)))
  have HD5 := Lib.hid (kb hb4 HD4.out)
  have HJ5 := Lib.hid (HJ4.out.below hb4)
  clear hb4 x0 x1 x2 x3 x4 x5 x6 x7 x8
  obtain ⟨x0, x1, x2, x3, x4, x5, x6, x7, x8⟩ := rec_cells HD5.out
  go_wp2_with fail
  refine (run_any _ g d _ HJ5.out HKJ.out HDo.out (ht.below HB5.out) HSG.out).mono ?_
  rintro e w5 ⟨rfl, hb5⟩
  have HB6 := Lib.hid (below2 HB5.out (hb5.mono (Nat.le_refl _)))
  clear hb5 x0 x1 x2 x3 x4 x5 x6 x7 x8
  rw [HRJ.out HS.out]
  obtain ⟨R, hR⟩ : ∃ R, R = runS f d := ⟨_, rfl⟩
  rw [← hR]
  clear hR HRJ
  obtain ⟨r1, r2⟩ := R
  have hp : ((r1 : Int) == (r1 : Int)) = true := by simp
  have hq : ((r2 : Int) == (r2 : Int)) = true := by simp
  go_wp2_with fail
  refine (uknow_end HB6.out ht).mono ?_
  rintro e wb ⟨rfl, hbb⟩
  have HBB := Lib.hid hbb
  clear hbb
  go_wp2_with fail
  go_ret
  exact ⟨rfl, HBB.out⟩

set_option maxRecDepth 100000 in
/-- The row's contract, for every argument and every world. -/
theorem contract (H : Type) (enc : TypeId × Value → H) (W : World) (base : Nat) (args : Array Value) (ds gs : List (DataW H)) (before : List MemPlace)
    (hval : ∀ (j : Nat) t v, Tryd.f7.params[j]? = some t → args[j]? = some v → Value.okWide Tryd.prog W .any base t v)
    (hW : DataW.Whole enc Tryd.prog Tryd.f7.params.toList Rows.runBehindSpec.vars false W args.toList ds gs before) (hL : laidMetH Tryd.prog Rows.runBehindUptoRow.laid W) (hcd : Rows.uptoSmall H (ds ++ gs) = true) :
    Calls Tryd.prog 7 args W fun e W' => ∃ v, e = .returned v ∧ Rows.runBehindSpec.post enc Tryd.prog Tryd.f7 false true false false W args v W' := by
  have hW' := hW
  obtain ⟨p, q, hA0, hV, rfl, hfz, hnd⟩ := hW
  have hA : DataW.TrodAll enc Tryd.prog W 0 (fun _ => true) true Tryd.f7.params.toList args.toList ds p := hA0
  rw [Tryd.params7] at hA hval
  obtain ⟨v0, vs0, d0, ds0, p0, q0, hargs0, rfl, rfl, t0, r0⟩ := trodAll_cons hA
  obtain ⟨v1, vs1, d1, ds1, p1, q1, hargs1, rfl, rfl, t1, r1⟩ := trodAll_cons r0
  obtain ⟨v2, vs2, d2, ds2, p2, q2, hargs2, rfl, rfl, t2, r2⟩ := trodAll_cons r1
  obtain ⟨rfl, rfl, rfl⟩ := trodAll_nil r2
  obtain rfl : args = #[v0, v1, v2] := by cases args; simp_all
  obtain ⟨f, hF0, hk0, hm0⟩ := open_filt (hval 0 37 v0 rfl rfl) t0
  obtain ⟨l, hF1, hk1, hm1⟩ := open_filt (hval 1 37 v1 rfl rfl) t1
  obtain ⟨d, rfl, hd2⟩ := open_data (hval 2 31 v2 rfl rfl) t2
  refine (walk v0 f v1 l d W hF0 hk0 hm0 hF1 hk1 hm1 hd2 (upto_two hcd (filt_bulk t0 hF0) (filt_bulk t1 hF1)) (otab1_of hL)).mono fun e W' ⟨he, hg⟩ => ?_
  subst he
  exact ⟨_, rfl, law_post (tb := 4) laidOut (fun t ht => by rw [Tryd.params7] at ht; revert t; exact of_decide_eq_true (by kernel_rfl)) (by kernel_rfl) Tryd.underlying4 rfl
    (fun ds h => by rw [Tryd.params7] at h; match ds, h with | [_, _, _], _ => rfl) hW' hg⟩

theorem laid_met (os : Os) : laidMet Tryd.prog Rows.runBehindUptoRow.laid ((laidWorld1 os).forCall (fun _ _ => 0) ⟨#[], #[.slice none 0 0, .slice none 0 0, .agg #[.int .u32 0, .int .u32 0, .int .u64 0, .int .u64 0, .int .u64 0, .int .u64 0, .int .u64 0, .int .u64 0, .int .u64 0]], []⟩).memory :=
  laidMet_of_run' 8 (by kernel_rfl) (by kernel_rfl)
theorem reads (os : Os) {H : Type} (enc : TypeId × Value → H) : ∃ places, DataW.whole enc Tryd.prog ((laidWorld1 os).forCall (fun _ _ => 0) ⟨#[], #[.slice none 0 0, .slice none 0 0, .agg #[.int .u32 0, .int .u32 0, .int .u64 0, .int .u64 0, .int .u64 0, .int .u64 0, .int .u64 0, .int .u64 0, .int .u64 0]], []⟩).memory Tryd.f7.params.toList Rows.runBehindSpec.vars false #[Value.slice none 0 0, Value.slice none 0 0, Value.agg #[.int .u32 0, .int .u32 0, .int .u64 0, .int .u64 0, .int .u64 0, .int .u64 0, .int .u64 0, .int .u64 0, .int .u64 0]].toList 8 = some ([.nil, .nil, .agg [.lit (.int .u32 0), .lit (.int .u32 0), .lit (.int .u64 0), .agg [.lit (.int .u64 0), .lit (.int .u64 0), .lit (.int .u64 0), .lit (.int .u64 0), .lit (.int .u64 0), .lit (.int .u64 0)]]], [], places) :=
  ⟨[], by kernel_rfl⟩

set_option maxRecDepth 100000 in
theorem lifted (os : Os) (started : os.Started) (H : Type) (enc : TypeId × Value → H) (F : Stop.Interp) :
    ReturnsInHanded {} Tryd.checked os 7 .any ((Rows.OpenSpec.upto Rows.runBehindSpec).preRow enc Tryd.prog Tryd.f7 Rows.runBehindUptoRow.domain false Rows.runBehindUptoRow.laid) (((Rows.OpenSpec.upto Rows.runBehindSpec).at F).post enc Tryd.prog Tryd.f7 false true false false) := by
  obtain ⟨places, hx⟩ := reads os enc
  refine returnsInHanded_of_row (C := Tryd.checked) (s := Rows.OpenSpec.upto Rows.runBehindSpec) own started (by kernel_rfl) Tryd.func7
    (witness_row_at (enc := enc) (C := Tryd.checked) false (laidWorld1 os) #[.slice none 0 0, .slice none 0 0, .agg #[.int .u32 0, .int .u32 0, .int .u64 0, .int .u64 0, .int .u64 0, .int .u64 0, .int .u64 0, .int .u64 0, .int .u64 0]] rfl (by kernel_rfl) (by kernel_rfl) (by kernel_rfl)
      (OpenSpec.preRow_of_cond 8 hx (by kernel_rfl) (fun k hk => by cases hk; kernel_rfl) (by kernel_rfl) (laid_met os))) ?_
  intro W base args ds gs before hval hW _ hcd _ hL _ _
  exact contract H enc W base args ds gs before hval hW hL (hcd _ rfl)

theorem said : Rows.RunBehindUptoSaid :=
  OpenClaim.holds_of_cond 7 Tryd.f7 rfl rfl rfl rfl rfl rfl rfl ⟨rfl, rfl, rfl, rfl, rfl⟩ rfl rfl rfl rfl rfl (by kernel_rfl) Tryd.func7 (by kernel_rfl)
    (of_decide_eq_true (by kernel_rfl)) (by unfold Func.isWrapper; first | (rw [if_pos (by decide +kernel)]; kernel_rfl) | (rw [if_neg (by decide +kernel)]; exact ⟨rfl, rfl⟩))
    (fun os started H enc _ F => by rw [OpenClaim.pre_eq_preRow]; exact lifted os started H enc F)

/-- No parameter wants a stand-in; the program's own looks are off. -/
theorem plain (f : FuncId) (fn : Func) (hf : Tryd.pinned.checked.prog.funcNamed "hurdle/hurdlelaw06.RunBehind" = some f) (hfn : Tryd.pinned.checked.prog.funcs[f]? = some fn) :
    false = Tryd.pinned.checked.prog.looks [] ∧ ∀ (j : Nat) t, fn.params[j]? = some t → Tryd.pinned.checked.prog.wantsStandIn t = false := by
  obtain rfl : f = 7 := Option.some.inj ((show Tryd.prog.funcNamed "hurdle/hurdlelaw06.RunBehind" = some 7 by kernel_rfl).symm.trans hf) |>.symm
  obtain rfl : fn = Tryd.f7 := (Option.some.inj (Tryd.func7.symm.trans hfn)).symm
  refine ⟨by kernel_rfl, fun j t ht => ?_⟩
  have hm := Array.mem_of_getElem? ht
  rw [Tryd.params7] at hm
  have all : ∀ t ∈ (#[37, 37, 31] : Array TypeId).toList, Tryd.prog.wantsStandIn t = false := of_decide_eq_true (by kernel_rfl)
  exact all t (Array.mem_toList_iff.2 hm)

/-- The tied card. -/
theorem card : Rows.RunBehindUptoCardSaid :=
  Claim7.holds_tied_plain_at .later [] _ _ _ _ said (fun _ h => by cases h) (by kernel_rfl) (fun _ h => by cases h) runBehindUpto_row_tie rfl ⟨rfl, rfl⟩ (by kernel_rfl) rfl plain (by kernel_rfl)
end Go.Proofs.YtkcjkamfcgdibaaDoor.runBehind
