/-
  For every condition and every record, in every world that has the listed tables as their initialisers lay them: the law CondNot returns true and changes nothing that was there.
-/
import Derived.Test.YtlhpdjafhjfcoaaDoorQFrame
import Derived.Test.YtlhpdjafhjfcoaaDoorQTabs
import Derived.Lib.QuietBelow
namespace Go.Proofs.YtlhpdjafhjfcoaaDoor.condNot
open Go.ChangeShapes Go.WideShapes Go.ChangeAt Go.RowKit

theorem not_args (c : Cd) : c.not.arg = c.arg ∧ c.not.mask = c.mask ∧ c.not.value = c.value := by
  unfold Cd.not
  split <;> exact ⟨rfl, rfl, rfl⟩
theorem not_bad {c : Cd} (h : c.right = false) : c.not = c := by
  unfold Cd.not
  rw [h]
  rfl
set_option maxHeartbeats 8000000 in
theorem walk (c : Cd) (d : Rec) (w : World) (hc : c.ok) (hd : d.ok) (ht : QTab w) :
    Calls Tryd.prog 5 #[c.val, d.val] w fun e w' => e = .returned (.bool true) ∧ Below w.heap.size w w' := by
  obtain ⟨W, hW, hX, hD, hb⟩ := box2 w (cdB c) (.cells d.cells 28)
  have HX := Lib.hid hX
  have HD := Lib.hid hD
  have HB := Lib.hid hb
  have HTab := Lib.hid ht
  have HC := Lib.hid hc
  have HDo := Lib.hid hd
  clear hX hD hb ht hc hd
  go_enter Tryd.func5, Tryd.ntmps5
  go_upto_region 1 with fail
  rw [← hW]
  clear hW
  obtain ⟨c0, c1, c2, c3⟩ := cdX HX.out
  go_wp2_with fail
  refine (qnot_any c _ (HTab.out.below HB.out)).mono ?_
  rintro e w1 ⟨rfl, hb1⟩
  obtain ⟨n, hn⟩ : ∃ n, n = c.not := ⟨_, rfl⟩
  rw [← hn]
  have HN := Lib.hid hn
  have HX1 := Lib.hid (ka (cdB n) (kb hb1 HX.out))
  have HD1 := Lib.hid (ka (cdB n) (kb hb1 HD.out))
  have HN1 := Lib.hid (heap_alloc_new w1 (cdB n))
  have HB1 := Lib.hid (ba (cdB n) (HB.out.trans (hb1.mono HB.out.size)))
  obtain ⟨W1, hW1⟩ : ∃ W1, W1 = w1.alloc (cdB n) := ⟨_, rfl⟩
  rw [← hW1] at HX1 HD1 HN1 HB1
  clear hb1 hn c0 c1 c2 c3 HX HD HB
  go_upto_region 2 with fail
  change Code.wp _ _ _ _ (w1.alloc (cdB n))
  rw [← hW1]
  clear hW1
  obtain ⟨c0, c1, c2, c3⟩ := cdX HX1.out
  go_wp2_with fail
  refine (rright8_any c _).mono ?_
  rintro e w2 ⟨rfl, hb2⟩
  have HX2 := Lib.hid (kb hb2 HX1.out)
  have HD2 := Lib.hid (kb hb2 HD1.out)
  have HN2 := Lib.hid (kb hb2 HN1.out)
  have HB2 := Lib.hid (HB1.out.trans (hb2.mono HB1.out.size))
  clear hb2 c0 c1 c2 c3 HX1 HD1 HN1 HB1
  cases hr : c.right
  · have hnc : n = c := HN.out.trans (not_bad hr)
    subst hnc
    have HBAD := Lib.hid (holds_bad hr d)
    clear hr
    obtain ⟨c0, c1, c2, c3⟩ := cdX HX2.out
    obtain ⟨d0, d1, d2, d3⟩ := cdX HN2.out
    obtain ⟨x0, x1, x2, x3, x4, x5, x6, x7, x8⟩ := rec_cells HD2.out
    have e0 : (n.arg == n.arg) = true := by simp
    have e1 : (n.cmp == n.cmp) = true := by simp
    have e2 : ((n.mask : Int) == (n.mask : Int)) = true := by simp
    have e3 : ((n.value : Int) == (n.value : Int)) = true := by simp
    go_wp2_with fail
    refine (qholds_any n d _ HC.out HDo.out (HTab.out.below HB2.out)).mono ?_
    rintro e w3 ⟨rfl, hb3⟩
    rw [HBAD.out]
    have HB3 := Lib.hid (HB2.out.trans (hb3.mono HB2.out.size))
    clear hb3 c0 c1 c2 c3 d0 d1 d2 d3 x0 x1 x2 x3 x4 x5 x6 x7 x8
    go_wp2_with fail
    refine (qknow_end HB3.out HTab.out).mono ?_
    rintro e wb ⟨rfl, hbb⟩
    have HBB := Lib.hid hbb
    clear hbb
    go_wp2_with fail
    go_ret
    exact ⟨rfl, HBB.out⟩
  · obtain ⟨n0, n2, n3⟩ := not_args c
    have hnok : n.ok := by
      have h := HC.out
      rw [HN.out]
      exact ⟨by rw [n2]; exact h.1, by rw [n3]; exact h.2⟩
    have hnh : n.holds d = !c.holds d := by rw [HN.out]; exact holds_not hr d
    have hnn : n.not = c := by rw [HN.out]; exact not_not
    have hna : n.arg = c.arg := by rw [HN.out]; exact n0
    have hnm : n.mask = c.mask := by rw [HN.out]; exact n2
    have hnv : n.value = c.value := by rw [HN.out]; exact n3
    obtain ⟨c0, c1, c2, c3⟩ := cdX HX2.out
    obtain ⟨d0, d1, d2, d3⟩ := cdX HN2.out
    obtain ⟨x0, x1, x2, x3, x4, x5, x6, x7, x8⟩ := rec_cells HD2.out
    rw [hna] at d0
    rw [hnm] at d2
    rw [hnv] at d3
    have y0 := cell_regrown c0
    have y1 := cell_regrown c1
    have y2 := cell_regrown c2
    have y3 := cell_regrown c3
    have u0 := cell_regrown d0
    have u1 := cell_regrown d1
    have u2 := cell_regrown d2
    have u3 := cell_regrown d3
    have z0 := cell_regrown x0
    have z1 := cell_regrown x1
    have z2 := cell_regrown x2
    have z3 := cell_regrown x3
    have z4 := cell_regrown x4
    have z5 := cell_regrown x5
    have z6 := cell_regrown x6
    have z7 := cell_regrown x7
    have z8 := cell_regrown x8
    have HTT : Hid (∀ d' os, QTab (Sort.grow (redrawn w2 d') os)) := Lib.hid (fun d' os => HTab.out.below (HB2.out.trans ((below_regrown w2 d' os).mono HB2.out.size)))
    have hnval : n.val = .agg #[.int .i64 c.arg, .int .i64 n.cmp, .int .u64 (c.mask : Nat), .int .u64 (c.value : Nat)] := by
      show Value.agg #[.int .i64 n.arg, .int .i64 n.cmp, .int .u64 (n.mask : Nat), .int .u64 (n.value : Nat)] = _
      rw [hna, hnm, hnv]
    have cA : ∀ d' os, Calls Tryd.prog 11 #[.agg #[.int .i64 c.arg, .int .i64 n.cmp, .int .u64 (c.mask : Nat), .int .u64 (c.value : Nat)], d.val] (Sort.grow (redrawn w2 d') os) fun e w'' => e = .returned (.bool (!c.holds d)) ∧ ∃ p : Regrown, w'' = Sort.grow (redrawn w2 p.d) p.os := fun d' os => Calls.regrown_of (by rw [← hnval, ← hnh]; exact qholds_any n d _ hnok HDo.out (HTT.out d' os))
    have cB : ∀ d' os, Calls Tryd.prog 11 #[c.val, d.val] (Sort.grow (redrawn w2 d') os) fun e w'' => e = .returned (.bool (c.holds d)) ∧ ∃ p : Regrown, w'' = Sort.grow (redrawn w2 p.d) p.os := fun d' os => Calls.regrown_of (qholds_any c d _ HC.out HDo.out (HTT.out d' os))
    have cN : ∀ d' os, Calls Tryd.prog 18 #[.agg #[.int .i64 c.arg, .int .i64 n.cmp, .int .u64 (c.mask : Nat), .int .u64 (c.value : Nat)]] (Sort.grow (redrawn w2 d') os) fun e w'' => e = .returned c.val ∧ ∃ p : Regrown, w'' = Sort.grow (redrawn w2 p.d) p.os := fun d' os => Calls.regrown_of (by rw [← hnval, ← hnn]; exact qnot_any n _ (HTT.out d' os))
    have cK : ∀ d' os, Calls Tryd.prog 13 #[] (Sort.grow (redrawn w2 d') os) fun e w'' => e = .returned (.bool true) ∧ ∃ p : Regrown, w'' = Sort.grow (redrawn w2 p.d) p.os := fun d' os => Calls.regrown_of (qknows_any _ (HTT.out d' os))
    have e0 : (c.arg == c.arg) = true := by simp
    have e1 : (c.cmp == c.cmp) = true := by simp
    have e2 : ((c.mask : Int) == (c.mask : Int)) = true := by simp
    have e3 : ((c.value : Int) == (c.value : Int)) = true := by simp
    have e4 : (!(!c.holds d == c.holds d)) = true := by cases c.holds d <;> rfl
    generalize c.holds d = b at *
    clear hr n0 n2 n3 hnok hnh hnn hna hnm hnv hnval c0 c1 c2 c3 d0 d1 d2 d3 x0 x1 x2 x3 x4 x5 x6 x7 x8
    go_wp2_with fail
    refine wp_region_quiet_below (by kernel_rfl) (by kernel_rfl) ?_
    repeat (quiet_step (first | with_reducible exact cA _ _ | with_reducible exact cB _ _ | with_reducible exact cN _ _ | with_reducible exact cK _ _))
    refine wpQuiet_nil ?_
    intro _ hw'
    obtain ⟨⟨dq, osq⟩, hw''⟩ := hw'
    subst hw''
    have HBq := Lib.hid (HB2.out.trans ((below_regrown w2 dq osq).mono HB2.out.size))
    clear y0 y1 y2 y3 u0 u1 u2 u3 z0 z1 z2 z3 z4 z5 z6 z7 z8 cA cB cN cK
    generalize Sort.grow (redrawn w2 dq) osq = Wq at *
    go_wp2_with fail
    go_ret
    exact ⟨rfl, HBq.out⟩

set_option maxRecDepth 100000 in
/-- The row's contract, for every argument and every world. -/
theorem contract (H : Type) (enc : TypeId × Value → H) (W : World) (base : Nat) (args : Array Value) (ds gs : List (DataW H)) (before : List MemPlace)
    (hval : ∀ (j : Nat) t v, Tryd.f5.params[j]? = some t → args[j]? = some v → Value.okWide Tryd.prog W .any base t v)
    (hW : DataW.Whole enc Tryd.prog Tryd.f5.params.toList Rows.condNotSpec.vars false W args.toList ds gs before) (hL : laidMetH Tryd.prog Rows.condNotRow.laid W) :
    Calls Tryd.prog 5 args W fun e W' => ∃ v, e = .returned v ∧ Rows.condNotSpec.post enc Tryd.prog Tryd.f5 false true false false W args v W' := by
  have hW' := hW
  obtain ⟨p, q, hA0, hV, rfl, hfz, hnd⟩ := hW
  have hA : DataW.TrodAll enc Tryd.prog W 0 (fun _ => true) true Tryd.f5.params.toList args.toList ds p := hA0
  rw [Tryd.params5] at hA hval
  obtain ⟨v0, vs0, d0, ds0, p0, q0, hargs0, rfl, rfl, t0, r0⟩ := trodAll_cons hA
  obtain ⟨v1, vs1, d1, ds1, p1, q1, hargs1, rfl, rfl, t1, r1⟩ := trodAll_cons r0
  obtain ⟨rfl, rfl, rfl⟩ := trodAll_nil r1
  obtain rfl : args = #[v0, v1] := by cases args; simp_all
  obtain ⟨c, rfl, hd0⟩ := open_cond (hval 0 24 v0 rfl rfl) t0
  obtain ⟨d, rfl, hd1⟩ := open_data (hval 1 28 v1 rfl rfl) t1
  refine (walk c d W hd0 hd1 (qtab_of hL)).mono fun e W' ⟨he, hg⟩ => ?_
  subst he
  exact ⟨_, rfl, law_post (tb := 4) laidOut (fun t ht => by rw [Tryd.params5] at ht; revert t; exact of_decide_eq_true (by kernel_rfl)) (by kernel_rfl) Tryd.underlying4 rfl
    (fun ds h => by rw [Tryd.params5] at h; match ds, h with | [_, _], _ => rfl) hW' hg⟩

theorem laid_met (os : Os) : laidMet Tryd.prog Rows.condNotRow.laid ((laidWorldQ os).forCall (fun _ _ => 0) ⟨#[], #[.agg #[.int .i64 0, .int .i64 0, .int .u64 0, .int .u64 0], .agg #[.int .u32 0, .int .u32 0, .int .u64 0, .int .u64 0, .int .u64 0, .int .u64 0, .int .u64 0, .int .u64 0, .int .u64 0]], []⟩).memory :=
  laidMet_of_run' 8 (by kernel_rfl) (by kernel_rfl)
theorem reads (os : Os) {H : Type} (enc : TypeId × Value → H) : ∃ places, DataW.whole enc Tryd.prog ((laidWorldQ os).forCall (fun _ _ => 0) ⟨#[], #[.agg #[.int .i64 0, .int .i64 0, .int .u64 0, .int .u64 0], .agg #[.int .u32 0, .int .u32 0, .int .u64 0, .int .u64 0, .int .u64 0, .int .u64 0, .int .u64 0, .int .u64 0, .int .u64 0]], []⟩).memory Tryd.f5.params.toList Rows.condNotSpec.vars false #[Value.agg #[.int .i64 0, .int .i64 0, .int .u64 0, .int .u64 0], Value.agg #[.int .u32 0, .int .u32 0, .int .u64 0, .int .u64 0, .int .u64 0, .int .u64 0, .int .u64 0, .int .u64 0, .int .u64 0]].toList 8 = some ([.agg [.lit (.int .i64 0), .lit (.int .i64 0), .lit (.int .u64 0), .lit (.int .u64 0)], .agg [.lit (.int .u32 0), .lit (.int .u32 0), .lit (.int .u64 0), .agg [.lit (.int .u64 0), .lit (.int .u64 0), .lit (.int .u64 0), .lit (.int .u64 0), .lit (.int .u64 0), .lit (.int .u64 0)]]], [], places) :=
  ⟨[], by kernel_rfl⟩

set_option maxRecDepth 100000 in
theorem lifted (os : Os) (started : os.Started) (H : Type) (enc : TypeId × Value → H) (F : Stop.Interp) :
    ReturnsInHanded {} Tryd.checked os 5 .any ((OpenSpec.ofChange Rows.condNotSpec).preRow enc Tryd.prog Tryd.f5 Rows.condNotRow.domain false Rows.condNotRow.laid) (((OpenSpec.ofChange Rows.condNotSpec).at F).post enc Tryd.prog Tryd.f5 false true false false) := by
  obtain ⟨places, hx⟩ := reads os enc
  refine returnsInHanded_of_row (C := Tryd.checked) (s := OpenSpec.ofChange Rows.condNotSpec) own started (by kernel_rfl) Tryd.func5
    (witness_row_at (enc := enc) (C := Tryd.checked) false (laidWorldQ os) #[.agg #[.int .i64 0, .int .i64 0, .int .u64 0, .int .u64 0], .agg #[.int .u32 0, .int .u32 0, .int .u64 0, .int .u64 0, .int .u64 0, .int .u64 0, .int .u64 0, .int .u64 0, .int .u64 0]] rfl (by kernel_rfl) (by kernel_rfl) (by kernel_rfl)
      (OpenSpec.preRow_of_cond 8 hx (by kernel_rfl) (fun k hk => by cases hk) (by kernel_rfl) (laid_met os))) ?_
  intro W base args ds gs before hval hW _ _ _ hL _ _
  exact contract H enc W base args ds gs before hval hW hL

theorem said : Rows.CondNotSaid :=
  OpenClaim.holds_of_cond 5 Tryd.f5 rfl rfl rfl rfl rfl rfl rfl ⟨rfl, rfl, rfl, rfl, rfl⟩ rfl rfl rfl rfl rfl (by kernel_rfl) Tryd.func5 (by kernel_rfl)
    (of_decide_eq_true (by kernel_rfl)) (by unfold Func.isWrapper; first | (rw [if_pos (by decide +kernel)]; kernel_rfl) | (rw [if_neg (by decide +kernel)]; exact ⟨rfl, rfl⟩))
    (fun os started H enc _ F => by rw [OpenClaim.pre_eq_preRow]; exact lifted os started H enc F)

/-- No parameter wants a stand-in; the program's own looks are off. -/
theorem plain (f : FuncId) (fn : Func) (hf : Tryd.pinned.checked.prog.funcNamed "hurdle/hurdlelaw08.CondNot" = some f) (hfn : Tryd.pinned.checked.prog.funcs[f]? = some fn) :
    false = Tryd.pinned.checked.prog.looks [] ∧ ∀ (j : Nat) t, fn.params[j]? = some t → Tryd.pinned.checked.prog.wantsStandIn t = false := by
  obtain rfl : f = 5 := Option.some.inj ((show Tryd.prog.funcNamed "hurdle/hurdlelaw08.CondNot" = some 5 by kernel_rfl).symm.trans hf) |>.symm
  obtain rfl : fn = Tryd.f5 := (Option.some.inj (Tryd.func5.symm.trans hfn)).symm
  refine ⟨by kernel_rfl, fun j t ht => ?_⟩
  have hm := Array.mem_of_getElem? ht
  rw [Tryd.params5] at hm
  have all : ∀ t ∈ (#[24, 28] : Array TypeId).toList, Tryd.prog.wantsStandIn t = false := of_decide_eq_true (by kernel_rfl)
  exact all t (Array.mem_toList_iff.2 hm)

/-- The tied card. -/
theorem card : Rows.CondNotCardSaid :=
  Claim7.holds_tied_plain_at .later [] _ _ _ _ said (fun _ h => by cases h) (by kernel_rfl) (fun _ h => by cases h) condNot_row_tie rfl ⟨rfl, rfl⟩ (by kernel_rfl) rfl plain (by kernel_rfl)
end Go.Proofs.YtlhpdjafhjfcoaaDoor.condNot
