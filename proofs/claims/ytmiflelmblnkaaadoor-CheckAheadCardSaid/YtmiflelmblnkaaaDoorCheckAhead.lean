/-
  For every filter and every instruction, in every world that has the table of package ins as its initialiser lays it: the law CheckAhead returns true and changes nothing that was there.
-/
import Derived.Test.YtmiflelmblnkaaaDoorKFrame
import Derived.Test.YtmiflelmblnkaaaDoorApp
namespace Go.Proofs.YtmiflelmblnkaaaDoor.checkAhead
open Go.ChangeShapes Go.WideShapes Go.ChangeAt Go.RowKit

theorem check_ahead {l : List X4} (x : X4) (h : soundB l = true) (hl : l.length ≤ 500) : CheckIs (x :: l) 0 (oneE x l.length) := by
  obtain ⟨h0, h1, hg, he⟩ := soundB_iff.1 h
  have hb : badAt (x :: l) 0 = oneE x l.length := by
    unfold badAt
    rw [List.getD_cons_zero, List.length_cons]
    congr 1
    omega
  by_cases hz : oneE x l.length = 0
  · rw [hz]
    refine .inr (.inr (.inr (.inr ⟨by simp, by simp; omega, ?_, ?_, rfl, rfl⟩)))
    · intro i hi
      match i with
      | 0 => rw [hb, hz]
      | i + 1 =>
        have h2 := hg i (by simpa using hi)
        unfold badAt at h2 ⊢
        rw [List.getD_cons_succ, List.length_cons, show (((l.length + 1 : Nat) : Int) - 1 - ((i + 1 : Nat) : Int)) = (l.length : Int) - 1 - (i : Int) by omega]
        exact h2
    · unfold lastX at he ⊢
      rw [List.length_cons, Nat.add_sub_cancel, show l.length = (l.length - 1) + 1 by omega, List.getD_cons_succ]
      exact he
  · exact .inr (.inr (.inl ⟨by simp, by simp; omega, 0, by simp, fun i hi => by omega, by rw [hb]; exact hz, rfl, hb.symm⟩))
theorem own_lit (w : World) (a b c d : Int) : (w.alloc (insB a b c d)).ownsRow w.heap.size 36 4 (.slice (some ⟨w.heap.size, 0, none⟩) 1 1) 1 (X4.mk a b c d).cells :=
  ⟨by simp, .inr ⟨w.heap.size, 1, _, rfl, Nat.le_refl _, heap_alloc_new w _, Nat.le_refl _, by unfold maxLen; omega, by simp, by simp⟩⟩
theorem ok_cons {x : X4} {f : List X4} (hx : x.ok) (h : ∀ y ∈ f, y.ok) : ∀ y ∈ x :: f, y.ok := fun y hy => by
  rcases List.mem_cons.1 hy with rfl | hy
  · exact hx
  · exact h y hy

set_option maxRecDepth 100000 in
set_option maxHeartbeats 8000000 in
theorem walk (v : Value) (f : List X4) (xo xt xf xk : Int) (w : World) (hF : FAt w v f) (hk : ∀ x ∈ f, x.ok) (_hm : f.length ≤ 9223372036854775807) (hk0 : 0 ≤ xk) (hk1 : xk ≤ 4294967295) (ht : OTab w) :
    Calls Tryd.prog 8 #[v, insV xo xt xf xk] w fun e w' => e = .returned (.bool true) ∧ Below w.heap.size w w' := by
  obtain ⟨ao, cap, rfl⟩ := hF.shape
  have HB0 := Lib.hid (ba (insB xo xt xf xk) (Below.refl w.heap.size w))
  have HX0 : Hid ((w.alloc (insB xo xt xf xk)).heap[w.heap.size]? = some (insB xo xt xf xk)) := Lib.hid (heap_alloc_new _ _)
  have HF := Lib.hid (hF.below HB0.out)
  have HK := Lib.hid hk
  have HT := Lib.hid (ht.below HB0.out)
  clear hF hk
  by_cases hbig : 500 < f.length
  · go_enter Tryd.func8, Tryd.ntmps8
    go_wp2_with fail
    refine (kknow_end HB0.out ht).mono ?_
    rintro e w1 ⟨rfl, hb1⟩
    have HB1 := Lib.hid hb1
    clear hb1
    go_wp2_with fail
    go_ret
    exact ⟨rfl, HB1.out⟩
  obtain ⟨i0, hi, hz0, hz1, hz2⟩ := info_parts infoX
  go_enter Tryd.func8, Tryd.ntmps8
  go_wp2_with fail
  refine (rsound5_any _ f _ HF.out HK.out).mono ?_
  rintro e w1 ⟨rfl, hb1⟩
  have HB1 := Lib.hid (below2 HB0.out hb1)
  have hX1 := (hb1.block _ (lt_of_block HX0.out)).trans HX0.out
  have hsz := lt_of_block hX1
  have HX1 := Lib.hid hX1
  have HF1 := Lib.hid (HF.out.below hb1)
  cases hs : soundB f
  · clear hb1 hX1 hs
    go_wp2_with fail
    refine (kknow_end HB1.out ht).mono ?_
    rintro e w2 ⟨rfl, hb2⟩
    have HB2 := Lib.hid hb2
    clear hb2
    go_wp2_with fail
    go_ret
    exact ⟨rfl, HB2.out⟩
  · have HCK := Lib.hid (check_ahead ⟨xo, xt, xf, xk⟩ hs (by omega))
    have c0 : w1.cell? ⟨w.heap.size, 0, none⟩ = some (.int .i64 xo) := cell_in hX1 0
    have c1 : w1.cell? ⟨w.heap.size, 1, none⟩ = some (.int .i64 xt) := cell_in hX1 1
    have c2 : w1.cell? ⟨w.heap.size, 2, none⟩ = some (.int .i64 xf) := cell_in hX1 2
    have c3 : w1.cell? ⟨w.heap.size, 3, none⟩ = some (.int .u32 xk) := cell_in hX1 3
    have HBA := Lib.hid (ba (insB xo xt xf xk) (Below.refl w1.heap.size w1))
    have hsA := HBA.out.size
    have HOne := Lib.hid (own_lit w1 xo xt xf xk)
    clear hb1 hX1 hs
    go_wp2_with (at_builtin; refine wpList_append_src _ rfl _ _ 22 rfl w1.heap.size 36 i0 (.agg #[.int .i64 0, .int .i64 0, .int .i64 0, .int .u32 0]) 4 32 Tryd.underlying22 hi hz0 hz1 hz2 rfl (by decide) _ 1 (X4.mk xo xt xf xk).cells rfl HOne.out _ f.length (fcells f) rfl (HF1.out.below HBA.out).src (fcells_one' f) (by unfold maxLen; omega) (by omega) hsA ?_)
    intro va wa hown hgrow
    have HBa := Lib.hid (grown_below HBA.out HOne.out hgrow hsA)
    have HJ : Hid (FAt wa va (⟨xo, xt, xf, xk⟩ :: f)) := Lib.hid (FAt.own (l := ⟨xo, xt, xf, xk⟩ :: f) (by simpa [fcells] using hown) (by rw [List.length_cons]; omega))
    have HBb := Lib.hid (below2 HB1.out HBa.out)
    have HXa := Lib.hid ((HBa.out.block _ hsz).trans HX1.out)
    clear hown hgrow HOne HBA c0 c1 c2 c3
    go_wp2_with fail
    refine (check_any _ _ _ HJ.out (ok_cons ⟨hk0, hk1⟩ HK.out) (ht.below HBb.out)).mono ?_
    rintro e w4 ⟨p4, e4, hc4, rfl, hb4⟩
    obtain ⟨rfl, rfl⟩ := check_one hc4 HCK.out
    have HB4 := Lib.hid (below2 HBb.out hb4)
    have hX4 := (hb4.block _ (lt_of_block HXa.out)).trans HXa.out
    have hsz4 := lt_of_block hX4
    have d0 : w4.cell? ⟨w.heap.size, 0, none⟩ = some (.int .i64 xo) := cell_in hX4 0
    have d1 : w4.cell? ⟨w.heap.size, 1, none⟩ = some (.int .i64 xt) := cell_in hX4 1
    have d2 : w4.cell? ⟨w.heap.size, 2, none⟩ = some (.int .i64 xf) := cell_in hX4 2
    have d3 : w4.cell? ⟨w.heap.size, 3, none⟩ = some (.int .u32 xk) := cell_in hX4 3
    clear hc4 hb4 hX4
    go_wp2_with fail
    refine (rone_any ⟨xo, xt, xf, xk⟩ ⟨hk0, hk1⟩ 0 ((f.length : Int) + 1) (by omega) (by omega) (by omega) _).mono ?_
    rintro e w5 ⟨rfl, hb5⟩
    rw [show (f.length : Int) + 1 - 1 - 0 = f.length by omega]
    have HB5 := Lib.hid (below2 HB4.out hb5)
    clear hb5 d0 d1 d2 d3
    generalize oneE ⟨xo, xt, xf, xk⟩ (f.length : Int) = ev
    have hq : (ev == ev) = true := by simp
    go_wp2_with fail
    refine (kknow_end HB5.out ht).mono ?_
    rintro e w6 ⟨rfl, hb6⟩
    have HB6 := Lib.hid hb6
    clear hb6
    go_wp2_with fail
    go_ret
    exact ⟨rfl, HB6.out⟩

set_option maxRecDepth 100000 in
/-- The row's contract, for every argument and every world. -/
theorem contract (H : Type) (enc : TypeId × Value → H) (W : World) (base : Nat) (args : Array Value) (ds gs : List (DataW H)) (before : List MemPlace)
    (hval : ∀ (j : Nat) t v, Tryd.f8.params[j]? = some t → args[j]? = some v → Value.okWide Tryd.prog W .any base t v)
    (hW : DataW.Whole enc Tryd.prog Tryd.f8.params.toList Rows.checkAheadSpec.vars false W args.toList ds gs before) (hL : laidMetH Tryd.prog Rows.checkAheadRow.laid W) :
    Calls Tryd.prog 8 args W fun e W' => ∃ v, e = .returned v ∧ Rows.checkAheadSpec.post enc Tryd.prog Tryd.f8 false true false false W args v W' := by
  have hW' := hW
  obtain ⟨p, q, hA0, hV, rfl, hfz, hnd⟩ := hW
  have hA : DataW.TrodAll enc Tryd.prog W 0 (fun _ => true) true Tryd.f8.params.toList args.toList ds p := hA0
  rw [Tryd.params8] at hA hval
  obtain ⟨v0, vs0, d0, ds0, p0, q0, hargs0, rfl, rfl, t0, r0⟩ := trodAll_cons hA
  obtain ⟨v1, vs1, d1, ds1, p1, q1, hargs1, rfl, rfl, t1, r1⟩ := trodAll_cons r0
  obtain ⟨rfl, rfl, rfl⟩ := trodAll_nil r1
  obtain rfl : args = #[v0, v1] := by cases args; simp_all
  obtain ⟨f, hF0, hk0, hm0⟩ := open_filt (hval 0 22 v0 rfl rfl) t0
  obtain ⟨a1, b1, c1, e1, y1, z1, u1, w1, n1, rfl, rfl, hp1, ha1, hb1, hc1, he1⟩ := Joins.open_agg4 Tryd.underlying36 (by kernel_rfl) (by kernel_rfl) (hval 1 36 v1 rfl rfl) t1
  obtain ⟨xo, qha1, gha1, wfha1⟩ := DataW.trod_int Tryd.underlying3 ha1
  obtain rfl := (List.cons.inj qha1).1
  obtain ⟨xt, qhb1, ghb1, wfhb1⟩ := DataW.trod_int Tryd.underlying3 hb1
  obtain rfl := (List.cons.inj qhb1).1
  obtain ⟨xf, qhc1, ghc1, wfhc1⟩ := DataW.trod_int Tryd.underlying3 hc1
  obtain rfl := (List.cons.inj qhc1).1
  obtain ⟨xk, qhe1, ghe1, wfhe1⟩ := DataW.trod_int Tryd.underlying34 he1
  obtain rfl := (List.cons.inj qhe1).1
  have bd1 := bounds_u32 wfhe1
  refine (walk v0 f xo xt xf xk W hF0 hk0 hm0 bd1.1 bd1.2 (otab1_of hL)).mono fun e W' ⟨he, hg⟩ => ?_
  subst he
  exact ⟨_, rfl, law_post (tb := 4) laidOut (fun t ht => by rw [Tryd.params8] at ht; revert t; exact of_decide_eq_true (by kernel_rfl)) (by kernel_rfl) Tryd.underlying4 rfl
    (fun ds h => by rw [Tryd.params8] at h; match ds, h with | [_, _], _ => rfl) hW' hg⟩

theorem laid_met (os : Os) : laidMet Tryd.prog Rows.checkAheadRow.laid ((laidWorld os).forCall (fun _ _ => 0) ⟨#[], #[.slice none 0 0, .agg #[.int .i64 0, .int .i64 0, .int .i64 0, .int .u32 0]], []⟩).memory :=
  laidMet_of_run' 8 (by kernel_rfl) (by kernel_rfl)
theorem reads (os : Os) {H : Type} (enc : TypeId × Value → H) : ∃ places, DataW.whole enc Tryd.prog ((laidWorld os).forCall (fun _ _ => 0) ⟨#[], #[.slice none 0 0, .agg #[.int .i64 0, .int .i64 0, .int .i64 0, .int .u32 0]], []⟩).memory Tryd.f8.params.toList Rows.checkAheadSpec.vars false #[Value.slice none 0 0, Value.agg #[.int .i64 0, .int .i64 0, .int .i64 0, .int .u32 0]].toList 8 = some ([.nil, .agg [.lit (.int .i64 0), .lit (.int .i64 0), .lit (.int .i64 0), .lit (.int .u32 0)]], [], places) :=
  ⟨[], by kernel_rfl⟩

set_option maxRecDepth 100000 in
theorem lifted (os : Os) (started : os.Started) (H : Type) (enc : TypeId × Value → H) (F : Stop.Interp) :
    ReturnsInHanded {} Tryd.checked os 8 .any ((OpenSpec.ofChange Rows.checkAheadSpec).preRow enc Tryd.prog Tryd.f8 Rows.checkAheadRow.domain false Rows.checkAheadRow.laid) (((OpenSpec.ofChange Rows.checkAheadSpec).at F).post enc Tryd.prog Tryd.f8 false true false false) := by
  obtain ⟨places, hx⟩ := reads os enc
  refine returnsInHanded_of_row (C := Tryd.checked) (s := OpenSpec.ofChange Rows.checkAheadSpec) own started (by kernel_rfl) Tryd.func8
    (witness_row_at (enc := enc) (C := Tryd.checked) false (laidWorld os) #[.slice none 0 0, .agg #[.int .i64 0, .int .i64 0, .int .i64 0, .int .u32 0]] rfl (by kernel_rfl) (by kernel_rfl) (by kernel_rfl)
      (OpenSpec.preRow_of_cond 8 hx (by kernel_rfl) (fun k hk => by cases hk) (by kernel_rfl) (laid_met os))) ?_
  intro W base args ds gs before hval hW _ _ _ hL _ _
  exact contract H enc W base args ds gs before hval hW hL

theorem said : Rows.CheckAheadSaid :=
  OpenClaim.holds_of_cond 8 Tryd.f8 rfl rfl rfl rfl rfl rfl rfl ⟨rfl, rfl, rfl, rfl, rfl⟩ rfl rfl rfl rfl rfl (by kernel_rfl) Tryd.func8 (by kernel_rfl)
    (of_decide_eq_true (by kernel_rfl)) (by unfold Func.isWrapper; first | (rw [if_pos (by decide +kernel)]; kernel_rfl) | (rw [if_neg (by decide +kernel)]; exact ⟨rfl, rfl⟩))
    (fun os started H enc _ F => by rw [OpenClaim.pre_eq_preRow]; exact lifted os started H enc F)

/-- No parameter wants a stand-in; the program's own looks are off. -/
theorem plain (f : FuncId) (fn : Func) (hf : Tryd.pinned.checked.prog.funcNamed "hurdle/hurdlelaw05.CheckAhead" = some f) (hfn : Tryd.pinned.checked.prog.funcs[f]? = some fn) :
    false = Tryd.pinned.checked.prog.looks [] ∧ ∀ (j : Nat) t, fn.params[j]? = some t → Tryd.pinned.checked.prog.wantsStandIn t = false := by
  obtain rfl : f = 8 := Option.some.inj ((show Tryd.prog.funcNamed "hurdle/hurdlelaw05.CheckAhead" = some 8 by kernel_rfl).symm.trans hf) |>.symm
  obtain rfl : fn = Tryd.f8 := (Option.some.inj (Tryd.func8.symm.trans hfn)).symm
  refine ⟨by kernel_rfl, fun j t ht => ?_⟩
  have hm := Array.mem_of_getElem? ht
  rw [Tryd.params8] at hm
  have all : ∀ t ∈ (#[22, 36] : Array TypeId).toList, Tryd.prog.wantsStandIn t = false := of_decide_eq_true (by kernel_rfl)
  exact all t (Array.mem_toList_iff.2 hm)

/-- The tied card. -/
theorem card : Rows.CheckAheadCardSaid :=
  Claim7.holds_tied_plain_at .later [] _ _ _ _ said (fun _ h => by cases h) (by kernel_rfl) (fun _ h => by cases h) checkAhead_row_tie rfl ⟨rfl, rfl⟩ (by kernel_rfl) rfl plain (by kernel_rfl)
end Go.Proofs.YtmiflelmblnkaaaDoor.checkAhead
