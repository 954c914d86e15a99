/-
  For every instruction, in every world that has the tables of math/bits, of strconv and of package ins as their initialisers lay them: the law InsPrints returns true and changes nothing that was there.
-/
import Derived.Test.YtjniifgacidojaaDoorIFrame
import Derived.Test.YtjniifgacidojaaDoorRPrint
namespace Go.Proofs.YtjniifgacidojaaDoor.insPrints
open Go.ChangeShapes Go.WideShapes Go.ChangeAt Go.RowKit

set_option maxHeartbeats 1000000 in
theorem walk (xo xt xf xk : Int) (w : World) (hx0 : 0 ≤ xk) (hx1 : xk ≤ 4294967295) (hT : Tab w) (ht : OTab w) :
    Calls Tryd.prog 3 #[insV xo xt xf xk] w fun e w' => e = .returned (.bool true) ∧ Below w.heap.size w w' := by
  have HB0 := Lib.hid (ba (insB xo xt xf xk) (Below.refl w.heap.size w))
  have HX0 : Hid ((w.alloc (insB xo xt xf xk)).heap[w.heap.size]? = some (insB xo xt xf xk)) := Lib.hid (heap_alloc_new _ _)
  go_enter Tryd.func3, Tryd.ntmps3
  go_wp2_with fail
  refine (print_any _ _ _ _ _ (ht.below HB0.out) (hT.below HB0.out) hx0 hx1).mono ?_
  rintro e w1 ⟨he, hb1⟩
  have hX1 := (hb1.block _ (lt_of_block HX0.out)).trans HX0.out
  have HB1 := Lib.hid (HB0.out.trans (hb1.mono HB0.out.size))
  have c0 : w1.cell? ⟨w.heap.size, 0, none⟩ = some (.int .i64 xo) := cell_in hX1 0
  have c1 : w1.cell? ⟨w.heap.size, 1, none⟩ = some (.int .i64 xt) := cell_in hX1 1
  have c2 : w1.cell? ⟨w.heap.size, 2, none⟩ = some (.int .i64 xf) := cell_in hX1 2
  have c3 : w1.cell? ⟨w.heap.size, 3, none⟩ = some (.int .u32 xk) := cell_in hX1 3
  have HX1 := Lib.hid hX1
  clear hb1 hX1 HX0 HB0
  rcases he with ⟨r, a, b, c, hr, hf, rfl, rfl, rfl, rfl, rfl⟩ | ⟨hbad, rfl⟩
  · have hright := right_of hr hf
    have HR := Lib.hid hr
    have HF := Lib.hid hf
    clear hr hf
    go_wp2_with fail
    refine (refRight_any _ _ _ _ _).mono ?_
    rintro e w2 ⟨rfl, hb2⟩
    have hX2 := (hb2.block _ (lt_of_block HX1.out)).trans HX1.out
    have HB2 := Lib.hid (HB1.out.trans (hb2.mono HB1.out.size))
    clear c0 c1 c2 c3
    have c0 : w2.cell? ⟨w.heap.size, 0, none⟩ = some (.int .i64 r.op) := cell_in hX2 0
    have c1 : w2.cell? ⟨w.heap.size, 1, none⟩ = some (.int .i64 a) := cell_in hX2 1
    have c2 : w2.cell? ⟨w.heap.size, 2, none⟩ = some (.int .i64 b) := cell_in hX2 2
    have c3 : w2.cell? ⟨w.heap.size, 3, none⟩ = some (.int .u32 c) := cell_in hX2 3
    have HX2 := Lib.hid hX2
    clear hb2 hX2 HX1 HB1
    go_wp2_with fail
    refine (right_any _ _ _ _ _ (ht.below HB2.out)).mono ?_
    rintro e w3 ⟨rfl, hb3⟩
    have hX3 := (hb3.block _ (lt_of_block HX2.out)).trans HX2.out
    have HB3 := Lib.hid (HB2.out.trans (hb3.mono HB2.out.size))
    clear c0 c1 c2 c3
    have c0 : w3.cell? ⟨w.heap.size, 0, none⟩ = some (.int .i64 r.op) := cell_in hX3 0
    have c1 : w3.cell? ⟨w.heap.size, 1, none⟩ = some (.int .i64 a) := cell_in hX3 1
    have c2 : w3.cell? ⟨w.heap.size, 2, none⟩ = some (.int .i64 b) := cell_in hX3 2
    have c3 : w3.cell? ⟨w.heap.size, 3, none⟩ = some (.int .u32 c) := cell_in hX3 3
    clear hb3 hX3 HX2 HB2
    go_wp2_with fail
    refine (refPrint_row HR.out HF.out _).mono ?_
    rintro e w4 ⟨rfl, hb4⟩
    have HB4 := Lib.hid (HB3.out.trans (hb4.mono HB3.out.size))
    clear hb4 HB3 c0 c1 c2 c3
    go_wp2_with fail
    refine (iknows_any _ (hT.below HB4.out) (ht.below HB4.out)).mono ?_
    rintro e w5 ⟨rfl, hb5⟩
    go_wp2_with fail
    go_ret
    exact ⟨rfl, HB4.out.trans (hb5.mono HB4.out.size)⟩
  · go_wp2_with fail
    refine (refRight_any _ _ _ _ _).mono ?_
    rintro e w2 ⟨rfl, hb2⟩
    have hX2 := (hb2.block _ (lt_of_block HX1.out)).trans HX1.out
    have HB2 := Lib.hid (HB1.out.trans (hb2.mono HB1.out.size))
    clear c0 c1 c2 c3
    have c0 : w2.cell? ⟨w.heap.size, 0, none⟩ = some (.int .i64 xo) := cell_in hX2 0
    have c1 : w2.cell? ⟨w.heap.size, 1, none⟩ = some (.int .i64 xt) := cell_in hX2 1
    have c2 : w2.cell? ⟨w.heap.size, 2, none⟩ = some (.int .i64 xf) := cell_in hX2 2
    have c3 : w2.cell? ⟨w.heap.size, 3, none⟩ = some (.int .u32 xk) := cell_in hX2 3
    clear hb2 hX2 HX1 HB1
    go_wp2_with fail
    refine (right_any _ _ _ _ _ (ht.below HB2.out)).mono ?_
    rintro e w3 ⟨rfl, hb3⟩
    have HB3 := Lib.hid (HB2.out.trans (hb3.mono HB2.out.size))
    clear hb3 HB2 c0 c1 c2 c3
    go_wp2_with fail
    refine (iknows_any _ (hT.below HB3.out) (ht.below HB3.out)).mono ?_
    rintro e w5 ⟨rfl, hb5⟩
    go_wp2_with fail
    go_ret
    exact ⟨rfl, HB3.out.trans (hb5.mono HB3.out.size)⟩

/-- The row's contract, for every argument and every world. -/
theorem contract (H : Type) (enc : TypeId × Value → H) (W : World) (base : Nat) (args : Array Value) (ds gs : List (DataW H)) (before : List MemPlace)
    (hval : ∀ (j : Nat) t v, Tryd.f3.params[j]? = some t → args[j]? = some v → Value.okWide Tryd.prog W .any base t v)
    (hW : DataW.Whole enc Tryd.prog Tryd.f3.params.toList Rows.insPrintsSpec.vars false W args.toList ds gs before) (hL : laidMetH Tryd.prog Rows.insPrintsRow.laid W) :
    Calls Tryd.prog 3 args W fun e W' => ∃ v, e = .returned v ∧ Rows.insPrintsSpec.post enc Tryd.prog Tryd.f3 false true false false W args v W' := by
  have hW' := hW
  obtain ⟨p, q, hA0, hV, rfl, hfz, hnd⟩ := hW
  have hA : DataW.TrodAll enc Tryd.prog W 0 (fun _ => true) true Tryd.f3.params.toList args.toList ds p := hA0
  rw [Tryd.params3] at hA hval
  obtain ⟨v0, vs0, d0, ds0, p0, q0, hargs0, rfl, rfl, t0, r0⟩ := trodAll_cons hA
  obtain ⟨rfl, rfl, rfl⟩ := trodAll_nil r0
  obtain rfl : args = #[v0] := by cases args; simp_all
  obtain ⟨a0, b0, c0, e0, y0, z0, u0, w0, n0, rfl, rfl, hp0, ha0, hb0, hc0, he0⟩ := Joins.open_agg4 Tryd.underlying24 (by kernel_rfl) (by kernel_rfl) (hval 0 24 v0 rfl rfl) t0
  obtain ⟨xo, qha0, gha0, wfha0⟩ := DataW.trod_int Tryd.underlying3 ha0
  obtain rfl := (List.cons.inj qha0).1
  obtain ⟨xt, qhb0, ghb0, wfhb0⟩ := DataW.trod_int Tryd.underlying3 hb0
  obtain rfl := (List.cons.inj qhb0).1
  obtain ⟨xf, qhc0, ghc0, wfhc0⟩ := DataW.trod_int Tryd.underlying3 hc0
  obtain rfl := (List.cons.inj qhc0).1
  obtain ⟨xk, qhe0, ghe0, wfhe0⟩ := DataW.trod_int Tryd.underlying22 he0
  obtain rfl := (List.cons.inj qhe0).1
  have bd0 := bounds_u32 wfhe0
  refine (walk xo xt xf xk W bd0.1 bd0.2 (tab_of hL) (otab_of hL)).mono fun e W' ⟨he, hg⟩ => ?_
  subst he
  exact ⟨_, rfl, law_post (tb := 4) laidOut (fun t ht => by rw [Tryd.params3] at ht; revert t; exact of_decide_eq_true (by kernel_rfl)) (by kernel_rfl) Tryd.underlying4 rfl
    (fun ds h => by rw [Tryd.params3] at h; match ds, h with | [_], _ => rfl) hW' hg⟩

theorem laid_met (os : Os) : laidMet Tryd.prog Rows.insPrintsRow.laid ((laidWorld os).forCall (fun _ _ => 0) ⟨#[], #[.agg #[.int .i64 0, .int .i64 0, .int .i64 0, .int .u32 0]], []⟩).memory :=
  laidMet_of_run' 8 (by kernel_rfl) (by kernel_rfl)
theorem reads (os : Os) {H : Type} (enc : TypeId × Value → H) : ∃ places, DataW.whole enc Tryd.prog ((laidWorld os).forCall (fun _ _ => 0) ⟨#[], #[.agg #[.int .i64 0, .int .i64 0, .int .i64 0, .int .u32 0]], []⟩).memory Tryd.f3.params.toList Rows.insPrintsSpec.vars false #[Value.agg #[.int .i64 0, .int .i64 0, .int .i64 0, .int .u32 0]].toList 8 = some ([.agg [.lit (.int .i64 0), .lit (.int .i64 0), .lit (.int .i64 0), .lit (.int .u32 0)]], [], places) :=
  ⟨[], by kernel_rfl⟩

set_option maxRecDepth 100000 in
theorem lifted (os : Os) (started : os.Started) (H : Type) (enc : TypeId × Value → H) (F : Stop.Interp) :
    ReturnsInHanded {} Tryd.checked os 3 .any ((OpenSpec.ofChange Rows.insPrintsSpec).preRow enc Tryd.prog Tryd.f3 Rows.insPrintsRow.domain false Rows.insPrintsRow.laid) (((OpenSpec.ofChange Rows.insPrintsSpec).at F).post enc Tryd.prog Tryd.f3 false true false false) := by
  obtain ⟨places, hx⟩ := reads os enc
  refine returnsInHanded_of_row (C := Tryd.checked) (s := OpenSpec.ofChange Rows.insPrintsSpec) own started (by kernel_rfl) Tryd.func3
    (witness_row_at (enc := enc) (C := Tryd.checked) false (laidWorld os) #[.agg #[.int .i64 0, .int .i64 0, .int .i64 0, .int .u32 0]] rfl (by kernel_rfl) (by kernel_rfl) (by kernel_rfl)
      (OpenSpec.preRow_of_cond 8 hx (by kernel_rfl) (fun k hk => by cases hk) (by kernel_rfl) (laid_met os))) ?_
  intro W base args ds gs before hval hW _ _ _ hL _ _
  exact contract H enc W base args ds gs before hval hW hL

theorem said : Rows.InsPrintsSaid :=
  OpenClaim.holds_of_cond 3 Tryd.f3 rfl rfl rfl rfl rfl rfl rfl ⟨rfl, rfl, rfl, rfl, rfl⟩ rfl rfl rfl rfl rfl (by kernel_rfl) Tryd.func3 (by kernel_rfl)
    (of_decide_eq_true (by kernel_rfl)) (by unfold Func.isWrapper; first | (rw [if_pos (by decide +kernel)]; kernel_rfl) | (rw [if_neg (by decide +kernel)]; exact ⟨rfl, rfl⟩))
    (fun os started H enc _ F => by rw [OpenClaim.pre_eq_preRow]; exact lifted os started H enc F)

/-- No parameter wants a stand-in; the program's own looks are off. -/
theorem plain (f : FuncId) (fn : Func) (hf : Tryd.pinned.checked.prog.funcNamed "hurdle/hurdlelaw02.InsPrints" = some f) (hfn : Tryd.pinned.checked.prog.funcs[f]? = some fn) :
    false = Tryd.pinned.checked.prog.looks [] ∧ ∀ (j : Nat) t, fn.params[j]? = some t → Tryd.pinned.checked.prog.wantsStandIn t = false := by
  obtain rfl : f = 3 := Option.some.inj ((show Tryd.prog.funcNamed "hurdle/hurdlelaw02.InsPrints" = some 3 by kernel_rfl).symm.trans hf) |>.symm
  obtain rfl : fn = Tryd.f3 := (Option.some.inj (Tryd.func3.symm.trans hfn)).symm
  refine ⟨by kernel_rfl, fun j t ht => ?_⟩
  have hm := Array.mem_of_getElem? ht
  rw [Tryd.params3] at hm
  have all : ∀ t ∈ (#[24] : Array TypeId).toList, Tryd.prog.wantsStandIn t = false := of_decide_eq_true (by kernel_rfl)
  exact all t (Array.mem_toList_iff.2 hm)

/-- The tied card. -/
theorem card : Rows.InsPrintsCardSaid :=
  Claim7.holds_tied_plain_at .later [] _ _ _ _ said (fun _ h => by cases h) (by kernel_rfl) (fun _ h => by cases h) insPrints_row_tie rfl ⟨rfl, rfl⟩ (by kernel_rfl) rfl plain (by kernel_rfl)
end Go.Proofs.YtjniifgacidojaaDoor.insPrints
