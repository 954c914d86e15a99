/-
  For every instruction, in every world that has the table of package ins as its initialiser lays it: the law LiveTells returns true and changes nothing that was there.
-/
import Derived.Test.YtmbegncnbjafdaaDoorVFrame
namespace Go.Proofs.YtmbegncnbjafdaaDoor.liveTells
open Go.ChangeShapes Go.WideShapes Go.ChangeAt Go.RowKit

set_option maxHeartbeats 4000000 in
theorem walk_nat (op jt jf : Int) (k : Nat) (w : World) (hk : k < 4294967296) (ht : OTab w) :
    Calls Tryd.prog 3 #[insV op jt jf k] w fun e w' => e = .returned (.bool true) ∧ Below w.heap.size w w' := by
  have HB0 := Lib.hid (ba (insB op jt jf k) (Below.refl w.heap.size w))
  have HX0 := Lib.hid (heap_alloc_new w (insB op jt jf k))
  obtain ⟨c0, c1, c2, c3⟩ := insX HX0.out
  go_enter Tryd.func3, Tryd.ntmps3
  go_wp2_with fail
  refine (luses2_any op jt jf k _ hk).mono ?_
  rintro e w1 ⟨rfl, hb1⟩
  have HX1 := Lib.hid (kb hb1 HX0.out)
  have HB1 := Lib.hid (below2 HB0.out hb1)
  clear hb1 c0 c1 c2 c3
  obtain ⟨c0, c1, c2, c3⟩ := insX HX1.out
  go_wp2_with fail
  refine (luses_any op jt jf k _ (ht.below HB1.out)).mono ?_
  rintro e w2 ⟨rfl, hb2⟩
  have HX2 := Lib.hid (kb hb2 HX1.out)
  have HB2 := Lib.hid (below2 HB1.out hb2)
  clear hb2 c0 c1 c2 c3
  obtain ⟨c0, c1, c2, c3⟩ := insX HX2.out
  generalize useM ⟨op, jt, jf, k⟩ = U at *
  have hu : ((U : Int) == (U : Int)) = true := by simp
  go_wp2_with fail
  refine (lsets_any op jt jf k _ (ht.below HB2.out)).mono ?_
  rintro e w3 ⟨rfl, hb3⟩
  have HB3 := Lib.hid (below2 HB2.out hb3)
  clear hb3 c0 c1 c2 c3
  generalize setM ⟨op, jt, jf, k⟩ = S at *
  have hs : ((S : Int) == (S : Int)) = true := by simp
  go_wp2_with fail
  refine (vknow_end HB3.out ht).mono ?_
  rintro e wb ⟨rfl, hbb⟩
  have HBB := Lib.hid hbb
  clear hbb
  go_wp2_with fail
  go_ret
  exact ⟨rfl, HBB.out⟩
theorem walk (xo xt xf xk : Int) (w : World) (h0 : 0 ≤ xk) (h1 : xk ≤ 4294967295) (ht : OTab w) :
    Calls Tryd.prog 3 #[insV xo xt xf xk] w fun e w' => e = .returned (.bool true) ∧ Below w.heap.size w w' := by
  obtain ⟨k, rfl⟩ : ∃ n : Nat, xk = n := ⟨xk.toNat, by omega⟩
  exact walk_nat xo xt xf k w (by omega) ht

set_option maxRecDepth 100000 in
/-- The row's contract, for every argument and every world. -/
theorem contract (H : Type) (enc : TypeId × Value → H) (W : World) (base : Nat) (args : Array Value) (ds gs : List (DataW H)) (before : List MemPlace)
    (hval : ∀ (j : Nat) t v, Tryd.f3.params[j]? = some t → args[j]? = some v → Value.okWide Tryd.prog W .any base t v)
    (hW : DataW.Whole enc Tryd.prog Tryd.f3.params.toList Rows.liveTellsSpec.vars false W args.toList ds gs before) (hL : laidMetH Tryd.prog Rows.liveTellsRow.laid W) :
    Calls Tryd.prog 3 args W fun e W' => ∃ v, e = .returned v ∧ Rows.liveTellsSpec.post enc Tryd.prog Tryd.f3 false true false false W args v W' := by
  have hW' := hW
  obtain ⟨p, q, hA0, hV, rfl, hfz, hnd⟩ := hW
  have hA : DataW.TrodAll enc Tryd.prog W 0 (fun _ => true) true Tryd.f3.params.toList args.toList ds p := hA0
  rw [Tryd.params3] at hA hval
  obtain ⟨v0, vs0, d0, ds0, p0, q0, hargs0, rfl, rfl, t0, r0⟩ := trodAll_cons hA
  obtain ⟨rfl, rfl, rfl⟩ := trodAll_nil r0
  obtain rfl : args = #[v0] := by cases args; simp_all
  obtain ⟨a0, b0, c0, e0, y0, z0, u0, w0, n0, rfl, rfl, hp0, ha0, hb0, hc0, he0⟩ := Joins.open_agg4 Tryd.underlying24 (by kernel_rfl) (by kernel_rfl) (hval 0 24 v0 rfl rfl) t0
  obtain ⟨xo, qha0, gha0, wfha0⟩ := DataW.trod_int Tryd.underlying3 ha0
  obtain rfl := (List.cons.inj qha0).1
  obtain ⟨xt, qhb0, ghb0, wfhb0⟩ := DataW.trod_int Tryd.underlying3 hb0
  obtain rfl := (List.cons.inj qhb0).1
  obtain ⟨xf, qhc0, ghc0, wfhc0⟩ := DataW.trod_int Tryd.underlying3 hc0
  obtain rfl := (List.cons.inj qhc0).1
  obtain ⟨xk, qhe0, ghe0, wfhe0⟩ := DataW.trod_int Tryd.underlying22 he0
  obtain rfl := (List.cons.inj qhe0).1
  have bd0 := bounds_u32 wfhe0
  refine (walk xo xt xf xk W bd0.1 bd0.2 (otab1_of hL)).mono fun e W' ⟨he, hg⟩ => ?_
  subst he
  exact ⟨_, rfl, law_post (tb := 4) laidOut (fun t ht => by rw [Tryd.params3] at ht; revert t; exact of_decide_eq_true (by kernel_rfl)) (by kernel_rfl) Tryd.underlying4 rfl
    (fun ds h => by rw [Tryd.params3] at h; match ds, h with | [_], _ => rfl) hW' hg⟩

theorem laid_met (os : Os) : laidMet Tryd.prog Rows.liveTellsRow.laid ((laidWorld1 os).forCall (fun _ _ => 0) ⟨#[], #[.agg #[.int .i64 0, .int .i64 0, .int .i64 0, .int .u32 0]], []⟩).memory :=
  laidMet_of_run' 8 (by kernel_rfl) (by kernel_rfl)
theorem reads (os : Os) {H : Type} (enc : TypeId × Value → H) : ∃ places, DataW.whole enc Tryd.prog ((laidWorld1 os).forCall (fun _ _ => 0) ⟨#[], #[.agg #[.int .i64 0, .int .i64 0, .int .i64 0, .int .u32 0]], []⟩).memory Tryd.f3.params.toList Rows.liveTellsSpec.vars false #[Value.agg #[.int .i64 0, .int .i64 0, .int .i64 0, .int .u32 0]].toList 8 = some ([.agg [.lit (.int .i64 0), .lit (.int .i64 0), .lit (.int .i64 0), .lit (.int .u32 0)]], [], places) :=
  ⟨[], by kernel_rfl⟩

set_option maxRecDepth 100000 in
theorem lifted (os : Os) (started : os.Started) (H : Type) (enc : TypeId × Value → H) (F : Stop.Interp) :
    ReturnsInHanded {} Tryd.checked os 3 .any ((OpenSpec.ofChange Rows.liveTellsSpec).preRow enc Tryd.prog Tryd.f3 Rows.liveTellsRow.domain false Rows.liveTellsRow.laid) (((OpenSpec.ofChange Rows.liveTellsSpec).at F).post enc Tryd.prog Tryd.f3 false true false false) := by
  obtain ⟨places, hx⟩ := reads os enc
  refine returnsInHanded_of_row (C := Tryd.checked) (s := OpenSpec.ofChange Rows.liveTellsSpec) own started (by kernel_rfl) Tryd.func3
    (witness_row_at (enc := enc) (C := Tryd.checked) false (laidWorld1 os) #[.agg #[.int .i64 0, .int .i64 0, .int .i64 0, .int .u32 0]] rfl (by kernel_rfl) (by kernel_rfl) (by kernel_rfl)
      (OpenSpec.preRow_of_cond 8 hx (by kernel_rfl) (fun k hk => by cases hk) (by kernel_rfl) (laid_met os))) ?_
  intro W base args ds gs before hval hW _ _ _ hL _ _
  exact contract H enc W base args ds gs before hval hW hL

theorem said : Rows.LiveTellsSaid :=
  OpenClaim.holds_of_cond 3 Tryd.f3 rfl rfl rfl rfl rfl rfl rfl ⟨rfl, rfl, rfl, rfl, rfl⟩ rfl rfl rfl rfl rfl (by kernel_rfl) Tryd.func3 (by kernel_rfl)
    (of_decide_eq_true (by kernel_rfl)) (by unfold Func.isWrapper; first | (rw [if_pos (by decide +kernel)]; kernel_rfl) | (rw [if_neg (by decide +kernel)]; exact ⟨rfl, rfl⟩))
    (fun os started H enc _ F => by rw [OpenClaim.pre_eq_preRow]; exact lifted os started H enc F)

/-- No parameter wants a stand-in; the program's own looks are off. -/
theorem plain (f : FuncId) (fn : Func) (hf : Tryd.pinned.checked.prog.funcNamed "hurdle/hurdlelaw07.LiveTells" = some f) (hfn : Tryd.pinned.checked.prog.funcs[f]? = some fn) :
    false = Tryd.pinned.checked.prog.looks [] ∧ ∀ (j : Nat) t, fn.params[j]? = some t → Tryd.pinned.checked.prog.wantsStandIn t = false := by
  obtain rfl : f = 3 := Option.some.inj ((show Tryd.prog.funcNamed "hurdle/hurdlelaw07.LiveTells" = some 3 by kernel_rfl).symm.trans hf) |>.symm
  obtain rfl : fn = Tryd.f3 := (Option.some.inj (Tryd.func3.symm.trans hfn)).symm
  refine ⟨by kernel_rfl, fun j t ht => ?_⟩
  have hm := Array.mem_of_getElem? ht
  rw [Tryd.params3] at hm
  have all : ∀ t ∈ (#[24] : Array TypeId).toList, Tryd.prog.wantsStandIn t = false := of_decide_eq_true (by kernel_rfl)
  exact all t (Array.mem_toList_iff.2 hm)

/-- The tied card. -/
theorem card : Rows.LiveTellsCardSaid :=
  Claim7.holds_tied_plain_at .later [] _ _ _ _ said (fun _ h => by cases h) (by kernel_rfl) (fun _ h => by cases h) liveTells_row_tie rfl ⟨rfl, rfl⟩ (by kernel_rfl) rfl plain (by kernel_rfl)
end Go.Proofs.YtmbegncnbjafdaaDoor.liveTells
