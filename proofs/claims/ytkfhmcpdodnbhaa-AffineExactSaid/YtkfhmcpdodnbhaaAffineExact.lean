/-
  For every two forms and any assignment: the law AffineExact returns true and changes nothing that was there.
-/
import Derived.Test.YtkfhmcpdodnbhaaProg
import Derived.WalkKit
import Derived.ProofKit
import Derived.Lib.Hide
import Derived.Laws.Rows
import Derived.Laws.ResultCell
import Derived.Laws.Entries
import Derived.Handy
import Derived.OwnWalk
import Derived.Laws.OwnMore
import Derived.Deep.Draws
import Derived.Laws.IdiomStrings
import Derived.Lib.BufferRead
import Derived.Maps.OwnSet
import Derived.Laws.Tables
import Derived.Deep.DeepCutAuto
import Derived.DeepKeys
import Derived.Laws.StructEq
import Derived.Deep.RegionHeld3
import Derived.BigRegion
import Derived.BigQuiet
import Derived.Deep.OwnRows
import Derived.Lib.QuietBelow
import Derived.Deep.MidRow
import Derived.Test.YtkfhmcpdodnbhaaRows
import Derived.OpenShut
import Derived.Carry
import Derived.Deep.DeepHandedRow
import Derived.Lib.SmallJoins
import Derived.Stop.Joined
import Derived.Test.YtkfhmcpdodnbhaaPk1
import Derived.Test.YtkfhmcpdodnbhaaPk2
namespace Go.Proofs.Ytkfhmcpdodnbhaa.affineExact
open Go.ChangeShapes Go.WideShapes Go.ChangeAt Go.RowKit

set_option maxHeartbeats 8000000 in
theorem walk (f g v : List Nat) (w : World) (hf : FOk f) (hg : FOk g) (hv : VOk v) :
    Calls Try.prog 7 #[formV f, formV g, formV v] w fun e w' => e = .returned (.bool true) ∧ Below w.heap.size w w' := by
  obtain ⟨W, hW, h0, h1, h2, hb⟩ := box3 w (formB f) (formB g) (rowB v)
  have h2 : W.heap[w.heap.size + 1 + 1]? = some (rowB v) := h2
  have HX := Lib.hid h0
  have HY := Lib.hid h1
  have HZ := Lib.hid h2
  have HB := Lib.hid hb
  have lf := hf.1
  have lg := hg.1
  have lv := hv.1
  have hs : w.heap.size + 1 + 1 < W.heap.size := lt_of_block h2
  have HN := Lib.hid (fun h : ¬ f = g => apart_tells hf hg h)
  have HS := Lib.hid (apart_snd f g)
  have HFG := Lib.hid (And.intro hf hg)
  have HV := Lib.hid hv
  have HU := Lib.hid (apartF_ok f g)
  have lu := HU.out.1
  clear h0 h1 h2 hb hf hg hv
  go_enter Try.func7, Try.ntmps7
  go_upto_region 1 with fail
  rw [← hW]
  clear hW
  go_wp2_with (first | (refine ld_form HX.out lf rfl rfl rfl ?_) | (refine ld_form HY.out lg rfl rfl rfl ?_))
  refine (aapart_any f g _ HFG.out.1 HFG.out.2).mono ?_
  rintro e w1 ⟨rfl, hb1⟩
  rw [HS.out]
  have HX1 := Lib.hid (kb hb1 HX.out)
  have HY1 := Lib.hid (kb hb1 HY.out)
  have HZ1 := Lib.hid (kb hb1 HZ.out)
  have HB1 := Lib.hid (below2 HB.out hb1)
  have hs1 := hb1.size
  have hs2 := (below2 HB.out hb1).size
  clear hb1 HX HY HZ HB
  obtain ⟨U, hU⟩ : ∃ U, U = (apartF f g).1 := ⟨_, rfl⟩
  rw [← hU] at HN HU lu ⊢
  clear hU HS
  by_cases hfg : f = g
  · subst hfg
    rw [show (!decide (f = f)) = false by simp]
    have e1 : ∀ V : World, (Op.equalIn 10000 25 (formV f) (formV f)).run Try.prog V = .ok true V := eqi_form HFG.out.1
    go_wp2_with (first | (refine st_row (heap_alloc_new _ _) rfl lu rfl rfl rfl rfl ?_; intro W2 hp2; have HP2 := Lib.hid hp2; clear hp2; have HX2 := Lib.hid (HP2.out.keep (by omega) (ka _ HX1.out)); have HY2 := Lib.hid (HP2.out.keep (by omega) (ka _ HY1.out)); have HZ2 := Lib.hid (HP2.out.keep (by omega) (ka _ HZ1.out)); have HR2 := Lib.hid HP2.out.row; have HB2 := Lib.hid (HP2.out.below (ba _ HB1.out) hs2)) | (refine ld_form HX2.out lf rfl rfl rfl ?_) | (refine ld_form HY2.out lg rfl rfl rfl ?_))
    have c1 := q_eval W2 HFG.out.1 HV.out
    have cK := q_knows W2
    generalize evalF f v = E at *
    refine wp_region_quiet_below (by kernel_rfl) (by kernel_rfl) ?_
    repeat (first
      | (refine q_form HX2.out lf (by rfl) rfl rfl ?_)
      | (refine q_form HY2.out lg (by rfl) rfl rfl ?_)
      | (refine q_row HZ2.out lv (by rfl) rfl rfl ?_)
      | (quiet_step (first | with_reducible exact c1 _ _ | with_reducible exact cK _ _)))
    refine wpQuiet_nil ?_
    intro _ hw'
    obtain ⟨⟨dq, osq⟩, hw''⟩ := hw'
    subst hw''
    have hbq := below_regrown W2 dq osq
    have HBr := Lib.hid (below2 HB2.out hbq)
    clear hbq
    generalize Sort.grow (redrawn W2 dq) osq = Wr at *
    go_wp2_with fail
    go_ret
    exact ⟨rfl, HBr.out⟩
  · rw [show (!decide (f = g)) = true by simp [hfg]]
    have e1 : ∀ V : World, (Op.equalIn 10000 25 (formV f) (formV g)).run Try.prog V = .ok false V := fun V => by rw [eqIn_form HFG.out.1 HFG.out.2, decide_eq_false hfg]
    have hne := HN.out hfg
    clear hfg
    go_wp2_with (first | (refine st_row (heap_alloc_new _ _) rfl lu rfl rfl rfl rfl ?_; intro W2 hp2; have HP2 := Lib.hid hp2; clear hp2; have HX2 := Lib.hid (HP2.out.keep (by omega) (ka _ HX1.out)); have HY2 := Lib.hid (HP2.out.keep (by omega) (ka _ HY1.out)); have HZ2 := Lib.hid (HP2.out.keep (by omega) (ka _ HZ1.out)); have HR2 := Lib.hid HP2.out.row; have HB2 := Lib.hid (HP2.out.below (ba _ HB1.out) hs2)) | (refine ld_form HX2.out lf rfl rfl rfl ?_) | (refine ld_form HY2.out lg rfl rfl rfl ?_))
    have c1 := q_eval W2 HFG.out.1 HU.out
    have c2 := q_eval W2 HFG.out.2 HU.out
    have cK := q_knows W2
    generalize evalF f U = E at *
    generalize evalF g U = G at *
    have en : ((E : Int) != (G : Int)) = true := by simp; omega
    refine wp_region_quiet_below (by kernel_rfl) (by kernel_rfl) ?_
    repeat (first
      | (refine q_form HX2.out lf (by rfl) rfl rfl ?_)
      | (refine q_form HY2.out lg (by rfl) rfl rfl ?_)
      | (refine q_row HR2.out lu (by rfl) rfl rfl ?_)
      | (quiet_step (first | with_reducible exact c1 _ _ | with_reducible exact c2 _ _ | with_reducible exact cK _ _)))
    refine wpQuiet_nil ?_
    intro _ hw'
    obtain ⟨⟨dq, osq⟩, hw''⟩ := hw'
    subst hw''
    have hbq := below_regrown W2 dq osq
    have HBr := Lib.hid (below2 HB2.out hbq)
    clear hbq
    generalize Sort.grow (redrawn W2 dq) osq = Wr at *
    go_wp2_with fail
    go_ret
    exact ⟨rfl, HBr.out⟩

set_option maxRecDepth 100000 in
/-- The row's contract, for every argument and every world. -/
theorem contract (H : Type) (enc : TypeId × Value → H) (W : World) (base : Nat) (args : Array Value) (ds gs : List (DataW H)) (before : List MemPlace)
    (hval : ∀ (j : Nat) t v, Try.f7.params[j]? = some t → args[j]? = some v → Value.okWide Try.prog W .any base t v)
    (hW : DataW.Whole enc Try.prog Try.f7.params.toList Rows.affineExactSpec.vars false W args.toList ds gs before) (_hL : laidMetH Try.prog Rows.affineExactRow.laid W) :
    Calls Try.prog 7 args W fun e W' => ∃ v, e = .returned v ∧ Rows.affineExactSpec.post enc Try.prog Try.f7 false true false false W args v W' := by
  have hW' := hW
  obtain ⟨p, q, hA0, hV, rfl, hfz, hnd⟩ := hW
  have hA : DataW.TrodAll enc Try.prog W 0 (fun _ => true) true Try.f7.params.toList args.toList ds p := hA0
  rw [Try.params7] at hA hval
  obtain ⟨v0, vs0, d0, ds0, p0, q0, hargs0, rfl, rfl, t0, r0⟩ := trodAll_cons hA
  obtain ⟨v1, vs1, d1, ds1, p1, q1, hargs1, rfl, rfl, t1, r1⟩ := trodAll_cons r0
  obtain ⟨v2, vs2, d2, ds2, p2, q2, hargs2, rfl, rfl, t2, r2⟩ := trodAll_cons r1
  obtain ⟨rfl, rfl, rfl⟩ := trodAll_nil r2
  obtain rfl : args = #[v0, v1, v2] := by cases args; simp_all
  obtain ⟨f, rfl, hd0⟩ := open_form (hval 0 25 v0 rfl rfl) t0
  obtain ⟨g, rfl, hd1⟩ := open_form (hval 1 25 v1 rfl rfl) t1
  obtain ⟨v, rfl, hd2⟩ := open_asg (hval 2 23 v2 rfl rfl) t2
  refine (walk f g v W hd0 hd1 hd2).mono fun e W' ⟨he, hg⟩ => ?_
  subst he
  exact ⟨_, rfl, law_post (tb := 4) laidOut (fun t ht => by rw [Try.params7] at ht; revert t; exact of_decide_eq_true (by kernel_rfl)) (by kernel_rfl) Try.underlying4 rfl
    (fun ds h => by rw [Try.params7] at h; match ds, h with | [_, _, _], _ => rfl) hW' hg⟩

theorem laid_met (os : Os) : laidMet Try.prog Rows.affineExactRow.laid ((laidWorldJ os).forCall (fun _ _ => 0) ⟨#[], #[.agg (numsC zeroF), .agg (numsC zeroF), .agg (numsC zeros)], []⟩).memory :=
  laidMet_nil _ _
theorem reads (os : Os) {H : Type} (enc : TypeId × Value → H) : ∃ places, DataW.whole enc Try.prog ((laidWorldJ os).forCall (fun _ _ => 0) ⟨#[], #[.agg (numsC zeroF), .agg (numsC zeroF), .agg (numsC zeros)], []⟩).memory Try.f7.params.toList Rows.affineExactSpec.vars false #[Value.agg (numsC zeroF), Value.agg (numsC zeroF), Value.agg (numsC zeros)].toList 8 = some ([.agg [.lit (.int .u32 0), .agg (List.replicate 34 (.lit (.int .u32 0)))], .agg [.lit (.int .u32 0), .agg (List.replicate 34 (.lit (.int .u32 0)))], .agg (List.replicate 34 (.lit (.int .u32 0)))], [], places) :=
  ⟨[], by kernel_rfl⟩

set_option maxRecDepth 100000 in
theorem lifted (os : Os) (started : os.Started) (H : Type) (enc : TypeId × Value → H) (F : Stop.Interp) :
    ReturnsInHanded {} Try.checked os 7 .any ((OpenSpec.ofChange Rows.affineExactSpec).preRow enc Try.prog Try.f7 Rows.affineExactRow.domain false Rows.affineExactRow.laid) (((OpenSpec.ofChange Rows.affineExactSpec).at F).post enc Try.prog Try.f7 false true false false) := by
  obtain ⟨places, hx⟩ := reads os enc
  refine returnsInHanded_of_row (C := Try.checked) (s := OpenSpec.ofChange Rows.affineExactSpec) own started (by kernel_rfl) Try.func7
    (witness_row_at (enc := enc) (C := Try.checked) false (laidWorldJ os) #[.agg (numsC zeroF), .agg (numsC zeroF), .agg (numsC zeros)] rfl (by kernel_rfl) (by kernel_rfl) (by kernel_rfl)
      (OpenSpec.preRow_of_cond 8 hx (by kernel_rfl) (fun k hk => by cases hk) (by kernel_rfl) (laid_met os))) ?_
  intro W base args ds gs before hval hW _ _ _ hL _ _
  exact contract H enc W base args ds gs before hval hW hL

theorem said : Rows.AffineExactSaid :=
  OpenClaim.holds_of_cond 7 Try.f7 rfl rfl rfl rfl rfl rfl rfl ⟨rfl, rfl, rfl, rfl, rfl⟩ rfl rfl rfl rfl rfl (by kernel_rfl) Try.func7 (by kernel_rfl)
    (of_decide_eq_true (by kernel_rfl)) (by unfold Func.isWrapper; first | (rw [if_pos (by decide +kernel)]; kernel_rfl) | (rw [if_neg (by decide +kernel)]; exact ⟨rfl, rfl⟩))
    (fun os started H enc _ F => by rw [OpenClaim.pre_eq_preRow]; exact lifted os started H enc F)

end Go.Proofs.Ytkfhmcpdodnbhaa.affineExact
