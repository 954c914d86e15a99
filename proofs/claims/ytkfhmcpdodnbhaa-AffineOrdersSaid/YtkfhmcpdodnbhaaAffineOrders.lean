/-
  For every three forms: the law AffineOrders returns true and changes nothing that was there.
-/
import Derived.Test.YtkfhmcpdodnbhaaProg
import Derived.WalkKit
import Derived.ProofKit
import Derived.Lib.Hide
import Derived.Laws.Rows
import Derived.Laws.ResultCell
import Derived.Laws.Entries
import Derived.Handy
import Derived.OwnWalk
import Derived.Laws.OwnMore
import Derived.Deep.Draws
import Derived.Laws.IdiomStrings
import Derived.Lib.BufferRead
import Derived.Maps.OwnSet
import Derived.Laws.Tables
import Derived.Deep.DeepCutAuto
import Derived.DeepKeys
import Derived.Laws.StructEq
import Derived.Deep.RegionHeld3
import Derived.BigRegion
import Derived.BigQuiet
import Derived.Deep.OwnRows
import Derived.Lib.QuietBelow
import Derived.Deep.MidRow
import Derived.Test.YtkfhmcpdodnbhaaRows
import Derived.OpenShut
import Derived.Carry
import Derived.Deep.DeepHandedRow
import Derived.Lib.SmallJoins
import Derived.Stop.Joined
import Derived.Test.YtkfhmcpdodnbhaaPk1
import Derived.Test.YtkfhmcpdodnbhaaPk2
namespace Go.Proofs.Ytkfhmcpdodnbhaa.affineOrders
open Go.ChangeShapes Go.WideShapes Go.ChangeAt Go.RowKit

set_option maxHeartbeats 8000000 in
theorem walk (f g h : List Nat) (w : World) (hf : FOk f) (hg : FOk g) (hh : FOk h) :
    Calls Try.prog 8 #[formV f, formV g, formV h] w fun e w' => e = .returned (.bool true) ∧ Below w.heap.size w w' := by
  obtain ⟨W, hW, h0, h1, h2, hb⟩ := box3 w (formB f) (formB g) (formB h)
  have h2 : W.heap[w.heap.size + 1 + 1]? = some (formB h) := h2
  have HX := Lib.hid h0
  have HY := Lib.hid h1
  have HZ := Lib.hid h2
  have HB := Lib.hid hb
  have lf := hf.1
  have lg := hg.1
  have lh := hh.1
  have c1 := q_add W hf hg
  have c2 := q_add W hg hf
  rw [add_comm' g f] at c2
  have c3 := q_add W (addF_ok f g) hh
  have c4 := q_add W hg hh
  have c5 := q_add W hf (addF_ok g h)
  rw [← add_assoc' f g h] at c5
  have c6 := q_sub W (addF_ok f g) hg
  rw [add_sub hf hg] at c6
  have c7 : QC W 16 #[formV f, .int .u32 0] (formV (constF 0)) := by
    have c := q_mul W (k := 0) hf (by omega)
    rw [mul_zero'] at c
    exact c
  have c8 : QC W 17 #[.int .u32 0] (formV (constF 0)) := q_const W (c := 0) (by omega)
  have c9 : QC W 16 #[formV f, .int .u32 1] (formV f) := by
    have c := q_mul W (k := 1) hf (by omega)
    rw [mul_one' hf] at c
    exact c
  have c10 : QC W 16 #[formV (addF f g), .int .u32 3] (formV (mulF (addF f g) 3)) := q_mul W (k := 3) (addF_ok f g) (by omega)
  have c11 : QC W 16 #[formV f, .int .u32 3] (formV (mulF f 3)) := q_mul W (k := 3) hf (by omega)
  have c12 : QC W 16 #[formV g, .int .u32 3] (formV (mulF g 3)) := q_mul W (k := 3) hg (by omega)
  have c13 := q_add W (mulF_ok f 3) (mulF_ok g 3)
  rw [← mul_add'] at c13
  have cK := q_knows W
  have e1 := eqs_form (addF_ok f g)
  have i1 := eqi_form (addF_ok f g)
  have e2 := eqs_form (addF_ok (addF f g) h)
  have i2 := eqi_form (addF_ok (addF f g) h)
  have e3 := eqs_form hf
  have i3 := eqi_form hf
  have e4 := eqs_form (constF_ok (c := 0) (by omega))
  have i4 := eqi_form (constF_ok (c := 0) (by omega))
  have e5 := eqs_form (mulF_ok (addF f g) 3)
  have i5 := eqi_form (mulF_ok (addF f g) 3)
  generalize addF (addF f g) h = U at *
  generalize mulF (addF f g) 3 = M at *
  generalize addF f g = S at *
  generalize addF g h = T at *
  generalize mulF f 3 = P at *
  generalize mulF g 3 = R at *
  generalize constF 0 = C at *
  clear h0 h1 h2 hb hf hg hh
  go_enter Try.func8, Try.ntmps8
  go_upto_region 1 with fail
  rw [← hW]
  clear hW
  refine wp_region_quiet_below (by kernel_rfl) (by kernel_rfl) ?_
  repeat (first
    | (refine q_form HX.out lf (by rfl) rfl rfl ?_)
    | (refine q_form HY.out lg (by rfl) rfl rfl ?_)
    | (refine q_form HZ.out lh (by rfl) rfl rfl ?_)
    | (quiet_step (first | with_reducible exact c1 _ _ | with_reducible exact c2 _ _ | with_reducible exact c3 _ _ | with_reducible exact c4 _ _ | with_reducible exact c5 _ _ | with_reducible exact c6 _ _ | with_reducible exact c7 _ _ | with_reducible exact c8 _ _ | with_reducible exact c9 _ _ | with_reducible exact c10 _ _ | with_reducible exact c11 _ _ | with_reducible exact c12 _ _ | with_reducible exact c13 _ _ | with_reducible exact cK _ _)))
  refine wpQuiet_nil ?_
  intro _ hw'
  obtain ⟨⟨dq, osq⟩, hw''⟩ := hw'
  subst hw''
  have hbq := below_regrown W dq osq
  have HBq := Lib.hid (below2 HB.out hbq)
  clear hbq
  generalize Sort.grow (redrawn W dq) osq = Wq at *
  go_wp2_with fail
  go_ret
  exact ⟨rfl, HBq.out⟩

set_option maxRecDepth 100000 in
/-- The row's contract, for every argument and every world. -/
theorem contract (H : Type) (enc : TypeId × Value → H) (W : World) (base : Nat) (args : Array Value) (ds gs : List (DataW H)) (before : List MemPlace)
    (hval : ∀ (j : Nat) t v, Try.f8.params[j]? = some t → args[j]? = some v → Value.okWide Try.prog W .any base t v)
    (hW : DataW.Whole enc Try.prog Try.f8.params.toList Rows.affineOrdersSpec.vars false W args.toList ds gs before) (_hL : laidMetH Try.prog Rows.affineOrdersRow.laid W) :
    Calls Try.prog 8 args W fun e W' => ∃ v, e = .returned v ∧ Rows.affineOrdersSpec.post enc Try.prog Try.f8 false true false false W args v W' := by
  have hW' := hW
  obtain ⟨p, q, hA0, hV, rfl, hfz, hnd⟩ := hW
  have hA : DataW.TrodAll enc Try.prog W 0 (fun _ => true) true Try.f8.params.toList args.toList ds p := hA0
  rw [Try.params8] at hA hval
  obtain ⟨v0, vs0, d0, ds0, p0, q0, hargs0, rfl, rfl, t0, r0⟩ := trodAll_cons hA
  obtain ⟨v1, vs1, d1, ds1, p1, q1, hargs1, rfl, rfl, t1, r1⟩ := trodAll_cons r0
  obtain ⟨v2, vs2, d2, ds2, p2, q2, hargs2, rfl, rfl, t2, r2⟩ := trodAll_cons r1
  obtain ⟨rfl, rfl, rfl⟩ := trodAll_nil r2
  obtain rfl : args = #[v0, v1, v2] := by cases args; simp_all
  obtain ⟨f, rfl, hd0⟩ := open_form (hval 0 25 v0 rfl rfl) t0
  obtain ⟨g, rfl, hd1⟩ := open_form (hval 1 25 v1 rfl rfl) t1
  obtain ⟨h, rfl, hd2⟩ := open_form (hval 2 25 v2 rfl rfl) t2
  refine (walk f g h W hd0 hd1 hd2).mono fun e W' ⟨he, hg⟩ => ?_
  subst he
  exact ⟨_, rfl, law_post (tb := 4) laidOut (fun t ht => by rw [Try.params8] at ht; revert t; exact of_decide_eq_true (by kernel_rfl)) (by kernel_rfl) Try.underlying4 rfl
    (fun ds h => by rw [Try.params8] at h; match ds, h with | [_, _, _], _ => rfl) hW' hg⟩

theorem laid_met (os : Os) : laidMet Try.prog Rows.affineOrdersRow.laid ((laidWorldJ os).forCall (fun _ _ => 0) ⟨#[], #[.agg (numsC zeroF), .agg (numsC zeroF), .agg (numsC zeroF)], []⟩).memory :=
  laidMet_nil _ _
theorem reads (os : Os) {H : Type} (enc : TypeId × Value → H) : ∃ places, DataW.whole enc Try.prog ((laidWorldJ os).forCall (fun _ _ => 0) ⟨#[], #[.agg (numsC zeroF), .agg (numsC zeroF), .agg (numsC zeroF)], []⟩).memory Try.f8.params.toList Rows.affineOrdersSpec.vars false #[Value.agg (numsC zeroF), Value.agg (numsC zeroF), Value.agg (numsC zeroF)].toList 8 = some ([.agg [.lit (.int .u32 0), .agg (List.replicate 34 (.lit (.int .u32 0)))], .agg [.lit (.int .u32 0), .agg (List.replicate 34 (.lit (.int .u32 0)))], .agg [.lit (.int .u32 0), .agg (List.replicate 34 (.lit (.int .u32 0)))]], [], places) :=
  ⟨[], by kernel_rfl⟩

set_option maxRecDepth 100000 in
theorem lifted (os : Os) (started : os.Started) (H : Type) (enc : TypeId × Value → H) (F : Stop.Interp) :
    ReturnsInHanded {} Try.checked os 8 .any ((OpenSpec.ofChange Rows.affineOrdersSpec).preRow enc Try.prog Try.f8 Rows.affineOrdersRow.domain false Rows.affineOrdersRow.laid) (((OpenSpec.ofChange Rows.affineOrdersSpec).at F).post enc Try.prog Try.f8 false true false false) := by
  obtain ⟨places, hx⟩ := reads os enc
  refine returnsInHanded_of_row (C := Try.checked) (s := OpenSpec.ofChange Rows.affineOrdersSpec) own started (by kernel_rfl) Try.func8
    (witness_row_at (enc := enc) (C := Try.checked) false (laidWorldJ os) #[.agg (numsC zeroF), .agg (numsC zeroF), .agg (numsC zeroF)] rfl (by kernel_rfl) (by kernel_rfl) (by kernel_rfl)
      (OpenSpec.preRow_of_cond 8 hx (by kernel_rfl) (fun k hk => by cases hk) (by kernel_rfl) (laid_met os))) ?_
  intro W base args ds gs before hval hW _ _ _ hL _ _
  exact contract H enc W base args ds gs before hval hW hL

theorem said : Rows.AffineOrdersSaid :=
  OpenClaim.holds_of_cond 8 Try.f8 rfl rfl rfl rfl rfl rfl rfl ⟨rfl, rfl, rfl, rfl, rfl⟩ rfl rfl rfl rfl rfl (by kernel_rfl) Try.func8 (by kernel_rfl)
    (of_decide_eq_true (by kernel_rfl)) (by unfold Func.isWrapper; first | (rw [if_pos (by decide +kernel)]; kernel_rfl) | (rw [if_neg (by decide +kernel)]; exact ⟨rfl, rfl⟩))
    (fun os started H enc _ F => by rw [OpenClaim.pre_eq_preRow]; exact lifted os started H enc F)

end Go.Proofs.Ytkfhmcpdodnbhaa.affineOrders
