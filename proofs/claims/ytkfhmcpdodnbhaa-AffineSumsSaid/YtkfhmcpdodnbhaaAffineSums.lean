/-
  For every two forms, any number and any assignment: the law AffineSums returns true and changes nothing that was there.
-/
import Derived.Test.YtkfhmcpdodnbhaaProg
import Derived.WalkKit
import Derived.ProofKit
import Derived.Lib.Hide
import Derived.Laws.Rows
import Derived.Laws.ResultCell
import Derived.Laws.Entries
import Derived.Handy
import Derived.OwnWalk
import Derived.Laws.OwnMore
import Derived.Deep.Draws
import Derived.Laws.IdiomStrings
import Derived.Lib.BufferRead
import Derived.Maps.OwnSet
import Derived.Laws.Tables
import Derived.Deep.DeepCutAuto
import Derived.DeepKeys
import Derived.Laws.StructEq
import Derived.Deep.RegionHeld3
import Derived.BigRegion
import Derived.BigQuiet
import Derived.Deep.OwnRows
import Derived.Lib.QuietBelow
import Derived.Deep.MidRow
import Derived.Test.YtkfhmcpdodnbhaaRows
import Derived.OpenShut
import Derived.Carry
import Derived.Deep.DeepHandedRow
import Derived.Lib.SmallJoins
import Derived.Stop.Joined
import Derived.Test.YtkfhmcpdodnbhaaPk1
import Derived.Test.YtkfhmcpdodnbhaaPk2
namespace Go.Proofs.Ytkfhmcpdodnbhaa.affineSums
open Go.ChangeShapes Go.WideShapes Go.ChangeAt Go.RowKit

theorem wrap_sub (x y : Nat) (h : y < 4294967296) : IntKind.u32.wrap ((x : Int) - (y : Int)) = (((x + (4294967296 - y)) % 4294967296 : Nat) : Int) := by rw [IntKind.wrap_u32]; omega
set_option maxHeartbeats 8000000 in
theorem walk_at (f g : List Nat) (k : Nat) (v : List Nat) (w : World) (hf : FOk f) (hg : FOk g) (hk : k < 4294967296) (hv : VOk v) :
    Calls Try.prog 6 #[formV f, formV g, .int .u32 (k : Nat), formV v] w fun e w' => e = .returned (.bool true) ∧ Below w.heap.size w w' := by
  obtain ⟨W, hW, h0, h1, h2, hb⟩ := box3 w (formB f) (formB g) (rowB v)
  have h2 : W.heap[w.heap.size + 1 + 1]? = some (rowB v) := h2
  have HX := Lib.hid h0
  have HY := Lib.hid h1
  have HZ := Lib.hid h2
  have HB := Lib.hid hb
  have lf := hf.1
  have lg := hg.1
  have lv := hv.1
  have HC := Lib.hid (fun V => And.intro (q_eval V hf hv) (q_eval V hg hv))
  have HC3 := Lib.hid (fun V => And.intro (q_add V hf hg) (And.intro (q_eval V (addF_ok f g) hv) (And.intro (q_sub V hf hg) (And.intro (q_eval V (subF_ok f g) hv) (And.intro (q_mul V hf hk) (q_eval V (mulF_ok f k) hv))))))
  have a1 := eval_add f g v
  have a2 := eval_sub hf hg v
  have a3 := eval_mul f v k
  have l1 := eval_lt hf v
  have l2 := eval_lt hg v
  generalize evalF (addF f g) v = A at *
  generalize evalF (subF f g) v = D at *
  generalize evalF (mulF f k) v = P at *
  generalize addF f g = S at *
  generalize subF f g = T at *
  generalize mulF f k = R at *
  generalize evalF f v = E at *
  generalize evalF g v = G at *
  have q1 : IntKind.u32.wrap ((E : Int) + (G : Int)) = (A : Int) := by rw [wrap_add, a1]
  have q2 : IntKind.u32.wrap ((E : Int) - (G : Int)) = (D : Int) := by rw [wrap_sub E G l2, a2]
  have q3 : IntKind.u32.wrap ((E : Int) * (k : Int)) = (P : Int) := by rw [wrap_mul, a3]
  clear h0 h1 h2 hb hf hg hv a1 a2 a3 l1 l2
  go_enter Try.func6, Try.ntmps6
  go_upto_region 1 with fail
  rw [← hW]
  clear hW
  obtain ⟨c1, c2⟩ := HC.out W
  refine wp_region_quiet_below (by kernel_rfl) (by kernel_rfl) ?_
  repeat (first
    | (refine q_form HX.out lf (by rfl) rfl rfl ?_)
    | (refine q_form HY.out lg (by rfl) rfl rfl ?_)
    | (refine q_row HZ.out lv (by rfl) rfl rfl ?_)
    | (quiet_step (first | with_reducible exact c1 _ _ | with_reducible exact c2 _ _)))
  refine wpQuiet_nil ?_
  intro _ hw'
  obtain ⟨⟨dq, osq⟩, hw''⟩ := hw'
  subst hw''
  have hbq := below_regrown W dq osq
  have HXq := Lib.hid (kb hbq HX.out)
  have HYq := Lib.hid (kb hbq HY.out)
  have HZq := Lib.hid (kb hbq HZ.out)
  have HBq := Lib.hid (below2 HB.out hbq)
  clear hbq c1 c2 HX HY HZ HB
  generalize Sort.grow (redrawn W dq) osq = Wq at *
  obtain ⟨c1, c2, c3, c4, c5, c6⟩ := HC3.out Wq
  have cK := q_knows Wq
  go_wp2_with fail
  refine wp_region_quiet_below (by kernel_rfl) (by kernel_rfl) ?_
  repeat (first
    | (refine q_form HXq.out lf (by rfl) rfl rfl ?_)
    | (refine q_form HYq.out lg (by rfl) rfl rfl ?_)
    | (refine q_row HZq.out lv (by rfl) rfl rfl ?_)
    | (quiet_step (first | with_reducible exact c1 _ _ | with_reducible exact c2 _ _ | with_reducible exact c3 _ _ | with_reducible exact c4 _ _ | with_reducible exact c5 _ _ | with_reducible exact c6 _ _ | with_reducible exact cK _ _)))
  refine wpQuiet_nil ?_
  intro _ hw'
  obtain ⟨⟨dq, osq⟩, hw''⟩ := hw'
  subst hw''
  have hbq := below_regrown Wq dq osq
  have HBr := Lib.hid (below2 HBq.out hbq)
  clear hbq
  generalize Sort.grow (redrawn Wq dq) osq = Wr at *
  go_wp2_with fail
  go_ret
  exact ⟨rfl, HBr.out⟩
theorem walk (f g : List Nat) (k : Int) (v : List Nat) (w : World) (hf : FOk f) (hg : FOk g) (h0 : 0 ≤ k) (h1 : k ≤ 4294967295) (hv : VOk v) :
    Calls Try.prog 6 #[formV f, formV g, .int .u32 k, formV v] w fun e w' => e = .returned (.bool true) ∧ Below w.heap.size w w' := by
  obtain ⟨k, rfl⟩ : ∃ n : Nat, k = n := ⟨k.toNat, by omega⟩
  exact walk_at f g k v w hf hg (by omega) hv

set_option maxRecDepth 100000 in
/-- The row's contract, for every argument and every world. -/
theorem contract (H : Type) (enc : TypeId × Value → H) (W : World) (base : Nat) (args : Array Value) (ds gs : List (DataW H)) (before : List MemPlace)
    (hval : ∀ (j : Nat) t v, Try.f6.params[j]? = some t → args[j]? = some v → Value.okWide Try.prog W .any base t v)
    (hW : DataW.Whole enc Try.prog Try.f6.params.toList Rows.affineSumsSpec.vars false W args.toList ds gs before) (_hL : laidMetH Try.prog Rows.affineSumsRow.laid W) :
    Calls Try.prog 6 args W fun e W' => ∃ v, e = .returned v ∧ Rows.affineSumsSpec.post enc Try.prog Try.f6 false true false false W args v W' := by
  have hW' := hW
  obtain ⟨p, q, hA0, hV, rfl, hfz, hnd⟩ := hW
  have hA : DataW.TrodAll enc Try.prog W 0 (fun _ => true) true Try.f6.params.toList args.toList ds p := hA0
  rw [Try.params6] at hA hval
  obtain ⟨v0, vs0, d0, ds0, p0, q0, hargs0, rfl, rfl, t0, r0⟩ := trodAll_cons hA
  obtain ⟨v1, vs1, d1, ds1, p1, q1, hargs1, rfl, rfl, t1, r1⟩ := trodAll_cons r0
  obtain ⟨v2, vs2, d2, ds2, p2, q2, hargs2, rfl, rfl, t2, r2⟩ := trodAll_cons r1
  obtain ⟨v3, vs3, d3, ds3, p3, q3, hargs3, rfl, rfl, t3, r3⟩ := trodAll_cons r2
  obtain ⟨rfl, rfl, rfl⟩ := trodAll_nil r3
  obtain rfl : args = #[v0, v1, v2, v3] := by cases args; simp_all
  obtain ⟨f, rfl, hd0⟩ := open_form (hval 0 25 v0 rfl rfl) t0
  obtain ⟨g, rfl, hd1⟩ := open_form (hval 1 25 v1 rfl rfl) t1
  obtain ⟨k, rfl, rfl, rfl, wf2⟩ := open_int Try.underlying22 (hval 2 22 v2 rfl rfl) t2
  have bd2 := bounds_u32 wf2
  obtain ⟨v, rfl, hd3⟩ := open_asg (hval 3 23 v3 rfl rfl) t3
  refine (walk f g k v W hd0 hd1 bd2.1 bd2.2 hd3).mono fun e W' ⟨he, hg⟩ => ?_
  subst he
  exact ⟨_, rfl, law_post (tb := 4) laidOut (fun t ht => by rw [Try.params6] at ht; revert t; exact of_decide_eq_true (by kernel_rfl)) (by kernel_rfl) Try.underlying4 rfl
    (fun ds h => by rw [Try.params6] at h; match ds, h with | [_, _, _, _], _ => rfl) hW' hg⟩

theorem laid_met (os : Os) : laidMet Try.prog Rows.affineSumsRow.laid ((laidWorldJ os).forCall (fun _ _ => 0) ⟨#[], #[.agg (numsC zeroF), .agg (numsC zeroF), .int .u32 0, .agg (numsC zeros)], []⟩).memory :=
  laidMet_nil _ _
theorem reads (os : Os) {H : Type} (enc : TypeId × Value → H) : ∃ places, DataW.whole enc Try.prog ((laidWorldJ os).forCall (fun _ _ => 0) ⟨#[], #[.agg (numsC zeroF), .agg (numsC zeroF), .int .u32 0, .agg (numsC zeros)], []⟩).memory Try.f6.params.toList Rows.affineSumsSpec.vars false #[Value.agg (numsC zeroF), Value.agg (numsC zeroF), Value.int .u32 0, Value.agg (numsC zeros)].toList 8 = some ([.agg [.lit (.int .u32 0), .agg (List.replicate 34 (.lit (.int .u32 0)))], .agg [.lit (.int .u32 0), .agg (List.replicate 34 (.lit (.int .u32 0)))], .lit (.int .u32 0), .agg (List.replicate 34 (.lit (.int .u32 0)))], [], places) :=
  ⟨[], by kernel_rfl⟩

set_option maxRecDepth 100000 in
theorem lifted (os : Os) (started : os.Started) (H : Type) (enc : TypeId × Value → H) (F : Stop.Interp) :
    ReturnsInHanded {} Try.checked os 6 .any ((OpenSpec.ofChange Rows.affineSumsSpec).preRow enc Try.prog Try.f6 Rows.affineSumsRow.domain false Rows.affineSumsRow.laid) (((OpenSpec.ofChange Rows.affineSumsSpec).at F).post enc Try.prog Try.f6 false true false false) := by
  obtain ⟨places, hx⟩ := reads os enc
  refine returnsInHanded_of_row (C := Try.checked) (s := OpenSpec.ofChange Rows.affineSumsSpec) own started (by kernel_rfl) Try.func6
    (witness_row_at (enc := enc) (C := Try.checked) false (laidWorldJ os) #[.agg (numsC zeroF), .agg (numsC zeroF), .int .u32 0, .agg (numsC zeros)] rfl (by kernel_rfl) (by kernel_rfl) (by kernel_rfl)
      (OpenSpec.preRow_of_cond 8 hx (by kernel_rfl) (fun k hk => by cases hk) (by kernel_rfl) (laid_met os))) ?_
  intro W base args ds gs before hval hW _ _ _ hL _ _
  exact contract H enc W base args ds gs before hval hW hL

theorem said : Rows.AffineSumsSaid :=
  OpenClaim.holds_of_cond 6 Try.f6 rfl rfl rfl rfl rfl rfl rfl ⟨rfl, rfl, rfl, rfl, rfl⟩ rfl rfl rfl rfl rfl (by kernel_rfl) Try.func6 (by kernel_rfl)
    (of_decide_eq_true (by kernel_rfl)) (by unfold Func.isWrapper; first | (rw [if_pos (by decide +kernel)]; kernel_rfl) | (rw [if_neg (by decide +kernel)]; exact ⟨rfl, rfl⟩))
    (fun os started H enc _ F => by rw [OpenClaim.pre_eq_preRow]; exact lifted os started H enc F)

end Go.Proofs.Ytkfhmcpdodnbhaa.affineSums
