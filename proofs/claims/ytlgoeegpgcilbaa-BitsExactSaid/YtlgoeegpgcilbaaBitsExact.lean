/-
  For every two forms and any assignment: the law BitsExact returns true and changes nothing that was there.
-/
import Derived.Test.YtlgoeegpgcilbaaProg
import Derived.WalkKit
import Derived.Laws.BitsAllLaws
import Derived.ProofKit
import Derived.Lib.Hide
import Derived.Laws.Rows
import Derived.Laws.ResultCell
import Derived.Laws.Entries
import Derived.Handy
import Derived.OwnWalk
import Derived.Laws.OwnMore
import Derived.Deep.Draws
import Derived.Laws.IdiomStrings
import Derived.Lib.BufferRead
import Derived.Maps.OwnSet
import Derived.Laws.Tables
import Derived.Deep.DeepCutAuto
import Derived.DeepKeys
import Derived.Laws.StructEq
import Derived.Deep.RegionHeld3
import Derived.BigRegion
import Derived.BigQuiet
import Derived.Test.YtlgoeegpgcilbaaRows
import Derived.OpenShut
import Derived.Carry
import Derived.Deep.DeepHandedRow
import Derived.Lib.SmallJoins
import Derived.Deep.OwnRows
import Derived.Lib.QuietBelow
import Derived.RowKit
import Derived.Deep.QuietTactic
import Derived.Deep.CutBlock
import Derived.Stop.Joined
import Derived.Shelf.Sort.Plain
import Derived.Shelf.Slices.Turned
import Derived.Shelf.Slices.Equal
import Derived.Ground.Names2Prog
import Derived.Shelf.Slices.CompactI
import Derived.Shelf.Slices.In.SortNone
import Derived.Lib.AppendZerosOnto
import Derived.Lib.SliceRun
import Derived.Lib.OwnBridge
import Derived.Sort.OwnSortedInts
import Derived.Deep.MidRow
import Derived.Great.BuildSlice
import Derived.Test.YtlgoeegpgcilbaaPk1
import Derived.Test.YtlgoeegpgcilbaaPk2
import Derived.Test.YtlgoeegpgcilbaaPk3
import Derived.Test.YtlgoeegpgcilbaaPk4
import Derived.Test.YtlgoeegpgcilbaaPk5
import Derived.Test.YtlgoeegpgcilbaaPk6
namespace Go.Proofs.Ytlgoeegpgcilbaa.bitsExact
open Go.ChangeShapes Go.WideShapes Go.ChangeAt Go.RowKit

theorem great_at {v : Value} {l : List Int} {t : List Nat} {B : Bool} {w : World} (hB : B = (decide (50 < l.length) || decide (100 < t.length))) (h : GF w v l t) : Calls Try.prog 9 #[v] w fun e w' => e = .returned (.bool B) ∧ Below w.heap.size w w' := by
  rw [hB]
  exact ggreat_any v l t w h
theorem small_if {l : List Int} {t : List Nat} (hl : ∀ n ∈ l, -9223372036854775808 ≤ n ∧ n ≤ 9223372036854775807) (ht : ∀ n ∈ t, n < 4294967296) (h : false = (decide (50 < l.length) || decide (100 < t.length))) : Small l t := by
  have h2 := h.symm
  rw [Bool.or_eq_false_iff, decide_eq_false_iff_not, decide_eq_false_iff_not] at h2
  exact ⟨by omega, by omega, hl, ht⟩
set_option maxHeartbeats 8000000 in
theorem walk (vf : Value) (l : List Int) (t : List Nat) (vg : Value) (m : List Int) (s : List Nat) (V : List Nat) (w : World) (hf : GF w vf l t) (hli : ∀ n ∈ l, -9223372036854775808 ≤ n ∧ n ≤ 9223372036854775807) (ht : ∀ n ∈ t, n < 4294967296) (hg : GF w vg m s) (hmi : ∀ n ∈ m, -9223372036854775808 ≤ n ∧ n ≤ 9223372036854775807) (hs : ∀ n ∈ s, n < 4294967296) (hV : VOk V) :
    Calls Try.prog 7 #[vf, vg, formV V] w fun e w' => e = .returned (.bool true) ∧ Below w.heap.size w w' := by
  obtain ⟨f1, f2, rfl, p1, p2⟩ := hf.split
  obtain ⟨g1, g2, rfl, p3, p4⟩ := hg.split
  obtain ⟨W, hW, h0, h1, h2, hb⟩ := box3 w (bfB f1 f2) (bfB g1 g2) (rowB V)
  have h2 : W.heap[w.heap.size + 1 + 1]? = _ := h2
  have HX := Lib.hid h0
  have HY := Lib.hid h1
  have HV := Lib.hid h2
  have HB := Lib.hid hb
  have HF := Lib.hid (hf.below hb)
  have HG := Lib.hid (hg.below hb)
  obtain ⟨B1, hB1⟩ : ∃ B, B = (decide (50 < l.length) || decide (100 < t.length)) := ⟨_, rfl⟩
  obtain ⟨B2, hB2⟩ : ∃ B, B = (decide (50 < m.length) || decide (100 < s.length)) := ⟨_, rfl⟩
  have HB1 := Lib.hid hB1
  have HB2 := Lib.hid hB2
  have HS1 : Hid (B1 = false → Small l t) := Lib.hid fun h => by subst h; exact small_if hli ht hB1
  have HS2 : Hid (B2 = false → Small m s) := Lib.hid fun h => by subst h; exact small_if hmi hs hB2
  clear hf hg hb hB1 hB2 hli hmi h0 h1 h2
  have HVL := Lib.hid hV.1
  go_enter Try.func7, Try.ntmps7
  go_upto_region 1 with fail
  rw [← hW]
  clear hW
  go_wp2_with (refine ld_bf HX.out rfl rfl rfl ?_)
  refine (great_at HB1.out HF.out).mono ?_
  rintro e w1 ⟨rfl, hb1⟩
  replace HX := Lib.hid (kb hb1 HX.out)
  replace HY := Lib.hid (kb hb1 HY.out)
  replace HV := Lib.hid (kb hb1 HV.out)
  replace HF := Lib.hid (HF.out.below hb1)
  replace HG := Lib.hid (HG.out.below hb1)
  replace HB := Lib.hid (below2 HB.out hb1)
  clear hb1
  cases B1 with
  | true =>
    go_wp2_with fail
    refine (gknow_any _).mono ?_
    rintro e w9 ⟨rfl, hb9⟩
    replace HB := Lib.hid (below2 HB.out hb9)
    clear hb9
    go_wp2_with fail
    go_ret
    exact ⟨rfl, HB.out⟩
  | false =>
    replace HS1 := Lib.hid (HS1.out rfl)
    go_wp2_with (refine ld_bfg HY.out (by rfl) rfl rfl ?_)
    refine (great_at HB2.out HG.out).mono ?_
    rintro e w2 ⟨rfl, hb2⟩
    replace HX := Lib.hid (kb hb2 HX.out)
    replace HY := Lib.hid (kb hb2 HY.out)
    replace HV := Lib.hid (kb hb2 HV.out)
    replace HF := Lib.hid (HF.out.below hb2)
    replace HG := Lib.hid (HG.out.below hb2)
    replace HB := Lib.hid (below2 HB.out hb2)
    clear hb2 HB1
    cases B2 with
    | true =>
      go_wp2_with fail
      refine (gknow_any _).mono ?_
      rintro e w9 ⟨rfl, hb9⟩
      replace HB := Lib.hid (below2 HB.out hb9)
      clear hb9
      go_wp2_with fail
      go_ret
      exact ⟨rfl, HB.out⟩
    | false =>
      replace HS2 := Lib.hid (HS2.out rfl)
      clear HB2
      go_wp2_with (first | (refine ld_bf HX.out rfl rfl rfl ?_) | (refine ld_bfg HX.out (by rfl) rfl rfl ?_) | (refine ld_bf HY.out rfl rfl rfl ?_) | (refine ld_bfg HY.out (by rfl) rfl rfl ?_))
      refine (gas_any _ l t _ HF.out).mono ?_
      rintro e w3 ⟨rfl, hb3⟩
      replace HX := Lib.hid (kb hb3 HX.out)
      replace HY := Lib.hid (kb hb3 HY.out)
      replace HV := Lib.hid (kb hb3 HV.out)
      replace HF := Lib.hid (HF.out.below hb3)
      replace HG := Lib.hid (HG.out.below hb3)
      replace HB := Lib.hid (below2 HB.out hb3)
      clear hb3
      go_wp2_with fail
      refine (gright_any _ l t _ HF.out).mono ?_
      rintro e w4 ⟨rfl, hb4⟩
      replace HX := Lib.hid (kb hb4 HX.out)
      replace HY := Lib.hid (kb hb4 HY.out)
      replace HV := Lib.hid (kb hb4 HV.out)
      replace HF := Lib.hid (HF.out.below hb4)
      replace HG := Lib.hid (HG.out.below hb4)
      replace HB := Lib.hid (below2 HB.out hb4)
      clear hb4
      generalize hR1 : rightB l t = R1 at *
      cases R1 with
      | false =>
        go_wp2_with fail
        refine (gknow_any _).mono ?_
        rintro e w9 ⟨rfl, hb9⟩
        replace HB := Lib.hid (below2 HB.out hb9)
        clear hb9
        go_wp2_with fail
        go_ret
        exact ⟨rfl, HB.out⟩
      | true =>
        go_wp2_with (first | (refine ld_bf HX.out rfl rfl rfl ?_) | (refine ld_bfg HX.out (by rfl) rfl rfl ?_) | (refine ld_bf HY.out rfl rfl rfl ?_) | (refine ld_bfg HY.out (by rfl) rfl rfl ?_))
        refine (gas_any _ m s _ HG.out).mono ?_
        rintro e w5 ⟨rfl, hb5⟩
        replace HX := Lib.hid (kb hb5 HX.out)
        replace HY := Lib.hid (kb hb5 HY.out)
        replace HV := Lib.hid (kb hb5 HV.out)
        replace HF := Lib.hid (HF.out.below hb5)
        replace HG := Lib.hid (HG.out.below hb5)
        replace HB := Lib.hid (below2 HB.out hb5)
        clear hb5
        go_wp2_with fail
        refine (gright_any _ m s _ HG.out).mono ?_
        rintro e w6 ⟨rfl, hb6⟩
        replace HX := Lib.hid (kb hb6 HX.out)
        replace HY := Lib.hid (kb hb6 HY.out)
        replace HV := Lib.hid (kb hb6 HV.out)
        replace HF := Lib.hid (HF.out.below hb6)
        replace HG := Lib.hid (HG.out.below hb6)
        replace HB := Lib.hid (below2 HB.out hb6)
        clear hb6
        generalize hR2 : rightB m s = R2 at *
        cases R2 with
        | false =>
          go_wp2_with fail
          refine (gknow_any _).mono ?_
          rintro e w9 ⟨rfl, hb9⟩
          replace HB := Lib.hid (below2 HB.out hb9)
          clear hb9
          go_wp2_with fail
          go_ret
          exact ⟨rfl, HB.out⟩
        | true =>
          go_wp2_with (first | (refine ld_bf HX.out rfl rfl rfl ?_) | (refine ld_bfg HX.out (by rfl) rfl rfl ?_) | (refine ld_bf HY.out rfl rfl rfl ?_) | (refine ld_bfg HY.out (by rfl) rfl rfl ?_))
          refine (bapart_any _ _ l m t s _ HF.out HG.out HS1.out HS2.out).mono ?_
          rintro e w7 ⟨A, b, rfl, hA, hP, hb7⟩
          replace HX := Lib.hid (kb hb7 HX.out)
          replace HY := Lib.hid (kb hb7 HY.out)
          replace HV := Lib.hid (kb hb7 HV.out)
          replace HF := Lib.hid (HF.out.below hb7)
          replace HG := Lib.hid (HG.out.below hb7)
          replace HB := Lib.hid (below2 HB.out hb7)
          clear hb7
          obtain ⟨hbd, hne⟩ := ap_right ht hs (right_yes hR1) (right_yes hR2) hP
          obtain ⟨D, hD⟩ : ∃ D, D = decide (l = m ∧ t = s) := ⟨_, rfl⟩
          rw [← hD] at hbd
          subst hbd
          have HAL := Lib.hid hA.1
          have hsz := HB.out.size
          have cS : ∀ U, GF U (.agg #[f1, f2]) l t → GF U (.agg #[g1, g2]) m s → Calls Try.prog 17 #[.agg #[f1, f2], .agg #[g1, g2]] U fun e w' => e = .returned (.bool D) ∧ Below U.heap.size U w' := fun U h h' => by rw [hD]; exact bsame_any _ _ l m t s U h h' HS1.out HS2.out
          have CS := Lib.hid cS
          clear cS hP
          cases D with
          | true =>
            obtain ⟨rfl, rfl⟩ : l = m ∧ t = s := of_decide_eq_true hD.symm
            clear hne hD hA hR2 HS2
            have cE : ∀ U v, GF U v l t → Calls Try.prog 13 #[v, formV V] U fun e w' => e = .returned (.tuple #[.int .u32 (evalB l t (mAt V) : Nat), .bool true]) ∧ Below U.heap.size U w' := fun U v h => by have h2 := beval_any v l t V U h HS1.out hV; rw [hR1] at h2; exact h2
            have CE := Lib.hid cE
            clear cE hR1
            generalize evalB l t (mAt V) = A1 at *
            go_wp2_with (first | (refine st_row (heap_alloc_new _ _) rfl HAL.out rfl rfl rfl rfl ?_; intro W3 hp3; have HP3 := Lib.hid hp3; have HX3 := Lib.hid ((hp3.below (ba _ (Below.refl _ _)) (Nat.le_refl _)).block _ (lt_of_block HX.out) |>.trans HX.out); have HY3 := Lib.hid ((hp3.below (ba _ (Below.refl _ _)) (Nat.le_refl _)).block _ (lt_of_block HY.out) |>.trans HY.out); clear hp3) | (refine ld_bf HX3.out rfl rfl rfl ?_) | (refine ld_bf HY3.out rfl rfl rfl ?_))
            have hbS : Below w7.heap.size w7 W3 := HP3.out.below (ba _ (Below.refl _ _)) (Nat.le_refl _)
            replace HX := Lib.hid (kb hbS HX.out)
            replace HY := Lib.hid (kb hbS HY.out)
            replace HV := Lib.hid (kb hbS HV.out)
            replace HF := Lib.hid (HF.out.below hbS)
            replace HG := Lib.hid (HG.out.below hbS)
            replace HB := Lib.hid (below2 HB.out hbS)
            clear hbS
            clear HP3 HX3 HY3
            refine (CS.out _ HF.out HG.out).mono ?_
            rintro e w10 ⟨rfl, hb10⟩
            replace HX := Lib.hid (kb hb10 HX.out)
            replace HY := Lib.hid (kb hb10 HY.out)
            replace HV := Lib.hid (kb hb10 HV.out)
            replace HF := Lib.hid (HF.out.below hb10)
            replace HG := Lib.hid (HG.out.below hb10)
            replace HB := Lib.hid (below2 HB.out hb10)
            clear hb10
            go_wp2_with (first | (refine ld_bf HX.out rfl rfl rfl ?_) | (refine ld_bfg HX.out (by rfl) rfl rfl ?_) | (refine ld_bf HY.out rfl rfl rfl ?_) | (refine ld_bfg HY.out (by rfl) rfl rfl ?_) | (refine ld_row HV.out HVL.out rfl rfl rfl ?_))
            refine (CE.out _ _ HF.out).mono ?_
            rintro e w11 ⟨rfl, hb11⟩
            replace HY := Lib.hid (kb hb11 HY.out)
            replace HV := Lib.hid (kb hb11 HV.out)
            replace HG := Lib.hid (HG.out.below hb11)
            replace HB := Lib.hid (below2 HB.out hb11)
            clear hb11
            go_wp2_with (first | (refine ld_bf HY.out rfl rfl rfl ?_) | (refine ld_bfg HY.out (by rfl) rfl rfl ?_) | (refine ld_row HV.out HVL.out rfl rfl rfl ?_))
            refine (CE.out _ _ HG.out).mono ?_
            rintro e w12 ⟨rfl, hb12⟩
            replace HB := Lib.hid (below2 HB.out hb12)
            clear hb12
            go_wp2_with fail
            refine (gknow_any _).mono ?_
            rintro e w9 ⟨rfl, hb9⟩
            replace HB := Lib.hid (below2 HB.out hb9)
            clear hb9
            go_wp2_with fail
            go_ret
            exact ⟨rfl, HB.out⟩
          | false =>
            have hx := hne rfl
            clear hne hD hV
            obtain ⟨A1, hA1⟩ : ∃ A1, A1 = evalB l t (mAt A) := ⟨_, rfl⟩
            obtain ⟨A2, hA2⟩ : ∃ A2, A2 = evalB m s (mAt A) := ⟨_, rfl⟩
            rw [← hA1, ← hA2] at hx
            have gg : ((A1 : Int) == (A2 : Int)) = false := by simp; omega
            have gn : ((A1 : Int) != (A2 : Int)) = true := by simp; omega
            have cE1 : ∀ U v, GF U v l t → Calls Try.prog 13 #[v, formV A] U fun e w' => e = .returned (.tuple #[.int .u32 (A1 : Nat), .bool true]) ∧ Below U.heap.size U w' := fun U v h => by have h2 := beval_any v l t A U h HS1.out hA; rw [hR1, ← hA1] at h2; exact h2
            have cE2 : ∀ U v, GF U v m s → Calls Try.prog 13 #[v, formV A] U fun e w' => e = .returned (.tuple #[.int .u32 (A2 : Nat), .bool true]) ∧ Below U.heap.size U w' := fun U v h => by have h2 := beval_any v m s A U h HS2.out hA; rw [hR2, ← hA2] at h2; exact h2
            have CE1 := Lib.hid cE1
            have CE2 := Lib.hid cE2
            clear cE1 cE2 hR1 hR2 hA hA1 hA2 hx
            go_wp2_with (first | (refine st_row (heap_alloc_new _ _) rfl HAL.out rfl rfl rfl rfl ?_; intro W3 hp3; have HP3 := Lib.hid hp3; have HX3 := Lib.hid ((hp3.below (ba _ (Below.refl _ _)) (Nat.le_refl _)).block _ (lt_of_block HX.out) |>.trans HX.out); have HY3 := Lib.hid ((hp3.below (ba _ (Below.refl _ _)) (Nat.le_refl _)).block _ (lt_of_block HY.out) |>.trans HY.out); clear hp3) | (refine ld_bf HX3.out rfl rfl rfl ?_) | (refine ld_bf HY3.out rfl rfl rfl ?_))
            have hbS : Below w7.heap.size w7 W3 := HP3.out.below (ba _ (Below.refl _ _)) (Nat.le_refl _)
            replace HX := Lib.hid (kb hbS HX.out)
            replace HY := Lib.hid (kb hbS HY.out)
            replace HF := Lib.hid (HF.out.below hbS)
            replace HG := Lib.hid (HG.out.below hbS)
            replace HB := Lib.hid (below2 HB.out hbS)
            clear hbS
            have HW := Lib.hid HP3.out.row
            clear HP3 HX3 HY3 HV
            generalize w7.heap.size = gw at *
            refine (CS.out _ HF.out HG.out).mono ?_
            rintro e w10 ⟨rfl, hb10⟩
            replace HX := Lib.hid (kb hb10 HX.out)
            replace HY := Lib.hid (kb hb10 HY.out)
            replace HW := Lib.hid (kb hb10 HW.out)
            replace HF := Lib.hid (HF.out.below hb10)
            replace HG := Lib.hid (HG.out.below hb10)
            replace HB := Lib.hid (below2 HB.out hb10)
            clear hb10
            go_wp2_with (first | (refine ld_bf HX.out rfl rfl rfl ?_) | (refine ld_bfg HX.out (by rfl) rfl rfl ?_) | (refine ld_bf HY.out rfl rfl rfl ?_) | (refine ld_bfg HY.out (by rfl) rfl rfl ?_) | (refine ld_row HW.out HAL.out rfl rfl rfl ?_))
            refine (CE1.out _ _ HF.out).mono ?_
            rintro e w11 ⟨rfl, hb11⟩
            replace HY := Lib.hid (kb hb11 HY.out)
            replace HW := Lib.hid (kb hb11 HW.out)
            replace HG := Lib.hid (HG.out.below hb11)
            replace HB := Lib.hid (below2 HB.out hb11)
            clear hb11
            go_wp2_with (first | (refine ld_bf HY.out rfl rfl rfl ?_) | (refine ld_bfg HY.out (by rfl) rfl rfl ?_) | (refine ld_row HW.out HAL.out rfl rfl rfl ?_))
            refine (CE2.out _ _ HG.out).mono ?_
            rintro e w12 ⟨rfl, hb12⟩
            replace HB := Lib.hid (below2 HB.out hb12)
            clear hb12
            go_wp2_with fail
            refine (gknow_any _).mono ?_
            rintro e w9 ⟨rfl, hb9⟩
            replace HB := Lib.hid (below2 HB.out hb9)
            clear hb9
            go_wp2_with fail
            go_ret
            exact ⟨rfl, HB.out⟩

set_option maxRecDepth 100000 in
/-- The row's contract, for every argument and every world. -/
theorem contract (H : Type) (enc : TypeId × Value → H) (W : World) (base : Nat) (args : Array Value) (ds gs : List (DataW H)) (before : List MemPlace)
    (hval : ∀ (j : Nat) t v, Try.f7.params[j]? = some t → args[j]? = some v → Value.okWide Try.prog W .any base t v)
    (hW : DataW.Whole enc Try.prog Try.f7.params.toList Rows.bitsExactSpec.vars false W args.toList ds gs before) (_hL : laidMetH Try.prog Rows.bitsExactRow.laid W) :
    Calls Try.prog 7 args W fun e W' => ∃ v, e = .returned v ∧ Rows.bitsExactSpec.post enc Try.prog Try.f7 false true false false W args v W' := by
  have hW' := hW
  obtain ⟨p, q, hA0, hV, rfl, hfz, hnd⟩ := hW
  have hA : DataW.TrodAll enc Try.prog W 0 (fun _ => true) true Try.f7.params.toList args.toList ds p := hA0
  rw [Try.params7] at hA hval
  obtain ⟨v0, vs0, d0, ds0, p0, q0, hargs0, rfl, rfl, t0, r0⟩ := trodAll_cons hA
  obtain ⟨v1, vs1, d1, ds1, p1, q1, hargs1, rfl, rfl, t1, r1⟩ := trodAll_cons r0
  obtain ⟨v2, vs2, d2, ds2, p2, q2, hargs2, rfl, rfl, t2, r2⟩ := trodAll_cons r1
  obtain ⟨rfl, rfl, rfl⟩ := trodAll_nil r2
  obtain rfl : args = #[v0, v1, v2] := by cases args; simp_all
  obtain ⟨fl, ft, hG0, _, _, hb0, hm0⟩ := open_bform (hval 0 25 v0 rfl rfl) t0
  obtain ⟨gl, gt, hG1, _, _, hb1, hm1⟩ := open_bform (hval 1 25 v1 rfl rfl) t1
  obtain ⟨V, rfl, hd2⟩ := open_asg (hval 2 27 v2 rfl rfl) t2
  refine (walk v0 fl ft v1 gl gt V W hG0 hb0 hm0 hG1 hb1 hm1 hd2).mono fun e W' ⟨he, hg⟩ => ?_
  subst he
  exact ⟨_, rfl, law_post (tb := 4) laidOut (fun t ht => by rw [Try.params7] at ht; revert t; exact of_decide_eq_true (by kernel_rfl)) (by kernel_rfl) Try.underlying4 rfl
    (fun ds h => by rw [Try.params7] at h; match ds, h with | [_, _, _], _ => rfl) hW' hg⟩

theorem laid_met (os : Os) : laidMet Try.prog Rows.bitsExactRow.laid ((laidWorldG os).forCall (fun _ _ => 0) ⟨#[], #[.agg #[.slice none 0 0, .slice none 0 0], .agg #[.slice none 0 0, .slice none 0 0], .agg (numsC zeros)], []⟩).memory :=
  laidMet_nil _ _
theorem reads (os : Os) {H : Type} (enc : TypeId × Value → H) : ∃ places, DataW.whole enc Try.prog ((laidWorldG os).forCall (fun _ _ => 0) ⟨#[], #[.agg #[.slice none 0 0, .slice none 0 0], .agg #[.slice none 0 0, .slice none 0 0], .agg (numsC zeros)], []⟩).memory Try.f7.params.toList Rows.bitsExactSpec.vars false #[Value.agg #[.slice none 0 0, .slice none 0 0], Value.agg #[.slice none 0 0, .slice none 0 0], Value.agg (numsC zeros)].toList 8 = some ([.agg [.nil, .nil], .agg [.nil, .nil], .agg (List.replicate 34 (.lit (.int .u32 0)))], [], places) :=
  ⟨[], by kernel_rfl⟩

set_option maxRecDepth 100000 in
theorem lifted (os : Os) (started : os.Started) (H : Type) (enc : TypeId × Value → H) (F : Stop.Interp) :
    ReturnsInHanded {} Try.checked os 7 .any ((OpenSpec.ofChange Rows.bitsExactSpec).preRow enc Try.prog Try.f7 Rows.bitsExactRow.domain false Rows.bitsExactRow.laid) (((OpenSpec.ofChange Rows.bitsExactSpec).at F).post enc Try.prog Try.f7 false true false false) := by
  obtain ⟨places, hx⟩ := reads os enc
  refine returnsInHanded_of_row (C := Try.checked) (s := OpenSpec.ofChange Rows.bitsExactSpec) own started (by kernel_rfl) Try.func7
    (witness_row_at (enc := enc) (C := Try.checked) false (laidWorldG os) #[.agg #[.slice none 0 0, .slice none 0 0], .agg #[.slice none 0 0, .slice none 0 0], .agg (numsC zeros)] rfl (by kernel_rfl) (by kernel_rfl) (by kernel_rfl)
      (OpenSpec.preRow_of_cond 8 hx (by kernel_rfl) (fun k hk => by cases hk) (by kernel_rfl) (laid_met os))) ?_
  intro W base args ds gs before hval hW _ _ _ hL _ _
  exact contract H enc W base args ds gs before hval hW hL

theorem said : Rows.BitsExactSaid :=
  OpenClaim.holds_of_cond 7 Try.f7 rfl rfl rfl rfl rfl rfl rfl ⟨rfl, rfl, rfl, rfl, rfl⟩ rfl rfl rfl rfl rfl (by kernel_rfl) Try.func7 (by kernel_rfl)
    (of_decide_eq_true (by kernel_rfl)) (by unfold Func.isWrapper; first | (rw [if_pos (by decide +kernel)]; kernel_rfl) | (rw [if_neg (by decide +kernel)]; exact ⟨rfl, rfl⟩))
    (fun os started H enc _ F => by rw [OpenClaim.pre_eq_preRow]; exact lifted os started H enc F)

end Go.Proofs.Ytlgoeegpgcilbaa.bitsExact
