/-
  For every kind, every two forms and any assignment: the law BitsValues returns true and changes nothing that was there.
-/
import Derived.Test.YtlgoeegpgcilbaaProg
import Derived.WalkKit
import Derived.Laws.BitsAllLaws
import Derived.ProofKit
import Derived.Lib.Hide
import Derived.Laws.Rows
import Derived.Laws.ResultCell
import Derived.Laws.Entries
import Derived.Handy
import Derived.OwnWalk
import Derived.Laws.OwnMore
import Derived.Deep.Draws
import Derived.Laws.IdiomStrings
import Derived.Lib.BufferRead
import Derived.Maps.OwnSet
import Derived.Laws.Tables
import Derived.Deep.DeepCutAuto
import Derived.DeepKeys
import Derived.Laws.StructEq
import Derived.Deep.RegionHeld3
import Derived.BigRegion
import Derived.BigQuiet
import Derived.Test.YtlgoeegpgcilbaaRows
import Derived.OpenShut
import Derived.Carry
import Derived.Deep.DeepHandedRow
import Derived.Lib.SmallJoins
import Derived.Deep.OwnRows
import Derived.Lib.QuietBelow
import Derived.RowKit
import Derived.Deep.QuietTactic
import Derived.Deep.CutBlock
import Derived.Stop.Joined
import Derived.Shelf.Sort.Plain
import Derived.Shelf.Slices.Turned
import Derived.Shelf.Slices.Equal
import Derived.Ground.Names2Prog
import Derived.Shelf.Slices.CompactI
import Derived.Shelf.Slices.In.SortNone
import Derived.Lib.AppendZerosOnto
import Derived.Lib.SliceRun
import Derived.Lib.OwnBridge
import Derived.Sort.OwnSortedInts
import Derived.Deep.MidRow
import Derived.Great.BuildSlice
import Derived.Test.YtlgoeegpgcilbaaPk1
import Derived.Test.YtlgoeegpgcilbaaPk2
import Derived.Test.YtlgoeegpgcilbaaPk3
import Derived.Test.YtlgoeegpgcilbaaPk4
import Derived.Test.YtlgoeegpgcilbaaPk5
import Derived.Test.YtlgoeegpgcilbaaPk6
namespace Go.Proofs.Ytlgoeegpgcilbaa.bitsValues
open Go.ChangeShapes Go.WideShapes Go.ChangeAt Go.RowKit

theorem GF.tbs {w : World} {u1 u2 : Value} {l : List Int} {t : List Nat} (h : GF w (.agg #[u1, u2]) l t) : ∃ ao cap, u2 = .slice ao t.length cap := by
  obtain ⟨s1, s2, e, _, h2⟩ := h
  have e2 : u2 = s2 := by simp only [Value.agg.injEq] at e; have := congrArg (fun a : Array Value => a[1]?) e; simpa using this
  obtain ⟨a2, c2, h3⟩ := h2.shape
  exact ⟨a2, c2, by rw [e2, h3, natsI_len]⟩
theorem do_ok {k : Int} {b : Int} (hk : Bf.isK k) : Wd.doB k b = true := by
  rcases hk with rfl | rfl | rfl <;> rfl
theorem great_at {v : Value} {l : List Int} {t : List Nat} {B : Bool} {w : World} (hB : B = (decide (50 < l.length) || decide (100 < t.length))) (h : GF w v l t) : Calls Try.prog 9 #[v] w fun e w' => e = .returned (.bool B) ∧ Below w.heap.size w w' := by
  rw [hB]
  exact ggreat_any v l t w h
theorem small_if {l : List Int} {t : List Nat} (hl : ∀ n ∈ l, -9223372036854775808 ≤ n ∧ n ≤ 9223372036854775807) (ht : ∀ n ∈ t, n < 4294967296) (h : false = (decide (50 < l.length) || decide (100 < t.length))) : Small l t := by
  have h2 := h.symm
  rw [Bool.or_eq_false_iff, decide_eq_false_iff_not, decide_eq_false_iff_not] at h2
  exact ⟨by omega, by omega, hl, ht⟩
set_option maxHeartbeats 8000000 in
theorem walk (k : Int) (vf : Value) (l : List Int) (t : List Nat) (vg : Value) (m : List Int) (s : List Nat) (V : List Nat) (w : World) (_hk0 : -9223372036854775808 ≤ k) (_hk1 : k ≤ 9223372036854775807) (hf : GF w vf l t) (hli : ∀ n ∈ l, -9223372036854775808 ≤ n ∧ n ≤ 9223372036854775807) (ht : ∀ n ∈ t, n < 4294967296) (hg : GF w vg m s) (hmi : ∀ n ∈ m, -9223372036854775808 ≤ n ∧ n ≤ 9223372036854775807) (hs : ∀ n ∈ s, n < 4294967296) (hV : VOk V) :
    Calls Try.prog 6 #[.int .i64 k, vf, vg, formV V] w fun e w' => e = .returned (.bool true) ∧ Below w.heap.size w w' := by
  obtain ⟨f1, f2, rfl, p1, p2⟩ := hf.split
  obtain ⟨g1, g2, rfl, p3, p4⟩ := hg.split
  obtain ⟨W, hW, h0, h1, h2, hb⟩ := box3 w (bfB f1 f2) (bfB g1 g2) (rowB V)
  have h2 : W.heap[w.heap.size + 1 + 1]? = _ := h2
  have HX := Lib.hid h0
  have HY := Lib.hid h1
  have HV := Lib.hid h2
  have HB := Lib.hid hb
  have HF := Lib.hid (hf.below hb)
  have HG := Lib.hid (hg.below hb)
  obtain ⟨B1, hB1⟩ : ∃ B, B = (decide (50 < l.length) || decide (100 < t.length)) := ⟨_, rfl⟩
  obtain ⟨B2, hB2⟩ : ∃ B, B = (decide (50 < m.length) || decide (100 < s.length)) := ⟨_, rfl⟩
  have HB1 := Lib.hid hB1
  have HB2 := Lib.hid hB2
  have HS1 : Hid (B1 = false → Small l t) := Lib.hid fun h => by subst h; exact small_if hli ht hB1
  have HS2 : Hid (B2 = false → Small m s) := Lib.hid fun h => by subst h; exact small_if hmi hs hB2
  clear hf hg hb hB1 hB2 hli hmi h0 h1 h2
  have HVL := Lib.hid hV.1
  go_enter Try.func6, Try.ntmps6
  go_upto_region 1 with fail
  rw [← hW]
  clear hW
  go_wp2_with (refine ld_bf HX.out rfl rfl rfl ?_)
  refine (great_at HB1.out HF.out).mono ?_
  rintro e w1 ⟨rfl, hb1⟩
  replace HX := Lib.hid (kb hb1 HX.out)
  replace HY := Lib.hid (kb hb1 HY.out)
  replace HV := Lib.hid (kb hb1 HV.out)
  replace HF := Lib.hid (HF.out.below hb1)
  replace HG := Lib.hid (HG.out.below hb1)
  replace HB := Lib.hid (below2 HB.out hb1)
  clear hb1
  cases B1 with
  | true =>
    go_wp2_with fail
    refine (gknow_any _).mono ?_
    rintro e w9 ⟨rfl, hb9⟩
    replace HB := Lib.hid (below2 HB.out hb9)
    clear hb9
    go_wp2_with fail
    go_ret
    exact ⟨rfl, HB.out⟩
  | false =>
    replace HS1 := Lib.hid (HS1.out rfl)
    go_wp2_with (refine ld_bfg HY.out (by rfl) rfl rfl ?_)
    refine (great_at HB2.out HG.out).mono ?_
    rintro e w2 ⟨rfl, hb2⟩
    replace HX := Lib.hid (kb hb2 HX.out)
    replace HY := Lib.hid (kb hb2 HY.out)
    replace HV := Lib.hid (kb hb2 HV.out)
    replace HF := Lib.hid (HF.out.below hb2)
    replace HG := Lib.hid (HG.out.below hb2)
    replace HB := Lib.hid (below2 HB.out hb2)
    clear hb2 HB1
    cases B2 with
    | true =>
      go_wp2_with fail
      refine (gknow_any _).mono ?_
      rintro e w9 ⟨rfl, hb9⟩
      replace HB := Lib.hid (below2 HB.out hb9)
      clear hb9
      go_wp2_with fail
      go_ret
      exact ⟨rfl, HB.out⟩
    | false =>
      replace HS2 := Lib.hid (HS2.out rfl)
      clear HB2
      go_wp2_with (first | (refine ld_bf HX.out rfl rfl rfl ?_) | (refine ld_bfg HX.out (by rfl) rfl rfl ?_) | (refine ld_bf HY.out rfl rfl rfl ?_) | (refine ld_bfg HY.out (by rfl) rfl rfl ?_))
      refine (bdo_any k _ _ l m t s _ HF.out HG.out HS1.out HS2.out).mono ?_
      rintro e w3 ⟨vd, rfl, hD, hb3⟩
      obtain ⟨d1, d2, rfl, p5, p6⟩ := hD.split
      replace HX := Lib.hid (kb hb3 HX.out)
      replace HY := Lib.hid (kb hb3 HY.out)
      replace HV := Lib.hid (kb hb3 HV.out)
      replace HF := Lib.hid (HF.out.below hb3)
      replace HG := Lib.hid (HG.out.below hb3)
      replace HB := Lib.hid (below2 HB.out hb3)
      have HD := Lib.hid hD
      have hsz := HB.out.size
      have hlX := lt_of_block HX.out
      have hlY := lt_of_block HY.out
      have hlV := lt_of_block HV.out
      clear hD hb3
      obtain ⟨D, hDD⟩ : ∃ D, D = doB k l t m s := ⟨_, rfl⟩
      rw [← hDD] at HD
      generalize hOK : okB k l t m s = B at *
      cases B with
      | false =>
        obtain rfl : D = ⟨[], []⟩ := hDD.trans (doB_no hOK)
        obtain ⟨ao, cap, rfl⟩ : ∃ ao cap, d2 = .slice ao 0 cap := GF.tbs HD.out
        clear hDD hOK
        go_wp2_with (first | (refine st_bf (heap_alloc_new _ _) rfl p5 p6 rfl rfl rfl rfl ?_; intro W3 hp3; have HP3 := Lib.hid hp3; have x1 := (cell_in hp3.row 1).trans rfl; clear hp3))
        replace HB := Lib.hid (HP3.out.below (ba _ HB.out) hsz)
        refine (gknow_any _).mono ?_
        rintro e w9 ⟨rfl, hb9⟩
        replace HB := Lib.hid (below2 HB.out hb9)
        clear hb9
        go_wp2_with fail
        go_ret
        exact ⟨rfl, HB.out⟩
      | true =>
        obtain ⟨hv, he⟩ := doB_is ht hs hOK
        rw [← hDD] at hv he
        have hk := (ok_yes hOK).1
        obtain ⟨A1, hA1⟩ : ∃ A, A = evalB l t (mAt V) := ⟨_, rfl⟩
        obtain ⟨A2, hA2⟩ : ∃ A, A = evalB m s (mAt V) := ⟨_, rfl⟩
        have l1 : A1 < 4294967296 := hA1 ▸ evalB_lt _ _ _
        have l2 : A2 < 4294967296 := hA2 ▸ evalB_lt _ _ _
        obtain ⟨C, hC⟩ : ∃ C, C = Bf.opK k A1 A2 := ⟨_, rfl⟩
        have cE1 : ∀ U, GF U (.agg #[f1, f2]) l t → Calls Try.prog 13 #[.agg #[f1, f2], formV V] U fun e w' => e = .returned (.tuple #[.int .u32 (A1 : Nat), .bool (rightB l t)]) ∧ Below U.heap.size U w' := fun U h => by rw [hA1]; exact beval_any _ l t V U h HS1.out hV
        have cE2 : ∀ U, GF U (.agg #[g1, g2]) m s → Calls Try.prog 13 #[.agg #[g1, g2], formV V] U fun e w' => e = .returned (.tuple #[.int .u32 (A2 : Nat), .bool (rightB m s)]) ∧ Below U.heap.size U w' := fun U h => by rw [hA2]; exact beval_any _ m s V U h HS2.out hV
        have cE3 : ∀ U, GF U (.agg #[d1, d2]) (natsI D.vs) D.tb → Calls Try.prog 13 #[.agg #[d1, d2], formV V] U fun e w' => e = .returned (.tuple #[.int .u32 (C : Nat), .bool true]) ∧ Below U.heap.size U w' := fun U h => by
          have h2 := beval_any _ _ _ V U h (small_of hv.toFine) hV
          rw [evalB_of hv, he, rightB_yes (right_back hv), ← hA1, ← hA2, ← hC] at h2
          exact h2
        have cR : ∀ U, GF U (.agg #[d1, d2]) (natsI D.vs) D.tb → Calls Try.prog 14 #[.agg #[d1, d2]] U fun e w' => e = .returned (.bool true) ∧ Below U.heap.size U w' := fun U h => by
          have h2 := bright_any _ _ _ U h (small_of hv.toFine)
          rw [rightB_yes (right_back hv)] at h2
          exact h2
        have cD : ∀ U, Calls Try.prog 25 #[.int .i64 k, .int .u32 (A1 : Nat), .int .u32 (A2 : Nat)] U fun e w' => e = .returned (.tuple #[.int .u32 (C : Nat), .bool true]) ∧ U = w' := fun U => by
          have h2 := do_any k A1 A2 U (by omega) (by omega) (by omega) (by omega)
          rw [do_val hk l1 l2, do_ok hk, ← hC] at h2
          exact h2
        have CE1 := Lib.hid cE1
        have CE2 := Lib.hid cE2
        have CE3 := Lib.hid cE3
        have CR := Lib.hid cR
        have CD := Lib.hid cD
        clear cE1 cE2 cE3 cR cD hv he hk hA1 hA2 l1 l2 hC hDD hOK
        generalize rightB l t = R1 at *
        generalize rightB m s = R2 at *
        go_wp2_with (first | (refine st_bf (heap_alloc_new _ _) rfl p5 p6 rfl rfl rfl rfl ?_; intro W3 hp3; have HP3 := Lib.hid hp3; have HX3 := Lib.hid (hp3.keep (by omega) (ka _ HX.out)); have HV3 := Lib.hid (hp3.keep (by omega) (ka _ HV.out)); clear hp3) | (refine ld_bf HX3.out rfl rfl rfl ?_) | (refine ld_row HV3.out HVL.out rfl rfl rfl ?_))
        replace HF := Lib.hid ((HF.out.below (ba _ (Below.refl _ _))).putr (heap_alloc_new _ _) HP3.out)
        replace HG := Lib.hid ((HG.out.below (ba _ (Below.refl _ _))).putr (heap_alloc_new _ _) HP3.out)
        replace HD := Lib.hid ((HD.out.below (ba _ (Below.refl _ _))).putr (heap_alloc_new _ _) HP3.out)
        replace HY := Lib.hid (HP3.out.keep (by omega) (ka _ HY.out))
        replace HV := HV3
        have HZ := Lib.hid HP3.out.row
        replace HB := Lib.hid (HP3.out.below (ba _ HB.out) hsz)
        clear HX3 HV3 HX HP3
        generalize w3.heap.size = gd at *
        refine (CE1.out _ HF.out).mono ?_
        rintro e w4 ⟨rfl, hb4⟩
        replace HY := Lib.hid (kb hb4 HY.out)
        replace HV := Lib.hid (kb hb4 HV.out)
        replace HZ := Lib.hid (kb hb4 HZ.out)
        replace HG := Lib.hid (HG.out.below hb4)
        replace HD := Lib.hid (HD.out.below hb4)
        replace HB := Lib.hid (below2 HB.out hb4)
        clear hb4 HF
        go_wp2_with (first | (refine ld_bf HY.out rfl rfl rfl ?_) | (refine ld_bfg HY.out (by rfl) rfl rfl ?_) | (refine ld_row HV.out HVL.out rfl rfl rfl ?_))
        refine (CE2.out _ HG.out).mono ?_
        rintro e w5 ⟨rfl, hb5⟩
        replace HV := Lib.hid (kb hb5 HV.out)
        replace HZ := Lib.hid (kb hb5 HZ.out)
        replace HD := Lib.hid (HD.out.below hb5)
        replace HB := Lib.hid (below2 HB.out hb5)
        clear hb5 HG HY
        go_wp2_with (first | (refine ld_bf HZ.out rfl rfl rfl ?_) | (refine ld_bfg HZ.out (by rfl) rfl rfl ?_) | (refine ld_row HV.out HVL.out rfl rfl rfl ?_))
        refine (CE3.out _ HD.out).mono ?_
        rintro e w6 ⟨rfl, hb6⟩
        replace HZ := Lib.hid (kb hb6 HZ.out)
        replace HD := Lib.hid (HD.out.below hb6)
        replace HB := Lib.hid (below2 HB.out hb6)
        clear hb6 HV
        go_wp2_with fail
        refine (CD.out _).mono ?_
        rintro e w7 ⟨rfl, rfl⟩
        go_wp2_with (first | (refine ld_bf HZ.out rfl rfl rfl ?_) | (refine ld_bfg HZ.out (by rfl) rfl rfl ?_))
        refine (CR.out _ HD.out).mono ?_
        rintro e w8 ⟨rfl, hb8⟩
        replace HB := Lib.hid (below2 HB.out hb8)
        clear hb8 HD HZ
        go_wp2_with fail
        refine (gknow_any _).mono ?_
        rintro e w9 ⟨rfl, hb9⟩
        replace HB := Lib.hid (below2 HB.out hb9)
        clear hb9
        go_wp2_with fail
        go_ret
        exact ⟨rfl, HB.out⟩

set_option maxRecDepth 100000 in
/-- The row's contract, for every argument and every world. -/
theorem contract (H : Type) (enc : TypeId × Value → H) (W : World) (base : Nat) (args : Array Value) (ds gs : List (DataW H)) (before : List MemPlace)
    (hval : ∀ (j : Nat) t v, Try.f6.params[j]? = some t → args[j]? = some v → Value.okWide Try.prog W .any base t v)
    (hW : DataW.Whole enc Try.prog Try.f6.params.toList Rows.bitsValuesSpec.vars false W args.toList ds gs before) (_hL : laidMetH Try.prog Rows.bitsValuesRow.laid W) :
    Calls Try.prog 6 args W fun e W' => ∃ v, e = .returned v ∧ Rows.bitsValuesSpec.post enc Try.prog Try.f6 false true false false W args v W' := by
  have hW' := hW
  obtain ⟨p, q, hA0, hV, rfl, hfz, hnd⟩ := hW
  have hA : DataW.TrodAll enc Try.prog W 0 (fun _ => true) true Try.f6.params.toList args.toList ds p := hA0
  rw [Try.params6] at hA hval
  obtain ⟨v0, vs0, d0, ds0, p0, q0, hargs0, rfl, rfl, t0, r0⟩ := trodAll_cons hA
  obtain ⟨v1, vs1, d1, ds1, p1, q1, hargs1, rfl, rfl, t1, r1⟩ := trodAll_cons r0
  obtain ⟨v2, vs2, d2, ds2, p2, q2, hargs2, rfl, rfl, t2, r2⟩ := trodAll_cons r1
  obtain ⟨v3, vs3, d3, ds3, p3, q3, hargs3, rfl, rfl, t3, r3⟩ := trodAll_cons r2
  obtain ⟨rfl, rfl, rfl⟩ := trodAll_nil r3
  obtain rfl : args = #[v0, v1, v2, v3] := by cases args; simp_all
  obtain ⟨k, rfl, rfl, rfl, wf0⟩ := open_int Try.underlying3 (hval 0 3 v0 rfl rfl) t0
  have bd0 := bounds_i64 wf0
  obtain ⟨fl, ft, hG1, _, _, hb1, hm1⟩ := open_bform (hval 1 25 v1 rfl rfl) t1
  obtain ⟨gl, gt, hG2, _, _, hb2, hm2⟩ := open_bform (hval 2 25 v2 rfl rfl) t2
  obtain ⟨V, rfl, hd3⟩ := open_asg (hval 3 27 v3 rfl rfl) t3
  refine (walk k v1 fl ft v2 gl gt V W bd0.1 bd0.2 hG1 hb1 hm1 hG2 hb2 hm2 hd3).mono fun e W' ⟨he, hg⟩ => ?_
  subst he
  exact ⟨_, rfl, law_post (tb := 4) laidOut (fun t ht => by rw [Try.params6] at ht; revert t; exact of_decide_eq_true (by kernel_rfl)) (by kernel_rfl) Try.underlying4 rfl
    (fun ds h => by rw [Try.params6] at h; match ds, h with | [_, _, _, _], _ => rfl) hW' hg⟩

theorem laid_met (os : Os) : laidMet Try.prog Rows.bitsValuesRow.laid ((laidWorldG os).forCall (fun _ _ => 0) ⟨#[], #[.int .i64 0, .agg #[.slice none 0 0, .slice none 0 0], .agg #[.slice none 0 0, .slice none 0 0], .agg (numsC zeros)], []⟩).memory :=
  laidMet_nil _ _
theorem reads (os : Os) {H : Type} (enc : TypeId × Value → H) : ∃ places, DataW.whole enc Try.prog ((laidWorldG os).forCall (fun _ _ => 0) ⟨#[], #[.int .i64 0, .agg #[.slice none 0 0, .slice none 0 0], .agg #[.slice none 0 0, .slice none 0 0], .agg (numsC zeros)], []⟩).memory Try.f6.params.toList Rows.bitsValuesSpec.vars false #[Value.int .i64 0, Value.agg #[.slice none 0 0, .slice none 0 0], Value.agg #[.slice none 0 0, .slice none 0 0], Value.agg (numsC zeros)].toList 8 = some ([.lit (.int .i64 0), .agg [.nil, .nil], .agg [.nil, .nil], .agg (List.replicate 34 (.lit (.int .u32 0)))], [], places) :=
  ⟨[], by kernel_rfl⟩

set_option maxRecDepth 100000 in
theorem lifted (os : Os) (started : os.Started) (H : Type) (enc : TypeId × Value → H) (F : Stop.Interp) :
    ReturnsInHanded {} Try.checked os 6 .any ((OpenSpec.ofChange Rows.bitsValuesSpec).preRow enc Try.prog Try.f6 Rows.bitsValuesRow.domain false Rows.bitsValuesRow.laid) (((OpenSpec.ofChange Rows.bitsValuesSpec).at F).post enc Try.prog Try.f6 false true false false) := by
  obtain ⟨places, hx⟩ := reads os enc
  refine returnsInHanded_of_row (C := Try.checked) (s := OpenSpec.ofChange Rows.bitsValuesSpec) own started (by kernel_rfl) Try.func6
    (witness_row_at (enc := enc) (C := Try.checked) false (laidWorldG os) #[.int .i64 0, .agg #[.slice none 0 0, .slice none 0 0], .agg #[.slice none 0 0, .slice none 0 0], .agg (numsC zeros)] rfl (by kernel_rfl) (by kernel_rfl) (by kernel_rfl)
      (OpenSpec.preRow_of_cond 8 hx (by kernel_rfl) (fun k hk => by cases hk) (by kernel_rfl) (laid_met os))) ?_
  intro W base args ds gs before hval hW _ _ _ hL _ _
  exact contract H enc W base args ds gs before hval hW hL

theorem said : Rows.BitsValuesSaid :=
  OpenClaim.holds_of_cond 6 Try.f6 rfl rfl rfl rfl rfl rfl rfl ⟨rfl, rfl, rfl, rfl, rfl⟩ rfl rfl rfl rfl rfl (by kernel_rfl) Try.func6 (by kernel_rfl)
    (of_decide_eq_true (by kernel_rfl)) (by unfold Func.isWrapper; first | (rw [if_pos (by decide +kernel)]; kernel_rfl) | (rw [if_neg (by decide +kernel)]; exact ⟨rfl, rfl⟩))
    (fun os started H enc _ F => by rw [OpenClaim.pre_eq_preRow]; exact lifted os started H enc F)

end Go.Proofs.Ytlgoeegpgcilbaa.bitsValues
