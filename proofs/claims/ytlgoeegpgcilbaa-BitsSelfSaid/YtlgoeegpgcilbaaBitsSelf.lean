/-
  For every kind and every two forms: the law BitsSelf returns true and changes nothing that was there.
-/
import Derived.Test.YtlgoeegpgcilbaaProg
import Derived.WalkKit
import Derived.Laws.BitsAllLaws
import Derived.ProofKit
import Derived.Lib.Hide
import Derived.Laws.Rows
import Derived.Laws.ResultCell
import Derived.Laws.Entries
import Derived.Handy
import Derived.OwnWalk
import Derived.Laws.OwnMore
import Derived.Deep.Draws
import Derived.Laws.IdiomStrings
import Derived.Lib.BufferRead
import Derived.Maps.OwnSet
import Derived.Laws.Tables
import Derived.Deep.DeepCutAuto
import Derived.DeepKeys
import Derived.Laws.StructEq
import Derived.Deep.RegionHeld3
import Derived.BigRegion
import Derived.BigQuiet
import Derived.Test.YtlgoeegpgcilbaaRows
import Derived.OpenShut
import Derived.Carry
import Derived.Deep.DeepHandedRow
import Derived.Lib.SmallJoins
import Derived.Deep.OwnRows
import Derived.Lib.QuietBelow
import Derived.RowKit
import Derived.Deep.QuietTactic
import Derived.Deep.CutBlock
import Derived.Stop.Joined
import Derived.Shelf.Sort.Plain
import Derived.Shelf.Slices.Turned
import Derived.Shelf.Slices.Equal
import Derived.Ground.Names2Prog
import Derived.Shelf.Slices.CompactI
import Derived.Shelf.Slices.In.SortNone
import Derived.Lib.AppendZerosOnto
import Derived.Lib.SliceRun
import Derived.Lib.OwnBridge
import Derived.Sort.OwnSortedInts
import Derived.Deep.MidRow
import Derived.Great.BuildSlice
import Derived.Test.YtlgoeegpgcilbaaPk1
import Derived.Test.YtlgoeegpgcilbaaPk2
import Derived.Test.YtlgoeegpgcilbaaPk3
import Derived.Test.YtlgoeegpgcilbaaPk4
import Derived.Test.YtlgoeegpgcilbaaPk5
import Derived.Test.YtlgoeegpgcilbaaPk6
namespace Go.Proofs.Ytlgoeegpgcilbaa.bitsSelf
open Go.ChangeShapes Go.WideShapes Go.ChangeAt Go.RowKit

theorem great_at {v : Value} {l : List Int} {t : List Nat} {B : Bool} {w : World} (hB : B = (decide (50 < l.length) || decide (100 < t.length))) (h : GF w v l t) : Calls Try.prog 9 #[v] w fun e w' => e = .returned (.bool B) ∧ Below w.heap.size w w' := by
  rw [hB]
  exact ggreat_any v l t w h
theorem small_if {l : List Int} {t : List Nat} (hl : ∀ n ∈ l, -9223372036854775808 ≤ n ∧ n ≤ 9223372036854775807) (ht : ∀ n ∈ t, n < 4294967296) (h : false = (decide (50 < l.length) || decide (100 < t.length))) : Small l t := by
  have h2 := h.symm
  rw [Bool.or_eq_false_iff, decide_eq_false_iff_not, decide_eq_false_iff_not] at h2
  exact ⟨by omega, by omega, hl, ht⟩
set_option maxHeartbeats 8000000 in
set_option maxRecDepth 100000 in
theorem walk (k : Int) (vf : Value) (l : List Int) (t : List Nat) (vg : Value) (m : List Int) (s : List Nat) (w : World) (_hk0 : -9223372036854775808 ≤ k) (_hk1 : k ≤ 9223372036854775807) (hf : GF w vf l t) (hli : ∀ n ∈ l, -9223372036854775808 ≤ n ∧ n ≤ 9223372036854775807) (ht : ∀ n ∈ t, n < 4294967296) (hg : GF w vg m s) (hmi : ∀ n ∈ m, -9223372036854775808 ≤ n ∧ n ≤ 9223372036854775807) (hs : ∀ n ∈ s, n < 4294967296) :
    Calls Try.prog 8 #[.int .i64 k, vf, vg] w fun e w' => e = .returned (.bool true) ∧ Below w.heap.size w w' := by
  obtain ⟨f1, f2, rfl, p1, p2⟩ := hf.split
  obtain ⟨g1, g2, rfl, p3, p4⟩ := hg.split
  obtain ⟨W, hW, h0, h1, hb⟩ := box2 w (bfB f1 f2) (bfB g1 g2)
  have HX := Lib.hid h0
  have HY := Lib.hid h1
  have HB := Lib.hid hb
  have HF := Lib.hid (hf.below hb)
  have HG := Lib.hid (hg.below hb)
  obtain ⟨B1, hB1⟩ : ∃ B, B = (decide (50 < l.length) || decide (100 < t.length)) := ⟨_, rfl⟩
  obtain ⟨B2, hB2⟩ : ∃ B, B = (decide (50 < m.length) || decide (100 < s.length)) := ⟨_, rfl⟩
  have HB1 := Lib.hid hB1
  have HB2 := Lib.hid hB2
  have HS1 : Hid (B1 = false → Small l t) := Lib.hid fun h => by subst h; exact small_if hli ht hB1
  have HS2 : Hid (B2 = false → Small m s) := Lib.hid fun h => by subst h; exact small_if hmi hs hB2
  clear hf hg hb hB1 hB2 hli hmi h0 h1
  go_enter Try.func8, Try.ntmps8
  go_upto_region 1 with fail
  rw [← hW]
  clear hW
  go_wp2_with (refine ld_bf HX.out rfl rfl rfl ?_)
  refine (great_at HB1.out HF.out).mono ?_
  rintro e w1 ⟨rfl, hb1⟩
  replace HX := Lib.hid (kb hb1 HX.out)
  replace HY := Lib.hid (kb hb1 HY.out)
  replace HF := Lib.hid (HF.out.below hb1)
  replace HG := Lib.hid (HG.out.below hb1)
  replace HB := Lib.hid (below2 HB.out hb1)
  clear hb1
  cases B1 with
  | true =>
    go_wp2_with fail
    refine (gknow_any _).mono ?_
    rintro e w9 ⟨rfl, hb9⟩
    replace HB := Lib.hid (below2 HB.out hb9)
    clear hb9
    go_wp2_with fail
    go_ret
    exact ⟨rfl, HB.out⟩
  | false =>
    replace HS1 := Lib.hid (HS1.out rfl)
    go_wp2_with (refine ld_bfg HY.out (by rfl) rfl rfl ?_)
    refine (great_at HB2.out HG.out).mono ?_
    rintro e w2 ⟨rfl, hb2⟩
    replace HX := Lib.hid (kb hb2 HX.out)
    replace HY := Lib.hid (kb hb2 HY.out)
    replace HF := Lib.hid (HF.out.below hb2)
    replace HG := Lib.hid (HG.out.below hb2)
    replace HB := Lib.hid (below2 HB.out hb2)
    clear hb2 HB1
    cases B2 with
    | true =>
      go_wp2_with fail
      refine (gknow_any _).mono ?_
      rintro e w9 ⟨rfl, hb9⟩
      replace HB := Lib.hid (below2 HB.out hb9)
      clear hb9
      go_wp2_with fail
      go_ret
      exact ⟨rfl, HB.out⟩
    | false =>
      replace HS2 := Lib.hid (HS2.out rfl)
      clear HB2
      go_wp2_with (first | (refine ld_bf HX.out rfl rfl rfl ?_) | (refine ld_bfg HX.out (by rfl) rfl rfl ?_) | (refine ld_bf HY.out rfl rfl rfl ?_) | (refine ld_bfg HY.out (by rfl) rfl rfl ?_))
      obtain ⟨D, hDD⟩ : ∃ D, D = doB k l t m s := ⟨_, rfl⟩
      have hDc : D = doB k m s l t := hDD.trans (doB_comm ht hs)
      have hSm : Small (natsI D.vs) D.tb := hDD ▸ doB_small ht hs
      obtain ⟨B, hOK⟩ : ∃ B, B = okB k l t m s := ⟨_, rfl⟩
      have hOc : B = okB k m s l t := hOK.trans ok_comm
      have cD1 : ∀ U v v', GF U v l t → GF U v' m s → Calls Try.prog 21 #[.int .i64 k, v, v'] U fun e w' => ∃ v, e = .returned (.tuple #[v, .bool B]) ∧ GF w' v (natsI D.vs) D.tb ∧ Below U.heap.size U w' := fun U v v' h h' => by rw [hOK, hDD]; exact bdo_any k v v' l m t s U h h' HS1.out HS2.out
      have cD2 : ∀ U v v', GF U v m s → GF U v' l t → Calls Try.prog 21 #[.int .i64 k, v, v'] U fun e w' => ∃ v, e = .returned (.tuple #[v, .bool B]) ∧ GF w' v (natsI D.vs) D.tb ∧ Below U.heap.size U w' := fun U v v' h h' => by rw [hOc, hDc]; exact bdo_any k v v' m l s t U h h' HS2.out HS1.out
      have cSD : ∀ U v v', GF U v (natsI D.vs) D.tb → GF U v' (natsI D.vs) D.tb → Calls Try.prog 17 #[v, v'] U fun e w' => e = .returned (.bool true) ∧ Below U.heap.size U w' := fun U v v' h h' => by have h2 := bsame_any v v' _ _ _ _ U h h' hSm hSm; rw [decide_eq_true ⟨rfl, rfl⟩] at h2; exact h2
      have CD1 := Lib.hid cD1
      have CD2 := Lib.hid cD2
      have CSD := Lib.hid cSD
      clear cD1 cD2 cSD hDD hDc hSm hOK hOc
      refine (CD1.out _ _ _ HF.out HG.out).mono ?_
      rintro e w3 ⟨vd, rfl, hD, hb3⟩
      replace HX := Lib.hid (kb hb3 HX.out)
      replace HY := Lib.hid (kb hb3 HY.out)
      replace HF := Lib.hid (HF.out.below hb3)
      replace HG := Lib.hid (HG.out.below hb3)
      replace HB := Lib.hid (below2 HB.out hb3)
      clear hb3
      obtain ⟨d1, d2, rfl, p5, p6⟩ := hD.split
      have HD := Lib.hid hD
      clear hD
      have hsz := HB.out.size
      go_wp2_with (first | (refine st_bf (heap_alloc_new _ _) rfl p5 p6 rfl rfl rfl rfl ?_; intro W3 hp3; have HP3 := Lib.hid hp3; have HXz := Lib.hid ((hp3.below (ba _ (Below.refl _ _)) (Nat.le_refl _)).block _ (lt_of_block HX.out) |>.trans HX.out); have HYz := Lib.hid ((hp3.below (ba _ (Below.refl _ _)) (Nat.le_refl _)).block _ (lt_of_block HY.out) |>.trans HY.out); clear hp3) | (refine ld_bf HXz.out rfl rfl rfl ?_) | (refine ld_bfg HXz.out (by rfl) rfl rfl ?_) | (refine ld_bf HYz.out rfl rfl rfl ?_) | (refine ld_bfg HYz.out (by rfl) rfl rfl ?_) | (refine ld_bfg HP3.out.row (by rfl) rfl rfl ?_))
      have hbS : Below w3.heap.size w3 W3 := HP3.out.below (ba _ (Below.refl _ _)) (Nat.le_refl _)
      replace HX := Lib.hid (kb hbS HX.out)
      replace HY := Lib.hid (kb hbS HY.out)
      replace HF := Lib.hid (HF.out.below hbS)
      replace HG := Lib.hid (HG.out.below hbS)
      replace HD := Lib.hid (HD.out.below hbS)
      replace HB := Lib.hid (below2 HB.out hbS)
      clear hbS
      have HXd := Lib.hid HP3.out.row
      clear HP3 HXz HYz
      generalize w3.heap.size = gd at *
      refine (CD2.out _ _ _ HG.out HF.out).mono ?_
      rintro e w4 ⟨vd, rfl, hD, hb4⟩
      replace HX := Lib.hid (kb hb4 HX.out)
      replace HXd := Lib.hid (kb hb4 HXd.out)
      replace HF := Lib.hid (HF.out.below hb4)
      replace HD := Lib.hid (HD.out.below hb4)
      replace HB := Lib.hid (below2 HB.out hb4)
      clear hb4
      obtain ⟨e1, e2, rfl, p7, p8⟩ := hD.split
      have HE := Lib.hid hD
      clear hD
      have hsz := HB.out.size
      go_wp2_with (first | (refine st_bf (heap_alloc_new _ _) rfl p7 p8 rfl rfl rfl rfl ?_; intro W4 hp3; have HP3 := Lib.hid hp3; have HXdz := Lib.hid ((hp3.below (ba _ (Below.refl _ _)) (Nat.le_refl _)).block _ (lt_of_block HXd.out) |>.trans HXd.out); clear hp3) | (refine ld_bf HXdz.out rfl rfl rfl ?_) | (refine ld_bfg HXdz.out (by rfl) rfl rfl ?_) | (refine ld_bfg HP3.out.row (by rfl) rfl rfl ?_))
      have hbS : Below w4.heap.size w4 W4 := HP3.out.below (ba _ (Below.refl _ _)) (Nat.le_refl _)
      replace HX := Lib.hid (kb hbS HX.out)
      replace HXd := Lib.hid (kb hbS HXd.out)
      replace HF := Lib.hid (HF.out.below hbS)
      replace HD := Lib.hid (HD.out.below hbS)
      replace HE := Lib.hid (HE.out.below hbS)
      replace HB := Lib.hid (below2 HB.out hbS)
      clear hbS
      have HXe := Lib.hid HP3.out.row
      clear HP3 HXdz
      generalize w4.heap.size = ge at *
      refine (CSD.out _ _ _ HD.out HE.out).mono ?_
      rintro e w5 ⟨rfl, hb5⟩
      replace HX := Lib.hid (kb hb5 HX.out)
      replace HF := Lib.hid (HF.out.below hb5)
      replace HB := Lib.hid (below2 HB.out hb5)
      clear hb5 HD HE HXd HXe
      go_wp2_with (first | (refine ld_bf HX.out rfl rfl rfl ?_) | (refine ld_bfg HX.out (by rfl) rfl rfl ?_))
      refine (gas_any _ l t _ HF.out).mono ?_
      rintro e w6 ⟨rfl, hb6⟩
      replace HX := Lib.hid (kb hb6 HX.out)
      replace HF := Lib.hid (HF.out.below hb6)
      replace HB := Lib.hid (below2 HB.out hb6)
      clear hb6
      go_wp2_with fail
      refine (gright_any _ l t _ HF.out).mono ?_
      rintro e w7 ⟨rfl, hb7⟩
      replace HX := Lib.hid (kb hb7 HX.out)
      replace HF := Lib.hid (HF.out.below hb7)
      replace HB := Lib.hid (below2 HB.out hb7)
      clear hb7
      generalize hR1 : rightB l t = R1 at *
      cases R1 with
      | false =>
        go_wp2_with fail
        refine (gknow_any _).mono ?_
        rintro e w9 ⟨rfl, hb9⟩
        replace HB := Lib.hid (below2 HB.out hb9)
        clear hb9
        go_wp2_with fail
        go_ret
        exact ⟨rfl, HB.out⟩
      | true =>
        have hr := right_yes hR1
        obtain ⟨s1, s2, s3⟩ := doB_self ht hr
        have hv := gright_of ht hr
        have hb : natsI (bfOf l t).vs = l ∧ (bfOf l t).tb = t := ⟨hv.2, rfl⟩
        have cO : ∀ U v v', GF U v l t → GF U v' l t → Calls Try.prog 21 #[.int .i64 68, v, v'] U fun e w' => ∃ v, e = .returned (.tuple #[v, .bool true]) ∧ GF w' v l t ∧ Below U.heap.size U w' := fun U v v' h h' => by have h2 := bdo_any 68 v v' l l t t U h h' HS1.out HS1.out; rw [ok_self (.inl rfl) ht hr, s1, hb.1, hb.2] at h2; exact h2
        have cA : ∀ U v v', GF U v l t → GF U v' l t → Calls Try.prog 21 #[.int .i64 84, v, v'] U fun e w' => ∃ v, e = .returned (.tuple #[v, .bool true]) ∧ GF w' v l t ∧ Below U.heap.size U w' := fun U v v' h h' => by have h2 := bdo_any 84 v v' l l t t U h h' HS1.out HS1.out; rw [ok_self (.inr (.inl rfl)) ht hr, s2, hb.1, hb.2] at h2; exact h2
        have cX : ∀ U v v', GF U v l t → GF U v' l t → Calls Try.prog 21 #[.int .i64 164, v, v'] U fun e w' => ∃ v, e = .returned (.tuple #[v, .bool true]) ∧ GF w' v [] [0] ∧ Below U.heap.size U w' := fun U v v' h h' => by have h2 := bdo_any 164 v v' l l t t U h h' HS1.out HS1.out; rw [ok_self (.inr (.inr rfl)) ht hr, s3] at h2; exact h2
        have cS : ∀ U v v', GF U v l t → GF U v' l t → Calls Try.prog 17 #[v, v'] U fun e w' => e = .returned (.bool true) ∧ Below U.heap.size U w' := fun U v v' h h' => by have h2 := bsame_any v v' _ _ _ _ U h h' HS1.out HS1.out; rw [decide_eq_true ⟨rfl, rfl⟩] at h2; exact h2
        have cZ : ∀ U v v', GF U v [] [0] → GF U v' [] [0] → Calls Try.prog 17 #[v, v'] U fun e w' => e = .returned (.bool true) ∧ Below U.heap.size U w' := fun U v v' h h' => bsame_any v v' _ _ _ _ U h h' (small_const (by omega)) (small_const (by omega))
        have CO := Lib.hid cO
        have CA := Lib.hid cA
        have CX := Lib.hid cX
        have CSa := Lib.hid cS
        have CSb := Lib.hid cS
        have CSc := Lib.hid cZ
        clear cO cA cX cS cZ hr s1 s2 s3 hv hb hR1 HG CD1 CD2 CSD HS1 HS2 ht hs
        go_wp2_with (first | (refine ld_bf HX.out rfl rfl rfl ?_) | (refine ld_bfg HX.out (by rfl) rfl rfl ?_))
        refine (CO.out _ _ _ HF.out HF.out).mono ?_
        rintro e w11 ⟨vd, rfl, hD, hb11⟩
        replace HX := Lib.hid (kb hb11 HX.out)
        replace HF := Lib.hid (HF.out.below hb11)
        replace HB := Lib.hid (below2 HB.out hb11)
        clear hb11
        obtain ⟨x1, x2, rfl, px1, px2⟩ := hD.split
        have HA := Lib.hid hD
        clear hD
        have hsz := HB.out.size
        go_wp2_with (first | (refine st_bf (heap_alloc_new _ _) rfl px1 px2 rfl rfl rfl rfl ?_; intro W11 hp3; have HP3 := Lib.hid hp3; have HXz := Lib.hid ((hp3.below (ba _ (Below.refl _ _)) (Nat.le_refl _)).block _ (lt_of_block HX.out) |>.trans HX.out); clear hp3) | (refine ld_bf HXz.out rfl rfl rfl ?_) | (refine ld_bfg HXz.out (by rfl) rfl rfl ?_) | (refine ld_bfg HP3.out.row (by rfl) rfl rfl ?_))
        have hbS : Below w11.heap.size w11 W11 := HP3.out.below (ba _ (Below.refl _ _)) (Nat.le_refl _)
        replace HX := Lib.hid (kb hbS HX.out)
        replace HF := Lib.hid (HF.out.below hbS)
        replace HA := Lib.hid (HA.out.below hbS)
        replace HB := Lib.hid (below2 HB.out hbS)
        clear hbS
        have HXa := Lib.hid HP3.out.row
        clear HP3 HXz
        generalize w11.heap.size = ga at *
        refine (CA.out _ _ _ HF.out HF.out).mono ?_
        rintro e w12 ⟨vd, rfl, hD, hb12⟩
        replace HX := Lib.hid (kb hb12 HX.out)
        replace HXa := Lib.hid (kb hb12 HXa.out)
        replace HF := Lib.hid (HF.out.below hb12)
        replace HA := Lib.hid (HA.out.below hb12)
        replace HB := Lib.hid (below2 HB.out hb12)
        clear hb12
        obtain ⟨y1, y2, rfl, py1, py2⟩ := hD.split
        have HBb := Lib.hid hD
        clear hD
        have hsz := HB.out.size
        go_wp2_with (first | (refine st_bf (heap_alloc_new _ _) rfl py1 py2 rfl rfl rfl rfl ?_; intro W12 hp3; have HP3 := Lib.hid hp3; have HXz := Lib.hid ((hp3.below (ba _ (Below.refl _ _)) (Nat.le_refl _)).block _ (lt_of_block HX.out) |>.trans HX.out); clear hp3) | (refine ld_bf HXz.out rfl rfl rfl ?_) | (refine ld_bfg HXz.out (by rfl) rfl rfl ?_) | (refine ld_bfg HP3.out.row (by rfl) rfl rfl ?_))
        have hbS : Below w12.heap.size w12 W12 := HP3.out.below (ba _ (Below.refl _ _)) (Nat.le_refl _)
        replace HX := Lib.hid (kb hbS HX.out)
        replace HXa := Lib.hid (kb hbS HXa.out)
        replace HF := Lib.hid (HF.out.below hbS)
        replace HA := Lib.hid (HA.out.below hbS)
        replace HBb := Lib.hid (HBb.out.below hbS)
        replace HB := Lib.hid (below2 HB.out hbS)
        clear hbS
        have HXb := Lib.hid HP3.out.row
        clear HP3 HXz
        generalize w12.heap.size = gb at *
        refine (CX.out _ _ _ HF.out HF.out).mono ?_
        rintro e w13 ⟨vd, rfl, hD, hb13⟩
        replace HX := Lib.hid (kb hb13 HX.out)
        replace HXa := Lib.hid (kb hb13 HXa.out)
        replace HXb := Lib.hid (kb hb13 HXb.out)
        replace HF := Lib.hid (HF.out.below hb13)
        replace HA := Lib.hid (HA.out.below hb13)
        replace HBb := Lib.hid (HBb.out.below hb13)
        replace HB := Lib.hid (below2 HB.out hb13)
        clear hb13
        obtain ⟨z1, z2, rfl, pz1, pz2⟩ := hD.split
        have HCc := Lib.hid hD
        clear hD
        have hsz := HB.out.size
        go_upto_region 12 with (first | (refine st_bf (heap_alloc_new _ _) rfl pz1 pz2 rfl rfl rfl rfl ?_; intro W13 hp3; have HP3 := Lib.hid hp3; skip; clear hp3)  | (refine ld_bfg HP3.out.row (by rfl) rfl rfl ?_))
        have hbS : Below w13.heap.size w13 W13 := HP3.out.below (ba _ (Below.refl _ _)) (Nat.le_refl _)
        replace HX := Lib.hid (kb hbS HX.out)
        replace HXa := Lib.hid (kb hbS HXa.out)
        replace HXb := Lib.hid (kb hbS HXb.out)
        replace HF := Lib.hid (HF.out.below hbS)
        replace HA := Lib.hid (HA.out.below hbS)
        replace HBb := Lib.hid (HBb.out.below hbS)
        replace HCc := Lib.hid (HCc.out.below hbS)
        replace HB := Lib.hid (below2 HB.out hbS)
        clear hbS
        have HXc := Lib.hid HP3.out.row
        clear HP3 
        generalize w13.heap.size = gc at *
        have hF : GF W13.drew (.agg #[f1, f2]) l t := HF.out.below (bdN (Below.refl W13.heap.size W13) 1)
        have hA : GF W13.drew (.agg #[x1, x2]) l t := HA.out.below (bdN (Below.refl W13.heap.size W13) 1)
        have hBb : GF W13.drew (.agg #[y1, y2]) l t := HBb.out.below (bdN (Below.refl W13.heap.size W13) 1)
        have hCc : GF W13.drew (.agg #[z1, z2]) [] [0] := HCc.out.below (bdN (Below.refl W13.heap.size W13) 1)
        refine wp_region_held_drew (S := fun U => Below W13.heap.size W13 U) (by kernel_rfl) (bdN (Below.refl _ _) 1) (fun hHeld => ?_)
        generalize W13.drew = wZ at *
        refine jheld_take (i := 0) (v := .agg #[x1, x2]) (some 70) rfl rfl (by kernel_rfl) (by kernel_rfl) (by kernel_rfl) (fun _ _ _ h => h) (gyi_row (by rfl) (by rfl) (by rfl) (fun U hV => lv_bf (kb hV HXa.out))) hHeld ?_
        simp only [Act.put, List.setIfInBounds_toArray, List.set_cons_zero, List.set_cons_succ]
        refine jheld_take (i := 1) (v := .agg #[f1, f2]) (some 71) rfl rfl (by kernel_rfl) (by kernel_rfl) (by kernel_rfl) (fun _ _ _ h => h) (gyi_row (by rfl) (by rfl) (by rfl) (fun U hV => lv_bf (kb hV HX.out))) hHeld ?_
        simp only [Act.put, List.setIfInBounds_toArray, List.set_cons_zero, List.set_cons_succ]
        refine wpAnyH_ready (rs := [2]) (by kernel_rfl) (by simp) ?_
        refine AllReadyH.cons rfl (fun K hK => ?_) AllReadyH.nil
        go_simp
        refine (CSa.out wZ _ _ hA hF).mono ?_
        rintro e wA0 ⟨rfl, hbwA0⟩
        have hF := hF.below hbwA0
        have hA := hA.below hbwA0
        have hBb := hBb.below hbwA0
        have hCc := hCc.below hbwA0
        go_simp
        refine hK.out _ _ (below2 hHeld hbwA0) (fun hHeld => ?_)
        clear hK K hbwA0
        refine jheld_take (i := 3) (v := .bool true) (some 73) rfl rfl (by kernel_rfl) (by kernel_rfl) (by kernel_rfl) (fun _ _ _ h => h) (.inl ⟨by rfl, fun V _ => by go_simp⟩) hHeld ?_
        simp only [Act.put, List.setIfInBounds_toArray, List.set_cons_zero, List.set_cons_succ]
        refine jheld_take (i := 4) (v := .agg #[y1, y2]) (some 74) rfl rfl (by kernel_rfl) (by kernel_rfl) (by kernel_rfl) (fun _ _ _ h => h) (gyi_row (by rfl) (by rfl) (by rfl) (fun U hV => lv_bf (kb hV HXb.out))) hHeld ?_
        simp only [Act.put, List.setIfInBounds_toArray, List.set_cons_zero, List.set_cons_succ]
        refine jheld_take (i := 5) (v := .agg #[f1, f2]) (some 75) rfl rfl (by kernel_rfl) (by kernel_rfl) (by kernel_rfl) (fun _ _ _ h => h) (gyi_row (by rfl) (by rfl) (by rfl) (fun U hV => lv_bf (kb hV HX.out))) hHeld ?_
        simp only [Act.put, List.setIfInBounds_toArray, List.set_cons_zero, List.set_cons_succ]
        refine wpAnyH_ready (rs := [6]) (by kernel_rfl) (by simp) ?_
        refine AllReadyH.cons rfl (fun K hK => ?_) AllReadyH.nil
        go_simp
        refine (CSb.out wA0 _ _ hBb hF).mono ?_
        rintro e wB1 ⟨rfl, hbwB1⟩
        have hF := hF.below hbwB1
        have hA := hA.below hbwB1
        have hBb := hBb.below hbwB1
        have hCc := hCc.below hbwB1
        go_simp
        refine hK.out _ _ (below2 hHeld hbwB1) (fun hHeld => ?_)
        clear hK K hbwB1
        refine jheld_take (i := 7) (v := .bool true) (some 77) rfl rfl (by kernel_rfl) (by kernel_rfl) (by kernel_rfl) (fun _ _ _ h => h) (.inl ⟨by rfl, fun V _ => by go_simp⟩) hHeld ?_
        simp only [Act.put, List.setIfInBounds_toArray, List.set_cons_zero, List.set_cons_succ]
        refine jheld_take (i := 8) (v := .bool true) (some 78) rfl rfl (by kernel_rfl) (by kernel_rfl) (by kernel_rfl) (fun _ _ _ h => h) (.inl ⟨by rfl, fun V _ => by go_simp⟩) hHeld ?_
        simp only [Act.put, List.setIfInBounds_toArray, List.set_cons_zero, List.set_cons_succ]
        refine jheld_take (i := 9) (v := .agg #[z1, z2]) (some 79) rfl rfl (by kernel_rfl) (by kernel_rfl) (by kernel_rfl) (fun _ _ _ h => h) (gyi_row (by rfl) (by rfl) (by rfl) (fun U hV => lv_bf (kb hV HXc.out))) hHeld ?_
        simp only [Act.put, List.setIfInBounds_toArray, List.set_cons_zero, List.set_cons_succ]
        refine wpAnyH_ready (rs := [10]) (by kernel_rfl) (by simp) ?_
        refine AllReadyH.cons rfl (fun K hK => ?_) AllReadyH.nil
        go_simp
        refine (bconst_any 0 wB1 (by omega)).mono ?_
        rintro e wC2 ⟨vC, rfl, hC, hbwC2⟩
        have hF := hF.below hbwC2
        have hA := hA.below hbwC2
        have hBb := hBb.below hbwC2
        have hCc := hCc.below hbwC2
        go_simp
        refine hK.out _ _ (below2 hHeld hbwC2) (fun hHeld => ?_)
        clear hK K hbwC2
        refine wpAnyH_ready (rs := [11]) (by kernel_rfl) (by simp) ?_
        refine AllReadyH.cons rfl (fun K hK => ?_) AllReadyH.nil
        go_simp
        refine (CSc.out wC2 _ _ hCc hC).mono ?_
        rintro e wD3 ⟨rfl, hbwD3⟩
        have hF := hF.below hbwD3
        have hA := hA.below hbwD3
        have hBb := hBb.below hbwD3
        have hCc := hCc.below hbwD3
        have hC := hC.below hbwD3
        go_simp
        refine hK.out _ _ (below2 hHeld hbwD3) (fun hHeld => ?_)
        clear hK K hbwD3
        refine jheld_take (i := 12) (v := .bool true) (some 82) rfl rfl (by kernel_rfl) (by kernel_rfl) (by kernel_rfl) (fun _ _ _ h => h) (.inl ⟨by rfl, fun V _ => by go_simp⟩) hHeld ?_
        simp only [Act.put, List.setIfInBounds_toArray, List.set_cons_zero, List.set_cons_succ]
        refine jheld_take (i := 13) (v := .bool true) (some 83) rfl rfl (by kernel_rfl) (by kernel_rfl) (by kernel_rfl) (fun _ _ _ h => h) (.inl ⟨by rfl, fun V _ => by go_simp⟩) hHeld ?_
        simp only [Act.put, List.setIfInBounds_toArray, List.set_cons_zero, List.set_cons_succ]
        refine wpAnyH_ready (rs := [14]) (by kernel_rfl) (by simp) ?_
        refine AllReadyH.cons rfl (fun K hK => ?_) AllReadyH.nil
        go_simp
        refine (gknow_any wD3).mono ?_
        rintro e wK4 ⟨rfl, hbwK4⟩
        have hF := hF.below hbwK4
        have hA := hA.below hbwK4
        have hBb := hBb.below hbwK4
        have hCc := hCc.below hbwK4
        have hC := hC.below hbwK4
        go_simp
        refine hK.out _ _ (below2 hHeld hbwK4) (fun hHeld => ?_)
        clear hK K hbwK4
        refine jheld_take (i := 15) (v := .bool true) (some 85) rfl rfl (by kernel_rfl) (by kernel_rfl) (by kernel_rfl) (fun _ _ _ h => h) (.inl ⟨by rfl, fun V _ => by go_simp⟩) hHeld ?_
        simp only [Act.put, List.setIfInBounds_toArray, List.set_cons_zero, List.set_cons_succ]
        refine jheld_take (i := 16) (v := .bool true) (some 6) rfl rfl (by kernel_rfl) (by kernel_rfl) (by kernel_rfl) (fun _ _ _ h => h) (.inl ⟨by rfl, fun V _ => by go_simp⟩) hHeld ?_
        simp only [Act.put, List.setIfInBounds_toArray, List.set_cons_zero, List.set_cons_succ]
        refine wpAnyH_done (by kernel_rfl) ?_ _
        go_wp2_with fail
        go_ret
        exact ⟨rfl, below2 HB.out hHeld⟩

set_option maxRecDepth 100000 in
/-- The row's contract, for every argument and every world. -/
theorem contract (H : Type) (enc : TypeId × Value → H) (W : World) (base : Nat) (args : Array Value) (ds gs : List (DataW H)) (before : List MemPlace)
    (hval : ∀ (j : Nat) t v, Try.f8.params[j]? = some t → args[j]? = some v → Value.okWide Try.prog W .any base t v)
    (hW : DataW.Whole enc Try.prog Try.f8.params.toList Rows.bitsSelfSpec.vars false W args.toList ds gs before) (_hL : laidMetH Try.prog Rows.bitsSelfRow.laid W) :
    Calls Try.prog 8 args W fun e W' => ∃ v, e = .returned v ∧ Rows.bitsSelfSpec.post enc Try.prog Try.f8 false true false false W args v W' := by
  have hW' := hW
  obtain ⟨p, q, hA0, hV, rfl, hfz, hnd⟩ := hW
  have hA : DataW.TrodAll enc Try.prog W 0 (fun _ => true) true Try.f8.params.toList args.toList ds p := hA0
  rw [Try.params8] at hA hval
  obtain ⟨v0, vs0, d0, ds0, p0, q0, hargs0, rfl, rfl, t0, r0⟩ := trodAll_cons hA
  obtain ⟨v1, vs1, d1, ds1, p1, q1, hargs1, rfl, rfl, t1, r1⟩ := trodAll_cons r0
  obtain ⟨v2, vs2, d2, ds2, p2, q2, hargs2, rfl, rfl, t2, r2⟩ := trodAll_cons r1
  obtain ⟨rfl, rfl, rfl⟩ := trodAll_nil r2
  obtain rfl : args = #[v0, v1, v2] := by cases args; simp_all
  obtain ⟨k, rfl, rfl, rfl, wf0⟩ := open_int Try.underlying3 (hval 0 3 v0 rfl rfl) t0
  have bd0 := bounds_i64 wf0
  obtain ⟨fl, ft, hG1, _, _, hb1, hm1⟩ := open_bform (hval 1 25 v1 rfl rfl) t1
  obtain ⟨gl, gt, hG2, _, _, hb2, hm2⟩ := open_bform (hval 2 25 v2 rfl rfl) t2
  refine (walk k v1 fl ft v2 gl gt W bd0.1 bd0.2 hG1 hb1 hm1 hG2 hb2 hm2).mono fun e W' ⟨he, hg⟩ => ?_
  subst he
  exact ⟨_, rfl, law_post (tb := 4) laidOut (fun t ht => by rw [Try.params8] at ht; revert t; exact of_decide_eq_true (by kernel_rfl)) (by kernel_rfl) Try.underlying4 rfl
    (fun ds h => by rw [Try.params8] at h; match ds, h with | [_, _, _], _ => rfl) hW' hg⟩

theorem laid_met (os : Os) : laidMet Try.prog Rows.bitsSelfRow.laid ((laidWorldG os).forCall (fun _ _ => 0) ⟨#[], #[.int .i64 0, .agg #[.slice none 0 0, .slice none 0 0], .agg #[.slice none 0 0, .slice none 0 0]], []⟩).memory :=
  laidMet_nil _ _
theorem reads (os : Os) {H : Type} (enc : TypeId × Value → H) : ∃ places, DataW.whole enc Try.prog ((laidWorldG os).forCall (fun _ _ => 0) ⟨#[], #[.int .i64 0, .agg #[.slice none 0 0, .slice none 0 0], .agg #[.slice none 0 0, .slice none 0 0]], []⟩).memory Try.f8.params.toList Rows.bitsSelfSpec.vars false #[Value.int .i64 0, Value.agg #[.slice none 0 0, .slice none 0 0], Value.agg #[.slice none 0 0, .slice none 0 0]].toList 8 = some ([.lit (.int .i64 0), .agg [.nil, .nil], .agg [.nil, .nil]], [], places) :=
  ⟨[], by kernel_rfl⟩

set_option maxRecDepth 100000 in
theorem lifted (os : Os) (started : os.Started) (H : Type) (enc : TypeId × Value → H) (F : Stop.Interp) :
    ReturnsInHanded {} Try.checked os 8 .any ((OpenSpec.ofChange Rows.bitsSelfSpec).preRow enc Try.prog Try.f8 Rows.bitsSelfRow.domain false Rows.bitsSelfRow.laid) (((OpenSpec.ofChange Rows.bitsSelfSpec).at F).post enc Try.prog Try.f8 false true false false) := by
  obtain ⟨places, hx⟩ := reads os enc
  refine returnsInHanded_of_row (C := Try.checked) (s := OpenSpec.ofChange Rows.bitsSelfSpec) own started (by kernel_rfl) Try.func8
    (witness_row_at (enc := enc) (C := Try.checked) false (laidWorldG os) #[.int .i64 0, .agg #[.slice none 0 0, .slice none 0 0], .agg #[.slice none 0 0, .slice none 0 0]] rfl (by kernel_rfl) (by kernel_rfl) (by kernel_rfl)
      (OpenSpec.preRow_of_cond 8 hx (by kernel_rfl) (fun k hk => by cases hk) (by kernel_rfl) (laid_met os))) ?_
  intro W base args ds gs before hval hW _ _ _ hL _ _
  exact contract H enc W base args ds gs before hval hW hL

theorem said : Rows.BitsSelfSaid :=
  OpenClaim.holds_of_cond 8 Try.f8 rfl rfl rfl rfl rfl rfl rfl ⟨rfl, rfl, rfl, rfl, rfl⟩ rfl rfl rfl rfl rfl (by kernel_rfl) Try.func8 (by kernel_rfl)
    (of_decide_eq_true (by kernel_rfl)) (by unfold Func.isWrapper; first | (rw [if_pos (by decide +kernel)]; kernel_rfl) | (rw [if_neg (by decide +kernel)]; exact ⟨rfl, rfl⟩))
    (fun os started H enc _ F => by rw [OpenClaim.pre_eq_preRow]; exact lifted os started H enc F)

end Go.Proofs.Ytlgoeegpgcilbaa.bitsSelf
