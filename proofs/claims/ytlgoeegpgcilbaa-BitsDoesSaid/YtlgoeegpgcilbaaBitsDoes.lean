/-
  For every kind and every two forms: the law BitsDoes returns true and changes nothing that was there.
-/
import Derived.Test.YtlgoeegpgcilbaaProg
import Derived.WalkKit
import Derived.Laws.BitsAllLaws
import Derived.ProofKit
import Derived.Lib.Hide
import Derived.Laws.Rows
import Derived.Laws.ResultCell
import Derived.Laws.Entries
import Derived.Handy
import Derived.OwnWalk
import Derived.Laws.OwnMore
import Derived.Deep.Draws
import Derived.Laws.IdiomStrings
import Derived.Lib.BufferRead
import Derived.Maps.OwnSet
import Derived.Laws.Tables
import Derived.Deep.DeepCutAuto
import Derived.DeepKeys
import Derived.Laws.StructEq
import Derived.Deep.RegionHeld3
import Derived.BigRegion
import Derived.BigQuiet
import Derived.Test.YtlgoeegpgcilbaaRows
import Derived.OpenShut
import Derived.Carry
import Derived.Deep.DeepHandedRow
import Derived.Lib.SmallJoins
import Derived.Deep.OwnRows
import Derived.Lib.QuietBelow
import Derived.RowKit
import Derived.Deep.QuietTactic
import Derived.Deep.CutBlock
import Derived.Stop.Joined
import Derived.Shelf.Sort.Plain
import Derived.Shelf.Slices.Turned
import Derived.Shelf.Slices.Equal
import Derived.Ground.Names2Prog
import Derived.Shelf.Slices.CompactI
import Derived.Shelf.Slices.In.SortNone
import Derived.Lib.AppendZerosOnto
import Derived.Lib.SliceRun
import Derived.Lib.OwnBridge
import Derived.Sort.OwnSortedInts
import Derived.Deep.MidRow
import Derived.Great.BuildSlice
import Derived.Test.YtlgoeegpgcilbaaPk1
import Derived.Test.YtlgoeegpgcilbaaPk2
import Derived.Test.YtlgoeegpgcilbaaPk3
import Derived.Test.YtlgoeegpgcilbaaPk4
import Derived.Test.YtlgoeegpgcilbaaPk5
import Derived.Test.YtlgoeegpgcilbaaPk6
namespace Go.Proofs.Ytlgoeegpgcilbaa.bitsDoes
open Go.ChangeShapes Go.WideShapes Go.ChangeAt Go.RowKit

theorem great_at {v : Value} {l : List Int} {t : List Nat} {B : Bool} {w : World} (hB : B = (decide (50 < l.length) || decide (100 < t.length))) (h : GF w v l t) : Calls Try.prog 9 #[v] w fun e w' => e = .returned (.bool B) ∧ Below w.heap.size w w' := by
  rw [hB]
  exact ggreat_any v l t w h
theorem small_if {l : List Int} {t : List Nat} (hl : ∀ n ∈ l, -9223372036854775808 ≤ n ∧ n ≤ 9223372036854775807) (ht : ∀ n ∈ t, n < 4294967296) (h : false = (decide (50 < l.length) || decide (100 < t.length))) : Small l t := by
  have h2 := h.symm
  rw [Bool.or_eq_false_iff, decide_eq_false_iff_not, decide_eq_false_iff_not] at h2
  exact ⟨by omega, by omega, hl, ht⟩
set_option maxHeartbeats 8000000 in
set_option maxRecDepth 100000 in
theorem walk (k : Int) (vf : Value) (l : List Int) (t : List Nat) (vg : Value) (m : List Int) (s : List Nat) (w : World) (_hk0 : -9223372036854775808 ≤ k) (_hk1 : k ≤ 9223372036854775807) (hf : GF w vf l t) (hli : ∀ n ∈ l, -9223372036854775808 ≤ n ∧ n ≤ 9223372036854775807) (ht : ∀ n ∈ t, n < 4294967296) (hg : GF w vg m s) (hmi : ∀ n ∈ m, -9223372036854775808 ≤ n ∧ n ≤ 9223372036854775807) (hs : ∀ n ∈ s, n < 4294967296) :
    Calls Try.prog 4 #[.int .i64 k, vf, vg] w fun e w' => e = .returned (.bool true) ∧ Below w.heap.size w w' := by
  obtain ⟨f1, f2, rfl, p1, p2⟩ := hf.split
  obtain ⟨g1, g2, rfl, p3, p4⟩ := hg.split
  obtain ⟨W, hW, h0, h1, hb⟩ := box2 w (bfB f1 f2) (bfB g1 g2)
  have HX := Lib.hid h0
  have HY := Lib.hid h1
  have HB := Lib.hid hb
  have HF := Lib.hid (hf.below hb)
  have HG := Lib.hid (hg.below hb)
  obtain ⟨B1, hB1⟩ : ∃ B, B = (decide (50 < l.length) || decide (100 < t.length)) := ⟨_, rfl⟩
  obtain ⟨B2, hB2⟩ : ∃ B, B = (decide (50 < m.length) || decide (100 < s.length)) := ⟨_, rfl⟩
  have HB1 := Lib.hid hB1
  have HB2 := Lib.hid hB2
  have HS1 : Hid (B1 = false → Small l t) := Lib.hid fun h => by subst h; exact small_if hli ht hB1
  have HS2 : Hid (B2 = false → Small m s) := Lib.hid fun h => by subst h; exact small_if hmi hs hB2
  clear hf hg hb hB1 hB2 hli hmi h0 h1
  go_enter Try.func4, Try.ntmps4
  go_upto_region 1 with fail
  rw [← hW]
  clear hW
  go_wp2_with (refine ld_bf HX.out rfl rfl rfl ?_)
  refine (great_at HB1.out HF.out).mono ?_
  rintro e w1 ⟨rfl, hb1⟩
  replace HX := Lib.hid (kb hb1 HX.out)
  replace HY := Lib.hid (kb hb1 HY.out)
  replace HF := Lib.hid (HF.out.below hb1)
  replace HG := Lib.hid (HG.out.below hb1)
  replace HB := Lib.hid (below2 HB.out hb1)
  clear hb1
  cases B1 with
  | true =>
    go_wp2_with fail
    refine (gknow_any _).mono ?_
    rintro e w9 ⟨rfl, hb9⟩
    replace HB := Lib.hid (below2 HB.out hb9)
    clear hb9
    go_wp2_with fail
    go_ret
    exact ⟨rfl, HB.out⟩
  | false =>
    replace HS1 := Lib.hid (HS1.out rfl)
    go_wp2_with (refine ld_bfg HY.out (by rfl) rfl rfl ?_)
    refine (great_at HB2.out HG.out).mono ?_
    rintro e w2 ⟨rfl, hb2⟩
    replace HX := Lib.hid (kb hb2 HX.out)
    replace HY := Lib.hid (kb hb2 HY.out)
    replace HF := Lib.hid (HF.out.below hb2)
    replace HG := Lib.hid (HG.out.below hb2)
    replace HB := Lib.hid (below2 HB.out hb2)
    clear hb2 HB1
    cases B2 with
    | true =>
      go_wp2_with fail
      refine (gknow_any _).mono ?_
      rintro e w9 ⟨rfl, hb9⟩
      replace HB := Lib.hid (below2 HB.out hb9)
      clear hb9
      go_wp2_with fail
      go_ret
      exact ⟨rfl, HB.out⟩
    | false =>
      replace HS2 := Lib.hid (HS2.out rfl)
      clear HB2
      go_wp2_with (first | (refine ld_bf HX.out rfl rfl rfl ?_) | (refine ld_bfg HX.out (by rfl) rfl rfl ?_) | (refine ld_bf HY.out rfl rfl rfl ?_) | (refine ld_bfg HY.out (by rfl) rfl rfl ?_))
      obtain ⟨D, hDD⟩ : ∃ D, D = doB k l t m s := ⟨_, rfl⟩
      have hSm : Small (natsI D.vs) D.tb := hDD ▸ doB_small ht hs
      obtain ⟨B, hOK⟩ : ∃ B, B = okB k l t m s := ⟨_, rfl⟩
      have cD1 : ∀ U v v', GF U v l t → GF U v' m s → Calls Try.prog 21 #[.int .i64 k, v, v'] U fun e w' => ∃ v, e = .returned (.tuple #[v, .bool B]) ∧ GF w' v (natsI D.vs) D.tb ∧ Below U.heap.size U w' := fun U v v' h h' => by rw [hOK, hDD]; exact bdo_any k v v' l m t s U h h' HS1.out HS2.out
      have cRD : ∀ U v v', GF U v l t → GF U v' m s → Calls Try.prog 22 #[.int .i64 k, v, v'] U fun e w' => ∃ v, e = .returned (.tuple #[v, .bool B]) ∧ GF w' v (natsI D.vs) D.tb ∧ Below U.heap.size U w' := fun U v v' h h' => (gdo_any k v v' l m t s U h h' ht hs).mono fun e w' ⟨vy, b, he, hb, hP⟩ => by
        obtain ⟨h1, h2⟩ := do_of ht hs hP
        rw [hOK, hDD, ← h1]
        exact ⟨vy, he, h2, hb⟩
      have CD1 := Lib.hid cD1
      have CRD := Lib.hid cRD
      have HSm := Lib.hid hSm
      clear cD1 cRD hSm hDD hOK HS1 HS2 ht hs
      refine (CD1.out _ _ _ HF.out HG.out).mono ?_
      rintro e w3 ⟨vd, rfl, hD, hb3⟩
      replace HX := Lib.hid (kb hb3 HX.out)
      replace HY := Lib.hid (kb hb3 HY.out)
      replace HF := Lib.hid (HF.out.below hb3)
      replace HG := Lib.hid (HG.out.below hb3)
      replace HB := Lib.hid (below2 HB.out hb3)
      clear hb3
      obtain ⟨d1, d2, rfl, p5, p6⟩ := hD.split
      have HD := Lib.hid hD
      clear hD
      have hsz := HB.out.size
      go_upto_region 4 with (first | (refine st_bf (heap_alloc_new _ _) rfl p5 p6 rfl rfl rfl rfl ?_; intro W3 hp3; have HP3 := Lib.hid hp3; skip; clear hp3)  | (refine ld_bfg HP3.out.row (by rfl) rfl rfl ?_))
      have hbS : Below w3.heap.size w3 W3 := HP3.out.below (ba _ (Below.refl _ _)) (Nat.le_refl _)
      replace HX := Lib.hid (kb hbS HX.out)
      replace HY := Lib.hid (kb hbS HY.out)
      replace HF := Lib.hid (HF.out.below hbS)
      replace HG := Lib.hid (HG.out.below hbS)
      replace HD := Lib.hid (HD.out.below hbS)
      replace HB := Lib.hid (below2 HB.out hbS)
      clear hbS
      have HXd := Lib.hid HP3.out.row
      clear HP3 
      generalize w3.heap.size = gd at *
      go_cut [9, 10] (fun s9 s10 wx => ∃ g u1 u2, s9 = .pointer (some ⟨g, 0, none⟩) ∧ s10 = .bool B ∧ wx.heap[g]? = some (gfB u1 u2) ∧ GF wx (.agg #[u1, u2]) (natsI D.vs) D.tb ∧ Below W3.heap.size W3 wx)
      case first =>
        have hF : GF W3.drew (.agg #[f1, f2]) l t := HF.out.below (bdN (Below.refl W3.heap.size W3) 1)
        have hG : GF W3.drew (.agg #[g1, g2]) m s := HG.out.below (bdN (Below.refl W3.heap.size W3) 1)
        refine wp_region_held_drew (S := fun U => Below W3.heap.size W3 U) (by kernel_rfl) (bdN (Below.refl _ _) 1) (fun hHeld => ?_)
        generalize W3.drew = wZ at *
        refine jheld_take (i := 0) (v := .int .i64 k) (some 26) rfl rfl (by kernel_rfl) (by kernel_rfl) (by kernel_rfl) (fun _ _ _ h => h) (.inl ⟨by rfl, fun V _ => by go_simp⟩) hHeld ?_
        simp only [Act.put, List.setIfInBounds_toArray, List.set_cons_zero, List.set_cons_succ]
        refine jheld_take (i := 1) (v := .agg #[f1, f2]) (some 27) rfl rfl (by kernel_rfl) (by kernel_rfl) (by kernel_rfl) (fun _ _ _ h => h) (gyi_row (by rfl) (by rfl) (by rfl) (fun U hV => lv_bf (kb hV HX.out))) hHeld ?_
        simp only [Act.put, List.setIfInBounds_toArray, List.set_cons_zero, List.set_cons_succ]
        refine jheld_take (i := 3) (v := .agg #[g1, g2]) (some 29) rfl rfl (by kernel_rfl) (by kernel_rfl) (by kernel_rfl) (fun _ _ _ h => h) (gyi_row (by rfl) (by rfl) (by rfl) (fun U hV => lv_bf (kb hV HY.out))) hHeld ?_
        simp only [Act.put, List.setIfInBounds_toArray, List.set_cons_zero, List.set_cons_succ]
        refine wpAnyH_ready (rs := [2, 9]) (by kernel_rfl) (by simp) ?_
        refine AllReadyH.cons rfl (fun K hK => ?_) (AllReadyH.cons rfl (fun K hK => ?_) AllReadyH.nil)
        · go_simp
          refine (gas_any _ l t wZ hF).mono ?_
          rintro e wA0 ⟨rfl, hbwA0⟩
          have hF := hF.below hbwA0
          have hG := hG.below hbwA0
          go_simp
          refine hK.out _ _ (below2 hHeld hbwA0) (fun hHeld => ?_)
          clear hK K hbwA0
          refine wpAnyH_ready (rs := [4, 9]) (by kernel_rfl) (by simp) ?_
          refine AllReadyH.cons rfl (fun K hK => ?_) (AllReadyH.cons rfl (fun K hK => ?_) AllReadyH.nil)
          · go_simp
            refine (gas_any _ m s wA0 hG).mono ?_
            rintro e wB1 ⟨rfl, hbwB1⟩
            have hF := hF.below hbwB1
            have hG := hG.below hbwB1
            go_simp
            refine hK.out _ _ (below2 hHeld hbwB1) (fun hHeld => ?_)
            clear hK K hbwB1
            refine wpAnyH_ready (rs := [5, 9]) (by kernel_rfl) (by simp) ?_
            refine AllReadyH.cons rfl (fun K hK => ?_) (AllReadyH.cons rfl (fun K hK => ?_) AllReadyH.nil)
            · go_simp
              refine (CRD.out wB1 _ _ hF hG).mono ?_
              rintro e wD2 ⟨vy, rfl, hY, hbwD2⟩
              obtain ⟨y1, y2, rfl, q1, q2⟩ := hY.split
              have hF := hF.below hbwD2
              have hG := hG.below hbwD2
              go_simp
              refine hK.out _ _ (below2 hHeld hbwD2) (fun hHeld => ?_)
              clear hK K hbwD2
              refine jheld_take (i := 6) (v := .tuple #[.agg #[y1, y2], .bool B]) (some 25) rfl rfl (by kernel_rfl) (by kernel_rfl) (by kernel_rfl) (fun _ _ _ h => h) (.inl ⟨by rfl, fun V _ => by go_simp⟩) hHeld ?_
              simp only [Act.put, List.setIfInBounds_toArray, List.set_cons_zero, List.set_cons_succ]
              refine jheld_take (i := 7) (v := .agg #[y1, y2]) (some 32) rfl rfl (by kernel_rfl) (by kernel_rfl) (by kernel_rfl) (fun _ _ _ h => h) (.inl ⟨by rfl, fun V _ => by go_simp⟩) hHeld ?_
              simp only [Act.put, List.setIfInBounds_toArray, List.set_cons_zero, List.set_cons_succ]
              refine jheld_take (i := 8) (v := .bool B) (some 33) rfl rfl (by kernel_rfl) (by kernel_rfl) (by kernel_rfl) (fun _ _ _ h => h) (.inl ⟨by rfl, fun V _ => by go_simp⟩) hHeld ?_
              simp only [Act.put, List.setIfInBounds_toArray, List.set_cons_zero, List.set_cons_succ]
              refine wpAnyH_ready (rs := [9]) (by kernel_rfl) (by simp) ?_
              refine AllReadyH.cons rfl (fun K hK => ?_) AllReadyH.nil
              go_simp
              obtain ⟨gq, hgq⟩ : ∃ gq, gq = (wD2).heap.size := ⟨_, rfl⟩
              have hAl := heap_alloc_new (wD2) (.cells #[.slice none 0 0, .slice none 0 0] 37)
              rw [← hgq] at hAl
              have hAb : Below (wD2).heap.size (wD2) ((wD2).alloc (.cells #[.slice none 0 0, .slice none 0 0] 37)) := ba _ (Below.refl _ _)
              have hAs : W3.heap.size ≤ gq := by rw [hgq]; exact hHeld.size
              have hF := hF.below hAb
              have hG := hG.below hAb
              have hY := hY.below hAb
              rw [show (wD2).heap.size = gq from hgq.symm]
              refine hK.out _ _ (below2 hHeld hAb) (fun hHeld => ?_)
              clear hK K hAb hgq
              generalize (wD2).alloc (.cells #[.slice none 0 0, .slice none 0 0] 37) = wL3 at *
              refine wpAnyH_ready (rs := [10]) (by kernel_rfl) (by simp) ?_
              refine AllReadyH.cons rfl (fun K hK => ?_) AllReadyH.nil
              (try rw [if_pos (by rfl)])
              refine wp_putg hAl (by rfl) q1 q2 (by rfl) (by rfl) (by rfl) ?_
              intro wS4 hp
              simp only [Act.put]
              have hF := hF.putr hAl hp
              have hG := hG.putr hAl hp
              have hY := hY.putr hAl hp
              have hAr := hp.row
              refine hK.out _ _ (hp.below hHeld hAs) (fun hHeld => ?_)
              clear hK K hAl hp
              refine jheld_take (i := 11) (v := .bool B) (some 10) rfl rfl (by kernel_rfl) (by kernel_rfl) (by kernel_rfl) (fun _ _ _ h => h) (.inl ⟨by rfl, fun V _ => by go_simp⟩) hHeld ?_
              simp only [Act.put, List.setIfInBounds_toArray]
              refine wpAnyH_done (by kernel_rfl) ?_ _
              go_wp2_with fail
              go_meet
              exact ⟨gq, y1, y2, rfl, rfl, hAr, hY, hHeld⟩
            · go_simp
              obtain ⟨gq, hgq⟩ : ∃ gq, gq = (wB1).heap.size := ⟨_, rfl⟩
              have hAl := heap_alloc_new (wB1) (.cells #[.slice none 0 0, .slice none 0 0] 37)
              rw [← hgq] at hAl
              have hAb : Below (wB1).heap.size (wB1) ((wB1).alloc (.cells #[.slice none 0 0, .slice none 0 0] 37)) := ba _ (Below.refl _ _)
              have hAs : W3.heap.size ≤ gq := by rw [hgq]; exact hHeld.size
              have hF := hF.below hAb
              have hG := hG.below hAb
              rw [show (wB1).heap.size = gq from hgq.symm]
              refine hK.out _ _ (below2 hHeld hAb) (fun hHeld => ?_)
              clear hK K hAb hgq
              generalize (wB1).alloc (.cells #[.slice none 0 0, .slice none 0 0] 37) = wL2 at *
              refine wpAnyH_ready (rs := [5]) (by kernel_rfl) (by simp) ?_
              refine AllReadyH.cons rfl (fun K hK => ?_) AllReadyH.nil
              go_simp
              refine (CRD.out wL2 _ _ hF hG).mono ?_
              rintro e wD3 ⟨vy, rfl, hY, hbwD3⟩
              obtain ⟨y1, y2, rfl, q1, q2⟩ := hY.split
              have hF := hF.below hbwD3
              have hG := hG.below hbwD3
              have hAl := kb hbwD3 hAl
              go_simp
              refine hK.out _ _ (below2 hHeld hbwD3) (fun hHeld => ?_)
              clear hK K hbwD3
              refine jheld_take (i := 6) (v := .tuple #[.agg #[y1, y2], .bool B]) (some 25) rfl rfl (by kernel_rfl) (by kernel_rfl) (by kernel_rfl) (fun _ _ _ h => h) (.inl ⟨by rfl, fun V _ => by go_simp⟩) hHeld ?_
              simp only [Act.put, List.setIfInBounds_toArray, List.set_cons_zero, List.set_cons_succ]
              refine jheld_take (i := 7) (v := .agg #[y1, y2]) (some 32) rfl rfl (by kernel_rfl) (by kernel_rfl) (by kernel_rfl) (fun _ _ _ h => h) (.inl ⟨by rfl, fun V _ => by go_simp⟩) hHeld ?_
              simp only [Act.put, List.setIfInBounds_toArray, List.set_cons_zero, List.set_cons_succ]
              refine jheld_take (i := 8) (v := .bool B) (some 33) rfl rfl (by kernel_rfl) (by kernel_rfl) (by kernel_rfl) (fun _ _ _ h => h) (.inl ⟨by rfl, fun V _ => by go_simp⟩) hHeld ?_
              simp only [Act.put, List.setIfInBounds_toArray, List.set_cons_zero, List.set_cons_succ]
              refine wpAnyH_ready (rs := [10]) (by kernel_rfl) (by simp) ?_
              refine AllReadyH.cons rfl (fun K hK => ?_) AllReadyH.nil
              (try rw [if_pos (by rfl)])
              refine wp_putg hAl (by rfl) q1 q2 (by rfl) (by rfl) (by rfl) ?_
              intro wS4 hp
              simp only [Act.put]
              have hF := hF.putr hAl hp
              have hG := hG.putr hAl hp
              have hY := hY.putr hAl hp
              have hAr := hp.row
              refine hK.out _ _ (hp.below hHeld hAs) (fun hHeld => ?_)
              clear hK K hAl hp
              refine jheld_take (i := 11) (v := .bool B) (some 10) rfl rfl (by kernel_rfl) (by kernel_rfl) (by kernel_rfl) (fun _ _ _ h => h) (.inl ⟨by rfl, fun V _ => by go_simp⟩) hHeld ?_
              simp only [Act.put, List.setIfInBounds_toArray]
              refine wpAnyH_done (by kernel_rfl) ?_ _
              go_wp2_with fail
              go_meet
              exact ⟨gq, y1, y2, rfl, rfl, hAr, hY, hHeld⟩
          · go_simp
            obtain ⟨gq, hgq⟩ : ∃ gq, gq = (wA0).heap.size := ⟨_, rfl⟩
            have hAl := heap_alloc_new (wA0) (.cells #[.slice none 0 0, .slice none 0 0] 37)
            rw [← hgq] at hAl
            have hAb : Below (wA0).heap.size (wA0) ((wA0).alloc (.cells #[.slice none 0 0, .slice none 0 0] 37)) := ba _ (Below.refl _ _)
            have hAs : W3.heap.size ≤ gq := by rw [hgq]; exact hHeld.size
            have hF := hF.below hAb
            have hG := hG.below hAb
            rw [show (wA0).heap.size = gq from hgq.symm]
            refine hK.out _ _ (below2 hHeld hAb) (fun hHeld => ?_)
            clear hK K hAb hgq
            generalize (wA0).alloc (.cells #[.slice none 0 0, .slice none 0 0] 37) = wL1 at *
            refine wpAnyH_ready (rs := [4]) (by kernel_rfl) (by simp) ?_
            refine AllReadyH.cons rfl (fun K hK => ?_) AllReadyH.nil
            go_simp
            refine (gas_any _ m s wL1 hG).mono ?_
            rintro e wB2 ⟨rfl, hbwB2⟩
            have hF := hF.below hbwB2
            have hG := hG.below hbwB2
            have hAl := kb hbwB2 hAl
            go_simp
            refine hK.out _ _ (below2 hHeld hbwB2) (fun hHeld => ?_)
            clear hK K hbwB2
            refine wpAnyH_ready (rs := [5]) (by kernel_rfl) (by simp) ?_
            refine AllReadyH.cons rfl (fun K hK => ?_) AllReadyH.nil
            go_simp
            refine (CRD.out wB2 _ _ hF hG).mono ?_
            rintro e wD3 ⟨vy, rfl, hY, hbwD3⟩
            obtain ⟨y1, y2, rfl, q1, q2⟩ := hY.split
            have hF := hF.below hbwD3
            have hG := hG.below hbwD3
            have hAl := kb hbwD3 hAl
            go_simp
            refine hK.out _ _ (below2 hHeld hbwD3) (fun hHeld => ?_)
            clear hK K hbwD3
            refine jheld_take (i := 6) (v := .tuple #[.agg #[y1, y2], .bool B]) (some 25) rfl rfl (by kernel_rfl) (by kernel_rfl) (by kernel_rfl) (fun _ _ _ h => h) (.inl ⟨by rfl, fun V _ => by go_simp⟩) hHeld ?_
            simp only [Act.put, List.setIfInBounds_toArray, List.set_cons_zero, List.set_cons_succ]
            refine jheld_take (i := 7) (v := .agg #[y1, y2]) (some 32) rfl rfl (by kernel_rfl) (by kernel_rfl) (by kernel_rfl) (fun _ _ _ h => h) (.inl ⟨by rfl, fun V _ => by go_simp⟩) hHeld ?_
            simp only [Act.put, List.setIfInBounds_toArray, List.set_cons_zero, List.set_cons_succ]
            refine jheld_take (i := 8) (v := .bool B) (some 33) rfl rfl (by kernel_rfl) (by kernel_rfl) (by kernel_rfl) (fun _ _ _ h => h) (.inl ⟨by rfl, fun V _ => by go_simp⟩) hHeld ?_
            simp only [Act.put, List.setIfInBounds_toArray, List.set_cons_zero, List.set_cons_succ]
            refine wpAnyH_ready (rs := [10]) (by kernel_rfl) (by simp) ?_
            refine AllReadyH.cons rfl (fun K hK => ?_) AllReadyH.nil
            (try rw [if_pos (by rfl)])
            refine wp_putg hAl (by rfl) q1 q2 (by rfl) (by rfl) (by rfl) ?_
            intro wS4 hp
            simp only [Act.put]
            have hF := hF.putr hAl hp
            have hG := hG.putr hAl hp
            have hY := hY.putr hAl hp
            have hAr := hp.row
            refine hK.out _ _ (hp.below hHeld hAs) (fun hHeld => ?_)
            clear hK K hAl hp
            refine jheld_take (i := 11) (v := .bool B) (some 10) rfl rfl (by kernel_rfl) (by kernel_rfl) (by kernel_rfl) (fun _ _ _ h => h) (.inl ⟨by rfl, fun V _ => by go_simp⟩) hHeld ?_
            simp only [Act.put, List.setIfInBounds_toArray]
            refine wpAnyH_done (by kernel_rfl) ?_ _
            go_wp2_with fail
            go_meet
            exact ⟨gq, y1, y2, rfl, rfl, hAr, hY, hHeld⟩
        · go_simp
          obtain ⟨gq, hgq⟩ : ∃ gq, gq = (wZ).heap.size := ⟨_, rfl⟩
          have hAl := heap_alloc_new (wZ) (.cells #[.slice none 0 0, .slice none 0 0] 37)
          rw [← hgq] at hAl
          have hAb : Below (wZ).heap.size (wZ) ((wZ).alloc (.cells #[.slice none 0 0, .slice none 0 0] 37)) := ba _ (Below.refl _ _)
          have hAs : W3.heap.size ≤ gq := by rw [hgq]; exact hHeld.size
          have hF := hF.below hAb
          have hG := hG.below hAb
          rw [show (wZ).heap.size = gq from hgq.symm]
          refine hK.out _ _ (below2 hHeld hAb) (fun hHeld => ?_)
          clear hK K hAb hgq
          generalize (wZ).alloc (.cells #[.slice none 0 0, .slice none 0 0] 37) = wL0 at *
          refine wpAnyH_ready (rs := [2]) (by kernel_rfl) (by simp) ?_
          refine AllReadyH.cons rfl (fun K hK => ?_) AllReadyH.nil
          go_simp
          refine (gas_any _ l t wL0 hF).mono ?_
          rintro e wA1 ⟨rfl, hbwA1⟩
          have hF := hF.below hbwA1
          have hG := hG.below hbwA1
          have hAl := kb hbwA1 hAl
          go_simp
          refine hK.out _ _ (below2 hHeld hbwA1) (fun hHeld => ?_)
          clear hK K hbwA1
          refine wpAnyH_ready (rs := [4]) (by kernel_rfl) (by simp) ?_
          refine AllReadyH.cons rfl (fun K hK => ?_) AllReadyH.nil
          go_simp
          refine (gas_any _ m s wA1 hG).mono ?_
          rintro e wB2 ⟨rfl, hbwB2⟩
          have hF := hF.below hbwB2
          have hG := hG.below hbwB2
          have hAl := kb hbwB2 hAl
          go_simp
          refine hK.out _ _ (below2 hHeld hbwB2) (fun hHeld => ?_)
          clear hK K hbwB2
          refine wpAnyH_ready (rs := [5]) (by kernel_rfl) (by simp) ?_
          refine AllReadyH.cons rfl (fun K hK => ?_) AllReadyH.nil
          go_simp
          refine (CRD.out wB2 _ _ hF hG).mono ?_
          rintro e wD3 ⟨vy, rfl, hY, hbwD3⟩
          obtain ⟨y1, y2, rfl, q1, q2⟩ := hY.split
          have hF := hF.below hbwD3
          have hG := hG.below hbwD3
          have hAl := kb hbwD3 hAl
          go_simp
          refine hK.out _ _ (below2 hHeld hbwD3) (fun hHeld => ?_)
          clear hK K hbwD3
          refine jheld_take (i := 6) (v := .tuple #[.agg #[y1, y2], .bool B]) (some 25) rfl rfl (by kernel_rfl) (by kernel_rfl) (by kernel_rfl) (fun _ _ _ h => h) (.inl ⟨by rfl, fun V _ => by go_simp⟩) hHeld ?_
          simp only [Act.put, List.setIfInBounds_toArray, List.set_cons_zero, List.set_cons_succ]
          refine jheld_take (i := 7) (v := .agg #[y1, y2]) (some 32) rfl rfl (by kernel_rfl) (by kernel_rfl) (by kernel_rfl) (fun _ _ _ h => h) (.inl ⟨by rfl, fun V _ => by go_simp⟩) hHeld ?_
          simp only [Act.put, List.setIfInBounds_toArray, List.set_cons_zero, List.set_cons_succ]
          refine jheld_take (i := 8) (v := .bool B) (some 33) rfl rfl (by kernel_rfl) (by kernel_rfl) (by kernel_rfl) (fun _ _ _ h => h) (.inl ⟨by rfl, fun V _ => by go_simp⟩) hHeld ?_
          simp only [Act.put, List.setIfInBounds_toArray, List.set_cons_zero, List.set_cons_succ]
          refine wpAnyH_ready (rs := [10]) (by kernel_rfl) (by simp) ?_
          refine AllReadyH.cons rfl (fun K hK => ?_) AllReadyH.nil
          (try rw [if_pos (by rfl)])
          refine wp_putg hAl (by rfl) q1 q2 (by rfl) (by rfl) (by rfl) ?_
          intro wS4 hp
          simp only [Act.put]
          have hF := hF.putr hAl hp
          have hG := hG.putr hAl hp
          have hY := hY.putr hAl hp
          have hAr := hp.row
          refine hK.out _ _ (hp.below hHeld hAs) (fun hHeld => ?_)
          clear hK K hAl hp
          refine jheld_take (i := 11) (v := .bool B) (some 10) rfl rfl (by kernel_rfl) (by kernel_rfl) (by kernel_rfl) (fun _ _ _ h => h) (.inl ⟨by rfl, fun V _ => by go_simp⟩) hHeld ?_
          simp only [Act.put, List.setIfInBounds_toArray]
          refine wpAnyH_done (by kernel_rfl) ?_ _
          go_wp2_with fail
          go_meet
          exact ⟨gq, y1, y2, rfl, rfl, hAr, hY, hHeld⟩
      case rest =>
      obtain ⟨gy, y1, y2, rfl, rfl, hy1, hy2, hb4⟩ := hcut
      have HXy := Lib.hid hy1
      have HY2 := Lib.hid hy2
      clear hy1 hy2 HF HG HX HY CD1 CRD
      replace HXd := Lib.hid (kb hb4 HXd.out)
      replace HD := Lib.hid (HD.out.below hb4)
      replace HB := Lib.hid (below2 HB.out hb4)
      clear hb4
      generalize wc = W4 at *
      have c1 := qg_as HD.out
      have c2 : QG W4 18 #[.agg #[d1, d2], .agg #[y1, y2]] (.bool true) := by have h2 := qg_rsame HD.out HY2.out HSm.out; rw [decide_eq_true ⟨rfl, rfl⟩] at h2; exact h2
      have cK := qg_knows W4
      go_wp2_with fail
      refine wp_region_quiet_below (by kernel_rfl) (by kernel_rfl) ?_
      repeat (first | (refine qg_bf HXd.out (by rfl) rfl rfl ?_) | (refine qg_gf HXy.out (by rfl) rfl rfl ?_) | (quiet_step (first | with_reducible exact c1 _ _ | with_reducible exact c2 _ _ | with_reducible exact cK _ _)))
      refine wpQuiet_nil ?_
      intro _ hw'
      obtain ⟨⟨dq, osq⟩, hw''⟩ := hw'
      subst hw''
      have hbq := below_regrown W4 dq osq
      replace HB := Lib.hid (below2 HB.out hbq)
      clear hbq
      generalize Sort.grow (redrawn W4 dq) osq = Wq at *
      go_wp2_with fail
      go_ret
      exact ⟨rfl, HB.out⟩

set_option maxRecDepth 100000 in
/-- The row's contract, for every argument and every world. -/
theorem contract (H : Type) (enc : TypeId × Value → H) (W : World) (base : Nat) (args : Array Value) (ds gs : List (DataW H)) (before : List MemPlace)
    (hval : ∀ (j : Nat) t v, Try.f4.params[j]? = some t → args[j]? = some v → Value.okWide Try.prog W .any base t v)
    (hW : DataW.Whole enc Try.prog Try.f4.params.toList Rows.bitsDoesSpec.vars false W args.toList ds gs before) (_hL : laidMetH Try.prog Rows.bitsDoesRow.laid W) :
    Calls Try.prog 4 args W fun e W' => ∃ v, e = .returned v ∧ Rows.bitsDoesSpec.post enc Try.prog Try.f4 false true false false W args v W' := by
  have hW' := hW
  obtain ⟨p, q, hA0, hV, rfl, hfz, hnd⟩ := hW
  have hA : DataW.TrodAll enc Try.prog W 0 (fun _ => true) true Try.f4.params.toList args.toList ds p := hA0
  rw [Try.params4] at hA hval
  obtain ⟨v0, vs0, d0, ds0, p0, q0, hargs0, rfl, rfl, t0, r0⟩ := trodAll_cons hA
  obtain ⟨v1, vs1, d1, ds1, p1, q1, hargs1, rfl, rfl, t1, r1⟩ := trodAll_cons r0
  obtain ⟨v2, vs2, d2, ds2, p2, q2, hargs2, rfl, rfl, t2, r2⟩ := trodAll_cons r1
  obtain ⟨rfl, rfl, rfl⟩ := trodAll_nil r2
  obtain rfl : args = #[v0, v1, v2] := by cases args; simp_all
  obtain ⟨k, rfl, rfl, rfl, wf0⟩ := open_int Try.underlying3 (hval 0 3 v0 rfl rfl) t0
  have bd0 := bounds_i64 wf0
  obtain ⟨fl, ft, hG1, _, _, hb1, hm1⟩ := open_bform (hval 1 25 v1 rfl rfl) t1
  obtain ⟨gl, gt, hG2, _, _, hb2, hm2⟩ := open_bform (hval 2 25 v2 rfl rfl) t2
  refine (walk k v1 fl ft v2 gl gt W bd0.1 bd0.2 hG1 hb1 hm1 hG2 hb2 hm2).mono fun e W' ⟨he, hg⟩ => ?_
  subst he
  exact ⟨_, rfl, law_post (tb := 4) laidOut (fun t ht => by rw [Try.params4] at ht; revert t; exact of_decide_eq_true (by kernel_rfl)) (by kernel_rfl) Try.underlying4 rfl
    (fun ds h => by rw [Try.params4] at h; match ds, h with | [_, _, _], _ => rfl) hW' hg⟩

theorem laid_met (os : Os) : laidMet Try.prog Rows.bitsDoesRow.laid ((laidWorldG os).forCall (fun _ _ => 0) ⟨#[], #[.int .i64 0, .agg #[.slice none 0 0, .slice none 0 0], .agg #[.slice none 0 0, .slice none 0 0]], []⟩).memory :=
  laidMet_nil _ _
theorem reads (os : Os) {H : Type} (enc : TypeId × Value → H) : ∃ places, DataW.whole enc Try.prog ((laidWorldG os).forCall (fun _ _ => 0) ⟨#[], #[.int .i64 0, .agg #[.slice none 0 0, .slice none 0 0], .agg #[.slice none 0 0, .slice none 0 0]], []⟩).memory Try.f4.params.toList Rows.bitsDoesSpec.vars false #[Value.int .i64 0, Value.agg #[.slice none 0 0, .slice none 0 0], Value.agg #[.slice none 0 0, .slice none 0 0]].toList 8 = some ([.lit (.int .i64 0), .agg [.nil, .nil], .agg [.nil, .nil]], [], places) :=
  ⟨[], by kernel_rfl⟩

set_option maxRecDepth 100000 in
theorem lifted (os : Os) (started : os.Started) (H : Type) (enc : TypeId × Value → H) (F : Stop.Interp) :
    ReturnsInHanded {} Try.checked os 4 .any ((OpenSpec.ofChange Rows.bitsDoesSpec).preRow enc Try.prog Try.f4 Rows.bitsDoesRow.domain false Rows.bitsDoesRow.laid) (((OpenSpec.ofChange Rows.bitsDoesSpec).at F).post enc Try.prog Try.f4 false true false false) := by
  obtain ⟨places, hx⟩ := reads os enc
  refine returnsInHanded_of_row (C := Try.checked) (s := OpenSpec.ofChange Rows.bitsDoesSpec) own started (by kernel_rfl) Try.func4
    (witness_row_at (enc := enc) (C := Try.checked) false (laidWorldG os) #[.int .i64 0, .agg #[.slice none 0 0, .slice none 0 0], .agg #[.slice none 0 0, .slice none 0 0]] rfl (by kernel_rfl) (by kernel_rfl) (by kernel_rfl)
      (OpenSpec.preRow_of_cond 8 hx (by kernel_rfl) (fun k hk => by cases hk) (by kernel_rfl) (laid_met os))) ?_
  intro W base args ds gs before hval hW _ _ _ hL _ _
  exact contract H enc W base args ds gs before hval hW hL

theorem said : Rows.BitsDoesSaid :=
  OpenClaim.holds_of_cond 4 Try.f4 rfl rfl rfl rfl rfl rfl rfl ⟨rfl, rfl, rfl, rfl, rfl⟩ rfl rfl rfl rfl rfl (by kernel_rfl) Try.func4 (by kernel_rfl)
    (of_decide_eq_true (by kernel_rfl)) (by unfold Func.isWrapper; first | (rw [if_pos (by decide +kernel)]; kernel_rfl) | (rw [if_neg (by decide +kernel)]; exact ⟨rfl, rfl⟩))
    (fun os started H enc _ F => by rw [OpenClaim.pre_eq_preRow]; exact lifted os started H enc F)

end Go.Proofs.Ytlgoeegpgcilbaa.bitsDoes
