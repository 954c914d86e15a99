/-
  For every form and any assignment: the law AffineValues returns true and changes nothing that was there.
-/
import Derived.Deep.CutBlock
import Derived.Deep.DeepCutAuto
import Derived.Test.YtkfhmcpdodnbhaaProg
import Derived.WalkKit
import Derived.ProofKit
import Derived.Lib.Hide
import Derived.Laws.Rows
import Derived.Laws.ResultCell
import Derived.Laws.Entries
import Derived.Handy
import Derived.OwnWalk
import Derived.Laws.OwnMore
import Derived.Deep.Draws
import Derived.Laws.IdiomStrings
import Derived.Lib.BufferRead
import Derived.Maps.OwnSet
import Derived.Laws.Tables
import Derived.DeepKeys
import Derived.Laws.StructEq
import Derived.Deep.RegionHeld3
import Derived.BigRegion
import Derived.BigQuiet
import Derived.Deep.OwnRows
import Derived.Lib.QuietBelow
import Derived.Deep.MidRow
import Derived.Test.YtkfhmcpdodnbhaaRows
import Derived.OpenShut
import Derived.Carry
import Derived.Deep.DeepHandedRow
import Derived.Lib.SmallJoins
import Derived.Stop.Joined
import Derived.Test.YtkfhmcpdodnbhaaPk1
import Derived.Test.YtkfhmcpdodnbhaaPk2
namespace Go.Proofs.Ytkfhmcpdodnbhaa.affineValues
open Go.ChangeShapes Go.WideShapes Go.ChangeAt Go.RowKit

theorem lv_rf {V : World} {g c : Nat} {u : Value} (h : V.heap[g]? = some (rfB c u)) : (loadVar 32 ⟨g, 0, none⟩).run Try.prog V = .ok (.agg #[.int .u32 (c : Int), u]) V :=
  run_loadVar_row V g 32 32 #[.int .u32 (c : Int), u] (0, 0) _ h Try.underlying32 rfl infoR
set_option maxRecDepth 100000 in
set_option maxHeartbeats 16000000 in
theorem walk (f v : List Nat) (w : World) (hf : FOk f) (hv : VOk v) :
    Calls Try.prog 4 #[formV f, formV v] w fun e w' => e = .returned (.bool true) ∧ Below w.heap.size w w' := by
  obtain ⟨W, hW, h0, h1, hb⟩ := box2 w (formB f) (rowB v)
  have HX := Lib.hid h0
  have HY := Lib.hid h1
  have HB := Lib.hid hb
  have lf := hf.1
  have lv := hv.1
  have HFV := Lib.hid (And.intro hf hv)
  obtain ⟨n, hn⟩ : ∃ n, n = cntN f 34 := ⟨_, rfl⟩
  obtain ⟨c, hc⟩ : ∃ c, c = mAt f 0 := ⟨_, rfl⟩
  obtain ⟨C, hCC⟩ : ∃ C : Nat × Bool, C = constantF f := ⟨_, rfl⟩
  obtain ⟨CN, CB⟩ := C
  have HCA : Hid ((n = 0 ∧ CN = c ∧ CB = true) ∨ (¬ n = 0 ∧ CN = 0 ∧ CB = false)) := Lib.hid (by
    unfold constantF at hCC
    rw [← hn, ← hc] at hCC
    by_cases h : n = 0
    · rw [if_pos h] at hCC
      exact .inl ⟨h, (Prod.mk.inj hCC).1, (Prod.mk.inj hCC).2⟩
    · rw [if_neg h] at hCC
      exact .inr ⟨h, (Prod.mk.inj hCC).1, (Prod.mk.inj hCC).2⟩)
  have HCC := Lib.hid hCC
  have HN := Lib.hid hn
  have HC0 : Hid ((numsC f)[0]? = some (.int .u32 (c : Nat))) := Lib.hid (by rw [hc]; exact numsC_at (by omega))
  have HCm := Lib.hid hc
  obtain ⟨I, hI⟩ : ∃ I, I = (singleF f).getD 0 := ⟨_, rfl⟩
  obtain ⟨Sb, hS⟩ : ∃ Sb, Sb = (singleF f).isSome := ⟨_, rfl⟩
  have HS1 : Hid (∀ m, m < 34 → f = varF m → I = m ∧ Sb = true) := Lib.hid (fun m hm h => by rw [hI, hS, single_some hm h]; exact ⟨rfl, rfl⟩)
  have HS0 : Hid ((∀ m, m < 34 → ¬ f = varF m) → I = 0 ∧ Sb = false) := Lib.hid (fun h => by rw [hI, hS, single_none h]; exact ⟨rfl, rfl⟩)
  have HIS := Lib.hid (And.intro hI hS)
  clear h0 h1 hb hf hv hn hc hCC hI hS
  go_enter Try.func4, Try.ntmps4
  go_upto_region 1 with fail
  rw [← hW]
  clear hW
  go_wp2_with (refine ld_form HX.out lf rfl rfl rfl ?_)
  refine (aconstant_any f _ HFV.out.1).mono ?_
  rintro e w1 ⟨rfl, hb1⟩
  rw [← HCC.out]
  have HX1 := Lib.hid (kb hb1 HX.out)
  have HY1 := Lib.hid (kb hb1 HY.out)
  have HB1 := Lib.hid (below2 HB.out hb1)
  clear hb1 HX HY HB HCC
  go_wp2_with (refine ld_form HX1.out lf rfl rfl rfl ?_)
  refine (asingle_any f _ HFV.out.1).mono ?_
  rintro e w2 ⟨rfl, hb2⟩
  rw [← HIS.out.1, ← HIS.out.2]
  have HX2 := Lib.hid (kb hb2 HX1.out)
  have HY2 := Lib.hid (kb hb2 HY1.out)
  have HB2 := Lib.hid (below2 HB1.out hb2)
  clear hb2 HX1 HY1 HB1 HIS
  go_wp2_with (refine ld_form HX2.out lf rfl rfl rfl ?_)
  refine (as_any f _ lf).mono ?_
  rintro e w3 ⟨v3, rfl, hr3, hb3⟩
  have HRF := Lib.hid hr3
  obtain ⟨_, rfl, b3, o3, cap3, rfl, _, _⟩ := hr3
  rw [← HCm.out] at HRF ⊢
  have HX4 := Lib.hid (ka (rfB c (.slice (some ⟨b3, o3, none⟩) 34 cap3)) (kb hb3 HX2.out))
  have HY4 := Lib.hid (ka (rfB c (.slice (some ⟨b3, o3, none⟩) 34 cap3)) (kb hb3 HY2.out))
  have HR4 := Lib.hid (heap_alloc_new w3 (rfB c (.slice (some ⟨b3, o3, none⟩) 34 cap3)))
  have HB4 := Lib.hid (ba (rfB c (.slice (some ⟨b3, o3, none⟩) 34 cap3)) (below2 HB2.out hb3))
  have HRF4 := Lib.hid (HRF.out.below (ba (rfB c (.slice (some ⟨b3, o3, none⟩) 34 cap3)) (Below.refl w3.heap.size w3)))
  clear hb3 HX2 HY2 HB2 HRF
  go_wp2_with (refine ld_rf HR4.out rfl rfl rfl ?_)
  refine (rcounts_any _ f _ HRF4.out).mono ?_
  rintro e w5 ⟨rfl, hb5⟩
  rw [← HN.out]
  have HX5 := Lib.hid (kb hb5 HX4.out)
  have HY5 := Lib.hid (kb hb5 HY4.out)
  have HR5 := Lib.hid (kb hb5 HR4.out)
  have HB5 := Lib.hid (below2 HB4.out hb5)
  have HRF5 := Lib.hid (HRF4.out.below hb5)
  clear hb5 HX4 HY4 HR4 HB4 HRF4 HCm HN
  go_upto_region 5 with fail
  go_cut [56] (fun s56 wx => s56 = .bool false ∧ Below w5.heap.size w5 wx)
  case first =>
    clear HS1 HS0
    refine wp_region_held_drew (S := fun V => Below w5.heap.size w5 V) (by kernel_rfl) ?_ (fun hHeld => ?_)
    · exact bdN (Below.refl _ _) 1
    rcases HCA.out with ⟨rfl, rfl, rfl⟩ | ⟨hn, rfl, rfl⟩
    · clear HCA
      refine jheld_take (i := 0) (v := .bool true) (some 26) rfl rfl (by kernel_rfl) (by kernel_rfl) (by kernel_rfl) (fun _ _ _ h => h) (.inl ⟨by rfl, fun V hV => by go_simp⟩) hHeld ?_
      simp only [Act.put, List.setIfInBounds_toArray, List.set_cons_zero, List.set_cons_succ]
      refine jheld_take (i := 1) (v := .int .i64 ((0 : Nat) : Int)) (some 27) rfl rfl (by kernel_rfl) (by kernel_rfl) (by kernel_rfl) (fun _ _ _ h => h) (.inl ⟨by rfl, fun V hV => by go_simp⟩) hHeld ?_
      simp only [Act.put, List.setIfInBounds_toArray, List.set_cons_zero, List.set_cons_succ]
      refine jheld_take (i := 2) (v := .bool true) (some 28) rfl rfl (by kernel_rfl) (by kernel_rfl) (by kernel_rfl) (fun _ _ _ h => h) (.inl ⟨by rfl, fun V hV => by go_simp⟩) hHeld ?_
      simp only [Act.put, List.setIfInBounds_toArray, List.set_cons_zero, List.set_cons_succ]
      refine jheld_take (i := 3) (v := .bool false) (some 29) rfl rfl (by kernel_rfl) (by kernel_rfl) (by kernel_rfl) (fun _ _ _ h => h) (.inl ⟨by rfl, fun V hV => by go_simp⟩) hHeld ?_
      simp only [Act.put, List.setIfInBounds_toArray, List.set_cons_zero, List.set_cons_succ]
      refine jheld_take (i := 4) (v := .bool false) (some 30) rfl rfl (by kernel_rfl) (by kernel_rfl) (by kernel_rfl) (fun _ _ _ h => h) (.inl ⟨by rfl, fun V hV => by go_simp⟩) hHeld ?_
      simp only [Act.put, List.setIfInBounds_toArray, List.set_cons_zero, List.set_cons_succ]
      refine jheld_take (i := 5) (v := .bool true) (some 31) rfl rfl (by kernel_rfl) (by kernel_rfl) (by kernel_rfl) (fun _ _ _ h => h) (.inl ⟨by rfl, fun V hV => by go_simp⟩) hHeld ?_
      simp only [Act.put, List.setIfInBounds_toArray, List.set_cons_zero, List.set_cons_succ]
      refine jheld_take (i := 6) (v := .bool true) (some 32) rfl rfl (by kernel_rfl) (by kernel_rfl) (by kernel_rfl) (fun _ _ _ h => h) (.inl ⟨by rfl, fun V hV => by go_simp⟩) hHeld ?_
      simp only [Act.put, List.setIfInBounds_toArray, List.set_cons_zero, List.set_cons_succ]
      refine jheld_take (i := 7) (v := .int .u32 (CN : Int)) (some 33) rfl rfl (by kernel_rfl) (by kernel_rfl) (by kernel_rfl) (fun _ _ _ h => h) (.inl ⟨by rfl, fun V hV => by go_simp⟩) hHeld ?_
      simp only [Act.put, List.setIfInBounds_toArray, List.set_cons_zero, List.set_cons_succ]
      refine jheld_take (i := 8) (v := .pointer (some ⟨w.heap.size, 0, none⟩)) (some 34) rfl rfl (by kernel_rfl) (by kernel_rfl) (by kernel_rfl) (fun _ _ _ h => h) (.inl ⟨by rfl, fun V hV => by go_simp⟩) hHeld ?_
      simp only [Act.put, List.setIfInBounds_toArray, List.set_cons_zero, List.set_cons_succ]
      refine jheld_take (i := 9) (v := .int .u32 (CN : Int)) (some 35) rfl rfl (by kernel_rfl) (by kernel_rfl) (by kernel_rfl) (fun _ _ _ h => h) (.inl ⟨by rfl, fun V hV => by have c0 := (cell_in (kb hV HX5.out) 0).trans HC0.out; go_simp⟩) hHeld ?_
      simp only [Act.put, List.setIfInBounds_toArray, List.set_cons_zero, List.set_cons_succ]
      refine jheld_take (i := 10) (v := .bool false) (some 36) rfl rfl (by kernel_rfl) (by kernel_rfl) (by kernel_rfl) (fun _ _ _ h => h) (.inl ⟨by rfl, fun V hV => by go_simp⟩) hHeld ?_
      simp only [Act.put, List.setIfInBounds_toArray, List.set_cons_zero, List.set_cons_succ]
      refine jheld_take (i := 11) (v := .bool false) (some 37) rfl rfl (by kernel_rfl) (by kernel_rfl) (by kernel_rfl) (fun _ _ _ h => h) (.inl ⟨by rfl, fun V hV => by go_simp⟩) hHeld ?_
      simp only [Act.put, List.setIfInBounds_toArray, List.set_cons_zero, List.set_cons_succ]
      refine jheld_take (i := 12) (v := .bool false) (some 38) rfl rfl (by kernel_rfl) (by kernel_rfl) (by kernel_rfl) (fun _ _ _ h => h) (.inl ⟨by rfl, fun V hV => by go_simp⟩) hHeld ?_
      simp only [Act.put, List.setIfInBounds_toArray, List.set_cons_zero, List.set_cons_succ]
      refine jheld_take (i := 13) (v := .bool false) (some 39) rfl rfl (by kernel_rfl) (by kernel_rfl) (by kernel_rfl) (fun _ _ _ h => h) (.inl ⟨by rfl, fun V hV => by go_simp⟩) hHeld ?_
      simp only [Act.put, List.setIfInBounds_toArray, List.set_cons_zero, List.set_cons_succ]
      refine jheld_take (i := 14) (v := .bool true) (some 40) rfl rfl (by kernel_rfl) (by kernel_rfl) (by kernel_rfl) (fun _ _ _ h => h) (.inl ⟨by rfl, fun V hV => by go_simp⟩) hHeld ?_
      simp only [Act.put, List.setIfInBounds_toArray, List.set_cons_zero, List.set_cons_succ]
      refine jheld_take (i := 15) (v := .bool false) (some 41) rfl rfl (by kernel_rfl) (by kernel_rfl) (by kernel_rfl) (fun _ _ _ h => h) (.inl ⟨by rfl, fun V hV => by go_simp⟩) hHeld ?_
      simp only [Act.put, List.setIfInBounds_toArray, List.set_cons_zero, List.set_cons_succ]
      refine jheld_take (i := 16) (v := .bool false) (some 42) rfl rfl (by kernel_rfl) (by kernel_rfl) (by kernel_rfl) (fun _ _ _ h => h) (.inl ⟨by rfl, fun V hV => by go_simp⟩) hHeld ?_
      simp only [Act.put, List.setIfInBounds_toArray, List.set_cons_zero, List.set_cons_succ]
      refine jheld_take (i := 17) (v := undef) (some 43) rfl rfl (by kernel_rfl) (by kernel_rfl) (by kernel_rfl) (fun _ _ _ h => h) (.inr ⟨by rfl, rfl⟩) hHeld ?_
      simp only [Act.put, List.setIfInBounds_toArray, List.set_cons_zero, List.set_cons_succ]
      refine jheld_take (i := 18) (v := undef) (some 44) rfl rfl (by kernel_rfl) (by kernel_rfl) (by kernel_rfl) (fun _ _ _ h => h) (.inr ⟨by rfl, rfl⟩) hHeld ?_
      simp only [Act.put, List.setIfInBounds_toArray, List.set_cons_zero, List.set_cons_succ]
      refine jheld_take (i := 19) (v := .bool false) (some 45) rfl rfl (by kernel_rfl) (by kernel_rfl) (by kernel_rfl) (fun _ _ _ h => h) (.inl ⟨by rfl, fun V hV => by go_simp⟩) hHeld ?_
      simp only [Act.put, List.setIfInBounds_toArray, List.set_cons_zero, List.set_cons_succ]
      refine jheld_take (i := 20) (v := .bool false) (some 46) rfl rfl (by kernel_rfl) (by kernel_rfl) (by kernel_rfl) (fun _ _ _ h => h) (.inl ⟨by rfl, fun V hV => by go_simp⟩) hHeld ?_
      simp only [Act.put, List.setIfInBounds_toArray, List.set_cons_zero, List.set_cons_succ]
      refine jheld_take (i := 21) (v := .bool false) (some 47) rfl rfl (by kernel_rfl) (by kernel_rfl) (by kernel_rfl) (fun _ _ _ h => h) (.inl ⟨by rfl, fun V hV => by go_simp⟩) hHeld ?_
      simp only [Act.put, List.setIfInBounds_toArray, List.set_cons_zero, List.set_cons_succ]
      refine jheld_take (i := 22) (some 48) rfl rfl (by kernel_rfl) (by kernel_rfl) (by kernel_rfl) (fun _ _ _ h => h) (jyi_row (by rfl) (by rfl) (by rfl) (fun V hV => lv_form (kb hV HX5.out) lf)) hHeld ?_
      simp only [Act.put, List.setIfInBounds_toArray, List.set_cons_zero, List.set_cons_succ]
      refine jheld_take (i := 23) (some 49) rfl rfl (by kernel_rfl) (by kernel_rfl) (by kernel_rfl) (fun _ _ _ h => h) (jyi_row (by rfl) (by rfl) (by rfl) (fun V hV => lv_row (kb hV HY5.out) lv)) hHeld ?_
      simp only [Act.put, List.setIfInBounds_toArray, List.set_cons_zero, List.set_cons_succ]
      refine jheld_take (i := 25) (some 51) rfl rfl (by kernel_rfl) (by kernel_rfl) (by kernel_rfl) (fun _ _ _ h => h) (jyi_row (by rfl) (by rfl) (by rfl) (fun V hV => lv_rf (kb hV HR5.out))) hHeld ?_
      simp only [Act.put, List.setIfInBounds_toArray, List.set_cons_zero, List.set_cons_succ]
      refine jheld_take (i := 26) (some 52) rfl rfl (by kernel_rfl) (by kernel_rfl) (by kernel_rfl) (fun _ _ _ h => h) (jyi_row (by rfl) (by rfl) (by rfl) (fun V hV => lv_row (kb hV HY5.out) lv)) hHeld ?_
      simp only [Act.put, List.setIfInBounds_toArray, List.set_cons_zero, List.set_cons_succ]
      refine wpAnyH_ready (rs := [24]) (by kernel_rfl) (by simp) ?_
      refine AllReadyH.cons rfl (fun K hK => ?_) AllReadyH.nil
      go_simp
      refine (aeval_any f v _ HFV.out.1 HFV.out.2).mono ?_
      rintro e wE ⟨rfl, hE⟩
      go_simp
      refine hK.out _ _ (below2 hHeld hE) (fun hHeld => ?_)
      clear hK K hE
      refine wpAnyH_ready (rs := [27]) (by kernel_rfl) (by simp) ?_
      refine AllReadyH.cons rfl (fun K hK => ?_) AllReadyH.nil
      go_simp
      refine (row_any v _ lv).mono ?_
      rintro e wR ⟨uR, rfl, hR, hE⟩
      go_simp
      refine hK.out _ _ (below2 hHeld hE) (fun hHeld => ?_)
      clear hK K hE
      refine wpAnyH_ready (rs := [28]) (by kernel_rfl) (by simp) ?_
      refine AllReadyH.cons rfl (fun K hK => ?_) AllReadyH.nil
      go_simp
      refine (reval_any _ uR f v _ (HRF5.out.below hHeld) hR HFV.out.1 HFV.out.2).mono ?_
      rintro e wE ⟨rfl, hE⟩
      go_simp
      refine hK.out _ _ (below2 hHeld hE) (fun hHeld => ?_)
      clear hK K hE hR
      refine jheld_take (i := 29) (v := .bool false) (some 55) rfl rfl (by kernel_rfl) (by kernel_rfl) (by kernel_rfl) (fun _ _ _ h => h) (.inl ⟨by rfl, fun V hV => by go_simp⟩) hHeld ?_
      simp only [Act.put, List.setIfInBounds_toArray, List.set_cons_zero, List.set_cons_succ]
      refine jheld_take (i := 30) (v := .bool false) (some 56) rfl rfl (by kernel_rfl) (by kernel_rfl) (by kernel_rfl) (fun _ _ _ h => h) (.inl ⟨by rfl, fun V hV => by go_simp⟩) hHeld ?_
      simp only [Act.put, List.setIfInBounds_toArray, List.set_cons_zero, List.set_cons_succ]
      refine wpAnyH_done (by kernel_rfl) ?_ _
      go_wp2_with fail
      go_meet
      exact ⟨rfl, hHeld⟩
    · have en : ((n : Int) == 0) = false := by simp; omega
      clear HCA hn
      refine jheld_take (i := 0) (v := .bool false) (some 26) rfl rfl (by kernel_rfl) (by kernel_rfl) (by kernel_rfl) (fun _ _ _ h => h) (.inl ⟨by rfl, fun V hV => by go_simp⟩) hHeld ?_
      simp only [Act.put, List.setIfInBounds_toArray, List.set_cons_zero, List.set_cons_succ]
      refine jheld_take (i := 1) (v := .int .i64 (n : Int)) (some 27) rfl rfl (by kernel_rfl) (by kernel_rfl) (by kernel_rfl) (fun _ _ _ h => h) (.inl ⟨by rfl, fun V hV => by go_simp⟩) hHeld ?_
      simp only [Act.put, List.setIfInBounds_toArray, List.set_cons_zero, List.set_cons_succ]
      refine jheld_take (i := 2) (v := .bool false) (some 28) rfl rfl (by kernel_rfl) (by kernel_rfl) (by kernel_rfl) (fun _ _ _ h => h) (.inl ⟨by rfl, fun V hV => by go_simp⟩) hHeld ?_
      simp only [Act.put, List.setIfInBounds_toArray, List.set_cons_zero, List.set_cons_succ]
      refine jheld_take (i := 3) (v := .bool false) (some 29) rfl rfl (by kernel_rfl) (by kernel_rfl) (by kernel_rfl) (fun _ _ _ h => h) (.inl ⟨by rfl, fun V hV => by go_simp⟩) hHeld ?_
      simp only [Act.put, List.setIfInBounds_toArray, List.set_cons_zero, List.set_cons_succ]
      refine jheld_take (i := 4) (v := .bool false) (some 30) rfl rfl (by kernel_rfl) (by kernel_rfl) (by kernel_rfl) (fun _ _ _ h => h) (.inl ⟨by rfl, fun V hV => by go_simp⟩) hHeld ?_
      simp only [Act.put, List.setIfInBounds_toArray, List.set_cons_zero, List.set_cons_succ]
      refine jheld_take (i := 5) (v := .bool false) (some 31) rfl rfl (by kernel_rfl) (by kernel_rfl) (by kernel_rfl) (fun _ _ _ h => h) (.inl ⟨by rfl, fun V hV => by go_simp⟩) hHeld ?_
      simp only [Act.put, List.setIfInBounds_toArray, List.set_cons_zero, List.set_cons_succ]
      refine jheld_take (i := 6) (v := .bool false) (some 32) rfl rfl (by kernel_rfl) (by kernel_rfl) (by kernel_rfl) (fun _ _ _ h => h) (.inl ⟨by rfl, fun V hV => by go_simp⟩) hHeld ?_
      simp only [Act.put, List.setIfInBounds_toArray, List.set_cons_zero, List.set_cons_succ]
      refine jheld_take (i := 7) (v := undef) (some 33) rfl rfl (by kernel_rfl) (by kernel_rfl) (by kernel_rfl) (fun _ _ _ h => h) (.inr ⟨by rfl, rfl⟩) hHeld ?_
      simp only [Act.put, List.setIfInBounds_toArray, List.set_cons_zero, List.set_cons_succ]
      refine jheld_take (i := 8) (v := undef) (some 34) rfl rfl (by kernel_rfl) (by kernel_rfl) (by kernel_rfl) (fun _ _ _ h => h) (.inr ⟨by rfl, rfl⟩) hHeld ?_
      simp only [Act.put, List.setIfInBounds_toArray, List.set_cons_zero, List.set_cons_succ]
      refine jheld_take (i := 9) (v := undef) (some 35) rfl rfl (by kernel_rfl) (by kernel_rfl) (by kernel_rfl) (fun _ _ _ h => h) (.inr ⟨by rfl, rfl⟩) hHeld ?_
      simp only [Act.put, List.setIfInBounds_toArray, List.set_cons_zero, List.set_cons_succ]
      refine jheld_take (i := 10) (v := undef) (some 36) rfl rfl (by kernel_rfl) (by kernel_rfl) (by kernel_rfl) (fun _ _ _ h => h) (.inr ⟨by rfl, rfl⟩) hHeld ?_
      simp only [Act.put, List.setIfInBounds_toArray, List.set_cons_zero, List.set_cons_succ]
      refine jheld_take (i := 11) (v := .bool false) (some 37) rfl rfl (by kernel_rfl) (by kernel_rfl) (by kernel_rfl) (fun _ _ _ h => h) (.inl ⟨by rfl, fun V hV => by go_simp⟩) hHeld ?_
      simp only [Act.put, List.setIfInBounds_toArray, List.set_cons_zero, List.set_cons_succ]
      refine jheld_take (i := 12) (v := .bool false) (some 38) rfl rfl (by kernel_rfl) (by kernel_rfl) (by kernel_rfl) (fun _ _ _ h => h) (.inl ⟨by rfl, fun V hV => by go_simp⟩) hHeld ?_
      simp only [Act.put, List.setIfInBounds_toArray, List.set_cons_zero, List.set_cons_succ]
      refine jheld_take (i := 13) (v := .bool false) (some 39) rfl rfl (by kernel_rfl) (by kernel_rfl) (by kernel_rfl) (fun _ _ _ h => h) (.inl ⟨by rfl, fun V hV => by go_simp⟩) hHeld ?_
      simp only [Act.put, List.setIfInBounds_toArray, List.set_cons_zero, List.set_cons_succ]
      refine jheld_take (i := 14) (v := .bool false) (some 40) rfl rfl (by kernel_rfl) (by kernel_rfl) (by kernel_rfl) (fun _ _ _ h => h) (.inl ⟨by rfl, fun V hV => by go_simp⟩) hHeld ?_
      simp only [Act.put, List.setIfInBounds_toArray, List.set_cons_zero, List.set_cons_succ]
      refine jheld_take (i := 15) (v := .bool true) (some 41) rfl rfl (by kernel_rfl) (by kernel_rfl) (by kernel_rfl) (fun _ _ _ h => h) (.inl ⟨by rfl, fun V hV => by go_simp⟩) hHeld ?_
      simp only [Act.put, List.setIfInBounds_toArray, List.set_cons_zero, List.set_cons_succ]
      refine jheld_take (i := 16) (v := .bool true) (some 42) rfl rfl (by kernel_rfl) (by kernel_rfl) (by kernel_rfl) (fun _ _ _ h => h) (.inl ⟨by rfl, fun V hV => by go_simp⟩) hHeld ?_
      simp only [Act.put, List.setIfInBounds_toArray, List.set_cons_zero, List.set_cons_succ]
      refine jheld_take (i := 17) (v := .int .u32 0) (some 43) rfl rfl (by kernel_rfl) (by kernel_rfl) (by kernel_rfl) (fun _ _ _ h => h) (.inl ⟨by rfl, fun V hV => by go_simp⟩) hHeld ?_
      simp only [Act.put, List.setIfInBounds_toArray, List.set_cons_zero, List.set_cons_succ]
      refine jheld_take (i := 18) (v := .bool false) (some 44) rfl rfl (by kernel_rfl) (by kernel_rfl) (by kernel_rfl) (fun _ _ _ h => h) (.inl ⟨by rfl, fun V hV => by go_simp⟩) hHeld ?_
      simp only [Act.put, List.setIfInBounds_toArray, List.set_cons_zero, List.set_cons_succ]
      refine jheld_take (i := 19) (v := .bool false) (some 45) rfl rfl (by kernel_rfl) (by kernel_rfl) (by kernel_rfl) (fun _ _ _ h => h) (.inl ⟨by rfl, fun V hV => by go_simp⟩) hHeld ?_
      simp only [Act.put, List.setIfInBounds_toArray, List.set_cons_zero, List.set_cons_succ]
      refine jheld_take (i := 20) (v := .bool false) (some 46) rfl rfl (by kernel_rfl) (by kernel_rfl) (by kernel_rfl) (fun _ _ _ h => h) (.inl ⟨by rfl, fun V hV => by go_simp⟩) hHeld ?_
      simp only [Act.put, List.setIfInBounds_toArray, List.set_cons_zero, List.set_cons_succ]
      refine jheld_take (i := 21) (v := .bool false) (some 47) rfl rfl (by kernel_rfl) (by kernel_rfl) (by kernel_rfl) (fun _ _ _ h => h) (.inl ⟨by rfl, fun V hV => by go_simp⟩) hHeld ?_
      simp only [Act.put, List.setIfInBounds_toArray, List.set_cons_zero, List.set_cons_succ]
      refine jheld_take (i := 22) (some 48) rfl rfl (by kernel_rfl) (by kernel_rfl) (by kernel_rfl) (fun _ _ _ h => h) (jyi_row (by rfl) (by rfl) (by rfl) (fun V hV => lv_form (kb hV HX5.out) lf)) hHeld ?_
      simp only [Act.put, List.setIfInBounds_toArray, List.set_cons_zero, List.set_cons_succ]
      refine jheld_take (i := 23) (some 49) rfl rfl (by kernel_rfl) (by kernel_rfl) (by kernel_rfl) (fun _ _ _ h => h) (jyi_row (by rfl) (by rfl) (by rfl) (fun V hV => lv_row (kb hV HY5.out) lv)) hHeld ?_
      simp only [Act.put, List.setIfInBounds_toArray, List.set_cons_zero, List.set_cons_succ]
      refine jheld_take (i := 25) (some 51) rfl rfl (by kernel_rfl) (by kernel_rfl) (by kernel_rfl) (fun _ _ _ h => h) (jyi_row (by rfl) (by rfl) (by rfl) (fun V hV => lv_rf (kb hV HR5.out))) hHeld ?_
      simp only [Act.put, List.setIfInBounds_toArray, List.set_cons_zero, List.set_cons_succ]
      refine jheld_take (i := 26) (some 52) rfl rfl (by kernel_rfl) (by kernel_rfl) (by kernel_rfl) (fun _ _ _ h => h) (jyi_row (by rfl) (by rfl) (by rfl) (fun V hV => lv_row (kb hV HY5.out) lv)) hHeld ?_
      simp only [Act.put, List.setIfInBounds_toArray, List.set_cons_zero, List.set_cons_succ]
      refine wpAnyH_ready (rs := [24]) (by kernel_rfl) (by simp) ?_
      refine AllReadyH.cons rfl (fun K hK => ?_) AllReadyH.nil
      go_simp
      refine (aeval_any f v _ HFV.out.1 HFV.out.2).mono ?_
      rintro e wE ⟨rfl, hE⟩
      go_simp
      refine hK.out _ _ (below2 hHeld hE) (fun hHeld => ?_)
      clear hK K hE
      refine wpAnyH_ready (rs := [27]) (by kernel_rfl) (by simp) ?_
      refine AllReadyH.cons rfl (fun K hK => ?_) AllReadyH.nil
      go_simp
      refine (row_any v _ lv).mono ?_
      rintro e wR ⟨uR, rfl, hR, hE⟩
      go_simp
      refine hK.out _ _ (below2 hHeld hE) (fun hHeld => ?_)
      clear hK K hE
      refine wpAnyH_ready (rs := [28]) (by kernel_rfl) (by simp) ?_
      refine AllReadyH.cons rfl (fun K hK => ?_) AllReadyH.nil
      go_simp
      refine (reval_any _ uR f v _ (HRF5.out.below hHeld) hR HFV.out.1 HFV.out.2).mono ?_
      rintro e wE ⟨rfl, hE⟩
      go_simp
      refine hK.out _ _ (below2 hHeld hE) (fun hHeld => ?_)
      clear hK K hE hR
      refine jheld_take (i := 29) (v := .bool false) (some 55) rfl rfl (by kernel_rfl) (by kernel_rfl) (by kernel_rfl) (fun _ _ _ h => h) (.inl ⟨by rfl, fun V hV => by go_simp⟩) hHeld ?_
      simp only [Act.put, List.setIfInBounds_toArray, List.set_cons_zero, List.set_cons_succ]
      refine jheld_take (i := 30) (v := .bool false) (some 56) rfl rfl (by kernel_rfl) (by kernel_rfl) (by kernel_rfl) (fun _ _ _ h => h) (.inl ⟨by rfl, fun V hV => by go_simp⟩) hHeld ?_
      simp only [Act.put, List.setIfInBounds_toArray, List.set_cons_zero, List.set_cons_succ]
      refine wpAnyH_done (by kernel_rfl) ?_ _
      go_wp2_with fail
      go_meet
      exact ⟨rfl, hHeld⟩
  case rest =>
    obtain ⟨rfl, hb6⟩ := hcut
    have HR6 := Lib.hid (kb hb6 HR5.out)
    have HB6 := Lib.hid (below2 HB5.out hb6)
    have HRF6 := Lib.hid (HRF5.out.below hb6)
    clear hb6 HX5 HY5 HR5 HB5 HRF5 HCA HC0
    go_wp2_with fail
    go_loopw [11] (fun i wr => ∃ k : Nat, k ≤ 34 ∧ i = .int .i64 k ∧ (∀ m, m < k → ¬ f = varF m) ∧ Below wc.heap.size wc wr) (fun i _ => 34 - (intOf i).toNat)
    case atStart => exact ⟨0, by omega, rfl, fun m hm => by omega, Below.refl _ _⟩
    case round =>
      obtain ⟨k, hk, rfl, hA, hB⟩ := hrel
      have HA := Lib.hid hA
      have HBr := Lib.hid hB
      have HRr := Lib.hid (kb hB HR6.out)
      have HRFr := Lib.hid (HRF6.out.below hB)
      clear hA hB
      by_cases hlt : k < 34
      · go_upto_region 10 with fail
        refine wp_region_held_drew (S := fun V => Below wr.heap.size wr V) (by kernel_rfl) ?_ (fun hHeld => ?_)
        · exact bdN (Below.refl _ _) 1
        refine jheld_take (i := 0) (some 61) rfl rfl (by kernel_rfl) (by kernel_rfl) (by kernel_rfl) (fun _ _ _ h => h) (jyi_row (by rfl) (by rfl) (by rfl) (fun V hV => lv_rf (kb hV HRr.out))) hHeld ?_
        simp only [Act.put, List.setIfInBounds_toArray, List.set_cons_zero, List.set_cons_succ]
        refine jheld_take (i := 1) (v := .int .i64 (k : Int)) (some 62) rfl rfl (by kernel_rfl) (by kernel_rfl) (by kernel_rfl) (fun _ _ _ h => h) (.inl ⟨by rfl, fun V hV => by go_simp⟩) hHeld ?_
        simp only [Act.put, List.setIfInBounds_toArray, List.set_cons_zero, List.set_cons_succ]
        refine wpAnyH_ready (rs := [2]) (by kernel_rfl) (by simp) ?_
        refine AllReadyH.cons rfl (fun K hK => ?_) AllReadyH.nil
        go_simp
        refine (rvar_any k hlt _).mono ?_
        rintro e wV ⟨vV, rfl, hV, hE⟩
        go_simp
        refine hK.out _ _ (below2 hHeld hE) (fun hHeld => ?_)
        clear hK K hE
        refine wpAnyH_ready (rs := [3]) (by kernel_rfl) (by simp) ?_
        refine AllReadyH.cons rfl (fun K hK => ?_) AllReadyH.nil
        go_simp
        refine (rsame_any _ vV f (varF k) _ (HRFr.out.below hHeld) hV lf (varF_ok k).1).mono ?_
        rintro e wS ⟨rfl, hE⟩
        go_simp
        refine hK.out _ _ (below2 hHeld hE) (fun hHeld => ?_)
        clear hK K hE hV
        refine wpAnyH_done (by kernel_rfl) ?_ _
        have HBS := Lib.hid (below2 HBr.out hHeld)
        clear hHeld
        by_cases hfk : f = varF k
        · rw [decide_eq_true hfk]
          obtain ⟨rfl, rfl⟩ := HS1.out k hlt hfk
          have HFK := Lib.hid hfk
          clear hfk
          go_wp2_with fail
          refine (jknow_end (below2 HB6.out HBS.out)).mono ?_
          rintro e w9 ⟨rfl, hb9⟩
          go_wp2_with fail
          go_ret
          exact ⟨rfl, hb9⟩
        · rw [decide_eq_false hfk]
          have HFK := Lib.hid hfk
          clear hfk
          go_wp2_with fail
          go_roundw
          case rel => exact ⟨k + 1, by omega, by go_num, fun m hm => by
            rcases Nat.lt_or_eq_of_le (Nat.le_of_lt_succ hm) with h | rfl
            · exact HA.out m h
            · exact HFK.out, HBS.out⟩
          case measure => simp [intOf]; omega
      · obtain rfl : k = 34 := by omega
        obtain ⟨rfl, rfl⟩ := HS0.out HA.out
        go_wp2_with fail
        refine (jknow_end (below2 HB6.out HBr.out)).mono ?_
        rintro e w9 ⟨rfl, hb9⟩
        go_wp2_with fail
        go_ret
        exact ⟨rfl, hb9⟩

set_option maxRecDepth 100000 in
/-- The row's contract, for every argument and every world. -/
theorem contract (H : Type) (enc : TypeId × Value → H) (W : World) (base : Nat) (args : Array Value) (ds gs : List (DataW H)) (before : List MemPlace)
    (hval : ∀ (j : Nat) t v, Try.f4.params[j]? = some t → args[j]? = some v → Value.okWide Try.prog W .any base t v)
    (hW : DataW.Whole enc Try.prog Try.f4.params.toList Rows.affineValuesSpec.vars false W args.toList ds gs before) (_hL : laidMetH Try.prog Rows.affineValuesRow.laid W) :
    Calls Try.prog 4 args W fun e W' => ∃ v, e = .returned v ∧ Rows.affineValuesSpec.post enc Try.prog Try.f4 false true false false W args v W' := by
  have hW' := hW
  obtain ⟨p, q, hA0, hV, rfl, hfz, hnd⟩ := hW
  have hA : DataW.TrodAll enc Try.prog W 0 (fun _ => true) true Try.f4.params.toList args.toList ds p := hA0
  rw [Try.params4] at hA hval
  obtain ⟨v0, vs0, d0, ds0, p0, q0, hargs0, rfl, rfl, t0, r0⟩ := trodAll_cons hA
  obtain ⟨v1, vs1, d1, ds1, p1, q1, hargs1, rfl, rfl, t1, r1⟩ := trodAll_cons r0
  obtain ⟨rfl, rfl, rfl⟩ := trodAll_nil r1
  obtain rfl : args = #[v0, v1] := by cases args; simp_all
  obtain ⟨f, rfl, hd0⟩ := open_form (hval 0 25 v0 rfl rfl) t0
  obtain ⟨v, rfl, hd1⟩ := open_asg (hval 1 23 v1 rfl rfl) t1
  refine (walk f v W hd0 hd1).mono fun e W' ⟨he, hg⟩ => ?_
  subst he
  exact ⟨_, rfl, law_post (tb := 4) laidOut (fun t ht => by rw [Try.params4] at ht; revert t; exact of_decide_eq_true (by kernel_rfl)) (by kernel_rfl) Try.underlying4 rfl
    (fun ds h => by rw [Try.params4] at h; match ds, h with | [_, _], _ => rfl) hW' hg⟩

theorem laid_met (os : Os) : laidMet Try.prog Rows.affineValuesRow.laid ((laidWorldJ os).forCall (fun _ _ => 0) ⟨#[], #[.agg (numsC zeroF), .agg (numsC zeros)], []⟩).memory :=
  laidMet_nil _ _
theorem reads (os : Os) {H : Type} (enc : TypeId × Value → H) : ∃ places, DataW.whole enc Try.prog ((laidWorldJ os).forCall (fun _ _ => 0) ⟨#[], #[.agg (numsC zeroF), .agg (numsC zeros)], []⟩).memory Try.f4.params.toList Rows.affineValuesSpec.vars false #[Value.agg (numsC zeroF), Value.agg (numsC zeros)].toList 8 = some ([.agg [.lit (.int .u32 0), .agg (List.replicate 34 (.lit (.int .u32 0)))], .agg (List.replicate 34 (.lit (.int .u32 0)))], [], places) :=
  ⟨[], by kernel_rfl⟩

set_option maxRecDepth 100000 in
theorem lifted (os : Os) (started : os.Started) (H : Type) (enc : TypeId × Value → H) (F : Stop.Interp) :
    ReturnsInHanded {} Try.checked os 4 .any ((OpenSpec.ofChange Rows.affineValuesSpec).preRow enc Try.prog Try.f4 Rows.affineValuesRow.domain false Rows.affineValuesRow.laid) (((OpenSpec.ofChange Rows.affineValuesSpec).at F).post enc Try.prog Try.f4 false true false false) := by
  obtain ⟨places, hx⟩ := reads os enc
  refine returnsInHanded_of_row (C := Try.checked) (s := OpenSpec.ofChange Rows.affineValuesSpec) own started (by kernel_rfl) Try.func4
    (witness_row_at (enc := enc) (C := Try.checked) false (laidWorldJ os) #[.agg (numsC zeroF), .agg (numsC zeros)] rfl (by kernel_rfl) (by kernel_rfl) (by kernel_rfl)
      (OpenSpec.preRow_of_cond 8 hx (by kernel_rfl) (fun k hk => by cases hk) (by kernel_rfl) (laid_met os))) ?_
  intro W base args ds gs before hval hW _ _ _ hL _ _
  exact contract H enc W base args ds gs before hval hW hL

theorem said : Rows.AffineValuesSaid :=
  OpenClaim.holds_of_cond 4 Try.f4 rfl rfl rfl rfl rfl rfl rfl ⟨rfl, rfl, rfl, rfl, rfl⟩ rfl rfl rfl rfl rfl (by kernel_rfl) Try.func4 (by kernel_rfl)
    (of_decide_eq_true (by kernel_rfl)) (by unfold Func.isWrapper; first | (rw [if_pos (by decide +kernel)]; kernel_rfl) | (rw [if_neg (by decide +kernel)]; exact ⟨rfl, rfl⟩))
    (fun os started H enc _ F => by rw [OpenClaim.pre_eq_preRow]; exact lifted os started H enc F)

end Go.Proofs.Ytkfhmcpdodnbhaa.affineValues
