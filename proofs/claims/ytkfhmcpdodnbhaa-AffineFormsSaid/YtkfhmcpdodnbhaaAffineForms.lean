/-
  For every two forms and any two numbers: the law AffineForms returns true and changes nothing that was there.
-/
import Derived.Deep.CutBlock
import Derived.Deep.DeepCutAuto
import Derived.Test.YtkfhmcpdodnbhaaProg
import Derived.WalkKit
import Derived.ProofKit
import Derived.Lib.Hide
import Derived.Laws.Rows
import Derived.Laws.ResultCell
import Derived.Laws.Entries
import Derived.Handy
import Derived.OwnWalk
import Derived.Laws.OwnMore
import Derived.Deep.Draws
import Derived.Laws.IdiomStrings
import Derived.Lib.BufferRead
import Derived.Maps.OwnSet
import Derived.Laws.Tables
import Derived.DeepKeys
import Derived.Laws.StructEq
import Derived.Deep.RegionHeld3
import Derived.BigRegion
import Derived.BigQuiet
import Derived.Deep.OwnRows
import Derived.Lib.QuietBelow
import Derived.Deep.MidRow
import Derived.Test.YtkfhmcpdodnbhaaRows
import Derived.OpenShut
import Derived.Carry
import Derived.Deep.DeepHandedRow
import Derived.Lib.SmallJoins
import Derived.Stop.Joined
import Derived.Test.YtkfhmcpdodnbhaaPk1
import Derived.Test.YtkfhmcpdodnbhaaPk2
namespace Go.Proofs.Ytkfhmcpdodnbhaa.affineForms
open Go.ChangeShapes Go.WideShapes Go.ChangeAt Go.RowKit

theorem f_as {W V : World} (hV : Below W.heap.size W V) (l : List Nat) (hl : l.length = 35) : Calls Try.prog 11 #[formV l] V fun e w' => ∃ v, e = .returned v ∧ RF w' v l ∧ Below W.heap.size W w' ∧ Below V.heap.size V w' :=
  (as_any l V hl).mono fun _ _ ⟨v, h1, h2, h3⟩ => ⟨v, h1, h2, below2 hV h3, h3⟩
theorem f_add {W V : World} {f g : List Nat} (hV : Below W.heap.size W V) (hf : FOk f) (hg : FOk g) : Calls Try.prog 13 #[formV f, formV g] V fun e w' => e = .returned (formV (addF f g)) ∧ Below W.heap.size W w' ∧ Below V.heap.size V w' :=
  (aadd_any f g V hf hg).mono fun _ _ ⟨h1, h3⟩ => ⟨h1, below2 hV h3, h3⟩
theorem f_sub {W V : World} {f g : List Nat} (hV : Below W.heap.size W V) (hf : FOk f) (hg : FOk g) : Calls Try.prog 15 #[formV f, formV g] V fun e w' => e = .returned (formV (subF f g)) ∧ Below W.heap.size W w' ∧ Below V.heap.size V w' :=
  (asub_any f g V hf hg).mono fun _ _ ⟨h1, h3⟩ => ⟨h1, below2 hV h3, h3⟩
theorem f_mul {W V : World} {f : List Nat} {k : Nat} (hV : Below W.heap.size W V) (hf : FOk f) (hk : k < 4294967296) : Calls Try.prog 16 #[formV f, .int .u32 (k : Nat)] V fun e w' => e = .returned (formV (mulF f k)) ∧ Below W.heap.size W w' ∧ Below V.heap.size V w' :=
  (amul_any f k V hf hk).mono fun _ _ ⟨h1, h3⟩ => ⟨h1, below2 hV h3, h3⟩
theorem f_sum {W V : World} {f g : List Nat} {v1 v2 : Value} {a b : Nat} (hV : Below W.heap.size W V) (h1 : RF V v1 f) (h2 : RF V v2 g) (ha : a < 4294967296) (hb : b < 4294967296) : Calls Try.prog 14 #[v1, .int .u32 (a : Nat), v2, .int .u32 (b : Nat)] V fun e w' => ∃ v, e = .returned v ∧ RF w' v (sumF f a g b) ∧ Below W.heap.size W w' ∧ Below V.heap.size V w' :=
  (rsum_any v1 v2 f g a b V h1 h2 ha hb).mono fun _ _ ⟨v, h1, h2, h3⟩ => ⟨v, h1, h2, below2 hV h3, h3⟩
theorem f_same {W V : World} {l : List Nat} {v1 v2 : Value} (hV : Below W.heap.size W V) (h1 : RF V v1 l) (h2 : RF V v2 l) (hl : l.length = 35) : Calls Try.prog 10 #[v1, v2] V fun e w' => e = .returned (.bool true) ∧ Below W.heap.size W w' ∧ Below V.heap.size V w' :=
  (rsame_any v1 v2 l l V h1 h2 hl hl).mono fun _ _ ⟨h1, h3⟩ => ⟨by rw [h1, decide_eq_true rfl], below2 hV h3, h3⟩
theorem f_var (i : Int) : ∃ (N : List Nat) (E : Int) (B : Bool), FOk N ∧ ((∃ n : Nat, n < 34 ∧ i = n ∧ N = varF n ∧ E = 0 ∧ B = false) ∨ ((i < 0 ∨ 33 < i) ∧ N = constF 0 ∧ E = 1 ∧ B = true)) ∧ ∀ w : World, Calls Try.prog 9 #[.int .i64 i] w fun e w' => e = .returned (.tuple #[formV N, .int .i64 E]) ∧ Below w.heap.size w w' := by
  by_cases h : 0 ≤ i ∧ i < 34
  · obtain ⟨n, rfl⟩ : ∃ n : Nat, i = n := ⟨i.toNat, by omega⟩
    exact ⟨varF n, 0, false, varF_ok n, .inl ⟨n, by omega, rfl, rfl, rfl, rfl⟩, fun w => avar_in n w (by omega)⟩
  · exact ⟨constF 0, 1, true, constF_ok (by omega), .inr ⟨by omega, rfl, rfl, rfl⟩, fun w => avar_out i w (by omega)⟩
set_option maxRecDepth 100000 in
set_option maxHeartbeats 16000000 in
theorem walk_at (f g : List Nat) (k : Nat) (i : Int) (w : World) (hf : FOk f) (hg : FOk g) (hk : k < 4294967296) :
    Calls Try.prog 3 #[formV f, formV g, .int .u32 (k : Nat), .int .i64 i] w fun e w' => e = .returned (.bool true) ∧ Below w.heap.size w w' := by
  obtain ⟨W, hW, h0, h1, hb⟩ := box2 w (formB f) (formB g)
  have HX := Lib.hid h0
  have HY := Lib.hid h1
  have HB := Lib.hid hb
  have lf := hf.1
  have lg := hg.1
  have hs : w.heap.size + 1 < W.heap.size := lt_of_block h1
  have HFG := Lib.hid (And.intro hf hg)
  clear h0 h1 hb hf hg
  go_enter Try.func3, Try.ntmps3
  go_upto_region 1 with fail
  rw [← hW]
  clear hW
  obtain ⟨N, E, B, hN, hNE, hV⟩ := f_var i
  have HV := Lib.hid hV
  have HNE := Lib.hid hNE
  have HNo := Lib.hid hN
  have lv := hN.1
  clear hV hNE hN
  go_wp2_with fail
  refine (HV.out _).mono ?_
  rintro e w1 ⟨rfl, hb1⟩
  have HX1 := Lib.hid (kb hb1 HX.out)
  have HY1 := Lib.hid (kb hb1 HY.out)
  have HB1 := Lib.hid (below2 HB.out hb1)
  have hs1 := hb1.size
  have hs2 := (below2 HB.out hb1).size
  clear hb1 HX HY HB HV
  go_upto_region 2 with (refine st_form (heap_alloc_new _ _) rfl lv rfl rfl rfl rfl ?_; intro W2 hp2; have HP2 := Lib.hid hp2; clear hp2; have HX2 := Lib.hid (HP2.out.keep (by omega) (ka _ HX1.out)); have HY2 := Lib.hid (HP2.out.keep (by omega) (ka _ HY1.out)); have HR2 := Lib.hid HP2.out.row; have HB2 := Lib.hid (HP2.out.below (ba _ HB1.out) hs2))
  clear HP2 HX1 HY1 HB1
  go_cut [24] (fun s24 wx => s24 = .bool B ∧ wx = W2)
  case first =>
    rcases HNE.out with ⟨n, hn, rfl, hNv, rfl, rfl⟩ | ⟨hout, hNv, rfl, rfl⟩
    · have g1 : ¬ (n : Int) < 0 := by omega
      have g2 : ¬ (33 : Int) < (n : Int) := by omega
      go_wp2_with fail
      go_meet
      exact ⟨rfl, rfl⟩
    · rcases hout with hout | hout
      · go_wp2_with fail
        go_meet
        exact ⟨rfl, rfl⟩
      · have g1 : ¬ i < 0 := by omega
        go_wp2_with fail
        go_meet
        exact ⟨rfl, rfl⟩
  case rest =>
  obtain ⟨rfl, rfl⟩ := hcut
  go_upto_if 24 with fail
  go_cut [] (fun wx => wx.heap[w.heap.size]? = some (formB f) ∧ wx.heap[w.heap.size + 1]? = some (formB g) ∧ Below w.heap.size w wx)
  case first =>
    rcases HNE.out with ⟨n, hn, rfl, hNv, rfl, rfl⟩ | ⟨hout, hNv, rfl, rfl⟩
    · have g1 : ¬ (n : Int) < 0 := by omega
      have g2 : ¬ (33 : Int) < (n : Int) := by omega
      have HRV := Lib.hid (rvar_any n hn)
      rw [← hNv] at HRV
      clear HNE hNv
      go_wp2_with (refine ld_form HR2.out lv rfl rfl rfl ?_)
      refine (as_any N _ lv).mono ?_
      rintro e w3 ⟨v3, rfl, hr3, hb3⟩
      go_wp2_with fail
      refine (HRV.out _).mono ?_
      rintro e w4 ⟨v4, rfl, hr4, hb4⟩
      go_wp2_with fail
      refine (f_same (Below.refl _ _) (hr3.below hb4) hr4 lv).mono ?_
      rintro e w5 ⟨rfl, hb5, _⟩
      have hb25 := below2 (below2 hb3 hb4) hb5
      have HXa := Lib.hid (kb hb25 HX2.out)
      have HYa := Lib.hid (kb hb25 HY2.out)
      have HBa := Lib.hid (below2 HB2.out hb25)
      clear hb3 hb4 hb5 hb25 hr3 hr4 HX2 HY2 HB2 HR2 HRV
      go_wp2_with fail
      go_meet
      exact ⟨HXa.out, HYa.out, HBa.out⟩
    · have hz := zform
      have e1 := eqi_form (constF_ok (c := 0) (by omega))
      rw [← hNv] at hz e1
      clear HNE hNv
      clear hout
      go_wp2_with (refine ld_form HR2.out lv rfl rfl rfl ?_)
      go_meet
      exact ⟨HX2.out, HY2.out, HB2.out⟩
  case rest =>
    obtain ⟨h1, h2, h3⟩ := hcut
    have HXa := Lib.hid h1
    have HYa := Lib.hid h2
    have HBa := Lib.hid h3
    clear h1 h2 h3 HX2 HY2 HB2 HR2 HNE
    go_wp2_with fail
    refine wp_region_held_drew (S := fun V => Below wc.heap.size wc V) (by kernel_rfl) ?_ (fun hHeld => ?_)
    · exact bdN (Below.refl _ _) 1
    refine jheld_take (i := 0) (some 42) rfl rfl (by kernel_rfl) (by kernel_rfl) (by kernel_rfl) (fun _ _ _ h => h) (jyi_row (by rfl) (by rfl) (by rfl) (fun V hV => lv_form (kb hV HXa.out) lf)) hHeld ?_
    simp only [Act.put, List.setIfInBounds_toArray, List.set_cons_zero, List.set_cons_succ]
    refine jheld_take (i := 1) (some 43) rfl rfl (by kernel_rfl) (by kernel_rfl) (by kernel_rfl) (fun _ _ _ h => h) (jyi_row (by rfl) (by rfl) (by rfl) (fun V hV => lv_form (kb hV HYa.out) lg)) hHeld ?_
    simp only [Act.put, List.setIfInBounds_toArray, List.set_cons_zero, List.set_cons_succ]
    refine jheld_take (i := 4) (some 46) rfl rfl (by kernel_rfl) (by kernel_rfl) (by kernel_rfl) (fun _ _ _ h => h) (jyi_row (by rfl) (by rfl) (by rfl) (fun V hV => lv_form (kb hV HXa.out) lf)) hHeld ?_
    simp only [Act.put, List.setIfInBounds_toArray, List.set_cons_zero, List.set_cons_succ]
    refine jheld_take (i := 6) (some 48) rfl rfl (by kernel_rfl) (by kernel_rfl) (by kernel_rfl) (fun _ _ _ h => h) (jyi_row (by rfl) (by rfl) (by rfl) (fun V hV => lv_form (kb hV HYa.out) lg)) hHeld ?_
    simp only [Act.put, List.setIfInBounds_toArray, List.set_cons_zero, List.set_cons_succ]
    refine wpAnyH_ready (rs := [2]) (by kernel_rfl) (by simp) ?_
    refine AllReadyH.cons rfl (fun K hK => ?_) AllReadyH.nil
    go_simp
    refine (f_add hHeld HFG.out.1 HFG.out.2).mono ?_
    rintro e wN ⟨rfl, hbN, hc1⟩
    go_simp
    refine hK.out _ _ hbN (fun hHeld => ?_)
    clear hK K hbN
    refine wpAnyH_ready (rs := [3]) (by kernel_rfl) (by simp) ?_
    refine AllReadyH.cons rfl (fun K hK => ?_) AllReadyH.nil
    go_simp
    refine (f_as hHeld (addF f g) (addF_ok f g).1).mono ?_
    rintro e wN ⟨v1, rfl, hr1, hbN, hc2⟩
    go_simp
    refine hK.out _ _ hbN (fun hHeld => ?_)
    clear hK K hbN
    refine wpAnyH_ready (rs := [5]) (by kernel_rfl) (by simp) ?_
    refine AllReadyH.cons rfl (fun K hK => ?_) AllReadyH.nil
    go_simp
    refine (f_as hHeld f lf).mono ?_
    rintro e wN ⟨v2, rfl, hr2, hbN, hc3⟩
    have hr1 := hr1.below hc3
    go_simp
    refine hK.out _ _ hbN (fun hHeld => ?_)
    clear hK K hbN
    refine wpAnyH_ready (rs := [7]) (by kernel_rfl) (by simp) ?_
    refine AllReadyH.cons rfl (fun K hK => ?_) AllReadyH.nil
    go_simp
    refine (f_as hHeld g lg).mono ?_
    rintro e wN ⟨v3, rfl, hr3, hbN, hc4⟩
    have hr1 := hr1.below hc4
    have hr2 := hr2.below hc4
    go_simp
    refine hK.out _ _ hbN (fun hHeld => ?_)
    clear hK K hbN
    refine wpAnyH_ready (rs := [8]) (by kernel_rfl) (by simp) ?_
    refine AllReadyH.cons rfl (fun K hK => ?_) AllReadyH.nil
    go_simp
    refine (f_sum hHeld hr2 hr3 (a := 1) (b := 1) (by omega) (by omega)).mono ?_
    rintro e wN ⟨v4, rfl, hr4, hbN, hc5⟩
    have hr1 := hr1.below hc5
    rw [sum_add] at hr4
    go_simp
    refine hK.out _ _ hbN (fun hHeld => ?_)
    clear hK K hbN
    refine wpAnyH_ready (rs := [9]) (by kernel_rfl) (by simp) ?_
    refine AllReadyH.cons rfl (fun K hK => ?_) AllReadyH.nil
    go_simp
    refine (f_same hHeld hr1 hr4 ((addF_ok f g).1)).mono ?_
    rintro e wN ⟨rfl, hbN, _⟩
    go_simp
    refine hK.out _ _ hbN (fun hHeld => ?_)
    clear hK K hbN
    refine jheld_take (i := 10) (v := .bool true) (some 11) rfl rfl (by kernel_rfl) (by kernel_rfl) (by kernel_rfl) (fun _ _ _ h => h) (.inl ⟨by rfl, fun V _ => by go_simp⟩) hHeld ?_
    simp only [Act.put, List.setIfInBounds_toArray, List.set_cons_zero, List.set_cons_succ]
    refine wpAnyH_done (by kernel_rfl) ?_ _
    have HXb := Lib.hid (kb hHeld HXa.out)
    have HYb := Lib.hid (kb hHeld HYa.out)
    have HBb := Lib.hid (below2 HBa.out hHeld)
    clear hHeld hr1 hr2 hr3 hr4 hc1 hc2 hc3 hc4 hc5
    generalize wN = Vb at *
    go_wp2_with fail
    refine wp_region_held_drew (S := fun V => Below Vb.heap.size Vb V) (by kernel_rfl) ?_ (fun hHeld => ?_)
    · exact bdN (Below.refl _ _) 1
    refine jheld_take (i := 0) (some 52) rfl rfl (by kernel_rfl) (by kernel_rfl) (by kernel_rfl) (fun _ _ _ h => h) (jyi_row (by rfl) (by rfl) (by rfl) (fun V hV => lv_form (kb hV HXb.out) lf)) hHeld ?_
    simp only [Act.put, List.setIfInBounds_toArray, List.set_cons_zero, List.set_cons_succ]
    refine jheld_take (i := 1) (some 53) rfl rfl (by kernel_rfl) (by kernel_rfl) (by kernel_rfl) (fun _ _ _ h => h) (jyi_row (by rfl) (by rfl) (by rfl) (fun V hV => lv_form (kb hV HYb.out) lg)) hHeld ?_
    simp only [Act.put, List.setIfInBounds_toArray, List.set_cons_zero, List.set_cons_succ]
    refine jheld_take (i := 4) (some 56) rfl rfl (by kernel_rfl) (by kernel_rfl) (by kernel_rfl) (fun _ _ _ h => h) (jyi_row (by rfl) (by rfl) (by rfl) (fun V hV => lv_form (kb hV HXb.out) lf)) hHeld ?_
    simp only [Act.put, List.setIfInBounds_toArray, List.set_cons_zero, List.set_cons_succ]
    refine jheld_take (i := 6) (some 58) rfl rfl (by kernel_rfl) (by kernel_rfl) (by kernel_rfl) (fun _ _ _ h => h) (jyi_row (by rfl) (by rfl) (by rfl) (fun V hV => lv_form (kb hV HYb.out) lg)) hHeld ?_
    simp only [Act.put, List.setIfInBounds_toArray, List.set_cons_zero, List.set_cons_succ]
    refine wpAnyH_ready (rs := [2]) (by kernel_rfl) (by simp) ?_
    refine AllReadyH.cons rfl (fun K hK => ?_) AllReadyH.nil
    go_simp
    refine (f_sub hHeld HFG.out.1 HFG.out.2).mono ?_
    rintro e wN ⟨rfl, hbN, hc1⟩
    go_simp
    refine hK.out _ _ hbN (fun hHeld => ?_)
    clear hK K hbN
    refine wpAnyH_ready (rs := [3]) (by kernel_rfl) (by simp) ?_
    refine AllReadyH.cons rfl (fun K hK => ?_) AllReadyH.nil
    go_simp
    refine (f_as hHeld (subF f g) ((subF_ok f g).1)).mono ?_
    rintro e wN ⟨v1, rfl, hr1, hbN, hc2⟩
    go_simp
    refine hK.out _ _ hbN (fun hHeld => ?_)
    clear hK K hbN
    refine wpAnyH_ready (rs := [5]) (by kernel_rfl) (by simp) ?_
    refine AllReadyH.cons rfl (fun K hK => ?_) AllReadyH.nil
    go_simp
    refine (f_as hHeld f lf).mono ?_
    rintro e wN ⟨v2, rfl, hr2, hbN, hc3⟩
    have hr1 := hr1.below hc3
    go_simp
    refine hK.out _ _ hbN (fun hHeld => ?_)
    clear hK K hbN
    refine wpAnyH_ready (rs := [7]) (by kernel_rfl) (by simp) ?_
    refine AllReadyH.cons rfl (fun K hK => ?_) AllReadyH.nil
    go_simp
    refine (f_as hHeld g lg).mono ?_
    rintro e wN ⟨v3, rfl, hr3, hbN, hc4⟩
    have hr1 := hr1.below hc4
    have hr2 := hr2.below hc4
    go_simp
    refine hK.out _ _ hbN (fun hHeld => ?_)
    clear hK K hbN
    refine wpAnyH_ready (rs := [8]) (by kernel_rfl) (by simp) ?_
    refine AllReadyH.cons rfl (fun K hK => ?_) AllReadyH.nil
    go_simp
    refine (f_sum hHeld hr2 hr3 (a := 1) (b := 4294967295) (by omega) (by omega)).mono ?_
    rintro e wN ⟨v4, rfl, hr4, hbN, hc5⟩
    have hr1 := hr1.below hc5
    rw [sum_sub HFG.out.2] at hr4
    go_simp
    refine hK.out _ _ hbN (fun hHeld => ?_)
    clear hK K hbN
    refine wpAnyH_ready (rs := [9]) (by kernel_rfl) (by simp) ?_
    refine AllReadyH.cons rfl (fun K hK => ?_) AllReadyH.nil
    go_simp
    refine (f_same hHeld hr1 hr4 ((subF_ok f g).1)).mono ?_
    rintro e wN ⟨rfl, hbN, _⟩
    go_simp
    refine hK.out _ _ hbN (fun hHeld => ?_)
    clear hK K hbN
    refine jheld_take (i := 10) (v := .bool true) (some 12) rfl rfl (by kernel_rfl) (by kernel_rfl) (by kernel_rfl) (fun _ _ _ h => h) (.inl ⟨by rfl, fun V _ => by go_simp⟩) hHeld ?_
    simp only [Act.put, List.setIfInBounds_toArray, List.set_cons_zero, List.set_cons_succ]
    refine wpAnyH_done (by kernel_rfl) ?_ _
    have HXc := Lib.hid (kb hHeld HXb.out)
    have HYc := Lib.hid (kb hHeld HYb.out)
    have HBc := Lib.hid (below2 HBb.out hHeld)
    clear hHeld hr1 hr2 hr3 hr4 hc1 hc2 hc3 hc4 hc5
    generalize wN = Vc at *
    go_wp2_with fail
    refine wp_region_held_drew (S := fun V => Below Vc.heap.size Vc V) (by kernel_rfl) ?_ (fun hHeld => ?_)
    · exact bdN (Below.refl _ _) 1
    refine jheld_take (i := 0) (some 62) rfl rfl (by kernel_rfl) (by kernel_rfl) (by kernel_rfl) (fun _ _ _ h => h) (jyi_row (by rfl) (by rfl) (by rfl) (fun V hV => lv_form (kb hV HXc.out) lf)) hHeld ?_
    simp only [Act.put, List.setIfInBounds_toArray, List.set_cons_zero, List.set_cons_succ]
    refine jheld_take (i := 4) (some 66) rfl rfl (by kernel_rfl) (by kernel_rfl) (by kernel_rfl) (fun _ _ _ h => h) (jyi_row (by rfl) (by rfl) (by rfl) (fun V hV => lv_form (kb hV HXc.out) lf)) hHeld ?_
    simp only [Act.put, List.setIfInBounds_toArray, List.set_cons_zero, List.set_cons_succ]
    refine jheld_take (i := 7) (some 69) rfl rfl (by kernel_rfl) (by kernel_rfl) (by kernel_rfl) (fun _ _ _ h => h) (jyi_row (by rfl) (by rfl) (by rfl) (fun V hV => lv_form (kb hV HYc.out) lg)) hHeld ?_
    simp only [Act.put, List.setIfInBounds_toArray, List.set_cons_zero, List.set_cons_succ]
    refine jheld_take (i := 1) (v := .int .u32 (k : Int)) (some 63) rfl rfl (by kernel_rfl) (by kernel_rfl) (by kernel_rfl) (fun _ _ _ h => h) (.inl ⟨by rfl, fun V _ => by go_simp⟩) hHeld ?_
    simp only [Act.put, List.setIfInBounds_toArray, List.set_cons_zero, List.set_cons_succ]
    refine jheld_take (i := 6) (v := .int .u32 (k : Int)) (some 68) rfl rfl (by kernel_rfl) (by kernel_rfl) (by kernel_rfl) (fun _ _ _ h => h) (.inl ⟨by rfl, fun V _ => by go_simp⟩) hHeld ?_
    simp only [Act.put, List.setIfInBounds_toArray, List.set_cons_zero, List.set_cons_succ]
    refine wpAnyH_ready (rs := [2]) (by kernel_rfl) (by simp) ?_
    refine AllReadyH.cons rfl (fun K hK => ?_) AllReadyH.nil
    go_simp
    refine (f_mul hHeld HFG.out.1 hk).mono ?_
    rintro e wN ⟨rfl, hbN, hc1⟩
    go_simp
    refine hK.out _ _ hbN (fun hHeld => ?_)
    clear hK K hbN
    refine wpAnyH_ready (rs := [3]) (by kernel_rfl) (by simp) ?_
    refine AllReadyH.cons rfl (fun K hK => ?_) AllReadyH.nil
    go_simp
    refine (f_as hHeld (mulF f k) ((mulF_ok f k).1)).mono ?_
    rintro e wN ⟨v1, rfl, hr1, hbN, hc2⟩
    go_simp
    refine hK.out _ _ hbN (fun hHeld => ?_)
    clear hK K hbN
    refine wpAnyH_ready (rs := [5]) (by kernel_rfl) (by simp) ?_
    refine AllReadyH.cons rfl (fun K hK => ?_) AllReadyH.nil
    go_simp
    refine (f_as hHeld f lf).mono ?_
    rintro e wN ⟨v2, rfl, hr2, hbN, hc3⟩
    have hr1 := hr1.below hc3
    go_simp
    refine hK.out _ _ hbN (fun hHeld => ?_)
    clear hK K hbN
    refine wpAnyH_ready (rs := [8]) (by kernel_rfl) (by simp) ?_
    refine AllReadyH.cons rfl (fun K hK => ?_) AllReadyH.nil
    go_simp
    refine (f_as hHeld g lg).mono ?_
    rintro e wN ⟨v3, rfl, hr3, hbN, hc4⟩
    have hr1 := hr1.below hc4
    have hr2 := hr2.below hc4
    go_simp
    refine hK.out _ _ hbN (fun hHeld => ?_)
    clear hK K hbN
    refine wpAnyH_ready (rs := [9]) (by kernel_rfl) (by simp) ?_
    refine AllReadyH.cons rfl (fun K hK => ?_) AllReadyH.nil
    go_simp
    refine (f_sum hHeld hr2 hr3 (a := k) (b := 0) hk (by omega)).mono ?_
    rintro e wN ⟨v4, rfl, hr4, hbN, hc5⟩
    have hr1 := hr1.below hc5
    rw [sum_mul] at hr4
    go_simp
    refine hK.out _ _ hbN (fun hHeld => ?_)
    clear hK K hbN
    refine wpAnyH_ready (rs := [10]) (by kernel_rfl) (by simp) ?_
    refine AllReadyH.cons rfl (fun K hK => ?_) AllReadyH.nil
    go_simp
    refine (f_same hHeld hr1 hr4 ((mulF_ok f k).1)).mono ?_
    rintro e wN ⟨rfl, hbN, _⟩
    go_simp
    refine hK.out _ _ hbN (fun hHeld => ?_)
    clear hK K hbN
    refine jheld_take (i := 11) (v := .bool true) (some 13) rfl rfl (by kernel_rfl) (by kernel_rfl) (by kernel_rfl) (fun _ _ _ h => h) (.inl ⟨by rfl, fun V _ => by go_simp⟩) hHeld ?_
    simp only [Act.put, List.setIfInBounds_toArray, List.set_cons_zero, List.set_cons_succ]
    refine wpAnyH_done (by kernel_rfl) ?_ _
    have HXd := Lib.hid (kb hHeld HXc.out)
    have HYd := Lib.hid (kb hHeld HYc.out)
    have HBd := Lib.hid (below2 HBc.out hHeld)
    clear hHeld hr1 hr2 hr3 hr4 hc1 hc2 hc3 hc4 hc5
    generalize wN = Vd at *
    go_wp2_with fail
    refine (aconst_any k _ hk).mono ?_
    rintro e w1 ⟨rfl, hb1⟩
    go_wp2_with fail
    refine (as_any _ _ (constF_ok hk).1).mono ?_
    rintro e w2 ⟨v2, rfl, hr2, hb2⟩
    go_wp2_with fail
    refine (rnew_any k _).mono ?_
    rintro e w3 ⟨v3, rfl, hr3, hb3⟩
    go_wp2_with fail
    refine (f_same (Below.refl _ _) (hr2.below hb3) hr3 (constF_ok hk).1).mono ?_
    rintro e w4 ⟨rfl, hb4, _⟩
    go_wp2_with fail
    refine (jknow_end (below2 (below2 (below2 (below2 HBd.out hb1) hb2) hb3) hb4)).mono ?_
    rintro e w5 ⟨rfl, hb5⟩
    go_wp2_with fail
    go_ret
    exact ⟨rfl, hb5⟩
theorem walk (f g : List Nat) (k i : Int) (w : World) (hf : FOk f) (hg : FOk g) (h0 : 0 ≤ k) (h1 : k ≤ 4294967295) (_ : -9223372036854775808 ≤ i) (_ : i ≤ 9223372036854775807) :
    Calls Try.prog 3 #[formV f, formV g, .int .u32 k, .int .i64 i] w fun e w' => e = .returned (.bool true) ∧ Below w.heap.size w w' := by
  obtain ⟨k, rfl⟩ : ∃ n : Nat, k = n := ⟨k.toNat, by omega⟩
  exact walk_at f g k i w hf hg (by omega)

set_option maxRecDepth 100000 in
/-- The row's contract, for every argument and every world. -/
theorem contract (H : Type) (enc : TypeId × Value → H) (W : World) (base : Nat) (args : Array Value) (ds gs : List (DataW H)) (before : List MemPlace)
    (hval : ∀ (j : Nat) t v, Try.f3.params[j]? = some t → args[j]? = some v → Value.okWide Try.prog W .any base t v)
    (hW : DataW.Whole enc Try.prog Try.f3.params.toList Rows.affineFormsSpec.vars false W args.toList ds gs before) (_hL : laidMetH Try.prog Rows.affineFormsRow.laid W) :
    Calls Try.prog 3 args W fun e W' => ∃ v, e = .returned v ∧ Rows.affineFormsSpec.post enc Try.prog Try.f3 false true false false W args v W' := by
  have hW' := hW
  obtain ⟨p, q, hA0, hV, rfl, hfz, hnd⟩ := hW
  have hA : DataW.TrodAll enc Try.prog W 0 (fun _ => true) true Try.f3.params.toList args.toList ds p := hA0
  rw [Try.params3] at hA hval
  obtain ⟨v0, vs0, d0, ds0, p0, q0, hargs0, rfl, rfl, t0, r0⟩ := trodAll_cons hA
  obtain ⟨v1, vs1, d1, ds1, p1, q1, hargs1, rfl, rfl, t1, r1⟩ := trodAll_cons r0
  obtain ⟨v2, vs2, d2, ds2, p2, q2, hargs2, rfl, rfl, t2, r2⟩ := trodAll_cons r1
  obtain ⟨v3, vs3, d3, ds3, p3, q3, hargs3, rfl, rfl, t3, r3⟩ := trodAll_cons r2
  obtain ⟨rfl, rfl, rfl⟩ := trodAll_nil r3
  obtain rfl : args = #[v0, v1, v2, v3] := by cases args; simp_all
  obtain ⟨f, rfl, hd0⟩ := open_form (hval 0 25 v0 rfl rfl) t0
  obtain ⟨g, rfl, hd1⟩ := open_form (hval 1 25 v1 rfl rfl) t1
  obtain ⟨k, rfl, rfl, rfl, wf2⟩ := open_int Try.underlying22 (hval 2 22 v2 rfl rfl) t2
  have bd2 := bounds_u32 wf2
  obtain ⟨i, rfl, rfl, rfl, wf3⟩ := open_int Try.underlying3 (hval 3 3 v3 rfl rfl) t3
  have bd3 := bounds_i64 wf3
  refine (walk f g k i W hd0 hd1 bd2.1 bd2.2 bd3.1 bd3.2).mono fun e W' ⟨he, hg⟩ => ?_
  subst he
  exact ⟨_, rfl, law_post (tb := 4) laidOut (fun t ht => by rw [Try.params3] at ht; revert t; exact of_decide_eq_true (by kernel_rfl)) (by kernel_rfl) Try.underlying4 rfl
    (fun ds h => by rw [Try.params3] at h; match ds, h with | [_, _, _, _], _ => rfl) hW' hg⟩

theorem laid_met (os : Os) : laidMet Try.prog Rows.affineFormsRow.laid ((laidWorldJ os).forCall (fun _ _ => 0) ⟨#[], #[.agg (numsC zeroF), .agg (numsC zeroF), .int .u32 0, .int .i64 0], []⟩).memory :=
  laidMet_nil _ _
theorem reads (os : Os) {H : Type} (enc : TypeId × Value → H) : ∃ places, DataW.whole enc Try.prog ((laidWorldJ os).forCall (fun _ _ => 0) ⟨#[], #[.agg (numsC zeroF), .agg (numsC zeroF), .int .u32 0, .int .i64 0], []⟩).memory Try.f3.params.toList Rows.affineFormsSpec.vars false #[Value.agg (numsC zeroF), Value.agg (numsC zeroF), Value.int .u32 0, Value.int .i64 0].toList 8 = some ([.agg [.lit (.int .u32 0), .agg (List.replicate 34 (.lit (.int .u32 0)))], .agg [.lit (.int .u32 0), .agg (List.replicate 34 (.lit (.int .u32 0)))], .lit (.int .u32 0), .lit (.int .i64 0)], [], places) :=
  ⟨[], by kernel_rfl⟩

set_option maxRecDepth 100000 in
theorem lifted (os : Os) (started : os.Started) (H : Type) (enc : TypeId × Value → H) (F : Stop.Interp) :
    ReturnsInHanded {} Try.checked os 3 .any ((OpenSpec.ofChange Rows.affineFormsSpec).preRow enc Try.prog Try.f3 Rows.affineFormsRow.domain false Rows.affineFormsRow.laid) (((OpenSpec.ofChange Rows.affineFormsSpec).at F).post enc Try.prog Try.f3 false true false false) := by
  obtain ⟨places, hx⟩ := reads os enc
  refine returnsInHanded_of_row (C := Try.checked) (s := OpenSpec.ofChange Rows.affineFormsSpec) own started (by kernel_rfl) Try.func3
    (witness_row_at (enc := enc) (C := Try.checked) false (laidWorldJ os) #[.agg (numsC zeroF), .agg (numsC zeroF), .int .u32 0, .int .i64 0] rfl (by kernel_rfl) (by kernel_rfl) (by kernel_rfl)
      (OpenSpec.preRow_of_cond 8 hx (by kernel_rfl) (fun k hk => by cases hk) (by kernel_rfl) (laid_met os))) ?_
  intro W base args ds gs before hval hW _ _ _ hL _ _
  exact contract H enc W base args ds gs before hval hW hL

theorem said : Rows.AffineFormsSaid :=
  OpenClaim.holds_of_cond 3 Try.f3 rfl rfl rfl rfl rfl rfl rfl ⟨rfl, rfl, rfl, rfl, rfl⟩ rfl rfl rfl rfl rfl (by kernel_rfl) Try.func3 (by kernel_rfl)
    (of_decide_eq_true (by kernel_rfl)) (by unfold Func.isWrapper; first | (rw [if_pos (by decide +kernel)]; kernel_rfl) | (rw [if_neg (by decide +kernel)]; exact ⟨rfl, rfl⟩))
    (fun os started H enc _ F => by rw [OpenClaim.pre_eq_preRow]; exact lifted os started H enc F)

end Go.Proofs.Ytkfhmcpdodnbhaa.affineForms
