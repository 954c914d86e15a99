/-
  For every two forms: the law AffineApart returns true and changes nothing that was there.
-/
import Derived.Test.YtkfhmcpdodnbhaaProg
import Derived.WalkKit
import Derived.ProofKit
import Derived.Lib.Hide
import Derived.Laws.Rows
import Derived.Laws.ResultCell
import Derived.Laws.Entries
import Derived.Handy
import Derived.OwnWalk
import Derived.Laws.OwnMore
import Derived.Deep.Draws
import Derived.Laws.IdiomStrings
import Derived.Lib.BufferRead
import Derived.Maps.OwnSet
import Derived.Laws.Tables
import Derived.Deep.DeepCutAuto
import Derived.DeepKeys
import Derived.Laws.StructEq
import Derived.Deep.RegionHeld3
import Derived.BigRegion
import Derived.BigQuiet
import Derived.Deep.OwnRows
import Derived.Lib.QuietBelow
import Derived.Deep.MidRow
import Derived.Test.YtkfhmcpdodnbhaaRows
import Derived.OpenShut
import Derived.Carry
import Derived.Deep.DeepHandedRow
import Derived.Lib.SmallJoins
import Derived.Stop.Joined
import Derived.Test.YtkfhmcpdodnbhaaPk1
import Derived.Test.YtkfhmcpdodnbhaaPk2
namespace Go.Proofs.Ytkfhmcpdodnbhaa.affineApart
open Go.ChangeShapes Go.WideShapes Go.ChangeAt Go.RowKit

set_option maxHeartbeats 8000000 in
theorem walk (f g : List Nat) (w : World) (hf : FOk f) (hg : FOk g) :
    Calls Try.prog 5 #[formV f, formV g] w fun e w' => e = .returned (.bool true) ∧ Below w.heap.size w w' := by
  obtain ⟨W, hW, h0, h1, hb⟩ := box2 w (formB f) (formB g)
  have HX := Lib.hid h0
  have HY := Lib.hid h1
  have HB := Lib.hid hb
  have lf := hf.1
  have lg := hg.1
  have hs : w.heap.size + 1 < W.heap.size := lt_of_block h1
  have HFG := Lib.hid (And.intro hf hg)
  have lu := (apartF_ok f g).1
  clear h0 h1 hb hf hg
  go_enter Try.func5, Try.ntmps5
  go_upto_region 1 with fail
  rw [← hW]
  clear hW
  go_wp2_with (first | (refine ld_form HX.out lf rfl rfl rfl ?_) | (refine ld_form HY.out lg rfl rfl rfl ?_))
  refine (aapart_any f g _ HFG.out.1 HFG.out.2).mono ?_
  rintro e w1 ⟨rfl, hb1⟩
  have HX1 := Lib.hid (kb hb1 HX.out)
  have HY1 := Lib.hid (kb hb1 HY.out)
  have HB1 := Lib.hid (below2 HB.out hb1)
  have hs1 := hb1.size
  have hs2 := (below2 HB.out hb1).size
  clear hb1 HX HY HB
  have HRA : Hid (∀ v1 v2 V, RF V v1 f → RF V v2 g → Calls Try.prog 27 #[v1, v2] V fun e w' => ∃ u, e = .returned (.tuple #[u, .bool (apartF f g).2]) ∧ UAt w' u 34 (mAt (apartF f g).1) ∧ Below V.heap.size V w') := Lib.hid (fun v1 v2 V h1 h2 => rapart_any v1 v2 f g V h1 h2 HFG.out.1 HFG.out.2)
  generalize (apartF f g).1 = U at *
  generalize (apartF f g).2 = B at *
  go_wp2_with (refine st_row (heap_alloc_new _ _) rfl lu rfl rfl rfl rfl ?_; intro W2 hp2; have HP2 := Lib.hid hp2; clear hp2; have HX2 := Lib.hid (HP2.out.keep (by omega) (ka _ HX1.out)); have HY2 := Lib.hid (HP2.out.keep (by omega) (ka _ HY1.out)); have HR2 := Lib.hid HP2.out.row; have HB2 := Lib.hid (HP2.out.below (ba _ HB1.out) hs2))
  have HCF : Hid (∀ V, Below W2.heap.size W2 V → Calls Try.prog 11 #[formV f] V fun e w' => ∃ v, e = .returned v ∧ RF w' v f ∧ Below W2.heap.size W2 w' ∧ Below V.heap.size V w') := Lib.hid (fun V hV => (as_any f V lf).mono fun e w' ⟨v, h1, h2, h3⟩ => ⟨v, h1, h2, below2 hV h3, h3⟩)
  have HCG : Hid (∀ V, Below W2.heap.size W2 V → Calls Try.prog 11 #[formV g] V fun e w' => ∃ v, e = .returned v ∧ RF w' v g ∧ Below W2.heap.size W2 w' ∧ Below V.heap.size V w') := Lib.hid (fun V hV => (as_any g V lg).mono fun e w' ⟨v, h1, h2, h3⟩ => ⟨v, h1, h2, below2 hV h3, h3⟩)
  refine wp_region_held_drew (S := fun V => Below W2.heap.size W2 V) (by kernel_rfl) ?_ (fun hHeld => ?_)
  · exact bdN (Below.refl _ _) 1
  refine jheld_take (i := 0) (some 17) rfl rfl (by kernel_rfl) (by kernel_rfl) (by kernel_rfl) (fun _ _ _ h => h) (jyi_row (by rfl) (by rfl) (by rfl) (fun V hV => lv_form (kb hV HX2.out) lf)) hHeld ?_
  simp only [Act.put, List.setIfInBounds_toArray, List.set_cons_zero, List.set_cons_succ]
  refine jheld_take (i := 2) (some 19) rfl rfl (by kernel_rfl) (by kernel_rfl) (by kernel_rfl) (fun _ _ _ h => h) (jyi_row (by rfl) (by rfl) (by rfl) (fun V hV => lv_form (kb hV HY2.out) lg)) hHeld ?_
  simp only [Act.put, List.setIfInBounds_toArray, List.set_cons_zero, List.set_cons_succ]
  refine wpAnyH_ready (rs := [1]) (by kernel_rfl) (by simp) ?_
  refine AllReadyH.cons rfl (fun K hK => ?_) AllReadyH.nil
  go_simp
  refine (HCF.out _ hHeld).mono ?_
  rintro e wF ⟨vF, rfl, hF, hbF, _⟩
  go_simp
  refine hK.out _ _ hbF (fun hHeld => ?_)
  clear hK K
  refine wpAnyH_ready (rs := [3]) (by kernel_rfl) (by simp) ?_
  refine AllReadyH.cons rfl (fun K hK => ?_) AllReadyH.nil
  go_simp
  refine (HCG.out _ hHeld).mono ?_
  rintro e wG ⟨vG, rfl, hG, hbG, hcG⟩
  have hF2 := hF.below hcG
  go_simp
  refine hK.out _ _ hbG (fun hHeld => ?_)
  clear hK K
  refine wpAnyH_ready (rs := [4]) (by kernel_rfl) (by simp) ?_
  refine AllReadyH.cons rfl (fun K hK => ?_) AllReadyH.nil
  go_simp
  refine (HRA.out vF vG _ hF2 hG).mono ?_
  rintro e wA ⟨uA, rfl, hA, hcA⟩
  go_simp
  refine hK.out _ _ (below2 hHeld hcA) (fun hHeld => ?_)
  clear hK K
  refine jheld_take (i := 5) (v := .tuple #[uA, .bool B]) (some 16) rfl rfl (by kernel_rfl) (by kernel_rfl) (by kernel_rfl) (fun _ _ _ h => h) (.inl ⟨by rfl, fun V _ => by go_simp⟩) hHeld ?_
  simp only [Act.put, List.setIfInBounds_toArray, List.set_cons_zero, List.set_cons_succ]
  refine jheld_take (i := 6) (v := uA) (some 22) rfl rfl (by kernel_rfl) (by kernel_rfl) (by kernel_rfl) (fun _ _ _ h => h) (.inl ⟨by rfl, fun V _ => by go_simp⟩) hHeld ?_
  simp only [Act.put, List.setIfInBounds_toArray, List.set_cons_zero, List.set_cons_succ]
  refine jheld_take (i := 7) (v := .bool B) (some 23) rfl rfl (by kernel_rfl) (by kernel_rfl) (by kernel_rfl) (fun _ _ _ h => h) (.inl ⟨by rfl, fun V _ => by go_simp⟩) hHeld ?_
  simp only [Act.put, List.setIfInBounds_toArray, List.set_cons_zero, List.set_cons_succ]
  refine jheld_take (i := 8) (v := uA) (some 7) rfl rfl (by kernel_rfl) (by kernel_rfl) (by kernel_rfl) (fun _ _ _ h => h) (.inl ⟨by rfl, fun V _ => by go_simp⟩) hHeld ?_
  simp only [Act.put, List.setIfInBounds_toArray, List.set_cons_zero, List.set_cons_succ]
  refine jheld_take (i := 9) (v := .bool B) (some 8) rfl rfl (by kernel_rfl) (by kernel_rfl) (by kernel_rfl) (fun _ _ _ h => h) (.inl ⟨by rfl, fun V _ => by go_simp⟩) hHeld ?_
  simp only [Act.put, List.setIfInBounds_toArray, List.set_cons_zero, List.set_cons_succ]
  refine wpAnyH_done (by kernel_rfl) ?_ _
  have HRA2 := Lib.hid (kb hHeld HR2.out)
  have HB3 := Lib.hid (below2 HB2.out hHeld)
  obtain ⟨b, o, cap, rfl, hl, hc⟩ := hA
  have HC := Lib.hid hc
  clear hF hF2 hG hbF hbG hcG hcA hHeld hc HRA HCF HCG
  go_wp2_with fail
  go_loopw [9] (fun i wr => ∃ k : Nat, k ≤ 34 ∧ i = .int .i64 k ∧ Below wA.heap.size wA wr) (fun i _ => 34 - (intOf i).toNat)
  case atStart => exact ⟨0, by omega, rfl, Below.refl _ _⟩
  case round =>
    obtain ⟨k, hk, rfl, hB⟩ := hrel
    have HBr := Lib.hid hB
    by_cases hlt : k < 34
    · have x3 := (cell_in (kb hB HRA2.out) k).trans (numsC_at (by omega))
      have y3 := (hB.cell (p := ⟨b, o + k, none⟩) hl).trans (HC.out k hlt)
      generalize mAt U k = Z at *
      clear hB
      go_wp2_with (go_quiet (fail))
      go_roundw
      case rel => exact ⟨k + 1, by omega, by go_num, bdN HBr.out _⟩
      case measure => simp [intOf]; omega
    · obtain rfl : k = 34 := by omega
      clear hB
      go_wp2_with fail
      refine (jknow_end (below2 HB3.out HBr.out)).mono ?_
      rintro e w9 ⟨rfl, hb9⟩
      go_wp2_with fail
      go_ret
      exact ⟨rfl, hb9⟩

set_option maxRecDepth 100000 in
/-- The row's contract, for every argument and every world. -/
theorem contract (H : Type) (enc : TypeId × Value → H) (W : World) (base : Nat) (args : Array Value) (ds gs : List (DataW H)) (before : List MemPlace)
    (hval : ∀ (j : Nat) t v, Try.f5.params[j]? = some t → args[j]? = some v → Value.okWide Try.prog W .any base t v)
    (hW : DataW.Whole enc Try.prog Try.f5.params.toList Rows.affineApartSpec.vars false W args.toList ds gs before) (_hL : laidMetH Try.prog Rows.affineApartRow.laid W) :
    Calls Try.prog 5 args W fun e W' => ∃ v, e = .returned v ∧ Rows.affineApartSpec.post enc Try.prog Try.f5 false true false false W args v W' := by
  have hW' := hW
  obtain ⟨p, q, hA0, hV, rfl, hfz, hnd⟩ := hW
  have hA : DataW.TrodAll enc Try.prog W 0 (fun _ => true) true Try.f5.params.toList args.toList ds p := hA0
  rw [Try.params5] at hA hval
  obtain ⟨v0, vs0, d0, ds0, p0, q0, hargs0, rfl, rfl, t0, r0⟩ := trodAll_cons hA
  obtain ⟨v1, vs1, d1, ds1, p1, q1, hargs1, rfl, rfl, t1, r1⟩ := trodAll_cons r0
  obtain ⟨rfl, rfl, rfl⟩ := trodAll_nil r1
  obtain rfl : args = #[v0, v1] := by cases args; simp_all
  obtain ⟨f, rfl, hd0⟩ := open_form (hval 0 25 v0 rfl rfl) t0
  obtain ⟨g, rfl, hd1⟩ := open_form (hval 1 25 v1 rfl rfl) t1
  refine (walk f g W hd0 hd1).mono fun e W' ⟨he, hg⟩ => ?_
  subst he
  exact ⟨_, rfl, law_post (tb := 4) laidOut (fun t ht => by rw [Try.params5] at ht; revert t; exact of_decide_eq_true (by kernel_rfl)) (by kernel_rfl) Try.underlying4 rfl
    (fun ds h => by rw [Try.params5] at h; match ds, h with | [_, _], _ => rfl) hW' hg⟩

theorem laid_met (os : Os) : laidMet Try.prog Rows.affineApartRow.laid ((laidWorldJ os).forCall (fun _ _ => 0) ⟨#[], #[.agg (numsC zeroF), .agg (numsC zeroF)], []⟩).memory :=
  laidMet_nil _ _
theorem reads (os : Os) {H : Type} (enc : TypeId × Value → H) : ∃ places, DataW.whole enc Try.prog ((laidWorldJ os).forCall (fun _ _ => 0) ⟨#[], #[.agg (numsC zeroF), .agg (numsC zeroF)], []⟩).memory Try.f5.params.toList Rows.affineApartSpec.vars false #[Value.agg (numsC zeroF), Value.agg (numsC zeroF)].toList 8 = some ([.agg [.lit (.int .u32 0), .agg (List.replicate 34 (.lit (.int .u32 0)))], .agg [.lit (.int .u32 0), .agg (List.replicate 34 (.lit (.int .u32 0)))]], [], places) :=
  ⟨[], by kernel_rfl⟩

set_option maxRecDepth 100000 in
theorem lifted (os : Os) (started : os.Started) (H : Type) (enc : TypeId × Value → H) (F : Stop.Interp) :
    ReturnsInHanded {} Try.checked os 5 .any ((OpenSpec.ofChange Rows.affineApartSpec).preRow enc Try.prog Try.f5 Rows.affineApartRow.domain false Rows.affineApartRow.laid) (((OpenSpec.ofChange Rows.affineApartSpec).at F).post enc Try.prog Try.f5 false true false false) := by
  obtain ⟨places, hx⟩ := reads os enc
  refine returnsInHanded_of_row (C := Try.checked) (s := OpenSpec.ofChange Rows.affineApartSpec) own started (by kernel_rfl) Try.func5
    (witness_row_at (enc := enc) (C := Try.checked) false (laidWorldJ os) #[.agg (numsC zeroF), .agg (numsC zeroF)] rfl (by kernel_rfl) (by kernel_rfl) (by kernel_rfl)
      (OpenSpec.preRow_of_cond 8 hx (by kernel_rfl) (fun k hk => by cases hk) (by kernel_rfl) (laid_met os))) ?_
  intro W base args ds gs before hval hW _ _ _ hL _ _
  exact contract H enc W base args ds gs before hval hW hL

theorem said : Rows.AffineApartSaid :=
  OpenClaim.holds_of_cond 5 Try.f5 rfl rfl rfl rfl rfl rfl rfl ⟨rfl, rfl, rfl, rfl, rfl⟩ rfl rfl rfl rfl rfl (by kernel_rfl) Try.func5 (by kernel_rfl)
    (of_decide_eq_true (by kernel_rfl)) (by unfold Func.isWrapper; first | (rw [if_pos (by decide +kernel)]; kernel_rfl) | (rw [if_neg (by decide +kernel)]; exact ⟨rfl, rfl⟩))
    (fun os started H enc _ F => by rw [OpenClaim.pre_eq_preRow]; exact lifted os started H enc F)

end Go.Proofs.Ytkfhmcpdodnbhaa.affineApart
