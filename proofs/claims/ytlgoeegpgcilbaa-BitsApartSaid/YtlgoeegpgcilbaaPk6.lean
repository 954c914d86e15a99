/-
  What the laws' texts use, joined.
-/
import Derived.Test.YtlgoeegpgcilbaaProg
import Derived.WalkKit
import Derived.Laws.BitsAllLaws
import Derived.ProofKit
import Derived.Lib.Hide
import Derived.Laws.Rows
import Derived.Laws.ResultCell
import Derived.Laws.Entries
import Derived.Handy
import Derived.OwnWalk
import Derived.Laws.OwnMore
import Derived.Deep.Draws
import Derived.Laws.IdiomStrings
import Derived.Lib.BufferRead
import Derived.Maps.OwnSet
import Derived.Laws.Tables
import Derived.Deep.DeepCutAuto
import Derived.DeepKeys
import Derived.Laws.StructEq
import Derived.Deep.RegionHeld3
import Derived.BigRegion
import Derived.BigQuiet
import Derived.Test.YtlgoeegpgcilbaaRows
import Derived.OpenShut
import Derived.Carry
import Derived.Deep.DeepHandedRow
import Derived.Lib.SmallJoins
import Derived.Deep.OwnRows
import Derived.Lib.QuietBelow
import Derived.RowKit
import Derived.Deep.QuietTactic
import Derived.Deep.CutBlock
import Derived.Stop.Joined
import Derived.Shelf.Sort.Plain
import Derived.Shelf.Slices.Turned
import Derived.Shelf.Slices.Equal
import Derived.Ground.Names2Prog
import Derived.Shelf.Slices.CompactI
import Derived.Shelf.Slices.In.SortNone
import Derived.Lib.AppendZerosOnto
import Derived.Lib.SliceRun
import Derived.Lib.OwnBridge
import Derived.Sort.OwnSortedInts
import Derived.Deep.MidRow
import Derived.Great.BuildSlice
import Derived.Test.YtlgoeegpgcilbaaPk1
import Derived.Test.YtlgoeegpgcilbaaPk2
import Derived.Test.YtlgoeegpgcilbaaPk3
import Derived.Test.YtlgoeegpgcilbaaPk4
import Derived.Test.YtlgoeegpgcilbaaPk5
/-
  hurdlelaw15.knows: the row of examples answers true in every world.
-/
namespace Go.Proofs.Ytlgoeegpgcilbaa
open Go.ChangeShapes Go.WideShapes Go.ChangeAt Go.RowKit
set_option maxRecDepth 100000

theorem small_var {n : Nat} (hn : n < 34) : Small [(n : Int)] [0, 4294967295] := by
  refine ⟨by simp, by simp, fun z hz => ?_, fun z hz => ?_⟩
  · obtain rfl : z = (n : Int) := by simpa using hz
    omega
  · rcases List.mem_cons.1 hz with rfl | hz
    · omega
    · obtain rfl : z = 4294967295 := by simpa using hz
      omega
theorem small_const {c : Nat} (hc : c < 4294967296) : Small [] [c] := ⟨by simp, by simp, fun _ h => by simp at h, fun z hz => by
  obtain rfl : z = c := by simpa using hz
  exact hc⟩
theorem NRow.blk {k : IntKind} {w : World} {b cap : Nat} {cs : Array Value} {ty : TypeId} {l : List Int} (h : w.heap[b]? = some (.cells cs ty)) (hc : ∀ i (h : i < l.length), cs[i]? = some (.int k l[i])) : NRow k w (.slice (some ⟨b, 0, none⟩) l.length cap) l :=
  ⟨_, cap, rfl, .inr ⟨b, 0, rfl, lt_of_block h, fun i hi => by rw [Nat.zero_add, cell_in h, hc i hi]⟩⟩
theorem small_ex0 : Small [0] [0, 255] := ⟨by decide, by decide, by decide, by decide⟩
theorem small_ex1 : Small [1] [0, 65280] := ⟨by decide, by decide, by decide, by decide⟩
theorem small_ex2 : Small [0, 1] [0, 255, 65280, 65535] := ⟨by decide, by decide, by decide, by decide⟩
set_option maxHeartbeats 4000000 in
theorem gknow_any (w : World) : Calls Try.prog 10 #[] w fun e w' => e = .returned (.bool true) ∧ Below w.heap.size w w' := by
  have c0 : ∀ V, Calls Try.prog 11 #[.int .i64 0] V fun e w' => ∃ v, e = .returned (.tuple #[v, .int .i64 0]) ∧ GF w' v [0] [0, 4294967295] ∧ Below V.heap.size V w' := fun V => bvar_in 0 V (by omega)
  have c1 : ∀ V, Calls Try.prog 11 #[.int .i64 1] V fun e w' => ∃ v, e = .returned (.tuple #[v, .int .i64 0]) ∧ GF w' v [1] [0, 4294967295] ∧ Below V.heap.size V w' := fun V => bvar_in 1 V (by omega)
  have cC : ∀ V (c : Nat), c < 4294967296 → Calls Try.prog 12 #[.int .u32 (c : Nat)] V fun e w' => ∃ v, e = .returned v ∧ GF w' v [] [c] ∧ Below V.heap.size V w' := fun V c hc => bconst_any c V hc
  have d0 : ∀ V v v', GF V v [0] [0, 4294967295] → GF V v' [] [255] → Calls Try.prog 21 #[.int .i64 84, v, v'] V fun e w' => ∃ v, e = .returned (.tuple #[v, .bool true]) ∧ GF w' v [0] [0, 255] ∧ Below V.heap.size V w' := fun V v v' h h' => by
    have hd := bdo_any 84 v v' _ _ _ _ V h h' (small_var (n := 0) (by omega)) (small_const (by omega))
    rw [ex_d0.1, ex_d0.2] at hd
    exact hd
  have d1 : ∀ V v v', GF V v [1] [0, 4294967295] → GF V v' [] [65280] → Calls Try.prog 21 #[.int .i64 84, v, v'] V fun e w' => ∃ v, e = .returned (.tuple #[v, .bool true]) ∧ GF w' v [1] [0, 65280] ∧ Below V.heap.size V w' := fun V v v' h h' => by
    have hd := bdo_any 84 v v' _ _ _ _ V h h' (small_var (n := 1) (by omega)) (small_const (by omega))
    rw [ex_d1.1, ex_d1.2] at hd
    exact hd
  have d2 : ∀ V v v', GF V v [0] [0, 255] → GF V v' [1] [0, 65280] → Calls Try.prog 21 #[.int .i64 68, v, v'] V fun e w' => ∃ v, e = .returned (.tuple #[v, .bool true]) ∧ GF w' v [0, 1] [0, 255, 65280, 65535] ∧ Below V.heap.size V w' := fun V v v' h h' => by
    have hd := bdo_any 68 v v' _ _ _ _ V h h' small_ex0 small_ex1
    rw [ex_d2.1, ex_d2.2] at hd
    exact hd
  have sS : ∀ V v v', GF V v [0, 1] [0, 255, 65280, 65535] → GF V v' [0, 1] [0, 255, 65280, 65535] → Calls Try.prog 17 #[v, v'] V fun e w' => e = .returned (.bool true) ∧ Below V.heap.size V w' := fun V v v' h h' => bsame_any v v' _ _ _ _ V h h' small_ex2 small_ex2
  have sR : ∀ V v, GF V v [0, 1] [0, 255, 65280, 65535] → Calls Try.prog 14 #[v] V fun e w' => e = .returned (.bool true) ∧ Below V.heap.size V w' := fun V v h => by
    have hr := bright_any v _ _ V h small_ex2
    rw [rightB_yes ex_r2] at hr
    exact hr
  have C0 := Lib.hid c0
  have C1 := Lib.hid c1
  have CC := Lib.hid cC
  have D0 := Lib.hid d0
  have D1 := Lib.hid d1
  have D2 := Lib.hid d2
  have SS := Lib.hid sS
  have SR := Lib.hid sR
  clear c0 c1 cC d0 d1 d2 sS sR
  go_enter Try.func10, Try.ntmps10
  go_wp2_with fail
  refine (C0.out _).mono ?_
  rintro e w1 ⟨v0, rfl, hA, hb1⟩
  obtain ⟨a1, a2, rfl, p1, p2⟩ := hA.split
  have HA := Lib.hid hA
  have HB1 := Lib.hid hb1
  have hs1 := hb1.size
  clear hA hb1
  go_wp2_with (refine st_bf (heap_alloc_new _ _) rfl p1 p2 rfl rfl rfl rfl ?_; intro W1 hp1; have HP1 := Lib.hid hp1; clear hp1)
  have HA1 : Hid (GF W1 (.agg #[a1, a2]) [0] [0, 4294967295]) := Lib.hid ((HA.out.below (ba _ (Below.refl _ _))).putr (heap_alloc_new _ _) HP1.out)
  have HX1 := Lib.hid HP1.out.row
  have HW1 := Lib.hid (HP1.out.below (ba _ HB1.out) hs1)
  have hl1 := lt_of_block HX1.out
  clear HP1 HA HB1
  generalize w1.heap.size = g1 at *
  refine (C1.out _).mono ?_
  rintro e w2 ⟨v1, rfl, hA, hb2⟩
  obtain ⟨b1, b2, rfl, p3, p4⟩ := hA.split
  have HA2 := Lib.hid hA
  have HA1 := Lib.hid (HA1.out.below hb2)
  have HX1 := Lib.hid (kb hb2 HX1.out)
  have HB2 := Lib.hid (below2 HW1.out hb2)
  have hs2 := HB2.out.size
  have hl2 := hb2.size
  clear hA hb2 HW1
  go_upto_region 3 with (refine st_bf (heap_alloc_new _ _) rfl p3 p4 rfl rfl rfl rfl ?_; intro W2 hp2; have HP2 := Lib.hid hp2; clear hp2)
  have HA1 := Lib.hid ((HA1.out.below (ba _ (Below.refl _ _))).putr (heap_alloc_new _ _) HP2.out)
  have HA2 := Lib.hid ((HA2.out.below (ba _ (Below.refl _ _))).putr (heap_alloc_new _ _) HP2.out)
  have HX1 := Lib.hid (HP2.out.keep (by omega) (ka _ HX1.out))
  have HX2 := Lib.hid HP2.out.row
  have HW2 := Lib.hid (HP2.out.below (ba _ HB2.out) hs2)
  have hl3 := lt_of_block HX2.out
  clear HP2 HB2
  generalize w2.heap.size = g2 at *
  go_upto_region 3 with fail
  go_cut [5, 6] (fun s5 s6 wx => ∃ g u1 u2, s5 = .pointer (some ⟨g, 0, none⟩) ∧ s6 = .bool true ∧ wx.heap[g]? = some (bfB u1 u2) ∧ GF wx (.agg #[u1, u2]) [0] [0, 255] ∧ u1.oneCell' = true ∧ u2.oneCell' = true ∧ W2.heap.size ≤ g ∧ Below W2.heap.size W2 wx)
  case first =>
    refine wp_region_held_drew (S := fun V => Below W2.heap.size W2 V) (by kernel_rfl) (bdN (Below.refl _ _) 1) (fun hHeld => ?_)
    have hF : GF W2.drew (.agg #[a1, a2]) [0] [0, 4294967295] := HA1.out.below (bdN (Below.refl _ _) 1)
    generalize W2.drew = wZ at *
    refine jheld_take (i := 0) (v := .agg #[a1, a2]) (some 20) rfl rfl (by kernel_rfl) (by kernel_rfl) (by kernel_rfl) (fun _ _ _ h => h) (gyi_row (by rfl) (by rfl) (by rfl) (fun V hV => lv_bf (kb hV HX1.out))) hHeld ?_
    simp only [Act.put, List.setIfInBounds_toArray, List.set_cons_zero, List.set_cons_succ]
    refine wpAnyH_ready (rs := [1, 6]) (by kernel_rfl) (by simp) ?_
    refine AllReadyH.cons rfl (fun K hK => ?_) (AllReadyH.cons rfl (fun K hK => ?_) AllReadyH.nil)
    · go_simp
      refine (CC.out wZ 255 (by omega)).mono ?_
      rintro e wC0 ⟨vC, rfl, hC, hbwC0⟩
      have hF := hF.below hbwC0
      go_simp
      refine hK.out _ _ (below2 hHeld hbwC0) (fun hHeld => ?_)
      clear hK K hbwC0
      refine wpAnyH_ready (rs := [2, 6]) (by kernel_rfl) (by simp) ?_
      refine AllReadyH.cons rfl (fun K hK => ?_) (AllReadyH.cons rfl (fun K hK => ?_) AllReadyH.nil)
      · go_simp
        refine (D0.out wC0 _ _ hF hC).mono ?_
        rintro e wD1 ⟨vD, rfl, hD, hbwD1⟩
        obtain ⟨r1, r2, rfl, q1, q2⟩ := hD.split
        have hF := hF.below hbwD1
        have hC := hC.below hbwD1
        go_simp
        refine hK.out _ _ (below2 hHeld hbwD1) (fun hHeld => ?_)
        clear hK K hbwD1
        refine jheld_take (i := 3) (v := .tuple #[.agg #[r1, r2], .bool true]) (some 19) rfl rfl (by kernel_rfl) (by kernel_rfl) (by kernel_rfl) (fun _ _ _ h => h) (.inl ⟨by rfl, fun V _ => by go_simp⟩) hHeld ?_
        simp only [Act.put, List.setIfInBounds_toArray, List.set_cons_zero, List.set_cons_succ]
        refine jheld_take (i := 4) (v := .agg #[r1, r2]) (some 23) rfl rfl (by kernel_rfl) (by kernel_rfl) (by kernel_rfl) (fun _ _ _ h => h) (.inl ⟨by rfl, fun V _ => by go_simp⟩) hHeld ?_
        simp only [Act.put, List.setIfInBounds_toArray, List.set_cons_zero, List.set_cons_succ]
        refine jheld_take (i := 5) (v := .bool true) (some 24) rfl rfl (by kernel_rfl) (by kernel_rfl) (by kernel_rfl) (fun _ _ _ h => h) (.inl ⟨by rfl, fun V _ => by go_simp⟩) hHeld ?_
        simp only [Act.put, List.setIfInBounds_toArray, List.set_cons_zero, List.set_cons_succ]
        refine wpAnyH_ready (rs := [6]) (by kernel_rfl) (by simp) ?_
        refine AllReadyH.cons rfl (fun K hK => ?_) AllReadyH.nil
        go_simp
        obtain ⟨gq, hgq⟩ : ∃ gq, gq = (wD1).heap.size := ⟨_, rfl⟩
        have hAl := heap_alloc_new (wD1) (.cells #[.slice none 0 0, .slice none 0 0] 25)
        rw [← hgq] at hAl
        have hAb : Below (wD1).heap.size (wD1) ((wD1).alloc (.cells #[.slice none 0 0, .slice none 0 0] 25)) := ba _ (Below.refl _ _)
        have hAs : W2.heap.size ≤ gq := by rw [hgq]; exact hHeld.size
        have hF := hF.below hAb
        have hC := hC.below hAb
        have hD := hD.below hAb
        rw [show (wD1).heap.size = gq from hgq.symm]
        refine hK.out _ _ (below2 hHeld hAb) (fun hHeld => ?_)
        clear hK K hAb hgq
        generalize (wD1).alloc (.cells #[.slice none 0 0, .slice none 0 0] 25) = wA2 at *
        refine wpAnyH_ready (rs := [7]) (by kernel_rfl) (by simp) ?_
        refine AllReadyH.cons rfl (fun K hK => ?_) AllReadyH.nil
        (try rw [if_pos (by rfl)])
        refine wp_putb hAl (by rfl) q1 q2 (by rfl) (by rfl) (by rfl) ?_
        intro wS3 hp
        simp only [Act.put]
        have hF := hF.putr hAl hp
        have hC := hC.putr hAl hp
        have hD := hD.putr hAl hp
        have hAr := hp.row
        refine hK.out _ _ (hp.below hHeld hAs) (fun hHeld => ?_)
        clear hK K hAl hp
        refine jheld_take (i := 8) (v := .bool true) (some 6) rfl rfl (by kernel_rfl) (by kernel_rfl) (by kernel_rfl) (fun _ _ _ h => h) (.inl ⟨by rfl, fun V _ => by go_simp⟩) hHeld ?_
        simp only [Act.put, List.setIfInBounds_toArray]
        refine wpAnyH_done (by kernel_rfl) ?_ _
        go_wp2_with fail
        go_meet
        exact ⟨gq, r1, r2, rfl, rfl, hAr, hD, q1, q2, hAs, hHeld⟩
      · go_simp
        obtain ⟨gq, hgq⟩ : ∃ gq, gq = (wC0).heap.size := ⟨_, rfl⟩
        have hAl := heap_alloc_new (wC0) (.cells #[.slice none 0 0, .slice none 0 0] 25)
        rw [← hgq] at hAl
        have hAb : Below (wC0).heap.size (wC0) ((wC0).alloc (.cells #[.slice none 0 0, .slice none 0 0] 25)) := ba _ (Below.refl _ _)
        have hAs : W2.heap.size ≤ gq := by rw [hgq]; exact hHeld.size
        have hF := hF.below hAb
        have hC := hC.below hAb
        rw [show (wC0).heap.size = gq from hgq.symm]
        refine hK.out _ _ (below2 hHeld hAb) (fun hHeld => ?_)
        clear hK K hAb hgq
        generalize (wC0).alloc (.cells #[.slice none 0 0, .slice none 0 0] 25) = wA1 at *
        refine wpAnyH_ready (rs := [2]) (by kernel_rfl) (by simp) ?_
        refine AllReadyH.cons rfl (fun K hK => ?_) AllReadyH.nil
        go_simp
        refine (D0.out wA1 _ _ hF hC).mono ?_
        rintro e wD2 ⟨vD, rfl, hD, hbwD2⟩
        obtain ⟨r1, r2, rfl, q1, q2⟩ := hD.split
        have hF := hF.below hbwD2
        have hC := hC.below hbwD2
        have hAl := kb hbwD2 hAl
        go_simp
        refine hK.out _ _ (below2 hHeld hbwD2) (fun hHeld => ?_)
        clear hK K hbwD2
        refine jheld_take (i := 3) (v := .tuple #[.agg #[r1, r2], .bool true]) (some 19) rfl rfl (by kernel_rfl) (by kernel_rfl) (by kernel_rfl) (fun _ _ _ h => h) (.inl ⟨by rfl, fun V _ => by go_simp⟩) hHeld ?_
        simp only [Act.put, List.setIfInBounds_toArray, List.set_cons_zero, List.set_cons_succ]
        refine jheld_take (i := 4) (v := .agg #[r1, r2]) (some 23) rfl rfl (by kernel_rfl) (by kernel_rfl) (by kernel_rfl) (fun _ _ _ h => h) (.inl ⟨by rfl, fun V _ => by go_simp⟩) hHeld ?_
        simp only [Act.put, List.setIfInBounds_toArray, List.set_cons_zero, List.set_cons_succ]
        refine jheld_take (i := 5) (v := .bool true) (some 24) rfl rfl (by kernel_rfl) (by kernel_rfl) (by kernel_rfl) (fun _ _ _ h => h) (.inl ⟨by rfl, fun V _ => by go_simp⟩) hHeld ?_
        simp only [Act.put, List.setIfInBounds_toArray, List.set_cons_zero, List.set_cons_succ]
        refine wpAnyH_ready (rs := [7]) (by kernel_rfl) (by simp) ?_
        refine AllReadyH.cons rfl (fun K hK => ?_) AllReadyH.nil
        (try rw [if_pos (by rfl)])
        refine wp_putb hAl (by rfl) q1 q2 (by rfl) (by rfl) (by rfl) ?_
        intro wS3 hp
        simp only [Act.put]
        have hF := hF.putr hAl hp
        have hC := hC.putr hAl hp
        have hD := hD.putr hAl hp
        have hAr := hp.row
        refine hK.out _ _ (hp.below hHeld hAs) (fun hHeld => ?_)
        clear hK K hAl hp
        refine jheld_take (i := 8) (v := .bool true) (some 6) rfl rfl (by kernel_rfl) (by kernel_rfl) (by kernel_rfl) (fun _ _ _ h => h) (.inl ⟨by rfl, fun V _ => by go_simp⟩) hHeld ?_
        simp only [Act.put, List.setIfInBounds_toArray]
        refine wpAnyH_done (by kernel_rfl) ?_ _
        go_wp2_with fail
        go_meet
        exact ⟨gq, r1, r2, rfl, rfl, hAr, hD, q1, q2, hAs, hHeld⟩
    · go_simp
      obtain ⟨gq, hgq⟩ : ∃ gq, gq = (wZ).heap.size := ⟨_, rfl⟩
      have hAl := heap_alloc_new (wZ) (.cells #[.slice none 0 0, .slice none 0 0] 25)
      rw [← hgq] at hAl
      have hAb : Below (wZ).heap.size (wZ) ((wZ).alloc (.cells #[.slice none 0 0, .slice none 0 0] 25)) := ba _ (Below.refl _ _)
      have hAs : W2.heap.size ≤ gq := by rw [hgq]; exact hHeld.size
      have hF := hF.below hAb
      rw [show (wZ).heap.size = gq from hgq.symm]
      refine hK.out _ _ (below2 hHeld hAb) (fun hHeld => ?_)
      clear hK K hAb hgq
      generalize (wZ).alloc (.cells #[.slice none 0 0, .slice none 0 0] 25) = wA0 at *
      refine wpAnyH_ready (rs := [1]) (by kernel_rfl) (by simp) ?_
      refine AllReadyH.cons rfl (fun K hK => ?_) AllReadyH.nil
      go_simp
      refine (CC.out wA0 255 (by omega)).mono ?_
      rintro e wC1 ⟨vC, rfl, hC, hbwC1⟩
      have hF := hF.below hbwC1
      have hAl := kb hbwC1 hAl
      go_simp
      refine hK.out _ _ (below2 hHeld hbwC1) (fun hHeld => ?_)
      clear hK K hbwC1
      refine wpAnyH_ready (rs := [2]) (by kernel_rfl) (by simp) ?_
      refine AllReadyH.cons rfl (fun K hK => ?_) AllReadyH.nil
      go_simp
      refine (D0.out wC1 _ _ hF hC).mono ?_
      rintro e wD2 ⟨vD, rfl, hD, hbwD2⟩
      obtain ⟨r1, r2, rfl, q1, q2⟩ := hD.split
      have hF := hF.below hbwD2
      have hAl := kb hbwD2 hAl
      have hC := hC.below hbwD2
      go_simp
      refine hK.out _ _ (below2 hHeld hbwD2) (fun hHeld => ?_)
      clear hK K hbwD2
      refine jheld_take (i := 3) (v := .tuple #[.agg #[r1, r2], .bool true]) (some 19) rfl rfl (by kernel_rfl) (by kernel_rfl) (by kernel_rfl) (fun _ _ _ h => h) (.inl ⟨by rfl, fun V _ => by go_simp⟩) hHeld ?_
      simp only [Act.put, List.setIfInBounds_toArray, List.set_cons_zero, List.set_cons_succ]
      refine jheld_take (i := 4) (v := .agg #[r1, r2]) (some 23) rfl rfl (by kernel_rfl) (by kernel_rfl) (by kernel_rfl) (fun _ _ _ h => h) (.inl ⟨by rfl, fun V _ => by go_simp⟩) hHeld ?_
      simp only [Act.put, List.setIfInBounds_toArray, List.set_cons_zero, List.set_cons_succ]
      refine jheld_take (i := 5) (v := .bool true) (some 24) rfl rfl (by kernel_rfl) (by kernel_rfl) (by kernel_rfl) (fun _ _ _ h => h) (.inl ⟨by rfl, fun V _ => by go_simp⟩) hHeld ?_
      simp only [Act.put, List.setIfInBounds_toArray, List.set_cons_zero, List.set_cons_succ]
      refine wpAnyH_ready (rs := [7]) (by kernel_rfl) (by simp) ?_
      refine AllReadyH.cons rfl (fun K hK => ?_) AllReadyH.nil
      (try rw [if_pos (by rfl)])
      refine wp_putb hAl (by rfl) q1 q2 (by rfl) (by rfl) (by rfl) ?_
      intro wS3 hp
      simp only [Act.put]
      have hF := hF.putr hAl hp
      have hC := hC.putr hAl hp
      have hD := hD.putr hAl hp
      have hAr := hp.row
      refine hK.out _ _ (hp.below hHeld hAs) (fun hHeld => ?_)
      clear hK K hAl hp
      refine jheld_take (i := 8) (v := .bool true) (some 6) rfl rfl (by kernel_rfl) (by kernel_rfl) (by kernel_rfl) (fun _ _ _ h => h) (.inl ⟨by rfl, fun V _ => by go_simp⟩) hHeld ?_
      simp only [Act.put, List.setIfInBounds_toArray]
      refine wpAnyH_done (by kernel_rfl) ?_ _
      go_wp2_with fail
      go_meet
      exact ⟨gq, r1, r2, rfl, rfl, hAr, hD, q1, q2, hAs, hHeld⟩
  case rest =>
  obtain ⟨g3, c1, c2, rfl, rfl, hx3, hA3, p5, p6, hg3, hb3⟩ := hcut
  have HX3 := Lib.hid hx3
  have HA3 := Lib.hid hA3
  have HX2 := Lib.hid (kb hb3 HX2.out)
  have HA2 := Lib.hid (HA2.out.below hb3)
  have HW3 := Lib.hid (below2 HW2.out hb3)
  clear hx3 hA3 hb3 HW2 HA1 HX1
  generalize wc = W3 at *
  go_upto_region 4 with fail
  go_cut [7, 8] (fun s5 s6 wx => ∃ g u1 u2, s5 = .pointer (some ⟨g, 0, none⟩) ∧ s6 = .bool true ∧ wx.heap[g]? = some (bfB u1 u2) ∧ GF wx (.agg #[u1, u2]) [1] [0, 65280] ∧ u1.oneCell' = true ∧ u2.oneCell' = true ∧ W3.heap.size ≤ g ∧ Below W3.heap.size W3 wx)
  case first =>
    refine wp_region_held_drew (S := fun V => Below W3.heap.size W3 V) (by kernel_rfl) (bdN (Below.refl _ _) 1) (fun hHeld => ?_)
    have hF : GF W3.drew (.agg #[b1, b2]) [1] [0, 4294967295] := HA2.out.below (bdN (Below.refl _ _) 1)
    generalize W3.drew = wZ at *
    refine jheld_take (i := 0) (v := .agg #[b1, b2]) (some 26) rfl rfl (by kernel_rfl) (by kernel_rfl) (by kernel_rfl) (fun _ _ _ h => h) (gyi_row (by rfl) (by rfl) (by rfl) (fun V hV => lv_bf (kb hV HX2.out))) hHeld ?_
    simp only [Act.put, List.setIfInBounds_toArray, List.set_cons_zero, List.set_cons_succ]
    refine wpAnyH_ready (rs := [1, 6]) (by kernel_rfl) (by simp) ?_
    refine AllReadyH.cons rfl (fun K hK => ?_) (AllReadyH.cons rfl (fun K hK => ?_) AllReadyH.nil)
    · go_simp
      refine (CC.out wZ 65280 (by omega)).mono ?_
      rintro e wC0 ⟨vC, rfl, hC, hbwC0⟩
      have hF := hF.below hbwC0
      go_simp
      refine hK.out _ _ (below2 hHeld hbwC0) (fun hHeld => ?_)
      clear hK K hbwC0
      refine wpAnyH_ready (rs := [2, 6]) (by kernel_rfl) (by simp) ?_
      refine AllReadyH.cons rfl (fun K hK => ?_) (AllReadyH.cons rfl (fun K hK => ?_) AllReadyH.nil)
      · go_simp
        refine (D1.out wC0 _ _ hF hC).mono ?_
        rintro e wD1 ⟨vD, rfl, hD, hbwD1⟩
        obtain ⟨r1, r2, rfl, q1, q2⟩ := hD.split
        have hF := hF.below hbwD1
        have hC := hC.below hbwD1
        go_simp
        refine hK.out _ _ (below2 hHeld hbwD1) (fun hHeld => ?_)
        clear hK K hbwD1
        refine jheld_take (i := 3) (v := .tuple #[.agg #[r1, r2], .bool true]) (some 25) rfl rfl (by kernel_rfl) (by kernel_rfl) (by kernel_rfl) (fun _ _ _ h => h) (.inl ⟨by rfl, fun V _ => by go_simp⟩) hHeld ?_
        simp only [Act.put, List.setIfInBounds_toArray, List.set_cons_zero, List.set_cons_succ]
        refine jheld_take (i := 4) (v := .agg #[r1, r2]) (some 29) rfl rfl (by kernel_rfl) (by kernel_rfl) (by kernel_rfl) (fun _ _ _ h => h) (.inl ⟨by rfl, fun V _ => by go_simp⟩) hHeld ?_
        simp only [Act.put, List.setIfInBounds_toArray, List.set_cons_zero, List.set_cons_succ]
        refine jheld_take (i := 5) (v := .bool true) (some 30) rfl rfl (by kernel_rfl) (by kernel_rfl) (by kernel_rfl) (fun _ _ _ h => h) (.inl ⟨by rfl, fun V _ => by go_simp⟩) hHeld ?_
        simp only [Act.put, List.setIfInBounds_toArray, List.set_cons_zero, List.set_cons_succ]
        refine wpAnyH_ready (rs := [6]) (by kernel_rfl) (by simp) ?_
        refine AllReadyH.cons rfl (fun K hK => ?_) AllReadyH.nil
        go_simp
        obtain ⟨gq, hgq⟩ : ∃ gq, gq = (wD1).heap.size := ⟨_, rfl⟩
        have hAl := heap_alloc_new (wD1) (.cells #[.slice none 0 0, .slice none 0 0] 25)
        rw [← hgq] at hAl
        have hAb : Below (wD1).heap.size (wD1) ((wD1).alloc (.cells #[.slice none 0 0, .slice none 0 0] 25)) := ba _ (Below.refl _ _)
        have hAs : W3.heap.size ≤ gq := by rw [hgq]; exact hHeld.size
        have hF := hF.below hAb
        have hC := hC.below hAb
        have hD := hD.below hAb
        rw [show (wD1).heap.size = gq from hgq.symm]
        refine hK.out _ _ (below2 hHeld hAb) (fun hHeld => ?_)
        clear hK K hAb hgq
        generalize (wD1).alloc (.cells #[.slice none 0 0, .slice none 0 0] 25) = wA2 at *
        refine wpAnyH_ready (rs := [7]) (by kernel_rfl) (by simp) ?_
        refine AllReadyH.cons rfl (fun K hK => ?_) AllReadyH.nil
        (try rw [if_pos (by rfl)])
        refine wp_putb hAl (by rfl) q1 q2 (by rfl) (by rfl) (by rfl) ?_
        intro wS3 hp
        simp only [Act.put]
        have hF := hF.putr hAl hp
        have hC := hC.putr hAl hp
        have hD := hD.putr hAl hp
        have hAr := hp.row
        refine hK.out _ _ (hp.below hHeld hAs) (fun hHeld => ?_)
        clear hK K hAl hp
        refine jheld_take (i := 8) (v := .bool true) (some 8) rfl rfl (by kernel_rfl) (by kernel_rfl) (by kernel_rfl) (fun _ _ _ h => h) (.inl ⟨by rfl, fun V _ => by go_simp⟩) hHeld ?_
        simp only [Act.put, List.setIfInBounds_toArray]
        refine wpAnyH_done (by kernel_rfl) ?_ _
        go_wp2_with fail
        go_meet
        exact ⟨gq, r1, r2, rfl, rfl, hAr, hD, q1, q2, hAs, hHeld⟩
      · go_simp
        obtain ⟨gq, hgq⟩ : ∃ gq, gq = (wC0).heap.size := ⟨_, rfl⟩
        have hAl := heap_alloc_new (wC0) (.cells #[.slice none 0 0, .slice none 0 0] 25)
        rw [← hgq] at hAl
        have hAb : Below (wC0).heap.size (wC0) ((wC0).alloc (.cells #[.slice none 0 0, .slice none 0 0] 25)) := ba _ (Below.refl _ _)
        have hAs : W3.heap.size ≤ gq := by rw [hgq]; exact hHeld.size
        have hF := hF.below hAb
        have hC := hC.below hAb
        rw [show (wC0).heap.size = gq from hgq.symm]
        refine hK.out _ _ (below2 hHeld hAb) (fun hHeld => ?_)
        clear hK K hAb hgq
        generalize (wC0).alloc (.cells #[.slice none 0 0, .slice none 0 0] 25) = wA1 at *
        refine wpAnyH_ready (rs := [2]) (by kernel_rfl) (by simp) ?_
        refine AllReadyH.cons rfl (fun K hK => ?_) AllReadyH.nil
        go_simp
        refine (D1.out wA1 _ _ hF hC).mono ?_
        rintro e wD2 ⟨vD, rfl, hD, hbwD2⟩
        obtain ⟨r1, r2, rfl, q1, q2⟩ := hD.split
        have hF := hF.below hbwD2
        have hC := hC.below hbwD2
        have hAl := kb hbwD2 hAl
        go_simp
        refine hK.out _ _ (below2 hHeld hbwD2) (fun hHeld => ?_)
        clear hK K hbwD2
        refine jheld_take (i := 3) (v := .tuple #[.agg #[r1, r2], .bool true]) (some 25) rfl rfl (by kernel_rfl) (by kernel_rfl) (by kernel_rfl) (fun _ _ _ h => h) (.inl ⟨by rfl, fun V _ => by go_simp⟩) hHeld ?_
        simp only [Act.put, List.setIfInBounds_toArray, List.set_cons_zero, List.set_cons_succ]
        refine jheld_take (i := 4) (v := .agg #[r1, r2]) (some 29) rfl rfl (by kernel_rfl) (by kernel_rfl) (by kernel_rfl) (fun _ _ _ h => h) (.inl ⟨by rfl, fun V _ => by go_simp⟩) hHeld ?_
        simp only [Act.put, List.setIfInBounds_toArray, List.set_cons_zero, List.set_cons_succ]
        refine jheld_take (i := 5) (v := .bool true) (some 30) rfl rfl (by kernel_rfl) (by kernel_rfl) (by kernel_rfl) (fun _ _ _ h => h) (.inl ⟨by rfl, fun V _ => by go_simp⟩) hHeld ?_
        simp only [Act.put, List.setIfInBounds_toArray, List.set_cons_zero, List.set_cons_succ]
        refine wpAnyH_ready (rs := [7]) (by kernel_rfl) (by simp) ?_
        refine AllReadyH.cons rfl (fun K hK => ?_) AllReadyH.nil
        (try rw [if_pos (by rfl)])
        refine wp_putb hAl (by rfl) q1 q2 (by rfl) (by rfl) (by rfl) ?_
        intro wS3 hp
        simp only [Act.put]
        have hF := hF.putr hAl hp
        have hC := hC.putr hAl hp
        have hD := hD.putr hAl hp
        have hAr := hp.row
        refine hK.out _ _ (hp.below hHeld hAs) (fun hHeld => ?_)
        clear hK K hAl hp
        refine jheld_take (i := 8) (v := .bool true) (some 8) rfl rfl (by kernel_rfl) (by kernel_rfl) (by kernel_rfl) (fun _ _ _ h => h) (.inl ⟨by rfl, fun V _ => by go_simp⟩) hHeld ?_
        simp only [Act.put, List.setIfInBounds_toArray]
        refine wpAnyH_done (by kernel_rfl) ?_ _
        go_wp2_with fail
        go_meet
        exact ⟨gq, r1, r2, rfl, rfl, hAr, hD, q1, q2, hAs, hHeld⟩
    · go_simp
      obtain ⟨gq, hgq⟩ : ∃ gq, gq = (wZ).heap.size := ⟨_, rfl⟩
      have hAl := heap_alloc_new (wZ) (.cells #[.slice none 0 0, .slice none 0 0] 25)
      rw [← hgq] at hAl
      have hAb : Below (wZ).heap.size (wZ) ((wZ).alloc (.cells #[.slice none 0 0, .slice none 0 0] 25)) := ba _ (Below.refl _ _)
      have hAs : W3.heap.size ≤ gq := by rw [hgq]; exact hHeld.size
      have hF := hF.below hAb
      rw [show (wZ).heap.size = gq from hgq.symm]
      refine hK.out _ _ (below2 hHeld hAb) (fun hHeld => ?_)
      clear hK K hAb hgq
      generalize (wZ).alloc (.cells #[.slice none 0 0, .slice none 0 0] 25) = wA0 at *
      refine wpAnyH_ready (rs := [1]) (by kernel_rfl) (by simp) ?_
      refine AllReadyH.cons rfl (fun K hK => ?_) AllReadyH.nil
      go_simp
      refine (CC.out wA0 65280 (by omega)).mono ?_
      rintro e wC1 ⟨vC, rfl, hC, hbwC1⟩
      have hF := hF.below hbwC1
      have hAl := kb hbwC1 hAl
      go_simp
      refine hK.out _ _ (below2 hHeld hbwC1) (fun hHeld => ?_)
      clear hK K hbwC1
      refine wpAnyH_ready (rs := [2]) (by kernel_rfl) (by simp) ?_
      refine AllReadyH.cons rfl (fun K hK => ?_) AllReadyH.nil
      go_simp
      refine (D1.out wC1 _ _ hF hC).mono ?_
      rintro e wD2 ⟨vD, rfl, hD, hbwD2⟩
      obtain ⟨r1, r2, rfl, q1, q2⟩ := hD.split
      have hF := hF.below hbwD2
      have hAl := kb hbwD2 hAl
      have hC := hC.below hbwD2
      go_simp
      refine hK.out _ _ (below2 hHeld hbwD2) (fun hHeld => ?_)
      clear hK K hbwD2
      refine jheld_take (i := 3) (v := .tuple #[.agg #[r1, r2], .bool true]) (some 25) rfl rfl (by kernel_rfl) (by kernel_rfl) (by kernel_rfl) (fun _ _ _ h => h) (.inl ⟨by rfl, fun V _ => by go_simp⟩) hHeld ?_
      simp only [Act.put, List.setIfInBounds_toArray, List.set_cons_zero, List.set_cons_succ]
      refine jheld_take (i := 4) (v := .agg #[r1, r2]) (some 29) rfl rfl (by kernel_rfl) (by kernel_rfl) (by kernel_rfl) (fun _ _ _ h => h) (.inl ⟨by rfl, fun V _ => by go_simp⟩) hHeld ?_
      simp only [Act.put, List.setIfInBounds_toArray, List.set_cons_zero, List.set_cons_succ]
      refine jheld_take (i := 5) (v := .bool true) (some 30) rfl rfl (by kernel_rfl) (by kernel_rfl) (by kernel_rfl) (fun _ _ _ h => h) (.inl ⟨by rfl, fun V _ => by go_simp⟩) hHeld ?_
      simp only [Act.put, List.setIfInBounds_toArray, List.set_cons_zero, List.set_cons_succ]
      refine wpAnyH_ready (rs := [7]) (by kernel_rfl) (by simp) ?_
      refine AllReadyH.cons rfl (fun K hK => ?_) AllReadyH.nil
      (try rw [if_pos (by rfl)])
      refine wp_putb hAl (by rfl) q1 q2 (by rfl) (by rfl) (by rfl) ?_
      intro wS3 hp
      simp only [Act.put]
      have hF := hF.putr hAl hp
      have hC := hC.putr hAl hp
      have hD := hD.putr hAl hp
      have hAr := hp.row
      refine hK.out _ _ (hp.below hHeld hAs) (fun hHeld => ?_)
      clear hK K hAl hp
      refine jheld_take (i := 8) (v := .bool true) (some 8) rfl rfl (by kernel_rfl) (by kernel_rfl) (by kernel_rfl) (fun _ _ _ h => h) (.inl ⟨by rfl, fun V _ => by go_simp⟩) hHeld ?_
      simp only [Act.put, List.setIfInBounds_toArray]
      refine wpAnyH_done (by kernel_rfl) ?_ _
      go_wp2_with fail
      go_meet
      exact ⟨gq, r1, r2, rfl, rfl, hAr, hD, q1, q2, hAs, hHeld⟩
  case rest =>
  obtain ⟨g4, d1, d2, rfl, rfl, hx4, hA4, p7, p8, hg4, hb4⟩ := hcut
  have HX4 := Lib.hid hx4
  have HA4 := Lib.hid hA4
  have HX3 := Lib.hid (kb hb4 HX3.out)
  have HA3 := Lib.hid (HA3.out.below hb4)
  have HW4 := Lib.hid (below2 HW3.out hb4)
  clear hx4 hA4 hb4 HW3 HA2 HX2
  generalize wc = W4 at *
  go_wp2_with (first | (refine ld_bf HX3.out rfl rfl rfl ?_) | (refine ld_bf HX4.out rfl rfl rfl ?_))
  refine (D2.out _ _ _ HA3.out HA4.out).mono ?_
  rintro e w5 ⟨v5, rfl, hA5, hb5⟩
  obtain ⟨e1, e2, rfl, p9, p10⟩ := hA5.split
  have HA5 := Lib.hid hA5
  have HB5 := Lib.hid (below2 HW4.out hb5)
  have hs5 := HB5.out.size
  clear hA5 hb5 HW4
  go_wp2_with (first
    | (refine st_bf (heap_alloc_new _ _) rfl p9 p10 rfl rfl rfl rfl ?_; intro W5 hp5; have HP5 := Lib.hid hp5; clear hp5)
    | (refine ld_bfg HP5.out.row (by rfl) rfl rfl ?_))
  have HX5 := Lib.hid HP5.out.row
  have HA5 := Lib.hid ((HA5.out.below (ba _ (Below.refl _ _))).putr (heap_alloc_new _ _) HP5.out)
  have HW5 := Lib.hid (HP5.out.below (ba _ HB5.out) hs5)
  clear HP5 HB5 HA4 HA3 HX4 HX3
  generalize w5.heap.size = g5 at *
  have hl5 := HW5.out.size
  have hbS := ba (.cells #[.int .u32 0, .int .u32 255, .int .u32 65280, .int .u32 65535] 26) (ba (.cells #[.int .i64 0, .int .i64 1] 3) (Below.refl W5.heap.size W5))
  have hn : GF ((W5.alloc (.cells #[.int .i64 0, .int .i64 1] 3)).alloc (.cells #[.int .u32 0, .int .u32 255, .int .u32 65280, .int .u32 65535] 26)) (.agg #[.slice (some ⟨W5.heap.size, 0, none⟩) 2 2, .slice (some ⟨W5.heap.size + 1, 0, none⟩) 4 4]) [0, 1] [0, 255, 65280, 65535] := by
    refine ⟨_, _, rfl, NRow.blk (l := [0, 1]) (cs := #[.int .i64 0, .int .i64 1]) (ka _ (heap_alloc_new _ _)) fun i hi => ?_, NRow.blk (l := natsI [0, 255, 65280, 65535]) (cs := #[.int .u32 0, .int .u32 255, .int .u32 65280, .int .u32 65535]) (by have h := heap_alloc_new (W5.alloc (.cells #[.int .i64 0, .int .i64 1] 3)) (.cells #[.int .u32 0, .int .u32 255, .int .u32 65280, .int .u32 65535] 26); rw [size_alloc] at h; exact h) fun i hi => ?_⟩
    · match i, hi with
      | 0, _ => rfl
      | 1, _ => rfl
    · match i, hi with
      | 0, _ => rfl
      | 1, _ => rfl
      | 2, _ => rfl
      | 3, _ => rfl
  refine (SS.out _ _ _ (HA5.out.below hbS) hn).mono ?_
  rintro e w6 ⟨rfl, hb6⟩
  have HX6 := Lib.hid (kb hb6 (kb hbS HX5.out))
  have HA6 := Lib.hid ((HA5.out.below hbS).below hb6)
  have HW6 := Lib.hid (below2 (below2 HW5.out hbS) hb6)
  clear hb6 hbS hn HX5 HA5 HW5
  go_wp2_with (refine ld_bfg HX6.out (by rfl) rfl rfl ?_)
  refine (SR.out _ _ HA6.out).mono ?_
  rintro e w7 ⟨rfl, hb7⟩
  have HW7 := Lib.hid (below2 HW6.out hb7)
  clear hb7
  go_wp2_with fail
  go_ret
  exact ⟨rfl, HW7.out⟩
theorem qg_knows (W : World) : QG W 10 #[] (.bool true) := fun _ _ => Calls.regrown_of (gknow_any _)
end Go.Proofs.Ytlgoeegpgcilbaa
