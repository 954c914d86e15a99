/-
  For every code, condition, any two numbers, every state and every record, in every world that has the listed tables as their initialisers lay them: the law LowerTests returns true and changes nothing that was there.
-/
import Derived.Test.YtbekkdhlfkongaaGreatDoorProg
import Derived.WalkKit
import Derived.ProofKit
import Derived.Lib.Hide
import Derived.Laws.Rows
import Derived.Laws.ResultCell
import Derived.Laws.Entries
import Derived.Handy
import Derived.OwnWalk
import Derived.Laws.OwnMore
import Derived.Deep.Draws
import Derived.Laws.IdiomStrings
import Derived.Lib.BufferRead
import Derived.Maps.OwnSet
import Derived.Laws.BitsAllLaws
import Derived.RowKit
import Derived.Lib.QuietBelow
import Derived.Lib.OthersKept
import Derived.BigQuiet
import Derived.IntWalk
import Derived.Deep.RegionHeld3
import Derived.BigRegion
import Derived.Laws.Tables
import Derived.Deep.DeepCutAuto
import Derived.Deep.QuietTactic
import Derived.Test.YtbekkdhlfkongaaGreatDoorRows
import Derived.OpenShut
import Derived.Carry
import Derived.Deep.DeepHandedRow
import Derived.Lib.SmallJoins
import Derived.WalkMore
import Derived.Shelf.Strings.Builder1
import Derived.Shelf.Strings.Search1
import Derived.Lib.IndexLaws
import Derived.Lib.AppendZerosOnto
import Derived.Lib.SliceRun
import Derived.Deep.RegionWith
import Derived.Deep.Cut
import Derived.Deep.Slices
import Derived.RangeFuncNested
import Derived.RangeFuncBound
import Derived.RangeFuncCalls
import Derived.RangeFuncLeaves
import Derived.Shelf.Abstract
import Derived.Shelf.RegionOpen
import Derived.OwnWalkIn
import Derived.TacticsInMore
import Derived.LoopNIn
import Derived.LoopIn
import Derived.Sort.MapsRangeIn
import Derived.Sort.KeysCollected
import Derived.Maps.AppendAt
import Derived.RangeFuncBox
import Derived.RangeFuncFrom
import Derived.RangeFuncSeq
import Derived.Sort.WalkA
import Derived.CellFam
import Derived.Sort.WalkC
import Derived.Sort.LotC
import Derived.Deep.CutBlock
import Derived.Deep.LoopGhost
import Derived.Sort.WalkC4
import Derived.Sort.WalkA6
import Derived.Laws.Closers25b
import Derived.Laws.Bits64b
import Derived.Sort.WalkB2
import Derived.Sort.WalkB3
import Derived.Sort.LotB
import Derived.Sort.LotD3
import Derived.Maps.RangeWalk
import Derived.StringKeys
import Derived.Lib.Split
import Derived.Deep.OwnRows
import Derived.Laws.Strings3
import Derived.Lib.Join
import Derived.Lib.MakeNoZero
import Derived.Lib.Builder
import Derived.Laws.IdiomCopy
import Derived.Test.YtbekkdhlfkongaaGreatDoorCards
import Derived.Test.YtbekkdhlfkongaaGreatDoorTie
import Derived.Lib.LaidTab
import Derived.Stop.LaidErr
import Derived.DeepKeys
import Derived.Laws.StructEq
import Derived.Test.YtbekkdhlfkongaaGreatDoorPk1
import Derived.Test.YtbekkdhlfkongaaGreatDoorPk2
import Derived.Test.YtbekkdhlfkongaaGreatDoorPk3
import Derived.Test.YtbekkdhlfkongaaGreatDoorPk4
import Derived.Test.YtbekkdhlfkongaaGreatDoorPk5
import Derived.Test.YtbekkdhlfkongaaGreatDoorPk6
import Derived.Test.YtbekkdhlfkongaaGreatDoorPk7
import Derived.Test.YtbekkdhlfkongaaGreatDoorPk8
import Derived.Test.YtbekkdhlfkongaaGreatDoorPk9
import Derived.Test.YtbekkdhlfkongaaGreatDoorPk10
import Derived.Test.YtbekkdhlfkongaaGreatDoorPk11
import Derived.Test.YtbekkdhlfkongaaGreatDoorPk12
namespace Go.Proofs.YtbekkdhlfkongaaGreatDoor.lowerTests
open Go.ChangeShapes Go.WideShapes Go.ChangeAt Go.RowKit

theorem lab_row {c : List X4} {q : Int} (h : isLab c q = true) : ∃ p : Nat, (c.length : Int) - q = p ∧ p < c.length := by
  have h2 := isLab_iff.1 h
  exact ⟨((c.length : Int) - q).toNat, by omega, by omega⟩
set_option maxRecDepth 100000 in
set_option maxHeartbeats 16000000 in
theorem walk (v0 : Value) (c : List X4) (x : Cd) (t f : Int) (s : St) (d : Rec) (w : World) (hF : CdAt w v0 c) (hk : ∀ y ∈ c, y.ok) (_hm : c.length ≤ 9223372036854775807) (hx : x.ok) (_t0 : -9223372036854775808 ≤ t) (_t1 : t ≤ 9223372036854775807) (_f0 : -9223372036854775808 ≤ f) (_f1 : f ≤ 9223372036854775807) (hso : s.ok) (hd : d.ok) (ht : Tab w) (hot : OTab w) :
    Calls Tryz.prog 7 #[v0, x.val, .int .i64 t, .int .i64 f, s.val, d.val] w fun e w' => e = .returned (.bool true) ∧ Below w.heap.size w w' := by
  obtain ⟨ao, cap, rfl⟩ := hF.shape
  have HF := Lib.hid hF
  have HK := Lib.hid hk
  have HXO := Lib.hid hx
  have HSo := Lib.hid hso
  have HDo := Lib.hid hd
  have HTab := Lib.hid ht
  have HOT := Lib.hid hot
  obtain ⟨W, hW, X0, X1, X2, HBx⟩ := box3 w (cdB x) (stB s) (.cells d.cells 29)
  have HX0 := Lib.hid X0
  have HS0 := Lib.hid X1
  have HD0 := Lib.hid X2
  have HB0 := Lib.hid HBx
  clear hF hk hx hso hd ht hot X0 X1 X2 HBx
  go_enter Tryz.func7, Tryz.ntmps7
  go_upto_region 1 with fail
  change Code.wp _ _ _ _ (((w.alloc (cdB x)).alloc (stB s)).alloc (.cells d.cells 29))
  rw [← hW]
  clear hW
  by_cases hbig : 500 < c.length
  · go_wp2_with fail
    refine (zknow_end HB0.out HTab.out HOT.out).mono ?_
    rintro e wb ⟨rfl, hbb⟩
    have HBB := Lib.hid hbb
    clear hbb
    go_wp2_with fail
    go_ret
    exact ⟨rfl, HBB.out⟩
  go_wp2_with fail
  refine (rsound5_any _ c _ (HF.out.1.below HB0.out) HK.out).mono ?_
  rintro e w1 ⟨rfl, hb1⟩
  have HB1 := Lib.hid (below2 HB0.out (hb1.mono (Nat.le_refl _)))
  have HX1 := Lib.hid (kb hb1 HX0.out)
  have HS1 := Lib.hid (kb hb1 HS0.out)
  have HD1 := Lib.hid (kb hb1 HD0.out)
  clear hb1 HX0 HS0 HD0 HB0
  cases hs : soundB c
  · clear hs
    go_wp2_with fail
    refine (zknow_end HB1.out HTab.out HOT.out).mono ?_
    rintro e wb ⟨rfl, hbb⟩
    have HBB := Lib.hid hbb
    clear hbb
    go_wp2_with fail
    go_ret
    exact ⟨rfl, HBB.out⟩
  have HSd := Lib.hid (soundB_iff.1 hs)
  clear hs
  have HTA := Lib.hid (fun h => ltest_arg (c := c) (x := x) (t := t) (f := f) h)
  have HTJ := Lib.hid (fun h => ltest_jump (c := c) (x := x) (t := t) (f := f) h)
  have HTO := Lib.hid (fun h ht hf => ltest_ok (c := c) (x := x) (t := t) (f := f) h HXO.out ht hf HSd.out HK.out (by omega))
  have HTE := Lib.hid (ltest_any (.slice ao c.length cap) c x t f w1 (HF.out.below HB1.out) (by omega) HXO.out (HTab.out.below HB1.out) (HOT.out.below HB1.out))
  obtain ⟨g, hg⟩ : ∃ g, g = testN c x t f := ⟨_, rfl⟩
  rw [← hg] at HTA HTJ HTO HTE
  clear hg
  have d0 : w1.cell? ⟨w.heap.size, 0, none⟩ = some (.int .i64 x.arg) := cell_in HX1.out 0
  have d1 : w1.cell? ⟨w.heap.size, 1, none⟩ = some (.int .i64 x.cmp) := cell_in HX1.out 1
  have d2 : w1.cell? ⟨w.heap.size, 2, none⟩ = some (.int .u64 (x.mask : Nat)) := cell_in HX1.out 2
  have d3 : w1.cell? ⟨w.heap.size, 3, none⟩ = some (.int .u64 (x.value : Nat)) := cell_in HX1.out 3
  go_upto_region 3 with fail
  go_wp2_with fail
  refine HTE.out.mono ?_
  rintro e w2 ⟨⟨u, hu, rfl⟩, hb2⟩
  have HU2 := Lib.hid hu
  have HB2 := Lib.hid (below2 HB1.out hb2)
  have HX2 := Lib.hid (kb hb2 HX1.out)
  have HS2 := Lib.hid (kb hb2 HS1.out)
  have HD2 := Lib.hid (kb hb2 HD1.out)
  obtain ⟨uo, uc, rfl⟩ := hu.shape
  clear hu hb2 d0 d1 d2 d3 HX1 HS1 HD1 HB1 HTE
  have d0 : w2.cell? ⟨w.heap.size, 0, none⟩ = some (.int .i64 x.arg) := cell_in HX2.out 0
  have d1 : w2.cell? ⟨w.heap.size, 1, none⟩ = some (.int .i64 x.cmp) := cell_in HX2.out 1
  have d2 : w2.cell? ⟨w.heap.size, 2, none⟩ = some (.int .u64 (x.mask : Nat)) := cell_in HX2.out 2
  have d3 : w2.cell? ⟨w.heap.size, 3, none⟩ = some (.int .u64 (x.value : Nat)) := cell_in HX2.out 3
  go_upto_region 4 with fail
  go_wp2_with fail
  refine (rright8_any x _).mono ?_
  rintro e w3 ⟨rfl, hb3⟩
  have HU3 := Lib.hid (HU2.out.below hb3)
  have HB3 := Lib.hid (below2 HB2.out hb3)
  have HX3 := Lib.hid (kb hb3 HX2.out)
  have HS3 := Lib.hid (kb hb3 HS2.out)
  have HD3 := Lib.hid (kb hb3 HD2.out)
  clear hb3 d0 d1 d2 d3 HX2 HS2 HD2 HB2 HU2
  cases hr : x.right
  · obtain rfl := HTA.out hr
    clear hr HTA HTJ HTO
    go_wp2_with fail
    refine (same_any _ _ c c _ (by omega) HU3.out.1 (HF.out.1.below HB3.out)).mono ?_
    rintro e w4 ⟨rfl, hb4⟩
    rw [decide_eq_true rfl]
    have HB4 := Lib.hid (below2 HB3.out hb4)
    clear hb4
    go_wp2_with fail
    refine (zknow_end HB4.out HTab.out HOT.out).mono ?_
    rintro e wb ⟨rfl, hbb⟩
    have HBB := Lib.hid hbb
    clear hbb
    go_wp2_with fail
    go_ret
    exact ⟨rfl, HBB.out⟩
  have HR := Lib.hid hr
  have HI1 := Lib.hid (isLab_iff (c := c) (l := t))
  have HI2 := Lib.hid (isLab_iff (c := c) (l := f))
  have HNJ := Lib.hid (fun (h : ¬ (isLab c t = true ∧ isLab c f = true)) => HTJ.out hr (by rw [Bool.eq_false_iff, ne_eq, Bool.and_eq_true]; exact h))
  clear hr HTA HTJ
  by_cases t0 : t < 1
  · obtain rfl := HNJ.out (fun h => by have := HI1.out.1 h.1; omega)
    clear HNJ HTO
    go_wp2_with fail
    refine (same_any _ _ c c _ (by omega) HU3.out.1 (HF.out.1.below HB3.out)).mono ?_
    rintro e w4 ⟨rfl, hb4⟩
    rw [decide_eq_true rfl]
    have HB4 := Lib.hid (below2 HB3.out hb4)
    clear hb4
    go_wp2_with fail
    refine (zknow_end HB4.out HTab.out HOT.out).mono ?_
    rintro e wb ⟨rfl, hbb⟩
    have HBB := Lib.hid hbb
    clear hbb
    go_wp2_with fail
    go_ret
    exact ⟨rfl, HBB.out⟩
  by_cases t1 : (c.length : Int) < t
  · obtain rfl := HNJ.out (fun h => by have := HI1.out.1 h.1; omega)
    clear HNJ HTO
    go_wp2_with fail
    refine (same_any _ _ c c _ (by omega) HU3.out.1 (HF.out.1.below HB3.out)).mono ?_
    rintro e w4 ⟨rfl, hb4⟩
    rw [decide_eq_true rfl]
    have HB4 := Lib.hid (below2 HB3.out hb4)
    clear hb4
    go_wp2_with fail
    refine (zknow_end HB4.out HTab.out HOT.out).mono ?_
    rintro e wb ⟨rfl, hbb⟩
    have HBB := Lib.hid hbb
    clear hbb
    go_wp2_with fail
    go_ret
    exact ⟨rfl, HBB.out⟩
  by_cases f0 : f < 1
  · obtain rfl := HNJ.out (fun h => by have := HI2.out.1 h.2; omega)
    clear HNJ HTO
    go_wp2_with fail
    refine (same_any _ _ c c _ (by omega) HU3.out.1 (HF.out.1.below HB3.out)).mono ?_
    rintro e w4 ⟨rfl, hb4⟩
    rw [decide_eq_true rfl]
    have HB4 := Lib.hid (below2 HB3.out hb4)
    clear hb4
    go_wp2_with fail
    refine (zknow_end HB4.out HTab.out HOT.out).mono ?_
    rintro e wb ⟨rfl, hbb⟩
    have HBB := Lib.hid hbb
    clear hbb
    go_wp2_with fail
    go_ret
    exact ⟨rfl, HBB.out⟩
  by_cases f1 : (c.length : Int) < f
  · obtain rfl := HNJ.out (fun h => by have := HI2.out.1 h.2; omega)
    clear HNJ HTO
    go_wp2_with fail
    refine (same_any _ _ c c _ (by omega) HU3.out.1 (HF.out.1.below HB3.out)).mono ?_
    rintro e w4 ⟨rfl, hb4⟩
    rw [decide_eq_true rfl]
    have HB4 := Lib.hid (below2 HB3.out hb4)
    clear hb4
    go_wp2_with fail
    refine (zknow_end HB4.out HTab.out HOT.out).mono ?_
    rintro e wb ⟨rfl, hbb⟩
    have HBB := Lib.hid hbb
    clear hbb
    go_wp2_with fail
    go_ret
    exact ⟨rfl, HBB.out⟩
  have ht1 := HI1.out.2 (by omega)
  have hf1 := HI2.out.2 (by omega)
  obtain ⟨p, hg, p1, p2, p3, p4⟩ := HTO.out HR.out ht1 hf1
  subst hg
  obtain ⟨pt, a1, a2⟩ := lab_row ht1
  obtain ⟨pf, b1, b2⟩ := lab_row hf1
  have HT1 := Lib.hid ht1
  have HF1 := Lib.hid hf1
  obtain ⟨y, hy⟩ : ∃ y, y = p ++ c := ⟨_, rfl⟩
  have yl : y.length = p.length + c.length := by rw [hy, List.length_append]
  have HYD := Lib.hid (show y.drop p.length = c by rw [hy, List.drop_left])
  simp only at HU3
  rw [← hy] at p2 p3 p4 HU3 ⊢
  have HYS := Lib.hid p2
  have HYO := Lib.hid p3
  have HYR := Lib.hid p4
  clear hy p2 p3 p4 ht1 hf1 HTO HNJ HI1 HI2
  obtain ⟨v', e', h'⟩ := HU3.out.past p.length (by omega)
  rw [HYD.out] at h'
  have H' := Lib.hid h'
  have s0 : (y.length : Int) - (c.length : Int) = (p.length : Nat) := by omega
  have s1 : ((y.length : Int) == (y.length : Int)) = true := by simp
  have s2 : ((y.length : Int) != (y.length : Int)) = false := by simp
  have s3 : (y.length : Int) ≤ (c.length : Int) + 16 := by omega
  have s4 : (c.length : Int) ≤ (y.length : Int) := by omega
  have hyl : y.length ≤ 516 := by omega
  clear yl h' HYD
  obtain ⟨n, hn⟩ : ∃ n, n = p.length := ⟨_, rfl⟩
  rw [← hn] at s0 e'
  clear hn p1
  go_upto_region 8 with fail
  go_wp2_with fail
  refine (rsound5_any _ y _ HU3.out.1 HYO.out).mono ?_
  rintro e w4 ⟨rfl, hb4⟩
  rw [soundB_iff.2 HYS.out]
  have HB4 := Lib.hid (below2 HB3.out (hb4.mono (Nat.le_refl _)))
  have HX4 := Lib.hid (kb hb4 HX3.out)
  have HS4 := Lib.hid (kb hb4 HS3.out)
  have HD4 := Lib.hid (kb hb4 HD3.out)
  have HU4 := Lib.hid (HU3.out.below hb4)
  have H4 := Lib.hid (H'.out.below hb4)
  clear hb4 HB3 HX3 HS3 HD3 HU3 H'
  go_wp2_with fail
  refine (same_any _ _ c c _ (by omega) H4.out (HF.out.1.below HB4.out)).mono ?_
  rintro e w5 ⟨rfl, hb5⟩
  rw [decide_eq_true rfl]
  have HB5 := Lib.hid (below2 HB4.out hb5)
  have HX5 := Lib.hid (kb hb5 HX4.out)
  have HS5 := Lib.hid (kb hb5 HS4.out)
  have HD5 := Lib.hid (kb hb5 HD4.out)
  have HU5 := Lib.hid (HU4.out.below hb5)
  clear hb5 HB4 HX4 HS4 HD4 HU4 H4 e'
  go_upto_region 11 with fail
  clear s0 s1 s2 s3 s4
  have d0 : w5.cell? ⟨w.heap.size, 0, none⟩ = some (.int .i64 x.arg) := cell_in HX5.out 0
  have d1 : w5.cell? ⟨w.heap.size, 1, none⟩ = some (.int .i64 x.cmp) := cell_in HX5.out 1
  have d2 : w5.cell? ⟨w.heap.size, 2, none⟩ = some (.int .u64 (x.mask : Nat)) := cell_in HX5.out 2
  have d3 : w5.cell? ⟨w.heap.size, 3, none⟩ = some (.int .u64 (x.value : Nat)) := cell_in HX5.out 3
  obtain ⟨x0, x1, x2, x3, x4, x5, x6, x7, x8⟩ := rec_cells HD5.out
  go_wp2_with fail
  refine (rholds8_any x d _ HXO.out HDo.out).mono ?_
  rintro e w6 ⟨rfl, hb6⟩
  have HB6 := Lib.hid (below2 HB5.out hb6)
  have HS6 := Lib.hid (kb hb6 HS5.out)
  have HD6 := Lib.hid (kb hb6 HD5.out)
  have HU6 := Lib.hid (HU5.out.below hb6)
  clear hb6 HB5 HX5 HS5 HD5 HU5 d0 d1 d2 d3 x0 x1 x2 x3 x4 x5 x6 x7 x8
  cases hh : x.holds d
  · have HRUN : Hid (∃ a : Nat, labR y d s (y.length : Nat) = labR c d ⟨a, s.x, s.m⟩ f) := Lib.hid (by
      obtain ⟨a, h⟩ := HYR.out d s HDo.out HSo.out
      rw [hh] at h
      exact ⟨a, h⟩)
    clear hh
    obtain ⟨b, off, e, _, c0, c1, c2, c3⟩ := (HF.out.1.below HB6.out).row pf b2
    subst e
    obtain ⟨z, hz⟩ : ∃ z, z = c[pf] := ⟨_, rfl⟩
    have hzo : z.ok := by rw [hz]; exact HK.out _ (List.getElem_mem b2)
    have HZ : Hid (∀ k : Nat, z.op = 6 → z.k = k → ∀ s' : St, labR c d s' f = k) := Lib.hid (fun k h6 hk s' => by
      have e1 : ((c.length : Int) - f).toNat = pf := by omega
      have e2 : c.getD ((c.length : Int) - f).toNat zeroX = z := by rw [e1, getD_at b2, hz]
      rw [labR_end d s' HF1.out (by rw [e2]; exact h6), e2, hk]
      rfl)
    rw [← hz] at c0 c1 c2 c3
    have l0 : (pf : Int) < (c.length : Int) := by omega
    have l1 : (0 : Int) ≤ (pf : Int) := by omega
    have l2 : (pf : Int).toNat = pf := by omega
    have hbW : b < w6.heap.size := by
      apply Nat.lt_of_not_le
      intro hle
      have e : w6.heap[b]? = none := by simp; exact hle
      simp [World.cell?, e] at c0
    clear hz
    by_cases h6 : z.op = 6
    · have h62 : (z.op != 6) = false := by simpa using h6
      obtain ⟨k, hkz⟩ : ∃ k : Nat, z.k = k := ⟨z.k.toNat, by have := hzo.1; omega⟩
      have HVAL : Hid ((fromS y d y.length s 0).1 = k) := Lib.hid (by
        obtain ⟨a, h⟩ := HRUN.out
        rw [HZ.out k h6 hkz] at h
        unfold labR at h
        rw [show ((y.length : Int) - (y.length : Nat)).toNat = 0 by omega] at h
        exact h)
      rw [hkz] at c3
      have C3 := Lib.hid c3
      clear h6 HZ HRUN hkz
      go_upto_region 15 with fail
      clear c0 c1 c2 c3
      obtain ⟨x0, x1, x2, x3, x4, x5, x6, x7, x8⟩ := rec_cells HD6.out
      go_wp2_with (refine ld_st HS6.out rfl rfl rfl ?_)
      refine (rfrom6_any _ y d HDo.out HYO.out HYS.out y.length s 0 _ HU6.out.1 HSo.out HYS.out.1 (by omega)).mono ?_
      rintro e w7 ⟨rfl, hb7⟩
      rw [HVAL.out]
      have HB7 := Lib.hid (below2 HB6.out hb7)
      have c3 := (hb7.cell (p := ⟨b, _, none⟩) hbW).trans C3.out
      clear hb7 x0 x1 x2 x3 x4 x5 x6 x7 x8
      have hkk : ((k : Int) == (k : Int)) = true := by simp
      go_wp2_with fail
      refine (zknow_end HB7.out HTab.out HOT.out).mono ?_
      rintro e wb ⟨rfl, hbb⟩
      have HBB := Lib.hid hbb
      clear hbb
      go_wp2_with fail
      go_ret
      exact ⟨rfl, HBB.out⟩
    · have h62 : (z.op != 6) = true := by simpa using h6
      clear h6 HZ HRUN
      go_wp2_with fail
      refine (zknow_end HB6.out HTab.out HOT.out).mono ?_
      rintro e wb ⟨rfl, hbb⟩
      have HBB := Lib.hid hbb
      clear hbb
      go_wp2_with fail
      go_ret
      exact ⟨rfl, HBB.out⟩
  · have HRUN : Hid (∃ a : Nat, labR y d s (y.length : Nat) = labR c d ⟨a, s.x, s.m⟩ t) := Lib.hid (by
      obtain ⟨a, h⟩ := HYR.out d s HDo.out HSo.out
      rw [hh] at h
      exact ⟨a, h⟩)
    clear hh
    obtain ⟨b, off, e, _, c0, c1, c2, c3⟩ := (HF.out.1.below HB6.out).row pt a2
    subst e
    obtain ⟨z, hz⟩ : ∃ z, z = c[pt] := ⟨_, rfl⟩
    have hzo : z.ok := by rw [hz]; exact HK.out _ (List.getElem_mem a2)
    have HZ : Hid (∀ k : Nat, z.op = 6 → z.k = k → ∀ s' : St, labR c d s' t = k) := Lib.hid (fun k h6 hk s' => by
      have e1 : ((c.length : Int) - t).toNat = pt := by omega
      have e2 : c.getD ((c.length : Int) - t).toNat zeroX = z := by rw [e1, getD_at a2, hz]
      rw [labR_end d s' HT1.out (by rw [e2]; exact h6), e2, hk]
      rfl)
    rw [← hz] at c0 c1 c2 c3
    have l0 : (pt : Int) < (c.length : Int) := by omega
    have l1 : (0 : Int) ≤ (pt : Int) := by omega
    have l2 : (pt : Int).toNat = pt := by omega
    have hbW : b < w6.heap.size := by
      apply Nat.lt_of_not_le
      intro hle
      have e : w6.heap[b]? = none := by simp; exact hle
      simp [World.cell?, e] at c0
    clear hz
    by_cases h6 : z.op = 6
    · have h62 : (z.op != 6) = false := by simpa using h6
      obtain ⟨k, hkz⟩ : ∃ k : Nat, z.k = k := ⟨z.k.toNat, by have := hzo.1; omega⟩
      have HVAL : Hid ((fromS y d y.length s 0).1 = k) := Lib.hid (by
        obtain ⟨a, h⟩ := HRUN.out
        rw [HZ.out k h6 hkz] at h
        unfold labR at h
        rw [show ((y.length : Int) - (y.length : Nat)).toNat = 0 by omega] at h
        exact h)
      rw [hkz] at c3
      have C3 := Lib.hid c3
      clear h6 HZ HRUN hkz
      go_upto_region 15 with fail
      clear c0 c1 c2 c3
      obtain ⟨x0, x1, x2, x3, x4, x5, x6, x7, x8⟩ := rec_cells HD6.out
      go_wp2_with (refine ld_st HS6.out rfl rfl rfl ?_)
      refine (rfrom6_any _ y d HDo.out HYO.out HYS.out y.length s 0 _ HU6.out.1 HSo.out HYS.out.1 (by omega)).mono ?_
      rintro e w7 ⟨rfl, hb7⟩
      rw [HVAL.out]
      have HB7 := Lib.hid (below2 HB6.out hb7)
      have c3 := (hb7.cell (p := ⟨b, _, none⟩) hbW).trans C3.out
      clear hb7 x0 x1 x2 x3 x4 x5 x6 x7 x8
      have hkk : ((k : Int) == (k : Int)) = true := by simp
      go_wp2_with fail
      refine (zknow_end HB7.out HTab.out HOT.out).mono ?_
      rintro e wb ⟨rfl, hbb⟩
      have HBB := Lib.hid hbb
      clear hbb
      go_wp2_with fail
      go_ret
      exact ⟨rfl, HBB.out⟩
    · have h62 : (z.op != 6) = true := by simpa using h6
      clear h6 HZ HRUN
      go_wp2_with fail
      refine (zknow_end HB6.out HTab.out HOT.out).mono ?_
      rintro e wb ⟨rfl, hbb⟩
      have HBB := Lib.hid hbb
      clear hbb
      go_wp2_with fail
      go_ret
      exact ⟨rfl, HBB.out⟩

set_option maxRecDepth 100000 in
/-- The row's contract, for every argument and every world. -/
theorem contract (H : Type) (enc : TypeId × Value → H) (W : World) (base : Nat) (args : Array Value) (ds gs : List (DataW H)) (before : List MemPlace)
    (hval : ∀ (j : Nat) t v, Tryz.f7.params[j]? = some t → args[j]? = some v → Value.okWide Tryz.prog W .any base t v)
    (hW : DataW.Whole enc Tryz.prog Tryz.f7.params.toList Rows.lowerTestsSpec.vars false W args.toList ds gs before) (hL : laidMetH Tryz.prog Rows.lowerTestsRow.laid W) :
    Calls Tryz.prog 7 args W fun e W' => ∃ v, e = .returned v ∧ Rows.lowerTestsSpec.post enc Tryz.prog Tryz.f7 false true false false W args v W' := by
  have hW' := hW
  obtain ⟨p, q, hA0, hV, rfl, hfz, hnd⟩ := hW
  have hA : DataW.TrodAll enc Tryz.prog W 0 (fun _ => true) true Tryz.f7.params.toList args.toList ds p := hA0
  rw [Tryz.params7] at hA hval
  obtain ⟨v0, vs0, d0, ds0, p0, q0, hargs0, rfl, rfl, t0, r0⟩ := trodAll_cons hA
  obtain ⟨v1, vs1, d1, ds1, p1, q1, hargs1, rfl, rfl, t1, r1⟩ := trodAll_cons r0
  obtain ⟨v2, vs2, d2, ds2, p2, q2, hargs2, rfl, rfl, t2, r2⟩ := trodAll_cons r1
  obtain ⟨v3, vs3, d3, ds3, p3, q3, hargs3, rfl, rfl, t3, r3⟩ := trodAll_cons r2
  obtain ⟨v4, vs4, d4, ds4, p4, q4, hargs4, rfl, rfl, t4, r4⟩ := trodAll_cons r3
  obtain ⟨v5, vs5, d5, ds5, p5, q5, hargs5, rfl, rfl, t5, r5⟩ := trodAll_cons r4
  obtain ⟨rfl, rfl, rfl⟩ := trodAll_nil r5
  obtain rfl : args = #[v0, v1, v2, v3, v4, v5] := by cases args; simp_all
  obtain ⟨c, hF0, hk0, hm0⟩ := open_code (hval 0 32 v0 rfl rfl) t0
  obtain ⟨x, rfl, hd1⟩ := open_cond (hval 1 55 v1 rfl rfl) t1
  obtain ⟨t, rfl, rfl, rfl, wf2⟩ := open_int Tryz.underlying3 (hval 2 3 v2 rfl rfl) t2
  have bd2 := bounds_i64 wf2
  obtain ⟨f, rfl, rfl, rfl, wf3⟩ := open_int Tryz.underlying3 (hval 3 3 v3 rfl rfl) t3
  have bd3 := bounds_i64 wf3
  obtain ⟨s, rfl, hd4⟩ := open_state (hval 4 58 v4 rfl rfl) t4
  obtain ⟨d, rfl, hd5⟩ := open_data (hval 5 29 v5 rfl rfl) t5
  refine (walk v0 c x t f s d W hF0 hk0 hm0 hd1 bd2.1 bd2.2 bd3.1 bd3.2 hd4 hd5 (tab_of hL) (otab_of hL)).mono fun e W' ⟨he, hg⟩ => ?_
  subst he
  exact ⟨_, rfl, law_post (tb := 4) laidOut (fun t ht => by rw [Tryz.params7] at ht; revert t; exact of_decide_eq_true (by kernel_rfl)) (by kernel_rfl) Tryz.underlying4 rfl
    (fun ds h => by rw [Tryz.params7] at h; match ds, h with | [_, _, _, _, _, _], _ => rfl) hW' hg⟩

theorem laid_met (os : Os) : laidMet Tryz.prog Rows.lowerTestsRow.laid ((laidWorld os).forCall (fun _ _ => 0) ⟨#[], #[.slice none 0 0, .agg #[.int .i64 0, .int .i64 0, .int .u64 0, .int .u64 0], .int .i64 0, .int .i64 0, .agg #[.int .u32 0, .int .u32 0, .int .u32 0, .int .u32 0, .int .u32 0, .int .u32 0, .int .u32 0, .int .u32 0, .int .u32 0, .int .u32 0, .int .u32 0, .int .u32 0, .int .u32 0, .int .u32 0, .int .u32 0, .int .u32 0, .int .u32 0, .int .u32 0], .agg #[.int .u32 0, .int .u32 0, .int .u64 0, .int .u64 0, .int .u64 0, .int .u64 0, .int .u64 0, .int .u64 0, .int .u64 0]], []⟩).memory :=
  laidMet_of_run' 8 (by kernel_rfl) (by kernel_rfl)
theorem reads (os : Os) {H : Type} (enc : TypeId × Value → H) : ∃ places, DataW.whole enc Tryz.prog ((laidWorld os).forCall (fun _ _ => 0) ⟨#[], #[.slice none 0 0, .agg #[.int .i64 0, .int .i64 0, .int .u64 0, .int .u64 0], .int .i64 0, .int .i64 0, .agg #[.int .u32 0, .int .u32 0, .int .u32 0, .int .u32 0, .int .u32 0, .int .u32 0, .int .u32 0, .int .u32 0, .int .u32 0, .int .u32 0, .int .u32 0, .int .u32 0, .int .u32 0, .int .u32 0, .int .u32 0, .int .u32 0, .int .u32 0, .int .u32 0], .agg #[.int .u32 0, .int .u32 0, .int .u64 0, .int .u64 0, .int .u64 0, .int .u64 0, .int .u64 0, .int .u64 0, .int .u64 0]], []⟩).memory Tryz.f7.params.toList Rows.lowerTestsSpec.vars false #[Value.slice none 0 0, Value.agg #[.int .i64 0, .int .i64 0, .int .u64 0, .int .u64 0], Value.int .i64 0, Value.int .i64 0, Value.agg #[.int .u32 0, .int .u32 0, .int .u32 0, .int .u32 0, .int .u32 0, .int .u32 0, .int .u32 0, .int .u32 0, .int .u32 0, .int .u32 0, .int .u32 0, .int .u32 0, .int .u32 0, .int .u32 0, .int .u32 0, .int .u32 0, .int .u32 0, .int .u32 0], Value.agg #[.int .u32 0, .int .u32 0, .int .u64 0, .int .u64 0, .int .u64 0, .int .u64 0, .int .u64 0, .int .u64 0, .int .u64 0]].toList 8 = some ([.nil, .agg [.lit (.int .i64 0), .lit (.int .i64 0), .lit (.int .u64 0), .lit (.int .u64 0)], .lit (.int .i64 0), .lit (.int .i64 0), .agg [.lit (.int .u32 0), .lit (.int .u32 0), .agg [.lit (.int .u32 0), .lit (.int .u32 0), .lit (.int .u32 0), .lit (.int .u32 0), .lit (.int .u32 0), .lit (.int .u32 0), .lit (.int .u32 0), .lit (.int .u32 0), .lit (.int .u32 0), .lit (.int .u32 0), .lit (.int .u32 0), .lit (.int .u32 0), .lit (.int .u32 0), .lit (.int .u32 0), .lit (.int .u32 0), .lit (.int .u32 0)]], .agg [.lit (.int .u32 0), .lit (.int .u32 0), .lit (.int .u64 0), .agg [.lit (.int .u64 0), .lit (.int .u64 0), .lit (.int .u64 0), .lit (.int .u64 0), .lit (.int .u64 0), .lit (.int .u64 0)]]], [], places) :=
  ⟨[], by kernel_rfl⟩

set_option maxRecDepth 100000 in
theorem lifted (os : Os) (started : os.Started) (H : Type) (enc : TypeId × Value → H) (F : Stop.Interp) :
    ReturnsInHanded {} Tryz.checked os 7 .any ((OpenSpec.ofChange Rows.lowerTestsSpec).preRow enc Tryz.prog Tryz.f7 Rows.lowerTestsRow.domain false Rows.lowerTestsRow.laid) (((OpenSpec.ofChange Rows.lowerTestsSpec).at F).post enc Tryz.prog Tryz.f7 false true false false) := by
  obtain ⟨places, hx⟩ := reads os enc
  refine returnsInHanded_of_row (C := Tryz.checked) (s := OpenSpec.ofChange Rows.lowerTestsSpec) own started (by kernel_rfl) Tryz.func7
    (witness_row_at (enc := enc) (C := Tryz.checked) false (laidWorld os) #[.slice none 0 0, .agg #[.int .i64 0, .int .i64 0, .int .u64 0, .int .u64 0], .int .i64 0, .int .i64 0, .agg #[.int .u32 0, .int .u32 0, .int .u32 0, .int .u32 0, .int .u32 0, .int .u32 0, .int .u32 0, .int .u32 0, .int .u32 0, .int .u32 0, .int .u32 0, .int .u32 0, .int .u32 0, .int .u32 0, .int .u32 0, .int .u32 0, .int .u32 0, .int .u32 0], .agg #[.int .u32 0, .int .u32 0, .int .u64 0, .int .u64 0, .int .u64 0, .int .u64 0, .int .u64 0, .int .u64 0, .int .u64 0]] rfl (by kernel_rfl) (by kernel_rfl) (by kernel_rfl)
      (OpenSpec.preRow_of_cond 8 hx (by kernel_rfl) (fun k hk => by cases hk) (by kernel_rfl) (laid_met os))) ?_
  intro W base args ds gs before hval hW _ _ _ hL _ _
  exact contract H enc W base args ds gs before hval hW hL

theorem said : Rows.LowerTestsSaid :=
  OpenClaim.holds_of_cond 7 Tryz.f7 rfl rfl rfl rfl rfl rfl rfl ⟨rfl, rfl, rfl, rfl, rfl⟩ rfl rfl rfl rfl rfl (by kernel_rfl) Tryz.func7 (by kernel_rfl)
    (of_decide_eq_true (by kernel_rfl)) (by unfold Func.isWrapper; first | (rw [if_pos (by decide +kernel)]; kernel_rfl) | (rw [if_neg (by decide +kernel)]; exact ⟨rfl, rfl⟩))
    (fun os started H enc _ F => by rw [OpenClaim.pre_eq_preRow]; exact lifted os started H enc F)

/-- No parameter wants a stand-in; the program's own looks are off. -/
theorem plain (f : FuncId) (fn : Func) (hf : Tryz.pinned.checked.prog.funcNamed "hurdle/hurdlelaw13.LowerTests" = some f) (hfn : Tryz.pinned.checked.prog.funcs[f]? = some fn) :
    false = Tryz.pinned.checked.prog.looks [] ∧ ∀ (j : Nat) t, fn.params[j]? = some t → Tryz.pinned.checked.prog.wantsStandIn t = false := by
  obtain rfl : f = 7 := Option.some.inj ((show Tryz.prog.funcNamed "hurdle/hurdlelaw13.LowerTests" = some 7 by kernel_rfl).symm.trans hf) |>.symm
  obtain rfl : fn = Tryz.f7 := (Option.some.inj (Tryz.func7.symm.trans hfn)).symm
  refine ⟨by kernel_rfl, fun j t ht => ?_⟩
  have hm := Array.mem_of_getElem? ht
  rw [Tryz.params7] at hm
  have all : ∀ t ∈ (#[32, 55, 3, 3, 58, 29] : Array TypeId).toList, Tryz.prog.wantsStandIn t = false := of_decide_eq_true (by kernel_rfl)
  exact all t (Array.mem_toList_iff.2 hm)

/-- The tied card. -/
theorem card : Rows.LowerTestsCardSaid :=
  Claim7.holds_tied_plain_at .later [] _ _ _ _ said (fun _ h => by cases h) (by kernel_rfl) (fun _ h => by cases h) lowerTests_row_tie rfl ⟨rfl, rfl⟩ (by kernel_rfl) rfl plain (by kernel_rfl)
end Go.Proofs.YtbekkdhlfkongaaGreatDoor.lowerTests
