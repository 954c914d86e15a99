/-
  For every policy and every record, in every world that has the listed tables as their initialisers lay them: the law LowerEdges returns true and changes nothing that was there.
-/
import Derived.BigRegion
import Derived.Deep.RegionHeld3
import Derived.Test.YtbekkdhlfkongaaGreatDoorProg
import Derived.WalkKit
import Derived.ProofKit
import Derived.Lib.Hide
import Derived.Laws.Rows
import Derived.Laws.ResultCell
import Derived.Laws.Entries
import Derived.Handy
import Derived.OwnWalk
import Derived.Laws.OwnMore
import Derived.Deep.Draws
import Derived.Laws.IdiomStrings
import Derived.Lib.BufferRead
import Derived.Maps.OwnSet
import Derived.Laws.BitsAllLaws
import Derived.RowKit
import Derived.Lib.QuietBelow
import Derived.Lib.OthersKept
import Derived.BigQuiet
import Derived.IntWalk
import Derived.Laws.Tables
import Derived.Deep.DeepCutAuto
import Derived.Deep.QuietTactic
import Derived.Test.YtbekkdhlfkongaaGreatDoorRows
import Derived.OpenShut
import Derived.Carry
import Derived.Deep.DeepHandedRow
import Derived.Lib.SmallJoins
import Derived.WalkMore
import Derived.Shelf.Strings.Builder1
import Derived.Shelf.Strings.Search1
import Derived.Lib.IndexLaws
import Derived.Lib.AppendZerosOnto
import Derived.Lib.SliceRun
import Derived.Deep.RegionWith
import Derived.Deep.Cut
import Derived.Deep.Slices
import Derived.RangeFuncNested
import Derived.RangeFuncBound
import Derived.RangeFuncCalls
import Derived.RangeFuncLeaves
import Derived.Shelf.Abstract
import Derived.Shelf.RegionOpen
import Derived.OwnWalkIn
import Derived.TacticsInMore
import Derived.LoopNIn
import Derived.LoopIn
import Derived.Sort.MapsRangeIn
import Derived.Sort.KeysCollected
import Derived.Maps.AppendAt
import Derived.RangeFuncBox
import Derived.RangeFuncFrom
import Derived.RangeFuncSeq
import Derived.Sort.WalkA
import Derived.CellFam
import Derived.Sort.WalkC
import Derived.Sort.LotC
import Derived.Deep.CutBlock
import Derived.Deep.LoopGhost
import Derived.Sort.WalkC4
import Derived.Sort.WalkA6
import Derived.Laws.Closers25b
import Derived.Laws.Bits64b
import Derived.Sort.WalkB2
import Derived.Sort.WalkB3
import Derived.Sort.LotB
import Derived.Sort.LotD3
import Derived.Maps.RangeWalk
import Derived.StringKeys
import Derived.Lib.Split
import Derived.Deep.OwnRows
import Derived.Laws.Strings3
import Derived.Lib.Join
import Derived.Lib.MakeNoZero
import Derived.Lib.Builder
import Derived.Laws.IdiomCopy
import Derived.Test.YtbekkdhlfkongaaGreatDoorCards
import Derived.Test.YtbekkdhlfkongaaGreatDoorTie
import Derived.Lib.LaidTab
import Derived.Stop.LaidErr
import Derived.Laws.RangeAny
import Derived.Deep.AppendLies
import Derived.Deep.RegionLaw
import Derived.Test.YtbekkdhlfkongaaGreatDoorPk1
import Derived.Test.YtbekkdhlfkongaaGreatDoorPk2
import Derived.Test.YtbekkdhlfkongaaGreatDoorPk3
import Derived.Test.YtbekkdhlfkongaaGreatDoorPk4
import Derived.Test.YtbekkdhlfkongaaGreatDoorPk5
import Derived.Test.YtbekkdhlfkongaaGreatDoorPk6
import Derived.Test.YtbekkdhlfkongaaGreatDoorPk7
import Derived.Test.YtbekkdhlfkongaaGreatDoorPk8
import Derived.Test.YtbekkdhlfkongaaGreatDoorPk9
import Derived.Test.YtbekkdhlfkongaaGreatDoorPk10
import Derived.Test.YtbekkdhlfkongaaGreatDoorPk11
import Derived.Test.YtbekkdhlfkongaaGreatDoorPk12
namespace Go.Proofs.YtbekkdhlfkongaaGreatDoor.lowerEdges
open Go.ChangeShapes Go.WideShapes Go.ChangeAt Go.RowKit

set_option maxRecDepth 100000 in
set_option maxHeartbeats 16000000 in
theorem walk (rv : Value) (q : Po) (d : Rec) (w : World) (hL : LAt w rv q.rules) (hk : q.ok) (hl : q.rules.length ≤ 9223372036854775807) (hm : ∀ x ∈ q.rules, x.conds.length ≤ 9223372036854775807) (hd : d.ok) (ht : Tab w) (hot : OTab w) :
    Calls Tryz.prog 4 #[poV rv q.dflt, d.val] w fun e w' => e = .returned (.bool true) ∧ Below w.heap.size w w' := by
  have HTab := Lib.hid ht
  have HOT := Lib.hid hot
  obtain ⟨ao, cap, rfl, hrows⟩ := hL.rows
  have HROW := Lib.hid hrows
  have HL := Lib.hid hL
  have HK := Lib.hid hk
  have HM := Lib.hid hm
  have HDo := Lib.hid hd
  obtain ⟨n, hn⟩ : ∃ n, n = q.rules.length := ⟨_, rfl⟩
  rw [← hn] at HL ⊢
  have HN := Lib.hid hn
  have HCG : Hid (∀ V, Below w.heap.size w V → Calls Tryz.prog 8 #[poV (.slice ao n cap) q.dflt] V fun e w' => e = .returned (.bool (greatP q)) ∧ Below V.heap.size V w') := Lib.hid (fun V hV => great_any _ q V (HL.out.below hV) hl HM.out)
  have HCR : Hid (∀ V, Below w.heap.size w V → Calls Tryz.prog 11 #[poV (.slice ao n cap) q.dflt] V fun e w' => e = .returned (.bool q.right) ∧ Below V.heap.size V w') := Lib.hid (fun V hV => rright10_any _ q V (HL.out.below hV) HK.out hl HM.out)
  have HLO : Hid (greatP q = false → ∀ V, Below w.heap.size w V → Calls Tryz.prog 10 #[poV (.slice ao n cap) q.dflt] V fun e w' => (∃ v, FAt w' v (if q.right then lowerN q else []) ∧ e = .returned (.tuple #[v, .int .i64 (if q.right then 0 else 1)])) ∧ Below V.heap.size V w') := Lib.hid (fun hg V hV => lower_any _ q V (HL.out.below hV) HK.out (great_no hg).1 (great_no hg).2 (HTab.out.below hV) (HOT.out.below hV))
  have HJD : Hid (∀ V (r : Rec), r.ok → Below w.heap.size w V → Calls Tryz.prog 13 #[poV (.slice ao n cap) q.dflt, r.val] V fun e w' => e = .returned (.int .u32 (judgeR q.rules q.dflt r : Nat)) ∧ Below V.heap.size V w') := Lib.hid (fun V r hr hV => rjudge_any _ q r V (HL.out.below hV) HK.out hl HM.out hr)
  obtain ⟨W, hW, X0, X1, HBx⟩ := box2 w (poB (.slice ao n cap) q.dflt) (.cells d.cells 29)
  have HP0 := Lib.hid X0
  have HD0 := Lib.hid X1
  have HB0 := Lib.hid HBx
  clear X0 X1 HBx hL hk hm hd ht hot hl hrows hn
  go_enter Tryz.func4, Tryz.ntmps4
  go_upto_region 1 with fail
  change Code.wp _ _ _ _ ((w.alloc (poB (.slice ao n cap) q.dflt)).alloc (.cells d.cells 29))
  rw [← hW]
  clear hW
  obtain ⟨c0, c1⟩ := pbox HP0.out
  go_wp2_with fail
  refine (HCG.out _ HB0.out).mono ?_
  rintro e w1 ⟨rfl, hb1⟩
  have HB1 := Lib.hid (below2 HB0.out hb1)
  have HP1 := Lib.hid (kb hb1 HP0.out)
  have HD1 := Lib.hid (kb hb1 HD0.out)
  clear hb1 c0 c1 HP0 HD0 HB0
  cases hgr : greatP q
  rotate_left
  · clear hgr
    go_wp2_with fail
    refine (zknow_end HB1.out HTab.out HOT.out).mono ?_
    rintro e wb ⟨rfl, hbb⟩
    have HBB := Lib.hid hbb
    clear hbb
    go_wp2_with fail
    go_ret
    exact ⟨rfl, HBB.out⟩
  have HGR := Lib.hid hgr
  clear hgr
  obtain ⟨c0, c1⟩ := pbox HP1.out
  go_wp2_with fail
  refine (HCR.out _ HB1.out).mono ?_
  rintro e w2 ⟨rfl, hb2⟩
  have HB2 := Lib.hid (below2 HB1.out hb2)
  have HP2 := Lib.hid (kb hb2 HP1.out)
  have HD2 := Lib.hid (kb hb2 HD1.out)
  clear hb2 c0 c1 HP1 HD1 HB1
  cases hr : q.right
  · clear hr
    go_wp2_with fail
    refine (zknow_end HB2.out HTab.out HOT.out).mono ?_
    rintro e wb ⟨rfl, hbb⟩
    have HBB := Lib.hid hbb
    clear hbb
    go_wp2_with fail
    go_ret
    exact ⟨rfl, HBB.out⟩
  obtain ⟨g1, g2, _, g4⟩ := lower_ok HK.out hr
  have HLO2 := Lib.hid (HLO.out HGR.out)
  rw [if_pos hr, if_pos hr] at HLO2
  obtain ⟨f, hf⟩ : ∃ f, f = lowerN q := ⟨_, rfl⟩
  rw [← hf] at g1 g2 g4 HLO2
  have HS := Lib.hid g1
  have HO := Lib.hid g2
  have HRJ := Lib.hid g4
  have hn100 : n ≤ 100 := by rw [HN.out]; exact (great_no HGR.out).1
  have H20 := Lib.hid (great_no HGR.out).2
  clear hf g1 g2 g4 hr HLO HGR HCR HCG
  obtain ⟨c0, c1⟩ := pbox HP2.out
  go_wp2_with fail
  refine (HLO2.out _ HB2.out).mono ?_
  rintro e w3 ⟨⟨v, hv, rfl⟩, hb3⟩
  have HV3 := Lib.hid hv
  have HB3 := Lib.hid (below2 HB2.out hb3)
  have HP3 := Lib.hid (kb hb3 HP2.out)
  have HD3 := Lib.hid (kb hb3 HD2.out)
  obtain ⟨vo, vc, rfl⟩ := hv.shape
  clear hv hb3 c0 c1 HP2 HD2 HB2 HLO2
  go_wp2_with fail
  refine (rsound5_any _ f _ HV3.out HO.out).mono ?_
  rintro e w4 ⟨rfl, hb4⟩
  rw [soundB_iff.2 HS.out]
  have HB4 := Lib.hid (below2 HB3.out (hb4.mono (Nat.le_refl _)))
  have HP4 := Lib.hid (kb hb4 HP3.out)
  have HD4 := Lib.hid (kb hb4 HD3.out)
  have HV4 := Lib.hid (HV3.out.below hb4)
  clear hb4 HP3 HD3 HB3 HV3
  obtain ⟨G, hG⟩ : ∃ G, G = w.heap.size := ⟨_, rfl⟩
  have HGG := Lib.hid hG
  have hG2 : G + 1 < w4.heap.size := by rw [hG]; exact lt_of_block HD4.out
  have hGw : w.heap.size ≤ w4.heap.size := HB4.out.size
  rw [← hG] at HP4 HD4 ⊢
  clear hG
  have RG : ∀ wr, Below w4.heap.size w4 wr → wr.heap[G]? = some (poB (.slice ao n cap) q.dflt) ∧ wr.heap[G + 1]? = some (.cells d.cells 29) ∧ Below w.heap.size w wr ∧ FAt wr (.slice vo f.length vc) f := fun wr h => ⟨(h.block _ (by omega)).trans HP4.out, (h.block _ hG2).trans HD4.out, below2 HB4.out h, HV4.out.below h⟩
  have HRG := Lib.hid RG
  clear RG
  go_wp2_with fail
  go_loopw [7] (fun i wr => ∃ k : Nat, k ≤ n ∧ i = .int .i64 k ∧ Below w4.heap.size w4 wr) (fun i _ => n - (Lib.intOf i).toNat)
  case atStart => exact ⟨0, Nat.zero_le _, rfl, Below.refl _ _⟩
  case round =>
    obtain ⟨k, hk, rfl, hb⟩ := hrel
    obtain ⟨bp, bd, bw, bf⟩ := HRG.out wr hb
    have HBr := Lib.hid hb
    have HPr := Lib.hid bp
    have HDr := Lib.hid bd
    have HBw := Lib.hid bw
    clear hb bp bd bw bf HP4 HD4 HV4 hGw
    obtain ⟨c0, c1⟩ := pbox HPr.out
    by_cases hlt : k < n
    · have hlt2 : k < q.rules.length := by rw [← HN.out]; exact hlt
      obtain ⟨b, off, cv, rfl, hbw, hcv, e0, e1, e2, e3⟩ := HROW.out k hlt2
      obtain ⟨x, hx⟩ : ∃ x, x = q.rules[k] := ⟨_, rfl⟩
      rw [← hx] at hcv e0 e1 e3
      have hxl : x.conds.length ≤ 20 := by rw [hx]; exact H20.out _ (List.getElem_mem hlt2)
      have hxk : x.ok := by rw [hx]; exact HK.out.2 _ (List.getElem_mem hlt2)
      have HCV := Lib.hid (hcv.below HBw.out)
      have HXK := Lib.hid hxk
      obtain ⟨co, ccap, rfl⟩ := hcv.shape
      replace e0 := (HBw.out.cell (p := ⟨b, _, none⟩) hbw).trans e0
      replace e1 := (HBw.out.cell (p := ⟨b, _, none⟩) hbw).trans e1
      replace e2 := (HBw.out.cell (p := ⟨b, _, none⟩) hbw).trans e2
      replace e3 := (HBw.out.cell (p := ⟨b, _, none⟩) hbw).trans e3
      have l0 : (k : Int) < (n : Int) := by omega
      have l1 : (0 : Int) ≤ (k : Int) := by omega
      have l2 : (k : Int).toNat = k := by omega
      have HED : Hid (∀ V, Below wr.heap.size wr V → Calls Tryz.prog 15 #[x.val (.slice co x.conds.length ccap), d.val] V fun e w' => EdEnd w' e ∧ Below V.heap.size V w') := Lib.hid (fun V hV => redges_any _ x d V (HCV.out.below hV) HXK.out hxl HDo.out)
      obtain ⟨x0, x1, x2, x3, x4, x5, x6, x7, x8⟩ := rec_cells HDr.out
      clear hx hcv hxk
      have hgG : G < wr.heap.size := lt_of_block HPr.out
      have hgD : G + 1 < wr.heap.size := lt_of_block HDr.out
      have hgb : b < wr.heap.size := Nat.lt_of_lt_of_le hbw HBw.out.size
      clear c1
      go_upto_region 9 with fail
      go_region_held3 (fun V => V.cell? ⟨G, 0, none⟩ = some (.slice (some ⟨b, off, none⟩) n cap) ∧ V.cell? ⟨b, off + k * 4, none⟩ = some (.int .u32 (x.arch : Nat)) ∧ V.cell? ⟨b, off + k * 4 + 1, none⟩ = some (.int .u32 (x.nr : Nat)) ∧ V.cell? ⟨b, off + k * 4 + 2, none⟩ = some (.slice co x.conds.length ccap) ∧ V.cell? ⟨b, off + k * 4 + 3, none⟩ = some (.int .u32 (x.act : Nat)) ∧ V.cell? ⟨G + 1, 0, none⟩ = some (.int .u32 d.nr) ∧ V.cell? ⟨G + 1, 1, none⟩ = some (.int .u32 d.arch) ∧ V.cell? ⟨G + 1, 2, none⟩ = some (.int .u64 d.ip) ∧ V.cell? ⟨G + 1, 3, none⟩ = some (.int .u64 d.a0) ∧ V.cell? ⟨G + 1, 4, none⟩ = some (.int .u64 d.a1) ∧ V.cell? ⟨G + 1, 5, none⟩ = some (.int .u64 d.a2) ∧ V.cell? ⟨G + 1, 6, none⟩ = some (.int .u64 d.a3) ∧ V.cell? ⟨G + 1, 7, none⟩ = some (.int .u64 d.a4) ∧ V.cell? ⟨G + 1, 8, none⟩ = some (.int .u64 d.a5))
        (first | with_reducible exact ⟨c0, e0, e1, e2, e3, x0, x1, x2, x3, x4, x5, x6, x7, x8⟩ | with_reducible exact ⟨a0, b0, b1, b2, b3, y0, y1, y2, y3, y4, y5, y6, y7, y8⟩ | go_keep)
        (first
          | (go_at_call 15; refine (HED.out _ ?_).mono ?_; (have hB := Below.refl wr.heap.size wr; go_grown); rintro e w9 ⟨⟨vl, L, rfl, hds, hlo, hl200⟩, hb9⟩; have a0 := (hb9.cell (p := ⟨G, _, none⟩) hgG).trans c0; have b0 := (hb9.cell (p := ⟨b, _, none⟩) hgb).trans e0; have b1 := (hb9.cell (p := ⟨b, _, none⟩) hgb).trans e1; have b2 := (hb9.cell (p := ⟨b, _, none⟩) hgb).trans e2; have b3 := (hb9.cell (p := ⟨b, _, none⟩) hgb).trans e3; have y0 := (hb9.cell (p := ⟨G + 1, _, none⟩) hgD).trans x0; have y1 := (hb9.cell (p := ⟨G + 1, _, none⟩) hgD).trans x1; have y2 := (hb9.cell (p := ⟨G + 1, _, none⟩) hgD).trans x2; have y3 := (hb9.cell (p := ⟨G + 1, _, none⟩) hgD).trans x3; have y4 := (hb9.cell (p := ⟨G + 1, _, none⟩) hgD).trans x4; have y5 := (hb9.cell (p := ⟨G + 1, _, none⟩) hgD).trans x5; have y6 := (hb9.cell (p := ⟨G + 1, _, none⟩) hgD).trans x6; have y7 := (hb9.cell (p := ⟨G + 1, _, none⟩) hgD).trans x7; have y8 := (hb9.cell (p := ⟨G + 1, _, none⟩) hgD).trans x8))
      have HB9 := Lib.hid (HBr.out.trans ((below2 (bdN (Below.refl wr.heap.size wr) 1) hb9).mono HBr.out.size))
      have HDS := Lib.hid hds
      have HLO := Lib.hid hlo
      obtain ⟨lo0, lc, rfl⟩ := hds.shape
      obtain ⟨m, hmL⟩ : ∃ m, m = L.length := ⟨_, rfl⟩
      rw [← hmL] at hl200 HDS ⊢
      have HML := Lib.hid hmL
      clear hds hlo hmL hb9 e0 e1 e2 e3 x0 x1 x2 x3 x4 x5 x6 x7 x8 a0 b0 b1 b2 b3 y0 y1 y2 y3 y4 y5 y6 y7 y8 c0 HED HCV HPr HDr
      go_wp2_with fail
      go_loopw [9] (fun i wv => ∃ j : Nat, j ≤ m ∧ i = .int .i64 j ∧ Below w9.heap.size w9 wv) (fun i _ => m - (Lib.intOf i).toNat)
      case atStart => exact ⟨0, Nat.zero_le _, rfl, Below.refl _ _⟩
      case round =>
        obtain ⟨j, hj, rfl, hbj⟩ := hrel
        have hB9 := HB9.out.trans (hbj.mono HB9.out.size)
        obtain ⟨bp, _, bw, bf⟩ := HRG.out _ hB9
        have HBv := Lib.hid hB9
        have HBj := Lib.hid hbj
        have HPv := Lib.hid bp
        have HWv := Lib.hid bw
        have HFv := Lib.hid bf
        have HDSv := Lib.hid (HDS.out.below hbj)
        clear hbj hB9 bp bw bf
        by_cases hjm : j < m
        · have hjL : j < L.length := by rw [← HML.out]; exact hjm
          obtain ⟨lb, lo, rfl, hlb, hr9⟩ := HDSv.out.row j hjL
          obtain ⟨r, hr⟩ : ∃ r, r = L[j] := ⟨_, rfl⟩
          rw [← hr] at hr9
          have hrk : r.ok := by rw [hr]; exact HLO.out _ (List.getElem_mem hjL)
          have HRK := Lib.hid hrk
          obtain ⟨z0, z1, z2, z3, z4, z5, z6, z7, z8⟩ := hr9.cells
          have HR9 := Lib.hid hr9
          have m0 : (j : Int) < (m : Int) := by omega
          have m1 : (0 : Int) ≤ (j : Int) := by omega
          have m2 : (j : Int).toNat = j := by omega
          clear hr hrk hr9
          go_upto_region 13 with fail
          go_wp2_with fail
          refine (rrun6_any _ f r _ HFv.out HO.out HRK.out (soundB_iff.2 HS.out)).mono ?_
          rintro e w10 ⟨rfl, hb10⟩
          rw [HRJ.out r HRK.out]
          obtain ⟨J, hJ⟩ : ∃ J, J = judgeR q.rules q.dflt r := ⟨_, rfl⟩
          have HJR : Hid (∀ V, Below w.heap.size w V → Calls Tryz.prog 13 #[poV (.slice (some ⟨b, off, none⟩) n cap) q.dflt, r.val] V fun e w' => e = .returned (.int .u32 (J : Nat)) ∧ Below V.heap.size V w') := Lib.hid (fun V hV => by rw [hJ]; exact HJD.out V r HRK.out hV)
          rw [← hJ]
          have HB10 := Lib.hid (HBv.out.trans (hb10.mono HBv.out.size))
          have HBj10 := Lib.hid (HBj.out.trans (hb10.mono HBj.out.size))
          have HW10 := Lib.hid (below2 HWv.out hb10)
          have HP10 := Lib.hid (kb hb10 HPv.out)
          have HR10 := Lib.hid (show R9 w10 lb (lo + j * 9) r from fun i u hu => (hb10.cell (p := ⟨lb, _, none⟩) hlb).trans (HR9.out i u hu))
          have hgl2 : lb < w10.heap.size := Nat.lt_of_lt_of_le hlb hb10.size
          have hgG2 : G < w10.heap.size := lt_of_block HP10.out
          clear hb10 hJ z0 z1 z2 z3 z4 z5 z6 z7 z8 HR9
          obtain ⟨c0, c1⟩ := pbox HP10.out
          obtain ⟨z0, z1, z2, z3, z4, z5, z6, z7, z8⟩ := HR10.out.cells
          have hJJ : ((J : Int) != (J : Int)) = false := by simp
          go_upto_region 14 with fail
          go_region_held3 (fun V => V.cell? ⟨G, 0, none⟩ = some (.slice (some ⟨b, off, none⟩) n cap) ∧ V.cell? ⟨G, 1, none⟩ = some (.int .u32 (q.dflt : Nat)) ∧ V.cell? ⟨lb, lo + j * 9, none⟩ = some (.int .u32 r.nr) ∧ V.cell? ⟨lb, lo + j * 9 + 1, none⟩ = some (.int .u32 r.arch) ∧ V.cell? ⟨lb, lo + j * 9 + 2, none⟩ = some (.int .u64 r.ip) ∧ V.cell? ⟨lb, lo + j * 9 + 3, none⟩ = some (.int .u64 r.a0) ∧ V.cell? ⟨lb, lo + j * 9 + 4, none⟩ = some (.int .u64 r.a1) ∧ V.cell? ⟨lb, lo + j * 9 + 5, none⟩ = some (.int .u64 r.a2) ∧ V.cell? ⟨lb, lo + j * 9 + 6, none⟩ = some (.int .u64 r.a3) ∧ V.cell? ⟨lb, lo + j * 9 + 7, none⟩ = some (.int .u64 r.a4) ∧ V.cell? ⟨lb, lo + j * 9 + 8, none⟩ = some (.int .u64 r.a5))
            (first | with_reducible exact ⟨c0, c1, z0, z1, z2, z3, z4, z5, z6, z7, z8⟩ | with_reducible exact ⟨a0, a1, y0, y1, y2, y3, y4, y5, y6, y7, y8⟩ | go_keep)
            (first
              | (go_at_call 13; refine (HJR.out _ ?_).mono ?_; (have hB := HW10.out; go_grown); rintro e w11 ⟨rfl, hb9⟩; have a0 := (hb9.cell (p := ⟨G, _, none⟩) hgG2).trans c0; have a1 := (hb9.cell (p := ⟨G, _, none⟩) hgG2).trans c1; have y0 := (hb9.cell (p := ⟨lb, _, none⟩) hgl2).trans z0; have y1 := (hb9.cell (p := ⟨lb, _, none⟩) hgl2).trans z1; have y2 := (hb9.cell (p := ⟨lb, _, none⟩) hgl2).trans z2; have y3 := (hb9.cell (p := ⟨lb, _, none⟩) hgl2).trans z3; have y4 := (hb9.cell (p := ⟨lb, _, none⟩) hgl2).trans z4; have y5 := (hb9.cell (p := ⟨lb, _, none⟩) hgl2).trans z5; have y6 := (hb9.cell (p := ⟨lb, _, none⟩) hgl2).trans z6; have y7 := (hb9.cell (p := ⟨lb, _, none⟩) hgl2).trans z7; have y8 := (hb9.cell (p := ⟨lb, _, none⟩) hgl2).trans z8))
          have hb11 := below2 (bdN (Below.refl w10.heap.size w10) 1) hb9
          have HB11 := Lib.hid (HBj10.out.trans (hb11.mono HBj10.out.size))
          clear hb11 hb9 a0 a1 y0 y1 y2 y3 y4 y5 y6 y7 y8 z0 z1 z2 z3 z4 z5 z6 z7 z8 c0 c1
          go_wp2_with fail
          go_roundw
          case rel => exact ⟨j + 1, by omega, by go_num, HB11.out⟩
          case measure => simp [Lib.intOf]; omega
        · obtain rfl : j = m := by omega
          go_wp2_with fail
          go_roundw
          case rel => exact ⟨k + 1, by omega, by go_num, HBv.out⟩
          case measure => simp [Lib.intOf]; omega
    · go_wp2_with fail
      refine (zknow_end HBw.out HTab.out HOT.out).mono ?_
      rintro e wb ⟨rfl, hbb⟩
      have HBB := Lib.hid hbb
      clear hbb
      go_wp2_with fail
      go_ret
      exact ⟨rfl, HBB.out⟩

set_option maxRecDepth 100000 in
/-- The row's contract, for every argument and every world. -/
theorem contract (H : Type) (enc : TypeId × Value → H) (W : World) (base : Nat) (args : Array Value) (ds gs : List (DataW H)) (before : List MemPlace)
    (hval : ∀ (j : Nat) t v, Tryz.f4.params[j]? = some t → args[j]? = some v → Value.okWide Tryz.prog W .any base t v)
    (hW : DataW.Whole enc Tryz.prog Tryz.f4.params.toList Rows.lowerEdgesSpec.vars false W args.toList ds gs before) (hL : laidMetH Tryz.prog Rows.lowerEdgesRow.laid W) :
    Calls Tryz.prog 4 args W fun e W' => ∃ v, e = .returned v ∧ Rows.lowerEdgesSpec.post enc Tryz.prog Tryz.f4 false true false false W args v W' := by
  have hW' := hW
  obtain ⟨p, q, hA0, hV, rfl, hfz, hnd⟩ := hW
  have hA : DataW.TrodAll enc Tryz.prog W 0 (fun _ => true) true Tryz.f4.params.toList args.toList ds p := hA0
  rw [Tryz.params4] at hA hval
  obtain ⟨v0, vs0, d0, ds0, p0, q0, hargs0, rfl, rfl, t0, r0⟩ := trodAll_cons hA
  obtain ⟨v1, vs1, d1, ds1, p1, q1, hargs1, rfl, rfl, t1, r1⟩ := trodAll_cons r0
  obtain ⟨rfl, rfl, rfl⟩ := trodAll_nil r1
  obtain rfl : args = #[v0, v1] := by cases args; simp_all
  obtain ⟨q, rv0, rfl, hL0, hk0, hl0, hm0⟩ := open_policy (hval 0 25 v0 rfl rfl) t0
  obtain ⟨d, rfl, hd1⟩ := open_data (hval 1 29 v1 rfl rfl) t1
  refine (walk rv0 q d W hL0 hk0 hl0 hm0 hd1 (tab_of hL) (otab_of hL)).mono fun e W' ⟨he, hg⟩ => ?_
  subst he
  exact ⟨_, rfl, law_post (tb := 4) laidOut (fun t ht => by rw [Tryz.params4] at ht; revert t; exact of_decide_eq_true (by kernel_rfl)) (by kernel_rfl) Tryz.underlying4 rfl
    (fun ds h => by rw [Tryz.params4] at h; match ds, h with | [_, _], _ => rfl) hW' hg⟩

theorem laid_met (os : Os) : laidMet Tryz.prog Rows.lowerEdgesRow.laid ((laidWorld os).forCall (fun _ _ => 0) ⟨#[], #[.agg #[.slice none 0 0, .int .u32 0], .agg #[.int .u32 0, .int .u32 0, .int .u64 0, .int .u64 0, .int .u64 0, .int .u64 0, .int .u64 0, .int .u64 0, .int .u64 0]], []⟩).memory :=
  laidMet_of_run' 8 (by kernel_rfl) (by kernel_rfl)
theorem reads (os : Os) {H : Type} (enc : TypeId × Value → H) : ∃ places, DataW.whole enc Tryz.prog ((laidWorld os).forCall (fun _ _ => 0) ⟨#[], #[.agg #[.slice none 0 0, .int .u32 0], .agg #[.int .u32 0, .int .u32 0, .int .u64 0, .int .u64 0, .int .u64 0, .int .u64 0, .int .u64 0, .int .u64 0, .int .u64 0]], []⟩).memory Tryz.f4.params.toList Rows.lowerEdgesSpec.vars false #[Value.agg #[.slice none 0 0, .int .u32 0], Value.agg #[.int .u32 0, .int .u32 0, .int .u64 0, .int .u64 0, .int .u64 0, .int .u64 0, .int .u64 0, .int .u64 0, .int .u64 0]].toList 8 = some ([.agg [.nil, .lit (.int .u32 0)], .agg [.lit (.int .u32 0), .lit (.int .u32 0), .lit (.int .u64 0), .agg [.lit (.int .u64 0), .lit (.int .u64 0), .lit (.int .u64 0), .lit (.int .u64 0), .lit (.int .u64 0), .lit (.int .u64 0)]]], [], places) :=
  ⟨[], by kernel_rfl⟩

set_option maxRecDepth 100000 in
theorem lifted (os : Os) (started : os.Started) (H : Type) (enc : TypeId × Value → H) (F : Stop.Interp) :
    ReturnsInHanded {} Tryz.checked os 4 .any ((OpenSpec.ofChange Rows.lowerEdgesSpec).preRow enc Tryz.prog Tryz.f4 Rows.lowerEdgesRow.domain false Rows.lowerEdgesRow.laid) (((OpenSpec.ofChange Rows.lowerEdgesSpec).at F).post enc Tryz.prog Tryz.f4 false true false false) := by
  obtain ⟨places, hx⟩ := reads os enc
  refine returnsInHanded_of_row (C := Tryz.checked) (s := OpenSpec.ofChange Rows.lowerEdgesSpec) own started (by kernel_rfl) Tryz.func4
    (witness_row_at (enc := enc) (C := Tryz.checked) false (laidWorld os) #[.agg #[.slice none 0 0, .int .u32 0], .agg #[.int .u32 0, .int .u32 0, .int .u64 0, .int .u64 0, .int .u64 0, .int .u64 0, .int .u64 0, .int .u64 0, .int .u64 0]] rfl (by kernel_rfl) (by kernel_rfl) (by kernel_rfl)
      (OpenSpec.preRow_of_cond 8 hx (by kernel_rfl) (fun k hk => by cases hk) (by kernel_rfl) (laid_met os))) ?_
  intro W base args ds gs before hval hW _ _ _ hL _ _
  exact contract H enc W base args ds gs before hval hW hL

theorem said : Rows.LowerEdgesSaid :=
  OpenClaim.holds_of_cond 4 Tryz.f4 rfl rfl rfl rfl rfl rfl rfl ⟨rfl, rfl, rfl, rfl, rfl⟩ rfl rfl rfl rfl rfl (by kernel_rfl) Tryz.func4 (by kernel_rfl)
    (of_decide_eq_true (by kernel_rfl)) (by unfold Func.isWrapper; first | (rw [if_pos (by decide +kernel)]; kernel_rfl) | (rw [if_neg (by decide +kernel)]; exact ⟨rfl, rfl⟩))
    (fun os started H enc _ F => by rw [OpenClaim.pre_eq_preRow]; exact lifted os started H enc F)

/-- No parameter wants a stand-in; the program's own looks are off. -/
theorem plain (f : FuncId) (fn : Func) (hf : Tryz.pinned.checked.prog.funcNamed "hurdle/hurdlelaw13.LowerEdges" = some f) (hfn : Tryz.pinned.checked.prog.funcs[f]? = some fn) :
    false = Tryz.pinned.checked.prog.looks [] ∧ ∀ (j : Nat) t, fn.params[j]? = some t → Tryz.pinned.checked.prog.wantsStandIn t = false := by
  obtain rfl : f = 4 := Option.some.inj ((show Tryz.prog.funcNamed "hurdle/hurdlelaw13.LowerEdges" = some 4 by kernel_rfl).symm.trans hf) |>.symm
  obtain rfl : fn = Tryz.f4 := (Option.some.inj (Tryz.func4.symm.trans hfn)).symm
  refine ⟨by kernel_rfl, fun j t ht => ?_⟩
  have hm := Array.mem_of_getElem? ht
  rw [Tryz.params4] at hm
  have all : ∀ t ∈ (#[25, 29] : Array TypeId).toList, Tryz.prog.wantsStandIn t = false := of_decide_eq_true (by kernel_rfl)
  exact all t (Array.mem_toList_iff.2 hm)

/-- The tied card. -/
theorem card : Rows.LowerEdgesCardSaid :=
  Claim7.holds_tied_plain_at .later [] _ _ _ _ said (fun _ h => by cases h) (by kernel_rfl) (fun _ h => by cases h) lowerEdges_row_tie rfl ⟨rfl, rfl⟩ (by kernel_rfl) rfl plain (by kernel_rfl)
end Go.Proofs.YtbekkdhlfkongaaGreatDoor.lowerEdges
