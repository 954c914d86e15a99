/-
  For every policy, in every world that has the listed tables as their initialisers lay them: the law LowerAlike returns true and changes nothing that was there.
-/
import Derived.Test.YtbekkdhlfkongaaGreatDoorProg
import Derived.WalkKit
import Derived.ProofKit
import Derived.Lib.Hide
import Derived.Laws.Rows
import Derived.Laws.ResultCell
import Derived.Laws.Entries
import Derived.Handy
import Derived.OwnWalk
import Derived.Laws.OwnMore
import Derived.Deep.Draws
import Derived.Laws.IdiomStrings
import Derived.Lib.BufferRead
import Derived.Maps.OwnSet
import Derived.Laws.BitsAllLaws
import Derived.RowKit
import Derived.Lib.QuietBelow
import Derived.Lib.OthersKept
import Derived.BigQuiet
import Derived.IntWalk
import Derived.Deep.RegionHeld3
import Derived.BigRegion
import Derived.Laws.Tables
import Derived.Deep.DeepCutAuto
import Derived.Deep.QuietTactic
import Derived.Test.YtbekkdhlfkongaaGreatDoorRows
import Derived.OpenShut
import Derived.Carry
import Derived.Deep.DeepHandedRow
import Derived.Lib.SmallJoins
import Derived.WalkMore
import Derived.Shelf.Strings.Builder1
import Derived.Shelf.Strings.Search1
import Derived.Lib.IndexLaws
import Derived.Lib.AppendZerosOnto
import Derived.Lib.SliceRun
import Derived.Deep.RegionWith
import Derived.Deep.Cut
import Derived.Deep.Slices
import Derived.RangeFuncNested
import Derived.RangeFuncBound
import Derived.RangeFuncCalls
import Derived.RangeFuncLeaves
import Derived.Shelf.Abstract
import Derived.Shelf.RegionOpen
import Derived.OwnWalkIn
import Derived.TacticsInMore
import Derived.LoopNIn
import Derived.LoopIn
import Derived.Sort.MapsRangeIn
import Derived.Sort.KeysCollected
import Derived.Maps.AppendAt
import Derived.RangeFuncBox
import Derived.RangeFuncFrom
import Derived.RangeFuncSeq
import Derived.Sort.WalkA
import Derived.CellFam
import Derived.Sort.WalkC
import Derived.Sort.LotC
import Derived.Deep.CutBlock
import Derived.Deep.LoopGhost
import Derived.Sort.WalkC4
import Derived.Sort.WalkA6
import Derived.Laws.Closers25b
import Derived.Laws.Bits64b
import Derived.Sort.WalkB2
import Derived.Sort.WalkB3
import Derived.Sort.LotB
import Derived.Sort.LotD3
import Derived.Maps.RangeWalk
import Derived.StringKeys
import Derived.Lib.Split
import Derived.Deep.OwnRows
import Derived.Laws.Strings3
import Derived.Lib.Join
import Derived.Lib.MakeNoZero
import Derived.Lib.Builder
import Derived.Laws.IdiomCopy
import Derived.Test.YtbekkdhlfkongaaGreatDoorCards
import Derived.Test.YtbekkdhlfkongaaGreatDoorTie
import Derived.Lib.LaidTab
import Derived.Stop.LaidErr
import Derived.Laws.RangeAny
import Derived.Deep.AppendLies
import Derived.Deep.RegionLaw
import Derived.Test.YtbekkdhlfkongaaGreatDoorPk1
import Derived.Test.YtbekkdhlfkongaaGreatDoorPk2
import Derived.Test.YtbekkdhlfkongaaGreatDoorPk3
import Derived.Test.YtbekkdhlfkongaaGreatDoorPk4
import Derived.Test.YtbekkdhlfkongaaGreatDoorPk5
import Derived.Test.YtbekkdhlfkongaaGreatDoorPk6
import Derived.Test.YtbekkdhlfkongaaGreatDoorPk7
import Derived.Test.YtbekkdhlfkongaaGreatDoorPk8
import Derived.Test.YtbekkdhlfkongaaGreatDoorPk9
import Derived.Test.YtbekkdhlfkongaaGreatDoorPk10
import Derived.Test.YtbekkdhlfkongaaGreatDoorPk12
namespace Go.Proofs.YtbekkdhlfkongaaGreatDoor.lowerAlike
open Go.ChangeShapes Go.WideShapes Go.ChangeAt Go.RowKit

theorem conds_one (cs : List Cd) : ∀ u ∈ qcells (cs.map cdQ), u.oneCell' = true := by
  intro u hu
  unfold qcells at hu
  rw [List.mem_flatMap] at hu
  obtain ⟨r, hr, hu⟩ := hu
  obtain ⟨c, _, rfl⟩ := List.mem_map.1 hr
  simp only [V4.cells, List.mem_cons, List.not_mem_nil, or_false] at hu
  rcases hu with rfl | rfl | rfl | rfl <;> rfl
theorem stay_rows {w w' : World} {B g : Nat} {o : Obj} {rv : Value} {l : List (Rl × Value)} (h : LOwn w B rv l) (hp : RowPut w w' g o) (h1 : rv.ownBlock ≠ some g) (h2 : ∀ p ∈ l, p.2.ownBlock ≠ some g) : LOwn w' B rv l :=
  ⟨own_stay h.row hp h1, fun p hq => own_stay (h.conds p hq) hp (h2 p hq)⟩
theorem rows_one {w : World} {B : Nat} {rv : Value} {l : List (Rl × Value)} (h : LOwn w B rv l) : ∀ u ∈ qcells (l.map rlQ), u.oneCell' = true := by
  intro u hu
  unfold qcells at hu
  rw [List.mem_flatMap] at hu
  obtain ⟨r, hr, hu⟩ := hu
  obtain ⟨p, hp, rfl⟩ := List.mem_map.1 hr
  obtain ⟨a, c, e⟩ := own_shape (h.conds p hp)
  simp only [V4.cells, List.mem_cons, List.not_mem_nil, or_false] at hu
  rcases hu with rfl | rfl | rfl | rfl
  · rfl
  · rfl
  · rw [e]; rfl
  · rfl
set_option maxRecDepth 100000 in
set_option maxHeartbeats 16000000 in
theorem walk (rv : Value) (q : Po) (w : World) (hL : LAt w rv q.rules) (hk : q.ok) (hl : q.rules.length ≤ 9223372036854775807) (hm : ∀ x ∈ q.rules, x.conds.length ≤ 9223372036854775807) (ht : Tab w) (hot : OTab w) :
    Calls Tryz.prog 6 #[poV rv q.dflt] w fun e w' => e = .returned (.bool true) ∧ Below w.heap.size w w' := by
  have HTab := Lib.hid ht
  have HOT := Lib.hid hot
  obtain ⟨rs, dd⟩ := q
  simp only at hL hl hm ⊢
  obtain ⟨ao, cap, rfl, hrows⟩ := hL.rows
  have HROW := Lib.hid hrows
  have HL := Lib.hid hL
  have HK := Lib.hid hk
  have HM := Lib.hid hm
  obtain ⟨n, hn⟩ : ∃ n, n = rs.length := ⟨_, rfl⟩
  rw [← hn] at HL ⊢
  have HN := Lib.hid hn
  have HCG : Hid (∀ V, Below w.heap.size w V → Calls Tryz.prog 8 #[poV (.slice ao n cap) dd] V fun e w' => e = .returned (.bool (greatP ⟨rs, dd⟩)) ∧ Below V.heap.size V w') := Lib.hid (fun V hV => great_any _ ⟨rs, dd⟩ V (HL.out.below hV) hl HM.out)
  have HLO : Hid (greatP ⟨rs, dd⟩ = false → ∀ V rv', Below w.heap.size w V → LAt V rv' rs → Calls Tryz.prog 10 #[poV rv' dd] V fun e w' => (∃ v, FAt w' v (if (⟨rs, dd⟩ : Po).right then lowerN ⟨rs, dd⟩ else []) ∧ e = .returned (.tuple #[v, .int .i64 (if (⟨rs, dd⟩ : Po).right then 0 else 1)])) ∧ Below V.heap.size V w') := Lib.hid (fun hg V rv' hV hA => lower_any rv' ⟨rs, dd⟩ V hA HK.out (great_no hg).1 (great_no hg).2 (HTab.out.below hV) (HOT.out.below hV))
  obtain ⟨W, hW, X0, HBx⟩ : ∃ W, W = w.alloc (poB (.slice ao n cap) dd) ∧ W.heap[w.heap.size]? = some (poB (.slice ao n cap) dd) ∧ Below w.heap.size w W := ⟨_, rfl, heap_alloc_new _ _, ba _ (Below.refl _ _)⟩
  have HP0 := Lib.hid X0
  have HB0 := Lib.hid HBx
  clear X0 HBx hL hk hm ht hot hl hrows hn
  go_enter Tryz.func6, Tryz.ntmps6
  go_upto_region 1 with fail
  change Code.wp _ _ _ _ (w.alloc (poB (.slice ao n cap) dd))
  rw [← hW]
  clear hW
  obtain ⟨c0, c1⟩ := pbox HP0.out
  go_wp2_with fail
  refine (HCG.out _ HB0.out).mono ?_
  rintro e w1 ⟨rfl, hb1⟩
  have HB1 := Lib.hid (below2 HB0.out hb1)
  have HP1 := Lib.hid (kb hb1 HP0.out)
  clear hb1 c0 c1 HP0 HB0
  cases hgr : greatP ⟨rs, dd⟩
  rotate_left
  · clear hgr
    go_wp2_with fail
    refine (zknow_end HB1.out HTab.out HOT.out).mono ?_
    rintro e wb ⟨rfl, hbb⟩
    have HBB := Lib.hid hbb
    clear hbb
    go_wp2_with fail
    go_ret
    exact ⟨rfl, HBB.out⟩
  have hn100 : n ≤ 100 := by rw [HN.out]; exact (great_no hgr).1
  have H20 := Lib.hid (great_no hgr).2
  have HLO2 := Lib.hid (HLO.out hgr)
  obtain ⟨g, hg⟩ : ∃ g, g = (if (⟨rs, dd⟩ : Po).right then lowerN ⟨rs, dd⟩ else []) := ⟨_, rfl⟩
  obtain ⟨er, her⟩ : ∃ er : Int, er = (if (⟨rs, dd⟩ : Po).right then 0 else 1) := ⟨_, rfl⟩
  rw [← hg, ← her] at HLO2
  have hgl : g.length ≤ 4096 := by
    rw [hg]
    split
    · rename_i hr
      exact (lower_ok HK.out hr).1.2.1
    · simp
  clear hg her hgr HLO HCG
  obtain ⟨c0, c1⟩ := pbox HP1.out
  go_upto_region 4 with fail
  change Code.wp _ _ _ _ (w1.alloc (poB (.slice none 0 0) dd))
  obtain ⟨V, hV, X0, hbv⟩ : ∃ V, V = w1.alloc (poB (.slice none 0 0) dd) ∧ V.heap[w1.heap.size]? = some (poB (.slice none 0 0) dd) ∧ Below w1.heap.size w1 V := ⟨_, rfl, heap_alloc_new _ _, ba _ (Below.refl _ _)⟩
  have hVs : V.heap.size = w1.heap.size + 1 := by rw [hV, size_alloc]
  rw [← hV]
  have HQ := Lib.hid X0
  have HBV := Lib.hid hbv
  obtain ⟨gq, hgq⟩ : ∃ g, g = w1.heap.size := ⟨_, rfl⟩
  obtain ⟨B, hB⟩ : ∃ B, B = V.heap.size := ⟨_, rfl⟩
  have hqB : gq < B := by omega
  have hwq : w.heap.size < gq := by rw [hgq]; exact lt_of_block HP1.out
  rw [← hgq] at HQ ⊢
  have RG : ∀ wr, Below w1.heap.size w1 wr → wr.heap[w.heap.size]? = some (poB (.slice ao n cap) dd) ∧ Below w.heap.size w wr := fun wr h => ⟨(h.block _ (by omega)).trans HP1.out, below2 HB1.out h⟩
  have HRG := Lib.hid RG
  have HGW : Hid (w1.heap.size = gq) := Lib.hid hgq.symm
  have hBV : B ≤ V.heap.size := by omega
  clear RG hV X0 hbv c0 c1 HP1 HB1 hVs hgq hB
  go_wp2_with fail
  go_loopw [4] (fun i wr => ∃ (k : Nat) (rv : Value) (l : List (Rl × Value)), k ≤ n ∧ i = .int .i64 k ∧ LOwn wr B rv l ∧ l.map (·.1) = rs.take k ∧ wr.heap[gq]? = some (poB rv dd) ∧ Below w1.heap.size w1 wr ∧ B ≤ wr.heap.size) (fun i _ => n - (Lib.intOf i).toNat)
  case atStart => exact ⟨0, .slice none 0 0, [], Nat.zero_le _, rfl, LOwn.nil _ _, rfl, HQ.out, HBV.out, hBV⟩
  case round =>
    obtain ⟨k, rv, l, hk, rfl, hlo, hlk, hq, hb, hsz⟩ := hrel
    obtain ⟨bp, bw⟩ := HRG.out wr hb
    have HLo := Lib.hid hlo
    have HLk := Lib.hid hlk
    have HQr := Lib.hid hq
    have HBr := Lib.hid hb
    have HPr := Lib.hid bp
    have HWr := Lib.hid bw
    clear hlo hlk hq hb bp bw HQ HBV
    obtain ⟨c0, c1⟩ := pbox HPr.out
    by_cases hlt : k < n
    · have hlt2 : k < rs.length := by rw [← HN.out]; exact hlt
      obtain ⟨b, off, cv, rfl, hbw, hcv, e0, e1, e2, e3⟩ := HROW.out k hlt2
      obtain ⟨x, hx⟩ : ∃ x, x = rs[k] := ⟨_, rfl⟩
      rw [← hx] at hcv e0 e1 e3
      have hxl : x.conds.length ≤ 20 := by rw [hx]; exact H20.out _ (List.getElem_mem hlt2)
      have HNX : Hid (rs.take (k + 1) = rs.take k ++ [x]) := Lib.hid (by rw [List.take_succ_eq_append_getElem hlt2, hx])
      have HCV := Lib.hid (hcv.below HWr.out)
      obtain ⟨co, ccap, rfl⟩ := hcv.shape
      replace e0 := (HWr.out.cell (p := ⟨b, _, none⟩) hbw).trans e0
      replace e1 := (HWr.out.cell (p := ⟨b, _, none⟩) hbw).trans e1
      replace e2 := (HWr.out.cell (p := ⟨b, _, none⟩) hbw).trans e2
      replace e3 := (HWr.out.cell (p := ⟨b, _, none⟩) hbw).trans e3
      have l0 : (k : Int) < (n : Int) := by omega
      have l1 : (0 : Int) ≤ (k : Int) := by omega
      have l2 : (k : Int).toNat = k := by omega
      have hkl : l.length = k := by have := congrArg List.length HLk.out; rw [List.length_map, List.length_take] at this; omega
      have b1 : l.length + 1 ≤ maxLen := by unfold maxLen; omega
      have b2 : (l.length + 1) * 40 ≤ 140737488355328 := by omega
      clear hx hcv hkl
      go_upto_region 8 with fail
      change Code.wp _ _ _ _ (wr.alloc (rlB x (.slice co x.conds.length ccap)))
      obtain ⟨V1, hV1, X0, hbv⟩ : ∃ V, V = wr.alloc (rlB x (.slice co x.conds.length ccap)) ∧ V.heap[wr.heap.size]? = some (rlB x (.slice co x.conds.length ccap)) ∧ Below wr.heap.size wr V := ⟨_, rfl, heap_alloc_new _ _, ba _ (Below.refl _ _)⟩
      rw [← hV1]
      have HX1 := Lib.hid X0
      have HB1 := Lib.hid (HBr.out.trans (hbv.mono HBr.out.size))
      have HL1 := Lib.hid (HLo.out.below hbv)
      have HQ1 := Lib.hid (kb hbv HQr.out)
      have HC1 := Lib.hid (HCV.out.below hbv)
      have HN1 := Lib.hid (show rv.ownBlock ≠ some wr.heap.size from fun h => by have := (HLo.out.row.lt _ h).2; omega)
      have HN2 := Lib.hid (show ∀ p ∈ l, p.2.ownBlock ≠ some wr.heap.size from fun p hp h => by have := ((HLo.out.conds p hp).lt _ h).2; omega)
      obtain ⟨gx, hgx⟩ : ∃ g, g = wr.heap.size := ⟨_, rfl⟩
      rw [← hgx] at HX1 HN1 HN2 ⊢
      have hgxV : gx < V1.heap.size := lt_of_block HX1.out
      have hqx : gq < gx := by omega
      have hBx : B ≤ gx := by omega
      clear hV1 X0 hbv hgx e0 e1 e2 e3 c0 c1 HCV HLo HQr HPr HWr
      obtain ⟨x0, x1, x2, x3⟩ := rbox HX1.out
      obtain ⟨ic, hic, hc0, hc1, hc2⟩ := info_parts infoCd
      obtain ⟨ir, hir, hr0, hr1, hr2⟩ := info_parts infoRl
      have hbE := ba (.cells #[] 55) (Below.refl V1.heap.size V1)
      have HBE := Lib.hid hbE
      have hsE := hbE.size
      have hml : (x.conds.map cdQ).length = x.conds.length := List.length_map ..
      have HSrc := Lib.hid (QAt.src_n (HC1.out.below hbE) hml)
      clear hbE hml
      go_wp2_with (at_builtin; refine wpList_append_src _ rfl _ _ 43 rfl V1.heap.size 55 ic (.agg #[.int .i64 0, .int .i64 0, .int .u64 0, .int .u64 0]) 4 32 Tryz.underlying43 hic hc0 hc1 hc2 rfl (by decide) _ 0 [] rfl (own_empty V1 V1.heap.size 55 4 (Nat.le_refl _)) _ x.conds.length (qcells (x.conds.map cdQ)) rfl HSrc.out (conds_one x.conds) (by unfold maxLen; omega) (by omega) hsE ?_)
      intro vb wb hown hgrow
      have HBb := Lib.hid (grown_below HBE.out (own_empty V1 V1.heap.size 55 4 (Nat.le_refl _)) hgrow hsE)
      have HOb : Hid (wb.ownsRow V1.heap.size 55 4 vb x.conds.length (qcells (x.conds.map cdQ))) := Lib.hid (by
        simpa using hown)
      have HXb := Lib.hid (kb HBb.out HX1.out)
      have HQb := Lib.hid (kb HBb.out HQ1.out)
      have HLb := Lib.hid (HL1.out.below HBb.out)
      have HB2 := Lib.hid (HB1.out.trans (HBb.out.mono HB1.out.size))
      have hsb := HBb.out.size
      clear hown hgrow x0 x1 x2 x3 HBE hsE HSrc HL1 HX1 HQ1 HC1
      obtain ⟨vbo, vbc, rfl⟩ := own_shape HOb.out
      have hgb : gx < wb.heap.size := by omega
      have x2 : wb.cell? ⟨gx, 2, none⟩ = some (.slice co x.conds.length ccap) := cell_in HXb.out 2
      have f2 := free_in HXb.out 2
      have hput : RowPut wb (wb.setCell ⟨gx, 2, none⟩ (.slice vbo x.conds.length vbc)) gx (rlB x (.slice vbo x.conds.length vbc)) := zrow_cell HXb.out 2 (.slice vbo x.conds.length vbc)
      go_upto_region 9 with fail
      obtain ⟨Wc, hWc⟩ : ∃ V, V = wb.setCell ⟨gx, 2, none⟩ (.slice vbo x.conds.length vbc) := ⟨_, rfl⟩
      rw [← hWc] at hput ⊢
      have HXc := Lib.hid hput.row
      have HQc := Lib.hid (hput.keep (by omega : gq ≠ gx) HQb.out)
      have HLc := Lib.hid (stay_rows HLb.out hput HN1.out HN2.out)
      have HOc := Lib.hid (own_put HOb.out hput hgxV)
      have HBc := Lib.hid (hput.below HB2.out (by have := HGW.out; omega))
      have hsc : wb.heap.size ≤ Wc.heap.size := by rw [hput.size]; exact Nat.le_refl _
      clear hWc hput x2 f2 HXb HQb HLb HOb HB2 HBb HN1 HN2
      obtain ⟨x0, x1, x2, x3⟩ := rbox HXc.out
      obtain ⟨q0, q1⟩ := pbox HQc.out
      obtain ⟨ro, rcap, rfl⟩ := own_shape HLc.out.row
      have hbR := ba (rlB x (.slice vbo x.conds.length vbc)) (Below.refl Wc.heap.size Wc)
      have HBR := Lib.hid (HBc.out.trans (hbR.mono HBc.out.size))
      have HLR := Lib.hid (HLc.out.below hbR)
      have HOR := Lib.hid (own_mono (own_below HOc.out hbR) (show B ≤ V1.heap.size by omega))
      have HQR := Lib.hid (kb hbR HQc.out)
      have hsR := hbR.size
      have hBR : B ≤ (Wc.alloc (rlB x (.slice vbo x.conds.length vbc))).heap.size := by omega
      have HSx : Hid (SrcAt (Wc.alloc (rlB x (.slice vbo x.conds.length vbc))) 4 (.slice (some ⟨Wc.heap.size, 0, none⟩) 1 1) 1 (V4.cells (rlQ (x, .slice vbo x.conds.length vbc)))) := Lib.hid ⟨_, _, rfl, rfl, fun h => (by cases h), fun ad had j u hu => (by cases had; exact new_at Wc _ _ j u hu)⟩
      have HLR1 := Lib.hid HLR.out.row
      clear hbR
      go_wp2_with (at_builtin; refine wpList_append_src _ rfl _ _ 22 rfl B 45 ir (.agg #[.int .u32 0, .int .u32 0, .slice none 0 0, .int .u32 0]) 4 40 Tryz.underlying22 hir hr0 hr1 hr2 rfl (by decide) _ l.length (qcells (l.map rlQ)) rfl HLR1.out _ 1 (V4.cells (rlQ (x, .slice vbo x.conds.length vbc))) rfl HSx.out (by simp [Value.oneCell']) b1 b2 hBR ?_)
      intro vr we hown hgrow
      have HLe := Lib.hid (HLR.out.grow HOR.out hgrow hown)
      have HB3 := Lib.hid (grown_below (B := B) (Below.refl B (Wc.alloc (rlB x (.slice vbo x.conds.length vbc)))) HLR1.out hgrow hBR)
      have HBe := Lib.hid (HBR.out.trans (HB3.out.mono (by have := HGW.out; omega)))
      have HQe := Lib.hid ((HB3.out.block gq hqB).trans HQR.out)
      have hse := HB3.out.size
      clear hown hgrow x0 x1 x2 x3 q0 q1 HXc HQc HLc HOc HBc HBR HLR HOR HQR HLR1 HSx HB3
      obtain ⟨vro, vrc, hvr⟩ := own_shape HLe.out.row
      have hvr2 : vr = .slice vro (l.length + 1) vrc := by rw [hvr, List.length_append]; rfl
      subst hvr2
      clear hvr
      have q0 : we.cell? ⟨gq, 0, none⟩ = some (.slice ro l.length rcap) := cell_in HQe.out 0
      have f0 := free_in HQe.out 0
      have hput : RowPut we (we.setCell ⟨gq, 0, none⟩ (.slice vro (l.length + 1) vrc)) gq (poB (.slice vro (l.length + 1) vrc) dd) := zrow_cell HQe.out 0 (.slice vro (l.length + 1) vrc)
      have HPut := Lib.hid hput
      have HLz := Lib.hid (HLe.out.put hput hqB)
      have HBz := Lib.hid (hput.below HBe.out (by have := HGW.out; omega))
      have hgqe : gq < we.heap.size := lt_of_block HQe.out
      have hsz2 : B ≤ we.heap.size := Nat.le_trans hBR hse
      have HSz : Hid (B ≤ (we.setCell ⟨gq, 0, none⟩ (.slice vro (l.length + 1) vrc)).heap.size) := Lib.hid (by rw [hput.size]; exact hsz2)
      have HLK2 : Hid ((l ++ [((x, Value.slice vbo x.conds.length vbc) : Rl × Value)]).map (·.1) = rs.take (k + 1)) := Lib.hid (by rw [List.map_append, HLk.out, HNX.out]; rfl)
      clear hput
      go_wp2_with fail
      go_roundw
      case rel => exact ⟨k + 1, _, _, by omega, by go_num, HLz.out, HLK2.out, HPut.out.row, HBz.out, HSz.out⟩
      case measure => simp [Lib.intOf]; omega
    · have hkn : k = n := by omega
      have HLR : Hid (LAt wr rv rs) := Lib.hid (by
        have h := HLo.out.at
        rw [HLk.out, hkn, HN.out, List.take_length] at h
        exact h)
      obtain ⟨ro, rcap, hro⟩ := HLR.out.shape
      clear hkn
      have hro2 : rv = .slice ro n rcap := by rw [hro, HN.out]
      subst hro2
      have hee : (er == er) = true := by simp
      clear hro
      go_wp2_with fail
      refine (HLO2.out _ _ HWr.out (HL.out.below HWr.out)).mono ?_
      rintro e w5 ⟨⟨v5, hv5, rfl⟩, hb5⟩
      have HV5 := Lib.hid hv5
      have HW5 := Lib.hid (below2 HWr.out hb5)
      have HQ5 := Lib.hid (kb hb5 HQr.out)
      have HL5 := Lib.hid (HLR.out.below hb5)
      obtain ⟨o5, p5, rfl⟩ := hv5.shape
      clear hv5 hb5 c0 c1
      obtain ⟨q0, q1⟩ := pbox HQ5.out
      go_wp2_with fail
      refine (HLO2.out _ _ HW5.out HL5.out).mono ?_
      rintro e w6 ⟨⟨v6, hv6, rfl⟩, hb6⟩
      have HV6 := Lib.hid hv6
      have HV56 := Lib.hid (HV5.out.below hb6)
      have HW6 := Lib.hid (below2 HW5.out hb6)
      obtain ⟨o6, p6, rfl⟩ := hv6.shape
      clear hv6 hb6 q0 q1
      go_wp2_with fail
      refine (same_any _ _ g g _ (by omega) HV56.out HV6.out).mono ?_
      rintro e w7 ⟨rfl, hb7⟩
      rw [decide_eq_true rfl]
      have HW7 := Lib.hid (below2 HW6.out hb7)
      clear hb7
      go_wp2_with fail
      refine (zknow_end HW7.out HTab.out HOT.out).mono ?_
      rintro e wb ⟨rfl, hbb⟩
      have HBB := Lib.hid hbb
      clear hbb
      go_wp2_with fail
      go_ret
      exact ⟨rfl, HBB.out⟩

set_option maxRecDepth 100000 in
/-- The row's contract, for every argument and every world. -/
theorem contract (H : Type) (enc : TypeId × Value → H) (W : World) (base : Nat) (args : Array Value) (ds gs : List (DataW H)) (before : List MemPlace)
    (hval : ∀ (j : Nat) t v, Tryz.f6.params[j]? = some t → args[j]? = some v → Value.okWide Tryz.prog W .any base t v)
    (hW : DataW.Whole enc Tryz.prog Tryz.f6.params.toList Rows.lowerAlikeSpec.vars false W args.toList ds gs before) (hL : laidMetH Tryz.prog Rows.lowerAlikeRow.laid W) :
    Calls Tryz.prog 6 args W fun e W' => ∃ v, e = .returned v ∧ Rows.lowerAlikeSpec.post enc Tryz.prog Tryz.f6 false true false false W args v W' := by
  have hW' := hW
  obtain ⟨p, q, hA0, hV, rfl, hfz, hnd⟩ := hW
  have hA : DataW.TrodAll enc Tryz.prog W 0 (fun _ => true) true Tryz.f6.params.toList args.toList ds p := hA0
  rw [Tryz.params6] at hA hval
  obtain ⟨v0, vs0, d0, ds0, p0, q0, hargs0, rfl, rfl, t0, r0⟩ := trodAll_cons hA
  obtain ⟨rfl, rfl, rfl⟩ := trodAll_nil r0
  obtain rfl : args = #[v0] := by cases args; simp_all
  obtain ⟨q, rv0, rfl, hL0, hk0, hl0, hm0⟩ := open_policy (hval 0 25 v0 rfl rfl) t0
  refine (walk rv0 q W hL0 hk0 hl0 hm0 (tab_of hL) (otab_of hL)).mono fun e W' ⟨he, hg⟩ => ?_
  subst he
  exact ⟨_, rfl, law_post (tb := 4) laidOut (fun t ht => by rw [Tryz.params6] at ht; revert t; exact of_decide_eq_true (by kernel_rfl)) (by kernel_rfl) Tryz.underlying4 rfl
    (fun ds h => by rw [Tryz.params6] at h; match ds, h with | [_], _ => rfl) hW' hg⟩

theorem laid_met (os : Os) : laidMet Tryz.prog Rows.lowerAlikeRow.laid ((laidWorld os).forCall (fun _ _ => 0) ⟨#[], #[.agg #[.slice none 0 0, .int .u32 0]], []⟩).memory :=
  laidMet_of_run' 8 (by kernel_rfl) (by kernel_rfl)
theorem reads (os : Os) {H : Type} (enc : TypeId × Value → H) : ∃ places, DataW.whole enc Tryz.prog ((laidWorld os).forCall (fun _ _ => 0) ⟨#[], #[.agg #[.slice none 0 0, .int .u32 0]], []⟩).memory Tryz.f6.params.toList Rows.lowerAlikeSpec.vars false #[Value.agg #[.slice none 0 0, .int .u32 0]].toList 8 = some ([.agg [.nil, .lit (.int .u32 0)]], [], places) :=
  ⟨[], by kernel_rfl⟩

set_option maxRecDepth 100000 in
theorem lifted (os : Os) (started : os.Started) (H : Type) (enc : TypeId × Value → H) (F : Stop.Interp) :
    ReturnsInHanded {} Tryz.checked os 6 .any ((OpenSpec.ofChange Rows.lowerAlikeSpec).preRow enc Tryz.prog Tryz.f6 Rows.lowerAlikeRow.domain false Rows.lowerAlikeRow.laid) (((OpenSpec.ofChange Rows.lowerAlikeSpec).at F).post enc Tryz.prog Tryz.f6 false true false false) := by
  obtain ⟨places, hx⟩ := reads os enc
  refine returnsInHanded_of_row (C := Tryz.checked) (s := OpenSpec.ofChange Rows.lowerAlikeSpec) own started (by kernel_rfl) Tryz.func6
    (witness_row_at (enc := enc) (C := Tryz.checked) false (laidWorld os) #[.agg #[.slice none 0 0, .int .u32 0]] rfl (by kernel_rfl) (by kernel_rfl) (by kernel_rfl)
      (OpenSpec.preRow_of_cond 8 hx (by kernel_rfl) (fun k hk => by cases hk) (by kernel_rfl) (laid_met os))) ?_
  intro W base args ds gs before hval hW _ _ _ hL _ _
  exact contract H enc W base args ds gs before hval hW hL

theorem said : Rows.LowerAlikeSaid :=
  OpenClaim.holds_of_cond 6 Tryz.f6 rfl rfl rfl rfl rfl rfl rfl ⟨rfl, rfl, rfl, rfl, rfl⟩ rfl rfl rfl rfl rfl (by kernel_rfl) Tryz.func6 (by kernel_rfl)
    (of_decide_eq_true (by kernel_rfl)) (by unfold Func.isWrapper; first | (rw [if_pos (by decide +kernel)]; kernel_rfl) | (rw [if_neg (by decide +kernel)]; exact ⟨rfl, rfl⟩))
    (fun os started H enc _ F => by rw [OpenClaim.pre_eq_preRow]; exact lifted os started H enc F)

/-- No parameter wants a stand-in; the program's own looks are off. -/
theorem plain (f : FuncId) (fn : Func) (hf : Tryz.pinned.checked.prog.funcNamed "hurdle/hurdlelaw13.LowerAlike" = some f) (hfn : Tryz.pinned.checked.prog.funcs[f]? = some fn) :
    false = Tryz.pinned.checked.prog.looks [] ∧ ∀ (j : Nat) t, fn.params[j]? = some t → Tryz.pinned.checked.prog.wantsStandIn t = false := by
  obtain rfl : f = 6 := Option.some.inj ((show Tryz.prog.funcNamed "hurdle/hurdlelaw13.LowerAlike" = some 6 by kernel_rfl).symm.trans hf) |>.symm
  obtain rfl : fn = Tryz.f6 := (Option.some.inj (Tryz.func6.symm.trans hfn)).symm
  refine ⟨by kernel_rfl, fun j t ht => ?_⟩
  have hm := Array.mem_of_getElem? ht
  rw [Tryz.params6] at hm
  have all : ∀ t ∈ (#[25] : Array TypeId).toList, Tryz.prog.wantsStandIn t = false := of_decide_eq_true (by kernel_rfl)
  exact all t (Array.mem_toList_iff.2 hm)

/-- The tied card. -/
theorem card : Rows.LowerAlikeCardSaid :=
  Claim7.holds_tied_plain_at .later [] _ _ _ _ said (fun _ h => by cases h) (by kernel_rfl) (fun _ h => by cases h) lowerAlike_row_tie rfl ⟨rfl, rfl⟩ (by kernel_rfl) rfl plain (by kernel_rfl)
end Go.Proofs.YtbekkdhlfkongaaGreatDoor.lowerAlike
