/-
  For every policy, rule, record and two places, in every world that has the listed tables as their initialisers lay them: the law DenoteShades returns true and changes nothing that was there.
-/
import Derived.Test.YtbhondjfilohdaaDoorProg
import Derived.WalkKit
import Derived.Laws.BitsAllLaws
import Derived.RowKit
import Derived.ProofKit
import Derived.Lib.Hide
import Derived.Laws.Rows
import Derived.Laws.ResultCell
import Derived.Laws.Entries
import Derived.Handy
import Derived.OwnWalk
import Derived.Laws.OwnMore
import Derived.Deep.Draws
import Derived.Laws.IdiomStrings
import Derived.Lib.BufferRead
import Derived.Maps.OwnSet
import Derived.BigQuiet
import Derived.IntWalk
import Derived.Deep.RegionHeld3
import Derived.BigRegion
import Derived.Lib.OthersKept
import Derived.Lib.QuietBelow
import Derived.Shelf.Strings.Builder1
import Derived.Shelf.Strings.Search1
import Derived.Lib.IndexLaws
import Derived.Laws.Tables
import Derived.Deep.DeepCutAuto
import Derived.Deep.Cut
import Derived.Deep.Slices
import Derived.Maps.RangeWalk
import Derived.StringKeys
import Derived.Lib.Split
import Derived.Deep.OwnRows
import Derived.Laws.Strings3
import Derived.Lib.Join
import Derived.Lib.MakeNoZero
import Derived.Lib.Builder
import Derived.Laws.IdiomCopy
import Derived.Test.YtbhondjfilohdaaDoorRows
import Derived.OpenShut
import Derived.Carry
import Derived.Deep.DeepHandedRow
import Derived.Lib.SmallJoins
import Derived.Laws.RangeAny
import Derived.Deep.LoopGhost
import Derived.WalkMore
import Derived.Deep.AppendLies
import Derived.Deep.RegionLaw
import Derived.Test.YtbhondjfilohdaaDoorCards
import Derived.Test.YtbhondjfilohdaaDoorTie
import Derived.Lib.LaidTab
import Derived.Stop.LaidErr
import Derived.Test.YtbhondjfilohdaaDoorPk1
import Derived.Test.YtbhondjfilohdaaDoorPk2
import Derived.Test.YtbhondjfilohdaaDoorPk3
import Derived.Test.YtbhondjfilohdaaDoorPk4
import Derived.Test.YtbhondjfilohdaaDoorPk5
namespace Go.Proofs.YtbhondjfilohdaaDoor.denoteShades
open Go.ChangeShapes Go.WideShapes Go.ChangeAt Go.RowKit

set_option maxRecDepth 100000 in
set_option maxHeartbeats 8000000 in
theorem walk (rv : Value) (q : Po) (cv : Value) (x : Rl) (d : Rec) (a b : Int) (w : World) (hL : LAt w rv q.rules) (hk : q.ok) (hl : q.rules.length ≤ 9223372036854775807) (hm : ∀ x ∈ q.rules, x.conds.length ≤ 9223372036854775807) (hC : CAt w cv x.conds) (hxk : x.ok) (hxl : x.conds.length ≤ 9223372036854775807) (hd : d.ok) (ha0 : 0 ≤ a) (ha1 : a ≤ 255) (hb0 : 0 ≤ b) (hb1 : b ≤ 255) (ht : Tab w) :
    Calls Tryd.prog 3 #[poV rv q.dflt, x.val cv, d.val, .int .u8 a, .int .u8 b] w fun e w' => e = .returned (.bool true) ∧ Below w.heap.size w w' := by
  have HTab := Lib.hid ht
  have HDo := Lib.hid hd
  obtain ⟨i0, hi, hz0, hz1, hz2⟩ := info_parts infoRl
  obtain ⟨ao, cap, rfl⟩ := hL.shape
  obtain ⟨co, ccap, rfl⟩ := hC.shape
  have HL := Lib.hid hL
  have HC := Lib.hid hC
  have HK := Lib.hid hk
  have HXK := Lib.hid hxk
  have HM := Lib.hid hm
  have HXL := Lib.hid hxl
  have HCR : Hid (∀ V, Below w.heap.size w V → Calls Tryd.prog 7 #[poV (.slice ao q.rules.length cap) q.dflt] V fun e w' => e = .returned (.bool q.right) ∧ Below V.heap.size V w') := Lib.hid (fun V hV => rright10_any _ q V (HL.out.below hV) HK.out hl HM.out)
  obtain ⟨W, hW, X0, X1, X2, HBx⟩ := box3 w (poB (.slice ao q.rules.length cap) q.dflt) (rlB x (.slice co x.conds.length ccap)) (.cells d.cells 32)
  have HP0 := Lib.hid X0
  have HX0 := Lib.hid X1
  have HD0 := Lib.hid X2
  have HB0 := Lib.hid HBx
  clear X0 X1 X2 HBx hL hC hk hxk hm hd ht hxl
  obtain ⟨n, hn⟩ : ∃ n, n = q.rules.length := ⟨_, rfl⟩
  rw [← hn] at HP0 HCR hl hW ⊢
  have HN := Lib.hid hn
  clear hn
  go_enter Tryd.func3, Tryd.ntmps3
  go_upto_region 1 with fail
  change Code.wp _ _ _ _ (((w.alloc (poB (.slice ao n cap) q.dflt)).alloc (rlB x (.slice co x.conds.length ccap))).alloc (.cells d.cells 32))
  rw [← hW]
  clear hW
  obtain ⟨c0, c1⟩ := pbox HP0.out
  go_wp2_with fail
  refine (HCR.out _ HB0.out).mono ?_
  rintro e w1 ⟨rfl, hb1'⟩
  have HB1 := Lib.hid (below2 HB0.out hb1')
  have HP1 := Lib.hid (kb hb1' HP0.out)
  have HX1 := Lib.hid (kb hb1' HX0.out)
  have HD1 := Lib.hid (kb hb1' HD0.out)
  clear hb1' c0 c1 HP0 HX0 HD0 HB0
  cases hr : q.right
  · clear hr
    go_wp2_with fail
    refine (eknow_end HB1.out HTab.out).mono ?_
    rintro e wb ⟨rfl, hbb⟩
    have HBB := Lib.hid hbb
    clear hbb
    go_wp2_with fail
    go_ret
    exact ⟨rfl, HBB.out⟩
  have HR := Lib.hid hr
  clear hr
  obtain ⟨c0, c1⟩ := pbox HP1.out
  by_cases hn0 : n = 0
  · have e0 : ((n : Int) == 0) = true := by simp; omega
    clear hn0
    go_wp2_with fail
    refine (eknow_end HB1.out HTab.out).mono ?_
    rintro e wb ⟨rfl, hbb⟩
    have HBB := Lib.hid hbb
    clear hbb
    go_wp2_with fail
    go_ret
    exact ⟨rfl, HBB.out⟩
  have e0 : ((n : Int) == 0) = false := by simp; omega
  by_cases hn60 : 60 < n
  · have e1 : decide ((60 : Int) < (n : Int)) = true := by simp; omega
    clear hn0 hn60
    go_wp2_with fail
    refine (eknow_end HB1.out HTab.out).mono ?_
    rintro e wb ⟨rfl, hbb⟩
    have HBB := Lib.hid hbb
    clear hbb
    go_wp2_with fail
    go_ret
    exact ⟨rfl, HBB.out⟩
  have e1 : decide ((60 : Int) < (n : Int)) = false := by simp; omega
  obtain ⟨k, hk⟩ : ∃ k : Nat, b % (n : Int) = k := ⟨(b % (n : Int)).toNat, by rw [Int.toNat_of_nonneg (Int.emod_nonneg _ (by omega))]⟩
  have hkn : k < n := by have := Int.emod_lt_of_pos b (show (0 : Int) < (n : Int) by omega); omega
  go_upto_region 4 with fail
  rw [hk]
  clear hk hb0 hb1
  go_upto_region 5 with fail
  obtain ⟨W4, hW4⟩ : ∃ V, V = w1.alloc (poB (.slice none 0 0) q.dflt) := ⟨_, rfl⟩
  have hb4 : Below w1.heap.size w1 W4 := by rw [hW4]; exact ba _ (Below.refl _ _)
  have HQ4 : Hid (W4.heap[w1.heap.size]? = some (poB (.slice none 0 0) q.dflt)) := Lib.hid (by rw [hW4]; exact heap_alloc_new w1 _)
  have HB4 := Lib.hid (below2 HB1.out hb4)
  have HP4 := Lib.hid (kb hb4 HP1.out)
  have HX4 := Lib.hid (kb hb4 HX1.out)
  have HD4 := Lib.hid (kb hb4 HD1.out)
  have hg2 : w.heap.size + 2 < w1.heap.size := lt_of_block HD1.out
  change Code.wp _ _ _ _ (w1.alloc (poB (.slice none 0 0) q.dflt))
  rw [← hW4]
  clear hW4 hb4 c0 c1 HB1 HP1 HX1 HD1
  generalize w1.heap.size = g at *
  obtain ⟨l, hlr, hq, hcs⟩ := HL.out
  rw [← HN.out] at hq
  have hll : (l.map rlQ).length = n := by rw [List.length_map, HN.out, hlr, List.length_map]
  obtain ⟨c0, c1⟩ := pbox HP4.out
  obtain ⟨b0, b1⟩ := pbox HQ4.out
  have f0 := free_in HQ4.out 0
  have hgW : g < W4.heap.size := lt_of_block HQ4.out
  have HLR := Lib.hid hlr
  have HQQ := Lib.hid hq
  have HCS := Lib.hid hcs
  have HLL := Lib.hid hll
  clear hlr hq hcs hll
  go_wp2_with (at_builtin; go_loud (refine wpList_append_src _ rfl _ _ 22 rfl W4.heap.size 28 i0 (.agg #[.int .u32 0, .int .u32 0, .slice none 0 0, .int .u32 0]) 4 40 Tryd.underlying22 hi hz0 hz1 hz2 rfl (by decide) _ 0 [] rfl (World.ownsRow_nil _ _ _ _) (.slice ao n cap) n (qcells (l.map rlQ)) rfl (QAt.src_n (HQQ.out.below HB4.out) HLL.out) (rules_one HCS.out) (by unfold maxLen; omega) (by omega) (Nat.le_refl _) ?_))
  intro v5 w5 hO hg
  have hB5 := grown_below (Below.refl W4.heap.size W4) (World.ownsRow_nil W4 W4.heap.size 28 4) hg (Nat.le_refl _)
  have HB5 := Lib.hid (below2 HB4.out hB5)
  have HP5 := Lib.hid (kb hB5 HP4.out)
  have HX5 := Lib.hid (kb hB5 HX4.out)
  have HD5 := Lib.hid (kb hB5 HD4.out)
  have HQ5 := Lib.hid (kb hB5 HQ4.out)
  obtain ⟨gb, cap5, rfl, hgb⟩ := own_block hO (by omega)
  have HO5 := Lib.hid hO
  have hgb5 : gb < w5.heap.size := own_lt hO
  clear hO hg hB5 c0 c1 b0 b1 f0 HP4 HX4 HD4 HQ4 HB4
  have b0 : w5.cell? ⟨g, 0, none⟩ = some (.slice none 0 0) := cell_in HQ5.out 0
  have f0 := free_in HQ5.out 0
  have hgW5 : g < w5.heap.size := lt_of_block HQ5.out
  go_upto_region 6 with fail
  have hput := put_rules HQ5.out (.slice (some ⟨gb, 0, none⟩) n cap5)
  obtain ⟨W6, hW6⟩ : ∃ V, V = w5.setCell ⟨g, 0, none⟩ (.slice (some ⟨gb, 0, none⟩) n cap5) := ⟨_, rfl⟩
  change RowPut w5 (w5.setCell ⟨g, 0, none⟩ (.slice (some ⟨gb, 0, none⟩) n cap5)) _ _ at hput
  rw [← hW6] at hput ⊢
  have HP6 := Lib.hid (hput.keep (by omega : w.heap.size ≠ g) HP5.out)
  have HX6 := Lib.hid (hput.keep (by omega : w.heap.size + 1 ≠ g) HX5.out)
  have HD6 := Lib.hid (hput.keep (by omega : w.heap.size + 2 ≠ g) HD5.out)
  have HQ6 := Lib.hid hput.row
  have HB6 := Lib.hid (hput.below HB5.out (by omega))
  have HO6 := Lib.hid (own_put HO5.out hput (by omega))
  have hgb6 : gb < W6.heap.size := by rw [hput.size]; exact hgb5
  clear hW6 hput b0 f0 hgW5 HP5 HX5 HD5 HQ5 HB5 HO5 hgb5
  obtain ⟨c0, c1⟩ := pbox HP6.out
  obtain ⟨b0, b1⟩ := pbox HQ6.out
  obtain ⟨x0, x1, x2, x3⟩ := rbox HX6.out
  obtain ⟨rb, off, cvk, hao, hrb, hcvk, e0', e1', e2', e3'⟩ := (HL.out.rows_at HN.out) k hkn
  obtain rfl := hao
  obtain ⟨act, hact⟩ : ∃ act, act = (q.rules[k]'(by rw [← HN.out]; exact hkn)).act := ⟨_, rfl⟩
  rw [← hact] at e3'
  have e3 := (HB6.out.cell (p := ⟨rb, _, none⟩) hrb).trans e3'
  have HAct := Lib.hid hact
  clear hact e0' e1' e2' e3' hcvk
  have hqlen : (qcells (l.map rlQ)).length = n * 4 := by rw [qcells_len, HLL.out]
  have k0 := own_has HO6.out (j := k * 4) (by omega)
  have k1 := own_has HO6.out (j := k * 4 + 1) (by omega)
  have k2 := own_has HO6.out (j := k * 4 + 2) (by omega)
  have k3 := own_has HO6.out (j := k * 4 + 3) (by omega)
  obtain ⟨o0, k0⟩ := k0
  obtain ⟨o1, k1⟩ := k1
  obtain ⟨o2, k2⟩ := k2
  obtain ⟨o3, k3⟩ := k3
  have f0 := HO6.out.frozenAt (k * 4)
  have f1 := HO6.out.frozenAt (k * 4 + 1)
  have f2 := HO6.out.frozenAt (k * 4 + 2)
  have f3 := HO6.out.frozenAt (k * 4 + 3)
  have l0 : (k : Int) < (n : Int) := by omega
  have l1 : (0 : Int) ≤ (k : Int) := by omega
  have l2 : (k : Int).toNat = k := by omega
  have hk5 : k < (l.map rlQ).length := by rw [HLL.out]; exact hkn
  have HST := Lib.hid (bdN (own_four_grown HO6.out k (.int .u32 (x.arch : Nat), .int .u32 (x.nr : Nat), .slice none 0 0, .int .u32 (act : Nat))) 1)
  have HOS := Lib.hid (own_four HO6.out k (.int .u32 (x.arch : Nat), .int .u32 (x.nr : Nat), .slice none 0 0, .int .u32 (act : Nat)) hk5)
  have hs46 : w.heap.size + 2 < W4.heap.size := by omega
  go_region_held3 (fun V => V.cell? ⟨w.heap.size, 0, none⟩ = some (.slice (some ⟨rb, off, none⟩) n cap) ∧ V.cell? ⟨w.heap.size + 1, 0, none⟩ = some (.int .u32 (x.arch : Nat)) ∧ V.cell? ⟨w.heap.size + 1, 1, none⟩ = some (.int .u32 (x.nr : Nat)) ∧ V.cell? ⟨g, 0, none⟩ = some (.slice (some ⟨gb, 0, none⟩) n cap5) ∧ V.cell? ⟨rb, off + k * 4 + 3, none⟩ = some (.int .u32 (act : Nat)))
      (first | exact ⟨c0, x0, x1, b0, e3⟩ | exact ⟨(HST.out.cell (p := ⟨w.heap.size, 0, none⟩) (by show w.heap.size < _; omega)).trans c0, (HST.out.cell (p := ⟨w.heap.size + 1, 0, none⟩) (by show w.heap.size + 1 < _; omega)).trans x0, (HST.out.cell (p := ⟨w.heap.size + 1, 1, none⟩) (by show w.heap.size + 1 < _; omega)).trans x1, (HST.out.cell (p := ⟨g, 0, none⟩) hgW).trans b0, (HST.out.cell (p := ⟨rb, off + k * 4 + 3, none⟩) (by show rb < _; omega)).trans e3⟩ | go_keep) (fail)
  obtain ⟨W7, hW7⟩ : ∃ V, V = (((((W6.setCell ⟨gb, k * 4, none⟩ (.int .u32 (x.arch : Nat))).setCell ⟨gb, k * 4 + 1, none⟩ (.int .u32 (x.nr : Nat))).setCell ⟨gb, k * 4 + 2, none⟩ (.slice none 0 0)).setCell ⟨gb, k * 4 + 3, none⟩ (.int .u32 (act : Nat))).drew) := ⟨_, rfl⟩
  have hB7 : Below W4.heap.size W6 W7 := by rw [hW7]; exact HST.out
  have hO7 : W7.ownsRow W4.heap.size 28 4 (.slice (some ⟨gb, 0, none⟩) n cap5) n (qcells ((l.map rlQ).set k (.int .u32 (x.arch : Nat), .int .u32 (x.nr : Nat), .slice none 0 0, .int .u32 (act : Nat)))) := by rw [hW7]; exact HOS.out
  rw [← hW7]
  have HP7 : Hid (W7.heap[w.heap.size]? = some (poB (.slice (some ⟨rb, off, none⟩) n cap) q.dflt)) := Lib.hid ((hB7.block _ (by omega)).trans HP6.out)
  have HX7 : Hid (W7.heap[w.heap.size + 1]? = some (rlB x (.slice co x.conds.length ccap))) := Lib.hid ((hB7.block _ (by omega)).trans HX6.out)
  have HD7 : Hid (W7.heap[w.heap.size + 2]? = some (.cells d.cells 32)) := Lib.hid ((hB7.block _ (by omega)).trans HD6.out)
  have HQ7 : Hid (W7.heap[g]? = some (poB (.slice (some ⟨gb, 0, none⟩) n cap5) q.dflt)) := Lib.hid ((hB7.block _ hgW).trans HQ6.out)
  have HB7 := Lib.hid (HB6.out.trans (hB7.mono (by omega)))
  obtain ⟨y, hy⟩ : ∃ y : Rl, y = ⟨x.arch, x.nr, act, []⟩ := ⟨_, rfl⟩
  obtain ⟨R2, hR2⟩ : ∃ R2, R2 = q.rules.set k y := ⟨_, rfl⟩
  have hR2l : R2.length = n := by rw [hR2, List.length_set, HN.out]
  have HL2 : Hid (∀ V, Below W7.heap.size W7 V → LAt V (.slice (some ⟨gb, 0, none⟩) R2.length cap5) R2) := Lib.hid (fun V hV => by
    rw [hR2l]
    refine ⟨l.set k (y, .slice none 0 0), by rw [hR2, HLR.out, List.map_set], ?_, fun p hp => ?_⟩
    · refine QAt.own (base := W4.heap.size) (e := 28) (n := n) (own_below ?_ hV) (by rw [List.length_map, List.length_set]; have := HLL.out; rw [List.length_map] at this; exact this.symm)
      rw [List.map_set, hy]
      exact hO7
    · rcases List.mem_or_eq_of_mem_set hp with hp | rfl
      · exact (HCS.out p hp).below (below2 HB7.out hV)
      · rw [hy]
        exact CAt.nil V)
  have HCap := Lib.hid (CapOk.own hO7)
  have hyk : y.ok := by
    rw [hy]
    refine ⟨HXK.out.1, HXK.out.2.1, ?_, by simp⟩
    rw [HAct.out]
    exact (HK.out.2 _ (List.getElem_mem _)).2.2.1
  have hmem2 : ∀ z ∈ R2, z = y ∨ z ∈ q.rules := fun z hz => by
    rw [hR2] at hz
    exact (List.mem_or_eq_of_mem_set hz).symm
  have hok2 : (⟨R2, q.dflt⟩ : Po).ok := ⟨HK.out.1, fun z hz => by
    rcases hmem2 z hz with rfl | hz
    · exact hyk
    · exact HK.out.2 z hz⟩
  have hm2 : ∀ z ∈ R2, z.conds.length ≤ 9223372036854775807 := fun z hz => by
    rcases hmem2 z hz with rfl | hz
    · rw [hy]; simp
    · exact HM.out z hz
  have HK2 := Lib.hid hok2
  have HM2 := Lib.hid hm2
  have hget : R2[k]? = some ⟨x.arch, x.nr, act, []⟩ := by
    rw [hR2, ← hy, List.getElem?_set, if_pos rfl, if_pos (by rw [← HN.out]; exact hkn)]
  have HGet := Lib.hid hget
  obtain ⟨j, hj⟩ : ∃ j : Nat, a % ((n : Int) - (k : Int)) = j := ⟨(a % ((n : Int) - (k : Int))).toNat, by rw [Int.toNat_of_nonneg (Int.emod_nonneg _ (by omega))]⟩
  have hjn : j < n - k := by have := Int.emod_lt_of_pos a (show (0 : Int) < (n : Int) - (k : Int) by omega); omega
  obtain ⟨i, hji⟩ : ∃ i : Nat, (k : Int) + 1 + (j : Int) = (i : Int) := ⟨k + 1 + j, by omega⟩
  have hki : k < i := by omega
  have hin : i ≤ n := by omega
  have HJI := Lib.hid hji
  have HJ := Lib.hid hj
  have HR2L := Lib.hid hR2l
  have hnk : ¬ ((n : Int) - (k : Int) = 0) := by omega
  have hnk0 : (0 : Int) < (n : Int) - (k : Int) := by omega
  have hwr : wrap64 ((k : Int) + 1 + a % ((n : Int) - (k : Int))) = (i : Int) := by
    rw [HJ.out, HJI.out]
    unfold wrap64
    omega
  clear hW7 hB7 hO7 HST HOS hget hok2 hm2 hmem2 hyk hR2 hy hji hj hR2l k0 k1 k2 k3 f0 f1 f2 f3 c0 c1 b0 b1 x0 x1 x2 x3 e3 HP6 HX6 HD6 HQ6 HB6 HO6 hgb6 hgb hqlen hk5 HLR HQQ HCS HLL HAct
  obtain ⟨c0, c1⟩ := pbox HP7.out
  go_upto_region 8 with fail
  rw [hwr]
  clear hwr HJ HJI hnk hnk0 c0 c1 ha0 ha1
  obtain ⟨b0, b1⟩ := pbox HQ7.out
  obtain ⟨x0, x1, x2, x3⟩ := rbox HX7.out
  have HPT : Hid (Calls Tryd.prog 9 #[poV (.slice (some ⟨gb, 0, none⟩) n cap5) q.dflt, .int .i64 (i : Nat), x.val (.slice co x.conds.length ccap)] W7 fun e w' => PutEnd ⟨R2, q.dflt⟩ i x w' e ∧ Below W7.heap.size W7 w') := Lib.hid (by
    have h := HL2.out W7 (Below.refl _ _)
    have h2 := eput_any _ _ ⟨R2, q.dflt⟩ i x W7 h (by rw [HR2L.out]; exact HCap.out) (HC.out.below HB7.out) (by show i ≤ R2.length; rw [HR2L.out]; exact hin) (by show R2.length ≤ _; rw [HR2L.out]; omega)
    rw [HR2L.out] at h2
    exact h2)
  go_wp2_with fail
  refine HPT.out.mono ?_
  rintro e w8 ⟨⟨rv8, hL8, _, rfl⟩, hb8⟩
  obtain ⟨m, hm⟩ : ∃ m, m = (putR R2 i x).length := ⟨_, rfl⟩
  have hm1 : m ≤ 101 := by rw [hm, putR_len (by rw [HR2L.out]; exact hin), HR2L.out]; omega
  obtain ⟨ao8, cap8, hrv⟩ := hL8.shape
  have hrv2 : rv8 = .slice ao8 m cap8 := by rw [hm]; exact hrv
  subst hrv2
  have HLQ : Hid (LAt w8 (.slice ao8 m cap8) (putR R2 i x)) := Lib.hid hL8
  have HMM := Lib.hid hm
  have HB8 := Lib.hid (below2 HB7.out hb8)
  have HW8 := Lib.hid hb8
  have HD8 := Lib.hid (kb hb8 HD7.out)
  have HQ8 := Lib.hid (kb hb8 HQ7.out)
  clear hb8 hL8 b0 b1 x0 x1 x2 x3 HP7 HX7 HD7 HQ7 HB7 HPT hm hrv
  go_upto_region 9 with fail
  obtain ⟨W9, hW9⟩ : ∃ V, V = w8.alloc (poB (.slice ao8 m cap8) q.dflt) := ⟨_, rfl⟩
  have hb9 : Below w8.heap.size w8 W9 := by rw [hW9]; exact ba _ (Below.refl _ _)
  have HM9 : Hid (W9.heap[w8.heap.size]? = some (poB (.slice ao8 m cap8) q.dflt)) := Lib.hid (by rw [hW9]; exact heap_alloc_new w8 _)
  have HB9 := Lib.hid (below2 HB8.out hb9)
  have HW9 := Lib.hid (below2 HW8.out hb9)
  have HD9 := Lib.hid (kb hb9 HD8.out)
  have HQ9 := Lib.hid (kb hb9 HQ8.out)
  have HLV : Hid (∀ V, Below W9.heap.size W9 V → LAt V (.slice ao8 m cap8) (putR R2 i x)) := Lib.hid (fun V hV => HLQ.out.below (below2 hb9 hV))
  rw [← hW9]
  clear hW9 hb9 HB8 HW8 HD8 HQ8 HLQ
  generalize w8.heap.size = gm at *
  obtain ⟨m0, m1⟩ := pbox HM9.out
  have HQK : Hid ((⟨putR R2 i x, q.dflt⟩ : Po).ok) := Lib.hid (putR_ok HK2.out HXK.out)
  have HQM : Hid (∀ y ∈ putR R2 i x, y.conds.length ≤ 9223372036854775807) := Lib.hid (fun y hy => by
    rcases putR_mem hy with rfl | hy
    · exact HXL.out
    · exact HM2.out y hy)
  go_wp2_with fail
  refine (rright10_any _ ⟨putR R2 i x, q.dflt⟩ _ (HLV.out _ (Below.refl _ _)) HQK.out (by show (putR R2 i x).length ≤ _; rw [← HMM.out]; omega) HQM.out).mono ?_
  rintro e w10 ⟨rfl, hb10⟩
  have HV10 := Lib.hid hb10
  have HB10 := Lib.hid (below2 HB9.out hb10)
  have HW10 := Lib.hid (below2 HW9.out hb10)
  have HD10 := Lib.hid (kb hb10 HD9.out)
  have HQ10 := Lib.hid (kb hb10 HQ9.out)
  have HM10 := Lib.hid (kb hb10 HM9.out)
  clear hb10 m0 m1 HB9 HW9 HD9 HQ9 HM9
  cases hr : (⟨putR R2 i x, q.dflt⟩ : Po).right
  · clear hr
    go_wp2_with fail
    refine (eknow_end HB10.out HTab.out).mono ?_
    rintro e wb ⟨rfl, hbb⟩
    have HBB := Lib.hid hbb
    clear hbb
    go_wp2_with fail
    go_ret
    exact ⟨rfl, HBB.out⟩
  have HRQ := Lib.hid hr
  have HR2 : Hid ((⟨R2, q.dflt⟩ : Po).right = true) := Lib.hid (by
    obtain ⟨_, hda, hall⟩ := po_right hr
    exact right_po (by show R2.length ≤ 64; rw [HR2L.out]; omega) hda (fun z hz => hall z (mem_putR hz)))
  obtain ⟨J, hJ⟩ : ∃ J, judgeR R2 q.dflt d = J := ⟨_, rfl⟩
  have hJ2 : judgeR (putR R2 i x) q.dflt d = J := by rw [← hJ]; exact judge_shade R2 x q.dflt act d hki (by rw [HR2L.out]; exact hin) HGet.out
  have HJ := Lib.hid hJ
  have HJ2 := Lib.hid hJ2
  clear hr hJ hJ2
  obtain ⟨b0, b1⟩ := pbox HQ10.out
  obtain ⟨d0, d1, d2, d3, d4, d5, d6, d7, d8⟩ := rec_cells HD10.out
  have HJC : Hid (Calls Tryd.prog 10 #[poV (.slice (some ⟨gb, 0, none⟩) n cap5) q.dflt, d.val] w10 fun e w' => e = .returned (.tuple #[.int .u32 (J : Nat), .int .i64 0]) ∧ Below w10.heap.size w10 w') := Lib.hid (by
    have h := ejudge_good _ ⟨R2, q.dflt⟩ d J w10 (HL2.out _ HW10.out) HK2.out HR2.out HDo.out HJ.out (HTab.out.below HB10.out)
    rw [HR2L.out] at h
    exact h)
  go_wp2_with fail
  refine HJC.out.mono ?_
  rintro e w11 ⟨rfl, hb11⟩
  have HV11 := Lib.hid (below2 HV10.out hb11)
  have HB11 := Lib.hid (below2 HB10.out hb11)
  have HD11 := Lib.hid (kb hb11 HD10.out)
  have HM11 := Lib.hid (kb hb11 HM10.out)
  clear hb11 b0 b1 d0 d1 d2 d3 d4 d5 d6 d7 d8 HD10 HM10 HQ10 HJC
  obtain ⟨m0, m1⟩ := pbox HM11.out
  obtain ⟨d0, d1, d2, d3, d4, d5, d6, d7, d8⟩ := rec_cells HD11.out
  go_wp2_with fail
  refine (ejudge_good _ ⟨putR R2 i x, q.dflt⟩ d J _ (HLV.out _ HV11.out) HQK.out HRQ.out HDo.out HJ2.out (HTab.out.below HB11.out)).mono ?_
  rintro e w12 ⟨rfl, hb12⟩
  have HB12 := Lib.hid (below2 HB11.out hb12)
  clear hb12 m0 m1 d0 d1 d2 d3 d4 d5 d6 d7 d8 HD11 HM11
  have e1 : ((J : Int) == (J : Int)) = true := by simp
  go_wp2_with fail
  refine (eknow_end HB12.out HTab.out).mono ?_
  rintro e wb ⟨rfl, hbb⟩
  have HBB := Lib.hid hbb
  clear hbb
  go_wp2_with fail
  go_ret
  exact ⟨rfl, HBB.out⟩

set_option maxRecDepth 100000 in
/-- The row's contract, for every argument and every world. -/
theorem contract (H : Type) (enc : TypeId × Value → H) (W : World) (base : Nat) (args : Array Value) (ds gs : List (DataW H)) (before : List MemPlace)
    (hval : ∀ (j : Nat) t v, Tryd.f3.params[j]? = some t → args[j]? = some v → Value.okWide Tryd.prog W .any base t v)
    (hW : DataW.Whole enc Tryd.prog Tryd.f3.params.toList Rows.denoteShadesSpec.vars false W args.toList ds gs before) (hL : laidMetH Tryd.prog Rows.denoteShadesRow.laid W) :
    Calls Tryd.prog 3 args W fun e W' => ∃ v, e = .returned v ∧ Rows.denoteShadesSpec.post enc Tryd.prog Tryd.f3 false true false false W args v W' := by
  have hW' := hW
  obtain ⟨p, q, hA0, hV, rfl, hfz, hnd⟩ := hW
  have hA : DataW.TrodAll enc Tryd.prog W 0 (fun _ => true) true Tryd.f3.params.toList args.toList ds p := hA0
  rw [Tryd.params3] at hA hval
  obtain ⟨v0, vs0, d0, ds0, p0, q0, hargs0, rfl, rfl, t0, r0⟩ := trodAll_cons hA
  obtain ⟨v1, vs1, d1, ds1, p1, q1, hargs1, rfl, rfl, t1, r1⟩ := trodAll_cons r0
  obtain ⟨v2, vs2, d2, ds2, p2, q2, hargs2, rfl, rfl, t2, r2⟩ := trodAll_cons r1
  obtain ⟨v3, vs3, d3, ds3, p3, q3, hargs3, rfl, rfl, t3, r3⟩ := trodAll_cons r2
  obtain ⟨v4, vs4, d4, ds4, p4, q4, hargs4, rfl, rfl, t4, r4⟩ := trodAll_cons r3
  obtain ⟨rfl, rfl, rfl⟩ := trodAll_nil r4
  obtain rfl : args = #[v0, v1, v2, v3, v4] := by cases args; simp_all
  obtain ⟨q, rv0, rfl, hL0, hk0, hl0, hm0⟩ := open_policy (hval 0 25 v0 rfl rfl) t0
  obtain ⟨x, cv1, rfl, hC1, hk1, hl1⟩ := open_rule (hval 1 28 v1 rfl rfl) t1
  obtain ⟨d, rfl, hd2⟩ := open_data (hval 2 32 v2 rfl rfl) t2
  obtain ⟨a, rfl, rfl, rfl, wf3⟩ := open_int Tryd.underlying5 (hval 3 5 v3 rfl rfl) t3
  have bd3 := bounds_u8 wf3
  obtain ⟨b, rfl, rfl, rfl, wf4⟩ := open_int Tryd.underlying5 (hval 4 5 v4 rfl rfl) t4
  have bd4 := bounds_u8 wf4
  refine (walk rv0 q cv1 x d a b W hL0 hk0 hl0 hm0 hC1 hk1 hl1 hd2 bd3.1 bd3.2 bd4.1 bd4.2 (qtab_of hL)).mono fun e W' ⟨he, hg⟩ => ?_
  subst he
  exact ⟨_, rfl, law_post (tb := 4) laidOut (fun t ht => by rw [Tryd.params3] at ht; revert t; exact of_decide_eq_true (by kernel_rfl)) (by kernel_rfl) Tryd.underlying4 rfl
    (fun ds h => by rw [Tryd.params3] at h; match ds, h with | [_, _, _, _, _], _ => rfl) hW' hg⟩

theorem laid_met (os : Os) : laidMet Tryd.prog Rows.denoteShadesRow.laid ((laidWorldQ os).forCall (fun _ _ => 0) ⟨#[], #[.agg #[.slice none 0 0, .int .u32 0], .agg #[.int .u32 0, .int .u32 0, .slice none 0 0, .int .u32 0], .agg #[.int .u32 0, .int .u32 0, .int .u64 0, .int .u64 0, .int .u64 0, .int .u64 0, .int .u64 0, .int .u64 0, .int .u64 0], .int .u8 0, .int .u8 0], []⟩).memory :=
  laidMet_of_run' 8 (by kernel_rfl) (by kernel_rfl)
theorem reads (os : Os) {H : Type} (enc : TypeId × Value → H) : ∃ places, DataW.whole enc Tryd.prog ((laidWorldQ os).forCall (fun _ _ => 0) ⟨#[], #[.agg #[.slice none 0 0, .int .u32 0], .agg #[.int .u32 0, .int .u32 0, .slice none 0 0, .int .u32 0], .agg #[.int .u32 0, .int .u32 0, .int .u64 0, .int .u64 0, .int .u64 0, .int .u64 0, .int .u64 0, .int .u64 0, .int .u64 0], .int .u8 0, .int .u8 0], []⟩).memory Tryd.f3.params.toList Rows.denoteShadesSpec.vars false #[Value.agg #[.slice none 0 0, .int .u32 0], Value.agg #[.int .u32 0, .int .u32 0, .slice none 0 0, .int .u32 0], Value.agg #[.int .u32 0, .int .u32 0, .int .u64 0, .int .u64 0, .int .u64 0, .int .u64 0, .int .u64 0, .int .u64 0, .int .u64 0], Value.int .u8 0, Value.int .u8 0].toList 8 = some ([.agg [.nil, .lit (.int .u32 0)], .agg [.lit (.int .u32 0), .lit (.int .u32 0), .nil, .lit (.int .u32 0)], .agg [.lit (.int .u32 0), .lit (.int .u32 0), .lit (.int .u64 0), .agg [.lit (.int .u64 0), .lit (.int .u64 0), .lit (.int .u64 0), .lit (.int .u64 0), .lit (.int .u64 0), .lit (.int .u64 0)]], .lit (.int .u8 0), .lit (.int .u8 0)], [], places) :=
  ⟨[], by kernel_rfl⟩

set_option maxRecDepth 100000 in
theorem lifted (os : Os) (started : os.Started) (H : Type) (enc : TypeId × Value → H) (F : Stop.Interp) :
    ReturnsInHanded {} Tryd.checked os 3 .any ((OpenSpec.ofChange Rows.denoteShadesSpec).preRow enc Tryd.prog Tryd.f3 Rows.denoteShadesRow.domain false Rows.denoteShadesRow.laid) (((OpenSpec.ofChange Rows.denoteShadesSpec).at F).post enc Tryd.prog Tryd.f3 false true false false) := by
  obtain ⟨places, hx⟩ := reads os enc
  refine returnsInHanded_of_row (C := Tryd.checked) (s := OpenSpec.ofChange Rows.denoteShadesSpec) own started (by kernel_rfl) Tryd.func3
    (witness_row_at (enc := enc) (C := Tryd.checked) false (laidWorldQ os) #[.agg #[.slice none 0 0, .int .u32 0], .agg #[.int .u32 0, .int .u32 0, .slice none 0 0, .int .u32 0], .agg #[.int .u32 0, .int .u32 0, .int .u64 0, .int .u64 0, .int .u64 0, .int .u64 0, .int .u64 0, .int .u64 0, .int .u64 0], .int .u8 0, .int .u8 0] rfl (by kernel_rfl) (by kernel_rfl) (by kernel_rfl)
      (OpenSpec.preRow_of_cond 8 hx (by kernel_rfl) (fun k hk => by cases hk) (by kernel_rfl) (laid_met os))) ?_
  intro W base args ds gs before hval hW _ _ _ hL _ _
  exact contract H enc W base args ds gs before hval hW hL

theorem said : Rows.DenoteShadesSaid :=
  OpenClaim.holds_of_cond 3 Tryd.f3 rfl rfl rfl rfl rfl rfl rfl ⟨rfl, rfl, rfl, rfl, rfl⟩ rfl rfl rfl rfl rfl (by kernel_rfl) Tryd.func3 (by kernel_rfl)
    (of_decide_eq_true (by kernel_rfl)) (by unfold Func.isWrapper; first | (rw [if_pos (by decide +kernel)]; kernel_rfl) | (rw [if_neg (by decide +kernel)]; exact ⟨rfl, rfl⟩))
    (fun os started H enc _ F => by rw [OpenClaim.pre_eq_preRow]; exact lifted os started H enc F)

/-- No parameter wants a stand-in; the program's own looks are off. -/
theorem plain (f : FuncId) (fn : Func) (hf : Tryd.pinned.checked.prog.funcNamed "hurdle/hurdlelaw11.DenoteShades" = some f) (hfn : Tryd.pinned.checked.prog.funcs[f]? = some fn) :
    false = Tryd.pinned.checked.prog.looks [] ∧ ∀ (j : Nat) t, fn.params[j]? = some t → Tryd.pinned.checked.prog.wantsStandIn t = false := by
  obtain rfl : f = 3 := Option.some.inj ((show Tryd.prog.funcNamed "hurdle/hurdlelaw11.DenoteShades" = some 3 by kernel_rfl).symm.trans hf) |>.symm
  obtain rfl : fn = Tryd.f3 := (Option.some.inj (Tryd.func3.symm.trans hfn)).symm
  refine ⟨by kernel_rfl, fun j t ht => ?_⟩
  have hm := Array.mem_of_getElem? ht
  rw [Tryd.params3] at hm
  have all : ∀ t ∈ (#[25, 28, 32, 5, 5] : Array TypeId).toList, Tryd.prog.wantsStandIn t = false := of_decide_eq_true (by kernel_rfl)
  exact all t (Array.mem_toList_iff.2 hm)

/-- The tied card. -/
theorem card : Rows.DenoteShadesCardSaid :=
  Claim7.holds_tied_plain_at .later [] _ _ _ _ said (fun _ h => by cases h) (by kernel_rfl) (fun _ h => by cases h) denoteShades_row_tie rfl ⟨rfl, rfl⟩ (by kernel_rfl) rfl plain (by kernel_rfl)
end Go.Proofs.YtbhondjfilohdaaDoor.denoteShades
