/-
  For every policy, record and place, in every world that has the listed tables as their initialisers lay them: the law DenoteSwaps returns true and changes nothing that was there.
-/
import Derived.BigQuiet
import Derived.Test.YtbhondjfilohdaaDoorProg
import Derived.WalkKit
import Derived.Laws.BitsAllLaws
import Derived.RowKit
import Derived.ProofKit
import Derived.Lib.Hide
import Derived.Laws.Rows
import Derived.Laws.ResultCell
import Derived.Laws.Entries
import Derived.Handy
import Derived.OwnWalk
import Derived.Laws.OwnMore
import Derived.Deep.Draws
import Derived.Laws.IdiomStrings
import Derived.Lib.BufferRead
import Derived.Maps.OwnSet
import Derived.IntWalk
import Derived.Deep.RegionHeld3
import Derived.BigRegion
import Derived.Lib.OthersKept
import Derived.Lib.QuietBelow
import Derived.Shelf.Strings.Builder1
import Derived.Shelf.Strings.Search1
import Derived.Lib.IndexLaws
import Derived.Laws.Tables
import Derived.Deep.DeepCutAuto
import Derived.Deep.Cut
import Derived.Deep.Slices
import Derived.Maps.RangeWalk
import Derived.StringKeys
import Derived.Lib.Split
import Derived.Deep.OwnRows
import Derived.Laws.Strings3
import Derived.Lib.Join
import Derived.Lib.MakeNoZero
import Derived.Lib.Builder
import Derived.Laws.IdiomCopy
import Derived.Test.YtbhondjfilohdaaDoorRows
import Derived.OpenShut
import Derived.Carry
import Derived.Deep.DeepHandedRow
import Derived.Lib.SmallJoins
import Derived.Laws.RangeAny
import Derived.Deep.LoopGhost
import Derived.WalkMore
import Derived.Deep.AppendLies
import Derived.Deep.RegionLaw
import Derived.Test.YtbhondjfilohdaaDoorCards
import Derived.Test.YtbhondjfilohdaaDoorTie
import Derived.Lib.LaidTab
import Derived.Stop.LaidErr
import Derived.Test.YtbhondjfilohdaaDoorPk1
import Derived.Test.YtbhondjfilohdaaDoorPk2
import Derived.Test.YtbhondjfilohdaaDoorPk3
import Derived.Test.YtbhondjfilohdaaDoorPk4
import Derived.Test.YtbhondjfilohdaaDoorPk5
namespace Go.Proofs.YtbhondjfilohdaaDoor.denoteSwaps
open Go.ChangeShapes Go.WideShapes Go.ChangeAt Go.RowKit

/-- A rule's row, by four cells. -/
theorem row_four {w : World} {b off k : Nat} {u0 u1 u2 u3 : Value} (h0 : w.cell? ⟨b, off + k * 4, none⟩ = some u0) (h1 : w.cell? ⟨b, off + k * 4 + 1, none⟩ = some u1) (h2 : w.cell? ⟨b, off + k * 4 + 2, none⟩ = some u2) (h3 : w.cell? ⟨b, off + k * 4 + 3, none⟩ = some u3) {V : World} {B : Nat} (hB : Below B w V) (hb : b < B) :
    V.cell? ⟨b, off + k * 4, none⟩ = some u0 ∧ V.cell? ⟨b, off + k * 4 + 1, none⟩ = some u1 ∧ V.cell? ⟨b, off + k * 4 + 2, none⟩ = some u2 ∧ V.cell? ⟨b, off + k * 4 + 3, none⟩ = some u3 :=
  ⟨(hB.cell (p := ⟨b, off + k * 4, none⟩) hb).trans h0, (hB.cell (p := ⟨b, off + k * 4 + 1, none⟩) hb).trans h1, (hB.cell (p := ⟨b, off + k * 4 + 2, none⟩) hb).trans h2, (hB.cell (p := ⟨b, off + k * 4 + 3, none⟩) hb).trans h3⟩
set_option maxRecDepth 100000 in
set_option maxHeartbeats 8000000 in
theorem walk (rv : Value) (q : Po) (d : Rec) (a : Int) (w : World) (hL : LAt w rv q.rules) (hk : q.ok) (hl : q.rules.length ≤ 9223372036854775807) (hm : ∀ x ∈ q.rules, x.conds.length ≤ 9223372036854775807) (hd : d.ok) (ha0 : 0 ≤ a) (ha1 : a ≤ 255) (ht : Tab w) :
    Calls Tryd.prog 5 #[poV rv q.dflt, d.val, .int .u8 a] w fun e w' => e = .returned (.bool true) ∧ Below w.heap.size w w' := by
  have HTab := Lib.hid ht
  have HDo := Lib.hid hd
  obtain ⟨i0, hi, hz0, hz1, hz2⟩ := info_parts infoRl
  obtain ⟨ao, cap, rfl⟩ := hL.shape
  have HL := Lib.hid hL
  have HK := Lib.hid hk
  have HM := Lib.hid hm
  have HCR : Hid (∀ V, Below w.heap.size w V → Calls Tryd.prog 7 #[poV (.slice ao q.rules.length cap) q.dflt] V fun e w' => e = .returned (.bool q.right) ∧ Below V.heap.size V w') := Lib.hid (fun V hV => rright10_any _ q V (HL.out.below hV) HK.out hl HM.out)
  obtain ⟨W, hW, X0, X1, HBx⟩ := box2 w (poB (.slice ao q.rules.length cap) q.dflt) (.cells d.cells 32)
  have HP0 := Lib.hid X0
  have HD0 := Lib.hid X1
  have HB0 := Lib.hid HBx
  clear X0 X1 HBx hL hk hm hd ht
  obtain ⟨n, hn⟩ : ∃ n, n = q.rules.length := ⟨_, rfl⟩
  rw [← hn] at HP0 HCR hl hW ⊢
  have HN := Lib.hid hn
  clear hn
  go_enter Tryd.func5, Tryd.ntmps5
  go_upto_region 1 with fail
  change Code.wp _ _ _ _ ((w.alloc (poB (.slice ao n cap) q.dflt)).alloc (.cells d.cells 32))
  rw [← hW]
  clear hW
  obtain ⟨c0, c1⟩ := pbox HP0.out
  go_wp2_with fail
  refine (HCR.out _ HB0.out).mono ?_
  rintro e w1 ⟨rfl, hb1'⟩
  have HB1 := Lib.hid (below2 HB0.out hb1')
  have HP1 := Lib.hid (kb hb1' HP0.out)
  have HD1 := Lib.hid (kb hb1' HD0.out)
  clear hb1' c0 c1 HP0 HD0 HB0
  cases hr : q.right
  · clear hr
    go_wp2_with fail
    refine (eknow_end HB1.out HTab.out).mono ?_
    rintro e wb ⟨rfl, hbb⟩
    have HBB := Lib.hid hbb
    clear hbb
    go_wp2_with fail
    go_ret
    exact ⟨rfl, HBB.out⟩
  have HR := Lib.hid hr
  have hn64 : n ≤ 64 := by rw [HN.out]; exact (po_right hr).1
  clear hr
  obtain ⟨c0, c1⟩ := pbox HP1.out
  by_cases hn2 : n < 2
  · have e1 : decide ((n : Int) < 2) = true := by simp; omega
    clear hn2
    go_wp2_with fail
    refine (eknow_end HB1.out HTab.out).mono ?_
    rintro e wb ⟨rfl, hbb⟩
    have HBB := Lib.hid hbb
    clear hbb
    go_wp2_with fail
    go_ret
    exact ⟨rfl, HBB.out⟩
  have e1 : decide ((n : Int) < 2) = false := by simp; omega
  have hnp : (0 : Int) < (n : Int) - 1 := by omega
  have hnz : ¬ ((n : Int) - 1 = 0) := by omega
  obtain ⟨k, hk⟩ : ∃ k : Nat, a % ((n : Int) - 1) = k := ⟨(a % ((n : Int) - 1)).toNat, by rw [Int.toNat_of_nonneg (Int.emod_nonneg _ (by omega))]⟩
  have hkn1 : k + 1 < n := by have := Int.emod_lt_of_pos a hnp; omega
  have hkn : k < n := by omega
  go_upto_region 4 with fail
  rw [hk]
  clear hk ha0 ha1 hnp hnz
  go_upto_region 5 with fail
  obtain ⟨W4, hW4⟩ : ∃ V, V = w1.alloc (poB (.slice none 0 0) q.dflt) := ⟨_, rfl⟩
  have hb4 : Below w1.heap.size w1 W4 := by rw [hW4]; exact ba _ (Below.refl _ _)
  have HQ4 : Hid (W4.heap[w1.heap.size]? = some (poB (.slice none 0 0) q.dflt)) := Lib.hid (by rw [hW4]; exact heap_alloc_new w1 _)
  have HB4 := Lib.hid (below2 HB1.out hb4)
  have HP4 := Lib.hid (kb hb4 HP1.out)
  have HD4 := Lib.hid (kb hb4 HD1.out)
  have hg2 : w.heap.size + 1 < w1.heap.size := lt_of_block HD1.out
  change Code.wp _ _ _ _ (w1.alloc (poB (.slice none 0 0) q.dflt))
  rw [← hW4]
  clear hW4 hb4 c0 c1 HB1 HP1 HD1
  generalize w1.heap.size = g at *
  obtain ⟨l, hlr, hq, hcs⟩ := HL.out
  rw [← HN.out] at hq
  have hll : (l.map rlQ).length = n := by rw [List.length_map, HN.out, hlr, List.length_map]
  obtain ⟨c0, c1⟩ := pbox HP4.out
  obtain ⟨b0, b1⟩ := pbox HQ4.out
  have f0 := free_in HQ4.out 0
  have hgW : g < W4.heap.size := lt_of_block HQ4.out
  have HLR := Lib.hid hlr
  have HQQ := Lib.hid hq
  have HCS := Lib.hid hcs
  have HLL := Lib.hid hll
  clear hlr hq hcs hll
  go_wp2_with (at_builtin; refine wpList_append_src _ rfl _ _ 22 rfl W4.heap.size 28 i0 (.agg #[.int .u32 0, .int .u32 0, .slice none 0 0, .int .u32 0]) 4 40 Tryd.underlying22 hi hz0 hz1 hz2 rfl (by decide) _ 0 [] rfl (World.ownsRow_nil _ _ _ _) (.slice ao n cap) n (qcells (l.map rlQ)) rfl (QAt.src_n (HQQ.out.below HB4.out) HLL.out) (rules_one HCS.out) (by unfold maxLen; omega) (by omega) (Nat.le_refl _) ?_)
  intro v5 w5 hO hg
  have hB5 := grown_below (Below.refl W4.heap.size W4) (World.ownsRow_nil W4 W4.heap.size 28 4) hg (Nat.le_refl _)
  have HB5 := Lib.hid (below2 HB4.out hB5)
  have HP5 := Lib.hid (kb hB5 HP4.out)
  have HD5 := Lib.hid (kb hB5 HD4.out)
  have HQ5 := Lib.hid (kb hB5 HQ4.out)
  obtain ⟨gb, cap5, rfl, hgb⟩ := own_block hO (by omega)
  have HO5 := Lib.hid hO
  clear hO hg hB5 c0 c1 b0 b1 f0 HP4 HD4 HQ4 HB4
  have b0 : w5.cell? ⟨g, 0, none⟩ = some (.slice none 0 0) := cell_in HQ5.out 0
  have f0 := free_in HQ5.out 0
  have hgW5 : g < w5.heap.size := lt_of_block HQ5.out
  go_upto_region 6 with fail
  have hput := put_rules HQ5.out (.slice (some ⟨gb, 0, none⟩) n cap5)
  obtain ⟨W6, hW6⟩ : ∃ V, V = w5.setCell ⟨g, 0, none⟩ (.slice (some ⟨gb, 0, none⟩) n cap5) := ⟨_, rfl⟩
  change RowPut w5 (w5.setCell ⟨g, 0, none⟩ (.slice (some ⟨gb, 0, none⟩) n cap5)) _ _ at hput
  rw [← hW6] at hput ⊢
  have HP := Lib.hid (hput.keep (by omega : w.heap.size ≠ g) HP5.out)
  have HD := Lib.hid (hput.keep (by omega : w.heap.size + 1 ≠ g) HD5.out)
  have HQ := Lib.hid hput.row
  have HB := Lib.hid (hput.below HB5.out (by omega))
  have HO := Lib.hid (own_put HO5.out hput (by omega))
  clear hW6 hput b0 f0 hgW5 HP5 HD5 HQ5 HB5 HO5
  obtain ⟨j, hj⟩ : ∃ j : Nat, (k : Int) + 1 = (j : Int) := ⟨k + 1, by omega⟩
  have hjn : j < n := by omega
  have hjk : j ≠ k := by omega
  obtain ⟨rb, off, cvx, hao, hrb, hcx, ex0, ex1, ex2, ex3⟩ := (HL.out.rows_at HN.out) k hkn
  obtain ⟨rb', off', cvy, hao', _, hcy, ey0, ey1, ey2, ey3⟩ := (HL.out.rows_at HN.out) j hjn
  obtain rfl := hao
  simp only [Option.some.injEq, Addr.mk.injEq, and_true] at hao'
  obtain ⟨rfl, rfl⟩ := hao'
  obtain ⟨x, hx⟩ : ∃ x, x = q.rules[k]'(by rw [← HN.out]; exact hkn) := ⟨_, rfl⟩
  obtain ⟨y, hy⟩ : ∃ y, y = q.rules[j]'(by rw [← HN.out]; exact hjn) := ⟨_, rfl⟩
  rw [← hx] at hcx ex0 ex1 ex3
  rw [← hy] at hcy ey0 ey1 ey3
  have HGX : Hid (q.rules[k]? = some x) := Lib.hid (by rw [List.getElem?_eq_getElem (by rw [← HN.out]; exact hkn), hx])
  have HGY : Hid (q.rules[j]? = some y) := Lib.hid (by rw [List.getElem?_eq_getElem (by rw [← HN.out]; exact hjn), hy])
  obtain ⟨xo, xc, rfl⟩ := hcx.shape
  obtain ⟨yo, yc, rfl⟩ := hcy.shape
  have HCX := Lib.hid hcx
  have HCY := Lib.hid hcy
  have HEX := Lib.hid (And.intro ex0 (And.intro ex1 (And.intro ex2 ex3)))
  have HEY := Lib.hid (And.intro ey0 (And.intro ey1 (And.intro ey2 ey3)))
  have hxl : x.conds.length ≤ 9223372036854775807 := HM.out x (by rw [hx]; exact List.getElem_mem _)
  have hyl : y.conds.length ≤ 9223372036854775807 := HM.out y (by rw [hy]; exact List.getElem_mem _)
  have HXM : Hid (x ∈ q.rules ∧ y ∈ q.rules) := Lib.hid ⟨by rw [hx]; exact List.getElem_mem _, by rw [hy]; exact List.getElem_mem _⟩
  clear hx hy hcx hcy ex0 ex1 ex2 ex3 ey0 ey1 ey2 ey3
  have l0 : (k : Int) < (n : Int) := by omega
  have l1 : (0 : Int) ≤ (k : Int) := by omega
  have l2 : (k : Int).toNat = k := by omega
  have l3 : (j : Int) < (n : Int) := by omega
  have l4 : (0 : Int) ≤ (j : Int) := by omega
  have l5 : (j : Int).toNat = j := by omega
  have hs46 : w.heap.size + 1 < W4.heap.size := by omega
  have hw : IntKind.i64.wrap ((k : Int) + 1) = (j : Int) := by rw [hj]; exact IntWalk.i64_in _ (by omega)
  have HJ := Lib.hid hj
  clear hj
  obtain ⟨c0, _⟩ := pbox HP.out
  obtain ⟨b0, _⟩ := pbox HQ.out
  obtain ⟨e0, e1', e2, e3⟩ := row_four HEY.out.1 HEY.out.2.1 HEY.out.2.2.1 HEY.out.2.2.2 HB.out hrb
  have hqlen : (qcells (l.map rlQ)).length = n * 4 := by rw [qcells_len]; first | exact congrArg (· * 4) HLL.out | (rw [List.length_set]; exact congrArg (· * 4) HLL.out)
  obtain ⟨o0, k0⟩ := own_has HO.out (j := k * 4) (by omega)
  obtain ⟨o1, k1⟩ := own_has HO.out (j := k * 4 + 1) (by omega)
  obtain ⟨o2, k2⟩ := own_has HO.out (j := k * 4 + 2) (by omega)
  obtain ⟨o3, k3⟩ := own_has HO.out (j := k * 4 + 3) (by omega)
  have f0 := HO.out.frozenAt (k * 4)
  have f1 := HO.out.frozenAt (k * 4 + 1)
  have f2 := HO.out.frozenAt (k * 4 + 2)
  have f3 := HO.out.frozenAt (k * 4 + 3)
  have HST := Lib.hid (bdN (own_four_grown HO.out k (.int .u32 (y.arch : Nat), .int .u32 (y.nr : Nat), (.slice yo y.conds.length yc), .int .u32 (y.act : Nat))) 1)
  have HOS := Lib.hid (own_four HO.out k (.int .u32 (y.arch : Nat), .int .u32 (y.nr : Nat), (.slice yo y.conds.length yc), .int .u32 (y.act : Nat)) (by first | (rw [List.length_set, HLL.out]; omega) | (rw [HLL.out]; omega)))
  go_region_held3 (fun V => V.cell? ⟨w.heap.size, 0, none⟩ = some (.slice (some ⟨rb, off, none⟩) n cap) ∧ V.cell? ⟨g, 0, none⟩ = some (.slice (some ⟨gb, 0, none⟩) n cap5) ∧ V.cell? ⟨rb, off + j * 4, none⟩ = some (.int .u32 (y.arch : Nat)) ∧ V.cell? ⟨rb, off + j * 4 + 1, none⟩ = some (.int .u32 (y.nr : Nat)) ∧ V.cell? ⟨rb, off + j * 4 + 2, none⟩ = some (.slice yo y.conds.length yc) ∧ V.cell? ⟨rb, off + j * 4 + 3, none⟩ = some (.int .u32 (y.act : Nat)))
      (first | exact ⟨c0, b0, e0, e1', e2, e3⟩ | exact ⟨(HST.out.cell (p := ⟨w.heap.size, 0, none⟩) (by show w.heap.size < _; omega)).trans c0, (HST.out.cell (p := ⟨g, 0, none⟩) hgW).trans b0, row_four e0 e1' e2 e3 HST.out (by omega)⟩ | go_keep) (fail)
  obtain ⟨W7, hW7⟩ : ∃ V, V = ((((W6.setCell ⟨gb, k * 4, none⟩ (.int .u32 (y.arch : Nat))).setCell ⟨gb, k * 4 + 1, none⟩ (.int .u32 (y.nr : Nat))).setCell ⟨gb, k * 4 + 2, none⟩ (.slice yo y.conds.length yc)).setCell ⟨gb, k * 4 + 3, none⟩ (.int .u32 (y.act : Nat))).drew := ⟨_, rfl⟩
  have hB7 : Below W4.heap.size W6 W7 := by rw [hW7]; exact HST.out
  have hO7 : W7.ownsRow W4.heap.size 28 4 (.slice (some ⟨gb, 0, none⟩) n cap5) n (qcells ((l.map rlQ).set k (.int .u32 (y.arch : Nat), .int .u32 (y.nr : Nat), (.slice yo y.conds.length yc), .int .u32 (y.act : Nat)))) := by rw [hW7]; exact HOS.out
  rw [← hW7]
  have HP := Lib.hid ((hB7.block _ (by omega)).trans HP.out)
  have HD := Lib.hid ((hB7.block _ (by omega)).trans HD.out)
  have HQ := Lib.hid ((hB7.block _ hgW).trans HQ.out)
  have HB := Lib.hid (HB.out.trans (hB7.mono (by omega)))
  have HO := Lib.hid hO7
  clear hW7 hB7 hO7 HST HOS k0 k1 k2 k3 f0 f1 f2 f3 c0 b0 e0 e1' e2 e3 hqlen o0 o1 o2 o3
  go_upto_region 7 with fail
  obtain ⟨c0, _⟩ := pbox HP.out
  obtain ⟨b0, _⟩ := pbox HQ.out
  obtain ⟨e0, e1', e2, e3⟩ := row_four HEX.out.1 HEX.out.2.1 HEX.out.2.2.1 HEX.out.2.2.2 HB.out hrb
  have hqlen : (qcells ((l.map rlQ).set k (.int .u32 (y.arch : Nat), .int .u32 (y.nr : Nat), (.slice yo y.conds.length yc), .int .u32 (y.act : Nat)))).length = n * 4 := by rw [qcells_len]; first | exact congrArg (· * 4) HLL.out | (rw [List.length_set]; exact congrArg (· * 4) HLL.out)
  obtain ⟨o0, k0⟩ := own_has HO.out (j := j * 4) (by omega)
  obtain ⟨o1, k1⟩ := own_has HO.out (j := j * 4 + 1) (by omega)
  obtain ⟨o2, k2⟩ := own_has HO.out (j := j * 4 + 2) (by omega)
  obtain ⟨o3, k3⟩ := own_has HO.out (j := j * 4 + 3) (by omega)
  have f0 := HO.out.frozenAt (j * 4)
  have f1 := HO.out.frozenAt (j * 4 + 1)
  have f2 := HO.out.frozenAt (j * 4 + 2)
  have f3 := HO.out.frozenAt (j * 4 + 3)
  have HST := Lib.hid (bdN (own_four_grown HO.out j (.int .u32 (x.arch : Nat), .int .u32 (x.nr : Nat), (.slice xo x.conds.length xc), .int .u32 (x.act : Nat))) 1)
  have HOS := Lib.hid (own_four HO.out j (.int .u32 (x.arch : Nat), .int .u32 (x.nr : Nat), (.slice xo x.conds.length xc), .int .u32 (x.act : Nat)) (by first | (rw [List.length_set, HLL.out]; omega) | (rw [HLL.out]; omega)))
  go_region_held3 (fun V => V.cell? ⟨w.heap.size, 0, none⟩ = some (.slice (some ⟨rb, off, none⟩) n cap) ∧ V.cell? ⟨g, 0, none⟩ = some (.slice (some ⟨gb, 0, none⟩) n cap5) ∧ V.cell? ⟨rb, off + k * 4, none⟩ = some (.int .u32 (x.arch : Nat)) ∧ V.cell? ⟨rb, off + k * 4 + 1, none⟩ = some (.int .u32 (x.nr : Nat)) ∧ V.cell? ⟨rb, off + k * 4 + 2, none⟩ = some (.slice xo x.conds.length xc) ∧ V.cell? ⟨rb, off + k * 4 + 3, none⟩ = some (.int .u32 (x.act : Nat)))
      (first | exact ⟨c0, b0, e0, e1', e2, e3⟩ | exact ⟨(HST.out.cell (p := ⟨w.heap.size, 0, none⟩) (by show w.heap.size < _; omega)).trans c0, (HST.out.cell (p := ⟨g, 0, none⟩) hgW).trans b0, row_four e0 e1' e2 e3 HST.out (by omega)⟩ | go_keep) (fail)
  obtain ⟨W8, hW7⟩ : ∃ V, V = ((((W7.setCell ⟨gb, j * 4, none⟩ (.int .u32 (x.arch : Nat))).setCell ⟨gb, j * 4 + 1, none⟩ (.int .u32 (x.nr : Nat))).setCell ⟨gb, j * 4 + 2, none⟩ (.slice xo x.conds.length xc)).setCell ⟨gb, j * 4 + 3, none⟩ (.int .u32 (x.act : Nat))).drew := ⟨_, rfl⟩
  have hB7 : Below W4.heap.size W7 W8 := by rw [hW7]; exact HST.out
  have hO7 : W8.ownsRow W4.heap.size 28 4 (.slice (some ⟨gb, 0, none⟩) n cap5) n (qcells (((l.map rlQ).set k (.int .u32 (y.arch : Nat), .int .u32 (y.nr : Nat), (.slice yo y.conds.length yc), .int .u32 (y.act : Nat))).set j (.int .u32 (x.arch : Nat), .int .u32 (x.nr : Nat), (.slice xo x.conds.length xc), .int .u32 (x.act : Nat)))) := by rw [hW7]; exact HOS.out
  rw [← hW7]
  have HP := Lib.hid ((hB7.block _ (by omega)).trans HP.out)
  have HD := Lib.hid ((hB7.block _ (by omega)).trans HD.out)
  have HQ := Lib.hid ((hB7.block _ hgW).trans HQ.out)
  have HB := Lib.hid (HB.out.trans (hB7.mono (by omega)))
  have HO := Lib.hid hO7
  clear hW7 hB7 hO7 HST HOS k0 k1 k2 k3 f0 f1 f2 f3 c0 b0 e0 e1' e2 e3 hqlen o0 o1 o2 o3
  go_upto_region 8 with fail
  have hkj : j = k + 1 := by have := HJ.out; omega
  obtain ⟨R2, hR2⟩ : ∃ R2, R2 = swapR q.rules k x y := ⟨_, rfl⟩
  have hR2e : R2 = (q.rules.set k y).set j x := by rw [hR2, hkj]; rfl
  have hR2l : R2.length = n := by rw [hR2e, List.length_set, List.length_set, HN.out]
  have HL2 : Hid (∀ V, Below W8.heap.size W8 V → LAt V (.slice (some ⟨gb, 0, none⟩) R2.length cap5) R2) := Lib.hid (fun V hV => by
    rw [hR2l]
    refine ⟨(l.set k (y, .slice yo y.conds.length yc)).set j (x, .slice xo x.conds.length xc), by rw [hR2e, HLR.out, List.map_set, List.map_set], ?_, fun p hp => ?_⟩
    · refine QAt.own (base := W4.heap.size) (e := 28) (n := n) (own_below ?_ hV) (by rw [List.length_map, List.length_set, List.length_set]; have := HLL.out; rw [List.length_map] at this; exact this.symm)
      rw [List.map_set, List.map_set]
      exact HO.out
    · rcases List.mem_or_eq_of_mem_set hp with hp | rfl
      · rcases List.mem_or_eq_of_mem_set hp with hp | rfl
        · exact (HCS.out p hp).below (below2 HB.out hV)
        · exact HCY.out.below (below2 HB.out hV)
      · exact HCX.out.below (below2 HB.out hV))
  have hmem2 : ∀ z ∈ R2, z ∈ q.rules := fun z hz => by
    rw [hR2e] at hz
    rcases List.mem_or_eq_of_mem_set hz with hz | rfl
    · rcases List.mem_or_eq_of_mem_set hz with hz | rfl
      · exact hz
      · exact HXM.out.2
    · exact HXM.out.1
  have HK2 : Hid ((⟨R2, q.dflt⟩ : Po).ok) := Lib.hid ⟨HK.out.1, fun z hz => HK.out.2 z (hmem2 z hz)⟩
  have HR2 : Hid ((⟨R2, q.dflt⟩ : Po).right = true) := Lib.hid (by
    obtain ⟨_, hda, hall⟩ := po_right HR.out
    exact right_po (by show R2.length ≤ 64; rw [hR2l]; omega) hda (fun z hz => hall z (hmem2 z hz)))
  have HRL := Lib.hid hR2l
  have gk : R2[k]'(by rw [hR2l]; exact hkn) = y := by simp only [hR2e]; rw [List.getElem_set, if_neg hjk, List.getElem_set, if_pos rfl]
  have gj : R2[j]'(by rw [hR2l]; exact hjn) = x := by simp only [hR2e]; rw [List.getElem_set, if_pos rfl]
  obtain ⟨_, _, va1, ha1, hva1, hca1, z0, z1, zz1, zz2⟩ := (HL2.out W8 (Below.refl _ _)).rows_at rfl k (by rw [hR2l]; exact hkn)
  obtain ⟨_, _, va2, ha2, hva2, hca2, z2, z3, zz3, zz4⟩ := (HL2.out W8 (Below.refl _ _)).rows_at rfl j (by rw [hR2l]; exact hjn)
  simp only [Option.some.injEq, Addr.mk.injEq, and_true] at ha1 ha2
  obtain ⟨rfl, rfl⟩ := ha1
  obtain ⟨rfl, rfl⟩ := ha2
  rw [gk] at z0 z1
  rw [gj] at z2 z3
  simp only [Nat.zero_add] at z0 z1 z2 z3
  obtain ⟨J, hJ⟩ : ∃ J, judgeR q.rules q.dflt d = J := ⟨_, rfl⟩
  have HJP := Lib.hid hJ
  have HJ2 : Hid (¬ (x.arch = y.arch ∧ x.nr = y.nr) → judgeR R2 q.dflt d = J) := Lib.hid (fun hne => by
    rw [← hJ, hR2]
    exact judge_swap HGX.out (by rw [← hkj]; exact HGY.out) _ _ hne)
  clear hva1 hca1 zz1 zz2 hva2 hca2 zz3 zz4
  clear hR2 hR2e hR2l hmem2 gk gj hJ hkj HO HXM HGX HGY HCX HCY HEX HEY HLR HQQ HCS HLL hxl hyl hgb
  obtain ⟨b0, b1⟩ := pbox HQ.out
  by_cases hne : x.arch = y.arch ∧ x.nr = y.nr
  · have q1 : ((y.arch : Int) == (x.arch : Int)) = true := by simp; omega
    have q2 : ((y.nr : Int) == (x.nr : Int)) = true := by simp; omega
    clear hne
    go_quiet (fail)
    have HBq := Lib.hid (bdN HB.out nq)
    generalize W8.drewN nq = Wq at *
    go_wp2_with fail
    refine (eknow_end HBq.out HTab.out).mono ?_
    rintro e wb ⟨rfl, hbb⟩
    have HBB := Lib.hid hbb
    clear hbb
    go_wp2_with fail
    go_ret
    exact ⟨rfl, HBB.out⟩
  have HJ3 := Lib.hid (HJ2.out hne)
  by_cases ha : x.arch = y.arch
  · have q1 : ((y.arch : Int) == (x.arch : Int)) = true := by simp; omega
    have q2 : ((y.nr : Int) == (x.nr : Int)) = false := by simp; omega
    clear hne ha
    go_quiet (fail)
    clear q2
    have HBq := Lib.hid (bdN HB.out nq)
    have HVq := Lib.hid (bdN (Below.refl W8.heap.size W8) nq)
    have HPq : Hid ((W8.drewN nq).heap[w.heap.size]? = some (poB (.slice (some ⟨rb, off, none⟩) n cap) q.dflt)) := Lib.hid HP.out
    have HDq : Hid ((W8.drewN nq).heap[w.heap.size + 1]? = some (.cells d.cells 32)) := Lib.hid HD.out
    have HQq : Hid ((W8.drewN nq).heap[g]? = some (poB (.slice (some ⟨gb, 0, none⟩) n cap5) q.dflt)) := Lib.hid HQ.out
    clear HP HD HQ b0 b1 z0 z1 z2 z3 q1 HB
    generalize W8.drewN nq = Wq at *
    obtain ⟨c0, c1⟩ := pbox HPq.out
    obtain ⟨d0, d1, d2, d3, d4, d5, d6, d7, d8⟩ := rec_cells HDq.out
    have HJA : Hid (Calls Tryd.prog 10 #[poV (.slice (some ⟨rb, off, none⟩) n cap) q.dflt, d.val] Wq fun e w' => e = .returned (.tuple #[.int .u32 (J : Nat), .int .i64 0]) ∧ Below Wq.heap.size Wq w') := Lib.hid (by
      have h := ejudge_good _ q d J Wq (HL.out.below HBq.out) HK.out HR.out HDo.out HJP.out (HTab.out.below HBq.out)
      rw [← HN.out] at h
      exact h)
    go_wp2_with fail
    refine HJA.out.mono ?_
    rintro e wa ⟨rfl, hba⟩
    have HBa := Lib.hid (below2 HBq.out hba)
    have HVa := Lib.hid (below2 HVq.out hba)
    have HDa := Lib.hid (kb hba HDq.out)
    have HQa := Lib.hid (kb hba HQq.out)
    clear hba c0 c1 d0 d1 d2 d3 d4 d5 d6 d7 d8 HPq HDq HQq HJA
    obtain ⟨b0, b1⟩ := pbox HQa.out
    obtain ⟨d0, d1, d2, d3, d4, d5, d6, d7, d8⟩ := rec_cells HDa.out
    have HJB : Hid (Calls Tryd.prog 10 #[poV (.slice (some ⟨gb, 0, none⟩) n cap5) q.dflt, d.val] wa fun e w' => e = .returned (.tuple #[.int .u32 (J : Nat), .int .i64 0]) ∧ Below wa.heap.size wa w') := Lib.hid (by
      have h := ejudge_good _ ⟨R2, q.dflt⟩ d J wa (HL2.out _ HVa.out) HK2.out HR2.out HDo.out HJ3.out (HTab.out.below HBa.out)
      rw [HRL.out] at h
      exact h)
    go_wp2_with fail
    refine HJB.out.mono ?_
    rintro e wc ⟨rfl, hbc⟩
    have HBc := Lib.hid (below2 HBa.out hbc)
    clear hbc b0 b1 d0 d1 d2 d3 d4 d5 d6 d7 d8 HJB
    have e9 : ((J : Int) == (J : Int)) = true := by simp
    go_wp2_with fail
    refine (eknow_end HBc.out HTab.out).mono ?_
    rintro e wb ⟨rfl, hbb⟩
    have HBB := Lib.hid hbb
    clear hbb
    go_wp2_with fail
    go_ret
    exact ⟨rfl, HBB.out⟩
  · have q1 : ((y.arch : Int) == (x.arch : Int)) = false := by simp; omega
    clear hne ha
    go_quiet (fail)
    have HBq := Lib.hid (bdN HB.out nq)
    have HVq := Lib.hid (bdN (Below.refl W8.heap.size W8) nq)
    have HPq : Hid ((W8.drewN nq).heap[w.heap.size]? = some (poB (.slice (some ⟨rb, off, none⟩) n cap) q.dflt)) := Lib.hid HP.out
    have HDq : Hid ((W8.drewN nq).heap[w.heap.size + 1]? = some (.cells d.cells 32)) := Lib.hid HD.out
    have HQq : Hid ((W8.drewN nq).heap[g]? = some (poB (.slice (some ⟨gb, 0, none⟩) n cap5) q.dflt)) := Lib.hid HQ.out
    clear HP HD HQ b0 b1 z0 z1 z2 z3 q1 HB
    generalize W8.drewN nq = Wq at *
    obtain ⟨c0, c1⟩ := pbox HPq.out
    obtain ⟨d0, d1, d2, d3, d4, d5, d6, d7, d8⟩ := rec_cells HDq.out
    have HJA : Hid (Calls Tryd.prog 10 #[poV (.slice (some ⟨rb, off, none⟩) n cap) q.dflt, d.val] Wq fun e w' => e = .returned (.tuple #[.int .u32 (J : Nat), .int .i64 0]) ∧ Below Wq.heap.size Wq w') := Lib.hid (by
      have h := ejudge_good _ q d J Wq (HL.out.below HBq.out) HK.out HR.out HDo.out HJP.out (HTab.out.below HBq.out)
      rw [← HN.out] at h
      exact h)
    go_wp2_with fail
    refine HJA.out.mono ?_
    rintro e wa ⟨rfl, hba⟩
    have HBa := Lib.hid (below2 HBq.out hba)
    have HVa := Lib.hid (below2 HVq.out hba)
    have HDa := Lib.hid (kb hba HDq.out)
    have HQa := Lib.hid (kb hba HQq.out)
    clear hba c0 c1 d0 d1 d2 d3 d4 d5 d6 d7 d8 HPq HDq HQq HJA
    obtain ⟨b0, b1⟩ := pbox HQa.out
    obtain ⟨d0, d1, d2, d3, d4, d5, d6, d7, d8⟩ := rec_cells HDa.out
    have HJB : Hid (Calls Tryd.prog 10 #[poV (.slice (some ⟨gb, 0, none⟩) n cap5) q.dflt, d.val] wa fun e w' => e = .returned (.tuple #[.int .u32 (J : Nat), .int .i64 0]) ∧ Below wa.heap.size wa w') := Lib.hid (by
      have h := ejudge_good _ ⟨R2, q.dflt⟩ d J wa (HL2.out _ HVa.out) HK2.out HR2.out HDo.out HJ3.out (HTab.out.below HBa.out)
      rw [HRL.out] at h
      exact h)
    go_wp2_with fail
    refine HJB.out.mono ?_
    rintro e wc ⟨rfl, hbc⟩
    have HBc := Lib.hid (below2 HBa.out hbc)
    clear hbc b0 b1 d0 d1 d2 d3 d4 d5 d6 d7 d8 HJB
    have e9 : ((J : Int) == (J : Int)) = true := by simp
    go_wp2_with fail
    refine (eknow_end HBc.out HTab.out).mono ?_
    rintro e wb ⟨rfl, hbb⟩
    have HBB := Lib.hid hbb
    clear hbb
    go_wp2_with fail
    go_ret
    exact ⟨rfl, HBB.out⟩

set_option maxRecDepth 100000 in
/-- The row's contract, for every argument and every world. -/
theorem contract (H : Type) (enc : TypeId × Value → H) (W : World) (base : Nat) (args : Array Value) (ds gs : List (DataW H)) (before : List MemPlace)
    (hval : ∀ (j : Nat) t v, Tryd.f5.params[j]? = some t → args[j]? = some v → Value.okWide Tryd.prog W .any base t v)
    (hW : DataW.Whole enc Tryd.prog Tryd.f5.params.toList Rows.denoteSwapsSpec.vars false W args.toList ds gs before) (hL : laidMetH Tryd.prog Rows.denoteSwapsRow.laid W) :
    Calls Tryd.prog 5 args W fun e W' => ∃ v, e = .returned v ∧ Rows.denoteSwapsSpec.post enc Tryd.prog Tryd.f5 false true false false W args v W' := by
  have hW' := hW
  obtain ⟨p, q, hA0, hV, rfl, hfz, hnd⟩ := hW
  have hA : DataW.TrodAll enc Tryd.prog W 0 (fun _ => true) true Tryd.f5.params.toList args.toList ds p := hA0
  rw [Tryd.params5] at hA hval
  obtain ⟨v0, vs0, d0, ds0, p0, q0, hargs0, rfl, rfl, t0, r0⟩ := trodAll_cons hA
  obtain ⟨v1, vs1, d1, ds1, p1, q1, hargs1, rfl, rfl, t1, r1⟩ := trodAll_cons r0
  obtain ⟨v2, vs2, d2, ds2, p2, q2, hargs2, rfl, rfl, t2, r2⟩ := trodAll_cons r1
  obtain ⟨rfl, rfl, rfl⟩ := trodAll_nil r2
  obtain rfl : args = #[v0, v1, v2] := by cases args; simp_all
  obtain ⟨q, rv0, rfl, hL0, hk0, hl0, hm0⟩ := open_policy (hval 0 25 v0 rfl rfl) t0
  obtain ⟨d, rfl, hd1⟩ := open_data (hval 1 32 v1 rfl rfl) t1
  obtain ⟨a, rfl, rfl, rfl, wf2⟩ := open_int Tryd.underlying5 (hval 2 5 v2 rfl rfl) t2
  have bd2 := bounds_u8 wf2
  refine (walk rv0 q d a W hL0 hk0 hl0 hm0 hd1 bd2.1 bd2.2 (qtab_of hL)).mono fun e W' ⟨he, hg⟩ => ?_
  subst he
  exact ⟨_, rfl, law_post (tb := 4) laidOut (fun t ht => by rw [Tryd.params5] at ht; revert t; exact of_decide_eq_true (by kernel_rfl)) (by kernel_rfl) Tryd.underlying4 rfl
    (fun ds h => by rw [Tryd.params5] at h; match ds, h with | [_, _, _], _ => rfl) hW' hg⟩

theorem laid_met (os : Os) : laidMet Tryd.prog Rows.denoteSwapsRow.laid ((laidWorldQ os).forCall (fun _ _ => 0) ⟨#[], #[.agg #[.slice none 0 0, .int .u32 0], .agg #[.int .u32 0, .int .u32 0, .int .u64 0, .int .u64 0, .int .u64 0, .int .u64 0, .int .u64 0, .int .u64 0, .int .u64 0], .int .u8 0], []⟩).memory :=
  laidMet_of_run' 8 (by kernel_rfl) (by kernel_rfl)
theorem reads (os : Os) {H : Type} (enc : TypeId × Value → H) : ∃ places, DataW.whole enc Tryd.prog ((laidWorldQ os).forCall (fun _ _ => 0) ⟨#[], #[.agg #[.slice none 0 0, .int .u32 0], .agg #[.int .u32 0, .int .u32 0, .int .u64 0, .int .u64 0, .int .u64 0, .int .u64 0, .int .u64 0, .int .u64 0, .int .u64 0], .int .u8 0], []⟩).memory Tryd.f5.params.toList Rows.denoteSwapsSpec.vars false #[Value.agg #[.slice none 0 0, .int .u32 0], Value.agg #[.int .u32 0, .int .u32 0, .int .u64 0, .int .u64 0, .int .u64 0, .int .u64 0, .int .u64 0, .int .u64 0, .int .u64 0], Value.int .u8 0].toList 8 = some ([.agg [.nil, .lit (.int .u32 0)], .agg [.lit (.int .u32 0), .lit (.int .u32 0), .lit (.int .u64 0), .agg [.lit (.int .u64 0), .lit (.int .u64 0), .lit (.int .u64 0), .lit (.int .u64 0), .lit (.int .u64 0), .lit (.int .u64 0)]], .lit (.int .u8 0)], [], places) :=
  ⟨[], by kernel_rfl⟩

set_option maxRecDepth 100000 in
theorem lifted (os : Os) (started : os.Started) (H : Type) (enc : TypeId × Value → H) (F : Stop.Interp) :
    ReturnsInHanded {} Tryd.checked os 5 .any ((OpenSpec.ofChange Rows.denoteSwapsSpec).preRow enc Tryd.prog Tryd.f5 Rows.denoteSwapsRow.domain false Rows.denoteSwapsRow.laid) (((OpenSpec.ofChange Rows.denoteSwapsSpec).at F).post enc Tryd.prog Tryd.f5 false true false false) := by
  obtain ⟨places, hx⟩ := reads os enc
  refine returnsInHanded_of_row (C := Tryd.checked) (s := OpenSpec.ofChange Rows.denoteSwapsSpec) own started (by kernel_rfl) Tryd.func5
    (witness_row_at (enc := enc) (C := Tryd.checked) false (laidWorldQ os) #[.agg #[.slice none 0 0, .int .u32 0], .agg #[.int .u32 0, .int .u32 0, .int .u64 0, .int .u64 0, .int .u64 0, .int .u64 0, .int .u64 0, .int .u64 0, .int .u64 0], .int .u8 0] rfl (by kernel_rfl) (by kernel_rfl) (by kernel_rfl)
      (OpenSpec.preRow_of_cond 8 hx (by kernel_rfl) (fun k hk => by cases hk) (by kernel_rfl) (laid_met os))) ?_
  intro W base args ds gs before hval hW _ _ _ hL _ _
  exact contract H enc W base args ds gs before hval hW hL

theorem said : Rows.DenoteSwapsSaid :=
  OpenClaim.holds_of_cond 5 Tryd.f5 rfl rfl rfl rfl rfl rfl rfl ⟨rfl, rfl, rfl, rfl, rfl⟩ rfl rfl rfl rfl rfl (by kernel_rfl) Tryd.func5 (by kernel_rfl)
    (of_decide_eq_true (by kernel_rfl)) (by unfold Func.isWrapper; first | (rw [if_pos (by decide +kernel)]; kernel_rfl) | (rw [if_neg (by decide +kernel)]; exact ⟨rfl, rfl⟩))
    (fun os started H enc _ F => by rw [OpenClaim.pre_eq_preRow]; exact lifted os started H enc F)

/-- No parameter wants a stand-in; the program's own looks are off. -/
theorem plain (f : FuncId) (fn : Func) (hf : Tryd.pinned.checked.prog.funcNamed "hurdle/hurdlelaw11.DenoteSwaps" = some f) (hfn : Tryd.pinned.checked.prog.funcs[f]? = some fn) :
    false = Tryd.pinned.checked.prog.looks [] ∧ ∀ (j : Nat) t, fn.params[j]? = some t → Tryd.pinned.checked.prog.wantsStandIn t = false := by
  obtain rfl : f = 5 := Option.some.inj ((show Tryd.prog.funcNamed "hurdle/hurdlelaw11.DenoteSwaps" = some 5 by kernel_rfl).symm.trans hf) |>.symm
  obtain rfl : fn = Tryd.f5 := (Option.some.inj (Tryd.func5.symm.trans hfn)).symm
  refine ⟨by kernel_rfl, fun j t ht => ?_⟩
  have hm := Array.mem_of_getElem? ht
  rw [Tryd.params5] at hm
  have all : ∀ t ∈ (#[25, 32, 5] : Array TypeId).toList, Tryd.prog.wantsStandIn t = false := of_decide_eq_true (by kernel_rfl)
  exact all t (Array.mem_toList_iff.2 hm)

/-- The tied card. -/
theorem card : Rows.DenoteSwapsCardSaid :=
  Claim7.holds_tied_plain_at .later [] _ _ _ _ said (fun _ h => by cases h) (by kernel_rfl) (fun _ h => by cases h) denoteSwaps_row_tie rfl ⟨rfl, rfl⟩ (by kernel_rfl) rfl plain (by kernel_rfl)
end Go.Proofs.YtbhondjfilohdaaDoor.denoteSwaps
