/-
  What the laws' texts use, joined.
-/
import Derived.Test.YtbekkdhlfkongaaGreatDoorProg
import Derived.WalkKit
import Derived.ProofKit
import Derived.Lib.Hide
import Derived.Laws.Rows
import Derived.Laws.ResultCell
import Derived.Laws.Entries
import Derived.Handy
import Derived.OwnWalk
import Derived.Laws.OwnMore
import Derived.Deep.Draws
import Derived.Laws.IdiomStrings
import Derived.Lib.BufferRead
import Derived.Maps.OwnSet
import Derived.Laws.BitsAllLaws
import Derived.RowKit
import Derived.Lib.QuietBelow
import Derived.Lib.OthersKept
import Derived.BigQuiet
import Derived.IntWalk
import Derived.Deep.RegionHeld3
import Derived.BigRegion
import Derived.Laws.Tables
import Derived.Deep.DeepCutAuto
import Derived.Deep.QuietTactic
import Derived.Test.YtbekkdhlfkongaaGreatDoorRows
import Derived.OpenShut
import Derived.Carry
import Derived.Deep.DeepHandedRow
import Derived.Lib.SmallJoins
import Derived.WalkMore
import Derived.Shelf.Strings.Builder1
import Derived.Shelf.Strings.Search1
import Derived.Lib.IndexLaws
import Derived.Lib.AppendZerosOnto
import Derived.Lib.SliceRun
import Derived.Deep.RegionWith
import Derived.Deep.Cut
import Derived.Deep.Slices
import Derived.RangeFuncNested
import Derived.RangeFuncBound
import Derived.RangeFuncCalls
import Derived.RangeFuncLeaves
import Derived.Shelf.Abstract
import Derived.Shelf.RegionOpen
import Derived.OwnWalkIn
import Derived.TacticsInMore
import Derived.LoopNIn
import Derived.LoopIn
import Derived.Sort.MapsRangeIn
import Derived.Sort.KeysCollected
import Derived.Maps.AppendAt
import Derived.RangeFuncBox
import Derived.RangeFuncFrom
import Derived.RangeFuncSeq
import Derived.Sort.WalkA
import Derived.CellFam
import Derived.Sort.WalkC
import Derived.Sort.LotC
import Derived.Deep.CutBlock
import Derived.Deep.LoopGhost
import Derived.Sort.WalkC4
import Derived.Sort.WalkA6
import Derived.Laws.Closers25b
import Derived.Laws.Bits64b
import Derived.Sort.WalkB2
import Derived.Sort.WalkB3
import Derived.Sort.LotB
import Derived.Sort.LotD3
import Derived.Test.YtbekkdhlfkongaaGreatDoorPk1
import Derived.Test.YtbekkdhlfkongaaGreatDoorPk2
import Derived.Test.YtbekkdhlfkongaaGreatDoorPk3
import Derived.Test.YtbekkdhlfkongaaGreatDoorPk4
import Derived.Test.YtbekkdhlfkongaaGreatDoorPk5
import Derived.Test.YtbekkdhlfkongaaGreatDoorPk6
import Derived.Test.YtbekkdhlfkongaaGreatDoorPk7
/-
  slices.Sort at numbers: the partition (printed by tools/gen-zsrt.py).
-/
namespace Go.Proofs.YtbekkdhlfkongaaGreatDoor
open Go.ChangeShapes Go.WideShapes Go.ChangeAt Go.RowKit Go.Shelf
set_option maxRecDepth 20000

/-! ### partitionOrdered -/
set_option maxHeartbeats 16000000 in
set_option maxRecDepth 100000 in
theorem upart_any {base g n C cap a b pivot : Nat} {d : Array Int} (w : World) (hU : US base w g n C d w) (hbg : base ≤ g) (hap : a ≤ pivot) (hpb : pivot < b) (hb : b ≤ n) (hn : n ≤ 64) :
    Calls Tryz.prog 168 #[.slice (some ⟨g, 0, none⟩) n cap, .int .i64 a, .int .i64 b, .int .i64 pivot] w fun e w' => e = .returned (.tuple #[.int .i64 (Sort.partition Sort.ltInt d a b pivot).1, .bool (Sort.partition Sort.ltInt d a b pivot).2.1]) ∧ US base w g n C (Sort.partition Sort.ltInt d a b pivot).2.2 w' := by
  have HU0 := Lib.hid hU
  clear hU
  obtain ⟨d1, hd1⟩ : ∃ d1, d1 = Sort.swp d a pivot := ⟨_, rfl⟩
  obtain ⟨R, hR⟩ : ∃ R, R = Sort.partition Sort.ltInt d a b pivot := ⟨_, rfl⟩
  have HR := Lib.hid hR
  have HD1 := Lib.hid hd1
  rw [← hR]
  clear hd1 hR
  go_enter Tryz.func168, Tryz.ntmps168
  go_upto_region 1 with fail
  go_cut [8, 9] (fun s8 s9 wx => s8 = .int .i64 0 ∧ s9 = .bool false ∧ US base w g n C d1 wx)
  case first =>
    have p0 : (0 : Int) ≤ (pivot : Int) := by omega
    have p1 : (pivot : Int) < (n : Int) := by omega
    have p2 : (pivot : Int).toNat = pivot := by omega
    have t0 : (0 : Int) ≤ (a : Int) := by omega
    have t1 : (a : Int) < (n : Int) := by omega
    have t2 : (a : Int).toNat = a := by omega
    obtain ⟨G, hG⟩ : ∃ G : Nat → Int, ∀ t, G t = d[t]! := ⟨fun t => d[t]!, fun _ => rfl⟩
    have HS := Lib.hid (HU0.out.swap hG hbg (i := a) (j := pivot) (by omega) (by omega))
    have c0 := HU0.out.cell hG a (by omega)
    have f0 := HU0.out.free a (by omega)
    have c1 := HU0.out.cell hG pivot (by omega)
    have f1 := HU0.out.free pivot (by omega)
    clear hG
    by_cases e : a = pivot
    · subst e
      go_region
      go_wp2_with fail
      go_meet
      exact ⟨rfl, rfl, by rw [HD1.out]; exact HS.out⟩
    · have e2 : ¬ pivot = a := fun h => e h.symm
      go_region
      go_wp2_with fail
      go_meet
      exact ⟨rfl, rfl, by rw [HD1.out]; exact HS.out⟩
  case rest =>
    obtain ⟨rfl, rfl, hU1⟩ := hcut
    have HU := Lib.hid hU1
    clear hU1
    obtain ⟨dk, hdk⟩ : ∃ dk, dk = d1 := ⟨_, rfl⟩
    rw [← hdk] at HU
    obtain ⟨i, hi⟩ : ∃ i, i = a + 1 := ⟨_, rfl⟩
    obtain ⟨j, hj⟩ : ∃ j, j = b - 1 := ⟨_, rfl⟩
    have hij : i ≤ j + 1 := by omega
    have hai : a < i := by omega
    have hjb : j < b := by omega
    have HIi : Hid ((a : Int) + 1 = (i : Int)) := Lib.hid (by omega)
    have HJj : Hid ((b : Int) - 1 = (j : Int)) := Lib.hid (by omega)
    have HFB : Hid (∀ i2 j2, i2 = Sort.scanUp (fun x => Sort.ltInt x dk[a]!) dk j i → j2 = Sort.scanDown (fun x => !Sort.ltInt x dk[a]!) dk i2 j → j2 < i2 → R = (j2, true, Sort.swp dk j2 a)) := Lib.hid (fun i2 j2 h1 h2 h3 => by
      rw [HR.out]
      exact part_first_break Sort.ltInt d a b pivot hi hj (by rw [hdk]; exact HD1.out) h1 h2 h3)
    have HFG : Hid (∀ i2 j2, i2 = Sort.scanUp (fun x => Sort.ltInt x dk[a]!) dk j i → j2 = Sort.scanDown (fun x => !Sort.ltInt x dk[a]!) dk i2 j → ¬ i2 > j2 → R = ((Sort.partLoop Sort.ltInt a (i2 + 1) (j2 - 1) (Sort.swp dk i2 j2)).1, false, Sort.swp (Sort.partLoop Sort.ltInt a (i2 + 1) (j2 - 1) (Sort.swp dk i2 j2)).2 (Sort.partLoop Sort.ltInt a (i2 + 1) (j2 - 1) (Sort.swp dk i2 j2)).1 a)) := Lib.hid (fun i2 j2 h1 h2 h3 => by
      rw [HR.out]
      exact part_first_go Sort.ltInt d a b pivot hi hj (by rw [hdk]; exact HD1.out) h1 h2 h3)
    clear hdk hi hj
    obtain ⟨G, hG⟩ : ∃ G : Nat → Int, ∀ t, G t = dk[t]! := ⟨fun t => dk[t]!, fun _ => rfl⟩
    have HG := Lib.hid hG
    obtain ⟨i2, hi2⟩ : ∃ i2, i2 = Sort.scanUp (fun x => Sort.ltInt x dk[a]!) dk j i := ⟨_, rfl⟩
    obtain ⟨j2, hj2⟩ : ∃ j2, j2 = Sort.scanDown (fun x => !Sort.ltInt x dk[a]!) dk i2 j := ⟨_, rfl⟩
    obtain ⟨u1, u2, _, _⟩ := Sort.scanUp_spec (fun x => Sort.ltInt x dk[a]!) dk j _ i rfl
    obtain ⟨v1, v2, _, _⟩ := Sort.scanDown_spec (fun x => !Sort.ltInt x dk[a]!) dk i2 j
    rw [← hi2] at u1 u2
    rw [← hj2] at v1 v2
    have u2 := u2 hij
    have v2 := v2 u2
    have HI2 := Lib.hid hi2
    have HJ2 := Lib.hid hj2
    have t0 : (0 : Int) ≤ (a : Int) := by omega
    have t1 : (a : Int) < (n : Int) := by omega
    have t2 : (a : Int).toNat = a := by omega
    clear hi2 hj2 hG
    go_upto_block 0 with fail
    rw [HIi.out, HJj.out]
    go_cut [10] (fun v10 wx => v10 = .int .i64 i2 ∧ US base w g n C dk wx)
    case first =>
      go_wp2_with fail
      go_loopg [10] (j + 1 - i) (fun q vi wr => ∃ k : Nat, vi = .int .i64 k ∧ i ≤ k ∧ k ≤ j + 1 ∧ q = j + 1 - k ∧ Hid (US base w g n C dk wr) ∧ Hid (Sort.scanUp (fun x => Sort.ltInt x dk[a]!) dk j k = i2))
      case atStart => exact ⟨i, rfl, Nat.le_refl _, hij, rfl, HU, Lib.hid HI2.out.symm⟩
      case round =>
        obtain ⟨k, rfl, hik, hkj, rfl, HUk, HK⟩ := hrel
        by_cases hle : k ≤ j
        · have l0 : (k : Int) ≤ (j : Int) := by omega
          have m0 : (0 : Int) ≤ (k : Int) := by omega
          have m1 : (k : Int) < (n : Int) := by omega
          have m2 : (k : Int).toNat = k := by omega
          have c0 := HUk.out.cell HG.out a (by omega)
          have c1 := HUk.out.cell HG.out k (by omega)
          go_wp2_with fail
          go_quiet (first | (go_at_call 166; refine Calls.quiet_of_same (uless _ _ _)))
          have HUq := Lib.hid (HUk.out.drew nq)
          generalize wr.drewN nq = wq at HUq ⊢
          clear c0 c1 nq
          cases hl : Sort.ltInt (G k) (G a) with
          | false =>
            have HL := Lib.hid hl
            go_wp2_with fail
            go_meet
            refine ⟨?_, HUq.out⟩
            rw [← HK.out, scanUp_end _ _ _ _ (.inr (by rw [← HG.out, ← HG.out, HL.out]))]
          | true =>
            have HL := Lib.hid hl
            go_wp2_with fail
            go_roundg (j + 1 - (k + 1))
            case measure => omega
            case rel => exact ⟨k + 1, by go_num, by omega, by omega, rfl, HUq, Lib.hid (by rw [← HK.out, scanUp_go _ _ _ _ hle (by rw [← HG.out, ← HG.out, HL.out])])⟩
        · have l0 : ¬ (k : Int) ≤ (j : Int) := by omega
          have l1 : decide ((k : Int) ≤ (j : Int)) = false := decide_eq_false l0
          go_wp2_with fail
          go_quiet (fail)
          have HUq := Lib.hid (HUk.out.drew nq)
          generalize wr.drewN nq = wq at HUq ⊢
          go_wp2_with fail
          go_meet
          refine ⟨?_, HUq.out⟩
          rw [← HK.out, scanUp_end _ _ _ _ (.inl hle)]
    case rest =>
      obtain ⟨rfl, hU2⟩ := hcut
      have HU2 := Lib.hid hU2
      clear hU2
      go_upto_block 2 with fail
      go_cut [11] (fun v11 wx => v11 = .int .i64 j2 ∧ US base w g n C dk wx)
      case first =>
        go_wp2_with fail
        go_loopg [11] j (fun q vj wr => ∃ k : Nat, vj = .int .i64 k ∧ k ≤ j ∧ i2 ≤ k + 1 ∧ q = k ∧ Hid (US base w g n C dk wr) ∧ Hid (Sort.scanDown (fun x => !Sort.ltInt x dk[a]!) dk i2 k = j2))
        case atStart => exact ⟨j, rfl, Nat.le_refl _, u2, rfl, HU2, Lib.hid HJ2.out.symm⟩
        case round =>
          obtain ⟨k, rfl, hkj, hik, hqk, HUk, HK⟩ := hrel
          obtain rfl := hqk.symm
          by_cases hle : i2 ≤ k
          · have l0 : (i2 : Int) ≤ (k : Int) := by omega
            have m0 : (0 : Int) ≤ (k : Int) := by omega
            have m1 : (k : Int) < (n : Int) := by omega
            have m2 : (k : Int).toNat = k := by omega
            have c0 := HUk.out.cell HG.out a (by omega)
            have c1 := HUk.out.cell HG.out k (by omega)
            go_wp2_with fail
            go_quiet (first | (go_at_call 166; refine Calls.quiet_of_same (uless _ _ _)))
            have HUq := Lib.hid (HUk.out.drew nq)
            generalize wr.drewN nq = wq at HUq ⊢
            clear c0 c1 nq
            cases hl : Sort.ltInt (G k) (G a) with
            | true =>
              have HL := Lib.hid hl
              go_wp2_with fail
              go_meet
              refine ⟨?_, HUq.out⟩
              rw [← HK.out, scanDown_end _ _ _ _ (.inr (by rw [← HG.out, ← HG.out, HL.out]; rfl))]
            | false =>
              have HL := Lib.hid hl
              go_wp2_with fail
              go_roundg (k - 1)
              case measure => omega
              case rel => exact ⟨k - 1, by congr 1; omega, by omega, by omega, rfl, HUq, Lib.hid (by rw [← HK.out, scanDown_go _ _ _ _ hle (by omega) (by rw [← HG.out, ← HG.out, HL.out]; rfl)])⟩
          · have l0 : ¬ (i2 : Int) ≤ (k : Int) := by omega
            have l1 : decide ((i2 : Int) ≤ (k : Int)) = false := decide_eq_false l0
            go_wp2_with fail
            go_quiet (fail)
            have HUq := Lib.hid (HUk.out.drew nq)
            generalize wr.drewN nq = wq at HUq ⊢
            go_wp2_with fail
            go_meet
            refine ⟨?_, HUq.out⟩
            rw [← HK.out, scanDown_end _ _ _ _ (.inl hle)]
      case rest =>
        obtain ⟨rfl, hU3⟩ := hcut
        have HU3 := Lib.hid hU3
        clear hU3
        by_cases hgt : j2 < i2
        · have l0 : (j2 : Int) < (i2 : Int) := by omega
          have HBR := Lib.hid (HFB.out i2 j2 HI2.out HJ2.out hgt)
          have c1 := HU3.out.cell HG.out a (by omega)
          have f1 := HU3.out.free a (by omega)
          have HS := Lib.hid (HU3.out.swap HG.out hbg (i := j2) (j := a) (by omega) (by omega))
          have k0 : (0 : Int) ≤ (j2 : Int) := by omega
          have k1 : (j2 : Int) < (n : Int) := by omega
          have k2 : (j2 : Int).toNat = j2 := by omega
          by_cases e : j2 = a
          · have HE := Lib.hid e
            have HS2 : Hid (US base w g n C (Sort.swp dk j2 a) ((wc.setCell ⟨g, a, none⟩ (.int .u32 (G a))).setCell ⟨g, a, none⟩ (.int .u32 (G a))).drew) := by
              have h := HS.out
              rw [HE.out] at h ⊢
              exact h
            have hj2a : (j2 : Int) = (a : Int) := by omega
            rw [hj2a]
            clear k0 k1 k2 e hj2a
            go_wp2_with fail
            go_region
            go_wp2_with fail
            go_ret2
            exact ⟨by rw [HBR.out]; simp only [HE.out]; rfl, by rw [HBR.out]; exact HS2.out⟩
          · have e2 : ¬ a = j2 := fun h => e h.symm
            have c0 := HU3.out.cell HG.out j2 (by omega)
            have f0 := HU3.out.free j2 (by omega)
            go_wp2_with fail
            go_region
            go_wp2_with fail
            go_ret2
            exact ⟨by rw [HBR.out]; rfl, by rw [HBR.out]; exact HS.out⟩
        · have l0 : ¬ (j2 : Int) < (i2 : Int) := by omega
          have HGO := Lib.hid (HFG.out i2 j2 HI2.out HJ2.out hgt)
          obtain ⟨P, hP⟩ : ∃ P, P = Sort.partLoop Sort.ltInt a (i2 + 1) (j2 - 1) (Sort.swp dk i2 j2) := ⟨_, rfl⟩
          rw [← hP] at HGO
          have HP : Hid (Sort.partLoop Sort.ltInt a (i2 + 1) (j2 - 1) (Sort.swp dk i2 j2) = P) := Lib.hid hP.symm
          clear hP
          have hlt2 : i2 < j2 := part_scans_lt Sort.ltInt a i j dk (by omega) HI2.out HJ2.out (by omega)
          have m0 : (0 : Int) ≤ (i2 : Int) := by omega
          have m1 : (i2 : Int) < (n : Int) := by omega
          have m2 : (i2 : Int).toNat = i2 := by omega
          have k0 : (0 : Int) ≤ (j2 : Int) := by omega
          have k1 : (j2 : Int) < (n : Int) := by omega
          have k2 : (j2 : Int).toNat = j2 := by omega
          have e1 : ¬ i2 = j2 := by omega
          have e2 : ¬ j2 = i2 := by omega
          have c0 := HU3.out.cell HG.out i2 (by omega)
          have c1 := HU3.out.cell HG.out j2 (by omega)
          have f0 := HU3.out.free i2 (by omega)
          have f1 := HU3.out.free j2 (by omega)
          have HS := Lib.hid (HU3.out.swap HG.out hbg (i := i2) (j := j2) (by omega) (by omega))
          go_wp2_with fail
          go_region
          go_wp2_with fail
          go_loopg [10, 11] (j2 - 1 + 1 - (i2 + 1)) (fun q vi vj wr => ∃ (i j : Nat) (dk : Array Int), vi = .int .i64 i ∧ vj = .int .i64 j ∧ a < i ∧ i ≤ j + 1 ∧ j < b ∧ q = j + 1 - i ∧ Hid (US base w g n C dk wr) ∧ Hid (Sort.partLoop Sort.ltInt a i j dk = P))
          case atStart => exact ⟨i2 + 1, j2 - 1, _, by go_num, by congr 1; omega, by omega, by omega, by omega, rfl, HS, HP⟩
          case round =>
            clear HFB HFG HI2 HJ2 HG HIi HJj HU HU2 HU3 u1 u2 v1 v2 hgt l0 hlt2 m0 m1 m2 k0 k1 k2 e1 e2 c0 c1 f0 f1 HS HP t0 t1 t2 hij hai hjb
            obtain ⟨i, j, dk, rfl, rfl, hai, hij, hjb, rfl, HU, HO⟩ := hrel
            obtain ⟨G, hG⟩ : ∃ G : Nat → Int, ∀ t, G t = dk[t]! := ⟨fun t => dk[t]!, fun _ => rfl⟩
            have HG := Lib.hid hG
            obtain ⟨i2, hi2⟩ : ∃ i2, i2 = Sort.scanUp (fun x => Sort.ltInt x dk[a]!) dk j i := ⟨_, rfl⟩
            obtain ⟨j2, hj2⟩ : ∃ j2, j2 = Sort.scanDown (fun x => !Sort.ltInt x dk[a]!) dk i2 j := ⟨_, rfl⟩
            obtain ⟨u1, u2, _, _⟩ := Sort.scanUp_spec (fun x => Sort.ltInt x dk[a]!) dk j _ i rfl
            obtain ⟨v1, v2, _, _⟩ := Sort.scanDown_spec (fun x => !Sort.ltInt x dk[a]!) dk i2 j
            rw [← hi2] at u1 u2
            rw [← hj2] at v1 v2
            have u2 := u2 hij
            have v2 := v2 u2
            have HI2 := Lib.hid hi2
            have HJ2 := Lib.hid hj2
            have t0 : (0 : Int) ≤ (a : Int) := by omega
            have t1 : (a : Int) < (n : Int) := by omega
            have t2 : (a : Int).toNat = a := by omega
            clear hi2 hj2 hG
            go_upto_block 6 with fail
            go_cut [10] (fun v10 wx => v10 = .int .i64 i2 ∧ US base w g n C dk wx)
            case first =>
              go_wp2_with fail
              go_loopg [10] (j + 1 - i) (fun q vi wr => ∃ k : Nat, vi = .int .i64 k ∧ i ≤ k ∧ k ≤ j + 1 ∧ q = j + 1 - k ∧ Hid (US base w g n C dk wr) ∧ Hid (Sort.scanUp (fun x => Sort.ltInt x dk[a]!) dk j k = i2))
              case atStart => exact ⟨i, rfl, Nat.le_refl _, hij, rfl, HU, Lib.hid HI2.out.symm⟩
              case round =>
                obtain ⟨k, rfl, hik, hkj, rfl, HUk, HK⟩ := hrel
                by_cases hle : k ≤ j
                · have l0 : (k : Int) ≤ (j : Int) := by omega
                  have m0 : (0 : Int) ≤ (k : Int) := by omega
                  have m1 : (k : Int) < (n : Int) := by omega
                  have m2 : (k : Int).toNat = k := by omega
                  have c0 := HUk.out.cell HG.out a (by omega)
                  have c1 := HUk.out.cell HG.out k (by omega)
                  go_wp2_with fail
                  go_quiet (first | (go_at_call 166; refine Calls.quiet_of_same (uless _ _ _)))
                  have HUq := Lib.hid (HUk.out.drew nq)
                  generalize wr.drewN nq = wq at HUq ⊢
                  clear c0 c1 nq
                  cases hl : Sort.ltInt (G k) (G a) with
                  | false =>
                    have HL := Lib.hid hl
                    go_wp2_with fail
                    go_meet
                    refine ⟨?_, HUq.out⟩
                    rw [← HK.out, scanUp_end _ _ _ _ (.inr (by rw [← HG.out, ← HG.out, HL.out]))]
                  | true =>
                    have HL := Lib.hid hl
                    go_wp2_with fail
                    go_roundg (j + 1 - (k + 1))
                    case measure => omega
                    case rel => exact ⟨k + 1, by go_num, by omega, by omega, rfl, HUq, Lib.hid (by rw [← HK.out, scanUp_go _ _ _ _ hle (by rw [← HG.out, ← HG.out, HL.out])])⟩
                · have l0 : ¬ (k : Int) ≤ (j : Int) := by omega
                  have l1 : decide ((k : Int) ≤ (j : Int)) = false := decide_eq_false l0
                  go_wp2_with fail
                  go_quiet (fail)
                  have HUq := Lib.hid (HUk.out.drew nq)
                  generalize wr.drewN nq = wq at HUq ⊢
                  go_wp2_with fail
                  go_meet
                  refine ⟨?_, HUq.out⟩
                  rw [← HK.out, scanUp_end _ _ _ _ (.inl hle)]
            case rest =>
              obtain ⟨rfl, hU2⟩ := hcut
              have HU2 := Lib.hid hU2
              clear hU2
              go_upto_block 8 with fail
              go_cut [11] (fun v11 wx => v11 = .int .i64 j2 ∧ US base w g n C dk wx)
              case first =>
                go_wp2_with fail
                go_loopg [11] j (fun q vj wr => ∃ k : Nat, vj = .int .i64 k ∧ k ≤ j ∧ i2 ≤ k + 1 ∧ q = k ∧ Hid (US base w g n C dk wr) ∧ Hid (Sort.scanDown (fun x => !Sort.ltInt x dk[a]!) dk i2 k = j2))
                case atStart => exact ⟨j, rfl, Nat.le_refl _, u2, rfl, HU2, Lib.hid HJ2.out.symm⟩
                case round =>
                  obtain ⟨k, rfl, hkj, hik, hqk, HUk, HK⟩ := hrel
                  obtain rfl := hqk.symm
                  by_cases hle : i2 ≤ k
                  · have l0 : (i2 : Int) ≤ (k : Int) := by omega
                    have m0 : (0 : Int) ≤ (k : Int) := by omega
                    have m1 : (k : Int) < (n : Int) := by omega
                    have m2 : (k : Int).toNat = k := by omega
                    have c0 := HUk.out.cell HG.out a (by omega)
                    have c1 := HUk.out.cell HG.out k (by omega)
                    go_wp2_with fail
                    go_quiet (first | (go_at_call 166; refine Calls.quiet_of_same (uless _ _ _)))
                    have HUq := Lib.hid (HUk.out.drew nq)
                    generalize wr.drewN nq = wq at HUq ⊢
                    clear c0 c1 nq
                    cases hl : Sort.ltInt (G k) (G a) with
                    | true =>
                      have HL := Lib.hid hl
                      go_wp2_with fail
                      go_meet
                      refine ⟨?_, HUq.out⟩
                      rw [← HK.out, scanDown_end _ _ _ _ (.inr (by rw [← HG.out, ← HG.out, HL.out]; rfl))]
                    | false =>
                      have HL := Lib.hid hl
                      go_wp2_with fail
                      go_roundg (k - 1)
                      case measure => omega
                      case rel => exact ⟨k - 1, by congr 1; omega, by omega, by omega, rfl, HUq, Lib.hid (by rw [← HK.out, scanDown_go _ _ _ _ hle (by omega) (by rw [← HG.out, ← HG.out, HL.out]; rfl)])⟩
                  · have l0 : ¬ (i2 : Int) ≤ (k : Int) := by omega
                    have l1 : decide ((i2 : Int) ≤ (k : Int)) = false := decide_eq_false l0
                    go_wp2_with fail
                    go_quiet (fail)
                    have HUq := Lib.hid (HUk.out.drew nq)
                    generalize wr.drewN nq = wq at HUq ⊢
                    go_wp2_with fail
                    go_meet
                    refine ⟨?_, HUq.out⟩
                    rw [← HK.out, scanDown_end _ _ _ _ (.inl hle)]
              case rest =>
                obtain ⟨rfl, hU3⟩ := hcut
                have HU3 := Lib.hid hU3
                clear hU3
                by_cases hgt : j2 < i2
                · have l0 : (j2 : Int) < (i2 : Int) := by omega
                  have HBR := Lib.hid ((part_break Sort.ltInt a i j dk HI2.out HJ2.out hgt).symm.trans HO.out)
                  have c1 := HU3.out.cell HG.out a (by omega)
                  have f1 := HU3.out.free a (by omega)
                  have HS := Lib.hid (HU3.out.swap HG.out hbg (i := j2) (j := a) (by omega) (by omega))
                  have k0 : (0 : Int) ≤ (j2 : Int) := by omega
                  have k1 : (j2 : Int) < (n : Int) := by omega
                  have k2 : (j2 : Int).toNat = j2 := by omega
                  by_cases e : j2 = a
                  · have HE := Lib.hid e
                    have HS2 : Hid (US base w g n C (Sort.swp dk j2 a) ((wc.setCell ⟨g, a, none⟩ (.int .u32 (G a))).setCell ⟨g, a, none⟩ (.int .u32 (G a))).drew) := by
                      have h := HS.out
                      rw [HE.out] at h ⊢
                      exact h
                    have hj2a : (j2 : Int) = (a : Int) := by omega
                    rw [hj2a]
                    clear k0 k1 k2 e hj2a
                    go_wp2_with fail
                    go_region
                    go_wp2_with fail
                    go_ret2
                    exact ⟨by rw [HGO.out, ← HBR.out]; simp only [HE.out]; rfl, by rw [HGO.out, ← HBR.out]; exact HS2.out⟩
                  · have e2 : ¬ a = j2 := fun h => e h.symm
                    have c0 := HU3.out.cell HG.out j2 (by omega)
                    have f0 := HU3.out.free j2 (by omega)
                    go_wp2_with fail
                    go_region
                    go_wp2_with fail
                    go_ret2
                    exact ⟨by rw [HGO.out, ← HBR.out]; rfl, by rw [HGO.out, ← HBR.out]; exact HS.out⟩
                · have l0 : ¬ (j2 : Int) < (i2 : Int) := by omega
                  have HGO2 := Lib.hid (part_go Sort.ltInt a i j dk HI2.out HJ2.out hgt)
                  have hlt2 : i2 < j2 := part_scans_lt Sort.ltInt a i j dk (by omega) HI2.out HJ2.out (by omega)
                  have m0 : (0 : Int) ≤ (i2 : Int) := by omega
                  have m1 : (i2 : Int) < (n : Int) := by omega
                  have m2 : (i2 : Int).toNat = i2 := by omega
                  have k0 : (0 : Int) ≤ (j2 : Int) := by omega
                  have k1 : (j2 : Int) < (n : Int) := by omega
                  have k2 : (j2 : Int).toNat = j2 := by omega
                  have e1 : ¬ i2 = j2 := by omega
                  have e2 : ¬ j2 = i2 := by omega
                  have c0 := HU3.out.cell HG.out i2 (by omega)
                  have c1 := HU3.out.cell HG.out j2 (by omega)
                  have f0 := HU3.out.free i2 (by omega)
                  have f1 := HU3.out.free j2 (by omega)
                  have HS := Lib.hid (HU3.out.swap HG.out hbg (i := i2) (j := j2) (by omega) (by omega))
                  go_wp2_with fail
                  go_region
                  go_wp2_with fail
                  go_roundg (j2 - 1 + 1 - (i2 + 1))
                  case measure => omega
                  case rel => exact ⟨i2 + 1, j2 - 1, _, by go_num, by congr 1; omega, by omega, by omega, by omega, rfl, HS, Lib.hid (by rw [← HGO2.out]; exact HO.out)⟩
end Go.Proofs.YtbekkdhlfkongaaGreatDoor
/-
  slices.Sort at numbers: a few steps of insertion.
-/
namespace Go.Proofs.YtbekkdhlfkongaaGreatDoor
open Go.ChangeShapes Go.WideShapes Go.ChangeAt Go.RowKit Go.Shelf
set_option maxRecDepth 20000

theorem scan_le (d : Array Int) (b : Nat) : ∀ (q i : Nat), b - i = q → i ≤ b → i ≤ Sort.scanSorted Sort.ltInt d b i ∧ Sort.scanSorted Sort.ltInt d b i ≤ b
  | 0, i, h, hb => by rw [scanSorted_stop _ _ _ _ (.inl (by omega))]; exact ⟨Nat.le_refl _, hb⟩
  | q + 1, i, h, hb => by
    cases hl : Sort.ltInt d[i]! d[i - 1]! with
    | true => rw [scanSorted_stop _ _ _ _ (.inr hl)]; exact ⟨Nat.le_refl _, hb⟩
    | false =>
      rw [scanSorted_go _ _ _ _ (by omega) hl]
      have := scan_le d b q (i + 1) (by omega) (by omega)
      omega

/-! ### partialInsertionSortOrdered -/
set_option maxHeartbeats 16000000 in
set_option maxRecDepth 100000 in
theorem upins_any {base g n C cap a b : Nat} {d : Array Int} (w : World) (hU : US base w g n C d w) (hbg : base ≤ g) (hab : a < b) (hb : b ≤ n) (hn : n ≤ 64) :
    Calls Tryz.prog 165 #[.slice (some ⟨g, 0, none⟩) n cap, .int .i64 a, .int .i64 b] w fun e w' => e = .returned (.bool (Sort.partialInsertionSort Sort.ltInt d a b).2) ∧ US base w g n C (Sort.partialInsertionSort Sort.ltInt d a b).1 w' := by
  have HU0 := Lib.hid hU
  clear hU
  obtain ⟨R, hR⟩ : ∃ R, R = Sort.partialInsertionSort Sort.ltInt d a b := ⟨_, rfl⟩
  have HR : Hid (Sort.partialIns Sort.ltInt a b (5 - 0) (a + 1) d = R) := Lib.hid (by rw [hR]; rfl)
  rw [← hR]
  clear hR
  go_enter Tryz.func165, Tryz.ntmps165
  go_wp2_with fail
  go_loopg [7, 8] 5 (fun q vi vs wr => ∃ (i s : Nat) (dk : Array Int), vi = .int .i64 i ∧ vs = .int .i64 s ∧ a < i ∧ i ≤ b ∧ s ≤ 5 ∧ q = 5 - s ∧ Hid (US base w g n C dk wr) ∧ Hid (Sort.partialIns Sort.ltInt a b (5 - s) i dk = R))
  case atStart => exact ⟨a + 1, 0, d, by go_num, rfl, by omega, by omega, by omega, rfl, HU0, HR⟩
  case round =>
    obtain ⟨i, s, dk, rfl, rfl, hai, hib, hs, rfl, HU, HO⟩ := hrel
    by_cases hs5 : s < 5
    · have l5 : (s : Int) < 5 := by omega
      obtain ⟨G, hG⟩ : ∃ G : Nat → Int, ∀ t, G t = dk[t]! := ⟨fun t => dk[t]!, fun _ => rfl⟩
      have HG := Lib.hid hG
      obtain ⟨i2, hi2⟩ : ∃ i2, i2 = Sort.scanSorted Sort.ltInt dk b i := ⟨_, rfl⟩
      obtain ⟨u1, u2⟩ := scan_le dk b _ i rfl hib
      rw [← hi2] at u1 u2
      have HI2 : Hid (Sort.scanSorted Sort.ltInt dk b i = i2) := Lib.hid hi2.symm
      clear hi2 hG
      go_upto_block 2 with fail
      go_cut [7] (fun v7 wx => v7 = .int .i64 i2 ∧ US base w g n C dk wx)
      case first =>
        go_wp2_with fail
        go_loopg [7] (b - i) (fun q vi wr => ∃ k : Nat, vi = .int .i64 k ∧ i ≤ k ∧ k ≤ b ∧ q = b - k ∧ Hid (US base w g n C dk wr) ∧ Hid (Sort.scanSorted Sort.ltInt dk b k = i2))
        case atStart => exact ⟨i, rfl, Nat.le_refl _, hib, rfl, HU, HI2⟩
        case round =>
          obtain ⟨k, rfl, hik, hkb, rfl, HUk, HK⟩ := hrel
          by_cases hlt : k < b
          · have l0 : (k : Int) < (b : Int) := by omega
            have m0 : (0 : Int) ≤ (k : Int) := by omega
            have m1 : (k : Int) < (n : Int) := by omega
            have m2 : (k : Int).toNat = k := by omega
            have k0 : (0 : Int) ≤ (k : Int) - 1 := by omega
            have k1 : (k : Int) - 1 < (n : Int) := by omega
            have k2 : ((k : Int) - 1).toNat = k - 1 := by omega
            have c0 := HUk.out.cell HG.out k (by omega)
            have c1 := HUk.out.cell HG.out (k - 1) (by omega)
            go_wp2_with fail
            go_quiet (first | (go_at_call 166; refine Calls.quiet_of_same (uless _ _ _)))
            have HUq := Lib.hid (HUk.out.drew nq)
            generalize wr.drewN nq = wq at HUq ⊢
            clear c0 c1 nq
            cases hl : Sort.ltInt (G k) (G (k - 1)) with
            | true =>
              have HL := Lib.hid hl
              go_wp2_with fail
              go_meet
              refine ⟨?_, HUq.out⟩
              rw [← HK.out, scanSorted_stop _ _ _ _ (.inr (by rw [← HG.out, ← HG.out, HL.out]))]
            | false =>
              have HL := Lib.hid hl
              go_wp2_with fail
              go_roundg (b - (k + 1))
              case measure => omega
              case rel => exact ⟨k + 1, by go_num, by omega, by omega, rfl, HUq, Lib.hid (by rw [← HK.out, scanSorted_go _ _ _ _ hlt (by rw [← HG.out, ← HG.out, HL.out])])⟩
          · have l0 : ¬ (k : Int) < (b : Int) := by omega
            have l1 : decide ((k : Int) < (b : Int)) = false := decide_eq_false l0
            go_wp2_with fail
            go_quiet (fail)
            have HUq := Lib.hid (HUk.out.drew nq)
            generalize wr.drewN nq = wq at HUq ⊢
            go_wp2_with fail
            go_meet
            refine ⟨?_, HUq.out⟩
            rw [← HK.out, scanSorted_stop _ _ _ _ (.inl hlt)]
      case rest =>
        obtain ⟨rfl, hU2⟩ := hcut
        have HU2 := Lib.hid hU2
        clear hU2
        by_cases heb : i2 = b
        · have HBR : Hid ((dk, true) = R) := Lib.hid (by rw [← HO.out, pi_true _ _ _ _ _ _ hs5 (by rw [HI2.out]; exact heb)])
          have l0 : ((i2 : Int) == (b : Int)) = true := by rw [heb]; simp
          have l0p : (i2 : Int) = (b : Int) := by rw [heb]
          clear heb
          go_wp2_with fail
          go_ret
          rw [← HBR.out]
          exact ⟨rfl, HU2.out⟩
        · have l0 : ((i2 : Int) == (b : Int)) = false := by simp; omega
          have l0p : ¬ (i2 : Int) = (b : Int) := by omega
          by_cases h50 : b - a < 50
          · have HBR : Hid ((dk, false) = R) := Lib.hid (by rw [← HO.out, pi_short _ _ _ _ _ _ hs5 (by rw [HI2.out]; exact heb) h50])
            have l1 : (b : Int) - (a : Int) < 50 := by omega
            go_wp2_with fail
            go_ret
            rw [← HBR.out]
            exact ⟨rfl, HU2.out⟩
          · have l1 : ¬ (b : Int) - (a : Int) < 50 := by omega
            have HGO := Lib.hid ((pi_go Sort.ltInt a b s i i2 dk hs5 HI2.out heb h50).symm.trans HO.out)
            have m0 : (0 : Int) ≤ (i2 : Int) := by omega
            have m1 : (i2 : Int) < (n : Int) := by omega
            have m2 : (i2 : Int).toNat = i2 := by omega
            have k0 : (0 : Int) ≤ (i2 : Int) - 1 := by omega
            have k1 : (i2 : Int) - 1 < (n : Int) := by omega
            have k2 : ((i2 : Int) - 1).toNat = i2 - 1 := by omega
            have c0 := HU2.out.cell HG.out i2 (by omega)
            have c1 := HU2.out.cell HG.out (i2 - 1) (by omega)
            have f0 := HU2.out.free i2 (by omega)
            have f1 := HU2.out.free (i2 - 1) (by omega)
            have e1 : ¬ i2 = i2 - 1 := by omega
            have e2 : ¬ i2 - 1 = i2 := by omega
            have hS := HU2.out.swap HG.out hbg (i := i2) (j := i2 - 1) (by omega) (by omega)
            obtain ⟨d2, hd2⟩ : ∃ d2, d2 = Sort.swp dk i2 (i2 - 1) := ⟨_, rfl⟩
            rw [← hd2] at hS HGO
            have HS := Lib.hid hS
            clear hS hd2
            go_wp2_with fail
            go_region
            obtain ⟨W2, hW2⟩ : ∃ W, W = ((wc.setCell ⟨g, i2, none⟩ (.int .u32 (G (i2 - 1)))).setCell ⟨g, i2 - 1, none⟩ (.int .u32 (G i2))).drew := ⟨_, rfl⟩
            rw [← hW2] at HS ⊢
            clear hW2 c0 c1 f0 f1 m0 m1 m2 k0 k1 k2
            obtain ⟨d3, hd3⟩ : ∃ d3, d3 = Sort.fixDown Sort.ltInt a i2 d2 := ⟨_, rfl⟩
            rw [← hd3] at HGO
            have HD3 := Lib.hid hd3
            clear hd3
            go_upto_if 61 with fail
            go_cut [9] (fun v9 wx => US base w g n C d3 wx)
            case first =>
              by_cases h2 : i2 - a ≥ 2
              · have l2 : 2 ≤ (i2 : Int) - (a : Int) := by omega
                have l2d : decide (2 ≤ (i2 : Int) - (a : Int)) = true := decide_eq_true l2
                rw [l2d]
                have HE : Hid (Sort.shiftDown Sort.ltInt (i2 - 1) d2 = d3) := Lib.hid (by rw [HD3.out]; unfold Sort.fixDown; rw [if_pos h2])
                have i2z : (i2 : Int) - 1 = ((i2 - 1 : Nat) : Int) := by omega
                have I2Z := Lib.hid i2z
                clear i2z
                go_wp2_with fail
                go_loopg [9] (i2 - 1) (fun q vj wr => ∃ (k : Nat) (dj : Array Int), vj = .int .i64 k ∧ k ≤ i2 - 1 ∧ q = k ∧ Hid (US base w g n C dj wr) ∧ Hid (Sort.shiftDown Sort.ltInt k dj = d3))
                case atStart => exact ⟨i2 - 1, d2, by rw [← I2Z.out], Nat.le_refl _, rfl, HS, HE⟩
                case round =>
                  obtain ⟨k, dj, rfl, hk, hqk, HUk, HK⟩ := hrel
                  obtain rfl := hqk.symm
                  by_cases h1 : 1 ≤ k
                  · have l3 : (1 : Int) ≤ (k : Int) := by omega
                    have m0 : (0 : Int) ≤ (k : Int) := by omega
                    have m1 : (k : Int) < (n : Int) := by omega
                    have m2 : (k : Int).toNat = k := by omega
                    have k0 : (0 : Int) ≤ (k : Int) - 1 := by omega
                    have k1 : (k : Int) - 1 < (n : Int) := by omega
                    have k2 : ((k : Int) - 1).toNat = k - 1 := by omega
                    obtain ⟨G, hG⟩ : ∃ G : Nat → Int, ∀ t, G t = dj[t]! := ⟨fun t => dj[t]!, fun _ => rfl⟩
                    have HG := Lib.hid hG
                    clear hG
                    have c0 := HUk.out.cell HG.out k (by omega)
                    have c1 := HUk.out.cell HG.out (k - 1) (by omega)
                    go_wp2_with fail
                    go_quiet (first | (go_at_call 166; refine Calls.quiet_of_same (uless _ _ _)))
                    have HUq := Lib.hid (HUk.out.drew nq)
                    generalize wr.drewN nq = wq at HUq ⊢
                    clear c0 c1 nq
                    cases hl : Sort.ltInt (G k) (G (k - 1)) with
                    | true =>
                      have HL := Lib.hid hl
                      have c0 := HUq.out.cell HG.out k (by omega)
                      have c1 := HUq.out.cell HG.out (k - 1) (by omega)
                      have f0 := HUq.out.free k (by omega)
                      have f1 := HUq.out.free (k - 1) (by omega)
                      have e1 : ¬ k = k - 1 := by omega
                      have e2 : ¬ k - 1 = k := by omega
                      have HS2 := Lib.hid (HUq.out.swap HG.out hbg (i := k) (j := k - 1) (by omega) (by omega))
                      go_wp2_with fail
                      go_region
                      go_wp2_with fail
                      go_roundg (k - 1)
                      case measure => omega
                      case rel => exact ⟨k - 1, _, by congr 1; omega, by omega, rfl, HS2, Lib.hid (by rw [← HK.out, shiftDown_go _ _ _ h1 (by rw [← HG.out, ← HG.out, HL.out])])⟩
                    | false =>
                      have HL := Lib.hid hl
                      go_wp2_with fail
                      go_meet
                      rw [← HK.out, shiftDown_stop _ _ _ (.inr (by rw [← HG.out, ← HG.out, HL.out]))]
                      exact HUq.out
                  · have l3 : ¬ (1 : Int) ≤ (k : Int) := by omega
                    go_wp2_with fail
                    go_meet
                    rw [← HK.out, shiftDown_stop _ _ _ (.inl (by omega))]
                    exact HUk.out
              · have l2 : ¬ 2 ≤ (i2 : Int) - (a : Int) := by omega
                go_wp2_with fail
                go_meet
                rw [HD3.out]
                unfold Sort.fixDown
                rw [if_neg h2]
                exact HS.out
            case rest =>
              have HU3 := Lib.hid hcut
              clear hcut
              obtain ⟨d4, hd4⟩ : ∃ d4, d4 = Sort.fixUp Sort.ltInt b i2 d3 := ⟨_, rfl⟩
              rw [← hd4] at HGO
              have HD4 := Lib.hid hd4
              clear hd4
              by_cases h2 : b - i2 ≥ 2
              · have l2 : 2 ≤ (b : Int) - (i2 : Int) := by omega
                have HE : Hid (Sort.shiftUp Sort.ltInt b (i2 + 1) d3 = d4) := Lib.hid (by rw [HD4.out]; unfold Sort.fixUp; rw [if_pos h2])
                go_wp2_with fail
                go_loopg [10] (b - (i2 + 1)) (fun q vj wr => ∃ (k : Nat) (dj : Array Int), vj = .int .i64 k ∧ i2 < k ∧ k ≤ b ∧ q = b - k ∧ Hid (US base w g n C dj wr) ∧ Hid (Sort.shiftUp Sort.ltInt b k dj = d4))
                case atStart => exact ⟨i2 + 1, d3, by go_num, by omega, by omega, rfl, HU3, HE⟩
                case round =>
                  obtain ⟨k, dj, rfl, hk, hkb, rfl, HUk, HK⟩ := hrel
                  by_cases h1 : k < b
                  · have l3 : (k : Int) < (b : Int) := by omega
                    have m0 : (0 : Int) ≤ (k : Int) := by omega
                    have m1 : (k : Int) < (n : Int) := by omega
                    have m2 : (k : Int).toNat = k := by omega
                    have k0 : (0 : Int) ≤ (k : Int) - 1 := by omega
                    have k1 : (k : Int) - 1 < (n : Int) := by omega
                    have k2 : ((k : Int) - 1).toNat = k - 1 := by omega
                    obtain ⟨G, hG⟩ : ∃ G : Nat → Int, ∀ t, G t = dj[t]! := ⟨fun t => dj[t]!, fun _ => rfl⟩
                    have HG := Lib.hid hG
                    clear hG
                    have c0 := HUk.out.cell HG.out k (by omega)
                    have c1 := HUk.out.cell HG.out (k - 1) (by omega)
                    go_wp2_with fail
                    go_quiet (first | (go_at_call 166; refine Calls.quiet_of_same (uless _ _ _)))
                    have HUq := Lib.hid (HUk.out.drew nq)
                    generalize wr.drewN nq = wq at HUq ⊢
                    clear c0 c1 nq
                    cases hl : Sort.ltInt (G k) (G (k - 1)) with
                    | true =>
                      have HL := Lib.hid hl
                      have c0 := HUq.out.cell HG.out k (by omega)
                      have c1 := HUq.out.cell HG.out (k - 1) (by omega)
                      have f0 := HUq.out.free k (by omega)
                      have f1 := HUq.out.free (k - 1) (by omega)
                      have e1 : ¬ k = k - 1 := by omega
                      have e2 : ¬ k - 1 = k := by omega
                      have HS2 := Lib.hid (HUq.out.swap HG.out hbg (i := k) (j := k - 1) (by omega) (by omega))
                      go_wp2_with fail
                      go_region
                      go_wp2_with fail
                      go_roundg (b - (k + 1))
                      case measure => omega
                      case rel => exact ⟨k + 1, _, by go_num, by omega, by omega, rfl, HS2, Lib.hid (by rw [← HK.out, shiftUp_go _ _ _ _ h1 (by rw [← HG.out, ← HG.out, HL.out])])⟩
                    | false =>
                      have HL := Lib.hid hl
                      have HU4 : Hid (US base w g n C d4 wq) := Lib.hid (by
                        rw [← HK.out, shiftUp_stop _ _ _ _ (.inr (by rw [← HG.out, ← HG.out, HL.out]))]
                        exact HUq.out)
                      go_wp2_with fail
                      go_roundg (5 - (s + 1))
                      case measure => omega
                      case rel => exact ⟨i2, s + 1, d4, rfl, by go_num, by omega, by omega, by omega, rfl, HU4, HGO⟩
                  · have l3 : ¬ (k : Int) < (b : Int) := by omega
                    have HU4 : Hid (US base w g n C d4 wr) := Lib.hid (by
                      rw [← HK.out, shiftUp_stop _ _ _ _ (.inl h1)]
                      exact HUk.out)
                    go_wp2_with fail
                    go_roundg (5 - (s + 1))
                    case measure => omega
                    case rel => exact ⟨i2, s + 1, d4, rfl, by go_num, by omega, by omega, by omega, rfl, HU4, HGO⟩
              · have l2 : ¬ 2 ≤ (b : Int) - (i2 : Int) := by omega
                have HU4 : Hid (US base w g n C d4 wc) := Lib.hid (by
                  rw [HD4.out]
                  unfold Sort.fixUp
                  rw [if_neg h2]
                  exact HU3.out)
                go_wp2_with fail
                go_roundg (5 - (s + 1))
                case measure => omega
                case rel => exact ⟨i2, s + 1, d4, rfl, by go_num, by omega, by omega, by omega, rfl, HU4, HGO⟩
    · have l5 : ¬ (s : Int) < 5 := by omega
      obtain rfl : s = 5 := by omega
      have HBR : Hid ((dk, false) = R) := Lib.hid (by rw [← HO.out, pi_end])
      go_wp2_with fail
      go_ret
      rw [← HBR.out]
      exact ⟨rfl, HU.out⟩
end Go.Proofs.YtbekkdhlfkongaaGreatDoor
/-
  slices.Sort at numbers: the choice of a pivot (any place within will do).
-/
namespace Go.Proofs.YtbekkdhlfkongaaGreatDoor
open Go.ChangeShapes Go.WideShapes Go.ChangeAt Go.RowKit Go.Shelf
set_option maxRecDepth 20000

theorem US.other {base g n C : Nat} {w wr : World} {d : Array Int} (h : US base w g n C d wr) {s : Nat} (hs : base ≤ s) (hne : s ≠ g) (v : Value) : US base w g n C d (wr.setCell ⟨s, 0, none⟩ v) := by
  obtain ⟨cur, hh, r⟩ := h.hold
  exact ⟨h.len, h.below.setCell (p := ⟨s, 0, none⟩) hs v, cur, (Below.heap_setCell _ _ _ _ (fun e => hne e.symm)).trans hh, r⟩
theorem US.alloc {base g n C : Nat} {w wr : World} {d : Array Int} (h : US base w g n C d wr) (hb : base ≤ g) (o : Obj) : US base w g n C d (wr.alloc o) := by
  obtain ⟨cur, hh, r⟩ := h.hold
  have hg := lt_of_block hh
  exact ⟨h.len, h.below.alloc (by omega) o, cur, (Below.heap_alloc _ _ _ hg).trans hh, r⟩
/-- The box that counts. -/
def CBox (w : World) (s : Nat) : Prop := ∃ z : Int, w.heap[s]? = some (.cells #[.int .i64 z] 3 (0, 0))
set_option maxHeartbeats 16000000 in
theorem uord2_any {base g n C cap a b s : Nat} {d : Array Int} (w0 w : World) (hU : US base w0 g n C d w) (ha : a < n) (hb : b < n) (_hn : n ≤ 64) (hc : CBox w s) (hbs : base ≤ s) (hsg : s ≠ g) :
    Calls Tryz.prog 185 #[.slice (some ⟨g, 0, none⟩) n cap, .int .i64 a, .int .i64 b, .pointer (some ⟨s, 0, none⟩)] w fun e w' => ∃ p q : Nat, p < n ∧ q < n ∧ ((p = a ∧ q = b) ∨ (p = b ∧ q = a)) ∧ e = .returned (.tuple #[.int .i64 p, .int .i64 q]) ∧ US base w0 g n C d w' ∧ CBox w' s := by
  obtain ⟨z, hz⟩ := hc
  have HU := Lib.hid hU
  have HZ := Lib.hid hz
  obtain ⟨G, hG⟩ : ∃ G : Nat → Int, ∀ t, G t = d[t]! := ⟨fun t => d[t]!, fun _ => rfl⟩
  have c0 := hU.cell hG a ha
  have c1 := hU.cell hG b hb
  have m0 : (0 : Int) ≤ (a : Int) := by omega
  have m1 : (a : Int) < (n : Int) := by omega
  have m2 : (a : Int).toNat = a := by omega
  have k0 : (0 : Int) ≤ (b : Int) := by omega
  have k1 : (b : Int) < (n : Int) := by omega
  have k2 : (b : Int).toNat = b := by omega
  clear hU hz hG
  go_enter Tryz.func185, Tryz.ntmps185
  go_wp2_with fail
  go_quiet (first | (go_at_call 166; refine Calls.quiet_of_same (uless _ _ _)))
  have HUq := Lib.hid (HU.out.drew nq)
  have HZq : Hid ((w.drewN nq).heap[s]? = some (.cells #[.int .i64 z] 3 (0, 0))) := HZ
  generalize w.drewN nq = wq at HUq HZq ⊢
  clear c0 c1 nq
  have z0 : wq.cell? ⟨s, 0, none⟩ = some (.int .i64 z) := cell_in HZq.out 0
  have z1 := free_in HZq.out 0
  have HSz : Hid (∀ v, (wq.setCell ⟨s, 0, none⟩ v).heap[s]? = some (.cells #[v] 3 (0, 0))) := Lib.hid (fun v => (set_block HZq.out 0 v).trans (by simp))
  cases hl : Sort.ltInt (G b) (G a) with
  | true =>
    have HL := Lib.hid hl
    go_wp2_with fail
    go_ret2
    exact ⟨b, a, hb, ha, .inr ⟨rfl, rfl⟩, rfl, HUq.out.other hbs hsg _, _, HSz.out _⟩
  | false =>
    have HL := Lib.hid hl
    go_wp2_with fail
    go_ret2
    exact ⟨a, b, ha, hb, .inl ⟨rfl, rfl⟩, rfl, HUq.out, _, HZq.out⟩
set_option maxHeartbeats 16000000 in
theorem umed_any {base g n C cap a b c s : Nat} {d : Array Int} (w0 w : World) (hU : US base w0 g n C d w) (ha : a < n) (hb : b < n) (hc : c < n) (hn : n ≤ 64) (hs : CBox w s) (hbs : base ≤ s) (hsg : s ≠ g) :
    Calls Tryz.prog 179 #[.slice (some ⟨g, 0, none⟩) n cap, .int .i64 a, .int .i64 b, .int .i64 c, .pointer (some ⟨s, 0, none⟩)] w fun e w' => ∃ p : Nat, (p = a ∨ p = b ∨ p = c) ∧ e = .returned (.int .i64 p) ∧ US base w0 g n C d w' ∧ CBox w' s := by
  have HU := Lib.hid hU
  have HS := Lib.hid hs
  clear hU hs
  go_enter Tryz.func179, Tryz.ntmps179
  go_wp2_with fail
  refine (uord2_any w0 w HU.out ha hb hn HS.out hbs hsg).mono ?_
  rintro e w1 ⟨p1, q1, hp1, hq1, hv1, rfl, hU1, hs1⟩
  have HU1 := Lib.hid hU1
  have HS1 := Lib.hid hs1
  have HV1 := Lib.hid hv1
  clear hU1 hs1 hv1
  go_wp2_with fail
  refine (uord2_any w0 w1 HU1.out hq1 hc hn HS1.out hbs hsg).mono ?_
  rintro e w2 ⟨p2, q2, hp2, hq2, hv2, rfl, hU2, hs2⟩
  have HU2 := Lib.hid hU2
  have HS2 := Lib.hid hs2
  have HV2 := Lib.hid hv2
  clear hU2 hs2 hv2
  go_wp2_with fail
  refine (uord2_any w0 w2 HU2.out hp1 hp2 hn HS2.out hbs hsg).mono ?_
  rintro e w3 ⟨p3, q3, hp3, hq3, hv3, rfl, hU3, hs3⟩
  have HU3 := Lib.hid hU3
  have HS3 := Lib.hid hs3
  have HV3 := Lib.hid hv3
  clear hU3 hs3 hv3
  go_wp2_with fail
  go_ret
  refine ⟨q3, ?_, rfl, HU3.out, HS3.out⟩
  have h1 := HV1.out
  have h2 := HV2.out
  have h3 := HV3.out
  omega
set_option maxHeartbeats 16000000 in
theorem umedadj_any {base g n C cap a s : Nat} {d : Array Int} (w0 w : World) (hU : US base w0 g n C d w) (ha0 : 1 ≤ a) (ha : a + 1 < n) (hn : n ≤ 64) (hs : CBox w s) (hbs : base ≤ s) (hsg : s ≠ g) :
    Calls Tryz.prog 178 #[.slice (some ⟨g, 0, none⟩) n cap, .int .i64 a, .pointer (some ⟨s, 0, none⟩)] w fun e w' => ∃ p : Nat, a ≤ p + 1 ∧ p ≤ a + 1 ∧ e = .returned (.int .i64 p) ∧ US base w0 g n C d w' ∧ CBox w' s := by
  obtain ⟨x, hx⟩ : ∃ x, x = a - 1 := ⟨_, rfl⟩
  obtain ⟨y, hy⟩ : ∃ y, y = a + 1 := ⟨_, rfl⟩
  have HXZ : Hid ((a : Int) - 1 = (x : Int)) := Lib.hid (by omega)
  have HYZ : Hid ((a : Int) + 1 = (y : Int)) := Lib.hid (by omega)
  have hc := umed_any (cap := cap) w0 w hU (show x < n by omega) (show a < n by omega) (show y < n by omega) hn hs hbs hsg
  have HC := Lib.hid hc
  have hb1 : a ≤ x + 1 := by omega
  have hb2 : x ≤ a := by omega
  have hb3 : y ≤ a + 1 := by omega
  have hb4 : a ≤ y := by omega
  clear hc hx hy hU hs
  go_enter Tryz.func178, Tryz.ntmps178
  go_wp2_with fail
  rw [HXZ.out, HYZ.out]
  refine HC.out.mono ?_
  rintro e w1 ⟨p, hp, rfl, hU1, hs1⟩
  have HP := Lib.hid hp
  have HU1 := Lib.hid hU1
  have HS1 := Lib.hid hs1
  clear hp hU1 hs1
  go_wp2_with fail
  go_ret
  have h := HP.out
  exact ⟨p, by omega, by omega, rfl, HU1.out, HS1.out⟩
set_option maxHeartbeats 16000000 in
set_option maxRecDepth 100000 in
theorem upick_any {base g n C cap a b : Nat} {d : Array Int} (w : World) (hU : US base w g n C d w) (hbg : base ≤ g) (hab : a + 8 ≤ b) (hb : b ≤ n) (hn : n ≤ 64) :
    Calls Tryz.prog 163 #[.slice (some ⟨g, 0, none⟩) n cap, .int .i64 a, .int .i64 b] w fun e w' => ∃ p h : Nat, a ≤ p ∧ p < b ∧ h ≤ 2 ∧ e = .returned (.tuple #[.int .i64 p, .int .i64 h]) ∧ US base w g n C d w' := by
  have hgl : g < w.heap.size := by
    obtain ⟨cur, hh, _⟩ := hU.hold
    exact lt_of_block hh
  obtain ⟨l, hl⟩ : ∃ l, l = b - a := ⟨_, rfl⟩
  obtain ⟨q, hq⟩ : ∃ q, q = l / 4 := ⟨_, rfl⟩
  have HL : Hid ((b : Int) - (a : Int) = (l : Int)) := Lib.hid (by omega)
  have HQ : Hid ((l : Int).tdiv 4 = (q : Int)) := Lib.hid (by
    rw [hq, Int.tdiv_eq_ediv_of_nonneg (by omega)]
    omega)
  have hq1 : 4 * q ≤ l := by omega
  have hq2 : l ≤ 4 * q + 3 := by omega
  have hl1 : a + l ≤ b := by omega
  have hl2 : b ≤ a + l := by omega
  have HU0 := Lib.hid hU
  clear hU hl hq
  go_enter Tryz.func163, Tryz.ntmps163
  go_upto_region 3 with fail
  rw [HL.out]
  obtain ⟨w1, hw1⟩ : ∃ V, V = w.alloc (.cells #[.int .i64 0] 3) := ⟨_, rfl⟩
  rw [← hw1]
  have HU1 : Hid (US base w g n C d w1) := Lib.hid (by rw [hw1]; exact HU0.out.alloc hbg _)
  obtain ⟨s, hs⟩ : ∃ s, s = w.heap.size := ⟨_, rfl⟩
  have HS1 : Hid (CBox w1 s) := Lib.hid (by rw [hw1, hs]; exact ⟨0, heap_alloc_new _ _⟩)
  rw [← hs]
  have hbs : base ≤ s := by omega
  have hsg : s ≠ g := by omega
  clear hw1 hs
  have hquo := HQ.out
  go_upto_region 6 with fail
  clear hquo
  obtain ⟨i, hi⟩ : ∃ i, i = a + q := ⟨_, rfl⟩
  obtain ⟨j, hj⟩ : ∃ j, j = a + q * 2 := ⟨_, rfl⟩
  obtain ⟨k, hk⟩ : ∃ k, k = a + q * 3 := ⟨_, rfl⟩
  have HI : Hid ((a : Int) + (q : Int) = (i : Int)) := Lib.hid (by omega)
  have HJ : Hid ((a : Int) + (q : Int) * 2 = (j : Int)) := Lib.hid (by omega)
  have HK : Hid ((a : Int) + (q : Int) * 3 = (k : Int)) := Lib.hid (by omega)
  have g1 : i ≤ a + q := by omega
  have g2 : a + q ≤ i := by omega
  have g3 : j ≤ a + q * 2 := by omega
  have g4 : a + q * 2 ≤ j := by omega
  have g5 : k ≤ a + q * 3 := by omega
  have g6 : a + q * 3 ≤ k := by omega
  rw [HI.out, HJ.out, HK.out]
  clear hi hj hk
  have l8 : (8 : Int) ≤ (l : Int) := by omega
  by_cases h50 : 50 ≤ l
  · have l50 : (50 : Int) ≤ (l : Int) := by omega
    go_wp2_with fail
    refine (umedadj_any w w1 HU1.out (by omega) (by omega) hn HS1.out hbs hsg).mono ?_
    rintro e w2 ⟨i', hi1, hi2, rfl, hU2, hs2⟩
    have HU2 := Lib.hid hU2
    have HS2 := Lib.hid hs2
    clear hU2 hs2
    go_wp2_with fail
    refine (umedadj_any w w2 HU2.out (by omega) (by omega) hn HS2.out hbs hsg).mono ?_
    rintro e w3 ⟨j', hj1, hj2, rfl, hU3, hs3⟩
    have HU3 := Lib.hid hU3
    have HS3 := Lib.hid hs3
    clear hU3 hs3
    go_wp2_with fail
    refine (umedadj_any w w3 HU3.out (by omega) (by omega) hn HS3.out hbs hsg).mono ?_
    rintro e w4 ⟨k', hk1, hk2, rfl, hU4, hs4⟩
    have HU4 := Lib.hid hU4
    have HS4 := Lib.hid hs4
    clear hU4 hs4
    go_wp2_with fail
    refine (umed_any w w4 HU4.out (a := i') (b := j') (c := k') (by omega) (by omega) (by omega) hn HS4.out hbs hsg).mono ?_
    rintro e w5 ⟨p, hp, rfl, hU5, z, hz5⟩
    have hp1 : a ≤ p := by omega
    have hp2 : p < b := by omega
    have HU5 := Lib.hid hU5
    have z0 : w5.cell? ⟨s, 0, none⟩ = some (.int .i64 z) := cell_in hz5 0
    clear hU5 hz5 hp
    by_cases e0 : z = 0
    · subst e0
      go_wp2_with fail
      go_ret2
      exact ⟨p, 1, hp1, hp2, by omega, rfl, HU5.out⟩
    · have b0 : (z == 0) = false := by simpa using e0
      by_cases e1 : z = 12
      · subst e1
        go_wp2_with fail
        go_ret2
        exact ⟨p, 2, hp1, hp2, by omega, rfl, HU5.out⟩
      · have b1 : (z == 12) = false := by simpa using e1
        go_wp2_with fail
        go_ret2
        exact ⟨p, 0, hp1, hp2, by omega, rfl, HU5.out⟩
  · have l50 : ¬ (50 : Int) ≤ (l : Int) := by omega
    go_wp2_with fail
    refine (umed_any w w1 HU1.out (a := i) (b := j) (c := k) (by omega) (by omega) (by omega) hn HS1.out hbs hsg).mono ?_
    rintro e w5 ⟨p, hp, rfl, hU5, z, hz5⟩
    have hp1 : a ≤ p := by omega
    have hp2 : p < b := by omega
    have HU5 := Lib.hid hU5
    have z0 : w5.cell? ⟨s, 0, none⟩ = some (.int .i64 z) := cell_in hz5 0
    clear hU5 hz5 hp
    by_cases e0 : z = 0
    · subst e0
      go_wp2_with fail
      go_ret2
      exact ⟨p, 1, hp1, hp2, by omega, rfl, HU5.out⟩
    · have b0 : (z == 0) = false := by simpa using e0
      by_cases e1 : z = 12
      · subst e1
        go_wp2_with fail
        go_ret2
        exact ⟨p, 2, hp1, hp2, by omega, rfl, HU5.out⟩
      · have b1 : (z == 12) = false := by simpa using e1
        go_wp2_with fail
        go_ret2
        exact ⟨p, 0, hp1, hp2, by omega, rfl, HU5.out⟩
end Go.Proofs.YtbekkdhlfkongaaGreatDoor
/-
  slices.Sort at numbers: patterns broken up (any exchange within will do).
-/
namespace Go.Proofs.YtbekkdhlfkongaaGreatDoor
open Go.ChangeShapes Go.WideShapes Go.ChangeAt Go.RowKit Go.Shelf
set_option maxRecDepth 20000

theorem tab_end (B : ByteArray) (x : Nat) (h : x < B.size) (hB : ((List.range 65).all fun y => y == 0 || (B.data[y]?.all fun v => decide (2 ^ v.toNat ≤ 2 * y) && decide (v.toNat ≤ 7))) = true) (h1 : 1 ≤ x) (h2 : x ≤ 64) (w : World) :
    ∃ m : Nat, m ≤ 7 ∧ 2 ^ m ≤ 2 * x ∧ Ending.returned (.int .i64 (wrap64 (wrap64 ((B[x].toNat : Nat) : Int)))) = Ending.returned (.int .i64 m) ∧ w = w := by
  have hx := List.all_eq_true.1 hB x (List.mem_range.2 (by omega))
  have h' : x < B.data.size := h
  rw [Array.getElem?_eq_getElem h'] at hx
  have e : B[x] = B.data[x] := rfl
  rw [e]
  obtain ⟨v, hv⟩ : ∃ v, v = B.data[x] := ⟨_, rfl⟩
  rw [← hv] at hx ⊢
  simp only [Option.all_some, Bool.or_eq_true, Bool.and_eq_true, decide_eq_true_eq, beq_iff_eq] at hx
  rcases hx with hx | ⟨hx, hy⟩
  · omega
  · refine ⟨v.toNat, hy, hx, ?_, rfl⟩
    have hw : wrap64 ((v.toNat : Nat) : Int) = (v.toNat : Nat) := by
      unfold wrap64
      omega
    rw [hw, hw]
set_option maxHeartbeats 16000000 in
set_option maxRecDepth 100000 in
theorem ulen64_any (x : Nat) (h1 : 1 ≤ x) (h2 : x ≤ 64) (w : World) : Calls Tryz.prog 170 #[.int .u64 x] w fun e w' => ∃ m : Nat, m ≤ 7 ∧ 2 ^ m ≤ 2 * x ∧ e = .returned (.int .i64 m) ∧ w' = w := by
  have k0 : ¬ (4294967296 : Int) ≤ (x : Int) := by omega
  have k1 : ¬ (65536 : Int) ≤ (x : Int) := by omega
  have k2 : ¬ (256 : Int) ≤ (x : Int) := by omega
  have k3 : (x : Int) < 256 := by omega
  have k4 : (x : Int).toNat = x := by omega
  have k5 : (0 : Int) ≤ (x : Int) := by omega
  have hw : IntKind.u8.wrap (x : Int) = (x : Int) := by rw [IntKind.wrap_u8]; omega
  go_enter Tryz.func170, Tryz.ntmps170
  go_wp2_with fail
  go_ret
  exact tab_end _ x _ (by decide +kernel) h1 h2 _
theorem ulen_any (x : Nat) (h1 : 1 ≤ x) (h2 : x ≤ 64) (w : World) : Calls Tryz.prog 155 #[.int .u64 x] w fun e w' => ∃ m : Nat, m ≤ 7 ∧ 2 ^ m ≤ 2 * x ∧ e = .returned (.int .i64 m) ∧ w' = w := by
  have HC := Lib.hid (ulen64_any x h1 h2 w)
  go_enter Tryz.func155, Tryz.ntmps155
  go_wp2_with fail
  refine HC.out.mono ?_
  rintro e w1 ⟨m, h3, h4, rfl, rfl⟩
  have H4 := Lib.hid h4
  clear h4
  go_wp2_with fail
  go_ret
  exact ⟨m, h3, H4.out, rfl, rfl⟩
theorem upow_any (x : Nat) (h1 : 1 ≤ x) (h2 : x ≤ 64) (w : World) : Calls Tryz.prog 176 #[.int .i64 x] w fun e w' => ∃ M : Nat, 1 ≤ M ∧ M ≤ 2 * x ∧ e = .returned (.int .u64 M) ∧ w' = w := by
  have HC := Lib.hid (ulen_any x h1 h2 w)
  have hw : IntKind.u64.wrap (x : Int) = (x : Int) := by rw [IntKind.wrap_u64]; omega
  go_enter Tryz.func176, Tryz.ntmps176
  go_wp2_with fail
  refine HC.out.mono ?_
  rintro e w1 ⟨m, h3, h4, rfl, rfl⟩
  have H4 := Lib.hid h4
  clear h4
  go_wp2_with fail
  go_ret
  have hp : 1 ≤ 2 ^ m := Nat.one_le_two_pow
  have h4 := H4.out
  refine ⟨2 ^ m, hp, h4, ?_, rfl⟩
  have e : IntKind.u64.wrap ((2 : Int) ^ m) = ((2 ^ m : Nat) : Int) := by
    have e2 : ((2 : Int) ^ m) = ((2 ^ m : Nat) : Int) := by push_cast; rfl
    rw [e2, IntKind.wrap_u64]
    omega
  exact congrArg (fun z => Ending.returned (Value.int .u64 z)) e
theorem bits_some (op : BinOp) (a b : Int) : ∃ E : Nat, bits op .u64 a b = (E : Int) ∧ E < 18446744073709551616 := by
  have h1 := bits_lo_u64 op a b
  have h2 := bits_hi_u64 op a b
  exact ⟨(bits op .u64 a b).toNat, by omega, by omega⟩
/-- The box that draws. -/
def XBox (w : World) (s : Nat) : Prop := ∃ z : Nat, z < 18446744073709551616 ∧ w.heap[s]? = some (.cells #[.int .u64 z] 223 (0, 0))
set_option maxHeartbeats 16000000 in
theorem unext_any {base g n C s : Nat} {d : Array Int} (w0 w : World) (hU : US base w0 g n C d w) (hs : XBox w s) (hbs : base ≤ s) (hsg : s ≠ g) :
    Calls Tryz.prog 177 #[.pointer (some ⟨s, 0, none⟩)] w fun e w' => ∃ z : Nat, z < 18446744073709551616 ∧ e = .returned (.int .u64 z) ∧ US base w0 g n C d w' ∧ XBox w' s := by
  obtain ⟨z, hz, hz1⟩ := hs
  have HU := Lib.hid hU
  have HZ := Lib.hid hz1
  have c0 : w.cell? ⟨s, 0, none⟩ = some (.int .u64 (z : Nat)) := cell_in hz1 0
  have f0 := free_in hz1 0
  clear hU hz1
  go_enter Tryz.func177, Tryz.ntmps177
  go_wp2_with fail
  go_region
  obtain ⟨E1, hE1, hEl1⟩ := bits_some .xor (z : Nat) (IntKind.u64.wrap ((z : Int) * 8192))
  rw [hE1]
  obtain ⟨W1, hW, hUW, hBW⟩ : ∃ V, V = (w.setCell ⟨s, 0, none⟩ (.int .u64 (E1 : Nat))).drew ∧ US base w0 g n C d V ∧ V.heap[s]? = some (.cells #[.int .u64 (E1 : Nat)] 223 (0, 0)) := ⟨_, rfl, (HU.out.other hbs hsg _).drew 1, (set_block HZ.out 0 _).trans (by simp)⟩
  rw [← hW]
  have HV1 := Lib.hid hUW
  have HB1 := Lib.hid hBW
  clear hW hUW hBW hE1 c0 f0
  have c0 : W1.cell? ⟨s, 0, none⟩ = some (.int .u64 (E1 : Nat)) := cell_in HB1.out 0
  have f0 := free_in HB1.out 0
  go_wp2_with fail
  go_region
  obtain ⟨E2, hE2, hEl2⟩ := bits_some .xor (E1 : Nat) ((E1 : Int) / 128)
  rw [hE2]
  obtain ⟨W2, hW, hUW, hBW⟩ : ∃ V, V = (W1.setCell ⟨s, 0, none⟩ (.int .u64 (E2 : Nat))).drew ∧ US base w0 g n C d V ∧ V.heap[s]? = some (.cells #[.int .u64 (E2 : Nat)] 223 (0, 0)) := ⟨_, rfl, (HV1.out.other hbs hsg _).drew 1, (set_block HB1.out 0 _).trans (by simp)⟩
  rw [← hW]
  have HV2 := Lib.hid hUW
  have HB2 := Lib.hid hBW
  clear hW hUW hBW hE2 c0 f0
  have c0 : W2.cell? ⟨s, 0, none⟩ = some (.int .u64 (E2 : Nat)) := cell_in HB2.out 0
  have f0 := free_in HB2.out 0
  go_wp2_with fail
  go_region
  obtain ⟨E3, hE3, hEl3⟩ := bits_some .xor (E2 : Nat) (IntKind.u64.wrap ((E2 : Int) * 131072))
  rw [hE3]
  obtain ⟨W3, hW, hUW, hBW⟩ : ∃ V, V = (W2.setCell ⟨s, 0, none⟩ (.int .u64 (E3 : Nat))).drew ∧ US base w0 g n C d V ∧ V.heap[s]? = some (.cells #[.int .u64 (E3 : Nat)] 223 (0, 0)) := ⟨_, rfl, (HV2.out.other hbs hsg _).drew 1, (set_block HB2.out 0 _).trans (by simp)⟩
  rw [← hW]
  have HV3 := Lib.hid hUW
  have HB3 := Lib.hid hBW
  clear hW hUW hBW hE3 c0 f0
  have c0 : W3.cell? ⟨s, 0, none⟩ = some (.int .u64 (E3 : Nat)) := cell_in HB3.out 0
  have f0 := free_in HB3.out 0
  go_wp2_with fail
  go_ret
  exact ⟨E3, hEl3, rfl, HV3.out, E3, hEl3, HB3.out⟩
theorem XBox.swap {w : World} {s g : Nat} (h : XBox w s) (hsg : s ≠ g) (i : Nat) (u : Value) (j : Nat) (v : Value) : XBox (((w.setCell ⟨g, i, none⟩ u).setCell ⟨g, j, none⟩ v).drew) s := by
  obtain ⟨z, hz, hh⟩ := h
  exact ⟨z, hz, (Below.heap_setCell _ _ _ _ hsg).trans ((Below.heap_setCell _ _ _ _ hsg).trans hh)⟩
set_option maxHeartbeats 16000000 in
set_option maxRecDepth 100000 in
theorem ubreak_any {base g n C cap a b : Nat} {d : Array Int} (w : World) (hU : US base w g n C d w) (hbg : base ≤ g) (hab : a + 8 ≤ b) (hb : b ≤ n) (hn : n ≤ 64) :
    Calls Tryz.prog 162 #[.slice (some ⟨g, 0, none⟩) n cap, .int .i64 a, .int .i64 b] w fun e w' => e = .returned (.tuple #[]) ∧ ∃ d', Sort.PermIn a b d d' ∧ US base w g n C d' w' := by
  have hgl : g < w.heap.size := by
    obtain ⟨cur, hh, _⟩ := hU.hold
    exact lt_of_block hh
  obtain ⟨l, hl⟩ : ∃ l, l = b - a := ⟨_, rfl⟩
  obtain ⟨q, hq⟩ : ∃ q, q = l / 4 := ⟨_, rfl⟩
  obtain ⟨x0, hx0⟩ : ∃ x0, x0 = a + q * 2 - 1 := ⟨_, rfl⟩
  obtain ⟨top, htop⟩ : ∃ top, top = a + q * 2 + 1 := ⟨_, rfl⟩
  have HL : Hid ((b : Int) - (a : Int) = (l : Int)) := Lib.hid (by omega)
  have HQ : Hid ((l : Int).tdiv 4 = (q : Int)) := Lib.hid (by
    rw [hq, Int.tdiv_eq_ediv_of_nonneg (by omega)]
    omega)
  have HX0 : Hid ((a : Int) + (q : Int) * 2 - 1 = (x0 : Int)) := Lib.hid (by omega)
  have HTOP : Hid ((a : Int) + (q : Int) * 2 + 1 = (top : Int)) := Lib.hid (by omega)
  have g1 : a ≤ x0 := by omega
  have g2 : top < b := by omega
  have g3 : x0 ≤ top := by omega
  have g4 : a + l ≤ b := by omega
  have g5 : 8 ≤ l := by omega
  have g6 : l ≤ 64 := by omega
  have g7 : b ≤ a + l := by omega
  have g8 : q ≤ 16 := by omega
  have HU0 := Lib.hid hU
  clear hU hl hq hx0 htop
  go_enter Tryz.func162, Tryz.ntmps162
  go_upto_region 1 with fail
  rw [HL.out]
  have l8 : (8 : Int) ≤ (l : Int) := by omega
  have hwl : IntKind.u64.wrap (l : Int) = (l : Int) := by rw [IntKind.wrap_u64]; omega
  go_upto_region 3 with fail
  obtain ⟨w1, hw1⟩ : ∃ V, V = w.alloc (.cells #[.int .u64 (l : Nat)] 223) := ⟨_, rfl⟩
  rw [← hw1]
  have HU1 : Hid (US base w g n C d w1) := Lib.hid (by rw [hw1]; exact HU0.out.alloc hbg _)
  obtain ⟨s, hs⟩ : ∃ s, s = w.heap.size := ⟨_, rfl⟩
  have HS1 : Hid (XBox w1 s) := Lib.hid (by rw [hw1, hs]; exact ⟨l, by omega, heap_alloc_new _ _⟩)
  rw [← hs]
  have hbs : base ≤ s := by omega
  have hsg : s ≠ g := by omega
  clear hw1 hs hwl
  go_wp2_with fail
  refine (upow_any l (by omega) g6 w1).mono ?_
  rintro e w2 ⟨M, hM1, hM2, rfl, rfl⟩
  have hquo := HQ.out
  go_wp2_with fail
  rw [HX0.out]
  clear hquo
  go_loopg [9] (top + 1 - x0) (fun r vi wr => ∃ (x : Nat) (dk : Array Int), vi = .int .i64 x ∧ x0 ≤ x ∧ x ≤ top + 1 ∧ r = top + 1 - x ∧ Hid (US base w g n C dk wr) ∧ Hid (Sort.PermIn a b d dk) ∧ Hid (XBox wr s))
  case atStart => exact ⟨x0, d, rfl, Nat.le_refl _, by omega, rfl, HU1, Lib.hid (Sort.permIn_refl _ _ _), HS1⟩
  case round =>
    obtain ⟨x, dk, rfl, hx1, hx2, rfl, HU, HP, HX⟩ := hrel
    have hquo := HQ.out
    go_upto_region 5 with fail
    by_cases hlt : x ≤ top
    · have l1 : (x : Int) ≤ (a : Int) + (q : Int) * 2 + 1 := by rw [HTOP.out]; omega
      go_wp2_with fail
      refine (unext_any w wr HU.out HX.out hbs hsg).mono ?_
      rintro e w3 ⟨z, hz, rfl, hU3, hX3⟩
      have HU3 := Lib.hid hU3
      have HX3 := Lib.hid hX3
      clear hU3 hX3 l1 hquo
      have hm0 : IntKind.u64.wrap ((M : Int) - 1) = ((M - 1 : Nat) : Int) := by rw [IntKind.wrap_u64]; omega
      have hm1 : bits .and .u64 (z : Int) ((M - 1 : Nat) : Int) = ((z &&& (M - 1) : Nat) : Int) := bits_and_u64_nat z (M - 1) hz (by omega)
      obtain ⟨o, ho⟩ : ∃ o, o = z &&& (M - 1) := ⟨_, rfl⟩
      have ho1 : o ≤ M - 1 := by rw [ho]; exact Nat.and_le_right
      rw [← ho] at hm1
      have ho2 : IntKind.i64.wrap (o : Int) = (o : Int) := by rw [IntKind.wrap_i64]; omega
      clear ho
      go_upto_region 8 with fail
      by_cases hol : l ≤ o
      · have l2 : (l : Int) ≤ (o : Int) := by omega
        go_upto_region 10 with fail
        obtain ⟨o2, ho2⟩ : ∃ o2, o2 = o - l := ⟨_, rfl⟩
        rw [show (o : Int) - (l : Int) = (o2 : Int) by omega]
        have hol2 : o2 < l := by omega
        clear ho2
        obtain ⟨G, hG⟩ : ∃ G : Nat → Int, ∀ t, G t = dk[t]! := ⟨fun t => dk[t]!, fun _ => rfl⟩
        have m0 : (0 : Int) ≤ (x : Int) := by omega
        have m1 : (x : Int) < (n : Int) := by omega
        have m2 : (x : Int).toNat = x := by omega
        have s0 : (0 : Int) ≤ (a : Int) + (o2 : Int) := by omega
        have s1 : (a : Int) + (o2 : Int) < (n : Int) := by omega
        have s2 : ((a : Int) + (o2 : Int)).toNat = a + o2 := by omega
        have c0 := HU3.out.cell hG x (by omega)
        have f0 := HU3.out.free x (by omega)
        have c1 := HU3.out.cell hG (a + o2) (by omega)
        have f1 := HU3.out.free (a + o2) (by omega)
        have hbd : b ≤ dk.size := by rw [HU3.out.len]; exact hb
        have HP2 := Lib.hid (Sort.permIn_trans _ _ _ _ _ HP.out (Sort.swp_permIn dk a b x (a + o2) (by omega) (by omega) (by omega) (by omega) hbd))
        have HS := Lib.hid (HU3.out.swap hG hbg (i := x) (j := a + o2) (by omega) (by omega))
        have HXS := Lib.hid (HX3.out.swap hsg x (.int .u32 (G (a + o2))) (a + o2) (.int .u32 (G x)))
        clear hG
        by_cases e : x = a + o2
        · subst e
          go_region
          go_wp2_with fail
          go_roundg (top + 1 - (a + o2 + 1))
          case measure => omega
          case rel => exact ⟨a + o2 + 1, _, by go_num, by omega, by omega, rfl, HS, HP2, HXS⟩
        · have e2 : ¬ a + o2 = x := fun h => e h.symm
          go_region
          go_wp2_with fail
          go_roundg (top + 1 - (x + 1))
          case measure => omega
          case rel => exact ⟨x + 1, _, by go_num, by omega, by omega, rfl, HS, HP2, HXS⟩
      · have l2 : ¬ (l : Int) ≤ (o : Int) := by omega
        go_upto_region 10 with fail
        obtain ⟨o2, hoo⟩ : ∃ o2, o2 = o := ⟨_, rfl⟩
        rw [← hoo] at hol ⊢
        have hol2 : o2 < l := by omega
        clear hoo
        obtain ⟨G, hG⟩ : ∃ G : Nat → Int, ∀ t, G t = dk[t]! := ⟨fun t => dk[t]!, fun _ => rfl⟩
        have m0 : (0 : Int) ≤ (x : Int) := by omega
        have m1 : (x : Int) < (n : Int) := by omega
        have m2 : (x : Int).toNat = x := by omega
        have s0 : (0 : Int) ≤ (a : Int) + (o2 : Int) := by omega
        have s1 : (a : Int) + (o2 : Int) < (n : Int) := by omega
        have s2 : ((a : Int) + (o2 : Int)).toNat = a + o2 := by omega
        have c0 := HU3.out.cell hG x (by omega)
        have f0 := HU3.out.free x (by omega)
        have c1 := HU3.out.cell hG (a + o2) (by omega)
        have f1 := HU3.out.free (a + o2) (by omega)
        have hbd : b ≤ dk.size := by rw [HU3.out.len]; exact hb
        have HP2 := Lib.hid (Sort.permIn_trans _ _ _ _ _ HP.out (Sort.swp_permIn dk a b x (a + o2) (by omega) (by omega) (by omega) (by omega) hbd))
        have HS := Lib.hid (HU3.out.swap hG hbg (i := x) (j := a + o2) (by omega) (by omega))
        have HXS := Lib.hid (HX3.out.swap hsg x (.int .u32 (G (a + o2))) (a + o2) (.int .u32 (G x)))
        clear hG
        by_cases e : x = a + o2
        · subst e
          go_region
          go_wp2_with fail
          go_roundg (top + 1 - (a + o2 + 1))
          case measure => omega
          case rel => exact ⟨a + o2 + 1, _, by go_num, by omega, by omega, rfl, HS, HP2, HXS⟩
        · have e2 : ¬ a + o2 = x := fun h => e h.symm
          go_region
          go_wp2_with fail
          go_roundg (top + 1 - (x + 1))
          case measure => omega
          case rel => exact ⟨x + 1, _, by go_num, by omega, by omega, rfl, HS, HP2, HXS⟩
    · have l1 : ¬ (x : Int) ≤ (a : Int) + (q : Int) * 2 + 1 := by rw [HTOP.out]; omega
      go_wp2_with fail
      go_end0
      exact ⟨rfl, dk, HP.out, HU.out⟩
end Go.Proofs.YtbekkdhlfkongaaGreatDoor
/-
  slices.Sort at numbers: a part turned round, the heap.
-/
namespace Go.Proofs.YtbekkdhlfkongaaGreatDoor
open Go.ChangeShapes Go.WideShapes Go.ChangeAt Go.RowKit Go.Shelf
set_option maxRecDepth 20000

/-! ### reverseRangeOrdered -/
set_option maxHeartbeats 16000000 in
set_option maxRecDepth 100000 in
theorem urev_any {base g n C cap a b : Nat} {d : Array Int} (w : World) (hU : US base w g n C d w) (hbg : base ≤ g) (hab : a < b) (hb : b ≤ n) (hn : n ≤ 64) :
    Calls Tryz.prog 164 #[.slice (some ⟨g, 0, none⟩) n cap, .int .i64 a, .int .i64 b] w fun e w' => e = .returned (.tuple #[]) ∧ ∃ d', Sort.PermIn a b d d' ∧ US base w g n C d' w' := by
  have HU0 := Lib.hid hU
  have hl0 := hU.len
  clear hU
  go_enter Tryz.func164, Tryz.ntmps164
  go_wp2
  go_loopw [6, 7] (fun vi vj wr => ∃ (i j : Nat) (dk : Array Int), vi = .int .i64 i ∧ vj = .int .i64 j ∧ a ≤ i ∧ j < b ∧ Hid (US base w g n C dk wr) ∧ Hid (Sort.PermIn a b d dk)) (fun vi vj _ => (Lib.intOf vj - Lib.intOf vi).toNat)
  case atStart => exact ⟨a, b - 1, d, by go_num, by go_num, by omega, by omega, HU0, Lib.hid (Sort.permIn_refl _ _ _)⟩
  case round =>
    obtain ⟨i, j, dk, rfl, rfl, hai, hjb, HU, HP⟩ := hrel
    by_cases hlt : i < j
    · have l0 : (i : Int) < (j : Int) := by omega
      have m0 : (0 : Int) ≤ (i : Int) := by omega
      have m1 : (i : Int) < (n : Int) := by omega
      have m2 : (i : Int).toNat = i := by omega
      have k0 : (0 : Int) ≤ (j : Int) := by omega
      have k1 : (j : Int) < (n : Int) := by omega
      have k2 : (j : Int).toNat = j := by omega
      obtain ⟨G, hG⟩ : ∃ G : Nat → Int, ∀ t, G t = dk[t]! := ⟨fun t => dk[t]!, fun _ => rfl⟩
      have c0 := HU.out.cell hG i (by omega)
      have c1 := HU.out.cell hG j (by omega)
      have f0 := HU.out.free i (by omega)
      have f1 := HU.out.free j (by omega)
      have HS := Lib.hid (HU.out.swap hG hbg (i := i) (j := j) (by omega) (by omega))
      have hbd : b ≤ dk.size := by rw [HU.out.len]; exact hb
      have HP2 := Lib.hid (Sort.permIn_trans _ _ _ _ _ HP.out (Sort.swp_permIn dk a b i j (by omega) (by omega) (by omega) (by omega) hbd))
      clear hG
      go_wp2_with fail
      go_region
      go_wp2_with fail
      exact ⟨⟨i + 1, j - 1, _, by go_num, by congr 1; omega, by omega, by omega, HS, HP2⟩, by simp only [Lib.intOf]; omega⟩
    · have l0 : ¬ (i : Int) < (j : Int) := by omega
      go_wp2_with fail
      go_end0
      exact ⟨rfl, dk, HP.out, HU.out⟩

/-! ### siftDownOrdered -/
set_option maxHeartbeats 16000000 in
set_option maxRecDepth 100000 in
theorem usift_any {base g n C cap lo hi first : Nat} {d : Array Int} (w : World) (hU : US base w g n C d w) (hbg : base ≤ g) (hlo : lo ≤ hi) (hb : first + hi ≤ n) (hn : n ≤ 64) :
    Calls Tryz.prog 175 #[.slice (some ⟨g, 0, none⟩) n cap, .int .i64 lo, .int .i64 hi, .int .i64 first] w fun e w' => e = .returned (.tuple #[]) ∧ US base w g n C (Sort.siftDown Sort.ltInt hi first lo d) w' := by
  have HU0 := Lib.hid hU
  clear hU
  go_enter Tryz.func175, Tryz.ntmps175
  go_wp2
  go_loopw [8] (fun vr wr => ∃ (r : Nat) (dk : Array Int), vr = .int .i64 r ∧ r ≤ hi ∧ Hid (US base w g n C dk wr) ∧ Hid (Sort.siftDown Sort.ltInt hi first r dk = Sort.siftDown Sort.ltInt hi first lo d)) (fun vr _ => hi - (Lib.intOf vr).toNat)
  case atStart => exact ⟨lo, d, rfl, hlo, HU0, Lib.hid rfl⟩
  case round =>
    obtain ⟨r, dk, rfl, hr, HU, HO⟩ := hrel
    by_cases h0 : hi ≤ 2 * r + 1
    · have l0 : (hi : Int) ≤ 2 * (r : Int) + 1 := by omega
      go_wp2_with fail
      go_end0
      refine ⟨rfl, ?_⟩
      rw [← HO.out, Sort.sd_end _ _ h0]
      exact HU.out
    · obtain ⟨c, hc⟩ : ∃ c, c = 2 * r + 1 := ⟨_, rfl⟩
      have HCZ : Hid (2 * (r : Int) + 1 = (c : Int)) := Lib.hid (by omega)
      have l0 : ¬ (hi : Int) ≤ (c : Int) := by omega
      obtain ⟨G, hG⟩ : ∃ G : Nat → Int, ∀ t, G t = dk[t]! := ⟨fun t => dk[t]!, fun _ => rfl⟩
      have HG := Lib.hid hG
      clear hG
      have hway : ∃ c' : Nat, c ≤ c' ∧ c' < hi ∧ c' ≤ c + 1 ∧ (c' = c + 1 → Sort.ltInt (G (first + c)) (G (first + (c + 1))) = true) ∧ (c' = c → c + 1 < hi → Sort.ltInt (G (first + c)) (G (first + (c + 1))) = false) ∧
          (Sort.ltInt (G (first + r)) (G (first + c')) = false → Sort.siftDown Sort.ltInt hi first r dk = dk) ∧
          (Sort.ltInt (G (first + r)) (G (first + c')) = true → Sort.siftDown Sort.ltInt hi first r dk = Sort.siftDown Sort.ltInt hi first c' (Sort.swp dk (first + r) (first + c'))) := by
        simp only [HG.out]
        by_cases h1 : c + 1 < hi
        · cases hl : Sort.ltInt dk[first + c]! dk[first + (c + 1)]! with
          | true =>
            refine ⟨c + 1, by omega, h1, Nat.le_refl _, fun _ => rfl, fun e => by omega, fun h => ?_, fun h => ?_⟩
            · subst hc; exact Sort.sd_right_stop _ dk (by omega) hl h
            · subst hc; exact Sort.sd_right_go _ dk (by omega) hl h
          | false =>
            refine ⟨c, Nat.le_refl _, by omega, by omega, fun e => by omega, fun _ _ => rfl, fun h => ?_, fun h => ?_⟩
            · subst hc; exact Sort.sd_left_stop _ dk (by omega) (fun _ => hl) h
            · subst hc; exact Sort.sd_left_go _ dk (by omega) (fun _ => hl) h
        · refine ⟨c, Nat.le_refl _, by omega, by omega, fun e => by omega, fun _ h => absurd h h1, fun h => ?_, fun h => ?_⟩
          · subst hc; exact Sort.sd_left_stop _ dk (by omega) (fun h2 => by omega) h
          · subst hc; exact Sort.sd_left_go _ dk (by omega) (fun h2 => by omega) h
      obtain ⟨c', hc1, hc2, hc3, hR, hL, hstop, hgo⟩ := hway
      have HSTOP := Lib.hid hstop
      have HGO := Lib.hid hgo
      clear hstop hgo
      have HC := Lib.hid hc
      clear hc
      go_upto_region 2 with fail
      rw [HCZ.out]
      have s0 : (0 : Int) ≤ (first : Int) + (c : Int) := by omega
      have s1 : (first : Int) + (c : Int) < (n : Int) := by omega
      have s2 : ((first : Int) + (c : Int)).toNat = first + c := by omega
      have hfin : ∀ wq : World, US base w g n C dk wq → US base w g n C dk wq ∧ wq.cell? ⟨g, first + r, none⟩ = some (.int .u32 (G (first + r))) ∧ wq.cell? ⟨g, first + c', none⟩ = some (.int .u32 (G (first + c'))) ∧ wq.frozen? ⟨g, first + r, none⟩ = false ∧ wq.frozen? ⟨g, first + c', none⟩ = false :=
        fun wq h => ⟨h, h.cell HG.out _ (by omega), h.cell HG.out _ (by omega), h.free _ (by omega), h.free _ (by omega)⟩
      have HFIN := Lib.hid hfin
      have c0 := HU.out.cell HG.out (first + c) (by omega)
      clear hfin
      have hthree : (c' = c + 1) ∨ (c' = c ∧ c + 1 < hi) ∨ (c' = c ∧ ¬ c + 1 < hi) := by omega
      rcases hthree with e | ⟨e, h1⟩ | ⟨e, h1⟩
      · have hl := hR e
        have l1 : (c : Int) + 1 < (hi : Int) := by omega
        have t0 : (0 : Int) ≤ (first : Int) + (c : Int) + 1 := by omega
        have t1 : (first : Int) + (c : Int) + 1 < (n : Int) := by omega
        have t2 : ((first : Int) + (c : Int) + 1).toNat = first + (c + 1) := by omega
        have c1 := HU.out.cell HG.out (first + (c + 1)) (by omega)
        clear hR hL
        have HCC : Hid ((c : Int) + 1 = (c' : Int)) := Lib.hid (by omega)
        have HE := Lib.hid e
        clear e
        go_wp2_with fail
        go_quiet (first | (go_at_call 166; refine Calls.quiet_of_same (uless _ _ _)))
        obtain ⟨hUq, d0, d1, f0, f1⟩ := HFIN.out _ (HU.out.drew nq)
        generalize wr.drewN nq = wq at hUq d0 d1 f0 f1 ⊢
        have HUq := Lib.hid hUq
        clear hUq nq c0 c1
        go_upto_region 5 with fail
        rw [HCC.out]
        clear HCC s0 s1 s2 t0 t1 t2
        have s0 : (0 : Int) ≤ (first : Int) + (c' : Int) := by omega
        have s1 : (first : Int) + (c' : Int) < (n : Int) := by omega
        have s2 : ((first : Int) + (c' : Int)).toNat = first + c' := by omega
        have t0 : (0 : Int) ≤ (first : Int) + (r : Int) := by omega
        have t1 : (first : Int) + (r : Int) < (n : Int) := by omega
        have t2 : ((first : Int) + (r : Int)).toNat = first + r := by omega
        go_quiet (first | (go_at_call 166; refine Calls.quiet_of_same (uless _ _ _)))
        obtain ⟨hUz, e0, e1, g0, g1⟩ := HFIN.out _ (HUq.out.drew nq)
        generalize wq.drewN nq = wz at hUz e0 e1 g0 g1 ⊢
        have HUz := Lib.hid hUz
        clear hUz nq d0 d1 f0 f1
        cases hz : Sort.ltInt (G (first + r)) (G (first + c')) with
        | false =>
          have HZ := Lib.hid hz
          go_wp2_with fail
          (try simp only [Exit.inBlock, Exit.then])
          refine bodyPost_ret (results_none rfl _ _ _) rfl ?_
          refine ⟨rfl, ?_⟩
          rw [← HO.out, HSTOP.out HZ.out]
          exact HUz.out
        | true =>
          have HZ := Lib.hid hz
          have hr1 : ¬ c' = r := by have := HC.out; omega
          have hr2 : ¬ r = c' := fun e => hr1 e.symm
          have HS := Lib.hid (HUz.out.swap HG.out hbg (i := first + r) (j := first + c') (by omega) (by omega))
          go_wp2_with fail
          go_region
          go_wp2_with fail
          exact ⟨⟨c', _, rfl, by omega, HS, Lib.hid (by rw [← HGO.out HZ.out]; exact HO.out)⟩, by have := HC.out; simp only [Lib.intOf]; omega⟩
      · subst e
        have hl := hL rfl h1
        have l1 : (c' : Int) + 1 < (hi : Int) := by omega
        have t0 : (0 : Int) ≤ (first : Int) + (c' : Int) + 1 := by omega
        have t1 : (first : Int) + (c' : Int) + 1 < (n : Int) := by omega
        have t2 : ((first : Int) + (c' : Int) + 1).toNat = first + (c' + 1) := by omega
        have c1 := HU.out.cell HG.out (first + (c' + 1)) (by omega)
        clear hR hL
        go_wp2_with fail
        go_quiet (first | (go_at_call 166; refine Calls.quiet_of_same (uless _ _ _)))
        obtain ⟨hUq, d0, d1, f0, f1⟩ := HFIN.out _ (HU.out.drew nq)
        generalize wr.drewN nq = wq at hUq d0 d1 f0 f1 ⊢
        have HUq := Lib.hid hUq
        clear hUq nq c0 c1
        go_upto_region 5 with fail
        clear s0 s1 s2 t0 t1 t2
        have s0 : (0 : Int) ≤ (first : Int) + (c' : Int) := by omega
        have s1 : (first : Int) + (c' : Int) < (n : Int) := by omega
        have s2 : ((first : Int) + (c' : Int)).toNat = first + c' := by omega
        have t0 : (0 : Int) ≤ (first : Int) + (r : Int) := by omega
        have t1 : (first : Int) + (r : Int) < (n : Int) := by omega
        have t2 : ((first : Int) + (r : Int)).toNat = first + r := by omega
        go_quiet (first | (go_at_call 166; refine Calls.quiet_of_same (uless _ _ _)))
        obtain ⟨hUz, e0, e1, g0, g1⟩ := HFIN.out _ (HUq.out.drew nq)
        generalize wq.drewN nq = wz at hUz e0 e1 g0 g1 ⊢
        have HUz := Lib.hid hUz
        clear hUz nq d0 d1 f0 f1
        cases hz : Sort.ltInt (G (first + r)) (G (first + c')) with
        | false =>
          have HZ := Lib.hid hz
          go_wp2_with fail
          (try simp only [Exit.inBlock, Exit.then])
          refine bodyPost_ret (results_none rfl _ _ _) rfl ?_
          refine ⟨rfl, ?_⟩
          rw [← HO.out, HSTOP.out HZ.out]
          exact HUz.out
        | true =>
          have HZ := Lib.hid hz
          have hr1 : ¬ c' = r := by have := HC.out; omega
          have hr2 : ¬ r = c' := fun e => hr1 e.symm
          have HS := Lib.hid (HUz.out.swap HG.out hbg (i := first + r) (j := first + c') (by omega) (by omega))
          go_wp2_with fail
          go_region
          go_wp2_with fail
          exact ⟨⟨c', _, rfl, by omega, HS, Lib.hid (by rw [← HGO.out HZ.out]; exact HO.out)⟩, by have := HC.out; simp only [Lib.intOf]; omega⟩
      · subst e
        have l1 : ¬ (c' : Int) + 1 < (hi : Int) := by omega
        have l1d : decide ((c' : Int) + 1 < (hi : Int)) = false := decide_eq_false l1
        have hw : IntKind.i64.wrap ((c' : Int) + 1) = (c' : Int) + 1 := by rw [IntKind.wrap_i64]; omega
        clear hR hL
        go_wp2_with fail
        go_quiet (fail)
        obtain ⟨hUq, d0, d1, f0, f1⟩ := HFIN.out _ (HU.out.drew nq)
        generalize wr.drewN nq = wq at hUq d0 d1 f0 f1 ⊢
        have HUq := Lib.hid hUq
        clear hUq nq c0
        go_upto_region 5 with fail
        clear s0 s1 s2
        have s0 : (0 : Int) ≤ (first : Int) + (c' : Int) := by omega
        have s1 : (first : Int) + (c' : Int) < (n : Int) := by omega
        have s2 : ((first : Int) + (c' : Int)).toNat = first + c' := by omega
        have t0 : (0 : Int) ≤ (first : Int) + (r : Int) := by omega
        have t1 : (first : Int) + (r : Int) < (n : Int) := by omega
        have t2 : ((first : Int) + (r : Int)).toNat = first + r := by omega
        go_quiet (first | (go_at_call 166; refine Calls.quiet_of_same (uless _ _ _)))
        obtain ⟨hUz, e0, e1, g0, g1⟩ := HFIN.out _ (HUq.out.drew nq)
        generalize wq.drewN nq = wz at hUz e0 e1 g0 g1 ⊢
        have HUz := Lib.hid hUz
        clear hUz nq d0 d1 f0 f1
        cases hz : Sort.ltInt (G (first + r)) (G (first + c')) with
        | false =>
          have HZ := Lib.hid hz
          go_wp2_with fail
          (try simp only [Exit.inBlock, Exit.then])
          refine bodyPost_ret (results_none rfl _ _ _) rfl ?_
          refine ⟨rfl, ?_⟩
          rw [← HO.out, HSTOP.out HZ.out]
          exact HUz.out
        | true =>
          have HZ := Lib.hid hz
          have hr1 : ¬ c' = r := by have := HC.out; omega
          have hr2 : ¬ r = c' := fun e => hr1 e.symm
          have HS := Lib.hid (HUz.out.swap HG.out hbg (i := first + r) (j := first + c') (by omega) (by omega))
          go_wp2_with fail
          go_region
          go_wp2_with fail
          exact ⟨⟨c', _, rfl, by omega, HS, Lib.hid (by rw [← HGO.out HZ.out]; exact HO.out)⟩, by have := HC.out; simp only [Lib.intOf]; omega⟩

end Go.Proofs.YtbekkdhlfkongaaGreatDoor
/-
  slices.Sort at numbers: the sort by a heap.
-/
namespace Go.Proofs.YtbekkdhlfkongaaGreatDoor
open Go.ChangeShapes Go.WideShapes Go.ChangeAt Go.RowKit Go.Shelf
set_option maxRecDepth 20000

theorem build_next (h a k : Nat) (d : Array Int) : Sort.heapBuild Sort.ltInt h a (k + 1) d = Sort.heapBuild Sort.ltInt h a k (Sort.siftDown Sort.ltInt h a k d) := by rw [Sort.heapBuild]
theorem build_end (h a : Nat) (d : Array Int) : Sort.heapBuild Sort.ltInt h a 0 d = d := by rw [Sort.heapBuild]
theorem pop_next (a k : Nat) (d : Array Int) : Sort.heapPop Sort.ltInt a (k + 1) d = Sort.heapPop Sort.ltInt a k (Sort.siftDown Sort.ltInt k a 0 (Sort.swp d a (a + k))) := by rw [Sort.heapPop]
theorem pop_end (a : Nat) (d : Array Int) : Sort.heapPop Sort.ltInt a 0 d = d := by rw [Sort.heapPop]
/-! ### heapSortOrdered -/
set_option maxHeartbeats 16000000 in
set_option maxRecDepth 100000 in
theorem uheap_any {base g n C cap a b : Nat} {d : Array Int} (w : World) (hU : US base w g n C d w) (hbg : base ≤ g) (hab : a < b) (hb : b ≤ n) (hn : n ≤ 64) :
    Calls Tryz.prog 161 #[.slice (some ⟨g, 0, none⟩) n cap, .int .i64 a, .int .i64 b] w fun e w' => e = .returned (.tuple #[]) ∧ US base w g n C (Sort.heapSort Sort.ltInt d a b) w' := by
  have HU0 := Lib.hid hU
  clear hU
  have hq : ((b : Int) - (a : Int) - 1).tdiv 2 = (((b - a - 1) / 2 + 1 : Nat) : Int) - 1 := Go.Proofs.half_start (by omega)
  obtain ⟨k0, hk0⟩ : ∃ k0, k0 = (b - a - 1) / 2 + 1 := ⟨_, rfl⟩
  obtain ⟨h, hh⟩ : ∃ h, h = b - a := ⟨_, rfl⟩
  have hk1 : k0 ≤ h := by omega
  have HK := Lib.hid hk0
  have HH := Lib.hid hh
  rw [← hk0] at hq
  have hA1 : a + h ≤ b := by omega
  have hA2 : b ≤ a + h := by omega
  clear hk0 hh
  go_enter Tryz.func161, Tryz.ntmps161
  go_wp2
  rw [show (b : Int) - (a : Int) = (h : Int) by omega]
  clear hq
  go_loopw [9] (fun vi wr => ∃ (k : Nat) (I : Int) (dk : Array Int), vi = .int .i64 I ∧ I = (k : Int) - 1 ∧ k ≤ k0 ∧ Hid (US base w g n C dk wr) ∧ Hid (Sort.heapBuild Sort.ltInt h a k dk = Sort.heapBuild Sort.ltInt h a k0 d)) (fun vi _ => (Lib.intOf vi + 1).toNat)
  case atStart => exact ⟨k0, _, d, rfl, rfl, Nat.le_refl _, HU0, Lib.hid rfl⟩
  case round =>
    obtain ⟨k, I, dk, rfl, hI, hk, HU, HO⟩ := hrel
    by_cases h0 : 0 ≤ I
    · obtain ⟨i, rfl⟩ : ∃ i : Nat, I = (i : Int) := ⟨I.toNat, by omega⟩
      obtain rfl : k = i + 1 := by omega
      clear hI
      have HO1 : Hid (Sort.heapBuild Sort.ltInt h a i (Sort.siftDown Sort.ltInt h a i dk) = Sort.heapBuild Sort.ltInt h a k0 d) := Lib.hid (by rw [← build_next]; exact HO.out)
      have hc := usift_any (lo := i) (hi := h) (first := a) (cap := cap) wr HU.out.here hbg (by omega) (by omega) hn
      have HCALL := Lib.hid hc
      clear hc
      go_wp2_with fail
      refine HCALL.out.mono ?_
      rintro e w2 ⟨rfl, hU2⟩
      have HU2 := Lib.hid (HU.out.trans hU2)
      clear hU2
      go_wp2_with fail
      exact ⟨⟨i, _, _, rfl, rfl, by omega, HU2, HO1⟩, by simp only [Lib.intOf]; omega⟩
    · have l0 : ¬ 0 ≤ I := h0
      obtain rfl : k = 0 := by omega
      have HO2 : Hid (dk = Sort.heapBuild Sort.ltInt h a k0 d) := Lib.hid (by rw [← HO.out, build_end])
      have hh1 : 1 ≤ h := by omega
      go_wp2_with fail
      go_loopw [10] (fun vi wr => ∃ (k : Nat) (I : Int) (dj : Array Int), vi = .int .i64 I ∧ I = (k : Int) - 1 ∧ k ≤ h ∧ Hid (US base w g n C dj wr) ∧ Hid (Sort.heapPop Sort.ltInt a k dj = Sort.heapPop Sort.ltInt a h dk)) (fun vi _ => (Lib.intOf vi + 1).toNat)
      case atStart => exact ⟨h, _, dk, rfl, by omega, Nat.le_refl _, HU, Lib.hid rfl⟩
      case round =>
        obtain ⟨k, I2, dj, rfl, hI2, hk2, HUj, HOj⟩ := hrel
        by_cases h2 : 0 ≤ I2
        · obtain ⟨i, rfl⟩ : ∃ i : Nat, I2 = (i : Int) := ⟨I2.toNat, by omega⟩
          obtain rfl : k = i + 1 := by omega
          clear hI2
          obtain ⟨G, hG⟩ : ∃ G : Nat → Int, ∀ t, G t = dj[t]! := ⟨fun t => dj[t]!, fun _ => rfl⟩
          have c0 := HUj.out.cell hG a (by omega)
          have c1 := HUj.out.cell hG (a + i) (by omega)
          have f0 := HUj.out.free a (by omega)
          have f1 := HUj.out.free (a + i) (by omega)
          have s0 : (0 : Int) ≤ (a : Int) + (i : Int) := by omega
          have s1 : (a : Int) + (i : Int) < (n : Int) := by omega
          have s2 : ((a : Int) + (i : Int)).toNat = a + i := by omega
          have t0 : (0 : Int) ≤ (a : Int) := by omega
          have t1 : (a : Int) < (n : Int) := by omega
          have t2 : (a : Int).toNat = a := by omega
          have HS := Lib.hid (HUj.out.swap hG hbg (i := a) (j := a + i) (by omega) (by omega))
          have hc : ∀ W, US base w g n C (Sort.swp dj a (a + i)) W → Calls Tryz.prog 175 #[.slice (some ⟨g, 0, none⟩) n cap, .int .i64 0, .int .i64 i, .int .i64 a] W fun e w' => e = .returned (.tuple #[]) ∧ US base W g n C (Sort.siftDown Sort.ltInt i a 0 (Sort.swp dj a (a + i))) w' := fun W hW => usift_any (lo := 0) (hi := i) (first := a) (cap := cap) W hW.here hbg (Nat.zero_le _) (by omega) hn
          have HCALL := Lib.hid hc
          clear hc hG
          have HO1 : Hid (Sort.heapPop Sort.ltInt a i (Sort.siftDown Sort.ltInt i a 0 (Sort.swp dj a (a + i))) = Sort.heapPop Sort.ltInt a h dk) := Lib.hid (by rw [← pop_next]; exact HOj.out)
          by_cases hi0 : i = 0
          · subst hi0
            have HSw : Hid (∀ W, W = ((wr.setCell ⟨g, a, none⟩ (.int .u32 (G a))).setCell ⟨g, a, none⟩ (.int .u32 (G a))).drew → US base w g n C (Sort.swp dj a (a + 0)) W) := Lib.hid (fun W e => by rw [e]; exact HS.out)
            have HCALL0 : Hid (∀ W, US base w g n C (Sort.swp dj a (a + 0)) W → Calls Tryz.prog 175 #[.slice (some ⟨g, 0, none⟩) n cap, .int .i64 0, .int .i64 0, .int .i64 a] W fun e w' => e = .returned (.tuple #[]) ∧ US base W g n C (Sort.siftDown Sort.ltInt 0 a 0 (Sort.swp dj a (a + 0))) w') := HCALL
            clear s0 s1 s2 c1 f1 HCALL
            go_wp2_with fail
            go_region
            obtain ⟨W, hW, hUW⟩ : ∃ W, W = ((wr.setCell ⟨g, a, none⟩ (.int .u32 (G a))).setCell ⟨g, a, none⟩ (.int .u32 (G a))).drew ∧ US base w g n C (Sort.swp dj a (a + 0)) W := ⟨_, rfl, HSw.out _ rfl⟩
            rw [← hW]
            have HUW := Lib.hid hUW
            clear hW hUW HS HSw
            go_wp2_with fail
            refine (HCALL0.out _ HUW.out).mono ?_
            rintro e w2 ⟨rfl, hU2⟩
            have HU2 := Lib.hid (HUW.out.trans hU2)
            clear hU2
            go_wp2_with fail
            exact ⟨⟨0, _, _, rfl, rfl, by omega, HU2, HO1⟩, by simp only [Lib.intOf]; omega⟩
          · have hi1 : ¬ 0 = i := fun e => hi0 e.symm
            go_wp2_with fail
            go_region
            go_wp2_with fail
            refine (HCALL.out _ HS.out).mono ?_
            rintro e w2 ⟨rfl, hU2⟩
            have HU2 := Lib.hid (HS.out.trans hU2)
            clear hU2
            go_wp2_with fail
            exact ⟨⟨i, _, _, rfl, rfl, by omega, HU2, HO1⟩, by simp only [Lib.intOf]; omega⟩
        · have l2 : ¬ 0 ≤ I2 := h2
          obtain rfl : k = 0 := by omega
          go_wp2_with fail
          go_end0
          refine ⟨rfl, ?_⟩
          unfold Sort.heapSort
          rw [← HK.out, ← HH.out, ← HO2.out, ← HOj.out, pop_end]
          exact HUj.out
end Go.Proofs.YtbekkdhlfkongaaGreatDoor
/-
  slices.Sort at numbers: the whole of it.
-/
namespace Go.Proofs.YtbekkdhlfkongaaGreatDoor
open Go.ChangeShapes Go.WideShapes Go.ChangeAt Go.RowKit Go.Shelf
set_option maxRecDepth 20000

/-! ### pdqsortOrdered -/
set_option maxHeartbeats 64000000 in
set_option maxRecDepth 100000 in
theorem updq_any : ∀ (N base g n C cap a b lim : Nat) (d : Array Int) (w : World), b - a < N → US base w g n C d w → base ≤ g → a ≤ b → b ≤ n → n ≤ 64 → lim ≤ 100 → Sort.Below Sort.ltInt a b d →
    Calls Tryz.prog 154 #[.slice (some ⟨g, 0, none⟩) n cap, .int .i64 a, .int .i64 b, .int .i64 lim] w fun e w' => e = .returned (.tuple #[]) ∧ ∃ d', Sort.PermIn a b d d' ∧ Sort.SortedIn Sort.ltInt a b d' ∧ US base w g n C d' w' := by
  intro N
  induction N with
  | zero => intro base g n C cap a b lim d w h; omega
  | succ N ih =>
    intro base g n C cap a b lim d w hN hU hbg hab hb hn hlim hB
    have IH := Lib.hid ih
    have HU0 := Lib.hid hU
    have HB0 := Lib.hid hB
    clear ih hU hB
    go_enter Tryz.func154, Tryz.ntmps154
    go_wp2_with fail
    go_loopg [1, 2, 3, 8, 9] (b - a) (fun q va vb vl v8 v9 wr => ∃ (x y l : Nat) (dk : Array Int) (wb wp : Bool), va = .int .i64 x ∧ vb = .int .i64 y ∧ vl = .int .i64 l ∧ v8 = .bool wb ∧ v9 = .bool wp ∧ a ≤ x ∧ x ≤ y ∧ y ≤ b ∧ l ≤ 100 ∧ q = y - x ∧ Hid (US base w g n C dk wr) ∧ Hid (Sort.Below Sort.ltInt x y dk) ∧ Hid (∀ R, Sort.PermIn x y dk R → Sort.SortedIn Sort.ltInt x y R → Sort.PermIn a b d R ∧ Sort.SortedIn Sort.ltInt a b R))
    case atStart => exact ⟨a, b, lim, d, true, true, rfl, rfl, rfl, rfl, rfl, Nat.le_refl _, hab, Nat.le_refl _, hlim, rfl, HU0, HB0, Lib.hid (fun R h1 h2 => ⟨h1, h2⟩)⟩
    case round =>
      obtain ⟨x, y, l, dk, wb, wp, rfl, rfl, rfl, rfl, rfl, hax, hxy, hyb, hl, rfl, HU, HB, HC⟩ := hrel
      have hyn : y ≤ n := by omega
      have hsz : y ≤ dk.size := by rw [HU.out.len]; exact hyn
      have HSZ := Lib.hid hsz
      clear hsz
      by_cases h12 : y - x ≤ 12
      · have l12 : (y : Int) - (x : Int) ≤ 12 := by omega
        go_wp2_with fail
        refine (uins_any wr HU.out.here hbg hxy hyn hn).mono ?_
        rintro e w2 ⟨rfl, hU2⟩
        have HU2 := Lib.hid (HU.out.trans hU2)
        clear hU2
        go_wp2_with fail
        (try simp only [Exit.inBlock, Exit.then])
        refine bodyPost_ret (results_none rfl _ _ _) rfl ?_
        obtain ⟨p1, p2⟩ := Sort.insertionSort_holds Sort.swo_ltInt dk x y hxy HSZ.out
        obtain ⟨q1, q2⟩ := HC.out _ p1 p2
        exact ⟨rfl, _, q1, q2, HU2.out⟩
      · have l12 : ¬ (y : Int) - (x : Int) ≤ 12 := by omega
        by_cases hl0 : l = 0
        · subst hl0
          go_wp2_with fail
          refine (uheap_any wr HU.out.here hbg (by omega) hyn hn).mono ?_
          rintro e w2 ⟨rfl, hU2⟩
          have HU2 := Lib.hid (HU.out.trans hU2)
          clear hU2
          go_wp2_with fail
          (try simp only [Exit.inBlock, Exit.then])
          refine bodyPost_ret (results_none rfl _ _ _) rfl ?_
          obtain ⟨p1, p2⟩ := Sort.heapSort_holds Sort.swo_ltInt dk x y hxy HSZ.out
          obtain ⟨q1, q2⟩ := HC.out _ p1 p2
          exact ⟨rfl, _, q1, q2, HU2.out⟩
        · have l0 : ((l : Int) == 0) = false := by simp; omega
          have l0p : ¬ (l : Int) = 0 := by omega
          go_upto_if 35 with fail
          go_cut [3] (fun v3 wx => ∃ (l2 : Nat) (d1 : Array Int), v3 = .int .i64 l2 ∧ l2 ≤ 100 ∧ Sort.PermIn x y dk d1 ∧ US base w g n C d1 wx)
          case first =>
            cases wb with
            | true =>
              go_wp2_with fail
              go_meet
              exact ⟨l, dk, rfl, hl, Sort.permIn_refl _ _ _, HU.out⟩
            | false =>
              go_wp2_with fail
              refine (ubreak_any wr HU.out.here hbg (by omega) hyn hn).mono ?_
              rintro e w2 ⟨rfl, d1, hP1, hU2⟩
              have HU2 := Lib.hid (HU.out.trans hU2)
              have HP1 := Lib.hid hP1
              clear hU2 hP1
              go_wp2_with fail
              go_meet
              exact ⟨l - 1, d1, by congr 1; omega, by omega, HP1.out, HU2.out⟩
          case rest =>
            obtain ⟨l2, d1, rfl, hl2, hP1, hU1⟩ := hcut
            have HP1 := Lib.hid hP1
            have HU1 := Lib.hid hU1
            clear hP1 hU1
            go_wp2_with fail
            refine (upick_any wc HU1.out.here hbg (by omega) hyn hn).mono ?_
            rintro e w2 ⟨pv, h, hpv1, hpv2, hh, rfl, hU2⟩
            have HU2 := Lib.hid (HU1.out.trans hU2)
            clear hU2
            go_upto_if 50 with fail
            go_cut [11, 12] (fun v11 v12 wx => ∃ (p2 h2 : Nat) (d2 : Array Int), v11 = .int .i64 p2 ∧ v12 = .int .i64 h2 ∧ x ≤ p2 ∧ p2 < y ∧ h2 ≤ 2 ∧ Sort.PermIn x y dk d2 ∧ US base w g n C d2 wx)
            case first =>
              by_cases h2 : h = 2
              · subst h2
                go_wp2_with fail
                refine (urev_any w2 HU2.out.here hbg (by omega) hyn hn).mono ?_
                rintro e w3 ⟨rfl, d2, hP2, hU3⟩
                have HU3 := Lib.hid (HU2.out.trans hU3)
                have HP3 := Lib.hid (Sort.permIn_trans _ _ _ _ _ HP1.out hP2)
                clear hU3 hP2
                go_wp2_with fail
                go_meet
                exact ⟨(y - 1) - (pv - x), 1, d2, by congr 1; omega, rfl, by omega, by omega, by omega, HP3.out, HU3.out⟩
              · have b2 : ((h : Int) == 2) = false := by simp; omega
                have b2p : ¬ (h : Int) = 2 := by omega
                go_wp2_with fail
                go_meet
                exact ⟨pv, h, d1, rfl, rfl, hpv1, hpv2, hh, HP1.out, HU2.out⟩
            case rest =>
              obtain ⟨p2, h2, d2, rfl, rfl, hp1, hp2, hh2, hP2, hU3⟩ := hcut
              have HP2 := Lib.hid hP2
              have HU3 := Lib.hid hU3
              clear hP2 hU3 hpv1 hpv2 hh
              have hs2 : y ≤ d2.size := by rw [HU3.out.len]; exact hyn
              have HB2 := Lib.hid (Sort.Below.perm HB.out HSZ.out HP2.out)
              have HS2 := Lib.hid hs2
              clear hs2
              go_upto_region 15 with fail
              go_cut [68] (fun v68 wx => ∃ t : Bool, v68 = .bool t ∧ US base w g n C d2 wx)
              case first =>
                cases wb
                all_goals cases wp
                all_goals go_wp2_with fail
                all_goals go_meet
                all_goals exact ⟨_, rfl, HU3.out⟩
              case rest =>
                obtain ⟨t, rfl, hU4⟩ := hcut
                have HU4 := Lib.hid hU4
                clear hU4
                go_upto_if 68 with fail
                go_cut [13] (fun v13 wx => ∃ d3 : Array Int, Sort.PermIn x y d2 d3 ∧ US base w g n C d3 wx)
                case first =>
                  cases t with
                  | false =>
                    go_wp2_with fail
                    go_meet
                    exact ⟨d2, Sort.permIn_refl _ _ _, HU4.out⟩
                  | true =>
                    obtain ⟨R, hR⟩ : ∃ R, R = Sort.partialInsertionSort Sort.ltInt d2 x y := ⟨_, rfl⟩
                    obtain ⟨p1, p2'⟩ := Sort.partialInsertionSort_holds Sort.swo_ltInt d2 x y (by omega) HS2.out HB2.out
                    have hc := upins_any (cap := cap) wc HU4.out.here hbg (show x < y by omega) hyn hn
                    rw [← hR] at p1 p2' hc
                    have HR1 := Lib.hid p1
                    have HR2 := Lib.hid p2'
                    have HCALL := Lib.hid hc
                    clear hR p1 p2' hc
                    obtain ⟨d3, fin⟩ := R
                    go_wp2_with fail
                    refine HCALL.out.mono ?_
                    rintro e w5 ⟨rfl, hU5⟩
                    have HU5 := Lib.hid (HU4.out.trans hU5)
                    clear hU5
                    cases fin with
                    | true =>
                      go_wp2_with fail
                      (try simp only [Exit.inBlock, Exit.then])
                      refine bodyPost_ret (results_none rfl _ _ _) rfl ?_
                      obtain ⟨q1, q2⟩ := HC.out _ (Sort.permIn_trans _ _ _ _ _ HP2.out HR1.out) (HR2.out trivial)
                      exact ⟨rfl, _, q1, q2, HU5.out⟩
                    | false =>
                      go_wp2_with fail
                      go_meet
                      exact ⟨d3, HR1.out, HU5.out⟩
                case rest =>
                  obtain ⟨d3, hP3, hU5⟩ := hcut
                  have HU5 := Lib.hid hU5
                  have HP3 := Lib.hid (Sort.permIn_trans _ _ _ _ _ HP2.out hP3)
                  clear hU5 hP3
                  have hs3 : y ≤ d3.size := by rw [HU5.out.len]; exact hyn
                  have HB3 := Lib.hid (Sort.Below.perm HB.out HSZ.out HP3.out)
                  have HS3 := Lib.hid hs3
                  clear hs3
                  go_upto_region 17 with fail
                  go_cut [87] (fun v87 wx => ∃ t : Bool, v87 = .bool t ∧ (t = true → 0 < x ∧ Sort.ltInt d3[x - 1]! d3[p2]! = false) ∧ US base w g n C d3 wx)
                  case first =>
                    by_cases hx0 : 0 < x
                    · have lx : (0 : Int) < (x : Int) := by omega
                      obtain ⟨G, hG⟩ : ∃ G : Nat → Int, ∀ t, G t = d3[t]! := ⟨fun t => d3[t]!, fun _ => rfl⟩
                      have HG := Lib.hid hG
                      have m0 : (0 : Int) ≤ (p2 : Int) := by omega
                      have m1 : (p2 : Int) < (n : Int) := by omega
                      have m2 : (p2 : Int).toNat = p2 := by omega
                      have k0 : (0 : Int) ≤ (x : Int) - 1 := by omega
                      have k1 : (x : Int) - 1 < (n : Int) := by omega
                      have k2 : ((x : Int) - 1).toNat = x - 1 := by omega
                      have c0 := HU5.out.cell hG p2 (by omega)
                      have c1 := HU5.out.cell hG (x - 1) (by omega)
                      clear hG
                      go_quiet (first | (go_at_call 166; refine Calls.quiet_of_same (uless _ _ _)))
                      have HUq := Lib.hid (HU5.out.drew nq)
                      generalize wc.drewN nq = wq at HUq ⊢
                      go_wp2_with fail
                      go_meet
                      exact ⟨_, rfl, fun h => ⟨hx0, by rw [← HG.out, ← HG.out]; simpa using h⟩, HUq.out⟩
                    · have lx : ¬ (0 : Int) < (x : Int) := by omega
                      have lxd : decide ((0 : Int) < (x : Int)) = false := decide_eq_false lx
                      go_quiet (fail)
                      have HUq := Lib.hid (HU5.out.drew nq)
                      generalize wc.drewN nq = wq at HUq ⊢
                      go_wp2_with fail
                      go_meet
                      exact ⟨false, rfl, fun h => (by cases h), HUq.out⟩
                  case rest =>
                    obtain ⟨t2, rfl, ht2, hU6⟩ := hcut
                    have HU6 := Lib.hid hU6
                    have HT2 := Lib.hid ht2
                    clear hU6 ht2
                    cases t2 with
                    | true =>
                      obtain ⟨R, hR⟩ : ∃ R, R = Sort.partitionEqual Sort.ltInt d3 x y p2 := ⟨_, rfl⟩
                      have hc := upeq_any (cap := cap) wc HU6.out.here hbg hp1 hp2 hyn hn
                      rw [← hR] at hc
                      obtain ⟨mid, d4⟩ := R
                      obtain ⟨g1, g2, g3, g4, g5⟩ := Sort.round_eq Sort.swo_ltInt (Sort.partitionEqual_holds _) (HT2.out rfl).1 hp1 hp2 HS3.out HB3.out (HT2.out rfl).2 hR.symm
                      have HCALL := Lib.hid hc
                      have HB4 := Lib.hid g4
                      have HC4 := Lib.hid g5
                      clear hR hc g3 g4 g5
                      go_wp2_with fail
                      refine HCALL.out.mono ?_
                      rintro e w7 ⟨rfl, hU7⟩
                      have HU7 := Lib.hid (HU6.out.trans hU7)
                      clear hU7
                      go_wp2_with fail
                      go_roundg (y - mid)
                      case measure => omega
                      case rel => exact ⟨mid, y, l2, d4, wb, wp, rfl, rfl, rfl, rfl, rfl, by omega, g2, hyb, hl2, rfl, HU7, HB4, Lib.hid (fun R h1 h2 => by
                        obtain ⟨r1, r2⟩ := HC4.out R h1 h2
                        exact HC.out R (Sort.permIn_trans _ _ _ _ _ HP3.out r1) r2)⟩
                    | false =>
                      obtain ⟨R, hR⟩ : ∃ R, R = Sort.partition Sort.ltInt d3 x y p2 := ⟨_, rfl⟩
                      have hc := upart_any (cap := cap) wc HU6.out.here hbg hp1 hp2 hyn hn
                      rw [← hR] at hc
                      obtain ⟨mid, ap, d4⟩ := R
                      obtain ⟨g1, g2, g3, g4, g5, g6, g7⟩ := Sort.round_part Sort.swo_ltInt (Sort.partition_holds _) hp1 hp2 HS3.out HB3.out hR.symm
                      have HCALL := Lib.hid hc
                      have HBL := Lib.hid g4
                      have HBR := Lib.hid g5
                      have HLF := Lib.hid g6
                      have HRT := Lib.hid g7
                      clear hR hc g3 g4 g5 g6 g7
                      go_wp2_with fail
                      refine HCALL.out.mono ?_
                      rintro e w7 ⟨rfl, hU7⟩
                      have HU7 := Lib.hid (HU6.out.trans hU7)
                      clear hU7
                      have hq1 : (0 : Int) ≤ ((y : Int) - (x : Int)).tdiv 8 := by rw [Int.tdiv_eq_ediv_of_nonneg (by omega)]; omega
                      have hq2 : ((y : Int) - (x : Int)).tdiv 8 ≤ 64 := by rw [Int.tdiv_eq_ediv_of_nonneg (by omega)]; omega
                      go_upto_region 24 with fail
                      generalize ((y : Int) - (x : Int)).tdiv 8 = th at hq1 hq2 ⊢
                      obtain ⟨m1, hm1⟩ : ∃ m1, m1 = mid + 1 := ⟨_, rfl⟩
                      have HM1 : Hid ((mid : Int) + 1 = (m1 : Int)) := Lib.hid (by omega)
                      rw [← hm1] at HBR HLF HRT
                      have b1 : mid < m1 := by omega
                      have b2 : m1 ≤ mid + 1 := by omega
                      clear hm1
                      by_cases hlr : mid - x < y - mid
                      · have llr : (mid : Int) - (x : Int) < (y : Int) - (mid : Int) := by omega
                        have hc := IH.out base g n C cap x mid l2 d4 w7 (by omega) HU7.out.here hbg (by omega) (by omega) hn hl2 HBL.out
                        have HCALL2 := Lib.hid hc
                        clear hc
                        go_wp2_with fail
                        refine HCALL2.out.mono ?_
                        rintro e w8 ⟨rfl, L, hL1, hL2, hU8⟩
                        obtain ⟨hB9, hfin⟩ := HLF.out L hL1 hL2
                        have HU8 := Lib.hid (HU7.out.trans hU8)
                        have HB9 := Lib.hid hB9
                        have HFIN := Lib.hid hfin
                        clear hU8 hB9 hfin hL1 hL2
                        go_wp2_with fail
                        rw [HM1.out]
                        go_roundg (y - m1)
                        case measure => omega
                        case rel => exact ⟨m1, y, l2, L, _, ap, rfl, rfl, rfl, rfl, rfl, by omega, by omega, hyb, hl2, rfl, HU8, HB9, Lib.hid (fun R h1 h2 => by
                          obtain ⟨r1, r2⟩ := HFIN.out R h1 h2
                          exact HC.out R (Sort.permIn_trans _ _ _ _ _ HP3.out r1) r2)⟩
                      · have llr : ¬ (mid : Int) - (x : Int) < (y : Int) - (mid : Int) := by omega
                        have hc := IH.out base g n C cap m1 y l2 d4 w7 (by omega) HU7.out.here hbg (by omega) (by omega) hn hl2 HBR.out
                        have HCALL2 := Lib.hid hc
                        clear hc
                        go_wp2_with fail
                        rw [HM1.out]
                        refine HCALL2.out.mono ?_
                        rintro e w8 ⟨rfl, L, hL1, hL2, hU8⟩
                        obtain ⟨hB9, hfin⟩ := HRT.out L hL1 hL2
                        have HU8 := Lib.hid (HU7.out.trans hU8)
                        have HB9 := Lib.hid hB9
                        have HFIN := Lib.hid hfin
                        clear hU8 hB9 hfin hL1 hL2
                        go_wp2_with fail
                        go_roundg (mid - x)
                        case measure => omega
                        case rel => exact ⟨x, mid, l2, L, _, ap, rfl, rfl, rfl, rfl, rfl, hax, by omega, by omega, hl2, rfl, HU8, HB9, Lib.hid (fun R h1 h2 => by
                          obtain ⟨r1, r2⟩ := HFIN.out R h1 h2
                          exact HC.out R (Sort.permIn_trans _ _ _ _ _ HP3.out r1) r2)⟩
end Go.Proofs.YtbekkdhlfkongaaGreatDoor
/-
  What slices.Sort does to numbers.
-/
namespace Go.Proofs.YtbekkdhlfkongaaGreatDoor
open Go.ChangeShapes Go.WideShapes Go.ChangeAt Go.RowKit Go.Shelf
set_option maxRecDepth 20000

theorem sort_cast (ss : List Nat) : (ss.map (fun x : Nat => (x : Int))).mergeSort (fun x y => !Sort.ltInt y x) = (ss.mergeSort (fun a b => decide (a ≤ b))).map (fun x : Nat => (x : Int)) := by
  refine (List.map_mergeSort (fun a _ b _ => ?_)).symm
  unfold Sort.ltInt
  by_cases h : a ≤ b
  · have : ¬ (b : Int) < (a : Int) := by omega
    simp [h]
  · have : (b : Int) < (a : Int) := by omega
    simp [h]; omega
theorem enc_at (l : List Nat) {t : Nat} (ht : t < l.length) : (l.map encW)[t]? = some (.int .u32 ((l.map (fun x : Nat => (x : Int))).toArray[t]!)) := by
  rw [List.getElem?_map, List.getElem?_eq_getElem ht]
  simp [encW, ht]
theorem US.of_row {base : Nat} {w : World} {g cap : Nat} {ss : List Nat} (h : w.ownsRow base 23 1 (.slice (some ⟨g, 0, none⟩) ss.length cap) ss.length (ss.map encW)) : US base w g ss.length cap (ss.map (fun x : Nat => (x : Int))).toArray w ∧ base ≤ g ∧ ss.length ≤ cap ∧ cap ≤ maxLen := by
  rcases h.2 with ⟨e, _⟩ | ⟨g', cap', cur, e, h1, h2, h3, h4, h5, h6⟩
  · cases e
  · cases e
    refine ⟨⟨by simp, Below.refl _ _, cur, h2, by omega, fun t ht => ?_⟩, h1, h3, h4⟩
    rw [← enc_at ss ht, ← h6, List.getElem?_take, if_pos (by omega), Array.getElem?_toList]
theorem US.to_row {base : Nat} {w w' : World} {g cap : Nat} {ss l : List Nat} {d : Array Int} (h : US base w g ss.length cap d w') (hb : base ≤ g) (h1 : ss.length ≤ cap) (h2 : cap ≤ maxLen) (hd : d.toList = l.map (fun x : Nat => (x : Int))) (hl : l.length = ss.length) :
    w'.ownsRow base 23 1 (.slice (some ⟨g, 0, none⟩) ss.length cap) ss.length (l.map encW) := by
  obtain ⟨cur, k1, k2, k3⟩ := h.hold
  refine ⟨by simp [hl], .inr ⟨g, cap, cur, rfl, hb, k1, h1, h2, by omega, ?_⟩⟩
  apply List.ext_getElem?
  intro t
  by_cases ht : t < ss.length
  · rw [List.getElem?_take, if_pos (by omega), Array.getElem?_toList, k3 t ht, enc_at l (by omega), ← hd]
  · rw [List.getElem?_eq_none (by simp; omega), List.getElem?_eq_none (by simp; omega)]
/-! ### Nothing to sort -/
set_option maxHeartbeats 16000000 in
theorem ulen0 (w : World) : Calls Tryz.prog 170 #[.int .u64 0] w fun e w' => e = .returned (.int .i64 0) ∧ w' = w := by
  go_enter Tryz.func170, Tryz.ntmps170
  go_wp2_with fail
  go_ret
  exact ⟨by kernel_rfl, rfl⟩
theorem ulen00 (w : World) : Calls Tryz.prog 155 #[.int .u64 0] w fun e w' => e = .returned (.int .i64 0) ∧ w' = w := by
  go_enter Tryz.func155, Tryz.ntmps155
  go_wp2_with fail
  refine (ulen0 w).mono ?_
  rintro e w1 ⟨rfl, rfl⟩
  go_wp2_with fail
  go_ret
  exact ⟨rfl, rfl⟩
theorem uins_nil (w : World) : Calls Tryz.prog 160 #[.slice none 0 0, .int .i64 0, .int .i64 0] w fun e w' => e = .returned (.tuple #[]) ∧ w' = w := by
  go_enter Tryz.func160, Tryz.ntmps160
  go_wp2
  go_loopw [6] (fun vi wr => vi = .int .i64 1 ∧ wr = w) (fun _ _ => 0)
  case atStart => exact ⟨rfl, rfl⟩
  case round =>
    obtain ⟨rfl, rfl⟩ := hrel
    go_wp2_with fail
    go_end0
    exact ⟨rfl, rfl⟩
set_option maxHeartbeats 16000000 in
theorem updq_nil (w : World) : Calls Tryz.prog 154 #[.slice none 0 0, .int .i64 0, .int .i64 0, .int .i64 0] w fun e w' => e = .returned (.tuple #[]) ∧ w' = w := by
  go_enter Tryz.func154, Tryz.ntmps154
  go_wp2_with fail
  go_loopg [1, 2, 3, 8, 9] 0 (fun q va vb vl v8 v9 wr => va = .int .i64 0 ∧ vb = .int .i64 0 ∧ vl = .int .i64 0 ∧ wr = w)
  case atStart => exact ⟨rfl, rfl, rfl, rfl⟩
  case round =>
    obtain ⟨rfl, rfl, rfl, rfl⟩ := hrel
    go_wp2_with fail
    refine (uins_nil wr).mono ?_
    rintro e w2 ⟨rfl, rfl⟩
    go_wp2_with fail
    (try simp only [Exit.inBlock, Exit.then])
    refine bodyPost_ret (results_none rfl _ _ _) rfl ?_
    exact ⟨rfl, rfl⟩
set_option maxHeartbeats 16000000 in
theorem usort_any (v : Value) (ss : List Nat) (base : Nat) (w : World) (h : w.ownsRow base 23 1 v ss.length (ss.map encW)) (hn : ss.length ≤ 64) (hb : base ≤ w.heap.size) :
    Calls Tryz.prog 132 #[v] w fun e w' => e = .returned (.tuple #[]) ∧ w'.ownsRow base 23 1 v ss.length ((ss.mergeSort (fun a b => decide (a ≤ b))).map encW) ∧ Below base w w' := by
  rcases h.2 with ⟨rfl, h0⟩ | ⟨g, cap, cur, rfl, _⟩
  · have hs : ss = [] := List.length_eq_zero_iff.1 h0
    subst hs
    have HH := Lib.hid h
    clear h
    go_enter Tryz.func132, Tryz.ntmps132
    go_wp2_with fail
    refine (ulen00 w).mono ?_
    rintro e w1 ⟨rfl, rfl⟩
    go_wp2_with fail
    refine (updq_nil _).mono ?_
    rintro e w2 ⟨rfl, rfl⟩
    go_wp2_with fail
    go_end0
    exact ⟨rfl, by simpa using HH.out, Below.refl _ _⟩
  · obtain ⟨hU, hbg, hc1, hc2⟩ := US.of_row h
    obtain ⟨n, hnn⟩ : ∃ n, n = ss.length := ⟨_, rfl⟩
    have HN := Lib.hid hnn
    have HU := Lib.hid hU
    rw [← hnn] at hn
    have hgo : ∀ (l2 : Nat), l2 ≤ 7 → Calls Tryz.prog 154 #[.slice (some ⟨g, 0, none⟩) n cap, .int .i64 0, .int .i64 n, .int .i64 l2] w fun e w' => e = .returned (.tuple #[]) ∧ w'.ownsRow base 23 1 (.slice (some ⟨g, 0, none⟩) ss.length cap) ss.length ((ss.mergeSort (fun a b => decide (a ≤ b))).map encW) ∧ Below base w w' := fun l2 hl2 => by
      have hU' : US base w g n cap (ss.map (fun x : Nat => (x : Int))).toArray w := by rw [hnn]; exact hU
      refine (updq_any (n + 1) base g n cap cap 0 n l2 _ w (by omega) hU' hbg (Nat.zero_le _) (Nat.le_refl _) hn (by omega) (.inl rfl)).mono ?_
      rintro e w2 ⟨rfl, d', hP, hS, hU2⟩
      have hsz : (ss.map (fun x : Nat => (x : Int))).toArray.size = n := by simp [hnn]
      have hd := Sort.sorted_unique_holds Sort.swo_ltInt (fun x y h1 h2 => by unfold Sort.ltInt at h1 h2; simp at h1 h2; omega) _ d' (by rw [hsz]; exact hP) (by rw [hsz]; exact hS)
      rw [List.toList_toArray, sort_cast] at hd
      exact ⟨rfl, US.to_row (by rw [← hnn]; exact hU2) hbg hc1 hc2 hd (List.length_mergeSort _), hU2.below⟩
    have HGO := Lib.hid hgo
    rw [← hnn]
    rw [← hnn] at HGO
    clear hgo hU h hnn hb
    by_cases h0 : n = 0
    · subst h0
      go_enter Tryz.func132, Tryz.ntmps132
      go_wp2_with fail
      refine (ulen00 w).mono ?_
      rintro e w1 ⟨rfl, rfl⟩
      go_wp2_with fail
      refine (HGO.out 0 (by omega)).mono ?_
      rintro e w2 ⟨rfl, hr, hbl⟩
      have HR := Lib.hid hr
      have HBL := Lib.hid hbl
      clear hr hbl
      go_wp2_with fail
      go_end0
      exact ⟨rfl, HR.out, HBL.out⟩
    · have hw : IntKind.u64.wrap (n : Int) = (n : Int) := by rw [IntKind.wrap_u64]; omega
      have HLEN := Lib.hid (ulen_any n (by omega) hn w)
      go_enter Tryz.func132, Tryz.ntmps132
      go_wp2_with fail
      refine HLEN.out.mono ?_
      rintro e w1 ⟨m, hm, _, rfl, rfl⟩
      go_wp2_with fail
      refine (HGO.out m hm).mono ?_
      rintro e w2 ⟨rfl, hr, hbl⟩
      have HR := Lib.hid hr
      have HBL := Lib.hid hbl
      clear hr hbl
      go_wp2_with fail
      go_end0
      exact ⟨rfl, HR.out, HBL.out⟩
end Go.Proofs.YtbekkdhlfkongaaGreatDoor
