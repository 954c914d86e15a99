/-
  What the laws' texts use, joined.
-/
import Derived.Test.YtbekkdhlfkongaaGreatDoorProg
import Derived.WalkKit
import Derived.Laws.BitsAllLaws
import Derived.RowKit
import Derived.ProofKit
import Derived.Lib.Hide
import Derived.Laws.Rows
import Derived.Laws.ResultCell
import Derived.Laws.Entries
import Derived.Handy
import Derived.OwnWalk
import Derived.Laws.OwnMore
import Derived.Deep.Draws
import Derived.Laws.IdiomStrings
import Derived.Lib.BufferRead
import Derived.Maps.OwnSet
import Derived.BigQuiet
import Derived.IntWalk
import Derived.Deep.RegionHeld3
import Derived.BigRegion
import Derived.Lib.OthersKept
import Derived.Lib.QuietBelow
import Derived.Shelf.Strings.Builder1
import Derived.Shelf.Strings.Search1
import Derived.Lib.IndexLaws
import Derived.Laws.Tables
import Derived.Deep.DeepCutAuto
import Derived.Deep.Cut
import Derived.Deep.Slices
import Derived.Test.YtbekkdhlfkongaaGreatDoorRows
import Derived.OpenShut
import Derived.Carry
import Derived.Deep.DeepHandedRow
import Derived.Lib.SmallJoins
import Derived.Deep.QuietTactic
import Derived.WalkMore
import Derived.Test.YtbekkdhlfkongaaGreatDoorPk1
import Derived.Test.YtbekkdhlfkongaaGreatDoorPk2
import Derived.Test.YtbekkdhlfkongaaGreatDoorPk3
import Derived.Test.YtbekkdhlfkongaaGreatDoorPk4
import Derived.Test.YtbekkdhlfkongaaGreatDoorPk5
import Derived.Test.YtbekkdhlfkongaaGreatDoorPk6
import Derived.Test.YtbekkdhlfkongaaGreatDoorPk7
/-
  The document's Fits, First and Judge (package hurdleref11).
-/
namespace Go.Proofs.YtbekkdhlfkongaaGreatDoor
open Go.ChangeShapes Go.WideShapes Go.ChangeAt Go.RowKit
set_option maxRecDepth 20000

theorem count_step {cs : List Cd} {k : Nat} (h : k < cs.length) (P : Cd → Bool) : (cs.take (k + 1)).countP P = (cs.take k).countP P + (if P cs[k] then 1 else 0) := by
  rw [List.take_succ_eq_append_getElem h, List.countP_append]
  simp
theorem count_all (cs : List Cd) (P : Cd → Bool) : (((cs.take cs.length).countP P : Int) == (cs.length : Int)) = cs.all P := by
  rw [List.take_length, Bool.eq_iff_iff, beq_iff_eq, List.all_eq_true]
  constructor
  · intro h
    exact List.countP_eq_length.1 (by omega)
  · intro h
    have := List.countP_eq_length.2 h
    omega
set_option maxHeartbeats 8000000 in
theorem rfits_any (cv : Value) (x : Rl) (d : Rec) (w : World) (hC : CAt w cv x.conds) (hk : x.ok) (hl : x.conds.length ≤ 9223372036854775807) (hd : d.ok) :
    Calls Tryz.prog 71 #[x.val cv, d.val] w fun e w' => e = .returned (.bool (fitsR x d)) ∧ Below w.heap.size w w' := by
  obtain ⟨co, ccap, rfl, hrows⟩ := hC.rows
  have HROW := Lib.hid hrows
  obtain ⟨W, hW, X0, X1, HBx⟩ := box2 w (rlB x (.slice co x.conds.length ccap)) (.cells d.cells 29)
  have HX := Lib.hid X0
  have HD := Lib.hid X1
  have HB := Lib.hid HBx
  have HK := Lib.hid hk.2.2.2
  have HDo := Lib.hid hd
  clear X0 X1 HBx
  obtain ⟨R, hR⟩ : ∃ R, R = fitsR x d := ⟨_, rfl⟩
  rw [← hR]
  have HR := Lib.hid hR
  obtain ⟨L, hL⟩ : ∃ L, L = x.conds.length := ⟨_, rfl⟩
  rw [← hL] at HX hl hW ⊢
  have HL := Lib.hid hL
  clear hR hC hk hd hrows hL
  go_enter Tryz.func71, Tryz.ntmps71
  go_upto_region 1 with fail
  change Code.wp _ _ _ _ ((w.alloc (rlB x (.slice co L ccap))).alloc (.cells d.cells 29))
  rw [← hW]
  clear hW
  go_wp2_with fail
  go_loopw [5, 6] (fun nv i wr => ∃ k m : Nat, k ≤ L ∧ m ≤ k ∧ nv = .int .i64 m ∧ i = .int .i64 k ∧ Hid (m = (x.conds.take k).countP (·.holds d)) ∧ Hid (Below w.heap.size w wr) ∧ Hid (wr.heap[w.heap.size]? = some (rlB x (.slice co L ccap))) ∧ Hid (wr.heap[w.heap.size + 1]? = some (.cells d.cells 29))) (fun _ i _ => L - (Lib.intOf i).toNat)
  case atStart => exact ⟨0, 0, Nat.zero_le _, Nat.le_refl _, rfl, rfl, Lib.hid rfl, HB, HX, HD⟩
  case round =>
    obtain ⟨k, m, hkl, hmk, rfl, rfl, HM, HBr, HXr, HDr⟩ := hrel
    clear HB HX HD
    obtain ⟨r0, r1, r2, r3⟩ := rbox HXr.out
    by_cases hlt : k < L
    · have hkx : k < x.conds.length := by rw [← HL.out]; exact hlt
      obtain ⟨cb, coff, rfl, hcb, g0, g1, g2, g3⟩ := HROW.out k hkx
      obtain ⟨c, hc⟩ : ∃ c, c = x.conds[k] := ⟨_, rfl⟩
      rw [← hc] at g0 g1 g2 g3
      have hcok : c.ok := by rw [hc]; exact HK.out _ (List.getElem_mem hkx)
      have HS : Hid ((x.conds.take (k + 1)).countP (·.holds d) = (x.conds.take k).countP (·.holds d) + (if c.holds d then 1 else 0)) := Lib.hid (by rw [count_step hkx, ← hc])
      obtain ⟨B, hB⟩ : ∃ B, B = c.holds d := ⟨_, rfl⟩
      rw [← hB] at HS
      have cS : ∀ d' os, Calls Tryz.prog 24 #[c.val, d.val] (Sort.grow (redrawn wr d') os) fun e w'' => e = .returned (.bool B) ∧ ∃ p : Regrown, w'' = Sort.grow (redrawn wr p.d) p.os := fun d' os => Calls.regrown_of ((rholds8_any c d _ hcok HDo.out).mono fun e w' h => ⟨by rw [hB]; exact h.1, h.2⟩)
      have e0 := cell_regrown ((HBr.out.cell (p := ⟨cb, _, none⟩) hcb).trans g0)
      have e1 := cell_regrown ((HBr.out.cell (p := ⟨cb, _, none⟩) hcb).trans g1)
      have e2 := cell_regrown ((HBr.out.cell (p := ⟨cb, _, none⟩) hcb).trans g2)
      have e3 := cell_regrown ((HBr.out.cell (p := ⟨cb, _, none⟩) hcb).trans g3)
      have f2 := cell_regrown r2
      obtain ⟨d0, d1, d2, d3, d4, d5, d6, d7, d8⟩ := rec_cells HDr.out
      have y0 := cell_regrown d0
      have y1 := cell_regrown d1
      have y2 := cell_regrown d2
      have y3 := cell_regrown d3
      have y4 := cell_regrown d4
      have y5 := cell_regrown d5
      have y6 := cell_regrown d6
      have y7 := cell_regrown d7
      have y8 := cell_regrown d8
      have l0 : (k : Int) < (L : Int) := by omega
      have l1 : (0 : Int) ≤ (k : Int) := by omega
      have l2 : (k : Int).toNat = k := by omega
      clear hc hB g0 g1 g2 g3 hcok d0 d1 d2 d3 d4 d5 d6 d7 d8
      go_wp2_with fail
      refine wp_region_quiet_below (by kernel_rfl) (by kernel_rfl) ?_
      repeat (quiet_step (with_reducible exact cS _ _))
      refine wpQuiet_nil ?_
      intro _ hw'
      obtain ⟨⟨dq, osq⟩, hw''⟩ := hw'
      subst hw''
      have hbq := below_regrown wr dq osq
      have HBq := Lib.hid (below2 HBr.out hbq)
      have HXq := Lib.hid (kb hbq HXr.out)
      have HDq := Lib.hid (kb hbq HDr.out)
      clear hbq cS e0 e1 e2 e3 f2 y0 y1 y2 y3 y4 y5 y6 y7 y8 r0 r1 r2 r3 l0 l1 l2
      generalize Sort.grow (redrawn wr dq) osq = Wq at *
      cases B
      · have HM2 : Hid (m = (x.conds.take (k + 1)).countP (·.holds d)) := Lib.hid (by rw [HS.out, ← HM.out]; rfl)
        go_wp2_with fail
        go_roundw
        case rel => exact ⟨k + 1, m, by omega, by omega, rfl, by go_num, HM2, HBq, HXq, HDq⟩
        case measure => simp [Lib.intOf]; omega
      · have HM2 : Hid (m + 1 = (x.conds.take (k + 1)).countP (·.holds d)) := Lib.hid (by rw [HS.out, ← HM.out]; rfl)
        go_wp2_with fail
        go_roundw
        case rel => exact ⟨k + 1, m + 1, by omega, by omega, by go_num, by go_num, HM2, HBq, HXq, HDq⟩
        case measure => simp [Lib.intOf]; omega
    · have hkL : k = L := by omega
      have hnl : decide ((k : Int) < (L : Int)) = false := by simp; omega
      obtain ⟨A, hA⟩ : ∃ A, A = x.conds.all (·.holds d) := ⟨_, rfl⟩
      have ha : ((m : Int) == (L : Int)) = A := by
        rw [hA, ← count_all, HM.out, hkL, HL.out]
      have HRA : Hid (R = (decide (x.arch = d.arch) && decide (x.nr = d.nr) && A)) := Lib.hid (by rw [HR.out, hA]; rfl)
      obtain ⟨d0, d1, d2, d3, d4, d5, d6, d7, d8⟩ := rec_cells HDr.out
      clear hkL hA
      cases A
      · have HE : Hid (R = false) := Lib.hid (by rw [HRA.out]; simp)
        go_wp2_with fail
        go_ret
        exact ⟨by rw [HE.out]; rfl, HBr.out⟩
      by_cases h0 : x.arch = d.arch
      case neg =>
        have HE : Hid (R = false) := Lib.hid (by rw [HRA.out]; simp [h0])
        have hb0 : ((x.arch : Int) == (d.arch : Int)) = false := by simp; omega
        clear h0
        go_wp2_with fail
        go_ret
        exact ⟨by rw [HE.out]; rfl, HBr.out⟩
      have hb0 : ((x.arch : Int) == (d.arch : Int)) = true := by simp; omega
      by_cases h1 : x.nr = d.nr
      case neg =>
        have HE : Hid (R = false) := Lib.hid (by rw [HRA.out]; simp [h1])
        have hb1 : ((x.nr : Int) == (d.nr : Int)) = false := by simp; omega
        clear h0 h1
        go_wp2_with fail
        go_ret
        exact ⟨by rw [HE.out]; rfl, HBr.out⟩
      have hb1 : ((x.nr : Int) == (d.nr : Int)) = true := by simp; omega
      have HE : Hid (R = true) := Lib.hid (by rw [HRA.out]; simp [h0, h1])
      clear h0 h1
      go_wp2_with fail
      go_ret
      exact ⟨by rw [HE.out]; rfl, HBr.out⟩
set_option maxHeartbeats 8000000 in
theorem rfirst_any (rv : Value) (p : Po) (d : Rec) (w : World) (hL : LAt w rv p.rules) (hk : p.ok) (hl : p.rules.length ≤ 9223372036854775807) (hl2 : ∀ x ∈ p.rules, x.conds.length ≤ 9223372036854775807) (hd : d.ok) :
    Calls Tryz.prog 38 #[poV rv p.dflt, d.val] w fun e w' => e = .returned (.int .i64 (firstN p.rules 0 d)) ∧ Below w.heap.size w w' := by
  obtain ⟨ao, cap, rfl, hrows⟩ := hL.rows
  have HROW := Lib.hid hrows
  obtain ⟨W, hW, X0, X1, HBx⟩ := box2 w (poB (.slice ao p.rules.length cap) p.dflt) (.cells d.cells 29)
  have HX := Lib.hid X0
  have HD := Lib.hid X1
  have HB := Lib.hid HBx
  have HK := Lib.hid hk.2
  have HDo := Lib.hid hd
  have HL2 := Lib.hid hl2
  clear X0 X1 HBx
  obtain ⟨R, hR⟩ : ∃ R, R = firstN p.rules 0 d := ⟨_, rfl⟩
  rw [← hR]
  have HR := Lib.hid hR
  obtain ⟨L, hL'⟩ : ∃ L, L = p.rules.length := ⟨_, rfl⟩
  rw [← hL'] at HX hl hW ⊢
  have HL := Lib.hid hL'
  have HS0 : Hid ((-1 : Int) = firstN (p.rules.drop L) L d) := Lib.hid (by rw [HL.out]; exact (firstN_end (Nat.le_refl _) d).symm)
  clear hR hL hk hd hrows hL' hl2
  obtain ⟨c0, c1⟩ := pbox HX.out
  go_enter Tryz.func38, Tryz.ntmps38
  go_upto_region 1 with fail
  change Code.wp _ _ _ _ ((w.alloc (poB (.slice ao L cap) p.dflt)).alloc (.cells d.cells 29))
  rw [← hW]
  clear hW
  go_wp2_with fail
  go_loopw [5, 6] (fun fv i wr => ∃ (k : Nat) (F I : Int), k ≤ L ∧ I = (k : Int) - 1 ∧ fv = .int .i64 F ∧ i = .int .i64 I ∧ Hid (F = firstN (p.rules.drop k) k d) ∧ Hid (Below w.heap.size w wr) ∧ Hid (wr.heap[w.heap.size]? = some (poB (.slice ao L cap) p.dflt)) ∧ Hid (wr.heap[w.heap.size + 1]? = some (.cells d.cells 29))) (fun _ i _ => (Lib.intOf i + 1).toNat)
  case atStart => exact ⟨L, -1, (L : Int) - 1, Nat.le_refl _, rfl, rfl, rfl, HS0, HB, HX, HD⟩
  case round =>
    obtain ⟨k, F, I, hkl, hI, rfl, rfl, HF, HBr, HXr, HDr⟩ := hrel
    clear HB HX HD c0 c1
    obtain ⟨c0, c1⟩ := pbox HXr.out
    cases k with
    | zero =>
      obtain rfl : I = -1 := by omega
      have HE : Hid (F = R) := Lib.hid (by rw [HF.out, HR.out]; rfl)
      clear hI
      go_wp2_with fail
      go_ret
      exact ⟨by rw [← HE.out]; rfl, HBr.out⟩
    | succ j =>
      obtain rfl : I = (j : Int) := by omega
      have hjl : j < L := by omega
      have hjx : j < p.rules.length := by rw [← HL.out]; exact hjl
      obtain ⟨cb, coff, cv, rfl, hcb, hcv, g0, g1, g2, g3⟩ := HROW.out j hjx
      obtain ⟨x, hx⟩ : ∃ x, x = p.rules[j] := ⟨_, rfl⟩
      rw [← hx] at g0 g1 g3 hcv
      have hxok : x.ok := by rw [hx]; exact HK.out _ (List.getElem_mem hjx)
      have hxl : x.conds.length ≤ 9223372036854775807 := by rw [hx]; exact HL2.out _ (List.getElem_mem hjx)
      have HS : Hid (firstN (p.rules.drop j) j d = if fitsR x d then (j : Int) else F) := Lib.hid (by rw [firstN_step hjx, ← hx, HF.out])
      obtain ⟨B, hB⟩ : ∃ B, B = fitsR x d := ⟨_, rfl⟩
      rw [← hB] at HS
      obtain ⟨a1, a2, rfl⟩ := hcv.shape
      have cS : ∀ d' os, Calls Tryz.prog 71 #[x.val (.slice a1 x.conds.length a2), d.val] (Sort.grow (redrawn wr d') os) fun e w'' => e = .returned (.bool B) ∧ ∃ p : Regrown, w'' = Sort.grow (redrawn wr p.d) p.os := fun d' os => Calls.regrown_of ((rfits_any _ x d _ (hcv.below (HBr.out.trans ((below_regrown wr d' os).mono HBr.out.size))) hxok hxl HDo.out).mono fun e w' h => ⟨by rw [hB]; exact h.1, h.2⟩)
      have e0 := cell_regrown ((HBr.out.cell (p := ⟨cb, _, none⟩) hcb).trans g0)
      have e1 := cell_regrown ((HBr.out.cell (p := ⟨cb, _, none⟩) hcb).trans g1)
      have e2 := cell_regrown ((HBr.out.cell (p := ⟨cb, _, none⟩) hcb).trans g2)
      have e3 := cell_regrown ((HBr.out.cell (p := ⟨cb, _, none⟩) hcb).trans g3)
      have f2 := cell_regrown c0
      obtain ⟨d0, d1, d2, d3, d4, d5, d6, d7, d8⟩ := rec_cells HDr.out
      have y0 := cell_regrown d0
      have y1 := cell_regrown d1
      have y2 := cell_regrown d2
      have y3 := cell_regrown d3
      have y4 := cell_regrown d4
      have y5 := cell_regrown d5
      have y6 := cell_regrown d6
      have y7 := cell_regrown d7
      have y8 := cell_regrown d8
      have l0 : (j : Int) < (L : Int) := by omega
      have l1 : (0 : Int) ≤ (j : Int) := by omega
      have l2 : (j : Int).toNat = j := by omega
      clear hx hB g0 g1 g2 g3 hcv hxok hxl d0 d1 d2 d3 d4 d5 d6 d7 d8 hI
      go_wp2_with fail
      refine wp_region_quiet_below (by kernel_rfl) (by kernel_rfl) ?_
      repeat (quiet_step (with_reducible exact cS _ _))
      refine wpQuiet_nil ?_
      intro _ hw'
      obtain ⟨⟨dq, osq⟩, hw''⟩ := hw'
      subst hw''
      have hbq := below_regrown wr dq osq
      have HBq := Lib.hid (below2 HBr.out hbq)
      have HXq := Lib.hid (kb hbq HXr.out)
      have HDq := Lib.hid (kb hbq HDr.out)
      clear hbq cS e0 e1 e2 e3 f2 y0 y1 y2 y3 y4 y5 y6 y7 y8 c0 c1
      generalize Sort.grow (redrawn wr dq) osq = Wq at *
      cases B
      · have HM2 : Hid (F = firstN (p.rules.drop j) j d) := Lib.hid (by rw [HS.out]; rfl)
        go_wp2_with fail
        go_roundw
        case rel => exact ⟨j, F, (j : Int) - 1, by omega, rfl, rfl, by go_num, HM2, HBq, HXq, HDq⟩
        case measure => simp [Lib.intOf] <;> omega
      · have HM2 : Hid ((j : Int) = firstN (p.rules.drop j) j d) := Lib.hid (by rw [HS.out]; rfl)
        go_wp2_with fail
        go_roundw
        case rel => exact ⟨j, (j : Int), (j : Int) - 1, by omega, rfl, rfl, by go_num, HM2, HBq, HXq, HDq⟩
        case measure => simp [Lib.intOf] <;> omega
set_option maxHeartbeats 8000000 in
theorem rjudge_any (rv : Value) (p : Po) (d : Rec) (w : World) (hL : LAt w rv p.rules) (hk : p.ok) (hl : p.rules.length ≤ 9223372036854775807) (hl2 : ∀ x ∈ p.rules, x.conds.length ≤ 9223372036854775807) (hd : d.ok) :
    Calls Tryz.prog 13 #[poV rv p.dflt, d.val] w fun e w' => e = .returned (.int .u32 (judgeR p.rules p.dflt d : Nat)) ∧ Below w.heap.size w w' := by
  obtain ⟨ao, cap, rfl, hrows⟩ := hL.rows
  obtain ⟨W, hW, X0, X1, HBx⟩ := box2 w (poB (.slice ao p.rules.length cap) p.dflt) (.cells d.cells 29)
  have HX := Lib.hid X0
  have HD := Lib.hid X1
  have HB := Lib.hid HBx
  have HROW := Lib.hid hrows
  clear X0 X1 HBx
  have HF : Hid (Calls Tryz.prog 38 #[poV (.slice ao p.rules.length cap) p.dflt, d.val] W fun e w' => e = .returned (.int .i64 (firstN p.rules 0 d)) ∧ Below W.heap.size W w') := Lib.hid (rfirst_any _ p d W (hL.below HB.out) hk hl hl2 hd)
  have HJ := Lib.hid (first_judge p.rules 0 p.dflt d)
  obtain ⟨R1, hR1⟩ : ∃ R : Nat, R = judgeR p.rules p.dflt d := ⟨_, rfl⟩
  rw [← hR1]
  have HR1 := Lib.hid hR1
  clear hL hk hl2 hd hrows hR1
  go_enter Tryz.func13, Tryz.ntmps13
  go_upto_region 1 with fail
  change Code.wp _ _ _ _ ((w.alloc (poB (.slice ao p.rules.length cap) p.dflt)).alloc (.cells d.cells 29))
  rw [← hW]
  clear hW
  obtain ⟨c0, c1⟩ := pbox HX.out
  obtain ⟨d0, d1, d2, d3, d4, d5, d6, d7, d8⟩ := rec_cells HD.out
  go_wp2_with fail
  refine HF.out.mono ?_
  rintro e w1 ⟨rfl, hb1⟩
  have HB1 := Lib.hid (below2 HB.out hb1)
  have HX1 := Lib.hid (kb hb1 HX.out)
  clear hb1 c0 c1 d0 d1 d2 d3 d4 d5 d6 d7 d8 HF
  obtain ⟨c0, c1⟩ := pbox HX1.out
  rcases HJ.out with ⟨h1, h2⟩ | ⟨k, hk, h1, h2⟩
  · have HE : Hid (R1 = p.dflt) := Lib.hid (by rw [HR1.out, h2])
    rw [h1]
    clear h1 h2 HJ HR1
    go_wp2_with fail
    go_ret
    exact ⟨by rw [HE.out]; rfl, HB1.out⟩
  · have HE : Hid (R1 = (p.rules[k]).act) := Lib.hid (by rw [HR1.out, h2])
    rw [h1, Nat.zero_add]
    clear HR1
    obtain ⟨b, off, cv, rfl, hb', hcv, e0, e1, e2, e3⟩ := HROW.out k hk
    obtain ⟨x, hx⟩ : ∃ x, x = p.rules[k] := ⟨_, rfl⟩
    rw [← hx] at e3 HE
    have e := (HB1.out.cell (p := ⟨b, _, none⟩) hb').trans e3
    have l0 : (k : Int) < (p.rules.length : Int) := by omega
    have l1 : (0 : Int) ≤ (k : Int) := by omega
    have l2 : (k : Int).toNat = k := by omega
    have l3 : decide ((k : Int) < 0) = false := by simp
    clear h1 h2 HJ hcv e0 e1 e2 e3 hx
    go_wp2_with fail
    go_ret
    exact ⟨by rw [HE.out]; rfl, HB1.out⟩
end Go.Proofs.YtbekkdhlfkongaaGreatDoor
/-
  The document's One: the error of an instruction at a place of so many.
-/
namespace Go.Proofs.YtbekkdhlfkongaaGreatDoor
open Go.ChangeShapes Go.WideShapes Go.ChangeAt Go.RowKit
set_option maxRecDepth 20000

theorem rone_bad (jt jf k p n ev : Int) (hyp : 0 ≤ k ∧ k ≤ 4294967295 ∧ 0 ≤ p ∧ p < n ∧ n ≤ 9223372036854775807) (w : World) (op : Int) (hr : right op jt jf k = false) (hv : ev = 1) : Calls Tryz.prog 72 #[insV op jt jf k, .int .i64 p, .int .i64 n] w fun e w' => e = .returned (.int .i64 ev) ∧ Below w.heap.size w w' := by
  obtain ⟨hk, hk', h0, h1, h2⟩ := hyp
  have HV := Lib.hid hv
  clear hv
  have hb := ba (insB op jt jf k) (Below.refl w.heap.size w)
  have hH : (w.alloc (insB op jt jf k)).heap[w.heap.size]? = some (insB op jt jf k) := heap_alloc_new _ _
  go_enter Tryz.func72, Tryz.ntmps72
  go_wp2_with fail
  refine (refRight_any op jt jf k _).mono ?_
  rintro e w1 ⟨rfl, hB⟩
  have hH1 : w1.heap[w.heap.size]? = some (insB op jt jf k) := (hB.block _ (lt_of_block hH)).trans hH
  have hsz := lt_of_block hH1
  have HB1 := Lib.hid (hb.trans (hB.mono hb.size))
  have c0 : w1.cell? ⟨w.heap.size, 0, none⟩ = some (.int .i64 op) := cell_in hH1 0
  have c1 : w1.cell? ⟨w.heap.size, 1, none⟩ = some (.int .i64 jt) := cell_in hH1 1
  have c2 : w1.cell? ⟨w.heap.size, 2, none⟩ = some (.int .i64 jf) := cell_in hH1 2
  have c3 : w1.cell? ⟨w.heap.size, 3, none⟩ = some (.int .u32 k) := cell_in hH1 3
  have HX := Lib.hid hH1
  clear hH1 hB hb hH
  rw [hr]
  go_wp2_with fail
  go_ret
  exact ⟨retI HV.out, HB1.out⟩
theorem rone_32_a (jt jf k p n ev : Int) (hyp : 0 ≤ k ∧ k ≤ 4294967295 ∧ 0 ≤ p ∧ p < n ∧ n ≤ 9223372036854775807) (w : World) (hr : right 32 jt jf k = true) (hq : ¬ k % 4 = 0) (hv : ev = 6) : Calls Tryz.prog 72 #[insV 32 jt jf k, .int .i64 p, .int .i64 n] w fun e w' => e = .returned (.int .i64 ev) ∧ Below w.heap.size w w' := by
  obtain ⟨hk, hk', h0, h1, h2⟩ := hyp
  have HV := Lib.hid hv
  clear hv
  have hb := ba (insB 32 jt jf k) (Below.refl w.heap.size w)
  have hH : (w.alloc (insB 32 jt jf k)).heap[w.heap.size]? = some (insB 32 jt jf k) := heap_alloc_new _ _
  go_enter Tryz.func72, Tryz.ntmps72
  go_wp2_with fail
  refine (refRight_any 32 jt jf k _).mono ?_
  rintro e w1 ⟨rfl, hB⟩
  have hH1 : w1.heap[w.heap.size]? = some (insB 32 jt jf k) := (hB.block _ (lt_of_block hH)).trans hH
  have hsz := lt_of_block hH1
  have HB1 := Lib.hid (hb.trans (hB.mono hb.size))
  have c0 : w1.cell? ⟨w.heap.size, 0, none⟩ = some (.int .i64 32) := cell_in hH1 0
  have c1 : w1.cell? ⟨w.heap.size, 1, none⟩ = some (.int .i64 jt) := cell_in hH1 1
  have c2 : w1.cell? ⟨w.heap.size, 2, none⟩ = some (.int .i64 jf) := cell_in hH1 2
  have c3 : w1.cell? ⟨w.heap.size, 3, none⟩ = some (.int .u32 k) := cell_in hH1 3
  have HX := Lib.hid hH1
  clear hH1 hB hb hH
  rw [hr]
  go_wp2_with fail
  go_ret
  exact ⟨retI HV.out, HB1.out⟩
theorem rone_32_b (jt jf k p n ev : Int) (hyp : 0 ≤ k ∧ k ≤ 4294967295 ∧ 0 ≤ p ∧ p < n ∧ n ≤ 9223372036854775807) (w : World) (hr : right 32 jt jf k = true) (hq : k % 4 = 0) (hq' : 60 < k) (hv : ev = 6) : Calls Tryz.prog 72 #[insV 32 jt jf k, .int .i64 p, .int .i64 n] w fun e w' => e = .returned (.int .i64 ev) ∧ Below w.heap.size w w' := by
  obtain ⟨hk, hk', h0, h1, h2⟩ := hyp
  have HV := Lib.hid hv
  clear hv
  have hb := ba (insB 32 jt jf k) (Below.refl w.heap.size w)
  have hH : (w.alloc (insB 32 jt jf k)).heap[w.heap.size]? = some (insB 32 jt jf k) := heap_alloc_new _ _
  go_enter Tryz.func72, Tryz.ntmps72
  go_wp2_with fail
  refine (refRight_any 32 jt jf k _).mono ?_
  rintro e w1 ⟨rfl, hB⟩
  have hH1 : w1.heap[w.heap.size]? = some (insB 32 jt jf k) := (hB.block _ (lt_of_block hH)).trans hH
  have hsz := lt_of_block hH1
  have HB1 := Lib.hid (hb.trans (hB.mono hb.size))
  have c0 : w1.cell? ⟨w.heap.size, 0, none⟩ = some (.int .i64 32) := cell_in hH1 0
  have c1 : w1.cell? ⟨w.heap.size, 1, none⟩ = some (.int .i64 jt) := cell_in hH1 1
  have c2 : w1.cell? ⟨w.heap.size, 2, none⟩ = some (.int .i64 jf) := cell_in hH1 2
  have c3 : w1.cell? ⟨w.heap.size, 3, none⟩ = some (.int .u32 k) := cell_in hH1 3
  have HX := Lib.hid hH1
  clear hH1 hB hb hH
  rw [hr]
  go_wp2_with fail
  go_ret
  exact ⟨retI HV.out, HB1.out⟩
theorem rone_32_c (jt jf k p n ev : Int) (hyp : 0 ≤ k ∧ k ≤ 4294967295 ∧ 0 ≤ p ∧ p < n ∧ n ≤ 9223372036854775807) (w : World) (hr : right 32 jt jf k = true) (hq : k % 4 = 0) (hq' : k ≤ 60) (hv : ev = 0) : Calls Tryz.prog 72 #[insV 32 jt jf k, .int .i64 p, .int .i64 n] w fun e w' => e = .returned (.int .i64 ev) ∧ Below w.heap.size w w' := by
  obtain ⟨hk, hk', h0, h1, h2⟩ := hyp
  have HV := Lib.hid hv
  clear hv
  have hb := ba (insB 32 jt jf k) (Below.refl w.heap.size w)
  have hH : (w.alloc (insB 32 jt jf k)).heap[w.heap.size]? = some (insB 32 jt jf k) := heap_alloc_new _ _
  go_enter Tryz.func72, Tryz.ntmps72
  go_wp2_with fail
  refine (refRight_any 32 jt jf k _).mono ?_
  rintro e w1 ⟨rfl, hB⟩
  have hH1 : w1.heap[w.heap.size]? = some (insB 32 jt jf k) := (hB.block _ (lt_of_block hH)).trans hH
  have hsz := lt_of_block hH1
  have HB1 := Lib.hid (hb.trans (hB.mono hb.size))
  have c0 : w1.cell? ⟨w.heap.size, 0, none⟩ = some (.int .i64 32) := cell_in hH1 0
  have c1 : w1.cell? ⟨w.heap.size, 1, none⟩ = some (.int .i64 jt) := cell_in hH1 1
  have c2 : w1.cell? ⟨w.heap.size, 2, none⟩ = some (.int .i64 jf) := cell_in hH1 2
  have c3 : w1.cell? ⟨w.heap.size, 3, none⟩ = some (.int .u32 k) := cell_in hH1 3
  have HX := Lib.hid hH1
  clear hH1 hB hb hH
  rw [hr]
  go_wp2_with fail
  refine (refBranch_any 32 jt jf k _).mono ?_
  rintro e w2 ⟨rfl, hB2⟩
  have HB2 := Lib.hid (HB1.out.trans (hB2.mono HB1.out.size))
  have hH2 : w2.heap[w.heap.size]? = some (insB 32 jt jf k) := (hB2.block _ hsz).trans HX.out
  have hsz2 := lt_of_block hH2
  have d1 : w2.cell? ⟨w.heap.size, 1, none⟩ = some (.int .i64 jt) := cell_in hH2 1
  have d2 : w2.cell? ⟨w.heap.size, 2, none⟩ = some (.int .i64 jf) := cell_in hH2 2
  rw [show isBranch 32 = false by decide]
  clear c0 c1 c2 c3 hB2 hH2
  go_wp2_with fail
  go_ret
  exact ⟨retI HV.out, HB2.out⟩
theorem rone_2_a (jt jf k p n ev : Int) (hyp : 0 ≤ k ∧ k ≤ 4294967295 ∧ 0 ≤ p ∧ p < n ∧ n ≤ 9223372036854775807) (w : World) (hr : right 2 jt jf k = true) (hq : 15 < k) (hv : ev = 7) : Calls Tryz.prog 72 #[insV 2 jt jf k, .int .i64 p, .int .i64 n] w fun e w' => e = .returned (.int .i64 ev) ∧ Below w.heap.size w w' := by
  obtain ⟨hk, hk', h0, h1, h2⟩ := hyp
  have HV := Lib.hid hv
  clear hv
  have hb := ba (insB 2 jt jf k) (Below.refl w.heap.size w)
  have hH : (w.alloc (insB 2 jt jf k)).heap[w.heap.size]? = some (insB 2 jt jf k) := heap_alloc_new _ _
  go_enter Tryz.func72, Tryz.ntmps72
  go_wp2_with fail
  refine (refRight_any 2 jt jf k _).mono ?_
  rintro e w1 ⟨rfl, hB⟩
  have hH1 : w1.heap[w.heap.size]? = some (insB 2 jt jf k) := (hB.block _ (lt_of_block hH)).trans hH
  have hsz := lt_of_block hH1
  have HB1 := Lib.hid (hb.trans (hB.mono hb.size))
  have c0 : w1.cell? ⟨w.heap.size, 0, none⟩ = some (.int .i64 2) := cell_in hH1 0
  have c1 : w1.cell? ⟨w.heap.size, 1, none⟩ = some (.int .i64 jt) := cell_in hH1 1
  have c2 : w1.cell? ⟨w.heap.size, 2, none⟩ = some (.int .i64 jf) := cell_in hH1 2
  have c3 : w1.cell? ⟨w.heap.size, 3, none⟩ = some (.int .u32 k) := cell_in hH1 3
  have HX := Lib.hid hH1
  clear hH1 hB hb hH
  rw [hr]
  go_wp2_with fail
  go_ret
  exact ⟨retI HV.out, HB1.out⟩
theorem rone_2_b (jt jf k p n ev : Int) (hyp : 0 ≤ k ∧ k ≤ 4294967295 ∧ 0 ≤ p ∧ p < n ∧ n ≤ 9223372036854775807) (w : World) (hr : right 2 jt jf k = true) (hq : k ≤ 15) (hv : ev = 0) : Calls Tryz.prog 72 #[insV 2 jt jf k, .int .i64 p, .int .i64 n] w fun e w' => e = .returned (.int .i64 ev) ∧ Below w.heap.size w w' := by
  obtain ⟨hk, hk', h0, h1, h2⟩ := hyp
  have HV := Lib.hid hv
  clear hv
  have hb := ba (insB 2 jt jf k) (Below.refl w.heap.size w)
  have hH : (w.alloc (insB 2 jt jf k)).heap[w.heap.size]? = some (insB 2 jt jf k) := heap_alloc_new _ _
  go_enter Tryz.func72, Tryz.ntmps72
  go_wp2_with fail
  refine (refRight_any 2 jt jf k _).mono ?_
  rintro e w1 ⟨rfl, hB⟩
  have hH1 : w1.heap[w.heap.size]? = some (insB 2 jt jf k) := (hB.block _ (lt_of_block hH)).trans hH
  have hsz := lt_of_block hH1
  have HB1 := Lib.hid (hb.trans (hB.mono hb.size))
  have c0 : w1.cell? ⟨w.heap.size, 0, none⟩ = some (.int .i64 2) := cell_in hH1 0
  have c1 : w1.cell? ⟨w.heap.size, 1, none⟩ = some (.int .i64 jt) := cell_in hH1 1
  have c2 : w1.cell? ⟨w.heap.size, 2, none⟩ = some (.int .i64 jf) := cell_in hH1 2
  have c3 : w1.cell? ⟨w.heap.size, 3, none⟩ = some (.int .u32 k) := cell_in hH1 3
  have HX := Lib.hid hH1
  clear hH1 hB hb hH
  rw [hr]
  go_wp2_with fail
  refine (refBranch_any 2 jt jf k _).mono ?_
  rintro e w2 ⟨rfl, hB2⟩
  have HB2 := Lib.hid (HB1.out.trans (hB2.mono HB1.out.size))
  have hH2 : w2.heap[w.heap.size]? = some (insB 2 jt jf k) := (hB2.block _ hsz).trans HX.out
  have hsz2 := lt_of_block hH2
  have d1 : w2.cell? ⟨w.heap.size, 1, none⟩ = some (.int .i64 jt) := cell_in hH2 1
  have d2 : w2.cell? ⟨w.heap.size, 2, none⟩ = some (.int .i64 jf) := cell_in hH2 2
  rw [show isBranch 2 = false by decide]
  clear c0 c1 c2 c3 hB2 hH2
  go_wp2_with fail
  go_ret
  exact ⟨retI HV.out, HB2.out⟩
theorem rone_3_a (jt jf k p n ev : Int) (hyp : 0 ≤ k ∧ k ≤ 4294967295 ∧ 0 ≤ p ∧ p < n ∧ n ≤ 9223372036854775807) (w : World) (hr : right 3 jt jf k = true) (hq : 15 < k) (hv : ev = 7) : Calls Tryz.prog 72 #[insV 3 jt jf k, .int .i64 p, .int .i64 n] w fun e w' => e = .returned (.int .i64 ev) ∧ Below w.heap.size w w' := by
  obtain ⟨hk, hk', h0, h1, h2⟩ := hyp
  have HV := Lib.hid hv
  clear hv
  have hb := ba (insB 3 jt jf k) (Below.refl w.heap.size w)
  have hH : (w.alloc (insB 3 jt jf k)).heap[w.heap.size]? = some (insB 3 jt jf k) := heap_alloc_new _ _
  go_enter Tryz.func72, Tryz.ntmps72
  go_wp2_with fail
  refine (refRight_any 3 jt jf k _).mono ?_
  rintro e w1 ⟨rfl, hB⟩
  have hH1 : w1.heap[w.heap.size]? = some (insB 3 jt jf k) := (hB.block _ (lt_of_block hH)).trans hH
  have hsz := lt_of_block hH1
  have HB1 := Lib.hid (hb.trans (hB.mono hb.size))
  have c0 : w1.cell? ⟨w.heap.size, 0, none⟩ = some (.int .i64 3) := cell_in hH1 0
  have c1 : w1.cell? ⟨w.heap.size, 1, none⟩ = some (.int .i64 jt) := cell_in hH1 1
  have c2 : w1.cell? ⟨w.heap.size, 2, none⟩ = some (.int .i64 jf) := cell_in hH1 2
  have c3 : w1.cell? ⟨w.heap.size, 3, none⟩ = some (.int .u32 k) := cell_in hH1 3
  have HX := Lib.hid hH1
  clear hH1 hB hb hH
  rw [hr]
  go_wp2_with fail
  go_ret
  exact ⟨retI HV.out, HB1.out⟩
theorem rone_3_b (jt jf k p n ev : Int) (hyp : 0 ≤ k ∧ k ≤ 4294967295 ∧ 0 ≤ p ∧ p < n ∧ n ≤ 9223372036854775807) (w : World) (hr : right 3 jt jf k = true) (hq : k ≤ 15) (hv : ev = 0) : Calls Tryz.prog 72 #[insV 3 jt jf k, .int .i64 p, .int .i64 n] w fun e w' => e = .returned (.int .i64 ev) ∧ Below w.heap.size w w' := by
  obtain ⟨hk, hk', h0, h1, h2⟩ := hyp
  have HV := Lib.hid hv
  clear hv
  have hb := ba (insB 3 jt jf k) (Below.refl w.heap.size w)
  have hH : (w.alloc (insB 3 jt jf k)).heap[w.heap.size]? = some (insB 3 jt jf k) := heap_alloc_new _ _
  go_enter Tryz.func72, Tryz.ntmps72
  go_wp2_with fail
  refine (refRight_any 3 jt jf k _).mono ?_
  rintro e w1 ⟨rfl, hB⟩
  have hH1 : w1.heap[w.heap.size]? = some (insB 3 jt jf k) := (hB.block _ (lt_of_block hH)).trans hH
  have hsz := lt_of_block hH1
  have HB1 := Lib.hid (hb.trans (hB.mono hb.size))
  have c0 : w1.cell? ⟨w.heap.size, 0, none⟩ = some (.int .i64 3) := cell_in hH1 0
  have c1 : w1.cell? ⟨w.heap.size, 1, none⟩ = some (.int .i64 jt) := cell_in hH1 1
  have c2 : w1.cell? ⟨w.heap.size, 2, none⟩ = some (.int .i64 jf) := cell_in hH1 2
  have c3 : w1.cell? ⟨w.heap.size, 3, none⟩ = some (.int .u32 k) := cell_in hH1 3
  have HX := Lib.hid hH1
  clear hH1 hB hb hH
  rw [hr]
  go_wp2_with fail
  refine (refBranch_any 3 jt jf k _).mono ?_
  rintro e w2 ⟨rfl, hB2⟩
  have HB2 := Lib.hid (HB1.out.trans (hB2.mono HB1.out.size))
  have hH2 : w2.heap[w.heap.size]? = some (insB 3 jt jf k) := (hB2.block _ hsz).trans HX.out
  have hsz2 := lt_of_block hH2
  have d1 : w2.cell? ⟨w.heap.size, 1, none⟩ = some (.int .i64 jt) := cell_in hH2 1
  have d2 : w2.cell? ⟨w.heap.size, 2, none⟩ = some (.int .i64 jf) := cell_in hH2 2
  rw [show isBranch 3 = false by decide]
  clear c0 c1 c2 c3 hB2 hH2
  go_wp2_with fail
  go_ret
  exact ⟨retI HV.out, HB2.out⟩
theorem rone_96_a (jt jf k p n ev : Int) (hyp : 0 ≤ k ∧ k ≤ 4294967295 ∧ 0 ≤ p ∧ p < n ∧ n ≤ 9223372036854775807) (w : World) (hr : right 96 jt jf k = true) (hq : 15 < k) (hv : ev = 7) : Calls Tryz.prog 72 #[insV 96 jt jf k, .int .i64 p, .int .i64 n] w fun e w' => e = .returned (.int .i64 ev) ∧ Below w.heap.size w w' := by
  obtain ⟨hk, hk', h0, h1, h2⟩ := hyp
  have HV := Lib.hid hv
  clear hv
  have hb := ba (insB 96 jt jf k) (Below.refl w.heap.size w)
  have hH : (w.alloc (insB 96 jt jf k)).heap[w.heap.size]? = some (insB 96 jt jf k) := heap_alloc_new _ _
  go_enter Tryz.func72, Tryz.ntmps72
  go_wp2_with fail
  refine (refRight_any 96 jt jf k _).mono ?_
  rintro e w1 ⟨rfl, hB⟩
  have hH1 : w1.heap[w.heap.size]? = some (insB 96 jt jf k) := (hB.block _ (lt_of_block hH)).trans hH
  have hsz := lt_of_block hH1
  have HB1 := Lib.hid (hb.trans (hB.mono hb.size))
  have c0 : w1.cell? ⟨w.heap.size, 0, none⟩ = some (.int .i64 96) := cell_in hH1 0
  have c1 : w1.cell? ⟨w.heap.size, 1, none⟩ = some (.int .i64 jt) := cell_in hH1 1
  have c2 : w1.cell? ⟨w.heap.size, 2, none⟩ = some (.int .i64 jf) := cell_in hH1 2
  have c3 : w1.cell? ⟨w.heap.size, 3, none⟩ = some (.int .u32 k) := cell_in hH1 3
  have HX := Lib.hid hH1
  clear hH1 hB hb hH
  rw [hr]
  go_wp2_with fail
  go_ret
  exact ⟨retI HV.out, HB1.out⟩
theorem rone_96_b (jt jf k p n ev : Int) (hyp : 0 ≤ k ∧ k ≤ 4294967295 ∧ 0 ≤ p ∧ p < n ∧ n ≤ 9223372036854775807) (w : World) (hr : right 96 jt jf k = true) (hq : k ≤ 15) (hv : ev = 0) : Calls Tryz.prog 72 #[insV 96 jt jf k, .int .i64 p, .int .i64 n] w fun e w' => e = .returned (.int .i64 ev) ∧ Below w.heap.size w w' := by
  obtain ⟨hk, hk', h0, h1, h2⟩ := hyp
  have HV := Lib.hid hv
  clear hv
  have hb := ba (insB 96 jt jf k) (Below.refl w.heap.size w)
  have hH : (w.alloc (insB 96 jt jf k)).heap[w.heap.size]? = some (insB 96 jt jf k) := heap_alloc_new _ _
  go_enter Tryz.func72, Tryz.ntmps72
  go_wp2_with fail
  refine (refRight_any 96 jt jf k _).mono ?_
  rintro e w1 ⟨rfl, hB⟩
  have hH1 : w1.heap[w.heap.size]? = some (insB 96 jt jf k) := (hB.block _ (lt_of_block hH)).trans hH
  have hsz := lt_of_block hH1
  have HB1 := Lib.hid (hb.trans (hB.mono hb.size))
  have c0 : w1.cell? ⟨w.heap.size, 0, none⟩ = some (.int .i64 96) := cell_in hH1 0
  have c1 : w1.cell? ⟨w.heap.size, 1, none⟩ = some (.int .i64 jt) := cell_in hH1 1
  have c2 : w1.cell? ⟨w.heap.size, 2, none⟩ = some (.int .i64 jf) := cell_in hH1 2
  have c3 : w1.cell? ⟨w.heap.size, 3, none⟩ = some (.int .u32 k) := cell_in hH1 3
  have HX := Lib.hid hH1
  clear hH1 hB hb hH
  rw [hr]
  go_wp2_with fail
  refine (refBranch_any 96 jt jf k _).mono ?_
  rintro e w2 ⟨rfl, hB2⟩
  have HB2 := Lib.hid (HB1.out.trans (hB2.mono HB1.out.size))
  have hH2 : w2.heap[w.heap.size]? = some (insB 96 jt jf k) := (hB2.block _ hsz).trans HX.out
  have hsz2 := lt_of_block hH2
  have d1 : w2.cell? ⟨w.heap.size, 1, none⟩ = some (.int .i64 jt) := cell_in hH2 1
  have d2 : w2.cell? ⟨w.heap.size, 2, none⟩ = some (.int .i64 jf) := cell_in hH2 2
  rw [show isBranch 96 = false by decide]
  clear c0 c1 c2 c3 hB2 hH2
  go_wp2_with fail
  go_ret
  exact ⟨retI HV.out, HB2.out⟩
theorem rone_97_a (jt jf k p n ev : Int) (hyp : 0 ≤ k ∧ k ≤ 4294967295 ∧ 0 ≤ p ∧ p < n ∧ n ≤ 9223372036854775807) (w : World) (hr : right 97 jt jf k = true) (hq : 15 < k) (hv : ev = 7) : Calls Tryz.prog 72 #[insV 97 jt jf k, .int .i64 p, .int .i64 n] w fun e w' => e = .returned (.int .i64 ev) ∧ Below w.heap.size w w' := by
  obtain ⟨hk, hk', h0, h1, h2⟩ := hyp
  have HV := Lib.hid hv
  clear hv
  have hb := ba (insB 97 jt jf k) (Below.refl w.heap.size w)
  have hH : (w.alloc (insB 97 jt jf k)).heap[w.heap.size]? = some (insB 97 jt jf k) := heap_alloc_new _ _
  go_enter Tryz.func72, Tryz.ntmps72
  go_wp2_with fail
  refine (refRight_any 97 jt jf k _).mono ?_
  rintro e w1 ⟨rfl, hB⟩
  have hH1 : w1.heap[w.heap.size]? = some (insB 97 jt jf k) := (hB.block _ (lt_of_block hH)).trans hH
  have hsz := lt_of_block hH1
  have HB1 := Lib.hid (hb.trans (hB.mono hb.size))
  have c0 : w1.cell? ⟨w.heap.size, 0, none⟩ = some (.int .i64 97) := cell_in hH1 0
  have c1 : w1.cell? ⟨w.heap.size, 1, none⟩ = some (.int .i64 jt) := cell_in hH1 1
  have c2 : w1.cell? ⟨w.heap.size, 2, none⟩ = some (.int .i64 jf) := cell_in hH1 2
  have c3 : w1.cell? ⟨w.heap.size, 3, none⟩ = some (.int .u32 k) := cell_in hH1 3
  have HX := Lib.hid hH1
  clear hH1 hB hb hH
  rw [hr]
  go_wp2_with fail
  go_ret
  exact ⟨retI HV.out, HB1.out⟩
theorem rone_97_b (jt jf k p n ev : Int) (hyp : 0 ≤ k ∧ k ≤ 4294967295 ∧ 0 ≤ p ∧ p < n ∧ n ≤ 9223372036854775807) (w : World) (hr : right 97 jt jf k = true) (hq : k ≤ 15) (hv : ev = 0) : Calls Tryz.prog 72 #[insV 97 jt jf k, .int .i64 p, .int .i64 n] w fun e w' => e = .returned (.int .i64 ev) ∧ Below w.heap.size w w' := by
  obtain ⟨hk, hk', h0, h1, h2⟩ := hyp
  have HV := Lib.hid hv
  clear hv
  have hb := ba (insB 97 jt jf k) (Below.refl w.heap.size w)
  have hH : (w.alloc (insB 97 jt jf k)).heap[w.heap.size]? = some (insB 97 jt jf k) := heap_alloc_new _ _
  go_enter Tryz.func72, Tryz.ntmps72
  go_wp2_with fail
  refine (refRight_any 97 jt jf k _).mono ?_
  rintro e w1 ⟨rfl, hB⟩
  have hH1 : w1.heap[w.heap.size]? = some (insB 97 jt jf k) := (hB.block _ (lt_of_block hH)).trans hH
  have hsz := lt_of_block hH1
  have HB1 := Lib.hid (hb.trans (hB.mono hb.size))
  have c0 : w1.cell? ⟨w.heap.size, 0, none⟩ = some (.int .i64 97) := cell_in hH1 0
  have c1 : w1.cell? ⟨w.heap.size, 1, none⟩ = some (.int .i64 jt) := cell_in hH1 1
  have c2 : w1.cell? ⟨w.heap.size, 2, none⟩ = some (.int .i64 jf) := cell_in hH1 2
  have c3 : w1.cell? ⟨w.heap.size, 3, none⟩ = some (.int .u32 k) := cell_in hH1 3
  have HX := Lib.hid hH1
  clear hH1 hB hb hH
  rw [hr]
  go_wp2_with fail
  refine (refBranch_any 97 jt jf k _).mono ?_
  rintro e w2 ⟨rfl, hB2⟩
  have HB2 := Lib.hid (HB1.out.trans (hB2.mono HB1.out.size))
  have hH2 : w2.heap[w.heap.size]? = some (insB 97 jt jf k) := (hB2.block _ hsz).trans HX.out
  have hsz2 := lt_of_block hH2
  have d1 : w2.cell? ⟨w.heap.size, 1, none⟩ = some (.int .i64 jt) := cell_in hH2 1
  have d2 : w2.cell? ⟨w.heap.size, 2, none⟩ = some (.int .i64 jf) := cell_in hH2 2
  rw [show isBranch 97 = false by decide]
  clear c0 c1 c2 c3 hB2 hH2
  go_wp2_with fail
  go_ret
  exact ⟨retI HV.out, HB2.out⟩
theorem rone_52_a (jt jf k p n ev : Int) (hyp : 0 ≤ k ∧ k ≤ 4294967295 ∧ 0 ≤ p ∧ p < n ∧ n ≤ 9223372036854775807) (w : World) (hr : right 52 jt jf k = true) (hq : (k == 0) = true) (hv : ev = 8) : Calls Tryz.prog 72 #[insV 52 jt jf k, .int .i64 p, .int .i64 n] w fun e w' => e = .returned (.int .i64 ev) ∧ Below w.heap.size w w' := by
  obtain ⟨hk, hk', h0, h1, h2⟩ := hyp
  have HV := Lib.hid hv
  clear hv
  have hb := ba (insB 52 jt jf k) (Below.refl w.heap.size w)
  have hH : (w.alloc (insB 52 jt jf k)).heap[w.heap.size]? = some (insB 52 jt jf k) := heap_alloc_new _ _
  go_enter Tryz.func72, Tryz.ntmps72
  go_wp2_with fail
  refine (refRight_any 52 jt jf k _).mono ?_
  rintro e w1 ⟨rfl, hB⟩
  have hH1 : w1.heap[w.heap.size]? = some (insB 52 jt jf k) := (hB.block _ (lt_of_block hH)).trans hH
  have hsz := lt_of_block hH1
  have HB1 := Lib.hid (hb.trans (hB.mono hb.size))
  have c0 : w1.cell? ⟨w.heap.size, 0, none⟩ = some (.int .i64 52) := cell_in hH1 0
  have c1 : w1.cell? ⟨w.heap.size, 1, none⟩ = some (.int .i64 jt) := cell_in hH1 1
  have c2 : w1.cell? ⟨w.heap.size, 2, none⟩ = some (.int .i64 jf) := cell_in hH1 2
  have c3 : w1.cell? ⟨w.heap.size, 3, none⟩ = some (.int .u32 k) := cell_in hH1 3
  have HX := Lib.hid hH1
  clear hH1 hB hb hH
  rw [hr]
  go_wp2_with fail
  go_ret
  exact ⟨retI HV.out, HB1.out⟩
theorem rone_52_b (jt jf k p n ev : Int) (hyp : 0 ≤ k ∧ k ≤ 4294967295 ∧ 0 ≤ p ∧ p < n ∧ n ≤ 9223372036854775807) (w : World) (hr : right 52 jt jf k = true) (hq : (k == 0) = false) (hv : ev = 0) : Calls Tryz.prog 72 #[insV 52 jt jf k, .int .i64 p, .int .i64 n] w fun e w' => e = .returned (.int .i64 ev) ∧ Below w.heap.size w w' := by
  obtain ⟨hk, hk', h0, h1, h2⟩ := hyp
  have HV := Lib.hid hv
  clear hv
  have hb := ba (insB 52 jt jf k) (Below.refl w.heap.size w)
  have hH : (w.alloc (insB 52 jt jf k)).heap[w.heap.size]? = some (insB 52 jt jf k) := heap_alloc_new _ _
  go_enter Tryz.func72, Tryz.ntmps72
  go_wp2_with fail
  refine (refRight_any 52 jt jf k _).mono ?_
  rintro e w1 ⟨rfl, hB⟩
  have hH1 : w1.heap[w.heap.size]? = some (insB 52 jt jf k) := (hB.block _ (lt_of_block hH)).trans hH
  have hsz := lt_of_block hH1
  have HB1 := Lib.hid (hb.trans (hB.mono hb.size))
  have c0 : w1.cell? ⟨w.heap.size, 0, none⟩ = some (.int .i64 52) := cell_in hH1 0
  have c1 : w1.cell? ⟨w.heap.size, 1, none⟩ = some (.int .i64 jt) := cell_in hH1 1
  have c2 : w1.cell? ⟨w.heap.size, 2, none⟩ = some (.int .i64 jf) := cell_in hH1 2
  have c3 : w1.cell? ⟨w.heap.size, 3, none⟩ = some (.int .u32 k) := cell_in hH1 3
  have HX := Lib.hid hH1
  clear hH1 hB hb hH
  rw [hr]
  go_wp2_with fail
  refine (refBranch_any 52 jt jf k _).mono ?_
  rintro e w2 ⟨rfl, hB2⟩
  have HB2 := Lib.hid (HB1.out.trans (hB2.mono HB1.out.size))
  have hH2 : w2.heap[w.heap.size]? = some (insB 52 jt jf k) := (hB2.block _ hsz).trans HX.out
  have hsz2 := lt_of_block hH2
  have d1 : w2.cell? ⟨w.heap.size, 1, none⟩ = some (.int .i64 jt) := cell_in hH2 1
  have d2 : w2.cell? ⟨w.heap.size, 2, none⟩ = some (.int .i64 jf) := cell_in hH2 2
  rw [show isBranch 52 = false by decide]
  clear c0 c1 c2 c3 hB2 hH2
  go_wp2_with fail
  go_ret
  exact ⟨retI HV.out, HB2.out⟩
theorem rone_100_a (jt jf k p n ev : Int) (hyp : 0 ≤ k ∧ k ≤ 4294967295 ∧ 0 ≤ p ∧ p < n ∧ n ≤ 9223372036854775807) (w : World) (hr : right 100 jt jf k = true) (hq : 31 < k) (hv : ev = 1) : Calls Tryz.prog 72 #[insV 100 jt jf k, .int .i64 p, .int .i64 n] w fun e w' => e = .returned (.int .i64 ev) ∧ Below w.heap.size w w' := by
  obtain ⟨hk, hk', h0, h1, h2⟩ := hyp
  have HV := Lib.hid hv
  clear hv
  have hb := ba (insB 100 jt jf k) (Below.refl w.heap.size w)
  have hH : (w.alloc (insB 100 jt jf k)).heap[w.heap.size]? = some (insB 100 jt jf k) := heap_alloc_new _ _
  go_enter Tryz.func72, Tryz.ntmps72
  go_wp2_with fail
  refine (refRight_any 100 jt jf k _).mono ?_
  rintro e w1 ⟨rfl, hB⟩
  have hH1 : w1.heap[w.heap.size]? = some (insB 100 jt jf k) := (hB.block _ (lt_of_block hH)).trans hH
  have hsz := lt_of_block hH1
  have HB1 := Lib.hid (hb.trans (hB.mono hb.size))
  have c0 : w1.cell? ⟨w.heap.size, 0, none⟩ = some (.int .i64 100) := cell_in hH1 0
  have c1 : w1.cell? ⟨w.heap.size, 1, none⟩ = some (.int .i64 jt) := cell_in hH1 1
  have c2 : w1.cell? ⟨w.heap.size, 2, none⟩ = some (.int .i64 jf) := cell_in hH1 2
  have c3 : w1.cell? ⟨w.heap.size, 3, none⟩ = some (.int .u32 k) := cell_in hH1 3
  have HX := Lib.hid hH1
  clear hH1 hB hb hH
  rw [hr]
  go_wp2_with fail
  go_ret
  exact ⟨retI HV.out, HB1.out⟩
theorem rone_100_b (jt jf k p n ev : Int) (hyp : 0 ≤ k ∧ k ≤ 4294967295 ∧ 0 ≤ p ∧ p < n ∧ n ≤ 9223372036854775807) (w : World) (hr : right 100 jt jf k = true) (hq : k ≤ 31) (hv : ev = 0) : Calls Tryz.prog 72 #[insV 100 jt jf k, .int .i64 p, .int .i64 n] w fun e w' => e = .returned (.int .i64 ev) ∧ Below w.heap.size w w' := by
  obtain ⟨hk, hk', h0, h1, h2⟩ := hyp
  have HV := Lib.hid hv
  clear hv
  have hb := ba (insB 100 jt jf k) (Below.refl w.heap.size w)
  have hH : (w.alloc (insB 100 jt jf k)).heap[w.heap.size]? = some (insB 100 jt jf k) := heap_alloc_new _ _
  go_enter Tryz.func72, Tryz.ntmps72
  go_wp2_with fail
  refine (refRight_any 100 jt jf k _).mono ?_
  rintro e w1 ⟨rfl, hB⟩
  have hH1 : w1.heap[w.heap.size]? = some (insB 100 jt jf k) := (hB.block _ (lt_of_block hH)).trans hH
  have hsz := lt_of_block hH1
  have HB1 := Lib.hid (hb.trans (hB.mono hb.size))
  have c0 : w1.cell? ⟨w.heap.size, 0, none⟩ = some (.int .i64 100) := cell_in hH1 0
  have c1 : w1.cell? ⟨w.heap.size, 1, none⟩ = some (.int .i64 jt) := cell_in hH1 1
  have c2 : w1.cell? ⟨w.heap.size, 2, none⟩ = some (.int .i64 jf) := cell_in hH1 2
  have c3 : w1.cell? ⟨w.heap.size, 3, none⟩ = some (.int .u32 k) := cell_in hH1 3
  have HX := Lib.hid hH1
  clear hH1 hB hb hH
  rw [hr]
  go_wp2_with fail
  refine (refBranch_any 100 jt jf k _).mono ?_
  rintro e w2 ⟨rfl, hB2⟩
  have HB2 := Lib.hid (HB1.out.trans (hB2.mono HB1.out.size))
  have hH2 : w2.heap[w.heap.size]? = some (insB 100 jt jf k) := (hB2.block _ hsz).trans HX.out
  have hsz2 := lt_of_block hH2
  have d1 : w2.cell? ⟨w.heap.size, 1, none⟩ = some (.int .i64 jt) := cell_in hH2 1
  have d2 : w2.cell? ⟨w.heap.size, 2, none⟩ = some (.int .i64 jf) := cell_in hH2 2
  rw [show isBranch 100 = false by decide]
  clear c0 c1 c2 c3 hB2 hH2
  go_wp2_with fail
  go_ret
  exact ⟨retI HV.out, HB2.out⟩
theorem rone_116_a (jt jf k p n ev : Int) (hyp : 0 ≤ k ∧ k ≤ 4294967295 ∧ 0 ≤ p ∧ p < n ∧ n ≤ 9223372036854775807) (w : World) (hr : right 116 jt jf k = true) (hq : 31 < k) (hv : ev = 1) : Calls Tryz.prog 72 #[insV 116 jt jf k, .int .i64 p, .int .i64 n] w fun e w' => e = .returned (.int .i64 ev) ∧ Below w.heap.size w w' := by
  obtain ⟨hk, hk', h0, h1, h2⟩ := hyp
  have HV := Lib.hid hv
  clear hv
  have hb := ba (insB 116 jt jf k) (Below.refl w.heap.size w)
  have hH : (w.alloc (insB 116 jt jf k)).heap[w.heap.size]? = some (insB 116 jt jf k) := heap_alloc_new _ _
  go_enter Tryz.func72, Tryz.ntmps72
  go_wp2_with fail
  refine (refRight_any 116 jt jf k _).mono ?_
  rintro e w1 ⟨rfl, hB⟩
  have hH1 : w1.heap[w.heap.size]? = some (insB 116 jt jf k) := (hB.block _ (lt_of_block hH)).trans hH
  have hsz := lt_of_block hH1
  have HB1 := Lib.hid (hb.trans (hB.mono hb.size))
  have c0 : w1.cell? ⟨w.heap.size, 0, none⟩ = some (.int .i64 116) := cell_in hH1 0
  have c1 : w1.cell? ⟨w.heap.size, 1, none⟩ = some (.int .i64 jt) := cell_in hH1 1
  have c2 : w1.cell? ⟨w.heap.size, 2, none⟩ = some (.int .i64 jf) := cell_in hH1 2
  have c3 : w1.cell? ⟨w.heap.size, 3, none⟩ = some (.int .u32 k) := cell_in hH1 3
  have HX := Lib.hid hH1
  clear hH1 hB hb hH
  rw [hr]
  go_wp2_with fail
  go_ret
  exact ⟨retI HV.out, HB1.out⟩
theorem rone_116_b (jt jf k p n ev : Int) (hyp : 0 ≤ k ∧ k ≤ 4294967295 ∧ 0 ≤ p ∧ p < n ∧ n ≤ 9223372036854775807) (w : World) (hr : right 116 jt jf k = true) (hq : k ≤ 31) (hv : ev = 0) : Calls Tryz.prog 72 #[insV 116 jt jf k, .int .i64 p, .int .i64 n] w fun e w' => e = .returned (.int .i64 ev) ∧ Below w.heap.size w w' := by
  obtain ⟨hk, hk', h0, h1, h2⟩ := hyp
  have HV := Lib.hid hv
  clear hv
  have hb := ba (insB 116 jt jf k) (Below.refl w.heap.size w)
  have hH : (w.alloc (insB 116 jt jf k)).heap[w.heap.size]? = some (insB 116 jt jf k) := heap_alloc_new _ _
  go_enter Tryz.func72, Tryz.ntmps72
  go_wp2_with fail
  refine (refRight_any 116 jt jf k _).mono ?_
  rintro e w1 ⟨rfl, hB⟩
  have hH1 : w1.heap[w.heap.size]? = some (insB 116 jt jf k) := (hB.block _ (lt_of_block hH)).trans hH
  have hsz := lt_of_block hH1
  have HB1 := Lib.hid (hb.trans (hB.mono hb.size))
  have c0 : w1.cell? ⟨w.heap.size, 0, none⟩ = some (.int .i64 116) := cell_in hH1 0
  have c1 : w1.cell? ⟨w.heap.size, 1, none⟩ = some (.int .i64 jt) := cell_in hH1 1
  have c2 : w1.cell? ⟨w.heap.size, 2, none⟩ = some (.int .i64 jf) := cell_in hH1 2
  have c3 : w1.cell? ⟨w.heap.size, 3, none⟩ = some (.int .u32 k) := cell_in hH1 3
  have HX := Lib.hid hH1
  clear hH1 hB hb hH
  rw [hr]
  go_wp2_with fail
  refine (refBranch_any 116 jt jf k _).mono ?_
  rintro e w2 ⟨rfl, hB2⟩
  have HB2 := Lib.hid (HB1.out.trans (hB2.mono HB1.out.size))
  have hH2 : w2.heap[w.heap.size]? = some (insB 116 jt jf k) := (hB2.block _ hsz).trans HX.out
  have hsz2 := lt_of_block hH2
  have d1 : w2.cell? ⟨w.heap.size, 1, none⟩ = some (.int .i64 jt) := cell_in hH2 1
  have d2 : w2.cell? ⟨w.heap.size, 2, none⟩ = some (.int .i64 jf) := cell_in hH2 2
  rw [show isBranch 116 = false by decide]
  clear c0 c1 c2 c3 hB2 hH2
  go_wp2_with fail
  go_ret
  exact ⟨retI HV.out, HB2.out⟩
theorem rone_5_a (jt jf k p n ev : Int) (hyp : 0 ≤ k ∧ k ≤ 4294967295 ∧ 0 ≤ p ∧ p < n ∧ n ≤ 9223372036854775807) (w : World) (hr : right 5 jt jf k = true) (hq : n - 1 - p ≤ k) (hv : ev = 4) : Calls Tryz.prog 72 #[insV 5 jt jf k, .int .i64 p, .int .i64 n] w fun e w' => e = .returned (.int .i64 ev) ∧ Below w.heap.size w w' := by
  obtain ⟨hk, hk', h0, h1, h2⟩ := hyp
  have HV := Lib.hid hv
  clear hv
  have hb := ba (insB 5 jt jf k) (Below.refl w.heap.size w)
  have hH : (w.alloc (insB 5 jt jf k)).heap[w.heap.size]? = some (insB 5 jt jf k) := heap_alloc_new _ _
  go_enter Tryz.func72, Tryz.ntmps72
  go_wp2_with fail
  refine (refRight_any 5 jt jf k _).mono ?_
  rintro e w1 ⟨rfl, hB⟩
  have hH1 : w1.heap[w.heap.size]? = some (insB 5 jt jf k) := (hB.block _ (lt_of_block hH)).trans hH
  have hsz := lt_of_block hH1
  have HB1 := Lib.hid (hb.trans (hB.mono hb.size))
  have c0 : w1.cell? ⟨w.heap.size, 0, none⟩ = some (.int .i64 5) := cell_in hH1 0
  have c1 : w1.cell? ⟨w.heap.size, 1, none⟩ = some (.int .i64 jt) := cell_in hH1 1
  have c2 : w1.cell? ⟨w.heap.size, 2, none⟩ = some (.int .i64 jf) := cell_in hH1 2
  have c3 : w1.cell? ⟨w.heap.size, 3, none⟩ = some (.int .u32 k) := cell_in hH1 3
  have HX := Lib.hid hH1
  clear hH1 hB hb hH
  rw [hr]
  have hu1 : IntKind.u64.wrap k = k := by rw [IntKind.wrap_u64]; omega
  have hu2 : IntKind.u64.wrap (n - 1 - p) = n - 1 - p := by rw [IntKind.wrap_u64]; omega
  go_wp2_with fail
  go_ret
  exact ⟨retI HV.out, HB1.out⟩
theorem rone_5_b (jt jf k p n ev : Int) (hyp : 0 ≤ k ∧ k ≤ 4294967295 ∧ 0 ≤ p ∧ p < n ∧ n ≤ 9223372036854775807) (w : World) (hr : right 5 jt jf k = true) (hq : k < n - 1 - p) (hv : ev = 0) : Calls Tryz.prog 72 #[insV 5 jt jf k, .int .i64 p, .int .i64 n] w fun e w' => e = .returned (.int .i64 ev) ∧ Below w.heap.size w w' := by
  obtain ⟨hk, hk', h0, h1, h2⟩ := hyp
  have HV := Lib.hid hv
  clear hv
  have hb := ba (insB 5 jt jf k) (Below.refl w.heap.size w)
  have hH : (w.alloc (insB 5 jt jf k)).heap[w.heap.size]? = some (insB 5 jt jf k) := heap_alloc_new _ _
  go_enter Tryz.func72, Tryz.ntmps72
  go_wp2_with fail
  refine (refRight_any 5 jt jf k _).mono ?_
  rintro e w1 ⟨rfl, hB⟩
  have hH1 : w1.heap[w.heap.size]? = some (insB 5 jt jf k) := (hB.block _ (lt_of_block hH)).trans hH
  have hsz := lt_of_block hH1
  have HB1 := Lib.hid (hb.trans (hB.mono hb.size))
  have c0 : w1.cell? ⟨w.heap.size, 0, none⟩ = some (.int .i64 5) := cell_in hH1 0
  have c1 : w1.cell? ⟨w.heap.size, 1, none⟩ = some (.int .i64 jt) := cell_in hH1 1
  have c2 : w1.cell? ⟨w.heap.size, 2, none⟩ = some (.int .i64 jf) := cell_in hH1 2
  have c3 : w1.cell? ⟨w.heap.size, 3, none⟩ = some (.int .u32 k) := cell_in hH1 3
  have HX := Lib.hid hH1
  clear hH1 hB hb hH
  rw [hr]
  have hu1 : IntKind.u64.wrap k = k := by rw [IntKind.wrap_u64]; omega
  have hu2 : IntKind.u64.wrap (n - 1 - p) = n - 1 - p := by rw [IntKind.wrap_u64]; omega
  go_wp2_with fail
  refine (refBranch_any 5 jt jf k _).mono ?_
  rintro e w2 ⟨rfl, hB2⟩
  have HB2 := Lib.hid (HB1.out.trans (hB2.mono HB1.out.size))
  have hH2 : w2.heap[w.heap.size]? = some (insB 5 jt jf k) := (hB2.block _ hsz).trans HX.out
  have hsz2 := lt_of_block hH2
  have d1 : w2.cell? ⟨w.heap.size, 1, none⟩ = some (.int .i64 jt) := cell_in hH2 1
  have d2 : w2.cell? ⟨w.heap.size, 2, none⟩ = some (.int .i64 jf) := cell_in hH2 2
  rw [show isBranch 5 = false by decide]
  clear c0 c1 c2 c3 hB2 hH2
  go_wp2_with fail
  go_ret
  exact ⟨retI HV.out, HB2.out⟩
theorem rone_no (jt jf k p n ev : Int) (hyp : 0 ≤ k ∧ k ≤ 4294967295 ∧ 0 ≤ p ∧ p < n ∧ n ≤ 9223372036854775807) (w : World) (op : Int) (hr : right op jt jf k = true) (f32 : (op == 32) = false) (f2 : (op == 2) = false) (f3 : (op == 3) = false) (f96 : (op == 96) = false) (f97 : (op == 97) = false) (f52 : (op == 52) = false) (f100 : (op == 100) = false) (f116 : (op == 116) = false) (f5 : (op == 5) = false) (hb' : isBranch op = false) (hv : ev = 0) : Calls Tryz.prog 72 #[insV op jt jf k, .int .i64 p, .int .i64 n] w fun e w' => e = .returned (.int .i64 ev) ∧ Below w.heap.size w w' := by
  obtain ⟨hk, hk', h0, h1, h2⟩ := hyp
  have HV := Lib.hid hv
  clear hv
  have hb := ba (insB op jt jf k) (Below.refl w.heap.size w)
  have hH : (w.alloc (insB op jt jf k)).heap[w.heap.size]? = some (insB op jt jf k) := heap_alloc_new _ _
  go_enter Tryz.func72, Tryz.ntmps72
  go_wp2_with fail
  refine (refRight_any op jt jf k _).mono ?_
  rintro e w1 ⟨rfl, hB⟩
  have hH1 : w1.heap[w.heap.size]? = some (insB op jt jf k) := (hB.block _ (lt_of_block hH)).trans hH
  have hsz := lt_of_block hH1
  have HB1 := Lib.hid (hb.trans (hB.mono hb.size))
  have c0 : w1.cell? ⟨w.heap.size, 0, none⟩ = some (.int .i64 op) := cell_in hH1 0
  have c1 : w1.cell? ⟨w.heap.size, 1, none⟩ = some (.int .i64 jt) := cell_in hH1 1
  have c2 : w1.cell? ⟨w.heap.size, 2, none⟩ = some (.int .i64 jf) := cell_in hH1 2
  have c3 : w1.cell? ⟨w.heap.size, 3, none⟩ = some (.int .u32 k) := cell_in hH1 3
  have HX := Lib.hid hH1
  clear hH1 hB hb hH
  rw [hr]
  go_wp2_with fail
  refine (refBranch_any op jt jf k _).mono ?_
  rintro e w2 ⟨rfl, hB2⟩
  have HB2 := Lib.hid (HB1.out.trans (hB2.mono HB1.out.size))
  have hH2 : w2.heap[w.heap.size]? = some (insB op jt jf k) := (hB2.block _ hsz).trans HX.out
  have hsz2 := lt_of_block hH2
  have d1 : w2.cell? ⟨w.heap.size, 1, none⟩ = some (.int .i64 jt) := cell_in hH2 1
  have d2 : w2.cell? ⟨w.heap.size, 2, none⟩ = some (.int .i64 jf) := cell_in hH2 2
  rw [hb']
  clear c0 c1 c2 c3 hB2 hH2
  go_wp2_with fail
  go_ret
  exact ⟨retI HV.out, HB2.out⟩
theorem rone_br_a (jt jf k p n ev : Int) (hyp : 0 ≤ k ∧ k ≤ 4294967295 ∧ 0 ≤ p ∧ p < n ∧ n ≤ 9223372036854775807) (w : World) (op : Int) (hr : right op jt jf k = true) (f32 : (op == 32) = false) (f2 : (op == 2) = false) (f3 : (op == 3) = false) (f96 : (op == 96) = false) (f97 : (op == 97) = false) (f52 : (op == 52) = false) (f100 : (op == 100) = false) (f116 : (op == 116) = false) (f5 : (op == 5) = false) (hb' : isBranch op = true) (hq : n - 1 - p ≤ jt) (hv : ev = 4) : Calls Tryz.prog 72 #[insV op jt jf k, .int .i64 p, .int .i64 n] w fun e w' => e = .returned (.int .i64 ev) ∧ Below w.heap.size w w' := by
  obtain ⟨hk, hk', h0, h1, h2⟩ := hyp
  have HV := Lib.hid hv
  clear hv
  have hb := ba (insB op jt jf k) (Below.refl w.heap.size w)
  have hH : (w.alloc (insB op jt jf k)).heap[w.heap.size]? = some (insB op jt jf k) := heap_alloc_new _ _
  go_enter Tryz.func72, Tryz.ntmps72
  go_wp2_with fail
  refine (refRight_any op jt jf k _).mono ?_
  rintro e w1 ⟨rfl, hB⟩
  have hH1 : w1.heap[w.heap.size]? = some (insB op jt jf k) := (hB.block _ (lt_of_block hH)).trans hH
  have hsz := lt_of_block hH1
  have HB1 := Lib.hid (hb.trans (hB.mono hb.size))
  have c0 : w1.cell? ⟨w.heap.size, 0, none⟩ = some (.int .i64 op) := cell_in hH1 0
  have c1 : w1.cell? ⟨w.heap.size, 1, none⟩ = some (.int .i64 jt) := cell_in hH1 1
  have c2 : w1.cell? ⟨w.heap.size, 2, none⟩ = some (.int .i64 jf) := cell_in hH1 2
  have c3 : w1.cell? ⟨w.heap.size, 3, none⟩ = some (.int .u32 k) := cell_in hH1 3
  have HX := Lib.hid hH1
  clear hH1 hB hb hH
  rw [hr]
  go_wp2_with fail
  refine (refBranch_any op jt jf k _).mono ?_
  rintro e w2 ⟨rfl, hB2⟩
  have HB2 := Lib.hid (HB1.out.trans (hB2.mono HB1.out.size))
  have hH2 : w2.heap[w.heap.size]? = some (insB op jt jf k) := (hB2.block _ hsz).trans HX.out
  have hsz2 := lt_of_block hH2
  have d1 : w2.cell? ⟨w.heap.size, 1, none⟩ = some (.int .i64 jt) := cell_in hH2 1
  have d2 : w2.cell? ⟨w.heap.size, 2, none⟩ = some (.int .i64 jf) := cell_in hH2 2
  rw [hb']
  clear c0 c1 c2 c3 hB2 hH2
  go_wp2_with fail
  go_ret
  exact ⟨retI HV.out, HB2.out⟩
theorem rone_br_b (jt jf k p n ev : Int) (hyp : 0 ≤ k ∧ k ≤ 4294967295 ∧ 0 ≤ p ∧ p < n ∧ n ≤ 9223372036854775807) (w : World) (op : Int) (hr : right op jt jf k = true) (f32 : (op == 32) = false) (f2 : (op == 2) = false) (f3 : (op == 3) = false) (f96 : (op == 96) = false) (f97 : (op == 97) = false) (f52 : (op == 52) = false) (f100 : (op == 100) = false) (f116 : (op == 116) = false) (f5 : (op == 5) = false) (hb' : isBranch op = true) (hq : jt < n - 1 - p) (hq' : n - 1 - p ≤ jf) (hv : ev = 4) : Calls Tryz.prog 72 #[insV op jt jf k, .int .i64 p, .int .i64 n] w fun e w' => e = .returned (.int .i64 ev) ∧ Below w.heap.size w w' := by
  obtain ⟨hk, hk', h0, h1, h2⟩ := hyp
  have HV := Lib.hid hv
  clear hv
  have hb := ba (insB op jt jf k) (Below.refl w.heap.size w)
  have hH : (w.alloc (insB op jt jf k)).heap[w.heap.size]? = some (insB op jt jf k) := heap_alloc_new _ _
  go_enter Tryz.func72, Tryz.ntmps72
  go_wp2_with fail
  refine (refRight_any op jt jf k _).mono ?_
  rintro e w1 ⟨rfl, hB⟩
  have hH1 : w1.heap[w.heap.size]? = some (insB op jt jf k) := (hB.block _ (lt_of_block hH)).trans hH
  have hsz := lt_of_block hH1
  have HB1 := Lib.hid (hb.trans (hB.mono hb.size))
  have c0 : w1.cell? ⟨w.heap.size, 0, none⟩ = some (.int .i64 op) := cell_in hH1 0
  have c1 : w1.cell? ⟨w.heap.size, 1, none⟩ = some (.int .i64 jt) := cell_in hH1 1
  have c2 : w1.cell? ⟨w.heap.size, 2, none⟩ = some (.int .i64 jf) := cell_in hH1 2
  have c3 : w1.cell? ⟨w.heap.size, 3, none⟩ = some (.int .u32 k) := cell_in hH1 3
  have HX := Lib.hid hH1
  clear hH1 hB hb hH
  rw [hr]
  go_wp2_with fail
  refine (refBranch_any op jt jf k _).mono ?_
  rintro e w2 ⟨rfl, hB2⟩
  have HB2 := Lib.hid (HB1.out.trans (hB2.mono HB1.out.size))
  have hH2 : w2.heap[w.heap.size]? = some (insB op jt jf k) := (hB2.block _ hsz).trans HX.out
  have hsz2 := lt_of_block hH2
  have d1 : w2.cell? ⟨w.heap.size, 1, none⟩ = some (.int .i64 jt) := cell_in hH2 1
  have d2 : w2.cell? ⟨w.heap.size, 2, none⟩ = some (.int .i64 jf) := cell_in hH2 2
  rw [hb']
  clear c0 c1 c2 c3 hB2 hH2
  go_wp2_with fail
  go_ret
  exact ⟨retI HV.out, HB2.out⟩
theorem rone_br_c (jt jf k p n ev : Int) (hyp : 0 ≤ k ∧ k ≤ 4294967295 ∧ 0 ≤ p ∧ p < n ∧ n ≤ 9223372036854775807) (w : World) (op : Int) (hr : right op jt jf k = true) (f32 : (op == 32) = false) (f2 : (op == 2) = false) (f3 : (op == 3) = false) (f96 : (op == 96) = false) (f97 : (op == 97) = false) (f52 : (op == 52) = false) (f100 : (op == 100) = false) (f116 : (op == 116) = false) (f5 : (op == 5) = false) (hb' : isBranch op = true) (hq : jt < n - 1 - p) (hq' : jf < n - 1 - p) (hv : ev = 0) : Calls Tryz.prog 72 #[insV op jt jf k, .int .i64 p, .int .i64 n] w fun e w' => e = .returned (.int .i64 ev) ∧ Below w.heap.size w w' := by
  obtain ⟨hk, hk', h0, h1, h2⟩ := hyp
  have HV := Lib.hid hv
  clear hv
  have hb := ba (insB op jt jf k) (Below.refl w.heap.size w)
  have hH : (w.alloc (insB op jt jf k)).heap[w.heap.size]? = some (insB op jt jf k) := heap_alloc_new _ _
  go_enter Tryz.func72, Tryz.ntmps72
  go_wp2_with fail
  refine (refRight_any op jt jf k _).mono ?_
  rintro e w1 ⟨rfl, hB⟩
  have hH1 : w1.heap[w.heap.size]? = some (insB op jt jf k) := (hB.block _ (lt_of_block hH)).trans hH
  have hsz := lt_of_block hH1
  have HB1 := Lib.hid (hb.trans (hB.mono hb.size))
  have c0 : w1.cell? ⟨w.heap.size, 0, none⟩ = some (.int .i64 op) := cell_in hH1 0
  have c1 : w1.cell? ⟨w.heap.size, 1, none⟩ = some (.int .i64 jt) := cell_in hH1 1
  have c2 : w1.cell? ⟨w.heap.size, 2, none⟩ = some (.int .i64 jf) := cell_in hH1 2
  have c3 : w1.cell? ⟨w.heap.size, 3, none⟩ = some (.int .u32 k) := cell_in hH1 3
  have HX := Lib.hid hH1
  clear hH1 hB hb hH
  rw [hr]
  go_wp2_with fail
  refine (refBranch_any op jt jf k _).mono ?_
  rintro e w2 ⟨rfl, hB2⟩
  have HB2 := Lib.hid (HB1.out.trans (hB2.mono HB1.out.size))
  have hH2 : w2.heap[w.heap.size]? = some (insB op jt jf k) := (hB2.block _ hsz).trans HX.out
  have hsz2 := lt_of_block hH2
  have d1 : w2.cell? ⟨w.heap.size, 1, none⟩ = some (.int .i64 jt) := cell_in hH2 1
  have d2 : w2.cell? ⟨w.heap.size, 2, none⟩ = some (.int .i64 jf) := cell_in hH2 2
  rw [hb']
  clear c0 c1 c2 c3 hB2 hH2
  go_wp2_with fail
  go_ret
  exact ⟨retI HV.out, HB2.out⟩
/-- The document's error of an instruction at a place of so many. -/
theorem rone_any (x : X4) (hx : x.ok) (p n : Int) (h0 : 0 ≤ p) (h1 : p < n) (h2 : n ≤ 9223372036854775807) (w : World) :
    Calls Tryz.prog 72 #[x.val, .int .i64 p, .int .i64 n] w fun e w' => e = .returned (.int .i64 (oneE x (n - 1 - p))) ∧ Below w.heap.size w w' := by
  have HE := one_kind x (n - 1 - p) hx.1
  generalize oneE x (n - 1 - p) = ev at HE ⊢
  obtain ⟨op, jt, jf, k⟩ := x
  obtain ⟨hk, hk'⟩ := hx
  simp only [X4.right] at hk hk' HE
  have hyp : 0 ≤ k ∧ k ≤ 4294967295 ∧ 0 ≤ p ∧ p < n ∧ n ≤ 9223372036854775807 := ⟨hk, hk', h0, h1, h2⟩
  cases hr : right op jt jf k
  · exact rone_bad jt jf k p n ev hyp w op hr (HE.trans (by rw [hr]; rfl))
  rw [hr] at HE
  simp only [Bool.true_eq_false, if_false] at HE
  by_cases e1 : op = 32
  · subst e1
    have HE : ev = if (k.tmod 4 == 0 && decide (k < 64)) = true then 0 else 6 := HE
    rw [Int.tmod_eq_emod_of_nonneg hk] at HE
    by_cases a : k % 4 = 0
    · by_cases b : k < 64
      · exact rone_32_c jt jf k p n ev hyp w hr a (by omega) (HE.trans (by simp [a, b]))
      · exact rone_32_b jt jf k p n ev hyp w hr a (by omega) (HE.trans (by simp [a, b]))
    · exact rone_32_a jt jf k p n ev hyp w hr a (HE.trans (by simp [a]))
  by_cases e2 : op = 2
  · subst e2
    have HE : ev = if decide (k < 16) = true then 0 else 7 := HE
    by_cases b : k < 16
    · exact rone_2_b jt jf k p n ev hyp w hr (by omega) (HE.trans (by simp [b]))
    · exact rone_2_a jt jf k p n ev hyp w hr (by omega) (HE.trans (by simp [b]))
  by_cases e3 : op = 3
  · subst e3
    have HE : ev = if decide (k < 16) = true then 0 else 7 := HE
    by_cases b : k < 16
    · exact rone_3_b jt jf k p n ev hyp w hr (by omega) (HE.trans (by simp [b]))
    · exact rone_3_a jt jf k p n ev hyp w hr (by omega) (HE.trans (by simp [b]))
  by_cases e96 : op = 96
  · subst e96
    have HE : ev = if decide (k < 16) = true then 0 else 7 := HE
    by_cases b : k < 16
    · exact rone_96_b jt jf k p n ev hyp w hr (by omega) (HE.trans (by simp [b]))
    · exact rone_96_a jt jf k p n ev hyp w hr (by omega) (HE.trans (by simp [b]))
  by_cases e97 : op = 97
  · subst e97
    have HE : ev = if decide (k < 16) = true then 0 else 7 := HE
    by_cases b : k < 16
    · exact rone_97_b jt jf k p n ev hyp w hr (by omega) (HE.trans (by simp [b]))
    · exact rone_97_a jt jf k p n ev hyp w hr (by omega) (HE.trans (by simp [b]))
  by_cases e52 : op = 52
  · subst e52
    have HE : ev = if (k != 0) = true then 0 else 8 := HE
    cases b : (k == 0)
    · exact rone_52_b jt jf k p n ev hyp w hr b (HE.trans (by rw [bne, b]; rfl))
    · exact rone_52_a jt jf k p n ev hyp w hr b (HE.trans (by rw [bne, b]; rfl))
  by_cases e100 : op = 100
  · subst e100
    have HE : ev = if decide (k < 32) = true then 0 else 1 := HE
    by_cases b : k < 32
    · exact rone_100_b jt jf k p n ev hyp w hr (by omega) (HE.trans (by simp [b]))
    · exact rone_100_a jt jf k p n ev hyp w hr (by omega) (HE.trans (by simp [b]))
  by_cases e116 : op = 116
  · subst e116
    have HE : ev = if decide (k < 32) = true then 0 else 1 := HE
    by_cases b : k < 32
    · exact rone_116_b jt jf k p n ev hyp w hr (by omega) (HE.trans (by simp [b]))
    · exact rone_116_a jt jf k p n ev hyp w hr (by omega) (HE.trans (by simp [b]))
  by_cases e5 : op = 5
  · subst e5
    have HE : ev = if decide (k < n - 1 - p) = true then 0 else 4 := HE
    by_cases b : k < n - 1 - p
    · exact rone_5_b jt jf k p n ev hyp w hr (by omega) (HE.trans (by simp [b]))
    · exact rone_5_a jt jf k p n ev hyp w hr (by omega) (HE.trans (by simp [b]))
  have hf : ∀ c : Int, ¬ op = c → (op == c) = false := fun c h => by simpa using h
  cases hb : isBranch op
  · have h6 : ¬ kindOf op = 6 := by rw [branch_kind] at hb; simpa using hb
    have h0' : kindOf op = 0 := by
      unfold kindOf at h6 ⊢
      rw [if_neg e1, if_neg (by omega), if_neg e52, if_neg (by omega), if_neg e5] at h6 ⊢
      by_cases h : op = 21 ∨ op = 37 ∨ op = 53 ∨ op = 69 ∨ op = 29 ∨ op = 45 ∨ op = 61 ∨ op = 77
      · rw [if_pos h] at h6; exact absurd rfl h6
      · rw [if_neg h]
    exact rone_no jt jf k p n ev hyp w op hr (hf _ e1) (hf _ e2) (hf _ e3) (hf _ e96) (hf _ e97) (hf _ e52) (hf _ e100) (hf _ e116) (hf _ e5) hb (HE.trans (by rw [h0']; rfl))
  · have h6 : kindOf op = 6 := by rw [branch_kind] at hb; simpa using hb
    rw [h6] at HE
    have HE : ev = if (decide (jt < n - 1 - p) && decide (jf < n - 1 - p)) = true then 0 else 4 := HE
    by_cases a : jt < n - 1 - p
    · by_cases b : jf < n - 1 - p
      · exact rone_br_c jt jf k p n ev hyp w op hr (hf _ e1) (hf _ e2) (hf _ e3) (hf _ e96) (hf _ e97) (hf _ e52) (hf _ e100) (hf _ e116) (hf _ e5) hb a b (HE.trans (by simp [a, b]))
      · exact rone_br_b jt jf k p n ev hyp w op hr (hf _ e1) (hf _ e2) (hf _ e3) (hf _ e96) (hf _ e97) (hf _ e52) (hf _ e100) (hf _ e116) (hf _ e5) hb a (by omega) (HE.trans (by simp [a, b]))
    · exact rone_br_a jt jf k p n ev hyp w op hr (hf _ e1) (hf _ e2) (hf _ e3) (hf _ e96) (hf _ e97) (hf _ e52) (hf _ e100) (hf _ e116) (hf _ e5) hb (by omega) (HE.trans (by simp [a]))
end Go.Proofs.YtbekkdhlfkongaaGreatDoor
/-
  What the document's Check, and Sound, of filters answer, for any filter that lies in a world.
-/
namespace Go.Proofs.YtbekkdhlfkongaaGreatDoor
open Go.ChangeShapes Go.WideShapes Go.ChangeAt Go.RowKit
set_option maxRecDepth 20000

set_option maxHeartbeats 1000000 in
theorem rcheck5_any (v : Value) (l : List X4) (w : World) (hF : FAt w v l) (hok : ∀ x ∈ l, x.ok) :
    Calls Tryz.prog 39 #[v] w (CheckEnd l w) := by
  obtain ⟨ao, cap, rfl, hF⟩ := hF
  by_cases h0 : l.length = 0
  · have HC : Hid (CheckIs l 0 5) := Lib.hid (.inl ⟨h0, rfl, rfl⟩)
    go_enter Tryz.func39, Tryz.ntmps39
    go_wp2_with fail
    go_ret2
    exact checkEnd HC.out (Below.refl _ _)
  by_cases hbig : 4096 < l.length
  · have HC : Hid (CheckIs l 0 3) := Lib.hid (.inr (.inl ⟨hbig, rfl, rfl⟩))
    go_enter Tryz.func39, Tryz.ntmps39
    go_wp2_with fail
    go_ret2
    exact checkEnd HC.out (Below.refl _ _)
  · have HF := Lib.hid hF
    have HO := Lib.hid hok
    have hlen : l.length ≤ 4096 := by omega
    have hpos : 0 < l.length := by omega
    have hz0 : ((l.length : Int) == 0) = false := beq_eq_false_iff_ne.2 (by omega)
    clear hF hok
    go_enter Tryz.func39, Tryz.ntmps39
    go_wp2_with fail
    go_loopw [4] (fun i wr => ∃ n : Nat, n ≤ l.length ∧ i = .int .i64 n ∧ Below w.heap.size w wr ∧ goodTo l n) (fun i _ => l.length - (intOf i).toNat)
    case atStart => exact ⟨0, by omega, rfl, Below.refl _ _, fun i hi => by omega⟩
    case round =>
      obtain ⟨n, hn, rfl, hB, hall⟩ := hrel
      have HB := Lib.hid hB
      have HA := Lib.hid hall
      by_cases hlt : n < l.length
      · rcases HF.out with h0 | ⟨b, off, rfl, hb, hc⟩
        · rw [h0] at hlt; simp at hlt
        obtain ⟨c0, c1, c2, c3⟩ := hc n hlt
        have d0 := (hB.cell (p := ⟨b, _, none⟩) hb).trans c0
        have d1 := (hB.cell (p := ⟨b, _, none⟩) hb).trans c1
        have d2 := (hB.cell (p := ⟨b, _, none⟩) hb).trans c2
        have d3 := (hB.cell (p := ⟨b, _, none⟩) hb).trans c3
        have HO1 := Lib.hid (HO.out _ (List.getElem_mem hlt))
        have HE := Lib.hid (badAt_at hlt)
        clear hc c0 c1 c2 c3 hB hall HF
        go_wp2_with fail
        refine (rone_any l[n] HO1.out (n : Int) (l.length : Int) (by omega) (by omega) (by omega) _).mono ?_
        rintro e w2 ⟨rfl, hb1⟩
        have HB1 := Lib.hid (HB.out.trans (hb1.mono HB.out.size))
        clear hb1 d0 d1 d2 d3
        rw [← HE.out]
        cases hz : (badAt l n == 0)
        · have HC : Hid (CheckIs l n (badAt l n)) := Lib.hid (.inr (.inr (.inl ⟨hpos, hlen, n, hlt, HA.out, by simpa using hz, rfl, rfl⟩)))
          go_wp2_with fail
          go_ret2
          exact checkEnd HC.out HB1.out
        · have HN := Lib.hid (goodTo_succ HA.out (by simpa using hz))
          go_wp2_with fail
          go_roundw
          case rel => exact ⟨n + 1, by omega, by go_num, HB1.out, HN.out⟩
          case measure => simp [intOf]; omega
      · have hnl : n = l.length := by omega
        subst hnl
        rcases HF.out with h0 | ⟨b, off, rfl, hb, hc⟩
        · rw [h0] at hpos; simp at hpos
        have hll : l.length - 1 < l.length := by omega
        have HL := Lib.hid (getD_at hll)
        obtain ⟨c0, c1, c2, c3⟩ := hc (l.length - 1) hll
        have d0 := (hB.cell (p := ⟨b, _, none⟩) hb).trans c0
        have d1 := (hB.cell (p := ⟨b, _, none⟩) hb).trans c1
        have d2 := (hB.cell (p := ⟨b, _, none⟩) hb).trans c2
        have d3 := (hB.cell (p := ⟨b, _, none⟩) hb).trans c3
        generalize l[l.length - 1] = x at d0 d1 d2 d3 HL
        clear hc c0 c1 c2 c3 hB hall HF
        go_wp2_with fail
        refine (refEnds_any x.op x.jt x.jf x.k _).mono ?_
        rintro e w2 ⟨rfl, hb1⟩
        have HW2 := Lib.hid (HB.out.trans (hb1.mono HB.out.size))
        have HLX : Hid (endsE (lastX l) = (x.op == 6 || x.op == 22)) := Lib.hid (by unfold lastX; rw [HL.out]; rfl)
        clear hb1 d0 d1 d2 d3
        cases he : (x.op == 6 || x.op == 22)
        · have HC : Hid (CheckIs l ((l.length : Int) - 1) 5) := Lib.hid (.inr (.inr (.inr (.inl ⟨hpos, hlen, HA.out, HLX.out.trans he, rfl, rfl⟩))))
          clear he
          go_wp2_with fail
          go_ret2
          exact checkEnd HC.out HW2.out
        · have HC : Hid (CheckIs l 0 0) := Lib.hid (.inr (.inr (.inr (.inr ⟨hpos, hlen, HA.out, HLX.out.trans he, rfl, rfl⟩))))
          clear he
          go_wp2_with fail
          go_ret2
          exact checkEnd HC.out HW2.out
theorem rsound5_any (v : Value) (l : List X4) (w : World) (hF : FAt w v l) (hok : ∀ x ∈ l, x.ok) :
    Calls Tryz.prog 14 #[v] w fun e w' => e = .returned (.bool (soundB l)) ∧ Below w.heap.size w w' := by
  have HF := Lib.hid hF
  have HO := Lib.hid hok
  clear hF hok
  go_enter Tryz.func14, Tryz.ntmps14
  go_wp2_with fail
  refine (rcheck5_any v l w HF.out HO.out).mono ?_
  rintro e w1 ⟨p, er, hc, rfl, hb1⟩
  have HB1 := Lib.hid hb1
  have HE := Lib.hid (sound_err hc)
  clear hb1 hc
  go_wp2_with fail
  go_ret
  exact ⟨ret1 HE.out, HB1.out⟩
end Go.Proofs.YtbekkdhlfkongaaGreatDoor
/-
  The document's own answers for runs (package hurdleref06): Takes.
-/
namespace Go.Proofs.YtbekkdhlfkongaaGreatDoor
open Go.ChangeShapes Go.WideShapes Go.ChangeAt Go.RowKit
set_option maxRecDepth 20000

theorem and_pos (a b : Nat) (h1 : a ≤ 4294967295) (_h2 : b ≤ 4294967295) : decide (0 < Wd.doV 84 a b) = !(bits .and .u32 (a : Int) (b : Int) == 0) := by
  have h := Wd.doV_bd 84 a b (by omega) (by omega) (by omega)
  have e : Wd.doV 84 a b = bits .and .u32 (a : Int) (b : Int) := rfl
  rw [e] at h ⊢
  generalize bits .and .u32 (a : Int) (b : Int) = z at *
  by_cases hz : z = 0
  · subst hz; rfl
  · have : 0 < z := by omega
    simp [this, hz]
set_option maxHeartbeats 1000000 in
theorem rtakes_o21 (s : St) (jt jf : Int) (k : Nat) (w : World) (hB : isBranch 21 = true) :
    Calls Tryz.prog 49 #[s.val, insV 21 jt jf k] w fun e w' => e = .returned (.bool ((s.a : Int) == (k : Int))) ∧ Below w.heap.size w w' := by
  obtain ⟨W, hW, hG, hX, hb⟩ := box2 w (stB s) (insB 21 jt jf k)
  have HG := Lib.hid hG
  have HX := Lib.hid hX
  have HB := Lib.hid hb
  clear hG hX hb
  go_enter Tryz.func49, Tryz.ntmps49
  go_upto_region 1 with fail
  rw [← hW]
  clear hW
  obtain ⟨c0, c1, c2, c3⟩ := insX HX.out
  go_wp2_with fail
  refine (refBranch_any 21 jt jf k _).mono ?_
  rintro e w1 ⟨rfl, hb1⟩
  rw [hB]
  have HG1 := Lib.hid (kb hb1 HG.out)
  have HX1 := Lib.hid (kb hb1 HX.out)
  have HB1 := Lib.hid (below2 HB.out hb1)
  clear hb1 c0 c1 c2 c3 hB
  obtain ⟨c0, c1, c2, c3⟩ := insX HX1.out
  have f0 := (cell_in HG1.out 0).trans (st_a s)
  go_wp2_with fail
  go_ret
  exact ⟨rfl, HB1.out⟩

set_option maxHeartbeats 1000000 in
theorem rtakes_o37 (s : St) (jt jf : Int) (k : Nat) (w : World) (hB : isBranch 37 = true) :
    Calls Tryz.prog 49 #[s.val, insV 37 jt jf k] w fun e w' => e = .returned (.bool (decide (k < s.a))) ∧ Below w.heap.size w w' := by
  obtain ⟨W, hW, hG, hX, hb⟩ := box2 w (stB s) (insB 37 jt jf k)
  have HG := Lib.hid hG
  have HX := Lib.hid hX
  have HB := Lib.hid hb
  clear hG hX hb
  go_enter Tryz.func49, Tryz.ntmps49
  go_upto_region 1 with fail
  rw [← hW]
  clear hW
  obtain ⟨c0, c1, c2, c3⟩ := insX HX.out
  go_wp2_with fail
  refine (refBranch_any 37 jt jf k _).mono ?_
  rintro e w1 ⟨rfl, hb1⟩
  rw [hB]
  have HG1 := Lib.hid (kb hb1 HG.out)
  have HX1 := Lib.hid (kb hb1 HX.out)
  have HB1 := Lib.hid (below2 HB.out hb1)
  clear hb1 c0 c1 c2 c3 hB
  obtain ⟨c0, c1, c2, c3⟩ := insX HX1.out
  have f0 := (cell_in HG1.out 0).trans (st_a s)
  go_wp2_with fail
  go_ret
  exact ⟨rfl, HB1.out⟩

set_option maxHeartbeats 1000000 in
theorem rtakes_o53 (s : St) (jt jf : Int) (k : Nat) (w : World) (hB : isBranch 53 = true) :
    Calls Tryz.prog 49 #[s.val, insV 53 jt jf k] w fun e w' => e = .returned (.bool (decide (k ≤ s.a))) ∧ Below w.heap.size w w' := by
  obtain ⟨W, hW, hG, hX, hb⟩ := box2 w (stB s) (insB 53 jt jf k)
  have HG := Lib.hid hG
  have HX := Lib.hid hX
  have HB := Lib.hid hb
  clear hG hX hb
  go_enter Tryz.func49, Tryz.ntmps49
  go_upto_region 1 with fail
  rw [← hW]
  clear hW
  obtain ⟨c0, c1, c2, c3⟩ := insX HX.out
  go_wp2_with fail
  refine (refBranch_any 53 jt jf k _).mono ?_
  rintro e w1 ⟨rfl, hb1⟩
  rw [hB]
  have HG1 := Lib.hid (kb hb1 HG.out)
  have HX1 := Lib.hid (kb hb1 HX.out)
  have HB1 := Lib.hid (below2 HB.out hb1)
  clear hb1 c0 c1 c2 c3 hB
  obtain ⟨c0, c1, c2, c3⟩ := insX HX1.out
  have f0 := (cell_in HG1.out 0).trans (st_a s)
  go_wp2_with fail
  go_ret
  exact ⟨rfl, HB1.out⟩

set_option maxHeartbeats 1000000 in
theorem rtakes_o69 (s : St) (jt jf : Int) (k : Nat) (w : World) (h1 : s.a ≤ 4294967295) (h2 : k ≤ 4294967295) (hB : isBranch 69 = true) :
    Calls Tryz.prog 49 #[s.val, insV 69 jt jf k] w fun e w' => e = .returned (.bool (!(bits .and .u32 (s.a : Int) (k : Int) == 0))) ∧ Below w.heap.size w w' := by
  obtain ⟨W, hW, hG, hX, hb⟩ := box2 w (stB s) (insB 69 jt jf k)
  have HG := Lib.hid hG
  have HX := Lib.hid hX
  have HB := Lib.hid hb
  clear hG hX hb
  go_enter Tryz.func49, Tryz.ntmps49
  go_upto_region 1 with fail
  rw [← hW]
  clear hW
  obtain ⟨c0, c1, c2, c3⟩ := insX HX.out
  go_wp2_with fail
  refine (refBranch_any 69 jt jf k _).mono ?_
  rintro e w1 ⟨rfl, hb1⟩
  rw [hB]
  have HG1 := Lib.hid (kb hb1 HG.out)
  have HX1 := Lib.hid (kb hb1 HX.out)
  have HB1 := Lib.hid (below2 HB.out hb1)
  clear hb1 c0 c1 c2 c3 hB
  obtain ⟨c0, c1, c2, c3⟩ := insX HX1.out
  have f0 := (cell_in HG1.out 0).trans (st_a s)
  go_wp2_with fail
  refine (refDo_any 84 s.a k _ (by omega) (by omega) (by omega) (by omega)).mono ?_
  rintro e w2 ⟨rfl, hb2⟩
  have HB2 := Lib.hid (below2 HB1.out hb2)
  have HE := Lib.hid (and_pos s.a k h1 h2)
  clear hb2 c0 c1 c2 c3 f0
  go_wp2_with fail
  go_ret
  exact ⟨by rw [← HE.out]; rfl, HB2.out⟩

set_option maxHeartbeats 1000000 in
theorem rtakes_o29 (s : St) (jt jf : Int) (k : Nat) (w : World) (hB : isBranch 29 = true) :
    Calls Tryz.prog 49 #[s.val, insV 29 jt jf k] w fun e w' => e = .returned (.bool ((s.a : Int) == (s.x : Int))) ∧ Below w.heap.size w w' := by
  obtain ⟨W, hW, hG, hX, hb⟩ := box2 w (stB s) (insB 29 jt jf k)
  have HG := Lib.hid hG
  have HX := Lib.hid hX
  have HB := Lib.hid hb
  clear hG hX hb
  go_enter Tryz.func49, Tryz.ntmps49
  go_upto_region 1 with fail
  rw [← hW]
  clear hW
  obtain ⟨c0, c1, c2, c3⟩ := insX HX.out
  go_wp2_with fail
  refine (refBranch_any 29 jt jf k _).mono ?_
  rintro e w1 ⟨rfl, hb1⟩
  rw [hB]
  have HG1 := Lib.hid (kb hb1 HG.out)
  have HX1 := Lib.hid (kb hb1 HX.out)
  have HB1 := Lib.hid (below2 HB.out hb1)
  clear hb1 c0 c1 c2 c3 hB
  obtain ⟨c0, c1, c2, c3⟩ := insX HX1.out
  have f0 := (cell_in HG1.out 0).trans (st_a s)
  have f1 := (cell_in HG1.out 1).trans (st_x s)
  go_wp2_with fail
  go_ret
  exact ⟨rfl, HB1.out⟩

set_option maxHeartbeats 1000000 in
theorem rtakes_o45 (s : St) (jt jf : Int) (k : Nat) (w : World) (hB : isBranch 45 = true) :
    Calls Tryz.prog 49 #[s.val, insV 45 jt jf k] w fun e w' => e = .returned (.bool (decide (s.x < s.a))) ∧ Below w.heap.size w w' := by
  obtain ⟨W, hW, hG, hX, hb⟩ := box2 w (stB s) (insB 45 jt jf k)
  have HG := Lib.hid hG
  have HX := Lib.hid hX
  have HB := Lib.hid hb
  clear hG hX hb
  go_enter Tryz.func49, Tryz.ntmps49
  go_upto_region 1 with fail
  rw [← hW]
  clear hW
  obtain ⟨c0, c1, c2, c3⟩ := insX HX.out
  go_wp2_with fail
  refine (refBranch_any 45 jt jf k _).mono ?_
  rintro e w1 ⟨rfl, hb1⟩
  rw [hB]
  have HG1 := Lib.hid (kb hb1 HG.out)
  have HX1 := Lib.hid (kb hb1 HX.out)
  have HB1 := Lib.hid (below2 HB.out hb1)
  clear hb1 c0 c1 c2 c3 hB
  obtain ⟨c0, c1, c2, c3⟩ := insX HX1.out
  have f0 := (cell_in HG1.out 0).trans (st_a s)
  have f1 := (cell_in HG1.out 1).trans (st_x s)
  go_wp2_with fail
  go_ret
  exact ⟨rfl, HB1.out⟩

set_option maxHeartbeats 1000000 in
theorem rtakes_o61 (s : St) (jt jf : Int) (k : Nat) (w : World) (hB : isBranch 61 = true) :
    Calls Tryz.prog 49 #[s.val, insV 61 jt jf k] w fun e w' => e = .returned (.bool (decide (s.x ≤ s.a))) ∧ Below w.heap.size w w' := by
  obtain ⟨W, hW, hG, hX, hb⟩ := box2 w (stB s) (insB 61 jt jf k)
  have HG := Lib.hid hG
  have HX := Lib.hid hX
  have HB := Lib.hid hb
  clear hG hX hb
  go_enter Tryz.func49, Tryz.ntmps49
  go_upto_region 1 with fail
  rw [← hW]
  clear hW
  obtain ⟨c0, c1, c2, c3⟩ := insX HX.out
  go_wp2_with fail
  refine (refBranch_any 61 jt jf k _).mono ?_
  rintro e w1 ⟨rfl, hb1⟩
  rw [hB]
  have HG1 := Lib.hid (kb hb1 HG.out)
  have HX1 := Lib.hid (kb hb1 HX.out)
  have HB1 := Lib.hid (below2 HB.out hb1)
  clear hb1 c0 c1 c2 c3 hB
  obtain ⟨c0, c1, c2, c3⟩ := insX HX1.out
  have f0 := (cell_in HG1.out 0).trans (st_a s)
  have f1 := (cell_in HG1.out 1).trans (st_x s)
  go_wp2_with fail
  go_ret
  exact ⟨rfl, HB1.out⟩

set_option maxHeartbeats 1000000 in
theorem rtakes_o77 (s : St) (jt jf : Int) (k : Nat) (w : World) (h1 : s.a ≤ 4294967295) (h2 : s.x ≤ 4294967295) (hB : isBranch 77 = true) :
    Calls Tryz.prog 49 #[s.val, insV 77 jt jf k] w fun e w' => e = .returned (.bool (!(bits .and .u32 (s.a : Int) (s.x : Int) == 0))) ∧ Below w.heap.size w w' := by
  obtain ⟨W, hW, hG, hX, hb⟩ := box2 w (stB s) (insB 77 jt jf k)
  have HG := Lib.hid hG
  have HX := Lib.hid hX
  have HB := Lib.hid hb
  clear hG hX hb
  go_enter Tryz.func49, Tryz.ntmps49
  go_upto_region 1 with fail
  rw [← hW]
  clear hW
  obtain ⟨c0, c1, c2, c3⟩ := insX HX.out
  go_wp2_with fail
  refine (refBranch_any 77 jt jf k _).mono ?_
  rintro e w1 ⟨rfl, hb1⟩
  rw [hB]
  have HG1 := Lib.hid (kb hb1 HG.out)
  have HX1 := Lib.hid (kb hb1 HX.out)
  have HB1 := Lib.hid (below2 HB.out hb1)
  clear hb1 c0 c1 c2 c3 hB
  obtain ⟨c0, c1, c2, c3⟩ := insX HX1.out
  have f0 := (cell_in HG1.out 0).trans (st_a s)
  have f1 := (cell_in HG1.out 1).trans (st_x s)
  go_wp2_with fail
  refine (refDo_any 84 s.a s.x _ (by omega) (by omega) (by omega) (by omega)).mono ?_
  rintro e w2 ⟨rfl, hb2⟩
  have HB2 := Lib.hid (below2 HB1.out hb2)
  have HE := Lib.hid (and_pos s.a s.x h1 h2)
  clear hb2 c0 c1 c2 c3 f0 f1
  go_wp2_with fail
  go_ret
  exact ⟨by rw [← HE.out]; rfl, HB2.out⟩
set_option maxHeartbeats 1000000 in
theorem rtakes_any (s : St) (op jt jf : Int) (k : Nat) (w : World) (hs : s.ok) (hk : k < 4294967296) :
    Calls Tryz.prog 49 #[s.val, insV op jt jf k] w fun e w' => e = .returned (.bool (takesS s ⟨op, jt, jf, k⟩)) ∧ Below w.heap.size w w' := by
  cases hB : isBranch op
  · have HE : Hid (takesS s ⟨op, jt, jf, k⟩ = false) := Lib.hid (by
      have h : ∀ n ∈ ([21, 29, 37, 45, 53, 61, 69, 77] : List Int), isBranch n = true := by decide
      have e : ∀ n ∈ ([21, 29, 37, 45, 53, 61, 69, 77] : List Int), ¬ op = n := fun n hn he => by rw [he, h n hn] at hB; cases hB
      simp only [List.mem_cons, List.not_mem_nil, or_false, forall_eq_or_imp, forall_eq] at e
      obtain ⟨e1, e2, e3, e4, e5, e6, e7, e8⟩ := e
      simp [takesS, e1, e2, e3, e4, e5, e6, e7, e8])
    obtain ⟨W, hW, hG, hX, hb⟩ := box2 w (stB s) (insB op jt jf k)
    have HX := Lib.hid hX
    have HB := Lib.hid hb
    clear hG hX hb hs
    go_enter Tryz.func49, Tryz.ntmps49
    go_upto_region 1 with fail
    rw [← hW]
    clear hW
    obtain ⟨c0, c1, c2, c3⟩ := insX HX.out
    go_wp2_with fail
    refine (refBranch_any op jt jf k _).mono ?_
    rintro e w1 ⟨rfl, hb1⟩
    rw [hB]
    have HB1 := Lib.hid (below2 HB.out hb1)
    clear hb1 c0 c1 c2 c3 hB
    go_wp2_with fail
    go_ret
    exact ⟨by rw [HE.out]; rfl, HB1.out⟩
  · have h1 := hs.1
    have h2 := hs.2.1
    have hm := branch_ops hB
    simp only [List.mem_cons, List.not_mem_nil, or_false] at hm
    rcases hm with rfl | rfl | rfl | rfl | rfl | rfl | rfl | rfl
    · exact (rtakes_o21 s jt jf k w hB).mono fun e w' h => ⟨h.1.trans (by simp [takesS]), h.2⟩
    · exact (rtakes_o29 s jt jf k w hB).mono fun e w' h => ⟨h.1.trans (by simp [takesS, beq_cast]), h.2⟩
    · exact (rtakes_o37 s jt jf k w hB).mono fun e w' h => ⟨h.1.trans (by simp [takesS]), h.2⟩
    · exact (rtakes_o45 s jt jf k w hB).mono fun e w' h => ⟨h.1.trans (by simp [takesS]), h.2⟩
    · exact (rtakes_o53 s jt jf k w hB).mono fun e w' h => ⟨h.1.trans (by simp [takesS]), h.2⟩
    · exact (rtakes_o61 s jt jf k w hB).mono fun e w' h => ⟨h.1.trans (by simp [takesS]), h.2⟩
    · exact (rtakes_o69 s jt jf k w h1 (by omega) hB).mono fun e w' h => ⟨h.1.trans (by simp [takesS, bne]), h.2⟩
    · exact (rtakes_o77 s jt jf k w h1 h2 hB).mono fun e w' h => ⟨h.1.trans (by simp [takesS, bne]), h.2⟩
end Go.Proofs.YtbekkdhlfkongaaGreatDoor
/-
  The document's own way (package hurdleref04): From, of sixty-four bytes.
-/
namespace Go.Proofs.YtbekkdhlfkongaaGreatDoor
open Go.ChangeShapes Go.WideShapes Go.ChangeAt Go.RowKit
set_option maxRecDepth 20000

/-- number, of a piece. -/
theorem num_piece {V : World} {v : Value} {b : List UInt8} {x lo n : Nat} (h : BAt V v ((b.drop lo).take n)) (_ _ : Nat) (hl : b.length = 64) (hb : lo + n ≤ 64) (h8 : n ≤ 8) (hx : x = numAt b lo n) :
    Calls Tryz.prog 126 #[v] V fun e w' => e = .returned (.int .u64 (x : Nat)) ∧ V = w' := by
  have hle : ((b.drop lo).take n).length = n := by rw [List.length_take, List.length_drop]; omega
  refine (num_any v _ V h (by omega)).mono ?_
  rintro e w' ⟨rfl, rfl⟩
  rw [hle, numAt_sub b lo n (by omega), hx]
  exact ⟨rfl, rfl⟩

end Go.Proofs.YtbekkdhlfkongaaGreatDoor

/-
  The document's own way (package hurdleref04): Word.
-/
namespace Go.Proofs.YtbekkdhlfkongaaGreatDoor
open Go.ChangeShapes Go.WideShapes Go.ChangeAt Go.RowKit
set_option maxRecDepth 20000

theorem word_num {d : Rec} (hd : d.ok) {n : Nat} (h : hasW n = true) : numAt (bytesD d) n 4 = wordAtD d n := by
  have hh : n % 4 = 0 ∧ n < 64 := by simpa [hasW] using h
  have e := num_flat (wordsD d) (n / 4) (words_lt hd) (by rw [words_len]; omega)
  rw [show 4 * (n / 4) = n by omega] at e
  unfold wordAtD bytesD
  rw [if_pos h, e, List.getD_eq_getElem?_getD, List.getElem?_eq_getElem (by rw [words_len]; omega)]
  rfl

set_option maxHeartbeats 2000000 in
theorem rword_any (d : Rec) (n : Nat) (w : World) (hd : d.ok) (hn : n < 4294967296) :
    Calls Tryz.prog 90 #[d.val, .int .u32 n] w fun e w' => e = .returned (.tuple #[.int .u32 (wordAtD d n), .bool (hasW n)]) ∧ Below w.heap.size w w' := by
  cases hh : hasW n
  · have HE : Hid (wordAtD d n = 0) := Lib.hid (by simp [wordAtD, hh])
    by_cases h4 : n % 4 = 0
    · have h64 : 64 ≤ n := by
        simp [hasW, h4] at hh
        omega
      have h4i : (n : Int) % 4 = 0 := by omega
      have h4b : ((n : Int) % 4 != 0) = false := by simp [h4i]
      clear hh h4 h4i
      go_enter Tryz.func90, Tryz.ntmps90
      go_wp2_with fail
      go_ret2
      exact ⟨by rw [HE.out]; rfl, ba _ (Below.refl _ _)⟩
    · have h4i : ¬ (n : Int) % 4 = 0 := by omega
      have h4b : ((n : Int) % 4 != 0) = true := by simp [h4i]
      clear hh h4 h4i
      go_enter Tryz.func90, Tryz.ntmps90
      go_wp2_with fail
      go_ret2
      exact ⟨by rw [HE.out]; rfl, ba _ (Below.refl _ _)⟩
  · have h2 : n % 4 = 0 ∧ n < 64 := by simpa [hasW] using hh
    have h64 := h2.2
    have h60 : n ≤ 60 := by omega
    have h4b : ((n : Int) % 4 != 0) = false := by
      have : (n : Int) % 4 = 0 := by omega
      simp [this]
    have HE := Lib.hid (word_num hd hh)
    have HD := Lib.hid hd
    have hW : wordAtD d n < 4294967296 := by rw [← HE.out]; exact numAt_lt _ _ _
    clear hd h2 hh
    go_enter Tryz.func90, Tryz.ntmps90
    go_wp2_with fail
    refine (rbytes_any d _ HD.out).mono ?_
    rintro e w1 ⟨v, rfl, hO, hb1⟩
    have HB1 := Lib.hid (below2 (ba (.cells d.cells 29) (Below.refl w.heap.size w)) hb1)
    obtain ⟨u, eu, hu⟩ := (BAt.own hO (bytesD_len d).symm).sub n (n + 4) (n : Int) ((n : Int) + 4) rfl (by simp) (by omega) (by rw [bytesD_len]; omega)
    rw [show n + 4 - n = 4 by omega] at hu
    have HU : Hid (Calls Tryz.prog 126 #[u] w1 fun e w' => e = .returned (.int .u64 (wordAtD d n : Nat)) ∧ w1 = w') := Lib.hid (num_piece hu n 4 (bytesD_len d) (by omega) (by omega) HE.out.symm)
    clear hO hb1 hu
    obtain ⟨x, hx⟩ : ∃ x, x = wordAtD d n := ⟨_, rfl⟩
    rw [← hx] at HU hW
    have HX := Lib.hid hx
    clear hx HE
    go_wp2_with fail
    refine HU.out.mono ?_
    rintro e w' ⟨rfl, rfl⟩
    go_wp2_with fail
    go_ret2
    exact ⟨by rw [← HX.out]; rfl, HB1.out⟩
end Go.Proofs.YtbekkdhlfkongaaGreatDoor
/-
  The document's own answers for runs (package hurdleref06): Step.
-/
namespace Go.Proofs.YtbekkdhlfkongaaGreatDoor
open Go.ChangeShapes Go.WideShapes Go.ChangeAt Go.RowKit
set_option maxRecDepth 20000

/-- The state behind the loop over the cells, and what it has found. -/
def putS (s : St) (op : Int) (k : Nat) : St := if op = 2 then ⟨s.a, s.x, s.m.set k s.a⟩ else if op = 3 then ⟨s.a, s.x, s.m.set k s.x⟩ else s
def midS (s t : St) (k j : Nat) : St := if j ≤ k then s else t
def midC (s : St) (k j : Nat) : Nat := if j ≤ k then 0 else mAt s.m k
theorem midS_start (s t : St) (k : Nat) : midS s t k 0 = s := by simp [midS]
theorem midC_start (s : St) (k : Nat) : midC s k 0 = 0 := by simp [midC]
theorem midS_at (s t : St) (k : Nat) : midS s t k k = s := by simp [midS]
theorem midS_hit (s t : St) (k : Nat) : midS s t k (k + 1) = t := by unfold midS; rw [if_neg (by omega)]
theorem midC_hit (s : St) (k : Nat) : midC s k (k + 1) = mAt s.m k := by unfold midC; rw [if_neg (by omega)]
theorem midS_miss (s t : St) {k j : Nat} (h : j ≠ k) : midS s t k (j + 1) = midS s t k j := by
  unfold midS
  by_cases hj : j ≤ k
  · rw [if_pos hj, if_pos (by omega)]
  · rw [if_neg hj, if_neg (by omega)]
theorem midC_miss (s : St) {k j : Nat} (h : j ≠ k) : midC s k (j + 1) = midC s k j := by
  unfold midC
  by_cases hj : j ≤ k
  · rw [if_pos hj, if_pos (by omega)]
  · rw [if_neg hj, if_neg (by omega)]
theorem midC_end {s : St} (hs : s.ok) (k : Nat) : midC s k 16 = mAt s.m k := by
  unfold midC
  by_cases hj : 16 ≤ k
  · rw [if_pos hj, mAt_out (by have := hs.2.2.1; omega)]
  · rw [if_neg hj]
theorem midS_end {s : St} (hs : s.ok) (op : Int) (k : Nat) : midS s (putS s op k) k 16 = putS s op k := by
  unfold midS
  by_cases hj : 16 ≤ k
  · rw [if_pos hj]
    have e : ∀ v, s.m.set k v = s.m := fun v => List.set_eq_of_length_le (by have := hs.2.2.1; omega)
    unfold putS
    rw [e, e]
    split
    · rfl
    · split <;> rfl
  · rw [if_neg hj]

set_option maxHeartbeats 4000000 in
theorem rstep_any (s : St) (op jt jf : Int) (k : Nat) (d : Rec) (w : World) (hs : s.ok) (hk : k < 4294967296) (hd : d.ok) :
    Calls Tryz.prog 50 #[s.val, insV op jt jf k, d.val] w fun e w' => e = .returned (.tuple #[(stepS s ⟨op, jt, jf, k⟩ d).val, .bool (goesS s ⟨op, jt, jf, k⟩)]) ∧ Below w.heap.size w w' := by
  obtain ⟨W, hW, hG, hX, hD, hR, hb⟩ := box4 w (stB s) (insB op jt jf k) (.cells d.cells 29) (stB zeroSt)
  have hz := st_zero
  have HG := Lib.hid hG
  have HX := Lib.hid hX
  have HD := Lib.hid hD
  have HR := Lib.hid hR
  have HB := Lib.hid hb
  have HSo := Lib.hid hs
  have HDo := Lib.hid hd
  clear hG hX hD hR hb hs hd
  go_enter Tryz.func50, Tryz.ntmps50
  go_upto_region 1 with fail
  rw [← hW]
  clear hW hz
  obtain ⟨c0, c1, c2, c3⟩ := insX HX.out
  go_wp2_with fail
  refine (refAlu_any op jt jf k _).mono ?_
  rintro e w1 ⟨rfl, hb1⟩
  have HG1 := Lib.hid (kb hb1 HG.out)
  have HX1 := Lib.hid (kb hb1 HX.out)
  have HD1 := Lib.hid (kb hb1 HD.out)
  have HR1 := Lib.hid (kb hb1 HR.out)
  have HB1 := Lib.hid (below2 HB.out (hb1.mono (Nat.le_refl _)))
  clear hb1 c0 c1 c2 c3 HG HX HD HR HB
  cases hB : aluB op
  · have HA := Lib.hid hB
    have HGO : Hid (goesS s ⟨op, jt, jf, k⟩ = true) := Lib.hid (by simp [goesS, hB])
    clear hB
    go_wp2_with fail
    go_loopw [14, 15] (fun c i wr => ∃ j : Nat, j ≤ 16 ∧ c = .int .u32 (midC s k j : Nat) ∧ i = .int .i64 j ∧ wr.heap[w.heap.size]? = some (stB (midS s (putS s op k) k j)) ∧ wr.heap[w.heap.size + 1]? = some (insB op jt jf k) ∧ wr.heap[w.heap.size + 2]? = some (.cells d.cells 29) ∧ wr.heap[w.heap.size + 3]? = some (stB zeroSt) ∧ Below w.heap.size w wr) (fun _ i _ => 16 - (intOf i).toNat)
    case atStart => exact ⟨0, by omega, by rw [midC_start]; rfl, rfl, by rw [midS_start]; exact HG1.out, HX1.out, HD1.out, HR1.out, HB1.out⟩
    case round =>
      clear HG1 HX1 HD1 HR1 HB1
      obtain ⟨j, hj, rfl, rfl, hg, hx, hdd, hr, hbw⟩ := hrel
      have HG := Lib.hid hg
      have HX := Lib.hid hx
      have HD := Lib.hid hdd
      have HR := Lib.hid hr
      have HB := Lib.hid hbw
      clear hg hx hdd hr hbw
      by_cases hlt : j < 16
      · by_cases hjk : j = k
        · subst hjk
          have hm := HSo.out.2.2.1
          have h16 : j < 16 := hlt
          rw [midS_at] at HG
          have HSA := Lib.hid (set_m s s.a hm h16)
          have HSX := Lib.hid (set_m s s.x hm h16)
          have f0 := (cell_in HG.out 0).trans (st_a s)
          have f1 := (cell_in HG.out 1).trans (st_x s)
          have fm := (cell_in HG.out (2 + j)).trans (st_m s h16)
          obtain ⟨c0, c1, c2, c3⟩ := insX HX.out
          clear hm
          cases h2 : (op == 2)
          · have n2 : ¬ op = 2 := by simpa using h2
            cases h3 : (op == 3)
            · have n3 : ¬ op = 3 := by simpa using h3
              have HE : Hid (putS s op j = s) := Lib.hid (by simp [putS, n2, n3])
              clear n2 n3
              go_wp2_with fail
              go_roundw
              case rel => exact ⟨j + 1, by omega, by rw [midC_hit], by go_num, by rw [midS_hit, HE.out]; exact HG.out, HX.out, HD.out, HR.out, HB.out⟩
              case measure => simp [intOf]; omega
            · have n3 : op = 3 := by simpa using h3
              have HE : Hid (putS s op j = ⟨s.a, s.x, s.m.set j s.x⟩) := Lib.hid (by simp [putS, n3])
              clear n2 n3
              go_wp2_with (refine st_fld HSX.out HG.out (by omega) rfl rfl rfl rfl ?_; intro W1 hp1; have HP1 := Lib.hid hp1; clear hp1)
              go_roundw
              case rel => exact ⟨j + 1, by omega, by rw [midC_hit], by go_num, by rw [midS_hit, HE.out]; exact HP1.out.row, HP1.out.keep (by omega) HX.out, HP1.out.keep (by omega) HD.out, HP1.out.keep (by omega) HR.out, HP1.out.below HB.out (by omega)⟩
              case measure => simp [intOf]; omega
          · have n2 : op = 2 := by simpa using h2
            have HE : Hid (putS s op j = ⟨s.a, s.x, s.m.set j s.a⟩) := Lib.hid (by simp [putS, n2])
            have h3 : (op == 3) = false := by rw [n2]; rfl
            clear n2
            go_wp2_with (refine st_fld HSA.out HG.out (by omega) rfl rfl rfl rfl ?_; intro W1 hp1; have HP1 := Lib.hid hp1; clear hp1; obtain ⟨c0, c1, c2, c3⟩ := insX (HP1.out.keep (by omega) HX.out))
            go_roundw
            case rel => exact ⟨j + 1, by omega, by rw [midC_hit], by go_num, by rw [midS_hit, HE.out]; exact HP1.out.row, HP1.out.keep (by omega) HX.out, HP1.out.keep (by omega) HD.out, HP1.out.keep (by omega) HR.out, HP1.out.below HB.out (by omega)⟩
            case measure => simp [intOf]; omega
        · have hne : ((j : Int) == (k : Int)) = false := by simp; omega
          have HMS := Lib.hid (midS_miss s (putS s op k) hjk)
          have HMC := Lib.hid (midC_miss s hjk)
          clear hjk
          obtain ⟨c0, c1, c2, c3⟩ := insX HX.out
          go_wp2_with fail
          go_roundw
          case rel => exact ⟨j + 1, by omega, by rw [HMC.out], by go_num, by rw [HMS.out]; exact HG.out, HX.out, HD.out, HR.out, HB.out⟩
          case measure => simp [intOf]; omega
      · have h16 : j = 16 := by omega
        subst h16
        rw [midS_end HSo.out] at HG
        rw [midC_end HSo.out]
        clear hlt hj
        obtain ⟨c0, c1, c2, c3⟩ := insX HX.out
        have hop : op = 0 ∨ op = 1 ∨ op = 32 ∨ op = 96 ∨ op = 97 ∨ op = 7 ∨ op = 135 ∨ op = 132 ∨ (¬ op = 0 ∧ ¬ op = 1 ∧ ¬ op = 32 ∧ ¬ op = 96 ∧ ¬ op = 97 ∧ ¬ op = 7 ∧ ¬ op = 135 ∧ ¬ op = 132) := by omega
        rcases hop with rfl | rfl | rfl | rfl | rfl | rfl | rfl | rfl | ⟨n0, n1, n32, n96, n97, n7, n135, n132⟩
        · have HE : Hid (stepS s ⟨0, jt, jf, k⟩ d = ⟨k, s.x, s.m⟩) := Lib.hid (by simp [stepS, HA.out])
          have HG : Hid (wr.heap[w.heap.size]? = some (stB s)) := HG
          go_wp2_with (first | (refine st_fld (set_a s k) HG.out (by omega) rfl rfl rfl rfl ?_; intro W1 hp1; have HP1 := Lib.hid hp1; clear hp1) | (refine ld_st HP1.out.row rfl rfl rfl ?_) | (refine st_st (HP1.out.keep (by omega) HR.out) rfl rfl rfl rfl rfl ?_; intro W2 hp2; have HP2 := Lib.hid hp2; clear hp2))
          (try simp only [Exit.inBlock, Exit.then])
          exact bodyPost_ret (results_st rfl rfl rfl HP2.out.row) rfl ⟨by rw [HE.out, HGO.out], HP2.out.below (HP1.out.below HB.out (by omega)) (by omega)⟩
        · have HE : Hid (stepS s ⟨1, jt, jf, k⟩ d = ⟨s.a, k, s.m⟩) := Lib.hid (by simp [stepS, HA.out])
          have HG : Hid (wr.heap[w.heap.size]? = some (stB s)) := HG
          go_wp2_with (first | (refine st_fld (set_x s k) HG.out (by omega) rfl rfl rfl rfl ?_; intro W1 hp1; have HP1 := Lib.hid hp1; clear hp1) | (refine ld_st HP1.out.row rfl rfl rfl ?_) | (refine st_st (HP1.out.keep (by omega) HR.out) rfl rfl rfl rfl rfl ?_; intro W2 hp2; have HP2 := Lib.hid hp2; clear hp2))
          (try simp only [Exit.inBlock, Exit.then])
          exact bodyPost_ret (results_st rfl rfl rfl HP2.out.row) rfl ⟨by rw [HE.out, HGO.out], HP2.out.below (HP1.out.below HB.out (by omega)) (by omega)⟩
        · have HE : Hid (stepS s ⟨32, jt, jf, k⟩ d = ⟨wordAtD d k, s.x, s.m⟩) := Lib.hid (by simp [stepS, HA.out])
          have HG : Hid (wr.heap[w.heap.size]? = some (stB s)) := HG
          obtain ⟨x0, x1, x2, x3, x4, x5, x6, x7, x8⟩ := rec_cells HD.out
          go_wp2_with fail
          refine (rword_any d k _ HDo.out hk).mono ?_
          rintro e w3 ⟨rfl, hb3⟩
          have HG3 := Lib.hid (kb hb3 HG.out)
          have HR3 := Lib.hid (kb hb3 HR.out)
          have HB3 := Lib.hid (HB.out.trans (hb3.mono HB.out.size))
          clear hb3 c0 c1 c2 c3 x0 x1 x2 x3 x4 x5 x6 x7 x8
          obtain ⟨v, hv⟩ : ∃ v, v = wordAtD d k := ⟨_, rfl⟩
          rw [← hv] at HE ⊢
          clear hv
          go_wp2_with (first | (refine st_fld (set_a s v) HG3.out (by omega) rfl rfl rfl rfl ?_; intro W1 hp1; have HP1 := Lib.hid hp1; clear hp1) | (refine ld_st HP1.out.row rfl rfl rfl ?_) | (refine st_st (HP1.out.keep (by omega) HR3.out) rfl rfl rfl rfl rfl ?_; intro W2 hp2; have HP2 := Lib.hid hp2; clear hp2))
          (try simp only [Exit.inBlock, Exit.then])
          exact bodyPost_ret (results_st rfl rfl rfl HP2.out.row) rfl ⟨by rw [HE.out, HGO.out], HP2.out.below (HP1.out.below HB3.out (by omega)) (by omega)⟩
        · have HE : Hid (stepS s ⟨96, jt, jf, k⟩ d = ⟨mAt s.m k, s.x, s.m⟩) := Lib.hid (by simp [stepS, HA.out, mAt])
          have HG : Hid (wr.heap[w.heap.size]? = some (stB s)) := HG
          go_wp2_with (first | (refine st_fld (set_a s (mAt s.m k)) HG.out (by omega) rfl rfl rfl rfl ?_; intro W1 hp1; have HP1 := Lib.hid hp1; clear hp1) | (refine ld_st HP1.out.row rfl rfl rfl ?_) | (refine st_st (HP1.out.keep (by omega) HR.out) rfl rfl rfl rfl rfl ?_; intro W2 hp2; have HP2 := Lib.hid hp2; clear hp2))
          (try simp only [Exit.inBlock, Exit.then])
          exact bodyPost_ret (results_st rfl rfl rfl HP2.out.row) rfl ⟨by rw [HE.out, HGO.out], HP2.out.below (HP1.out.below HB.out (by omega)) (by omega)⟩
        · have HE : Hid (stepS s ⟨97, jt, jf, k⟩ d = ⟨s.a, mAt s.m k, s.m⟩) := Lib.hid (by simp [stepS, HA.out, mAt])
          have HG : Hid (wr.heap[w.heap.size]? = some (stB s)) := HG
          go_wp2_with (first | (refine st_fld (set_x s (mAt s.m k)) HG.out (by omega) rfl rfl rfl rfl ?_; intro W1 hp1; have HP1 := Lib.hid hp1; clear hp1) | (refine ld_st HP1.out.row rfl rfl rfl ?_) | (refine st_st (HP1.out.keep (by omega) HR.out) rfl rfl rfl rfl rfl ?_; intro W2 hp2; have HP2 := Lib.hid hp2; clear hp2))
          (try simp only [Exit.inBlock, Exit.then])
          exact bodyPost_ret (results_st rfl rfl rfl HP2.out.row) rfl ⟨by rw [HE.out, HGO.out], HP2.out.below (HP1.out.below HB.out (by omega)) (by omega)⟩
        · have HE : Hid (stepS s ⟨7, jt, jf, k⟩ d = ⟨s.a, s.a, s.m⟩) := Lib.hid (by simp [stepS, HA.out])
          have HG : Hid (wr.heap[w.heap.size]? = some (stB s)) := HG
          have f0 := (cell_in HG.out 0).trans (st_a s)
          go_wp2_with (first | (refine st_fld (set_x s s.a) HG.out (by omega) rfl rfl rfl rfl ?_; intro W1 hp1; have HP1 := Lib.hid hp1; clear hp1) | (refine ld_st HP1.out.row rfl rfl rfl ?_) | (refine st_st (HP1.out.keep (by omega) HR.out) rfl rfl rfl rfl rfl ?_; intro W2 hp2; have HP2 := Lib.hid hp2; clear hp2))
          (try simp only [Exit.inBlock, Exit.then])
          exact bodyPost_ret (results_st rfl rfl rfl HP2.out.row) rfl ⟨by rw [HE.out, HGO.out], HP2.out.below (HP1.out.below HB.out (by omega)) (by omega)⟩
        · have HE : Hid (stepS s ⟨135, jt, jf, k⟩ d = ⟨s.x, s.x, s.m⟩) := Lib.hid (by simp [stepS, HA.out])
          have HG : Hid (wr.heap[w.heap.size]? = some (stB s)) := HG
          have f1 := (cell_in HG.out 1).trans (st_x s)
          go_wp2_with (first | (refine st_fld (set_a s s.x) HG.out (by omega) rfl rfl rfl rfl ?_; intro W1 hp1; have HP1 := Lib.hid hp1; clear hp1) | (refine ld_st HP1.out.row rfl rfl rfl ?_) | (refine st_st (HP1.out.keep (by omega) HR.out) rfl rfl rfl rfl rfl ?_; intro W2 hp2; have HP2 := Lib.hid hp2; clear hp2))
          (try simp only [Exit.inBlock, Exit.then])
          exact bodyPost_ret (results_st rfl rfl rfl HP2.out.row) rfl ⟨by rw [HE.out, HGO.out], HP2.out.below (HP1.out.below HB.out (by omega)) (by omega)⟩
        · have HE : Hid (stepS s ⟨132, jt, jf, k⟩ d = ⟨((-(s.a : Int)) % 4294967296).toNat, s.x, s.m⟩) := Lib.hid (by simp [stepS, HA.out])
          have HG : Hid (wr.heap[w.heap.size]? = some (stB s)) := HG
          have f0 := (cell_in HG.out 0).trans (st_a s)
          obtain ⟨v, hv⟩ : ∃ v : Nat, (-(s.a : Int)) % 4294967296 = v := ⟨((-(s.a : Int)) % 4294967296).toNat, by omega⟩
          have HN := Lib.hid (refNeg_any s.a wr (by omega) (by have := HSo.out.1; omega))
          rw [hv] at HN HE
          rw [Int.toNat_natCast] at HE
          clear hv
          go_wp2_with fail
          refine HN.out.mono ?_
          rintro e w3 ⟨rfl, rfl⟩
          go_wp2_with (first | (refine st_fld (set_a s v) HG.out (by omega) rfl rfl rfl rfl ?_; intro W1 hp1; have HP1 := Lib.hid hp1; clear hp1) | (refine ld_st HP1.out.row rfl rfl rfl ?_) | (refine st_st (HP1.out.keep (by omega) HR.out) rfl rfl rfl rfl rfl ?_; intro W2 hp2; have HP2 := Lib.hid hp2; clear hp2))
          (try simp only [Exit.inBlock, Exit.then])
          exact bodyPost_ret (results_st rfl rfl rfl HP2.out.row) rfl ⟨by rw [HE.out, HGO.out], HP2.out.below (HP1.out.below HB.out (by omega)) (by omega)⟩
        · have HE : Hid (stepS s ⟨op, jt, jf, k⟩ d = putS s op k) := Lib.hid (by
            unfold putS stepS
            simp only [HA.out, Bool.false_eq_true, if_false, if_neg n0, if_neg n1, if_neg n32, if_neg n96, if_neg n97, if_neg n7, if_neg n135, if_neg n132, Int.toNat_natCast])
          have m0 : (op == 0) = false := by simpa using n0
          have m1 : (op == 1) = false := by simpa using n1
          have m32 : (op == 32) = false := by simpa using n32
          have m96 : (op == 96) = false := by simpa using n96
          have m97 : (op == 97) = false := by simpa using n97
          have m7 : (op == 7) = false := by simpa using n7
          have m135 : (op == 135) = false := by simpa using n135
          have m132 : (op == 132) = false := by simpa using n132
          clear n0 n1 n32 n96 n97 n7 n135 n132
          go_wp2_with (first | (refine ld_st HG.out rfl rfl rfl ?_) | (refine st_st HR.out rfl rfl rfl rfl rfl ?_; intro W2 hp2; have HP2 := Lib.hid hp2; clear hp2))
          (try simp only [Exit.inBlock, Exit.then])
          exact bodyPost_ret (results_st rfl rfl rfl HP2.out.row) rfl ⟨by rw [HE.out, HGO.out], HP2.out.below HB.out (by omega)⟩
  · obtain ⟨q, hq⟩ : ∃ q : Nat, argS s ⟨op, jt, jf, k⟩ = q := by
      unfold argS
      split
      · exact ⟨_, rfl⟩
      · exact ⟨_, rfl⟩
    have hq4 : (q : Int) ≤ 4294967295 := by
      rw [← hq]
      unfold argS
      have := (HSo.out.2.1)
      split
      · omega
      · simp only; omega
    have f0 := (cell_in HG1.out 0).trans (st_a s)
    have f1 := (cell_in HG1.out 1).trans (st_x s)
    have c3 := cell_in HX1.out 3
    have hgo : goesS s ⟨op, jt, jf, k⟩ = Wd.doB (aluV op) q := by simp [goesS, hB, hq]
    obtain ⟨v, hv⟩ : ∃ v : Nat, Wd.doV (aluV op) s.a q = v := ⟨(Wd.doV (aluV op) s.a q).toNat, by have := Wd.doV_bd (aluV op) s.a q (by omega) (by have := HSo.out.1; omega) (by omega); omega⟩
    have hc : stepS s ⟨op, jt, jf, k⟩ d = if Wd.doB (aluV op) q then ⟨v, s.x, s.m⟩ else s := by
      unfold stepS
      simp only [hB, if_true]
      rw [hgo, hq, hv]
      rfl
    have HDo2 := Lib.hid (refDo_any (aluV op) s.a q w1 (by omega) (by have := HSo.out.1; omega) (by omega) hq4)
    rw [hv] at HDo2
    have HSA := Lib.hid (set_a s v)
    cases hX2 : aluX op
    · have e : q = k := by
        have h : (k : Int) = q := by rw [← hq]; unfold argS; simp [hX2]
        omega
      subst e
      cases hb2 : Wd.doB (aluV op) q
      · rw [hb2] at HDo2 hgo hc
        have HCQ := Lib.hid hc
        have HGO := Lib.hid hgo
        clear hb2 hc hgo hv hq hB hX2
        go_wp2_with fail
        refine HDo2.out.mono ?_
        rintro e w2 ⟨rfl, hb2⟩
        have HG2 := Lib.hid (kb hb2 HG1.out)
        have HR2 := Lib.hid (kb hb2 HR1.out)
        have HB2 := Lib.hid (HB1.out.trans (hb2.mono HB1.out.size))
        clear hb2 f0 f1 c3
        go_wp2_with (first | (refine ld_st HG2.out rfl rfl rfl ?_) | (refine st_st HR2.out rfl rfl rfl rfl rfl ?_; intro W2 hp2; have HP2 := Lib.hid hp2; clear hp2))
        (try simp only [Exit.inBlock, Exit.then])
        exact bodyPost_ret (results_st rfl rfl rfl HP2.out.row) rfl ⟨by rw [HCQ.out, HGO.out]; rfl, HP2.out.below HB2.out (by omega)⟩
      · rw [hb2] at HDo2 hgo hc
        have HCQ := Lib.hid hc
        have HGO := Lib.hid hgo
        clear hb2 hc hgo hv hq hB hX2
        go_wp2_with fail
        refine HDo2.out.mono ?_
        rintro e w2 ⟨rfl, hb2⟩
        have HG2 := Lib.hid (kb hb2 HG1.out)
        have HR2 := Lib.hid (kb hb2 HR1.out)
        have HB2 := Lib.hid (HB1.out.trans (hb2.mono HB1.out.size))
        clear hb2 f0 f1 c3
        go_wp2_with (first | (refine st_fld HSA.out HG2.out (by omega) rfl rfl rfl rfl ?_; intro W1 hp1; have HP1 := Lib.hid hp1; clear hp1) | (refine ld_st HP1.out.row rfl rfl rfl ?_) | (refine st_st (HP1.out.keep (by omega) HR2.out) rfl rfl rfl rfl rfl ?_; intro W2 hp2; have HP2 := Lib.hid hp2; clear hp2))
        (try simp only [Exit.inBlock, Exit.then])
        exact bodyPost_ret (results_st rfl rfl rfl HP2.out.row) rfl ⟨by rw [HCQ.out, HGO.out]; rfl, HP2.out.below (HP1.out.below HB2.out (by omega)) (by omega)⟩
    · have e : q = s.x := by
        have h : (s.x : Int) = q := by rw [← hq]; unfold argS; simp [hX2]
        omega
      subst e
      cases hb2 : Wd.doB (aluV op) s.x
      · rw [hb2] at HDo2 hgo hc
        have HCQ := Lib.hid hc
        have HGO := Lib.hid hgo
        clear hb2 hc hgo hv hq hB hX2
        go_wp2_with fail
        refine HDo2.out.mono ?_
        rintro e w2 ⟨rfl, hb2⟩
        have HG2 := Lib.hid (kb hb2 HG1.out)
        have HR2 := Lib.hid (kb hb2 HR1.out)
        have HB2 := Lib.hid (HB1.out.trans (hb2.mono HB1.out.size))
        clear hb2 f0 f1 c3
        go_wp2_with (first | (refine ld_st HG2.out rfl rfl rfl ?_) | (refine st_st HR2.out rfl rfl rfl rfl rfl ?_; intro W2 hp2; have HP2 := Lib.hid hp2; clear hp2))
        (try simp only [Exit.inBlock, Exit.then])
        exact bodyPost_ret (results_st rfl rfl rfl HP2.out.row) rfl ⟨by rw [HCQ.out, HGO.out]; rfl, HP2.out.below HB2.out (by omega)⟩
      · rw [hb2] at HDo2 hgo hc
        have HCQ := Lib.hid hc
        have HGO := Lib.hid hgo
        clear hb2 hc hgo hv hq hB hX2
        go_wp2_with fail
        refine HDo2.out.mono ?_
        rintro e w2 ⟨rfl, hb2⟩
        have HG2 := Lib.hid (kb hb2 HG1.out)
        have HR2 := Lib.hid (kb hb2 HR1.out)
        have HB2 := Lib.hid (HB1.out.trans (hb2.mono HB1.out.size))
        clear hb2 f0 f1 c3
        go_wp2_with (first | (refine st_fld HSA.out HG2.out (by omega) rfl rfl rfl rfl ?_; intro W1 hp1; have HP1 := Lib.hid hp1; clear hp1) | (refine ld_st HP1.out.row rfl rfl rfl ?_) | (refine st_st (HP1.out.keep (by omega) HR2.out) rfl rfl rfl rfl rfl ?_; intro W2 hp2; have HP2 := Lib.hid hp2; clear hp2))
        (try simp only [Exit.inBlock, Exit.then])
        exact bodyPost_ret (results_st rfl rfl rfl HP2.out.row) rfl ⟨by rw [HCQ.out, HGO.out]; rfl, HP2.out.below (HP1.out.below HB2.out (by omega)) (by omega)⟩
end Go.Proofs.YtbekkdhlfkongaaGreatDoor
