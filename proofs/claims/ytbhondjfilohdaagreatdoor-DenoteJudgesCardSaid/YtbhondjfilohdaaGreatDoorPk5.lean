/-
  What the laws' texts use, joined.
-/
import Derived.Test.YtbhondjfilohdaaGreatDoorProg
import Derived.WalkKit
import Derived.Laws.BitsAllLaws
import Derived.RowKit
import Derived.ProofKit
import Derived.Lib.Hide
import Derived.Laws.Rows
import Derived.Laws.ResultCell
import Derived.Laws.Entries
import Derived.Handy
import Derived.OwnWalk
import Derived.Laws.OwnMore
import Derived.Deep.Draws
import Derived.Laws.IdiomStrings
import Derived.Lib.BufferRead
import Derived.Maps.OwnSet
import Derived.BigQuiet
import Derived.IntWalk
import Derived.Deep.RegionHeld3
import Derived.BigRegion
import Derived.Lib.OthersKept
import Derived.Lib.QuietBelow
import Derived.Shelf.Strings.Builder1
import Derived.Shelf.Strings.Search1
import Derived.Lib.IndexLaws
import Derived.Laws.Tables
import Derived.Deep.DeepCutAuto
import Derived.Deep.Cut
import Derived.Deep.Slices
import Derived.Maps.RangeWalk
import Derived.StringKeys
import Derived.Lib.Split
import Derived.Deep.OwnRows
import Derived.Laws.Strings3
import Derived.Lib.Join
import Derived.Lib.MakeNoZero
import Derived.Lib.Builder
import Derived.Laws.IdiomCopy
import Derived.Test.YtbhondjfilohdaaGreatDoorRows
import Derived.OpenShut
import Derived.Carry
import Derived.Deep.DeepHandedRow
import Derived.Lib.SmallJoins
import Derived.Laws.RangeAny
import Derived.Deep.LoopGhost
import Derived.WalkMore
import Derived.Deep.AppendLies
import Derived.Deep.RegionLaw
import Derived.Test.YtbhondjfilohdaaGreatDoorCards
import Derived.Test.YtbhondjfilohdaaGreatDoorTie
import Derived.Lib.LaidTab
import Derived.Stop.LaidErr
import Derived.Test.YtbhondjfilohdaaGreatDoorPk1
import Derived.Test.YtbhondjfilohdaaGreatDoorPk2
import Derived.Test.YtbhondjfilohdaaGreatDoorPk3
import Derived.Test.YtbhondjfilohdaaGreatDoorPk4
/-
  The rows of examples at the end of each law of package hurdlelaw11; an argument that is a rule, a policy whose slice is well made.
-/
namespace Go.Proofs.YtbhondjfilohdaaGreatDoor
open Go.ChangeShapes Go.WideShapes Go.ChangeAt Go.RowKit Go.Deep
set_option maxRecDepth 100000

def exD : Nat → Rec := fun a => ⟨1, 3221225534, 0, a, 0, 0, 0, 0, 0⟩
theorem exD_ok {a : Nat} (h : a < 18446744073709551616) : (exD a).ok := by
  refine ⟨?_, ?_, ?_, h, ?_, ?_, ?_, ?_, ?_⟩ <;> (simp only [exD]; omega)
theorem judge_yes : judgeR exP.rules 0 (exD 1099511627777) = 2147418112 := by decide
theorem judge_no : judgeR exP.rules 0 (exD 2) = 0 := by decide
theorem first_no : firstN exP.rules 0 (exD 2) = -1 := by decide
theorem judge_ex (rv : Value) (d : Rec) (v : Nat) (w : World) (hL : LAt w rv exP.rules) (hd : d.ok) (hv : judgeR exP.rules 0 d = v) (ht : Tab w) :
    Calls Tryz.prog 7 #[poV rv 0, d.val] w fun e w' => e = .returned (.tuple #[.int .u32 (v : Nat), .int .i64 0]) ∧ Below w.heap.size w w' := by
  have h := ejudge_any rv exP d w hL exP_ok (by decide) (by decide) hd ht
  rw [if_pos exP_right, if_pos exP_right, show exP.dflt = 0 from rfl, hv] at h
  exact h
theorem first_ex (rv : Value) (d : Rec) (v : Int) (w : World) (hL : LAt w rv exP.rules) (hd : d.ok) (hv : firstN exP.rules 0 d = v) (ht : Tab w) :
    Calls Tryz.prog 6 #[poV rv 0, d.val] w fun e w' => e = .returned (.tuple #[.int .i64 v, .int .i64 0]) ∧ Below w.heap.size w w' := by
  have h := efirst_any rv exP d w hL exP_ok (by decide) (by decide) hd ht
  rw [if_pos exP_right, if_pos exP_right, show exP.dflt = 0 from rfl, hv] at h
  exact h
/-- A record whose first argument is put. -/
theorem put_a0 {w : World} {g a : Nat} (h : w.heap[g]? = some (.cells (exD a).cells 32)) (b : Nat) : RowPut w (w.setCell ⟨g, 3, none⟩ (.int .u64 (b : Nat))) g (.cells (exD b).cells 32) := rowPut_cell h 3 (.int .u64 (b : Nat))
set_option maxHeartbeats 8000000 in
theorem eknows_any (w : World) (ht : Tab w) :
    Calls Tryz.prog 5 #[] w fun e w' => e = .returned (.bool true) ∧ Below w.heap.size w w' := by
  have HTab := Lib.hid ht
  clear ht
  go_enter Tryz.func5, Tryz.ntmps5
  go_wp2_with fail
  refine (parse_ex _ HTab.out).mono ?_
  rintro e w1 ⟨⟨rv, hL, rfl⟩, hb1⟩
  obtain ⟨ao, cap, hrv⟩ := hL.shape
  have hrv2 : rv = .slice ao 1 cap := hrv
  clear hrv
  subst hrv2
  have HB1 := Lib.hid hb1
  have HL1 := Lib.hid hL
  clear hL hb1
  obtain ⟨W, hW, X0, X1, HBx⟩ := box2 w1 (poB (.slice ao 1 cap) 0) (.cells (exD 0).cells 32)
  have HP := Lib.hid X0
  have HD := Lib.hid X1
  have HB2 := Lib.hid (below2 HB1.out HBx)
  have HLA : Hid (∀ V, Below w1.heap.size w1 V → LAt V (.slice ao 1 cap) exP.rules) := Lib.hid (fun V hV => HL1.out.below hV)
  have HBW := Lib.hid HBx
  have hg1 : w.heap.size ≤ w1.heap.size := HB1.out.size
  clear X0 X1 HBx
  go_upto_region 3 with fail
  change Code.wp _ _ _ _ ((w1.alloc (poB (.slice ao 1 cap) 0)).alloc (.cells (exD 0).cells 32))
  rw [← hW]
  clear hW HB1 HL1
  generalize w1.heap.size = g at *
  have c3 : W.cell? ⟨g + 1, 3, none⟩ = some (.int .u64 0) := cell_in HD.out 3
  have f3 := free_in HD.out 3
  have hlt : g + 1 < W.heap.size := lt_of_block HD.out
  go_upto_region 4 with fail
  have hput := put_a0 HD.out 1099511627777
  obtain ⟨W3, hW3⟩ : ∃ V, V = W.setCell ⟨g + 1, 3, none⟩ (.int .u64 1099511627777) := ⟨_, rfl⟩
  change RowPut W (W.setCell ⟨g + 1, 3, none⟩ (.int .u64 1099511627777)) _ _ at hput
  rw [← hW3] at hput ⊢
  have HD3 := Lib.hid hput.row
  have HP3 := Lib.hid (hput.keep (by omega : g ≠ g + 1) HP.out)
  have HB3 := Lib.hid (hput.below HB2.out (by omega))
  have HBW3 := Lib.hid (hput.below HBW.out (by omega))
  clear hW3 hput c3 f3 hlt HD HP HB2 HBW
  obtain ⟨c0, c1⟩ := pbox HP3.out
  obtain ⟨d0, d1, d2, d3, d4, d5, d6, d7, d8⟩ := rec_cells HD3.out
  go_wp2_with fail
  refine (judge_ex _ (exD 1099511627777) 2147418112 _ (HLA.out _ HBW3.out) (exD_ok (by omega)) judge_yes (HTab.out.below HB3.out)).mono ?_
  rintro e w4 ⟨rfl, hb4⟩
  have HP4 := Lib.hid (kb hb4 HP3.out)
  have HD4 := Lib.hid (kb hb4 HD3.out)
  have HB4 := Lib.hid (below2 HB3.out hb4)
  have HBW4 := Lib.hid (HBW3.out.trans (hb4.mono (by have := lt_of_block HD3.out; omega)))
  clear hb4 c0 c1 d0 d1 d2 d3 d4 d5 d6 d7 d8 HP3 HD3 HB3 HBW3
  have c3 : w4.cell? ⟨g + 1, 3, none⟩ = some (.int .u64 1099511627777) := cell_in HD4.out 3
  have f3 := free_in HD4.out 3
  have hlt : g + 1 < w4.heap.size := lt_of_block HD4.out
  go_upto_region 6 with fail
  have hput := put_a0 HD4.out 2
  obtain ⟨W5, hW5⟩ : ∃ V, V = w4.setCell ⟨g + 1, 3, none⟩ (.int .u64 2) := ⟨_, rfl⟩
  change RowPut w4 (w4.setCell ⟨g + 1, 3, none⟩ (.int .u64 2)) _ _ at hput
  rw [← hW5] at hput ⊢
  have HD5 := Lib.hid hput.row
  have HP5 := Lib.hid (hput.keep (by omega : g ≠ g + 1) HP4.out)
  have HB5 := Lib.hid (hput.below HB4.out (by omega))
  have HBW5 := Lib.hid (hput.below HBW4.out (by omega))
  clear hW5 hput c3 f3 hlt HD4 HP4 HB4 HBW4
  obtain ⟨c0, c1⟩ := pbox HP5.out
  obtain ⟨d0, d1, d2, d3, d4, d5, d6, d7, d8⟩ := rec_cells HD5.out
  go_wp2_with fail
  refine (judge_ex _ (exD 2) 0 _ (HLA.out _ HBW5.out) (exD_ok (by omega)) judge_no (HTab.out.below HB5.out)).mono ?_
  rintro e w6 ⟨rfl, hb6⟩
  have HP6 := Lib.hid (kb hb6 HP5.out)
  have HD6 := Lib.hid (kb hb6 HD5.out)
  have HB6 := Lib.hid (below2 HB5.out hb6)
  have HBW6 := Lib.hid (HBW5.out.trans (hb6.mono (by have := lt_of_block HD5.out; omega)))
  clear hb6 c0 c1 d0 d1 d2 d3 d4 d5 d6 d7 d8 HP5 HD5 HB5 HBW5
  obtain ⟨c0, c1⟩ := pbox HP6.out
  obtain ⟨d0, d1, d2, d3, d4, d5, d6, d7, d8⟩ := rec_cells HD6.out
  go_wp2_with fail
  refine (first_ex _ (exD 2) (-1) _ (HLA.out _ HBW6.out) (exD_ok (by omega)) first_no (HTab.out.below HB6.out)).mono ?_
  rintro e w7 ⟨rfl, hb7⟩
  have HB7 := Lib.hid (below2 HB6.out hb7)
  clear hb7 c0 c1 d0 d1 d2 d3 d4 d5 d6 d7 d8
  go_wp2_with fail
  go_ret
  exact ⟨rfl, HB7.out⟩
/-- The last word of a law: the rows of examples. -/
theorem eknow_end {a w : World} (hb : Below a.heap.size a w) (ht : Tab a) : Calls Tryz.prog 5 #[] w fun e w' => e = .returned (.bool true) ∧ Below a.heap.size a w' :=
  (eknows_any w (ht.below hb)).mono fun _ _ ⟨he, h⟩ => ⟨he, below2 hb h⟩
/-! ### Arguments -/
section
variable {H : Type} {enc : TypeId × Value → H} {W : World}
theorem open_rule {base : Nat} {v : Value} {d : DataW H} {p : List MemPlace} (hval : Value.okWide Tryz.prog W .any base 28 v) (h : DataW.Trod enc Tryz.prog W 0 (fun _ => true) true 28 v d p) : ∃ (x : Rl) (cv : Value), v = x.val cv ∧ CAt W cv x.conds ∧ x.ok ∧ x.conds.length ≤ 9223372036854775807 := by
  obtain ⟨cs, rfl, hsz⟩ := okWide_struct Tryz.underlying28 hval
  rw [cellsRule] at hsz
  obtain ⟨c0, c1, c2, c3, hc⟩ : ∃ c0 c1 c2 c3, cs = #[c0, c1, c2, c3] := by
    obtain ⟨l⟩ := cs
    match l, hsz with
    | [c0, c1, c2, c3], _ => exact ⟨c0, c1, c2, c3, rfl⟩
  subst hc
  obtain ⟨fuel, hf⟩ := h
  obtain ⟨ys, n, _, _, _, hyl, hff⟩ := DataW.trod_struct Tryz.underlying28 hf
  have hy4 : ys.length = 4 := hyl
  match ys, hy4 with
  | [y0, y1, y2, y3], _ =>
    have h0 : DataW.trod enc Tryz.prog W 0 (fun _ => true) true n 23 [c0] = some y0 := hff 0 _ rfl
    have h1 : DataW.trod enc Tryz.prog W 0 (fun _ => true) true n 23 [c1] = some y1 := hff 1 _ rfl
    have h2 : DataW.trod enc Tryz.prog W 0 (fun _ => true) true n 26 [c2] = some y2 := hff 2 _ rfl
    have h3 : DataW.trod enc Tryz.prog W 0 (fun _ => true) true n 23 [c3] = some y3 := hff 3 _ rfl
    obtain ⟨k0, rfl, b0⟩ := trod_u32 h0
    obtain ⟨k1, rfl, b1⟩ := trod_u32 h1
    obtain ⟨l, hC, hok, hln⟩ := open_conds h2
    obtain ⟨k3, rfl, b3⟩ := trod_u32 h3
    exact ⟨⟨k0, k1, k3, l⟩, c2, rfl, hC, ⟨b0, b1, b3, hok⟩, hln⟩
end
end Go.Proofs.YtbhondjfilohdaaGreatDoor
/-
  The document's Fits, First and Judge (package hurdleref11).
-/
namespace Go.Proofs.YtbhondjfilohdaaGreatDoor
open Go.ChangeShapes Go.WideShapes Go.ChangeAt Go.RowKit
set_option maxRecDepth 20000

theorem count_step {cs : List Cd} {k : Nat} (h : k < cs.length) (P : Cd → Bool) : (cs.take (k + 1)).countP P = (cs.take k).countP P + (if P cs[k] then 1 else 0) := by
  rw [List.take_succ_eq_append_getElem h, List.countP_append]
  simp
theorem count_all (cs : List Cd) (P : Cd → Bool) : (((cs.take cs.length).countP P : Int) == (cs.length : Int)) = cs.all P := by
  rw [List.take_length, Bool.eq_iff_iff, beq_iff_eq, List.all_eq_true]
  constructor
  · intro h
    exact List.countP_eq_length.1 (by omega)
  · intro h
    have := List.countP_eq_length.2 h
    omega
set_option maxHeartbeats 8000000 in
theorem rfits_any (cv : Value) (x : Rl) (d : Rec) (w : World) (hC : CAt w cv x.conds) (hk : x.ok) (hl : x.conds.length ≤ 9223372036854775807) (hd : d.ok) :
    Calls Tryz.prog 9 #[x.val cv, d.val] w fun e w' => e = .returned (.bool (fitsR x d)) ∧ Below w.heap.size w w' := by
  obtain ⟨co, ccap, rfl, hrows⟩ := hC.rows
  have HROW := Lib.hid hrows
  obtain ⟨W, hW, X0, X1, HBx⟩ := box2 w (rlB x (.slice co x.conds.length ccap)) (.cells d.cells 32)
  have HX := Lib.hid X0
  have HD := Lib.hid X1
  have HB := Lib.hid HBx
  have HK := Lib.hid hk.2.2.2
  have HDo := Lib.hid hd
  clear X0 X1 HBx
  obtain ⟨R, hR⟩ : ∃ R, R = fitsR x d := ⟨_, rfl⟩
  rw [← hR]
  have HR := Lib.hid hR
  obtain ⟨L, hL⟩ : ∃ L, L = x.conds.length := ⟨_, rfl⟩
  rw [← hL] at HX hl hW ⊢
  have HL := Lib.hid hL
  clear hR hC hk hd hrows hL
  go_enter Tryz.func9, Tryz.ntmps9
  go_upto_region 1 with fail
  change Code.wp _ _ _ _ ((w.alloc (rlB x (.slice co L ccap))).alloc (.cells d.cells 32))
  rw [← hW]
  clear hW
  go_wp2_with fail
  go_loopw [5, 6] (fun nv i wr => ∃ k m : Nat, k ≤ L ∧ m ≤ k ∧ nv = .int .i64 m ∧ i = .int .i64 k ∧ Hid (m = (x.conds.take k).countP (·.holds d)) ∧ Hid (Below w.heap.size w wr) ∧ Hid (wr.heap[w.heap.size]? = some (rlB x (.slice co L ccap))) ∧ Hid (wr.heap[w.heap.size + 1]? = some (.cells d.cells 32))) (fun _ i _ => L - (Lib.intOf i).toNat)
  case atStart => exact ⟨0, 0, Nat.zero_le _, Nat.le_refl _, rfl, rfl, Lib.hid rfl, HB, HX, HD⟩
  case round =>
    obtain ⟨k, m, hkl, hmk, rfl, rfl, HM, HBr, HXr, HDr⟩ := hrel
    clear HB HX HD
    obtain ⟨r0, r1, r2, r3⟩ := rbox HXr.out
    by_cases hlt : k < L
    · have hkx : k < x.conds.length := by rw [← HL.out]; exact hlt
      obtain ⟨cb, coff, rfl, hcb, g0, g1, g2, g3⟩ := HROW.out k hkx
      obtain ⟨c, hc⟩ : ∃ c, c = x.conds[k] := ⟨_, rfl⟩
      rw [← hc] at g0 g1 g2 g3
      have hcok : c.ok := by rw [hc]; exact HK.out _ (List.getElem_mem hkx)
      have HS : Hid ((x.conds.take (k + 1)).countP (·.holds d) = (x.conds.take k).countP (·.holds d) + (if c.holds d then 1 else 0)) := Lib.hid (by rw [count_step hkx, ← hc])
      obtain ⟨B, hB⟩ : ∃ B, B = c.holds d := ⟨_, rfl⟩
      rw [← hB] at HS
      have cS : ∀ d' os, Calls Tryz.prog 20 #[c.val, d.val] (Sort.grow (redrawn wr d') os) fun e w'' => e = .returned (.bool B) ∧ ∃ p : Regrown, w'' = Sort.grow (redrawn wr p.d) p.os := fun d' os => Calls.regrown_of ((rholds8_any c d _ hcok HDo.out).mono fun e w' h => ⟨by rw [hB]; exact h.1, h.2⟩)
      have e0 := cell_regrown ((HBr.out.cell (p := ⟨cb, _, none⟩) hcb).trans g0)
      have e1 := cell_regrown ((HBr.out.cell (p := ⟨cb, _, none⟩) hcb).trans g1)
      have e2 := cell_regrown ((HBr.out.cell (p := ⟨cb, _, none⟩) hcb).trans g2)
      have e3 := cell_regrown ((HBr.out.cell (p := ⟨cb, _, none⟩) hcb).trans g3)
      have f2 := cell_regrown r2
      obtain ⟨d0, d1, d2, d3, d4, d5, d6, d7, d8⟩ := rec_cells HDr.out
      have y0 := cell_regrown d0
      have y1 := cell_regrown d1
      have y2 := cell_regrown d2
      have y3 := cell_regrown d3
      have y4 := cell_regrown d4
      have y5 := cell_regrown d5
      have y6 := cell_regrown d6
      have y7 := cell_regrown d7
      have y8 := cell_regrown d8
      have l0 : (k : Int) < (L : Int) := by omega
      have l1 : (0 : Int) ≤ (k : Int) := by omega
      have l2 : (k : Int).toNat = k := by omega
      clear hc hB g0 g1 g2 g3 hcok d0 d1 d2 d3 d4 d5 d6 d7 d8
      go_wp2_with fail
      refine wp_region_quiet_below (by kernel_rfl) (by kernel_rfl) ?_
      repeat (quiet_step (with_reducible exact cS _ _))
      refine wpQuiet_nil ?_
      intro _ hw'
      obtain ⟨⟨dq, osq⟩, hw''⟩ := hw'
      subst hw''
      have hbq := below_regrown wr dq osq
      have HBq := Lib.hid (below2 HBr.out hbq)
      have HXq := Lib.hid (kb hbq HXr.out)
      have HDq := Lib.hid (kb hbq HDr.out)
      clear hbq cS e0 e1 e2 e3 f2 y0 y1 y2 y3 y4 y5 y6 y7 y8 r0 r1 r2 r3 l0 l1 l2
      generalize Sort.grow (redrawn wr dq) osq = Wq at *
      cases B
      · have HM2 : Hid (m = (x.conds.take (k + 1)).countP (·.holds d)) := Lib.hid (by rw [HS.out, ← HM.out]; rfl)
        go_wp2_with fail
        go_roundw
        case rel => exact ⟨k + 1, m, by omega, by omega, rfl, by go_num, HM2, HBq, HXq, HDq⟩
        case measure => simp [Lib.intOf]; omega
      · have HM2 : Hid (m + 1 = (x.conds.take (k + 1)).countP (·.holds d)) := Lib.hid (by rw [HS.out, ← HM.out]; rfl)
        go_wp2_with fail
        go_roundw
        case rel => exact ⟨k + 1, m + 1, by omega, by omega, by go_num, by go_num, HM2, HBq, HXq, HDq⟩
        case measure => simp [Lib.intOf]; omega
    · have hkL : k = L := by omega
      have hnl : decide ((k : Int) < (L : Int)) = false := by simp; omega
      obtain ⟨A, hA⟩ : ∃ A, A = x.conds.all (·.holds d) := ⟨_, rfl⟩
      have ha : ((m : Int) == (L : Int)) = A := by
        rw [hA, ← count_all, HM.out, hkL, HL.out]
      have HRA : Hid (R = (decide (x.arch = d.arch) && decide (x.nr = d.nr) && A)) := Lib.hid (by rw [HR.out, hA]; rfl)
      obtain ⟨d0, d1, d2, d3, d4, d5, d6, d7, d8⟩ := rec_cells HDr.out
      clear hkL hA
      cases A
      · have HE : Hid (R = false) := Lib.hid (by rw [HRA.out]; simp)
        go_wp2_with fail
        go_ret
        exact ⟨by rw [HE.out]; rfl, HBr.out⟩
      by_cases h0 : x.arch = d.arch
      case neg =>
        have HE : Hid (R = false) := Lib.hid (by rw [HRA.out]; simp [h0])
        have hb0 : ((x.arch : Int) == (d.arch : Int)) = false := by simp; omega
        clear h0
        go_wp2_with fail
        go_ret
        exact ⟨by rw [HE.out]; rfl, HBr.out⟩
      have hb0 : ((x.arch : Int) == (d.arch : Int)) = true := by simp; omega
      by_cases h1 : x.nr = d.nr
      case neg =>
        have HE : Hid (R = false) := Lib.hid (by rw [HRA.out]; simp [h1])
        have hb1 : ((x.nr : Int) == (d.nr : Int)) = false := by simp; omega
        clear h0 h1
        go_wp2_with fail
        go_ret
        exact ⟨by rw [HE.out]; rfl, HBr.out⟩
      have hb1 : ((x.nr : Int) == (d.nr : Int)) = true := by simp; omega
      have HE : Hid (R = true) := Lib.hid (by rw [HRA.out]; simp [h0, h1])
      clear h0 h1
      go_wp2_with fail
      go_ret
      exact ⟨by rw [HE.out]; rfl, HBr.out⟩
set_option maxHeartbeats 8000000 in
theorem rfirst_any (rv : Value) (p : Po) (d : Rec) (w : World) (hL : LAt w rv p.rules) (hk : p.ok) (hl : p.rules.length ≤ 9223372036854775807) (hl2 : ∀ x ∈ p.rules, x.conds.length ≤ 9223372036854775807) (hd : d.ok) :
    Calls Tryz.prog 11 #[poV rv p.dflt, d.val] w fun e w' => e = .returned (.int .i64 (firstN p.rules 0 d)) ∧ Below w.heap.size w w' := by
  obtain ⟨ao, cap, rfl, hrows⟩ := hL.rows
  have HROW := Lib.hid hrows
  obtain ⟨W, hW, X0, X1, HBx⟩ := box2 w (poB (.slice ao p.rules.length cap) p.dflt) (.cells d.cells 32)
  have HX := Lib.hid X0
  have HD := Lib.hid X1
  have HB := Lib.hid HBx
  have HK := Lib.hid hk.2
  have HDo := Lib.hid hd
  have HL2 := Lib.hid hl2
  clear X0 X1 HBx
  obtain ⟨R, hR⟩ : ∃ R, R = firstN p.rules 0 d := ⟨_, rfl⟩
  rw [← hR]
  have HR := Lib.hid hR
  obtain ⟨L, hL'⟩ : ∃ L, L = p.rules.length := ⟨_, rfl⟩
  rw [← hL'] at HX hl hW ⊢
  have HL := Lib.hid hL'
  have HS0 : Hid ((-1 : Int) = firstN (p.rules.drop L) L d) := Lib.hid (by rw [HL.out]; exact (firstN_end (Nat.le_refl _) d).symm)
  clear hR hL hk hd hrows hL' hl2
  obtain ⟨c0, c1⟩ := pbox HX.out
  go_enter Tryz.func11, Tryz.ntmps11
  go_upto_region 1 with fail
  change Code.wp _ _ _ _ ((w.alloc (poB (.slice ao L cap) p.dflt)).alloc (.cells d.cells 32))
  rw [← hW]
  clear hW
  go_wp2_with fail
  go_loopw [5, 6] (fun fv i wr => ∃ (k : Nat) (F I : Int), k ≤ L ∧ I = (k : Int) - 1 ∧ fv = .int .i64 F ∧ i = .int .i64 I ∧ Hid (F = firstN (p.rules.drop k) k d) ∧ Hid (Below w.heap.size w wr) ∧ Hid (wr.heap[w.heap.size]? = some (poB (.slice ao L cap) p.dflt)) ∧ Hid (wr.heap[w.heap.size + 1]? = some (.cells d.cells 32))) (fun _ i _ => (Lib.intOf i + 1).toNat)
  case atStart => exact ⟨L, -1, (L : Int) - 1, Nat.le_refl _, rfl, rfl, rfl, HS0, HB, HX, HD⟩
  case round =>
    obtain ⟨k, F, I, hkl, hI, rfl, rfl, HF, HBr, HXr, HDr⟩ := hrel
    clear HB HX HD c0 c1
    obtain ⟨c0, c1⟩ := pbox HXr.out
    cases k with
    | zero =>
      obtain rfl : I = -1 := by omega
      have HE : Hid (F = R) := Lib.hid (by rw [HF.out, HR.out]; rfl)
      clear hI
      go_wp2_with fail
      go_ret
      exact ⟨by rw [← HE.out]; rfl, HBr.out⟩
    | succ j =>
      obtain rfl : I = (j : Int) := by omega
      have hjl : j < L := by omega
      have hjx : j < p.rules.length := by rw [← HL.out]; exact hjl
      obtain ⟨cb, coff, cv, rfl, hcb, hcv, g0, g1, g2, g3⟩ := HROW.out j hjx
      obtain ⟨x, hx⟩ : ∃ x, x = p.rules[j] := ⟨_, rfl⟩
      rw [← hx] at g0 g1 g3 hcv
      have hxok : x.ok := by rw [hx]; exact HK.out _ (List.getElem_mem hjx)
      have hxl : x.conds.length ≤ 9223372036854775807 := by rw [hx]; exact HL2.out _ (List.getElem_mem hjx)
      have HS : Hid (firstN (p.rules.drop j) j d = if fitsR x d then (j : Int) else F) := Lib.hid (by rw [firstN_step hjx, ← hx, HF.out])
      obtain ⟨B, hB⟩ : ∃ B, B = fitsR x d := ⟨_, rfl⟩
      rw [← hB] at HS
      obtain ⟨a1, a2, rfl⟩ := hcv.shape
      have cS : ∀ d' os, Calls Tryz.prog 9 #[x.val (.slice a1 x.conds.length a2), d.val] (Sort.grow (redrawn wr d') os) fun e w'' => e = .returned (.bool B) ∧ ∃ p : Regrown, w'' = Sort.grow (redrawn wr p.d) p.os := fun d' os => Calls.regrown_of ((rfits_any _ x d _ (hcv.below (HBr.out.trans ((below_regrown wr d' os).mono HBr.out.size))) hxok hxl HDo.out).mono fun e w' h => ⟨by rw [hB]; exact h.1, h.2⟩)
      have e0 := cell_regrown ((HBr.out.cell (p := ⟨cb, _, none⟩) hcb).trans g0)
      have e1 := cell_regrown ((HBr.out.cell (p := ⟨cb, _, none⟩) hcb).trans g1)
      have e2 := cell_regrown ((HBr.out.cell (p := ⟨cb, _, none⟩) hcb).trans g2)
      have e3 := cell_regrown ((HBr.out.cell (p := ⟨cb, _, none⟩) hcb).trans g3)
      have f2 := cell_regrown c0
      obtain ⟨d0, d1, d2, d3, d4, d5, d6, d7, d8⟩ := rec_cells HDr.out
      have y0 := cell_regrown d0
      have y1 := cell_regrown d1
      have y2 := cell_regrown d2
      have y3 := cell_regrown d3
      have y4 := cell_regrown d4
      have y5 := cell_regrown d5
      have y6 := cell_regrown d6
      have y7 := cell_regrown d7
      have y8 := cell_regrown d8
      have l0 : (j : Int) < (L : Int) := by omega
      have l1 : (0 : Int) ≤ (j : Int) := by omega
      have l2 : (j : Int).toNat = j := by omega
      clear hx hB g0 g1 g2 g3 hcv hxok hxl d0 d1 d2 d3 d4 d5 d6 d7 d8 hI
      go_wp2_with fail
      refine wp_region_quiet_below (by kernel_rfl) (by kernel_rfl) ?_
      repeat (quiet_step (with_reducible exact cS _ _))
      refine wpQuiet_nil ?_
      intro _ hw'
      obtain ⟨⟨dq, osq⟩, hw''⟩ := hw'
      subst hw''
      have hbq := below_regrown wr dq osq
      have HBq := Lib.hid (below2 HBr.out hbq)
      have HXq := Lib.hid (kb hbq HXr.out)
      have HDq := Lib.hid (kb hbq HDr.out)
      clear hbq cS e0 e1 e2 e3 f2 y0 y1 y2 y3 y4 y5 y6 y7 y8 c0 c1
      generalize Sort.grow (redrawn wr dq) osq = Wq at *
      cases B
      · have HM2 : Hid (F = firstN (p.rules.drop j) j d) := Lib.hid (by rw [HS.out]; rfl)
        go_wp2_with fail
        go_roundw
        case rel => exact ⟨j, F, (j : Int) - 1, by omega, rfl, rfl, by go_num, HM2, HBq, HXq, HDq⟩
        case measure => simp [Lib.intOf] <;> omega
      · have HM2 : Hid ((j : Int) = firstN (p.rules.drop j) j d) := Lib.hid (by rw [HS.out]; rfl)
        go_wp2_with fail
        go_roundw
        case rel => exact ⟨j, (j : Int), (j : Int) - 1, by omega, rfl, rfl, by go_num, HM2, HBq, HXq, HDq⟩
        case measure => simp [Lib.intOf] <;> omega
set_option maxHeartbeats 8000000 in
theorem rjudge_any (rv : Value) (p : Po) (d : Rec) (w : World) (hL : LAt w rv p.rules) (hk : p.ok) (hl : p.rules.length ≤ 9223372036854775807) (hl2 : ∀ x ∈ p.rules, x.conds.length ≤ 9223372036854775807) (hd : d.ok) :
    Calls Tryz.prog 12 #[poV rv p.dflt, d.val] w fun e w' => e = .returned (.int .u32 (judgeR p.rules p.dflt d : Nat)) ∧ Below w.heap.size w w' := by
  obtain ⟨ao, cap, rfl, hrows⟩ := hL.rows
  obtain ⟨W, hW, X0, X1, HBx⟩ := box2 w (poB (.slice ao p.rules.length cap) p.dflt) (.cells d.cells 32)
  have HX := Lib.hid X0
  have HD := Lib.hid X1
  have HB := Lib.hid HBx
  have HROW := Lib.hid hrows
  clear X0 X1 HBx
  have HF : Hid (Calls Tryz.prog 11 #[poV (.slice ao p.rules.length cap) p.dflt, d.val] W fun e w' => e = .returned (.int .i64 (firstN p.rules 0 d)) ∧ Below W.heap.size W w') := Lib.hid (rfirst_any _ p d W (hL.below HB.out) hk hl hl2 hd)
  have HJ := Lib.hid (first_judge p.rules 0 p.dflt d)
  obtain ⟨R1, hR1⟩ : ∃ R : Nat, R = judgeR p.rules p.dflt d := ⟨_, rfl⟩
  rw [← hR1]
  have HR1 := Lib.hid hR1
  clear hL hk hl2 hd hrows hR1
  go_enter Tryz.func12, Tryz.ntmps12
  go_upto_region 1 with fail
  change Code.wp _ _ _ _ ((w.alloc (poB (.slice ao p.rules.length cap) p.dflt)).alloc (.cells d.cells 32))
  rw [← hW]
  clear hW
  obtain ⟨c0, c1⟩ := pbox HX.out
  obtain ⟨d0, d1, d2, d3, d4, d5, d6, d7, d8⟩ := rec_cells HD.out
  go_wp2_with fail
  refine HF.out.mono ?_
  rintro e w1 ⟨rfl, hb1⟩
  have HB1 := Lib.hid (below2 HB.out hb1)
  have HX1 := Lib.hid (kb hb1 HX.out)
  clear hb1 c0 c1 d0 d1 d2 d3 d4 d5 d6 d7 d8 HF
  obtain ⟨c0, c1⟩ := pbox HX1.out
  rcases HJ.out with ⟨h1, h2⟩ | ⟨k, hk, h1, h2⟩
  · have HE : Hid (R1 = p.dflt) := Lib.hid (by rw [HR1.out, h2])
    rw [h1]
    clear h1 h2 HJ HR1
    go_wp2_with fail
    go_ret
    exact ⟨by rw [HE.out]; rfl, HB1.out⟩
  · have HE : Hid (R1 = (p.rules[k]).act) := Lib.hid (by rw [HR1.out, h2])
    rw [h1, Nat.zero_add]
    clear HR1
    obtain ⟨b, off, cv, rfl, hb', hcv, e0, e1, e2, e3⟩ := HROW.out k hk
    obtain ⟨x, hx⟩ : ∃ x, x = p.rules[k] := ⟨_, rfl⟩
    rw [← hx] at e3 HE
    have e := (HB1.out.cell (p := ⟨b, _, none⟩) hb').trans e3
    have l0 : (k : Int) < (p.rules.length : Int) := by omega
    have l1 : (0 : Int) ≤ (k : Int) := by omega
    have l2 : (k : Int).toNat = k := by omega
    have l3 : decide ((k : Int) < 0) = false := by simp
    clear h1 h2 HJ hcv e0 e1 e2 e3 hx
    go_wp2_with fail
    go_ret
    exact ⟨by rw [HE.out]; rfl, HB1.out⟩
end Go.Proofs.YtbhondjfilohdaaGreatDoor
/-
  Package-level variables that a row lists: how they are taken off the list.
-/
namespace Go.Proofs.YtbhondjfilohdaaGreatDoor
open Go.ChangeShapes Go.WideShapes Go.ChangeAt Go.RowKit

/-- The listed numbers of a table. -/
def numsOf : DataW Unit → List Int
  | .agg l => l.map fun | .lit (.int _ n) => n | _ => 0
  | _ => []
/-- The cells of a listed table. -/
def cellsOfD (k : IntKind) (d : DataW Unit) : Array Value := ((numsOf d).map fun n => Value.int k n).toArray
/-- A block's cells, put in. -/
def laidBlock (cs : Array Value) : Obj → Obj
  | .cells _ t fr => .cells cs t fr
  | o => o
end Go.Proofs.YtbhondjfilohdaaGreatDoor

/-
  Arguments that are filters or bytes: what the row's reading of them gives of the world's cells.
-/
namespace Go.Proofs.YtbhondjfilohdaaGreatDoor
open Go.ChangeShapes Go.WideShapes Go.ChangeAt Go.RowKit Go.Deep
set_option maxRecDepth 100000

section
variable {H : Type} {enc : TypeId × Value → H} {W : World} {base : Nat} {v : Value} {d : DataW H} {p : List MemPlace}
end
end Go.Proofs.YtbhondjfilohdaaGreatDoor

/-
  The listed tables: what the rows list of package-level variables, what that says of the world, and a world for the witness.
-/
namespace Go.Proofs.YtbhondjfilohdaaGreatDoor
open Go.ChangeShapes Go.WideShapes Go.ChangeAt Go.RowKit
set_option maxRecDepth 100000

theorem gTab : Tryz.prog.globalNamed "math/bits.deBruijn64tab" = some 3 := by kernel_rfl
theorem gTabType : (Tryz.prog.globals[3]?).map (·.type) = some 143 := by kernel_rfl
theorem cells64 : Tryz.prog.cellsOf 143 = 64 := by kernel_rfl
theorem cells8 : Tryz.prog.cellsOf 5 = 1 := by kernel_rfl
end Go.Proofs.YtbhondjfilohdaaGreatDoor
/-
  The listed tables of the laws of package hurdlelaw08: what they say of the world, and a world for the witness.
-/
namespace Go.Proofs.YtbhondjfilohdaaGreatDoor
open Go.ChangeShapes Go.WideShapes Go.ChangeAt Go.RowKit
set_option maxRecDepth 100000

/-- What the rows list of package-level variables. -/
def laysQ : List (String × DataW Unit) := [("math/bits.deBruijn32tab", Rows.laid_math_bits_deBruijn32tab), ("math/bits.deBruijn64tab", Rows.laid_math_bits_deBruijn64tab), ("internal/strconv.uint64pow10", Rows.laid_internal_strconv_uint64pow10), ("unicode/utf8.acceptRanges", Rows.laid_unicode_utf8_acceptRanges), ("unicode/utf8.first", Rows.laid_unicode_utf8_first)]
theorem tabOfQ : (Rows.laid_math_bits_deBruijn64tab : DataW Unit) = Lib.tabData .u8 (numsOf Rows.laid_math_bits_deBruijn64tab) := rfl
theorem qtab_of {W : World} (h : laidMetH Tryz.prog laysQ W) : Tab W := by
  have h1 : laidMet Tryz.prog laysQ W := h
  have h2 := laidMet.tail h1
  rw [tabOfQ] at h2
  have ht := Lib.tabIs_of_head gTab gTabType Tryz.underlying143 Tryz.underlying5 cells8 cells64 h2
  have hc : W.cell? ⟨3, 15, none⟩ = some (.int .u8 4) := ht.cell gTab 15 (by decide)
  refine ⟨hc, ?_⟩
  apply Nat.lt_of_not_le
  intro hle
  have e : W.heap[3]? = none := by simp; exact hle
  simp [World.cell?, e] at hc
/-- The listed numbers of a table of small structs. -/
def numsFlat : DataW Unit → List Int
  | .agg l => l.flatMap fun d => match d with | .agg m => m.map (fun x => match x with | .lit (.int _ n) => n | _ => 0) | _ => [0]
  | _ => []
/-- A world for the witness. -/
noncomputable def laidWorldQ (os : Os) : World :=
  { World.holding Tryz.prog os ⟨#[], #[], []⟩ with heap := (((((World.holding Tryz.prog os ⟨#[], #[], []⟩).heap.modify 2 (laidBlock (cellsOfD .u8 Rows.laid_math_bits_deBruijn32tab))).modify 3 (laidBlock (cellsOfD .u8 Rows.laid_math_bits_deBruijn64tab))).modify 1 (laidBlock (cellsOfD .u64 Rows.laid_internal_strconv_uint64pow10))).modify 5 (laidBlock ((numsFlat Rows.laid_unicode_utf8_acceptRanges).map fun n => Value.int .u8 n).toArray)).modify 4 (laidBlock (cellsOfD .u8 Rows.laid_unicode_utf8_first)) }
end Go.Proofs.YtbhondjfilohdaaGreatDoor
