/-
  What the laws' texts use, joined.
-/
import Derived.Test.YtdjjmcblhpjchaaGreatDoorProg
import Derived.WalkKit
import Derived.Laws.BitsAllLaws
import Derived.RowKit
import Derived.ProofKit
import Derived.Lib.Hide
import Derived.Laws.Rows
import Derived.Laws.ResultCell
import Derived.Laws.Entries
import Derived.Handy
import Derived.OwnWalk
import Derived.Laws.OwnMore
import Derived.Deep.Draws
import Derived.Laws.IdiomStrings
import Derived.Lib.BufferRead
import Derived.Maps.OwnSet
import Derived.BigQuiet
import Derived.IntWalk
import Derived.Deep.RegionHeld3
import Derived.BigRegion
import Derived.Lib.OthersKept
import Derived.Lib.QuietBelow
import Derived.Shelf.Strings.Builder1
import Derived.Shelf.Strings.Search1
import Derived.Lib.IndexLaws
import Derived.Laws.Tables
import Derived.Deep.DeepCutAuto
import Derived.Deep.Cut
import Derived.Deep.Slices
import Derived.Maps.RangeWalk
import Derived.StringKeys
import Derived.Lib.Split
import Derived.Deep.OwnRows
import Derived.Laws.Strings3
import Derived.Lib.Join
import Derived.Lib.MakeNoZero
import Derived.Lib.Builder
import Derived.Laws.IdiomCopy
import Derived.Laws.RangeAny
import Derived.Deep.LoopGhost
import Derived.WalkMore
import Derived.Deep.AppendLies
import Derived.Deep.RegionLaw
import Derived.Test.YtdjjmcblhpjchaaGreatDoorRows
import Derived.OpenShut
import Derived.Carry
import Derived.Deep.DeepHandedRow
import Derived.Lib.SmallJoins
import Derived.Test.YtdjjmcblhpjchaaGreatDoorCards
import Derived.Test.YtdjjmcblhpjchaaGreatDoorTie
import Derived.Lib.LaidTab
import Derived.Stop.LaidErr
import Derived.Test.YtdjjmcblhpjchaaGreatDoorPk1
import Derived.Test.YtdjjmcblhpjchaaGreatDoorPk2
import Derived.Test.YtdjjmcblhpjchaaGreatDoorPk3
import Derived.Test.YtdjjmcblhpjchaaGreatDoorPk4
import Derived.Test.YtdjjmcblhpjchaaGreatDoorPk5
import Derived.Test.YtdjjmcblhpjchaaGreatDoorPk6
/-
  The rows of examples at the end of each law of package hurdlelaw10; an argument that is a policy.
-/
namespace Go.Proofs.YtdjjmcblhpjchaaGreatDoor
open Go.ChangeShapes Go.WideShapes Go.ChangeAt Go.RowKit Go.Deep
set_option maxRecDepth 100000

def exC : Cd := ⟨0, 0, 4294967295, 1⟩
def exR : Rl := ⟨3221225534, 1, 2147418112, [exC]⟩
def exP : Po := ⟨[exR], 0⟩
theorem exC_ok : exC.ok := ⟨by decide, by decide⟩
theorem exC_right : exC.right = true := by decide
theorem exR_ok : exR.ok := ⟨by decide, by decide, by decide, fun c hc => by rw [List.mem_singleton.1 hc]; exact exC_ok⟩
theorem act_allow : actT 2147418112 = some ⟨#[97, 108, 108, 111, 119]⟩ := by rfl
theorem act_kill : actT 0 = some ⟨#[107, 105, 108, 108]⟩ := by rfl
theorem exR_right : exR.right = true := rl_right (by decide) (by show (actT 2147418112).isSome = true; rw [act_allow]; rfl) (fun c hc => by rw [List.mem_singleton.1 hc]; exact exC_right)
theorem exP_ok : exP.ok := ⟨by decide, fun x hx => by rw [List.mem_singleton.1 hx]; exact exR_ok⟩
theorem exP_right : exP.right = true := right_po (by decide) (by show (actT 0).isSome = true; rw [act_kill]; rfl) (fun x hx => by rw [List.mem_singleton.1 hx]; exact exR_right)
theorem hex_all : Wd.hex 4294967295 = [102, 102, 102, 102, 102, 102, 102, 102] := by
  rw [Wd.hex_ge (by omega), Wd.hex_ge (by omega), Wd.hex_ge (by omega), Wd.hex_ge (by omega), Wd.hex_ge (by omega), Wd.hex_ge (by omega), Wd.hex_ge (by omega), Wd.hex_lt (by omega)]
  rfl
theorem hex_one : Wd.hex 1 = [49] := by
  rw [Wd.hex_lt (by omega)]
  rfl
theorem kill_line : lineD 0 = [100, 101, 102, 97, 117, 108, 116, 32, 107, 105, 108, 108] := by
  unfold lineD defW actB
  rw [act_kill]
  rfl
def exT : List UInt8 := [111, 110, 32, 120, 54, 52, 32, 119, 114, 105, 116, 101, 32, 97, 108, 108, 111, 119, 32, 105, 102, 32, 97, 48, 32, 48, 120, 102, 102, 102, 102, 102, 102, 102, 102, 32, 101, 113, 32, 48, 120, 49, 10, 100, 101, 102, 97, 117, 108, 116, 32, 107, 105, 108, 108, 10]
theorem exP_text : textP exP = exT := by
  have e : lineL exR = [111, 110, 32, 120, 54, 52, 32, 119, 114, 105, 116, 101, 32, 97, 108, 108, 111, 119, 32, 105, 102, 32, 97, 48, 32, 48, 120, 102, 102, 102, 102, 102, 102, 102, 102, 32, 101, 113, 32, 48, 120, 49] := by
    have e1 : textQ exC = [97, 48, 32, 48, 120, 102, 102, 102, 102, 102, 102, 102, 102, 32, 101, 113, 32, 48, 120, 49] := by
      show argW 0 ++ 32 :: ((48 :: 120 :: Wd.hex 4294967295) ++ 32 :: (cmpW 0 ++ 32 :: (48 :: 120 :: Wd.hex 1))) = _
      rw [hex_all, hex_one]
      rfl
    rw [lineL_eq]
    show lineH exR ++ (condL 0 exC ++ []) = _
    unfold condL
    rw [e1]
    unfold lineH actB
    show ([111, 110, 32] ++ bl (textN machT 3221225534) ++ [32] ++ bl (textN (callT 3221225534) 1) ++ [32] ++ bl ((actT 2147418112).getD ⟨#[]⟩)) ++ _ = _
    rw [act_allow]
    rfl
  show (lineL exR ++ [10]) ++ [] ++ (lineD 0 ++ [10]) = _
  rw [e, kill_line]
  rfl
theorem polT_ex : polT exT = (exP, 0, 0) := by
  have h := polT_text exP_ok exP_right
  rw [exP_text, if_neg (by decide)] at h
  exact h
theorem polB_ex : polB exP = bsT exT := by
  unfold polB
  rw [exP_text]
def exH : List UInt8 := [100, 101, 102, 97, 117, 108, 116, 32, 107, 105, 108, 108, 10, 104, 97, 121, 10]
theorem polT_hay : polT exH = (zeroPo, 13, 2) := by
  have e : exH = lineD 0 ++ 10 :: ([104, 97, 121] ++ 10 :: []) := by
    rw [kill_line]
    rfl
  unfold polT
  rw [if_neg (by decide), e, lines_def, lines_cut (by decide), lines_nil, rdP_go (stepP_def (readR_def_none _) (readD_line (by decide) (by rw [act_kill]; rfl))), rdP_done, kill_line]
  rfl
/-! ### What is looked at -/
def smallR (x : Rl) : Bool := decide (x.conds.length ≤ 20)
def greatP (p : Po) : Bool := !(p.rules.all smallR) || decide (100 < p.rules.length)
set_option maxHeartbeats 8000000 in
theorem great_any (rv : Value) (p : Po) (w : World) (hL : LAt w rv p.rules) (hl : p.rules.length ≤ 9223372036854775807) (hl2 : ∀ x ∈ p.rules, x.conds.length ≤ 9223372036854775807) :
    Calls Tryz.prog 5 #[poV rv p.dflt] w fun e w' => e = .returned (.bool (greatP p)) ∧ Below w.heap.size w w' := by
  obtain ⟨rs, d⟩ := p
  simp only at hL hl hl2
  obtain ⟨ao, cap, rfl, hrows⟩ := hL.rows
  have HROW := Lib.hid hrows
  have HX0 := Lib.hid (heap_alloc_new w (poB (.slice ao rs.length cap) d))
  have HB0 := Lib.hid (ba (poB (.slice ao rs.length cap) d) (Below.refl w.heap.size w))
  obtain ⟨W, hW⟩ : ∃ W, W = w.alloc (poB (.slice ao rs.length cap) d) := ⟨_, rfl⟩
  rw [← hW] at HX0 HB0
  obtain ⟨R, hR⟩ : ∃ R, R = greatP ⟨rs, d⟩ := ⟨_, rfl⟩
  rw [← hR]
  have HR := Lib.hid hR
  have HL2 := Lib.hid hl2
  clear hR hrows hL hl2
  go_enter Tryz.func5, Tryz.ntmps5
  go_upto_region 1 with fail
  change Code.wp _ _ _ _ (w.alloc (poB (.slice ao rs.length cap) d))
  rw [← hW]
  clear hW
  go_wp2_with fail
  go_loopw [3] (fun i wr => ∃ k : Nat, k ≤ rs.length ∧ i = .int .i64 k ∧ Below w.heap.size w wr ∧ wr.heap[w.heap.size]? = some (poB (.slice ao rs.length cap) d) ∧ (rs.take k).all smallR = true) (fun i _ => rs.length - (Lib.intOf i).toNat)
  case atStart => exact ⟨0, Nat.zero_le _, rfl, HB0.out, HX0.out, rfl⟩
  case round =>
    obtain ⟨k, hk, rfl, hbw, hxx, hall⟩ := hrel
    have HB := Lib.hid hbw
    have HX := Lib.hid hxx
    have HA := Lib.hid hall
    clear hbw hxx hall HB0 HX0
    obtain ⟨c0, c1⟩ := pbox HX.out
    by_cases hlt : k < rs.length
    · obtain ⟨b, off, cv, rfl, hb', hcv, d0, d1, d2, d3⟩ := HROW.out k hlt
      obtain ⟨x, hx⟩ : ∃ x, x = rs[k] := ⟨_, rfl⟩
      rw [← hx] at hcv d0 d1 d3
      have hxl : x.conds.length ≤ 9223372036854775807 := by rw [hx]; exact HL2.out _ (List.getElem_mem hlt)
      obtain ⟨co, ccap, rfl⟩ := hcv.shape
      have HXR := Lib.hid hx
      have e2 := (HB.out.cell (p := ⟨b, _, none⟩) hb').trans d2
      have l0 : (k : Int) < (rs.length : Int) := by omega
      have l1 : (0 : Int) ≤ (k : Int) := by omega
      have l2 : (k : Int).toNat = k := by omega
      clear hx d0 d1 d2 d3 hcv
      by_cases h20 : 20 < x.conds.length
      · have HE : Hid (R = true) := Lib.hid (by
          rw [HR.out]
          unfold greatP
          rw [not_all (P := smallR) hlt (by rw [← HXR.out]; unfold smallR; simp; omega)]
          rfl)
        have hb : decide ((20 : Int) < (x.conds.length : Int)) = true := by simp; omega
        clear h20
        go_wp2_with fail
        go_ret
        exact ⟨by rw [HE.out]; rfl, HB.out⟩
      · have HN : Hid ((rs.take (k + 1)).all smallR = true) := Lib.hid (take_all_succ hlt HA.out (by rw [← HXR.out]; unfold smallR; simp; omega))
        have hb : decide ((20 : Int) < (x.conds.length : Int)) = false := by simp; omega
        clear h20
        go_wp2_with fail
        go_roundw
        case rel => exact ⟨k + 1, by omega, by go_num, HB.out, HX.out, HN.out⟩
        case measure => simp [Lib.intOf]; omega
    · have HE : Hid (R = decide (100 < rs.length)) := Lib.hid (by
        rw [HR.out]
        unfold greatP
        rw [take_all_end (by omega) HA.out]
        rfl)
      have hn : ¬ ((k : Int) < (rs.length : Int)) := by omega
      by_cases h100 : 100 < rs.length
      · have hb : decide ((100 : Int) < (rs.length : Int)) = true := by simp; omega
        have HE2 : Hid (R = true) := Lib.hid (by rw [HE.out]; simp; omega)
        clear h100
        go_wp2_with fail
        go_ret
        exact ⟨by rw [HE2.out]; rfl, HB.out⟩
      · have hb : decide ((100 : Int) < (rs.length : Int)) = false := by simp; omega
        have HE2 : Hid (R = false) := Lib.hid (by rw [HE.out]; simp; omega)
        clear h100
        go_wp2_with fail
        go_ret
        exact ⟨by rw [HE2.out]; rfl, HB.out⟩
/-! ### The rows of examples -/
theorem parse_ex (w : World) (ht : Tab w) : Calls Tryz.prog 11 #[.string ⟨#[111, 110, 32, 120, 54, 52, 32, 119, 114, 105, 116, 101, 32, 97, 108, 108, 111, 119, 32, 105, 102, 32, 97, 48, 32, 48, 120, 102, 102, 102, 102, 102, 102, 102, 102, 32, 101, 113, 32, 48, 120, 49, 10, 100, 101, 102, 97, 117, 108, 116, 32, 107, 105, 108, 108, 10]⟩] w fun e w' => (∃ rv, LAt w' rv [exR] ∧ e = .returned (.tuple #[poV rv 0, .int .i64 0, .int .i64 0])) ∧ Below w.heap.size w w' := by
  refine (ppparse_any (bsT exT) w ht).mono ?_
  rintro e w' ⟨⟨rv, hL, he⟩, hb⟩
  have h : polT (bsT exT).data.toList = (exP, 0, 0) := polT_ex
  rw [h] at hL he
  exact ⟨⟨rv, hL, he⟩, hb⟩
theorem parse_hay (w : World) (ht : Tab w) : Calls Tryz.prog 11 #[.string ⟨#[100, 101, 102, 97, 117, 108, 116, 32, 107, 105, 108, 108, 10, 104, 97, 121, 10]⟩] w fun e w' => (∃ rv, LAt w' rv [] ∧ e = .returned (.tuple #[poV rv 0, .int .i64 13, .int .i64 2])) ∧ Below w.heap.size w w' := by
  refine (ppparse_any (bsT exH) w ht).mono ?_
  rintro e w' ⟨⟨rv, hL, he⟩, hb⟩
  have h : polT (bsT exH).data.toList = (zeroPo, 13, 2) := polT_hay
  rw [h] at hL he
  exact ⟨⟨rv, hL, he⟩, hb⟩
theorem print_ex (rv : Value) (w : World) (hL : LAt w rv [exR]) (ht : Tab w) : Calls Tryz.prog 7 #[poV rv 0] w fun e w' => e = .returned (.tuple #[.string ⟨#[111, 110, 32, 120, 54, 52, 32, 119, 114, 105, 116, 101, 32, 97, 108, 108, 111, 119, 32, 105, 102, 32, 97, 48, 32, 48, 120, 102, 102, 102, 102, 102, 102, 102, 102, 32, 101, 113, 32, 48, 120, 49, 10, 100, 101, 102, 97, 117, 108, 116, 32, 107, 105, 108, 108, 10]⟩, .int .i64 0]) ∧ Below w.heap.size w w' := by
  have h := ppprint_good rv exP w hL exP_ok exP_right ht
  rw [polB_ex] at h
  exact h
theorem right_ex (rv : Value) (w : World) (hL : LAt w rv [exR]) (ht : Tab w) : Calls Tryz.prog 9 #[poV rv 0] w fun e w' => e = .returned (.bool true) ∧ Below w.heap.size w w' := by
  have h := ppright_any rv exP w hL exP_ok (by decide) (fun x hx => by rw [List.mem_singleton.1 hx]; decide) ht
  rw [exP_right] at h
  exact h
set_option maxHeartbeats 8000000 in
theorem pknows_any (w : World) (ht : Tab w) :
    Calls Tryz.prog 6 #[] w fun e w' => e = .returned (.bool true) ∧ Below w.heap.size w w' := by
  have HTab := Lib.hid ht
  clear ht
  go_enter Tryz.func6, Tryz.ntmps6
  go_wp2_with fail
  refine (parse_ex _ HTab.out).mono ?_
  rintro e w1 ⟨⟨rv, hL, rfl⟩, hb1⟩
  obtain ⟨b, off, cap, cv, hrv, hbw, hcv, d0, d1, d2, d3⟩ := hL.row (i := 0) (by decide)
  have hrv2 : rv = .slice (some ⟨b, off, none⟩) 1 cap := hrv
  clear hrv
  subst hrv2
  obtain ⟨co, ccap, rfl⟩ := hcv.shape
  have HB1 := Lib.hid hb1
  have HL1 := Lib.hid hL
  have E1 : Hid (w1.cell? ⟨b, off + 1, none⟩ = some (.int .u32 1)) := Lib.hid (by
    simp only [Nat.zero_mul, Nat.add_zero] at d1
    exact d1)
  have E2 : Hid (w1.cell? ⟨b, off + 2, none⟩ = some (.slice co 1 ccap)) := Lib.hid (by
    simp only [Nat.zero_mul, Nat.add_zero] at d2
    exact d2)
  clear d0 d1 d2 d3 hcv hL hb1
  go_upto_region 3 with fail
  obtain ⟨W2, hW2⟩ : ∃ V, V = w1.alloc (poB (.slice (some ⟨b, off, none⟩) 1 cap) 0) := ⟨_, rfl⟩
  have hb2 : Below w1.heap.size w1 W2 := by rw [hW2]; exact ba _ (Below.refl _ _)
  have HX2 : Hid (W2.heap[w1.heap.size]? = some (poB (.slice (some ⟨b, off, none⟩) 1 cap) 0)) := Lib.hid (by rw [hW2]; exact heap_alloc_new w1 _)
  have HB2 := Lib.hid (below2 HB1.out hb2)
  have HL2 := Lib.hid (HL1.out.below hb2)
  have E12 := Lib.hid ((hb2.cell (p := ⟨b, _, none⟩) hbw).trans E1.out)
  have E22 := Lib.hid ((hb2.cell (p := ⟨b, _, none⟩) hbw).trans E2.out)
  have hbw2 : b < W2.heap.size := Nat.lt_of_lt_of_le hbw hb2.size
  change Code.wp _ _ _ _ (w1.alloc (poB (.slice (some ⟨b, off, none⟩) 1 cap) 0))
  rw [← hW2]
  clear hW2 hb2 HB1 HL1 E1 E2 hbw
  generalize w1.heap.size = gx at *
  obtain ⟨c0, c1⟩ := pbox HX2.out
  go_wp2_with fail
  refine (print_ex _ _ HL2.out (HTab.out.below HB2.out)).mono ?_
  rintro e w3 ⟨rfl, hb3⟩
  have HX3 := Lib.hid (kb hb3 HX2.out)
  have HB3 := Lib.hid (below2 HB2.out hb3)
  have HL3 := Lib.hid (HL2.out.below hb3)
  have E13 := Lib.hid ((hb3.cell (p := ⟨b, _, none⟩) hbw2).trans E12.out)
  have E23 := Lib.hid ((hb3.cell (p := ⟨b, _, none⟩) hbw2).trans E22.out)
  have hbw3 : b < w3.heap.size := Nat.lt_of_lt_of_le hbw2 hb3.size
  clear hb3 HX2 HB2 HL2 E12 E22 c0 c1 hbw2
  go_wp2_with fail
  refine (parse_hay _ (HTab.out.below HB3.out)).mono ?_
  rintro e w4 ⟨⟨rv4, hL4, rfl⟩, hb4⟩
  obtain ⟨ao4, cap4, hrv4⟩ := hL4.shape
  have hrv5 : rv4 = .slice ao4 0 cap4 := hrv4
  clear hrv4
  subst hrv5
  have HX4 := Lib.hid (kb hb4 HX3.out)
  have HB4 := Lib.hid (below2 HB3.out hb4)
  have HL4 := Lib.hid (HL3.out.below hb4)
  have E14 := Lib.hid ((hb4.cell (p := ⟨b, _, none⟩) hbw3).trans E13.out)
  have E24 := Lib.hid ((hb4.cell (p := ⟨b, _, none⟩) hbw3).trans E23.out)
  have hbw4 : b < w4.heap.size := Nat.lt_of_lt_of_le hbw3 hb4.size
  clear hb4 HX3 HB3 HL3 E13 E23 hbw3 hL4
  go_upto_region 5 with fail
  obtain ⟨W5, hW5⟩ : ∃ V, V = w4.alloc (poB (.slice ao4 0 cap4) 0) := ⟨_, rfl⟩
  have hb5 : Below w4.heap.size w4 W5 := by rw [hW5]; exact ba _ (Below.refl _ _)
  have HX5 := Lib.hid (kb hb5 HX4.out)
  have HB5 := Lib.hid (below2 HB4.out hb5)
  have HL5 := Lib.hid (HL4.out.below hb5)
  have e1 := (hb5.cell (p := ⟨b, _, none⟩) hbw4).trans E14.out
  have e2 := (hb5.cell (p := ⟨b, _, none⟩) hbw4).trans E24.out
  change Code.wp _ _ _ _ (w4.alloc (poB (.slice ao4 0 cap4) 0))
  rw [← hW5]
  clear hW5 hb5 HX4 HB4 HL4 E14 E24 hbw4
  generalize w4.heap.size = gy at *
  obtain ⟨c0, c1⟩ := pbox HX5.out
  go_wp2_with fail
  refine (right_ex _ _ HL5.out (HTab.out.below HB5.out)).mono ?_
  rintro e w6 ⟨rfl, hb6⟩
  have HB6 := Lib.hid (below2 HB5.out hb6)
  clear hb6 c0 c1 e1 e2
  go_wp2_with fail
  go_ret
  exact ⟨rfl, HB6.out⟩
/-- The last word of a law: the rows of examples. -/
theorem pknow_end {a w : World} (hb : Below a.heap.size a w) (ht : Tab a) : Calls Tryz.prog 6 #[] w fun e w' => e = .returned (.bool true) ∧ Below a.heap.size a w' :=
  (pknows_any w (ht.below hb)).mono fun _ _ ⟨he, h⟩ => ⟨he, below2 hb h⟩
/-! ### What comes of a text, by letters -/
theorem polT_small {s : List UInt8} {p : Po} {i n : Nat} (h : polT s = (p, i, n)) : p.rules.length ≤ 64 ∧ ∀ x ∈ p.rules, x.conds.length ≤ 9223372036854775807 := by
  by_cases hn : n = 0
  · subst hn
    obtain ⟨h64, _, hrr⟩ := po_right (polT_sound h).2.2.1
    exact ⟨h64, fun x hx => by have := (right_conds (hrr x hx)).1; omega⟩
  · rcases polT_zero s with hz | hz
    · rw [h] at hz; exact absurd hz hn
    · rw [h] at hz
      obtain rfl : p = zeroPo := hz
      exact ⟨Nat.zero_le _, fun x hx => by cases hx⟩
/-- As PPEnd, where what comes is known by letters. -/
def PPIs (p : Po) (i n : Nat) (w' : World) (e : Ending) : Prop :=
  ∃ ao cap, LAt w' (.slice ao p.rules.length cap) p.rules ∧ e = .returned (.tuple #[poV (.slice ao p.rules.length cap) p.dflt, .int .i64 (i : Nat), .int .i64 (n : Nat)])
theorem ppIs_of {l : List UInt8} {p : Po} {i n : Nat} {w' : World} {e : Ending} (h : polT l = (p, i, n)) (hE : PPEnd l w' e) : PPIs p i n w' e := by
  obtain ⟨rv, hL, he⟩ := hE
  rw [h] at hL he
  obtain ⟨ao, cap, rfl⟩ := hL.shape
  exact ⟨ao, cap, hL, he⟩
theorem pparse_is {s : ByteArray} {p : Po} {i n : Nat} (h : polT s.data.toList = (p, i, n)) (w : World) (ht : Tab w) : Calls Tryz.prog 11 #[.string s] w fun e w' => PPIs p i n w' e ∧ Below w.heap.size w w' :=
  (ppparse_any s w ht).mono fun _ _ ⟨hE, hb⟩ => ⟨ppIs_of h hE, hb⟩
theorem rparse_is {s : ByteArray} {p : Po} {i n : Nat} (h : polT s.data.toList = (p, i, n)) (w : World) : Calls Tryz.prog 12 #[.string s] w fun e w' => PPIs p i n w' e ∧ Below w.heap.size w w' :=
  (rparse10_any s w).mono fun _ _ ⟨hE, hb⟩ => ⟨ppIs_of h hE, hb⟩
end Go.Proofs.YtdjjmcblhpjchaaGreatDoor
/-
  What is the same for every law: what is owed once the call is known to return true and to leave all that was there as it was.
-/
namespace Go.Proofs.YtdjjmcblhpjchaaGreatDoor
open Go.ChangeShapes Go.WideShapes Go.ChangeAt Go.RowKit

section
variable {H : Type} {enc : TypeId × Value → H} {P : Program}
/-- Arguments read in a world that has only grown as they read before. -/
theorem args_stay (hl : laidOutB P = true) {W W' : World} (hb : Below W.heap.size W W') :
    ∀ (ts : List TypeId) (vs : List Value) (ds : List (DataW H)) (ps : List MemPlace), (∀ t ∈ ts, P.readableRec t = true ∧ t < P.types.size) → (∀ x ∈ ps, x.block < W.heap.size) →
      DataW.TrodAll enc P W 0 (fun _ => true) true ts vs ds ps → DataW.TrodAll enc P W' 0 (fun b => decide (b < W.heap.size)) true ts vs ds ps
  | [], _, _, _, _, _, h => by
    obtain ⟨rfl, rfl, rfl⟩ := trodAll_nil h
    exact trodAll_mk0
  | t :: ts, _, _, _, hts, hlt, h => by
    obtain ⟨v, vs, d, ds, p, q, rfl, rfl, rfl, h1, h2⟩ := trodAll_cons h
    have ht := hts t (List.mem_cons_self)
    exact trodAll_cons_mk (Below.trod hl ht.1 ht.2 h1 hb (fun x hx => hlt x (List.mem_append_left _ hx)))
      (args_stay hl hb ts vs ds q (fun u hu => hts u (List.mem_cons_of_mem _ hu)) (fun x hx => hlt x (List.mem_append_right _ hx)) h2)

/-- What a law owes behind its call: true was returned, and nothing below the heap's old size has changed. -/
theorem law_post {f : Func} {s : ChangeSpec} {tb : TypeId} (hl : laidOutB P = true) (hts : ∀ t ∈ f.params.toList, P.readableRec t = true ∧ t < P.types.size) (hrt : f.resultTypes = #[tb]) (htb : P.underlying tb = some .bool)
    (hv : s.vars = []) (hfn : ∀ ds : List (DataW H), ds.length = f.params.toList.length → s.fn H ds = { results := [.lit (.bool true)], args := ds })
    {W W' : World} {args : Array Value} {ds gs : List (DataW H)} {before : List MemPlace} (hW : DataW.Whole enc P f.params.toList s.vars false W args.toList ds gs before) (hB : Below W.heap.size W W') :
    s.post enc P f false true false false W args (.bool true) W' := by
  have hlt : ∀ x ∈ before, x.block < W.heap.size := fun x hx => by simpa using hW.lt x hx
  have hW' := hW
  obtain ⟨p, q, hA, hV, rfl, _, _⟩ := hW
  rw [hv] at hV
  obtain ⟨rfl, rfl⟩ := trodVars_none hV
  have hlen : ds.length = f.params.toList.length := by
    have aux : ∀ (ts : List TypeId) (vs : List Value) (ds : List (DataW H)) (ps : List MemPlace), DataW.TrodAll enc P W 0 (fun _ => true) true ts vs ds ps → ds.length = ts.length := by
      intro ts
      induction ts with
      | nil => intro vs ds ps h; obtain ⟨_, rfl, _⟩ := trodAll_nil h; rfl
      | cons t ts ih =>
        intro vs ds ps h
        obtain ⟨v, vs, d, ds, p, q, _, rfl, _, _, h2⟩ := trodAll_cons h
        simp [ih vs ds q h2]
    exact aux _ _ _ _ hA
  have e := hfn ds hlen
  refine ⟨ds, [], _, [], p, [], hW', ?_, ?_, ?_, ?_, fun h => by cases h⟩
  · rw [List.append_nil, e, hrt]
    exact trodAll_cons_mk (shut_bool htb _) trodAll_mk0
  · rw [List.append_nil, e]
    exact args_stay hl hB _ _ _ _ hts (fun x hx => hlt x (List.mem_append_left _ hx)) hA
  · rw [List.append_nil, e, hv]
    exact rfl
  · exact hB.frame _
end

theorem own : ownKnob Tryz.prog.godebug = none := by kernel_rfl
theorem laidOut : laidOutB Tryz.prog = true := by kernel_rfl

end Go.Proofs.YtdjjmcblhpjchaaGreatDoor

/-
  An argument that is bytes: what the row's reading of it gives of the world's cells.
-/
namespace Go.Proofs.YtdjjmcblhpjchaaGreatDoor
open Go.ChangeShapes Go.WideShapes Go.ChangeAt Go.RowKit Go.Deep
set_option maxRecDepth 100000

section
variable {H : Type} {enc : TypeId × Value → H} {W : World} {base : Nat} {v : Value} {d : DataW H} {p : List MemPlace}
end
end Go.Proofs.YtdjjmcblhpjchaaGreatDoor
/-
  Package-level variables that a row lists: how they are taken off the list.
-/
namespace Go.Proofs.YtdjjmcblhpjchaaGreatDoor
open Go.ChangeShapes Go.WideShapes Go.ChangeAt Go.RowKit

/-- The listed numbers of a table. -/
def numsOf : DataW Unit → List Int
  | .agg l => l.map fun | .lit (.int _ n) => n | _ => 0
  | _ => []
/-- The cells of a listed table. -/
def cellsOfD (k : IntKind) (d : DataW Unit) : Array Value := ((numsOf d).map fun n => Value.int k n).toArray
/-- A block's cells, put in. -/
def laidBlock (cs : Array Value) : Obj → Obj
  | .cells _ t fr => .cells cs t fr
  | o => o
end Go.Proofs.YtdjjmcblhpjchaaGreatDoor

/-
  Arguments that are filters or bytes: what the row's reading of them gives of the world's cells.
-/
namespace Go.Proofs.YtdjjmcblhpjchaaGreatDoor
open Go.ChangeShapes Go.WideShapes Go.ChangeAt Go.RowKit Go.Deep
set_option maxRecDepth 100000

section
variable {H : Type} {enc : TypeId × Value → H} {W : World} {base : Nat} {v : Value} {d : DataW H} {p : List MemPlace}
end
end Go.Proofs.YtdjjmcblhpjchaaGreatDoor

/-
  The listed tables: what the rows list of package-level variables, what that says of the world, and a world for the witness.
-/
namespace Go.Proofs.YtdjjmcblhpjchaaGreatDoor
open Go.ChangeShapes Go.WideShapes Go.ChangeAt Go.RowKit
set_option maxRecDepth 100000

theorem gTab : Tryz.prog.globalNamed "math/bits.deBruijn64tab" = some 3 := by kernel_rfl
theorem gTabType : (Tryz.prog.globals[3]?).map (·.type) = some 156 := by kernel_rfl
theorem cells64 : Tryz.prog.cellsOf 156 = 64 := by kernel_rfl
theorem cells8 : Tryz.prog.cellsOf 5 = 1 := by kernel_rfl
end Go.Proofs.YtdjjmcblhpjchaaGreatDoor
/-
  The listed tables of the laws of package hurdlelaw08: what they say of the world, and a world for the witness.
-/
namespace Go.Proofs.YtdjjmcblhpjchaaGreatDoor
open Go.ChangeShapes Go.WideShapes Go.ChangeAt Go.RowKit
set_option maxRecDepth 100000

/-- What the rows list of package-level variables. -/
def laysQ : List (String × DataW Unit) := [("math/bits.deBruijn32tab", Rows.laid_math_bits_deBruijn32tab), ("math/bits.deBruijn64tab", Rows.laid_math_bits_deBruijn64tab), ("internal/strconv.uint64pow10", Rows.laid_internal_strconv_uint64pow10), ("unicode/utf8.acceptRanges", Rows.laid_unicode_utf8_acceptRanges), ("unicode/utf8.first", Rows.laid_unicode_utf8_first)]
theorem tabOfQ : (Rows.laid_math_bits_deBruijn64tab : DataW Unit) = Lib.tabData .u8 (numsOf Rows.laid_math_bits_deBruijn64tab) := rfl
theorem qtab_of {W : World} (h : laidMetH Tryz.prog laysQ W) : Tab W := by
  have h1 : laidMet Tryz.prog laysQ W := h
  have h2 := laidMet.tail h1
  rw [tabOfQ] at h2
  have ht := Lib.tabIs_of_head gTab gTabType Tryz.underlying156 Tryz.underlying5 cells8 cells64 h2
  have hc : W.cell? ⟨3, 15, none⟩ = some (.int .u8 4) := ht.cell gTab 15 (by decide)
  refine ⟨hc, ?_⟩
  apply Nat.lt_of_not_le
  intro hle
  have e : W.heap[3]? = none := by simp; exact hle
  simp [World.cell?, e] at hc
/-- The listed numbers of a table of small structs. -/
def numsFlat : DataW Unit → List Int
  | .agg l => l.flatMap fun d => match d with | .agg m => m.map (fun x => match x with | .lit (.int _ n) => n | _ => 0) | _ => [0]
  | _ => []
/-- A world for the witness. -/
noncomputable def laidWorldQ (os : Os) : World :=
  { World.holding Tryz.prog os ⟨#[], #[], []⟩ with heap := (((((World.holding Tryz.prog os ⟨#[], #[], []⟩).heap.modify 2 (laidBlock (cellsOfD .u8 Rows.laid_math_bits_deBruijn32tab))).modify 3 (laidBlock (cellsOfD .u8 Rows.laid_math_bits_deBruijn64tab))).modify 1 (laidBlock (cellsOfD .u64 Rows.laid_internal_strconv_uint64pow10))).modify 5 (laidBlock ((numsFlat Rows.laid_unicode_utf8_acceptRanges).map fun n => Value.int .u8 n).toArray)).modify 4 (laidBlock (cellsOfD .u8 Rows.laid_unicode_utf8_first)) }
end Go.Proofs.YtdjjmcblhpjchaaGreatDoor
