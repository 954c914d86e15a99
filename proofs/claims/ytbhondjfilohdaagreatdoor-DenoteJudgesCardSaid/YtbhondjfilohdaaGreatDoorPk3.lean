/-
  What the laws' texts use, joined.
-/
import Derived.Test.YtbhondjfilohdaaGreatDoorProg
import Derived.WalkKit
import Derived.Laws.BitsAllLaws
import Derived.RowKit
import Derived.ProofKit
import Derived.Lib.Hide
import Derived.Laws.Rows
import Derived.Laws.ResultCell
import Derived.Laws.Entries
import Derived.Handy
import Derived.OwnWalk
import Derived.Laws.OwnMore
import Derived.Deep.Draws
import Derived.Laws.IdiomStrings
import Derived.Lib.BufferRead
import Derived.Maps.OwnSet
import Derived.BigQuiet
import Derived.IntWalk
import Derived.Deep.RegionHeld3
import Derived.BigRegion
import Derived.Lib.OthersKept
import Derived.Lib.QuietBelow
import Derived.Laws.Tables
import Derived.Deep.DeepCutAuto
import Derived.Shelf.Strings.Builder1
import Derived.Shelf.Strings.Search1
import Derived.Lib.IndexLaws
import Derived.Lib.Split
import Derived.Deep.OwnRows
import Derived.Laws.Strings3
import Derived.Lib.Join
import Derived.Lib.MakeNoZero
import Derived.Lib.Builder
import Derived.Laws.IdiomCopy
import Derived.Deep.Cut
import Derived.Deep.Slices
import Derived.Maps.RangeWalk
import Derived.StringKeys
import Derived.Test.YtbhondjfilohdaaGreatDoorRows
import Derived.OpenShut
import Derived.Carry
import Derived.Deep.DeepHandedRow
import Derived.Lib.SmallJoins
import Derived.Test.YtbhondjfilohdaaGreatDoorPk1
import Derived.Test.YtbhondjfilohdaaGreatDoorPk2
/-
  Package cond: what Right, Not and Holds answer.
-/
namespace Go.Proofs.YtbhondjfilohdaaGreatDoor
open Go.ChangeShapes Go.WideShapes Go.ChangeAt Go.RowKit
set_option maxRecDepth 100000

/-- The tables that package cond reads. -/
def QTab (w : World) : Prop := Tab w
theorem QTab.below {w w' : World} (h : QTab w) (hb : Below w.heap.size w w') : QTab w' := Tab.below h hb

/-- The function of a comparison's row. -/
def fnC (k : Int) : Value := if k = 0 then .func (.func 49) #[] #[] else if k = 1 then .func (.func 50) #[] #[] else if k = 2 then .func (.func 51) #[] #[] else if k = 3 then .func (.func 52) #[] #[] else if k = 4 then .func (.func 53) #[] #[] else .func (.func 54) #[] #[]
theorem fnC_one (k : Int) : (fnC k).oneCell' = true := by
  unfold fnC
  repeat' split
  all_goals rfl
def cmpCells : Array Value := #[.string (wordT 0), .int .i64 1, fnC 0, .string (wordT 1), .int .i64 0, fnC 1, .string (wordT 2), .int .i64 5, fnC 2, .string (wordT 3), .int .i64 4, fnC 3, .string (wordT 4), .int .i64 3, fnC 4, .string (wordT 5), .int .i64 2, fnC 5]
theorem cmpCells_at {k : Nat} (h : k < 6) : cmpCells[k * 3]? = some (.string (wordT k)) ∧ cmpCells[k * 3 + 1]? = some (.int .i64 (notK k)) ∧ cmpCells[k * 3 + 2]? = some (fnC k) := by
  match k, h with
  | 0, _ => exact ⟨rfl, rfl, rfl⟩
  | 1, _ => exact ⟨rfl, rfl, rfl⟩
  | 2, _ => exact ⟨rfl, rfl, rfl⟩
  | 3, _ => exact ⟨rfl, rfl, rfl⟩
  | 4, _ => exact ⟨rfl, rfl, rfl⟩
  | 5, _ => exact ⟨rfl, rfl, rfl⟩
theorem cmpCells_lit : cmpCells = #[.string ⟨#[101, 113]⟩, .int .i64 1, .func (.func 49) #[] #[], .string ⟨#[110, 101]⟩, .int .i64 0, .func (.func 50) #[] #[], .string ⟨#[108, 116]⟩, .int .i64 5, .func (.func 51) #[] #[], .string ⟨#[108, 101]⟩, .int .i64 4, .func (.func 52) #[] #[], .string ⟨#[103, 116]⟩, .int .i64 3, .func (.func 53) #[] #[], .string ⟨#[103, 101]⟩, .int .i64 2, .func (.func 54) #[] #[]] := rfl

/-- A function is stored. -/
theorem run_storeF {F : Value} (hF : F.oneCell' = true) (a : Addr) (w : World) : (store a F).run Tryz.prog w = match w.cell? a with
      | some _ => if w.frozen? a then .halt (.unsupported (.unsafePointer "a write to bytes that a string shares")) w else .ok () (w.setCell a F)
      | none => match w.farStore Tryz.prog a F (Mode.plain == .atomic) with
        | .ok (w', _) => .ok () w'
        | .error h => .halt h w := run_store _ w a F _ hF
theorem comparisons_any (w : World) : Calls Tryz.prog 36 #[] w fun e w' => e = .returned (.slice (some ⟨w.heap.size, 0, none⟩) 6 6) ∧ w' = w.alloc (.cells cmpCells 62) := by
  go_enter Tryz.func36, Tryz.ntmps36
  go_wp2_with fail
  go_ret
  rw [cmpCells_lit]
  exact ⟨rfl, rfl⟩

/-- What a valid condition's comparison is, and of one that is not valid. -/
abbrev rowV (k : Int) : Value := .agg #[.string (wordT k), .int .i64 (notK k), fnC k]
abbrev noRow : Value := .agg #[.string ⟨#[]⟩, .int .i64 0, .nilFunc]
theorem compOf_good (c : Cd) (w : World) (hr : c.right = true) :
    Calls Tryz.prog 27 #[c.val] w fun e w' => e = .returned (.tuple #[rowV c.cmp, .bool true]) ∧ Below w.heap.size w w' := by
  have hrr := (c.right_iff).1 hr
  clear hr
  obtain ⟨arg, cmp, mask, value⟩ := c
  simp only at hrr ⊢
  obtain ⟨a0, a5, k0, k5⟩ := hrr
  obtain ⟨n, rfl⟩ : ∃ n : Nat, cmp = n := ⟨cmp.toNat, by omega⟩
  obtain ⟨m, rfl⟩ : ∃ n : Nat, arg = n := ⟨arg.toNat, by omega⟩
  obtain ⟨W, hW, X0, X1, HBx⟩ := box2 w (cdB ⟨m, n, mask, value⟩) (.cells #[.string ⟨#[]⟩, .int .i64 0, .nilFunc] 62)
  have HX0 := Lib.hid X0
  have HX1 := Lib.hid X1
  have HB := Lib.hid HBx
  have hn6 : n < 6 := by omega
  clear X0 X1 HBx
  go_enter Tryz.func27, Tryz.ntmps27
  go_upto_region 1 with fail
  rw [← hW]
  clear hW
  go_wp2_with fail
  refine (comparisons_any _).mono ?_
  rintro e w1 ⟨rfl, hw1⟩
  have HC1 : Hid (w1.heap[W.heap.size]? = some (.cells cmpCells 62)) := Lib.hid (by rw [hw1]; exact heap_alloc_new W _)
  have HX01 : Hid (w1.heap[w.heap.size]? = some (cdB ⟨m, n, mask, value⟩)) := Lib.hid (by rw [hw1]; exact ka _ HX0.out)
  have HX11 : Hid (w1.heap[w.heap.size + 1]? = some (.cells #[.string ⟨#[]⟩, .int .i64 0, .nilFunc] 62)) := Lib.hid (by rw [hw1]; exact ka _ HX1.out)
  have HB1 : Hid (Below w.heap.size w w1) := Lib.hid (by rw [hw1]; exact ba _ HB.out)
  clear hw1 HX0 HX1 HB
  obtain ⟨c0, c1, _, _⟩ := cdX HX01.out
  obtain ⟨r0, r1, r2⟩ := cmpCells_at hn6
  have d0 := (cell_in HC1.out (n * 3)).trans r0
  have d1 := (cell_in HC1.out (n * 3 + 1)).trans r1
  have d2 := (cell_in HC1.out (n * 3 + 2)).trans r2
  have l0 : ¬ (m : Int) < 0 := by omega
  have l1 : ¬ (6 : Int) ≤ (m : Int) := by omega
  have l2 : ¬ (n : Int) < 0 := by omega
  have l3 : ¬ (6 : Int) ≤ (n : Int) := by omega
  have f0 := free_in HX11.out 0
  have f1 := free_in HX11.out 1
  have f2 := free_in HX11.out 2
  have e0 := cell_in HX11.out 0
  have e1 := cell_in HX11.out 1
  have e2 := cell_in HX11.out 2
  have hst := run_storeF (fnC_one n)
  clear r0 r1 r2 a0 a5 k0 k5
  go_wp2_with fail
  (try simp only [Exit.inBlock, Exit.then])
  refine bodyPost_ret (v := .tuple #[.agg #[.string (wordT (n : Int)), .int .i64 (notK (n : Int)), fnC (n : Int)], .bool true]) ?_ rfl ⟨rfl, ?_⟩
  · rw [results_cell_tmp rfl]
    go_simp
  · have hB := HB1.out
    go_grown
/-- Where one of a condition's numbers is off. -/
theorem bad_cd {c : Cd} (hr : c.right = false) : c.arg < 0 ∨ (0 ≤ c.arg ∧ 6 ≤ c.arg) ∨ (0 ≤ c.arg ∧ c.arg < 6 ∧ c.cmp < 0) ∨ (0 ≤ c.arg ∧ c.arg < 6 ∧ 0 ≤ c.cmp ∧ 6 ≤ c.cmp) := by
  have : ¬ c.right = true := by rw [hr]; simp
  rw [Cd.right_iff] at this
  omega
theorem compOf_bad (c : Cd) (w : World) (hr : c.right = false) :
    Calls Tryz.prog 27 #[c.val] w fun e w' => e = .returned (.tuple #[noRow, .bool false]) ∧ Below w.heap.size w w' := by
  have hbad := bad_cd hr
  clear hr
  obtain ⟨arg, cmp, mask, value⟩ := c
  simp only at hbad
  obtain ⟨W, hW, X0, X1, HBx⟩ := box2 w (cdB ⟨arg, cmp, mask, value⟩) (.cells #[.string ⟨#[]⟩, .int .i64 0, .nilFunc] 62)
  have HX0 := Lib.hid X0
  have HX1 := Lib.hid X1
  have HB := Lib.hid HBx
  have HBad := Lib.hid hbad
  clear X0 X1 HBx hbad
  go_enter Tryz.func27, Tryz.ntmps27
  go_upto_region 1 with fail
  rw [← hW]
  clear hW
  go_wp2_with fail
  refine (comparisons_any _).mono ?_
  rintro e w1 ⟨rfl, hw1⟩
  have HX01 : Hid (w1.heap[w.heap.size]? = some (cdB ⟨arg, cmp, mask, value⟩)) := Lib.hid (by rw [hw1]; exact ka _ HX0.out)
  have HX11 : Hid (w1.heap[w.heap.size + 1]? = some (.cells #[.string ⟨#[]⟩, .int .i64 0, .nilFunc] 62)) := Lib.hid (by rw [hw1]; exact ka _ HX1.out)
  have HB1 : Hid (Below w.heap.size w w1) := Lib.hid (by rw [hw1]; exact ba _ HB.out)
  clear hw1 HX0 HX1 HB
  obtain ⟨c0, c1, _, _⟩ := cdX HX01.out
  have f0 := free_in HX11.out 0
  have f1 := free_in HX11.out 1
  have f2 := free_in HX11.out 2
  have hst := run_storeF (F := .nilFunc) rfl
  have e0 := cell_in HX11.out 0
  have e1 := cell_in HX11.out 1
  have e2 := cell_in HX11.out 2
  rcases HBad.out with h | ⟨h0, h⟩ | ⟨h0, h1, h⟩ | ⟨h0, h1, h2, h⟩
  · have g : decide (arg < 0) = true := by simpa using h
    clear h
    go_wp2_with fail
    (try simp only [Exit.inBlock, Exit.then])
    refine bodyPost_ret (v := .tuple #[.agg #[.string ⟨#[]⟩, .int .i64 0, .nilFunc], .bool false]) ?_ rfl ⟨rfl, ?_⟩
    · rw [results_cell_tmp rfl]
      go_simp
    · have hB := HB1.out
      go_grown
  · have g0 : decide (arg < 0) = false := by simpa using h0
    have g : decide (6 ≤ arg) = true := by simpa using h
    clear h h0
    go_wp2_with fail
    (try simp only [Exit.inBlock, Exit.then])
    refine bodyPost_ret (v := .tuple #[.agg #[.string ⟨#[]⟩, .int .i64 0, .nilFunc], .bool false]) ?_ rfl ⟨rfl, ?_⟩
    · rw [results_cell_tmp rfl]
      go_simp
    · have hB := HB1.out
      go_grown
  · have g0 : decide (arg < 0) = false := by simpa using h0
    have g1 : decide (6 ≤ arg) = false := by simpa using h1
    have g : decide (cmp < 0) = true := by simpa using h
    clear h h0 h1
    go_wp2_with fail
    (try simp only [Exit.inBlock, Exit.then])
    refine bodyPost_ret (v := .tuple #[.agg #[.string ⟨#[]⟩, .int .i64 0, .nilFunc], .bool false]) ?_ rfl ⟨rfl, ?_⟩
    · rw [results_cell_tmp rfl]
      go_simp
    · have hB := HB1.out
      go_grown
  · have g0 : decide (arg < 0) = false := by simpa using h0
    have g1 : decide (6 ≤ arg) = false := by simpa using h1
    have g2 : decide (cmp < 0) = false := by simpa using h2
    have g : decide (6 ≤ cmp) = true := by simpa using h
    clear h h0 h1 h2
    go_wp2_with fail
    (try simp only [Exit.inBlock, Exit.then])
    refine bodyPost_ret (v := .tuple #[.agg #[.string ⟨#[]⟩, .int .i64 0, .nilFunc], .bool false]) ?_ rfl ⟨rfl, ?_⟩
    · rw [results_cell_tmp rfl]
      go_simp
    · have hB := HB1.out
      go_grown
/-- Both at once. -/
theorem compOf_any (c : Cd) (w : World) :
    Calls Tryz.prog 27 #[c.val] w fun e w' => (∃ T K F, e = .returned (.tuple #[.agg #[.string T, .int .i64 K, F], .bool c.right]) ∧ F.oneCell' = true ∧ (c.right = true → T = wordT c.cmp ∧ K = notK c.cmp ∧ F = fnC c.cmp)) ∧ Below w.heap.size w w' := by
  cases hr : c.right
  · refine (compOf_bad c w hr).mono ?_
    rintro e w' ⟨rfl, h⟩
    exact ⟨⟨_, _, _, rfl, rfl, fun h => by cases h⟩, h⟩
  · refine (compOf_good c w hr).mono ?_
    rintro e w' ⟨rfl, h⟩
    exact ⟨⟨_, _, _, rfl, fnC_one _, fun _ => ⟨rfl, rfl, rfl⟩⟩, h⟩
theorem qright_any (c : Cd) (w : World) (_ht : QTab w) :
    Calls Tryz.prog 35 #[c.val] w fun e w' => e = .returned (.bool c.right) ∧ Below w.heap.size w w' := by
  have HX := Lib.hid (heap_alloc_new w (cdB c))
  have HB := Lib.hid (ba (cdB c) (Below.refl w.heap.size w))
  obtain ⟨W, hW⟩ : ∃ W, W = w.alloc (cdB c) := ⟨_, rfl⟩
  rw [← hW] at HX HB
  obtain ⟨c0, c1, c2, c3⟩ := cdX HX.out
  go_enter Tryz.func35, Tryz.ntmps35
  go_upto_region 1 with fail
  rw [← hW]
  clear hW
  go_wp2_with fail
  refine (compOf_any c _).mono ?_
  rintro e w1 ⟨⟨T, K, F, rfl, hF, _⟩, hb1⟩
  have HB1 := Lib.hid (below2 HB.out hb1)
  have hst := run_storeF hF
  obtain ⟨r, hr⟩ : ∃ r, c.right = r := ⟨_, rfl⟩
  rw [hr]
  have HR := Lib.hid hr
  clear hb1 hr
  go_wp2_with fail
  go_ret
  refine ⟨by rw [HR.out]; rfl, ?_⟩
  have hB := HB1.out
  have hs := hB.size
  go_grown
theorem cmpB0 (a b : Nat) : cmpB 0 a b = ((a : Int) == (b : Int)) := by
  rw [Bool.eq_iff_iff]
  simp [cmpB]
  omega
theorem clo0 (a b : Nat) (w : World) :
    Calls Tryz.prog 49 #[.int .u64 (a : Nat), .int .u64 (b : Nat)] w fun e w' => e = .returned (.bool (cmpB 0 a b)) ∧ w' = w := by
  rw [cmpB0]
  go_enter Tryz.func49, Tryz.ntmps49
  go_wp2_with fail
  go_ret
  exact ⟨rfl, rfl⟩
theorem cmpB1 (a b : Nat) : cmpB 1 a b = ((a : Int) != (b : Int)) := by
  rw [Bool.eq_iff_iff]
  simp [cmpB]
  omega
theorem clo1 (a b : Nat) (w : World) :
    Calls Tryz.prog 50 #[.int .u64 (a : Nat), .int .u64 (b : Nat)] w fun e w' => e = .returned (.bool (cmpB 1 a b)) ∧ w' = w := by
  rw [cmpB1]
  go_enter Tryz.func50, Tryz.ntmps50
  go_wp2_with fail
  go_ret
  exact ⟨rfl, rfl⟩
theorem cmpB2 (a b : Nat) : cmpB 2 a b = decide (a < b) := rfl
theorem clo2 (a b : Nat) (w : World) :
    Calls Tryz.prog 51 #[.int .u64 (a : Nat), .int .u64 (b : Nat)] w fun e w' => e = .returned (.bool (cmpB 2 a b)) ∧ w' = w := by
  rw [cmpB2]
  go_enter Tryz.func51, Tryz.ntmps51
  go_wp2_with fail
  go_ret
  exact ⟨rfl, rfl⟩
theorem cmpB3 (a b : Nat) : cmpB 3 a b = decide (a ≤ b) := rfl
theorem clo3 (a b : Nat) (w : World) :
    Calls Tryz.prog 52 #[.int .u64 (a : Nat), .int .u64 (b : Nat)] w fun e w' => e = .returned (.bool (cmpB 3 a b)) ∧ w' = w := by
  rw [cmpB3]
  go_enter Tryz.func52, Tryz.ntmps52
  go_wp2_with fail
  go_ret
  exact ⟨rfl, rfl⟩
theorem cmpB4 (a b : Nat) : cmpB 4 a b = decide (b < a) := rfl
theorem clo4 (a b : Nat) (w : World) :
    Calls Tryz.prog 53 #[.int .u64 (a : Nat), .int .u64 (b : Nat)] w fun e w' => e = .returned (.bool (cmpB 4 a b)) ∧ w' = w := by
  rw [cmpB4]
  go_enter Tryz.func53, Tryz.ntmps53
  go_wp2_with fail
  go_ret
  exact ⟨rfl, rfl⟩
theorem cmpB5 (a b : Nat) : cmpB 5 a b = decide (b ≤ a) := rfl
theorem clo5 (a b : Nat) (w : World) :
    Calls Tryz.prog 54 #[.int .u64 (a : Nat), .int .u64 (b : Nat)] w fun e w' => e = .returned (.bool (cmpB 5 a b)) ∧ w' = w := by
  rw [cmpB5]
  go_enter Tryz.func54, Tryz.ntmps54
  go_wp2_with fail
  go_ret
  exact ⟨rfl, rfl⟩
set_option maxHeartbeats 4000000 in
theorem qholds_any (c : Cd) (d : Rec) (w : World) (hc : c.ok) (hd : d.ok) (_ht : QTab w) :
    Calls Tryz.prog 18 #[c.val, d.val] w fun e w' => e = .returned (.bool (c.holds d)) ∧ Below w.heap.size w w' := by
  obtain ⟨W, hW, X0, X1, HBx⟩ := box2 w (cdB c) (.cells d.cells 32)
  have HX := Lib.hid X0
  have HD := Lib.hid X1
  have HB := Lib.hid HBx
  clear X0 X1 HBx
  obtain ⟨c0, c1, c2, c3⟩ := cdX HX.out
  go_enter Tryz.func18, Tryz.ntmps18
  go_upto_region 1 with fail
  change Code.wp _ _ _ _ ((w.alloc (cdB c)).alloc (.cells d.cells 32))
  rw [← hW]
  clear hW
  go_wp2_with fail
  refine (compOf_any c _).mono ?_
  rintro e w1 ⟨⟨T, K, F, rfl, hF, hv⟩, hb1⟩
  have HB1 := Lib.hid (below2 HB.out hb1)
  have HX1 := Lib.hid (kb hb1 HX.out)
  have HD1 := Lib.hid (kb hb1 HD.out)
  have hst := run_storeF hF
  clear hb1 c0 c1 c2 c3 HX HD HB
  have hlt : w.heap.size < w1.heap.size := lt_of_block HX1.out
  have hlt2 : w.heap.size + 1 < w1.heap.size := lt_of_block HD1.out
  have HV := Lib.hid hv
  clear hv
  cases hr : c.right
  · have HN : Hid (c.holds d = false) := Lib.hid (holds_bad hr d)
    clear hr
    go_upto_region 2 with fail
    obtain ⟨W2, hW2⟩ : ∃ W2, W2 = w1.alloc (.cells #[.string T, .int .i64 K, F] 62) := ⟨_, rfl⟩
    have HB2 : Hid (Below w.heap.size w W2) := Lib.hid (by rw [hW2]; exact ba _ HB1.out)
    change Code.wp _ _ _ _ (w1.alloc (.cells #[.string T, .int .i64 K, F] 62))
    rw [← hW2]
    clear hW2 hst
    go_quiet (fail)
    go_wp2_with fail
    go_ret
    exact ⟨by rw [HN.out]; rfl, bdN HB2.out _⟩
  · obtain ⟨a0, a5, k0, k5⟩ := (c.right_iff).1 hr
    have HR : Hid (c.holds d = cmpB c.cmp (c.bits d) c.value) := Lib.hid (by unfold Cd.holds; rw [hr]; rfl)
    have HF2 := Lib.hid (HV.out hr).2.2
    obtain ⟨n, hn⟩ : ∃ n : Nat, c.arg = n := ⟨c.arg.toNat, by omega⟩
    have hn6 : n < 6 := by omega
    obtain ⟨A, hA⟩ : ∃ A, A = (argsD d).getD n 0 := ⟨_, rfl⟩
    have hA64 : A < 18446744073709551616 := by rw [hA]; exact args_lt hd n
    have hBT : bits .and .u64 (A : Int) (c.mask : Int) = (c.bits d : Int) := by
      rw [u64_and_nat _ _ hA64 hc.1]
      unfold Cd.bits
      rw [hn, hA]
      rfl
    have x3 := (cell_in HD1.out (3 + n)).trans (args_cell d n hn6)
    rw [← hA] at x3
    have HD0 := HD1.out
    have HX0 := HX1.out
    obtain ⟨arg, cmp, mask, value⟩ := c
    simp only at hn k0 k5 HR HF2 hBT ⊢
    subst hn
    go_upto_region 2 with fail
    obtain ⟨W2, hW2⟩ : ∃ W2, W2 = w1.alloc (.cells #[.string T, .int .i64 K, F] 62) := ⟨_, rfl⟩
    have HB2 : Hid (Below w.heap.size w W2) := Lib.hid (by rw [hW2]; exact ba _ HB1.out)
    have hx2 : W2.heap[w.heap.size]? = some (cdB ⟨n, cmp, mask, value⟩) := by rw [hW2]; exact ka _ HX1.out
    have hd2 : W2.heap[w.heap.size + 1]? = some (.cells d.cells 32) := by rw [hW2]; exact ka _ HD1.out
    have hr2 : W2.heap[w1.heap.size]? = some (.cells #[.string T, .int .i64 K, F] 62) := by rw [hW2]; exact heap_alloc_new w1 _
    obtain ⟨c0, c1, c2, c3⟩ := cdX hx2
    have y0 := cell_regrown c0
    have y2 := cell_regrown c2
    have y3 := cell_regrown c3
    have yA := cell_regrown (((cell_in hd2 (3 + n)).trans (args_cell d n hn6)).trans (by rw [← hA]))
    have y4 := cell_regrown (cell_in hr2 2)
    change Code.wp _ _ _ _ (w1.alloc (.cells #[.string T, .int .i64 K, F] 62))
    rw [← hW2]
    obtain ⟨B, hB⟩ : ∃ B, B = (⟨n, cmp, mask, value⟩ : Cd).bits d := ⟨_, rfl⟩
    rw [← hB] at HR hBT
    have l0 : (0 : Int) ≤ (n : Int) := by omega
    have l1 : (n : Int) < 6 := by omega
    have t1 : (n : Int).toNat = n := by omega
    have HK := Lib.hid (six k0 k5)
    obtain rfl := HF2.out
    clear HF2
    clear hW2 hst hF HV hB hA hA64 HD0 HX0 hx2 hd2 hr2 c0 c1 c2 c3 x3 HX1 HD1 HB1 hr a0 a5 k0 k5
    rcases HK.out with rfl | rfl | rfl | rfl | rfl | rfl
    · have cF : ∀ d' os, Calls Tryz.prog 49 #[.int .u64 (B : Nat), .int .u64 (value : Nat)] (Sort.grow (redrawn W2 d') os) fun e w'' => e = .returned (.bool (cmpB 0 B value)) ∧ ∃ p : Regrown, w'' = Sort.grow (redrawn W2 p.d) p.os := fun d' os => Calls.regrown_of ((clo0 B value _).mono fun e w' h => ⟨h.1, by rw [h.2]; exact Below.refl _ _⟩)
      change ∀ d' os, (Sort.grow (redrawn W2 d') os).cell? ⟨w1.heap.size, 2, none⟩ = some (.func (.func 49) #[] #[]) at y4
      generalize cmpB 0 B value = R at *
      refine wp_region_quiet_below (by kernel_rfl) (by kernel_rfl) ?_
      repeat (quiet_step (with_reducible exact cF _ _))
      refine wpQuiet_nil ?_
      intro _ hw'
      obtain ⟨⟨dq, osq⟩, hw''⟩ := hw'
      subst hw''
      have HBq := Lib.hid (HB2.out.trans ((below_regrown W2 dq osq).mono HB2.out.size))
      clear y0 y2 y3 y4 yA cF
      generalize Sort.grow (redrawn W2 dq) osq = Wq at *
      go_wp2_with fail
      go_ret
      exact ⟨by rw [HR.out]; rfl, HBq.out⟩
    · have cF : ∀ d' os, Calls Tryz.prog 50 #[.int .u64 (B : Nat), .int .u64 (value : Nat)] (Sort.grow (redrawn W2 d') os) fun e w'' => e = .returned (.bool (cmpB 1 B value)) ∧ ∃ p : Regrown, w'' = Sort.grow (redrawn W2 p.d) p.os := fun d' os => Calls.regrown_of ((clo1 B value _).mono fun e w' h => ⟨h.1, by rw [h.2]; exact Below.refl _ _⟩)
      change ∀ d' os, (Sort.grow (redrawn W2 d') os).cell? ⟨w1.heap.size, 2, none⟩ = some (.func (.func 50) #[] #[]) at y4
      generalize cmpB 1 B value = R at *
      refine wp_region_quiet_below (by kernel_rfl) (by kernel_rfl) ?_
      repeat (quiet_step (with_reducible exact cF _ _))
      refine wpQuiet_nil ?_
      intro _ hw'
      obtain ⟨⟨dq, osq⟩, hw''⟩ := hw'
      subst hw''
      have HBq := Lib.hid (HB2.out.trans ((below_regrown W2 dq osq).mono HB2.out.size))
      clear y0 y2 y3 y4 yA cF
      generalize Sort.grow (redrawn W2 dq) osq = Wq at *
      go_wp2_with fail
      go_ret
      exact ⟨by rw [HR.out]; rfl, HBq.out⟩
    · have cF : ∀ d' os, Calls Tryz.prog 51 #[.int .u64 (B : Nat), .int .u64 (value : Nat)] (Sort.grow (redrawn W2 d') os) fun e w'' => e = .returned (.bool (cmpB 2 B value)) ∧ ∃ p : Regrown, w'' = Sort.grow (redrawn W2 p.d) p.os := fun d' os => Calls.regrown_of ((clo2 B value _).mono fun e w' h => ⟨h.1, by rw [h.2]; exact Below.refl _ _⟩)
      change ∀ d' os, (Sort.grow (redrawn W2 d') os).cell? ⟨w1.heap.size, 2, none⟩ = some (.func (.func 51) #[] #[]) at y4
      generalize cmpB 2 B value = R at *
      refine wp_region_quiet_below (by kernel_rfl) (by kernel_rfl) ?_
      repeat (quiet_step (with_reducible exact cF _ _))
      refine wpQuiet_nil ?_
      intro _ hw'
      obtain ⟨⟨dq, osq⟩, hw''⟩ := hw'
      subst hw''
      have HBq := Lib.hid (HB2.out.trans ((below_regrown W2 dq osq).mono HB2.out.size))
      clear y0 y2 y3 y4 yA cF
      generalize Sort.grow (redrawn W2 dq) osq = Wq at *
      go_wp2_with fail
      go_ret
      exact ⟨by rw [HR.out]; rfl, HBq.out⟩
    · have cF : ∀ d' os, Calls Tryz.prog 52 #[.int .u64 (B : Nat), .int .u64 (value : Nat)] (Sort.grow (redrawn W2 d') os) fun e w'' => e = .returned (.bool (cmpB 3 B value)) ∧ ∃ p : Regrown, w'' = Sort.grow (redrawn W2 p.d) p.os := fun d' os => Calls.regrown_of ((clo3 B value _).mono fun e w' h => ⟨h.1, by rw [h.2]; exact Below.refl _ _⟩)
      change ∀ d' os, (Sort.grow (redrawn W2 d') os).cell? ⟨w1.heap.size, 2, none⟩ = some (.func (.func 52) #[] #[]) at y4
      generalize cmpB 3 B value = R at *
      refine wp_region_quiet_below (by kernel_rfl) (by kernel_rfl) ?_
      repeat (quiet_step (with_reducible exact cF _ _))
      refine wpQuiet_nil ?_
      intro _ hw'
      obtain ⟨⟨dq, osq⟩, hw''⟩ := hw'
      subst hw''
      have HBq := Lib.hid (HB2.out.trans ((below_regrown W2 dq osq).mono HB2.out.size))
      clear y0 y2 y3 y4 yA cF
      generalize Sort.grow (redrawn W2 dq) osq = Wq at *
      go_wp2_with fail
      go_ret
      exact ⟨by rw [HR.out]; rfl, HBq.out⟩
    · have cF : ∀ d' os, Calls Tryz.prog 53 #[.int .u64 (B : Nat), .int .u64 (value : Nat)] (Sort.grow (redrawn W2 d') os) fun e w'' => e = .returned (.bool (cmpB 4 B value)) ∧ ∃ p : Regrown, w'' = Sort.grow (redrawn W2 p.d) p.os := fun d' os => Calls.regrown_of ((clo4 B value _).mono fun e w' h => ⟨h.1, by rw [h.2]; exact Below.refl _ _⟩)
      change ∀ d' os, (Sort.grow (redrawn W2 d') os).cell? ⟨w1.heap.size, 2, none⟩ = some (.func (.func 53) #[] #[]) at y4
      generalize cmpB 4 B value = R at *
      refine wp_region_quiet_below (by kernel_rfl) (by kernel_rfl) ?_
      repeat (quiet_step (with_reducible exact cF _ _))
      refine wpQuiet_nil ?_
      intro _ hw'
      obtain ⟨⟨dq, osq⟩, hw''⟩ := hw'
      subst hw''
      have HBq := Lib.hid (HB2.out.trans ((below_regrown W2 dq osq).mono HB2.out.size))
      clear y0 y2 y3 y4 yA cF
      generalize Sort.grow (redrawn W2 dq) osq = Wq at *
      go_wp2_with fail
      go_ret
      exact ⟨by rw [HR.out]; rfl, HBq.out⟩
    · have cF : ∀ d' os, Calls Tryz.prog 54 #[.int .u64 (B : Nat), .int .u64 (value : Nat)] (Sort.grow (redrawn W2 d') os) fun e w'' => e = .returned (.bool (cmpB 5 B value)) ∧ ∃ p : Regrown, w'' = Sort.grow (redrawn W2 p.d) p.os := fun d' os => Calls.regrown_of ((clo5 B value _).mono fun e w' h => ⟨h.1, by rw [h.2]; exact Below.refl _ _⟩)
      change ∀ d' os, (Sort.grow (redrawn W2 d') os).cell? ⟨w1.heap.size, 2, none⟩ = some (.func (.func 54) #[] #[]) at y4
      generalize cmpB 5 B value = R at *
      refine wp_region_quiet_below (by kernel_rfl) (by kernel_rfl) ?_
      repeat (quiet_step (with_reducible exact cF _ _))
      refine wpQuiet_nil ?_
      intro _ hw'
      obtain ⟨⟨dq, osq⟩, hw''⟩ := hw'
      subst hw''
      have HBq := Lib.hid (HB2.out.trans ((below_regrown W2 dq osq).mono HB2.out.size))
      clear y0 y2 y3 y4 yA cF
      generalize Sort.grow (redrawn W2 dq) osq = Wq at *
      go_wp2_with fail
      go_ret
      exact ⟨by rw [HR.out]; rfl, HBq.out⟩

end Go.Proofs.YtbhondjfilohdaaGreatDoor
/-
  What strings.SplitN answers at a mark of one byte.
-/
namespace Go.Proofs.YtbhondjfilohdaaGreatDoor
open Go.ChangeShapes Go.WideShapes Go.ChangeAt Go.RowKit
set_option maxRecDepth 100000

/-- A text of these bytes. -/
abbrev bsT (l : List UInt8) : ByteArray := ⟨l.toArray⟩
/-- The pieces of a text between marks, of so many marks at most. -/
def cutsL (c : UInt8) : Nat → List UInt8 → List (List UInt8)
  | 0, l => [l]
  | k + 1, l => if Lib.indexByte l c = -1 then [l] else l.take (Lib.indexByte l c).toNat :: cutsL c k (l.drop ((Lib.indexByte l c).toNat + 1))
theorem cutsL_miss {c : UInt8} {l : List UInt8} (k : Nat) (h : Lib.indexByte l c = -1) : cutsL c k l = [l] := by
  cases k with
  | zero => rfl
  | succ k => unfold cutsL; rw [if_pos h]
theorem cutsL_hit {c : UInt8} {l : List UInt8} {o : Nat} (k : Nat) (h : Lib.indexByte l c = o) : cutsL c (k + 1) l = l.take o :: cutsL c k (l.drop (o + 1)) := by
  have e : (Lib.indexByte l c).toNat = o := by omega
  rw [cutsL, if_neg (by omega), e]
theorem cutsL_len (c : UInt8) : ∀ (k : Nat) (l : List UInt8), 1 ≤ (cutsL c k l).length ∧ (cutsL c k l).length ≤ k + 1
  | 0, _ => ⟨Nat.le_refl _, Nat.le_refl _⟩
  | k + 1, l => by
    unfold cutsL
    split
    · simp
    · have := cutsL_len c k (l.drop ((Lib.indexByte l c).toNat + 1))
      simp only [List.length_cons]
      omega
/-- The cells of the pieces. -/
def cutCells (ps : List (List UInt8)) (N : Nat) : Array Value := Lib.cellsOf (ps.map bsT) N

theorem strIndex_any (s : ByteArray) (c : UInt8) (w : World) :
    Calls Tryz.prog 92 #[.string s, .string ⟨#[c]⟩] w fun e w' => e = .returned (.int .i64 (Lib.indexByte s.data.toList c)) ∧ w = w' := by
  go_enter Tryz.func92, Tryz.ntmps92
  go_wp2_with fail
  refine (sIndex_any s c w).mono ?_
  rintro e w' ⟨rfl, rfl⟩
  go_wp2_with fail
  go_ret
  exact ⟨rfl, rfl⟩
theorem info9 : (Tryz.prog.info? 9).map (fun i => (i.zero, i.size, i.bytes)) = some (some (.string ByteArray.empty), 1, 16) := by kernel_rfl

set_option maxHeartbeats 4000000 in
theorem genSplit_any (s : List UInt8) (c : UInt8) (n N : Nat) (w : World) (hs : s.length ≤ 4611686018427387904) (hn : 1 ≤ n) (hN : N = min n (s.length + 1)) (hn2 : n ≤ 1048576) :
    Calls Tryz.prog 82 #[.string (bsT s), .string ⟨#[c]⟩, .int .i64 0, .int .i64 n] w fun e w' =>
      e = .returned (.slice (some ⟨w.heap.size, 0, none⟩) (cutsL c (N - 1) s).length N) ∧ w' = w.alloc (.cells (cutCells (cutsL c (N - 1) s) N) 9) := by
  have hne : ((n : Int) == 0) = false := beq_eq_false_iff_ne.2 (by omega)
  have hneg : ¬ (n : Int) < 0 := by omega
  have hsz : (bsT s).size = s.length := by simp [ByteArray.size]
  have hmin : min (n : Int) ((s.length : Int) + 1) = (N : Int) := by rw [hN]; omega
  have hNs : (N : Int) ≤ (s.length : Int) + 1 := by omega
  have hN1 : (1 : Int) ≤ (N : Int) := by omega
  have hN2 : (N : Int) ≤ 1048576 := by omega
  have hmk := run_make_row' (P := Tryz.prog) 95 9 (.string ByteArray.empty) 16 Tryz.underlying95 info9 rfl .i64 .i64 N (by omega) (by omega)
  obtain ⟨S, hS⟩ : ∃ S, S = bsT s := ⟨_, rfl⟩
  rw [← hS] at hsz
  rw [← hS]
  have HS0 := Lib.hid hS
  clear hS hN
  go_enter Tryz.func82, Tryz.ntmps82
  go_wp2_with fail
  clear hmk
  go_loopw [0, 10] (fun s0 s10 wr => ∃ (done : List (List UInt8)) (rest : List UInt8), s0 = .string (bsT rest) ∧ s10 = .int .i64 (done.length : Nat) ∧ done.length ≤ N - 1 ∧ rest.length ≤ s.length ∧
      wr = w.alloc (.cells (cutCells done N) 9) ∧ Hid (done ++ cutsL c (N - 1 - done.length) rest = cutsL c (N - 1) s)) (fun _ i _ => N - 1 - (Lib.intOf i).toNat)
  case atStart => exact ⟨[], s, by rw [HS0.out], rfl, Nat.zero_le _, Nat.le_refl _, by unfold cutCells; rw [List.map_nil, Lib.cellsOf_nil], Lib.hid rfl⟩
  case round =>
    obtain ⟨done, rest, rfl, rfl, hd, hrs, rfl, HC⟩ := hrel
    have hnext : (cutCells done N)[done.length]? = some (.string ByteArray.empty) := by
      have := Lib.cellsOf_next (done := done.map bsT) (N := N) (by rw [List.length_map]; omega)
      rwa [List.length_map] at this
    have hput : (cutCells done N).setIfInBounds done.length (.string (bsT rest)) = cutCells (done ++ [rest]) N := by
      have := Lib.cellsOf_set (done := done.map bsT) (N := N) (by rw [List.length_map]; omega) (bsT rest)
      rw [List.length_map] at this
      unfold cutCells
      rw [this, List.map_append]
      rfl
    have hput2 : ∀ o, (cutCells done N).setIfInBounds done.length (.string (bsT (rest.take o))) = cutCells (done ++ [rest.take o]) N := by
      intro o
      have := Lib.cellsOf_set (done := done.map bsT) (N := N) (by rw [List.length_map]; omega) (bsT (rest.take o))
      rw [List.length_map] at this
      unfold cutCells
      rw [this, List.map_append]
      rfl
    have hcs : (cutCells done N).size = N := Lib.cellsOf_size (by rw [List.length_map]; omega)
    have hfin : Hid (cutsL c (N - 1 - done.length) rest = [rest] → (cutsL c (N - 1) s).length = done.length + 1 ∧ cutCells (done ++ [rest]) N = cutCells (cutsL c (N - 1) s) N) := Lib.hid (fun h => by
      have e := HC.out
      rw [h] at e
      rw [← e]
      exact ⟨by simp, rfl⟩)
    have hrz : (bsT rest).size = rest.length := by simp [ByteArray.size]
    have hxo : Hid (∀ o, (bsT rest).extract 0 o = bsT (rest.take o)) := Lib.hid (fun o => take_str _ _)
    have hxr : Hid (∀ o, (bsT rest).extract o (bsT rest).size = bsT (rest.drop o)) := Lib.hid (fun o => drop_str _ _)
    obtain ⟨R, hR⟩ : ∃ R, R = bsT rest := ⟨_, rfl⟩
    rw [← hR] at hrz hput hxo hxr
    rw [← hR]
    have hRl : R.data.toList = rest := by rw [hR]
    have HRl := Lib.hid hRl
    have HR := Lib.hid hR
    clear hR hRl
    by_cases hlt : done.length < N - 1
    · have hltz : ((done.length : Nat) : Int) < (N : Int) - 1 := by omega
      rcases index_cases rest c with ⟨hix, hno⟩ | ⟨o, ho, hix, hsp, hno⟩
      · have HI := Lib.hid hix
        clear hix
        go_wp2_with fail
        refine (strIndex_any _ c _).mono ?_
        rintro e w' ⟨rfl, rfl⟩
        rw [HRl.out, HI.out]
        go_wp2_with fail
        go_ret
        obtain ⟨f1, f2⟩ := hfin.out (cutsL_miss _ HI.out)
        rw [f1, ← f2]
        exact ⟨by first | rfl | (congr 2 <;> omega), rfl⟩
      · have HI := Lib.hid hix
        clear hix hsp hno
        have cb : R.size ≤ 4611686018427387904 := by omega
        have c0 : ¬ ((o : Int) < 0) := by omega
        have c1 : (0 : Int) ≤ ↑o := by omega
        have c2 : (o : Int) ≤ ↑R.size := by omega
        have c3 : (0 : Int) ≤ ↑o + 1 := by omega
        have c4 : (o + 1 : Int) ≤ ↑R.size := by omega
        go_wp2_with fail
        refine (strIndex_any _ c _).mono ?_
        rintro e w' ⟨rfl, rfl⟩
        rw [HRl.out, HI.out]
        go_wp2_with fail
        go_roundw
        case measure =>
          simp only [Lib.intOf]
          omega
        case rel =>
          refine ⟨done ++ [rest.take o], rest.drop (o + 1), by rw [← hrz, hxr.out], by simp, by rw [List.length_append]; simp only [List.length_singleton]; omega, by rw [List.length_drop]; omega, by rw [hxo.out, hput2], ?_⟩
          refine Lib.hid ?_
          rw [← HC.out, show N - 1 - done.length = (N - 1 - (done.length + 1)) + 1 by omega, cutsL_hit _ HI.out]
          simp
    · have hltz : ¬ (((done.length : Nat) : Int) < (N : Int) - 1) := by omega
      go_wp2_with fail
      go_ret
      obtain ⟨f1, f2⟩ := hfin.out (by rw [show N - 1 - done.length = 0 by omega]; rfl)
      rw [f1, ← f2]
      exact ⟨by first | rfl | (congr 2 <;> omega), rfl⟩

theorem splitN_any (s : List UInt8) (c : UInt8) (n N : Nat) (w : World) (hs : s.length ≤ 4611686018427387904) (hn : 1 ≤ n) (hN : N = min n (s.length + 1)) (hn2 : n ≤ 1048576) :
    Calls Tryz.prog 75 #[.string (bsT s), .string ⟨#[c]⟩, .int .i64 n] w fun e w' =>
      e = .returned (.slice (some ⟨w.heap.size, 0, none⟩) (cutsL c (N - 1) s).length N) ∧ w' = w.alloc (.cells (cutCells (cutsL c (N - 1) s) N) 9) := by
  have c1 := genSplit_any s c n N w hs hn hN hn2
  clear hs hN
  generalize cutsL c (N - 1) s = ps at *
  generalize bsT s = S at *
  go_enter Tryz.func75, Tryz.ntmps75
  go_wp2_with fail
  refine c1.mono ?_
  rintro e w' ⟨rfl, rfl⟩
  go_wp2_with fail
  go_ret
  exact ⟨rfl, rfl⟩
end Go.Proofs.YtbhondjfilohdaaGreatDoor
/-
  What strings.Join answers, where the whole takes at most 2^47 bytes.
-/
namespace Go.Proofs.YtbhondjfilohdaaGreatDoor
open Go.ChangeShapes Go.WideShapes Go.ChangeAt Go.RowKit
set_option maxRecDepth 100000

set_option maxHeartbeats 4000000 in
/-- A builder without a buffer grows. -/
theorem sbGrow0 (B b n : Nat) (w : World) (hB : B ≤ b) (hbk : w.heap[b]? = some (.cells #[.pointer (some ⟨b, 0, none⟩), .slice none 0 0] 109 (0, 0))) (hBw : B ≤ w.heap.size) (hn : n ≤ 281474976710656) :
    Calls Tryz.prog 80 #[.pointer (some ⟨b, 0, none⟩), .int .i64 n] w fun e w' => e = .returned (.tuple #[]) ∧ SB B b [] w' ∧ Below B w w' := by
  obtain ⟨cs, hrun, hle, hmax⟩ := Lib.run_makeNoZero (P := Tryz.prog) w.drew #[3] 90 5 Tryz.underlying90 n hn
  have hw : IntKind.i64.wrap (IntKind.i64.wrap 0 + (n : Int)) = n := by
    rw [IntKind.wrap_i64, IntKind.wrap_i64]
    omega
  have hcall : (callFunc 89 #[.int .i64 (IntKind.i64.wrap (IntKind.i64.wrap 0 + (n : Int)))]).run Tryz.prog w.drew = .ok (.value (.slice (some ⟨w.drew.heap.size, 0, none⟩) n cs.size)) (w.drew.drew.drew.alloc (.cells cs 5)) := by
    rw [hw, run_callFunc_extern Tryz.func89 (by kernel_rfl) (by kernel_rfl) (by kernel_rfl) (e := Extern.BytealgMakeNoZero.makeNoZero #[3] #[90]) (by kernel_rfl), hrun]
    rfl
  have hlt : b < w.heap.size := lt_of_block hbk
  have c1 : w.drew.cell? ⟨b, 1, none⟩ = some (.slice none 0 0) := by
    have : w.drew.heap[b]? = _ := hbk
    rw [Lib.cell_of_heap this]; rfl
  have c2 : (w.alloc (.cells cs 5)).cell? ⟨b, 1, none⟩ = some (.slice none 0 0) := by
    have : (w.alloc (.cells cs 5)).heap[b]? = _ := (Lib.alloc_old w _ b hlt).trans hbk
    rw [Lib.cell_of_heap this]; rfl
  have f2 : (w.alloc (.cells cs 5)).frozen? ⟨b, 1, none⟩ = false := Lib.frozen_of_heap ((Lib.alloc_old w _ b hlt).trans hbk) 1
  have hcopy : ∀ W : World, (Builtin.copy_ #[90, 90] 3 #[.slice (some ⟨w.heap.size, 0, none⟩) 0 cs.size, .slice none 0 0]).run Tryz.prog W = .ok (goInt 0) W :=
    fun W => run_copy_none W 90 90 3 5 _ _ 0 cs.size 0 0 Tryz.underlying90 (by kernel_rfl) rfl
  clear hw
  have hfin := Lib.grown_fresh (T := 109) (e := 5) (cs := cs) hB hbk hBw (hmax (by unfold maxLen; omega)) (by decide)
  rw [World.setCell_alloc_past _ _ _ _ hlt] at hfin
  have HF := Lib.hid hfin
  clear hfin hrun hmax hbk
  go_enter Tryz.func80, Tryz.ntmps80
  go_wp2_with fail
  go_region
  all_goals (go_wp2_with fail; go_end0; exact ⟨rfl, .inr HF.out.1, HF.out.2⟩)

/-- Grow at a builder that has not been written. -/
theorem sbGrow (b n : Nat) (w : World) (hbk : w.heap[b]? = some (.cells #[.pointer none, .slice none 0 0] 109 (0, 0))) (hn : n ≤ 281474976710656) (hn0 : 0 < n) :
    Calls Tryz.prog 70 #[.pointer (some ⟨b, 0, none⟩), .int .i64 n] w fun e w' => e = .returned (.tuple #[]) ∧ SB b b [] w' ∧ Below b w w' := by
  have hlt : b < w.heap.size := lt_of_block hbk
  have hbk1 : (w.setCell ⟨b, 0, none⟩ (.pointer (some ⟨b, 0, none⟩))).heap[b]? = some (.cells #[.pointer (some ⟨b, 0, none⟩), .slice none 0 0] 109 (0, 0)) := by
    simp [World.setCell, Array.getElem?_modify, hbk]
  have hb1 : Below b w (w.setCell ⟨b, 0, none⟩ (.pointer (some ⟨b, 0, none⟩))) := (Below.refl b w).setCell (p := ⟨b, 0, none⟩) (Nat.le_refl _) _
  have k0 : w.cell? ⟨b, 0, none⟩ = some (.pointer none) := by rw [Lib.cell_of_heap hbk]; rfl
  have k1 : w.shape? b = some (109, 2) := by simp [World.shape?, hbk]
  have k2 : w.frozen? ⟨b, 0, none⟩ = false := Lib.frozen_of_heap hbk 0
  have HB := Lib.hid hb1
  have HK := Lib.hid hbk1
  clear hb1 hbk1 hbk
  go_enter Tryz.func70, Tryz.ntmps70
  go_wp2_with fail
  refine (sbFresh b w k0 k1 k2).mono ?_
  rintro e w' ⟨rfl, hw'⟩
  rw [← hw'] at HB HK
  have hs' : w.heap.size ≤ w'.heap.size := HB.out.size
  clear k0 k1 k2 hw'
  have c1 : w'.cell? ⟨b, 1, none⟩ = some (.slice none 0 0) := by rw [Lib.cell_of_heap HK.out]; rfl
  go_wp2_with fail
  go_quiet (fail)
  go_wp2_with fail
  refine (sbGrow0 b b n _ (Nat.le_refl _) (show (World.drewN w' _).heap[b]? = _ from HK.out) (by show b ≤ w'.heap.size; omega) hn).mono ?_
  rintro e w2 ⟨rfl, h1, h2⟩
  have H1 := Lib.hid h1
  have H2 := Lib.hid ((bdN HB.out _).trans h2)
  clear h1 h2
  go_wp2_with fail
  go_end0
  exact ⟨rfl, H1.out, H2.out⟩

set_option maxHeartbeats 4000000 in
/-- strings.Join of two and more texts, at a mark of one byte. -/
theorem strJoin_any (bk o c : Nat) (xs : List (List UInt8)) (m : UInt8) (w : World) (hcells : ∀ j x, xs[j]? = some x → w.cell? ⟨bk, o + j, none⟩ = some (.string ⟨x.toArray⟩)) (hbk : bk < w.heap.size) (h2 : 2 ≤ xs.length) (hN : xs.length ≤ 140737488355328) (hcap : xs.length ≤ c)
    (hlen : (Lib.join xs [m]).length ≤ 140737488355328) :
    Calls Tryz.prog 59 #[.slice (some ⟨bk, o, none⟩) xs.length c, .string ⟨#[m]⟩] w fun e w' => e = .returned (.string ⟨(Lib.join xs [m]).toArray⟩) ∧ Below w.heap.size w w' := by
  have HC := Lib.hid hcells
  obtain ⟨x0, r, hxs⟩ : ∃ x0 r, xs = x0 :: r := by
    cases xs with
    | nil => simp at h2
    | cons a t => exact ⟨a, t, rfl⟩
  have hrl : r.length = xs.length - 1 := by rw [hxs]; simp
  have hJe : (Lib.join xs [m]).length = (xs.length - 1) + Lib.lens xs := by
    have := Lib.join_length x0 r [m]
    rw [hxs]
    rw [this]
    simp
  have hsum : (xs.length - 1) + Lib.lens xs ≤ 140737488355328 := by omega
  have hdv : ¬ (9223372036854775807 / ((xs.length : Int) - 1) ≤ 1) := by
    have : (2 : Int) ≤ 9223372036854775807 / ((xs.length : Int) - 1) := by
      rw [Int.le_ediv_iff_mul_le (by omega)]
      omega
    omega
  have hne0 : ((xs.length : Int) == 0) = false := beq_eq_false_iff_ne.2 (by omega)
  have hne1 : ((xs.length : Int) == 1) = false := beq_eq_false_iff_ne.2 (by omega)
  have Hxs := Lib.hid hxs
  have HJe := Lib.hid hJe
  have Hrl := Lib.hid hrl
  clear hxs hlen hJe hcells hrl
  go_enter Tryz.func59, Tryz.ntmps59
  go_wp2_with fail
  go_loop [5, 41] (fun n i => ∃ k : Nat, k ≤ xs.length ∧ i = .int .i64 k ∧ n = .int .i64 ((xs.length - 1 + Lib.lens (xs.take k) : Nat) : Int)) (fun _ i => xs.length - (Lib.intOf i).toNat)
  case atStart => exact ⟨0, Nat.zero_le _, rfl, by simp [Lib.lens]; omega⟩
  case round =>
    obtain ⟨k, hk, rfl, rfl⟩ := hrel
    by_cases hkn : k < xs.length
    · have hx : xs[k]? = some xs[k] := List.getElem?_eq_getElem hkn
      have hc := HC.out k _ hx
      have hstep := Lib.lens_take_succ xs k _ hx
      have hbound := Lib.lens_take_le xs (k + 1)
      have hxz : (⟨(xs[k]).toArray⟩ : ByteArray).size = xs[k].length := by simp [ByteArray.size]
      generalize (⟨(xs[k]).toArray⟩ : ByteArray) = X at hc hxz
      generalize xs[k].length = L at hstep hxz
      generalize hA1 : Lib.lens (xs.take (k + 1)) = A1 at hstep hbound
      generalize Lib.lens (xs.take k) = A0 at hstep
      have HA1 := Lib.hid hA1
      clear hA1 hx
      go_wp2_with fail
      exact ⟨⟨k + 1, by omega, by go_num, by rw [HA1.out]; refine congrArg _ ?_; omega⟩, by simp [Lib.intOf]; omega⟩
    · have hke : k = xs.length := by omega
      subst hke
      rw [List.take_of_length_le (Nat.le_refl _)]
      generalize hT : Lib.lens xs = T at hsum
      have HT := Lib.hid hT
      clear hT
      go_wp2_with fail
      have e1 : ((xs.length - 1 : Nat) : Int) + (T : Int) = ((xs.length - 1 + T : Nat) : Int) := by omega
      rw [e1]
      clear e1
      refine (sbGrow w.heap.size (xs.length - 1 + T) _ (heap_alloc_new w _) (by omega) (by omega)).mono ?_
      rintro e w1 ⟨rfl, h1, hb1⟩
      have H1 := Lib.hid h1
      have HB1 := Lib.hid (((Below.refl w.heap.size w).alloc (Nat.le_refl _) _).trans hb1)
      have hs1 : w.heap.size ≤ w1.heap.size := HB1.out.size
      have hc0 : w1.cell? ⟨bk, o, none⟩ = some (.string ⟨x0.toArray⟩) := by
        rw [HB1.out.cell (p := ⟨bk, o, none⟩) hbk]
        exact HC.out 0 x0 (by rw [Hxs.out]; rfl)
      have HW : Hid (Lib.join xs [m] = x0 ++ Lib.joinTail [m] r) := Lib.hid (by rw [Hxs.out, Lib.join_cons])
      have HLe : Hid (∀ k, (x0 ++ Lib.joinTail [m] (r.take k)).length ≤ 140737488355328) := Lib.hid (fun k => by
        have g1 := HJe.out
        rw [HW.out, HT.out, List.length_append] at g1
        have g2 := Lib.joinTail_take_le [m] r k
        rw [List.length_append]
        omega)
      clear h1 hb1
      go_wp2_with fail
      refine (sbWrite w.heap.size w.heap.size [] ⟨x0.toArray⟩ w1 H1.out (by have := HLe.out 0; simp [Lib.joinTail] at this; simpa [ByteArray.size] using this) hs1).mono ?_
      rintro e w2 ⟨rfl, h2', hb2⟩
      have H2 : Hid (SB w.heap.size w.heap.size (x0 ++ Lib.joinTail [m] (r.take 0)) w2) := Lib.hid (by simpa [Lib.joinTail] using h2')
      have HB2 := Lib.hid (HB1.out.trans hb2)
      have hrl2 : r.length = xs.length - 1 := Hrl.out
      clear h2' hb2 hc0 hs1
      go_wp2_with fail
      go_loopw [65] (fun i wr => ∃ k : Nat, k ≤ r.length ∧ i = .int .i64 k ∧ Hid (SB w.heap.size w.heap.size (x0 ++ Lib.joinTail [m] (r.take k)) wr) ∧ Hid (Below w.heap.size w wr)) (fun i _ => r.length - (Lib.intOf i).toNat)
      case atStart => exact ⟨0, Nat.zero_le _, rfl, H2, HB2⟩
      case round =>
        obtain ⟨k, hk', rfl, HB, HW'⟩ := hrel
        have hBw : w.heap.size ≤ wr.heap.size := HW'.out.size
        by_cases hkr : k < r.length
        · have hy : r[k]? = some r[k] := List.getElem?_eq_getElem hkr
          obtain ⟨y, hyy⟩ : ∃ y, y = r[k] := ⟨_, rfl⟩
          rw [← hyy] at hy
          have hcy : wr.cell? ⟨bk, o + 1 + k, none⟩ = some (.string ⟨y.toArray⟩) := by
            rw [HW'.out.cell (p := ⟨bk, o + 1 + k, none⟩) hbk, show o + 1 + k = o + (k + 1) by omega]
            exact HC.out (k + 1) y (by rw [Hxs.out]; simpa using hy)
          have HN : Hid (x0 ++ Lib.joinTail [m] (r.take k) ++ [m] ++ y = x0 ++ Lib.joinTail [m] (r.take (k + 1))) := Lib.hid (by
            rw [Lib.joinTail_take_succ [m] r k y hy]
            simp [List.append_assoc])
          have HL : Hid ((x0 ++ Lib.joinTail [m] (r.take k)).length + 1 + y.length ≤ 140737488355328) := Lib.hid (by
            have g := HLe.out (k + 1)
            rw [← HN.out] at g
            simp only [List.length_append, List.length_singleton] at g ⊢
            omega)
          clear hy hyy
          go_wp2_with fail
          refine (sbWrite w.heap.size w.heap.size _ ⟨#[m]⟩ wr HB.out (by have := HL.out; show _ + 1 ≤ _; omega) hBw).mono ?_
          rintro e w3 ⟨rfl, h3, hb3⟩
          have H3 := Lib.hid h3
          have HB3 := Lib.hid (HW'.out.trans hb3)
          have hs3 : w.heap.size ≤ w3.heap.size := HB3.out.size
          clear h3 hb3 hcy
          go_wp2_with fail
          refine (sbWrite w.heap.size w.heap.size _ ⟨y.toArray⟩ w3 H3.out (by have := HL.out; simp only [List.length_append] at this ⊢; show _ + _ + 1 + y.length ≤ _; omega) hs3).mono ?_
          rintro e w4 ⟨rfl, h4, hb4⟩
          have H4 : Hid (SB w.heap.size w.heap.size (x0 ++ Lib.joinTail [m] (r.take (k + 1))) w4) := Lib.hid (by rw [← HN.out]; exact h4)
          have HB4 := Lib.hid (HB3.out.trans hb4)
          clear h4 hb4
          go_wp2_with fail
          exact ⟨⟨k + 1, by omega, by go_num, H4, HB4⟩, by simp [Lib.intOf]; omega⟩
        · have hke : k = r.length := by omega
          subst hke
          have hfull : r.take r.length = r := List.take_of_length_le (Nat.le_refl _)
          have HB' := Lib.hid HB.out
          rw [hfull, ← HW.out] at HB'
          clear hfull
          go_wp2_with fail
          refine (sbString w.heap.size w.heap.size _ wr HB'.out hBw).mono ?_
          rintro e w5 ⟨rfl, hb5⟩
          have HB5 := Lib.hid (HW'.out.trans hb5)
          clear hb5
          go_wp2_with fail
          go_ret
          exact ⟨rfl, HB5.out⟩
end Go.Proofs.YtbhondjfilohdaaGreatDoor
/-
  Package cond: what Print answers.
-/
namespace Go.Proofs.YtbhondjfilohdaaGreatDoor
open Go.ChangeShapes Go.WideShapes Go.ChangeAt Go.RowKit
set_option maxRecDepth 100000

/-- An argument's text. -/
def argT (n : Nat) : ByteArray := ⟨(argW n).toArray⟩
theorem conv2 (w : World) (x y : UInt8) : (convert 90 9 (.slice (some ⟨w.heap.size, 0, none⟩) 2 2)).run Tryz.prog (w.alloc (.cells #[.int .u8 (x.toNat : Int), .int .u8 (y.toNat : Int)] 5)) = .ok (.string ⟨#[x, y]⟩) (w.alloc (.cells #[.int .u8 (x.toNat : Int), .int .u8 (y.toNat : Int)] 5)) := by
  refine run_convert_bytes_back _ _ _ 5 ⟨w.heap.size, 0, none⟩ 2 [x, y] Tryz.underlying90 Tryz.underlying5 Tryz.underlying9 (fun j hj => ?_)
  have hj2 : j < 2 := hj
  have h := new_at w #[.int .u8 (x.toNat : Int), .int .u8 (y.toNat : Int)] 5 j
  rcases j with _ | _ | j
  · exact h _ rfl
  · exact h _ rfl
  · omega
theorem argument_any (n : Nat) (w : World) (h : n < 6) : Calls Tryz.prog 83 #[.int .i64 n] w fun e w' => e = .returned (.string (argT n)) ∧ Below w.heap.size w w' := by
  have h6 : n = 0 ∨ n = 1 ∨ n = 2 ∨ n = 3 ∨ n = 4 ∨ n = 5 := by omega
  clear h
  rcases h6 with rfl | rfl | rfl | rfl | rfl | rfl
  · have hcv := conv2 w 97 48
    change (convert 90 9 (.slice (some ⟨w.heap.size, 0, none⟩) 2 2)).run Tryz.prog (w.alloc (.cells #[.int .u8 97, .int .u8 48] 5)) = .ok (.string ⟨#[97, 48]⟩) (w.alloc (.cells #[.int .u8 97, .int .u8 48] 5)) at hcv
    go_enter Tryz.func83, Tryz.ntmps83
    go_wp2_with fail
    go_ret
    exact ⟨rfl, ba _ (Below.refl _ _)⟩
  · have hcv := conv2 w 97 49
    change (convert 90 9 (.slice (some ⟨w.heap.size, 0, none⟩) 2 2)).run Tryz.prog (w.alloc (.cells #[.int .u8 97, .int .u8 49] 5)) = .ok (.string ⟨#[97, 49]⟩) (w.alloc (.cells #[.int .u8 97, .int .u8 49] 5)) at hcv
    go_enter Tryz.func83, Tryz.ntmps83
    go_wp2_with fail
    go_ret
    exact ⟨rfl, ba _ (Below.refl _ _)⟩
  · have hcv := conv2 w 97 50
    change (convert 90 9 (.slice (some ⟨w.heap.size, 0, none⟩) 2 2)).run Tryz.prog (w.alloc (.cells #[.int .u8 97, .int .u8 50] 5)) = .ok (.string ⟨#[97, 50]⟩) (w.alloc (.cells #[.int .u8 97, .int .u8 50] 5)) at hcv
    go_enter Tryz.func83, Tryz.ntmps83
    go_wp2_with fail
    go_ret
    exact ⟨rfl, ba _ (Below.refl _ _)⟩
  · have hcv := conv2 w 97 51
    change (convert 90 9 (.slice (some ⟨w.heap.size, 0, none⟩) 2 2)).run Tryz.prog (w.alloc (.cells #[.int .u8 97, .int .u8 51] 5)) = .ok (.string ⟨#[97, 51]⟩) (w.alloc (.cells #[.int .u8 97, .int .u8 51] 5)) at hcv
    go_enter Tryz.func83, Tryz.ntmps83
    go_wp2_with fail
    go_ret
    exact ⟨rfl, ba _ (Below.refl _ _)⟩
  · have hcv := conv2 w 97 52
    change (convert 90 9 (.slice (some ⟨w.heap.size, 0, none⟩) 2 2)).run Tryz.prog (w.alloc (.cells #[.int .u8 97, .int .u8 52] 5)) = .ok (.string ⟨#[97, 52]⟩) (w.alloc (.cells #[.int .u8 97, .int .u8 52] 5)) at hcv
    go_enter Tryz.func83, Tryz.ntmps83
    go_wp2_with fail
    go_ret
    exact ⟨rfl, ba _ (Below.refl _ _)⟩
  · have hcv := conv2 w 97 53
    change (convert 90 9 (.slice (some ⟨w.heap.size, 0, none⟩) 2 2)).run Tryz.prog (w.alloc (.cells #[.int .u8 97, .int .u8 53] 5)) = .ok (.string ⟨#[97, 53]⟩) (w.alloc (.cells #[.int .u8 97, .int .u8 53] 5)) at hcv
    go_enter Tryz.func83, Tryz.ntmps83
    go_wp2_with fail
    go_ret
    exact ⟨rfl, ba _ (Below.refl _ _)⟩

end Go.Proofs.YtbhondjfilohdaaGreatDoor
/-
  Package cond: what Parse answers.
-/
namespace Go.Proofs.YtbhondjfilohdaaGreatDoor
open Go.ChangeShapes Go.WideShapes Go.ChangeAt Go.RowKit
set_option maxRecDepth 100000

/-! ### The pieces of a text -/
theorem index_at {a r : List UInt8} (h : ∀ c ∈ a, c ≠ 32) : Lib.indexByte (a ++ 32 :: r) 32 = (a.length : Nat) := by
  rcases index_cases (a ++ 32 :: r) 32 with ⟨_, hno⟩ | ⟨o, ho, hix, hsp, hno⟩
  · exact absurd rfl (hno 32 (by simp))
  · rw [hix]
    have hlo : o = a.length := by
      rcases Nat.lt_trichotomy o a.length with hlt | he | hgt
      · have h1 : (a ++ 32 :: r)[o]? = some 32 := by
          rw [hsp, List.getElem?_append_right (by rw [List.length_take]; omega), List.length_take, Nat.min_eq_left (by omega)]
          simp
        rw [List.getElem?_append_left hlt] at h1
        exact absurd rfl (h 32 (List.mem_of_getElem? h1))
      · exact he
      · refine absurd rfl (hno 32 ?_)
        have h1 : ((a ++ 32 :: r).take o)[a.length]? = some 32 := by
          rw [List.getElem?_take, if_pos hgt, List.getElem?_append_right (Nat.le_refl _)]
          simp
        exact List.mem_of_getElem? h1
    rw [hlo]
theorem cuts_text {c : Cd} (hr : c.right = true) : cutsL 32 3 (textQ c) = [argW c.arg, numT c.mask, cmpW c.cmp, numT c.value] := by
  obtain ⟨a0, a5, k0, k5⟩ := (c.right_iff).1 hr
  have step : ∀ (k : Nat) (a r : List UInt8), (∀ x ∈ a, x ≠ 32) → cutsL 32 (k + 1) (a ++ 32 :: r) = a :: cutsL 32 k r := by
    intro k a r h
    have hd : (a ++ 32 :: r).drop (a.length + 1) = r := by
      rw [← List.drop_drop, List.drop_left]
      rfl
    rw [cutsL_hit k (index_at h), List.take_left, hd]
  unfold textQ
  rw [step 2 _ _ (argW_32 a0 a5), step 1 _ _ (numT_32 _), step 0 _ _ (cmpW_32 _)]
  rfl
theorem cuts_four {l : List UInt8} {k : Nat} {p0 p1 p2 p3 : List UInt8} (h : cutsL 32 k l = [p0, p1, p2, p3]) : l = p0 ++ 32 :: (p1 ++ 32 :: (p2 ++ 32 :: p3)) := by
  have step : ∀ (k : Nat) (l : List UInt8) (p q : List UInt8) (r : List (List UInt8)), cutsL 32 k l = p :: q :: r → ∃ j l', k = j + 1 ∧ l = p ++ 32 :: l' ∧ cutsL 32 j l' = q :: r := by
    intro k l p q r h
    cases k with
    | zero => simp [cutsL] at h
    | succ j =>
      rcases index_cases l 32 with ⟨hix, _⟩ | ⟨o, ho, hix, hsp, hno⟩
      · rw [cutsL_miss _ hix] at h
        simp at h
      · rw [cutsL_hit j hix] at h
        simp only [List.cons.injEq] at h
        exact ⟨j, _, rfl, by rw [← h.1]; exact hsp, h.2⟩
  obtain ⟨k1, l1, rfl, rfl, h1⟩ := step _ _ _ _ _ h
  obtain ⟨k2, l2, rfl, rfl, h2⟩ := step _ _ _ _ _ h1
  obtain ⟨k3, l3, rfl, rfl, h3⟩ := step _ _ _ _ _ h2
  have : l3 = p3 := by
    cases k3 with
    | zero => simpa [cutsL] using h3
    | succ j =>
      rcases index_cases l3 32 with ⟨hix, _⟩ | ⟨o, ho, hix, hsp, hno⟩
      · rw [cutsL_miss _ hix] at h3
        simpa using h3
      · rw [cutsL_hit j hix] at h3
        have := cutsL_len 32 j (l3.drop (o + 1))
        simp only [List.cons.injEq] at h3
        rw [h3.2] at this
        simp at this
  rw [this]
def QPEnd (s : ByteArray) (e : Ending) : Prop :=
  (∃ c : Cd, c.ok ∧ c.right = true ∧ s = textT c ∧ e = .returned (.tuple #[c.val, .int .i64 0])) ∨ ((∀ c : Cd, c.ok → c.right = true → s ≠ textT c) ∧ e = .returned (.tuple #[zeroCd.val, .int .i64 2]))
/-- What a text's first part says. -/
def ArgEnd (s : ByteArray) (e : Ending) : Prop :=
  (∃ n : Nat, n < 6 ∧ s = argT n ∧ e = .returned (.tuple #[.int .i64 n, .bool true])) ∨ ((∀ n : Nat, n < 6 → s ≠ argT n) ∧ e = .returned (.tuple #[.int .i64 0, .bool false]))
theorem readArg_any (s : ByteArray) (w : World) : Calls Tryz.prog 76 #[.string s] w fun e w' => ArgEnd s e ∧ Below w.heap.size w w' := by
  go_enter Tryz.func76, Tryz.ntmps76
  go_wp2_with fail
  go_loopw [5] (fun i wr => ∃ n : Nat, n ≤ 6 ∧ i = .int .i64 n ∧ Below w.heap.size w wr ∧ ∀ m, m < n → s ≠ argT m) (fun i _ => 6 - (Lib.intOf i).toNat)
  case atStart => exact ⟨0, by omega, rfl, Below.refl _ _, fun m h => by omega⟩
  case round =>
    obtain ⟨n, hn, rfl, hb, hno⟩ := hrel
    have HB := Lib.hid hb
    have HN := Lib.hid hno
    clear hb hno
    by_cases h6 : n < 6
    · have hd : decide ((n : Int) < 6) = true := by simp; omega
      go_wp2_with fail
      refine (argument_any n _ h6).mono ?_
      rintro e w1 ⟨rfl, hb1⟩
      have HB1 := Lib.hid (HB.out.trans (hb1.mono HB.out.size))
      clear hb1
      cases hq : ((argT n).toList == s.toList)
      · have HN' : Hid (∀ m, m < n + 1 → s ≠ argT m) := Lib.hid (by
          intro m hm
          by_cases e : m < n
          · exact HN.out m e
          · obtain rfl : m = n := by omega
            intro e
            rw [e] at hq
            simp at hq)
        go_wp2_with fail
        go_roundw
        case rel => exact ⟨n + 1, by omega, by go_num, HB1.out, HN'.out⟩
        case measure => simp [Lib.intOf]; omega
      · have HE : Hid (ArgEnd s (.returned (.tuple #[.int .i64 n, .bool true]))) := Lib.hid (.inl ⟨n, h6, by
          have := beq_iff_eq.1 hq
          rw [Go.ByteArray.toList_eq, Go.ByteArray.toList_eq] at this
          exact (ByteArray.ext (Array.ext' this)).symm, rfl⟩)
        go_wp2_with fail
        go_ret2
        exact ⟨HE.out, HB1.out⟩
    · obtain rfl : n = 6 := by omega
      have HE : Hid (ArgEnd s (.returned (.tuple #[.int .i64 0, .bool false]))) := Lib.hid (.inr ⟨HN.out, rfl⟩)
      go_wp2_with fail
      go_ret2
      exact ⟨HE.out, HB.out⟩

/-- What a text's third part says. -/
def CmpEnd (s : ByteArray) (e : Ending) : Prop :=
  (∃ n : Nat, n < 6 ∧ s = wordT n ∧ e = .returned (.tuple #[.int .i64 n, .bool true])) ∨ ((∀ n : Nat, n < 6 → s ≠ wordT n) ∧ e = .returned (.tuple #[.int .i64 0, .bool false]))
theorem readCmp_any (s : ByteArray) (w : World) : Calls Tryz.prog 77 #[.string s] w fun e w' => CmpEnd s e ∧ Below w.heap.size w w' := by
  go_enter Tryz.func77, Tryz.ntmps77
  go_wp2_with fail
  refine (comparisons_any _).mono ?_
  rintro e w1 ⟨rfl, hw1⟩
  have HC1 : Hid (w1.heap[w.heap.size]? = some (.cells cmpCells 62)) := Lib.hid (by rw [hw1]; exact heap_alloc_new w _)
  have HB1 : Hid (Below w.heap.size w w1) := Lib.hid (by rw [hw1]; exact ba _ (Below.refl _ _))
  clear hw1
  go_wp2_with fail
  go_loopw [8] (fun i wr => ∃ n : Nat, n ≤ 6 ∧ i = .int .i64 n ∧ Below w.heap.size w wr ∧ wr.heap[w.heap.size]? = some (.cells cmpCells 62) ∧ ∀ m : Nat, m < n → s ≠ wordT m) (fun i _ => 6 - (Lib.intOf i).toNat)
  case atStart => exact ⟨0, by omega, rfl, HB1.out, HC1.out, fun m h => by omega⟩
  case round =>
    obtain ⟨n, hn, rfl, hb, hc, hno⟩ := hrel
    have HB := Lib.hid hb
    have HC := Lib.hid hc
    have HN := Lib.hid hno
    clear hb hno hc HB1 HC1
    by_cases h6 : n < 6
    · have hd : decide ((n : Int) < 6) = true := by simp; omega
      obtain ⟨r0, r1, r2⟩ := cmpCells_at h6
      have d0 := (cell_in HC.out (n * 3)).trans r0
      have d1 := (cell_in HC.out (n * 3 + 1)).trans r1
      have d2 := (cell_in HC.out (n * 3 + 2)).trans r2
      have l0 : (0 : Int) ≤ (n : Int) := by omega
      have l1 : (n : Int) < 6 := by omega
      have hst := run_storeF (fnC_one n)
      have HC' : Hid (∀ o, (wr.alloc o).heap[w.heap.size]? = some (.cells cmpCells 62)) := Lib.hid (fun o => ka o HC.out)
      have HB' : Hid (∀ o, Below w.heap.size w (wr.alloc o)) := Lib.hid (fun o => ba o HB.out)
      generalize fnC n = F at *
      generalize notK n = K at *
      obtain ⟨T, hT⟩ : ∃ T, T = wordT n := ⟨_, rfl⟩
      rw [← hT] at d0
      have HT := Lib.hid hT
      clear hT r0 r1 r2
      cases hq : (T.toList == s.toList)
      · have HN' : Hid (∀ m : Nat, m < n + 1 → s ≠ wordT m) := Lib.hid (by
          intro m hm
          by_cases e : m < n
          · exact HN.out m e
          · obtain rfl : m = n := by omega
            intro e
            rw [HT.out, e] at hq
            simp at hq)
        go_wp2_with fail
        go_roundw
        case rel => exact ⟨n + 1, by omega, by go_num, HB'.out _, HC'.out _, HN'.out⟩
        case measure => simp [Lib.intOf]; omega
      · have HE : Hid (CmpEnd s (.returned (.tuple #[.int .i64 n, .bool true]))) := Lib.hid (.inl ⟨n, h6, by
          have := beq_iff_eq.1 hq
          rw [Go.ByteArray.toList_eq, Go.ByteArray.toList_eq] at this
          rw [← HT.out]
          exact (ByteArray.ext (Array.ext' this)).symm, rfl⟩)
        go_wp2_with fail
        go_ret2
        exact ⟨HE.out, HB'.out _⟩
    · obtain rfl : n = 6 := by omega
      have HE : Hid (CmpEnd s (.returned (.tuple #[.int .i64 0, .bool false]))) := Lib.hid (.inr ⟨HN.out, rfl⟩)
      go_wp2_with fail
      go_ret2
      exact ⟨HE.out, HB.out⟩
/-! ### The same, with letters -/
theorem ArgEnd.letters {s : ByteArray} {e : Ending} (h : ArgEnd s e) : ∃ (n : Nat) (b : Bool), e = .returned (.tuple #[.int .i64 n, .bool b]) ∧ ((b = true ∧ n < 6 ∧ s = argT n) ∨ (b = false ∧ ∀ m : Nat, m < 6 → s ≠ argT m)) := by
  rcases h with ⟨n, h1, h2, rfl⟩ | ⟨h, rfl⟩
  · exact ⟨n, true, rfl, .inl ⟨rfl, h1, h2⟩⟩
  · exact ⟨0, false, rfl, .inr ⟨rfl, h⟩⟩
theorem CmpEnd.letters {s : ByteArray} {e : Ending} (h : CmpEnd s e) : ∃ (n : Nat) (b : Bool), e = .returned (.tuple #[.int .i64 n, .bool b]) ∧ ((b = true ∧ n < 6 ∧ s = wordT n) ∨ (b = false ∧ ∀ m : Nat, m < 6 → s ≠ wordT m)) := by
  rcases h with ⟨n, h1, h2, rfl⟩ | ⟨h, rfl⟩
  · exact ⟨n, true, rfl, .inl ⟨rfl, h1, h2⟩⟩
  · exact ⟨0, false, rfl, .inr ⟨rfl, h⟩⟩
theorem ParseEnd.letters {s : ByteArray} {e : Ending} (h : ParseEnd s e) : ∃ (n : Nat) (x : Int), e = .returned (.tuple #[.int .u64 n, .int .i64 x]) ∧ n < 18446744073709551616 ∧ ((x = 0 ∧ s = Wd.txt n) ∨ (x = 2 ∧ ∀ m : Nat, m < 18446744073709551616 → s ≠ Wd.txt m)) := by
  rcases h with ⟨n, h1, h2, rfl⟩ | ⟨h, rfl⟩
  · exact ⟨n, 0, rfl, h1, .inl ⟨rfl, h2⟩⟩
  · exact ⟨0, 2, rfl, by omega, .inr ⟨rfl, h⟩⟩
theorem bsT_inj {a b : List UInt8} (h : bsT a = bsT b) : a = b := by
  have := congrArg (fun x : ByteArray => x.data.toList) h
  simpa using this
theorem textQ_len {c : Cd} : 6 ≤ (textQ c).length := by
  unfold textQ
  simp [argW, numT]
  omega
/-- The pieces of a condition's text. -/
theorem parts_of {l : List UInt8} {c : Cd} (hr : c.right = true) (e : bsT l = textT c) : cutsL 32 (min 4 (l.length + 1) - 1) l = [argW c.arg, numT c.mask, cmpW c.cmp, numT c.value] := by
  have hl : l = textQ c := bsT_inj e
  have := textQ_len (c := c)
  rw [hl, Nat.min_eq_left (by omega)]
  exact cuts_text hr
theorem four_cells {p0 p1 p2 p3 : List UInt8} : cutCells [p0, p1, p2, p3] 4 = #[.string (bsT p0), .string (bsT p1), .string (bsT p2), .string (bsT p3)] := by
  unfold cutCells Lib.cellsOf
  simp
set_option maxHeartbeats 4000000 in
theorem qparse_any (s : ByteArray) (w : World) (hs : s.size ≤ 4611686018427387904) (_ht : QTab w) :
    Calls Tryz.prog 66 #[.string s] w fun e w' => QPEnd s e ∧ Below w.heap.size w w' := by
  obtain ⟨l, rfl⟩ : ∃ l : List UInt8, s = bsT l := ⟨s.data.toList, by simp⟩
  have hl : l.length ≤ 4611686018427387904 := by simpa [ByteArray.size] using hs
  have hz := heap_alloc_new w (cdB zeroCd)
  have HB0 := Lib.hid (ba (cdB zeroCd) (Below.refl w.heap.size w))
  obtain ⟨W, hW⟩ : ∃ W, W = w.alloc (cdB zeroCd) := ⟨_, rfl⟩
  rw [← hW] at hz HB0
  have HZ0 := Lib.hid hz
  clear hz hs
  obtain ⟨N, hN⟩ : ∃ N, N = min 4 (l.length + 1) := ⟨_, rfl⟩
  obtain ⟨ps, hps⟩ : ∃ ps, ps = cutsL 32 (N - 1) l := ⟨_, rfl⟩
  have hsp := splitN_any l 32 4 N W hl (by omega) hN (by omega)
  rw [← hps] at hsp
  have HSP := Lib.hid hsp
  have HT : Hid (∀ c : Cd, c.right = true → bsT l = textT c → ps = [argW c.arg, numT c.mask, cmpW c.cmp, numT c.value]) := Lib.hid (fun c hr e => by rw [hps, hN]; exact parts_of hr e)
  have HPS := Lib.hid hps
  have hle : ps.length ≤ N - 1 + 1 := by rw [hps]; exact (cutsL_len 32 _ l).2
  have hN4 : N ≤ 4 := by omega
  have hN1 : 1 ≤ N := by omega
  clear hps hN hsp
  have HEQ : Hid (∀ p0 p1 p2 p3, ps = [p0, p1, p2, p3] → l = p0 ++ 32 :: (p1 ++ 32 :: (p2 ++ 32 :: p3))) := Lib.hid (fun p0 p1 p2 p3 h => cuts_four (by rw [← HPS.out]; exact h))
  obtain ⟨S, hS⟩ : ∃ S, S = bsT l := ⟨_, rfl⟩
  rw [← hS] at HSP HT ⊢
  have HS := Lib.hid hS
  clear hS
  by_cases h4 : ps.length = 4
  · obtain ⟨p0, p1, p2, p3, rfl⟩ : ∃ p0 p1 p2 p3, ps = [p0, p1, p2, p3] := by
      match ps, h4 with
      | [p0, p1, p2, p3], _ => exact ⟨p0, p1, p2, p3, rfl⟩
    obtain rfl : N = 4 := by simp at hle; omega
    have hlen : l.length = p0.length + (p1.length + (p2.length + (p3.length + 1) + 1) + 1) := by
      have e := HEQ.out _ _ _ _ rfl
      rw [e]
      simp only [List.length_append, List.length_cons]
    have hz1 : (bsT p1).size ≤ 4611686018427387904 := by
      have : (bsT p1).size = p1.length := by simp [ByteArray.size]
      omega
    have hz3 : (bsT p3).size ≤ 4611686018427387904 := by
      have : (bsT p3).size = p3.length := by simp [ByteArray.size]
      omega
    have hsp := HSP.out
    rw [four_cells] at hsp
    have HSP4 := Lib.hid hsp
    clear hsp HSP hlen h4 hle hN4 hN1 hl
    obtain ⟨S0, hS0⟩ : ∃ S, S = bsT p0 := ⟨_, rfl⟩
    obtain ⟨S1, hS1⟩ : ∃ S, S = bsT p1 := ⟨_, rfl⟩
    obtain ⟨S2, hS2⟩ : ∃ S, S = bsT p2 := ⟨_, rfl⟩
    obtain ⟨S3, hS3⟩ : ∃ S, S = bsT p3 := ⟨_, rfl⟩
    rw [← hS0, ← hS1, ← hS2, ← hS3] at HSP4
    rw [← hS1] at hz1
    rw [← hS3] at hz3
    have HS0 := Lib.hid hS0
    have HS1 := Lib.hid hS1
    have HS2 := Lib.hid hS2
    have HS3 := Lib.hid hS3
    clear hS0 hS1 hS2 hS3
    go_enter Tryz.func66, Tryz.ntmps66
    go_upto_region 1 with fail
    change Code.wp _ _ _ _ (w.alloc (cdB zeroCd))
    rw [← hW]
    clear hW
    go_wp2_with fail
    refine HSP4.out.mono ?_
    rintro e w1 ⟨rfl, hw1⟩
    have hr1 : w1.heap[W.heap.size]? = some (.cells #[.string S0, .string S1, .string S2, .string S3] 9) := by rw [hw1]; exact heap_alloc_new W _
    have HR1 := Lib.hid hr1
    have HB1 : Hid (Below w.heap.size w w1) := Lib.hid (by rw [hw1]; exact ba _ HB0.out)
    have HZ1 : Hid (w1.heap[w.heap.size]? = some (cdB zeroCd)) := Lib.hid (by rw [hw1]; exact ka _ HZ0.out)
    have e0 : w1.cell? ⟨W.heap.size, 0, none⟩ = some (.string S0) := cell_in hr1 0
    generalize W.heap.size = g at *
    clear hw1 hr1 HSP4 HZ0 HB0
    go_wp2_with fail
    refine (readArg_any _ _).mono ?_
    rintro e w2 ⟨hA, hb2⟩
    obtain ⟨n, b0, rfl, hA0⟩ := hA.letters
    have HA := Lib.hid hA0
    have HR2 := Lib.hid (kb hb2 HR1.out)
    have HZ2 := Lib.hid (kb hb2 HZ1.out)
    have HB2 := Lib.hid (below2 HB1.out hb2)
    have e1 : w2.cell? ⟨g, 1, none⟩ = some (.string S1) := cell_in HR2.out 1
    clear hA hA0 hb2 e0 HR1 HZ1 HB1
    go_wp2_with fail
    refine (parse_any S1 _ hz1).mono ?_
    rintro e w3 ⟨hA, hb3⟩
    obtain ⟨m, x1, rfl, hm, hA0⟩ := hA.letters
    have HM := Lib.hid hA0
    have HR3 := Lib.hid (kb hb3 HR2.out)
    have HZ3 := Lib.hid (kb hb3 HZ2.out)
    have HB3 := Lib.hid (below2 HB2.out hb3)
    have e2 : w3.cell? ⟨g, 2, none⟩ = some (.string S2) := cell_in HR3.out 2
    clear hA hA0 hb3 e1 HR2 HZ2 HB2
    go_wp2_with fail
    refine (readCmp_any S2 _).mono ?_
    rintro e w4 ⟨hA, hb4⟩
    obtain ⟨k, b2, rfl, hA0⟩ := hA.letters
    have HK := Lib.hid hA0
    have HR4 := Lib.hid (kb hb4 HR3.out)
    have HZ4 := Lib.hid (kb hb4 HZ3.out)
    have HB4 := Lib.hid (below2 HB3.out hb4)
    have e3 : w4.cell? ⟨g, 3, none⟩ = some (.string S3) := cell_in HR4.out 3
    clear hA hA0 hb4 e2 HR3 HZ3 HB3
    go_wp2_with fail
    refine (parse_any S3 _ hz3).mono ?_
    rintro e w5 ⟨hA, hb5⟩
    obtain ⟨v, x3, rfl, hv, hA0⟩ := hA.letters
    have HV := Lib.hid hA0
    have HZ5 := Lib.hid (kb hb5 HZ4.out)
    have HB5 := Lib.hid (below2 HB4.out hb5)
    have r0 := cell_in HZ5.out 0
    have r1 := cell_in HZ5.out 1
    have r2 := cell_in HZ5.out 2
    have r3 := cell_in HZ5.out 3
    have f0 := free_in HZ5.out 0
    have f1 := free_in HZ5.out 1
    have f2 := free_in HZ5.out 2
    have f3 := free_in HZ5.out 3
    have hlt : w.heap.size < w5.heap.size := lt_of_block HZ5.out
    clear hA hA0 hb5 e3 HR4 HZ4 HB4
    rcases HA.out with ⟨rfl, hn6, hn⟩ | ⟨rfl, hno⟩
    rotate_left
    · have HE : Hid (QPEnd S (.returned (.tuple #[zeroCd.val, .int .i64 2]))) := Lib.hid (.inr ⟨fun c _ hr e => by
        have h := HT.out c hr e
        simp only [List.cons.injEq] at h
        have h' := (c.right_iff).1 hr
        exact hno c.arg.toNat (by omega) (by rw [HS0.out, h.1]; unfold argT; rw [show ((c.arg.toNat : Nat) : Int) = c.arg by omega]), rfl⟩)
      clear hno
      go_wp2_with fail
      (try simp only [Exit.inBlock, Exit.then])
      refine bodyPost_ret (v := .tuple #[.agg #[.int .i64 0, .int .i64 0, .int .u64 0, .int .u64 0], .int .i64 2]) ?_ rfl ⟨HE.out, ?_⟩
      · rw [results_cell_tmp rfl]
        go_simp
      · have hB := HB5.out
        go_grown
    rcases HM.out with ⟨rfl, hm1⟩ | ⟨rfl, hno⟩
    rotate_left
    · have HE : Hid (QPEnd S (.returned (.tuple #[zeroCd.val, .int .i64 2]))) := Lib.hid (.inr ⟨fun c hc hr e => by
        have h := HT.out c hr e
        simp only [List.cons.injEq] at h
        exact hno c.mask hc.1 (by rw [HS1.out, h.2.1]; rfl), rfl⟩)
      clear hno hn
      go_wp2_with fail
      (try simp only [Exit.inBlock, Exit.then])
      refine bodyPost_ret (v := .tuple #[.agg #[.int .i64 0, .int .i64 0, .int .u64 0, .int .u64 0], .int .i64 2]) ?_ rfl ⟨HE.out, ?_⟩
      · rw [results_cell_tmp rfl]
        go_simp
      · have hB := HB5.out
        go_grown
    rcases HK.out with ⟨rfl, hk6, hk⟩ | ⟨rfl, hno⟩
    rotate_left
    · have HE : Hid (QPEnd S (.returned (.tuple #[zeroCd.val, .int .i64 2]))) := Lib.hid (.inr ⟨fun c hc hr e => by
        have h := HT.out c hr e
        simp only [List.cons.injEq] at h
        have h' := (c.right_iff).1 hr
        exact hno c.cmp.toNat (by omega) (by rw [HS2.out, h.2.2.1]; unfold wordT; rw [show ((c.cmp.toNat : Nat) : Int) = c.cmp by omega]), rfl⟩)
      clear hno hn hm1
      go_wp2_with fail
      (try simp only [Exit.inBlock, Exit.then])
      refine bodyPost_ret (v := .tuple #[.agg #[.int .i64 0, .int .i64 0, .int .u64 0, .int .u64 0], .int .i64 2]) ?_ rfl ⟨HE.out, ?_⟩
      · rw [results_cell_tmp rfl]
        go_simp
      · have hB := HB5.out
        go_grown
    rcases HV.out with ⟨rfl, hv1⟩ | ⟨rfl, hno⟩
    rotate_left
    · have HE : Hid (QPEnd S (.returned (.tuple #[zeroCd.val, .int .i64 2]))) := Lib.hid (.inr ⟨fun c hc hr e => by
        have h := HT.out c hr e
        simp only [List.cons.injEq] at h
        exact hno c.value hc.2 (by rw [HS3.out, h.2.2.2.1]; rfl), rfl⟩)
      clear hno hn hm1 hk
      go_wp2_with fail
      (try simp only [Exit.inBlock, Exit.then])
      refine bodyPost_ret (v := .tuple #[.agg #[.int .i64 0, .int .i64 0, .int .u64 0, .int .u64 0], .int .i64 2]) ?_ rfl ⟨HE.out, ?_⟩
      · rw [results_cell_tmp rfl]
        go_simp
      · have hB := HB5.out
        go_grown
    have HE : Hid (QPEnd S (.returned (.tuple #[(⟨n, k, m, v⟩ : Cd).val, .int .i64 0]))) := Lib.hid (.inl ⟨⟨n, k, m, v⟩, ⟨hm, hv⟩, cd_right hn6 hk6, by
      have q0 : p0 = argW n := bsT_inj (HS0.out.symm.trans hn)
      have q1 : p1 = numT m := bsT_inj (HS1.out.symm.trans hm1)
      have q2 : p2 = cmpW k := bsT_inj (HS2.out.symm.trans hk)
      have q3 : p3 = numT v := bsT_inj (HS3.out.symm.trans hv1)
      rw [HS.out, HEQ.out _ _ _ _ rfl, q0, q1, q2, q3]
      rfl, rfl⟩)
    clear hn hm1 hk hv1
    go_wp2_with fail
    (try simp only [Exit.inBlock, Exit.then])
    refine bodyPost_ret (v := .tuple #[.agg #[.int .i64 n, .int .i64 k, .int .u64 m, .int .u64 v], .int .i64 0]) ?_ rfl ⟨HE.out, ?_⟩
    · rw [results_cell_tmp rfl]
      go_simp
    · have hB := HB5.out
      go_grown
  · have HE : Hid (QPEnd S (.returned (.tuple #[zeroCd.val, .int .i64 2]))) := Lib.hid (.inr ⟨fun c _ hr e => h4 (by rw [HT.out c hr e]; rfl), rfl⟩)
    have h4' : ((ps.length : Int) != 4) = true := by simp; omega
    have r0 := cell_in HZ0.out 0
    have r1 := cell_in HZ0.out 1
    have r2 := cell_in HZ0.out 2
    have r3 := cell_in HZ0.out 3
    have f0 := free_in HZ0.out 0
    have f1 := free_in HZ0.out 1
    have f2 := free_in HZ0.out 2
    have f3 := free_in HZ0.out 3
    have hlt : w.heap.size < W.heap.size := lt_of_block HZ0.out
    clear h4
    go_enter Tryz.func66, Tryz.ntmps66
    go_upto_region 1 with fail
    change Code.wp _ _ _ _ (w.alloc (cdB zeroCd))
    rw [← hW]
    clear hW
    go_wp2_with fail
    refine HSP.out.mono ?_
    rintro e w1 ⟨rfl, rfl⟩
    go_wp2_with fail
    (try simp only [Exit.inBlock, Exit.then])
    refine bodyPost_ret (v := .tuple #[.agg #[.int .i64 0, .int .i64 0, .int .u64 0, .int .u64 0], .int .i64 2]) ?_ rfl ⟨HE.out, ?_⟩
    · rw [results_cell_tmp rfl]
      go_simp
    · have hB := HB0.out
      go_grown
end Go.Proofs.YtbhondjfilohdaaGreatDoor
/-
  Package policy: which policies are right.
-/
namespace Go.Proofs.YtbhondjfilohdaaGreatDoor
open Go.ChangeShapes Go.WideShapes Go.ChangeAt Go.RowKit
set_option maxRecDepth 20000

theorem pisaction_any (v : Nat) (w : World) (hv : v < 4294967296) (ht : Tab w) :
    Calls Tryz.prog 25 #[.int .u32 (v : Nat)] w fun e w' => e = .returned (.bool (actT v).isSome) ∧ Below w.heap.size w w' := by
  go_enter Tryz.func25, Tryz.ntmps25
  go_wp2_with fail
  refine (naction_any v _ hv ht).mono ?_
  rintro e w1 ⟨rfl, hb1⟩
  have HB1 := Lib.hid hb1
  clear hb1
  generalize actS v = A
  cases hs : (actT v).isSome
  · have HS := Lib.hid hs
    rw [if_neg (by decide)]
    clear hs
    go_wp2_with fail
    go_ret
    exact ⟨by rw [HS.out]; rfl, HB1.out⟩
  · have HS := Lib.hid hs
    rw [if_pos rfl]
    clear hs
    go_wp2_with fail
    go_ret
    exact ⟨by rw [HS.out]; rfl, HB1.out⟩
set_option maxHeartbeats 8000000 in
theorem pisrule_any (cv : Value) (x : Rl) (w : World) (hC : CAt w cv x.conds) (hk : x.ok) (hl : x.conds.length ≤ 9223372036854775807) (ht : Tab w) :
    Calls Tryz.prog 26 #[x.val cv] w fun e w' => e = .returned (.bool x.right) ∧ Below w.heap.size w w' := by
  obtain ⟨co, ccap, rfl, hrows⟩ := hC.rows
  have HROW := Lib.hid hrows
  have HX0 := Lib.hid (heap_alloc_new w (rlB x (.slice co x.conds.length ccap)))
  have HB0 := Lib.hid (ba (rlB x (.slice co x.conds.length ccap)) (Below.refl w.heap.size w))
  obtain ⟨W, hW⟩ : ∃ W, W = w.alloc (rlB x (.slice co x.conds.length ccap)) := ⟨_, rfl⟩
  rw [← hW] at HX0 HB0
  obtain ⟨R, hR⟩ : ∃ R, R = x.right := ⟨_, rfl⟩
  rw [← hR]
  have HR := Lib.hid hR
  have HT := Lib.hid ht
  have hv := hk.2.2.1
  clear hR hrows hC ht hk
  go_enter Tryz.func26, Tryz.ntmps26
  go_upto_region 1 with fail
  change Code.wp _ _ _ _ (w.alloc (rlB x (.slice co x.conds.length ccap)))
  rw [← hW]
  clear hW
  obtain ⟨r0, r1, r2, r3⟩ := rbox HX0.out
  by_cases h4 : 4 < x.conds.length
  · have HE : Hid (R = false) := Lib.hid (by rw [HR.out]; unfold Rl.right; rw [show decide (x.conds.length ≤ 4) = false by simp; omega]; rfl)
    have hb : decide ((4 : Int) < (x.conds.length : Int)) = true := by simp; omega
    clear h4
    go_wp2_with fail
    go_ret
    exact ⟨by rw [HE.out]; rfl, HB0.out⟩
  have hb : decide ((4 : Int) < (x.conds.length : Int)) = false := by simp; omega
  go_wp2_with fail
  refine (pisaction_any x.act _ hv (HT.out.below HB0.out)).mono ?_
  rintro e w1 ⟨rfl, hb1⟩
  have HB1 := Lib.hid (below2 HB0.out hb1)
  have HX1 := Lib.hid (kb hb1 HX0.out)
  clear hb1 r0 r1 r2 r3 HX0 HB0
  cases hs : (actT x.act).isSome
  · have HE : Hid (R = false) := Lib.hid (by rw [HR.out]; unfold Rl.right; rw [hs]; simp)
    clear hs h4
    go_wp2_with fail
    go_ret
    exact ⟨by rw [HE.out]; rfl, HB1.out⟩
  have HRR : Hid (R = x.conds.all Cd.right) := Lib.hid (by rw [HR.out]; unfold Rl.right; rw [hs, show decide (x.conds.length ≤ 4) = true by simp; omega]; rfl)
  clear hs h4
  obtain ⟨r0, r1, r2, r3⟩ := rbox HX1.out
  go_wp2_with fail
  go_loopw [18] (fun i wr => ∃ j : Nat, j ≤ x.conds.length ∧ i = .int .i64 j ∧ Below w.heap.size w wr ∧ wr.heap[w.heap.size]? = some (rlB x (.slice co x.conds.length ccap)) ∧ (x.conds.take j).all Cd.right = true) (fun i _ => x.conds.length - (Lib.intOf i).toNat)
  case atStart => exact ⟨0, Nat.zero_le _, rfl, HB1.out, HX1.out, rfl⟩
  case round =>
    obtain ⟨j, hj, rfl, hbw, hxx, hall⟩ := hrel
    have HB := Lib.hid hbw
    have HX := Lib.hid hxx
    have HA := Lib.hid hall
    clear hbw hxx hall HB1 HX1 r0 r1 r2 r3
    obtain ⟨r0, r1, r2, r3⟩ := rbox HX.out
    by_cases hjl : j < x.conds.length
    · obtain ⟨cb, coff, rfl, hcb, d0, d1, d2, d3⟩ := HROW.out j hjl
      obtain ⟨c, hc⟩ : ∃ c, c = x.conds[j] := ⟨_, rfl⟩
      rw [← hc] at d0 d1 d2 d3
      have e0 := (HB.out.cell (p := ⟨cb, _, none⟩) hcb).trans d0
      have e1 := (HB.out.cell (p := ⟨cb, _, none⟩) hcb).trans d1
      have e2 := (HB.out.cell (p := ⟨cb, _, none⟩) hcb).trans d2
      have e3 := (HB.out.cell (p := ⟨cb, _, none⟩) hcb).trans d3
      have HCJ := Lib.hid hc
      have l0 : (j : Int) < (x.conds.length : Int) := by omega
      have l1 : (0 : Int) ≤ (j : Int) := by omega
      have l2 : (j : Int).toNat = j := by omega
      clear hc d0 d1 d2 d3
      go_wp2_with fail
      have hba : Below wr.heap.size wr (wr.alloc (cdB c)) := ba _ (Below.refl _ _)
      refine (qright_any c _ (HT.out.below (below2 HB.out hba))).mono ?_
      rintro e w5 ⟨rfl, hb5'⟩
      have hb5 := below2 hba hb5'
      clear hb5' hba
      have HB5 := Lib.hid (below2 HB.out hb5)
      have HX5 := Lib.hid (kb hb5 HX.out)
      clear hb5 e0 e1 e2 e3 r0 r1 r2 r3
      cases hr : c.right
      · have HE : Hid (R = false) := Lib.hid (by
          rw [HRR.out]
          refine not_all hjl ?_
          rw [← HCJ.out, hr])
        clear hr
        go_wp2_with fail
        go_ret
        exact ⟨by rw [HE.out]; rfl, HB5.out⟩
      · have HN : Hid ((x.conds.take (j + 1)).all Cd.right = true) := Lib.hid (take_all_succ hjl HA.out (by rw [← HCJ.out]; exact hr))
        clear hr
        go_wp2_with fail
        go_roundw
        case rel => exact ⟨j + 1, by omega, by go_num, HB5.out, HX5.out, HN.out⟩
        case measure => simp [Lib.intOf]; omega
    · have HE : Hid (R = true) := Lib.hid (by rw [HRR.out]; exact take_all_end (by omega) HA.out)
      go_wp2_with fail
      go_ret
      exact ⟨by rw [HE.out]; rfl, HB.out⟩
set_option maxHeartbeats 8000000 in
theorem ppright_any (rv : Value) (p : Po) (w : World) (hL : LAt w rv p.rules) (hk : p.ok) (hl : p.rules.length ≤ 9223372036854775807) (hl2 : ∀ x ∈ p.rules, x.conds.length ≤ 9223372036854775807) (ht : Tab w) :
    Calls Tryz.prog 14 #[poV rv p.dflt] w fun e w' => e = .returned (.bool p.right) ∧ Below w.heap.size w w' := by
  obtain ⟨rs, d⟩ := p
  simp only at hL hl hl2
  obtain ⟨hd, hok⟩ := hk
  simp only at hd hok
  obtain ⟨ao, cap, rfl, hrows⟩ := hL.rows
  have HROW := Lib.hid hrows
  have HX0 := Lib.hid (heap_alloc_new w (poB (.slice ao rs.length cap) d))
  have HB0 := Lib.hid (ba (poB (.slice ao rs.length cap) d) (Below.refl w.heap.size w))
  obtain ⟨W, hW⟩ : ∃ W, W = w.alloc (poB (.slice ao rs.length cap) d) := ⟨_, rfl⟩
  rw [← hW] at HX0 HB0
  obtain ⟨R, hR⟩ : ∃ R, R = (⟨rs, d⟩ : Po).right := ⟨_, rfl⟩
  rw [← hR]
  have HR := Lib.hid hR
  have HL2 := Lib.hid hl2
  have HOK := Lib.hid hok
  have HT := Lib.hid ht
  clear hR hrows hL hl2 hok ht
  go_enter Tryz.func14, Tryz.ntmps14
  go_upto_region 1 with fail
  change Code.wp _ _ _ _ (w.alloc (poB (.slice ao rs.length cap) d))
  rw [← hW]
  clear hW
  obtain ⟨c0, c1⟩ := pbox HX0.out
  by_cases h64 : 64 < rs.length
  · have HE : Hid (R = false) := Lib.hid (by rw [HR.out]; unfold Po.right; rw [show decide (rs.length ≤ 64) = false by simp; omega]; rfl)
    have hb : decide ((64 : Int) < (rs.length : Int)) = true := by simp; omega
    clear h64
    go_wp2_with fail
    go_ret
    exact ⟨by rw [HE.out]; rfl, HB0.out⟩
  have hb : decide ((64 : Int) < (rs.length : Int)) = false := by simp; omega
  go_wp2_with fail
  refine (pisaction_any d _ hd (HT.out.below HB0.out)).mono ?_
  rintro e w1 ⟨rfl, hb1⟩
  have HB1 := Lib.hid (below2 HB0.out hb1)
  have HX1 := Lib.hid (kb hb1 HX0.out)
  clear hb1 c0 c1 HX0 HB0
  cases hs : (actT d).isSome
  · have HE : Hid (R = false) := Lib.hid (by rw [HR.out]; unfold Po.right; rw [hs]; simp)
    clear hs h64
    go_wp2_with fail
    go_ret
    exact ⟨by rw [HE.out]; rfl, HB1.out⟩
  have HRR : Hid (R = rs.all Rl.right) := Lib.hid (by rw [HR.out]; unfold Po.right; rw [hs, show decide (rs.length ≤ 64) = true by simp; omega]; rfl)
  clear hs h64
  obtain ⟨c0, c1⟩ := pbox HX1.out
  go_wp2_with fail
  go_loopw [18] (fun i wr => ∃ k : Nat, k ≤ rs.length ∧ i = .int .i64 k ∧ Below w.heap.size w wr ∧ wr.heap[w.heap.size]? = some (poB (.slice ao rs.length cap) d) ∧ (rs.take k).all Rl.right = true) (fun i _ => rs.length - (Lib.intOf i).toNat)
  case atStart => exact ⟨0, Nat.zero_le _, rfl, HB1.out, HX1.out, rfl⟩
  case round =>
    obtain ⟨k, hk, rfl, hbw, hxx, hall⟩ := hrel
    have HB := Lib.hid hbw
    have HX := Lib.hid hxx
    have HA := Lib.hid hall
    clear hbw hxx hall HB1 HX1 c0 c1
    obtain ⟨c0, c1⟩ := pbox HX.out
    by_cases hlt : k < rs.length
    · obtain ⟨b, off, cv, rfl, hb', hcv, d0, d1, d2, d3⟩ := HROW.out k hlt
      obtain ⟨x, hx⟩ : ∃ x, x = rs[k] := ⟨_, rfl⟩
      rw [← hx] at hcv d0 d1 d3
      have hxk : x.ok := by rw [hx]; exact HOK.out _ (List.getElem_mem hlt)
      have hxl : x.conds.length ≤ 9223372036854775807 := by rw [hx]; exact HL2.out _ (List.getElem_mem hlt)
      have HIR : Hid (∀ V, Below wr.heap.size wr V → Calls Tryz.prog 26 #[x.val cv] V fun e w' => e = .returned (.bool x.right) ∧ Below V.heap.size V w') := Lib.hid (fun V hV => pisrule_any cv x V (hcv.below (below2 HB.out hV)) hxk hxl (HT.out.below (below2 HB.out hV)))
      obtain ⟨co, ccap, rfl⟩ := hcv.shape
      have HXR := Lib.hid hx
      have e0 := (HB.out.cell (p := ⟨b, _, none⟩) hb').trans d0
      have e1 := (HB.out.cell (p := ⟨b, _, none⟩) hb').trans d1
      have e2 := (HB.out.cell (p := ⟨b, _, none⟩) hb').trans d2
      have e3 := (HB.out.cell (p := ⟨b, _, none⟩) hb').trans d3
      have l0 : (k : Int) < (rs.length : Int) := by omega
      have l1 : (0 : Int) ≤ (k : Int) := by omega
      have l2 : (k : Int).toNat = k := by omega
      clear hx d0 d1 d2 d3 hcv hxk hxl
      go_wp2_with fail
      have hba : Below wr.heap.size wr (wr.alloc (rlB x (.slice co x.conds.length ccap))) := ba _ (Below.refl _ _)
      refine (HIR.out _ hba).mono ?_
      rintro e w5 ⟨rfl, hb5'⟩
      have hb5 := below2 hba hb5'
      clear hb5' hba
      have HB5 := Lib.hid (below2 HB.out hb5)
      have HX5 := Lib.hid (kb hb5 HX.out)
      clear hb5 e0 e1 e2 e3 c0 c1 HIR
      cases hr : x.right
      · have HE : Hid (R = false) := Lib.hid (by
          rw [HRR.out]
          refine not_all hlt ?_
          rw [← HXR.out, hr])
        clear hr
        go_wp2_with fail
        go_ret
        exact ⟨by rw [HE.out]; rfl, HB5.out⟩
      · have HN : Hid ((rs.take (k + 1)).all Rl.right = true) := Lib.hid (take_all_succ hlt HA.out (by rw [← HXR.out]; exact hr))
        clear hr
        go_wp2_with fail
        go_roundw
        case rel => exact ⟨k + 1, by omega, by go_num, HB5.out, HX5.out, HN.out⟩
        case measure => simp [Lib.intOf]; omega
    · have HE : Hid (R = true) := Lib.hid (by rw [HRR.out]; exact take_all_end (by omega) HA.out)
      go_wp2_with fail
      go_ret
      exact ⟨by rw [HE.out]; rfl, HB.out⟩
end Go.Proofs.YtbhondjfilohdaaGreatDoor
/-
  What is the same for every law: what is owed once the call is known to return true and to leave all that was there as it was.
-/
namespace Go.Proofs.YtbhondjfilohdaaGreatDoor
open Go.ChangeShapes Go.WideShapes Go.ChangeAt Go.RowKit

section
variable {H : Type} {enc : TypeId × Value → H} {P : Program}
/-- Arguments read in a world that has only grown as they read before. -/
theorem args_stay (hl : laidOutB P = true) {W W' : World} (hb : Below W.heap.size W W') :
    ∀ (ts : List TypeId) (vs : List Value) (ds : List (DataW H)) (ps : List MemPlace), (∀ t ∈ ts, P.readableRec t = true ∧ t < P.types.size) → (∀ x ∈ ps, x.block < W.heap.size) →
      DataW.TrodAll enc P W 0 (fun _ => true) true ts vs ds ps → DataW.TrodAll enc P W' 0 (fun b => decide (b < W.heap.size)) true ts vs ds ps
  | [], _, _, _, _, _, h => by
    obtain ⟨rfl, rfl, rfl⟩ := trodAll_nil h
    exact trodAll_mk0
  | t :: ts, _, _, _, hts, hlt, h => by
    obtain ⟨v, vs, d, ds, p, q, rfl, rfl, rfl, h1, h2⟩ := trodAll_cons h
    have ht := hts t (List.mem_cons_self)
    exact trodAll_cons_mk (Below.trod hl ht.1 ht.2 h1 hb (fun x hx => hlt x (List.mem_append_left _ hx)))
      (args_stay hl hb ts vs ds q (fun u hu => hts u (List.mem_cons_of_mem _ hu)) (fun x hx => hlt x (List.mem_append_right _ hx)) h2)

/-- What a law owes behind its call: true was returned, and nothing below the heap's old size has changed. -/
theorem law_post {f : Func} {s : ChangeSpec} {tb : TypeId} (hl : laidOutB P = true) (hts : ∀ t ∈ f.params.toList, P.readableRec t = true ∧ t < P.types.size) (hrt : f.resultTypes = #[tb]) (htb : P.underlying tb = some .bool)
    (hv : s.vars = []) (hfn : ∀ ds : List (DataW H), ds.length = f.params.toList.length → s.fn H ds = { results := [.lit (.bool true)], args := ds })
    {W W' : World} {args : Array Value} {ds gs : List (DataW H)} {before : List MemPlace} (hW : DataW.Whole enc P f.params.toList s.vars false W args.toList ds gs before) (hB : Below W.heap.size W W') :
    s.post enc P f false true false false W args (.bool true) W' := by
  have hlt : ∀ x ∈ before, x.block < W.heap.size := fun x hx => by simpa using hW.lt x hx
  have hW' := hW
  obtain ⟨p, q, hA, hV, rfl, _, _⟩ := hW
  rw [hv] at hV
  obtain ⟨rfl, rfl⟩ := trodVars_none hV
  have hlen : ds.length = f.params.toList.length := by
    have aux : ∀ (ts : List TypeId) (vs : List Value) (ds : List (DataW H)) (ps : List MemPlace), DataW.TrodAll enc P W 0 (fun _ => true) true ts vs ds ps → ds.length = ts.length := by
      intro ts
      induction ts with
      | nil => intro vs ds ps h; obtain ⟨_, rfl, _⟩ := trodAll_nil h; rfl
      | cons t ts ih =>
        intro vs ds ps h
        obtain ⟨v, vs, d, ds, p, q, _, rfl, _, _, h2⟩ := trodAll_cons h
        simp [ih vs ds q h2]
    exact aux _ _ _ _ hA
  have e := hfn ds hlen
  refine ⟨ds, [], _, [], p, [], hW', ?_, ?_, ?_, ?_, fun h => by cases h⟩
  · rw [List.append_nil, e, hrt]
    exact trodAll_cons_mk (shut_bool htb _) trodAll_mk0
  · rw [List.append_nil, e]
    exact args_stay hl hB _ _ _ _ hts (fun x hx => hlt x (List.mem_append_left _ hx)) hA
  · rw [List.append_nil, e, hv]
    exact rfl
  · exact hB.frame _
end

theorem own : ownKnob Tryz.prog.godebug = none := by kernel_rfl
theorem laidOut : laidOutB Tryz.prog = true := by kernel_rfl

end Go.Proofs.YtbhondjfilohdaaGreatDoor

/-
  An argument that is bytes: what the row's reading of it gives of the world's cells.
-/
namespace Go.Proofs.YtbhondjfilohdaaGreatDoor
open Go.ChangeShapes Go.WideShapes Go.ChangeAt Go.RowKit Go.Deep
set_option maxRecDepth 100000

section
variable {H : Type} {enc : TypeId × Value → H} {W : World} {base : Nat} {v : Value} {d : DataW H} {p : List MemPlace}
end
end Go.Proofs.YtbhondjfilohdaaGreatDoor
/-
  An argument that is a record: what the row's reading of it gives.
-/
namespace Go.Proofs.YtbhondjfilohdaaGreatDoor
open Go.ChangeShapes Go.WideShapes Go.ChangeAt Go.RowKit Go.Deep
set_option maxRecDepth 100000

theorem cellsD : Tryz.prog.cellsOf 32 = 9 := by kernel_rfl
theorem cellsU64 : Tryz.prog.cellsOf 29 = 1 := by kernel_rfl
theorem list9 {α : Type} {l : List α} (h : l.length = 9) : ∃ x0 x1 x2 x3 x4 x5 x6 x7 x8, l = [x0, x1, x2, x3, x4, x5, x6, x7, x8] := by
  match l, h with
  | [x0, x1, x2, x3, x4, x5, x6, x7, x8], _ => exact ⟨x0, x1, x2, x3, x4, x5, x6, x7, x8, rfl⟩
section
variable {H : Type} {enc : TypeId × Value → H} {W : World} {base : Nat} {v : Value} {d : DataW H} {p : List MemPlace}
theorem one_u32 {n : Nat} {c : Value} {y : DataW H × List MemPlace} (h : DataW.trod enc Tryz.prog W 0 (fun _ => true) true n 23 [c] = some y) : ∃ k : Nat, c = .int .u32 k ∧ k < 4294967296 := by
  obtain ⟨z, e, _, w⟩ := DataW.trod_int Tryz.underlying23 h
  simp only [List.cons.injEq, and_true] at e
  have b := bounds_u32 w
  refine ⟨z.toNat, ?_, by omega⟩
  rw [e]
  congr 1
  omega
theorem one_u64 {n : Nat} {c : Value} {y : DataW H × List MemPlace} (h : DataW.trod enc Tryz.prog W 0 (fun _ => true) true n 29 [c] = some y) : ∃ k : Nat, c = .int .u64 k ∧ k < 18446744073709551616 := by
  obtain ⟨z, e, _, w⟩ := DataW.trod_int Tryz.underlying29 h
  simp only [List.cons.injEq, and_true] at e
  have b := bounds_u64 w
  refine ⟨z.toNat, ?_, by omega⟩
  rw [e]
  congr 1
  omega
theorem open_data (hval : Value.okWide Tryz.prog W .any base 32 v) (h : DataW.Trod enc Tryz.prog W 0 (fun _ => true) true 32 v d p) : ∃ D : Rec, v = D.val ∧ D.ok := by
  obtain ⟨cs, rfl, hsz⟩ := okWide_struct Tryz.underlying32 hval
  rw [cellsD] at hsz
  obtain ⟨c0, c1, c2, c3, c4, c5, c6, c7, c8, hc⟩ := list9 (l := cs.toList) (by simpa using hsz)
  obtain rfl : cs = #[c0, c1, c2, c3, c4, c5, c6, c7, c8] := by rw [← hc]
  obtain ⟨fuel, hf⟩ := h
  obtain ⟨ys, n, _, _, _, hyl, hff⟩ := DataW.trod_struct Tryz.underlying32 hf
  have hy4 : ys.length = 4 := hyl
  match ys, hy4 with
  | [y0, y1, y2, y3], _ =>
    have h0 : DataW.trod enc Tryz.prog W 0 (fun _ => true) true n 23 [c0] = some y0 := hff 0 _ rfl
    have h1 : DataW.trod enc Tryz.prog W 0 (fun _ => true) true n 23 [c1] = some y1 := hff 1 _ rfl
    have h2 : DataW.trod enc Tryz.prog W 0 (fun _ => true) true n 29 [c2] = some y2 := hff 2 _ rfl
    have h3 : DataW.trod enc Tryz.prog W 0 (fun _ => true) true n 30 [c3, c4, c5, c6, c7, c8] = some y3 := hff 3 _ rfl
    obtain ⟨xs, m, _, _, _, hxl, hxx⟩ := DataW.trod_array Tryz.underlying30 h3
    rw [cellsU64] at hxx
    match xs, hxl with
    | [x0, x1, x2, x3, x4, x5], _ =>
      have g0 : DataW.trod enc Tryz.prog W 0 (fun _ => true) true m 29 [c3] = some x0 := hxx 0 (by omega)
      have g1 : DataW.trod enc Tryz.prog W 0 (fun _ => true) true m 29 [c4] = some x1 := hxx 1 (by omega)
      have g2 : DataW.trod enc Tryz.prog W 0 (fun _ => true) true m 29 [c5] = some x2 := hxx 2 (by omega)
      have g3 : DataW.trod enc Tryz.prog W 0 (fun _ => true) true m 29 [c6] = some x3 := hxx 3 (by omega)
      have g4 : DataW.trod enc Tryz.prog W 0 (fun _ => true) true m 29 [c7] = some x4 := hxx 4 (by omega)
      have g5 : DataW.trod enc Tryz.prog W 0 (fun _ => true) true m 29 [c8] = some x5 := hxx 5 (by omega)
      obtain ⟨k0, rfl, b0⟩ := one_u32 h0
      obtain ⟨k1, rfl, b1⟩ := one_u32 h1
      obtain ⟨k2, rfl, b2⟩ := one_u64 h2
      obtain ⟨k3, rfl, b3⟩ := one_u64 g0
      obtain ⟨k4, rfl, b4⟩ := one_u64 g1
      obtain ⟨k5, rfl, b5⟩ := one_u64 g2
      obtain ⟨k6, rfl, b6⟩ := one_u64 g3
      obtain ⟨k7, rfl, b7⟩ := one_u64 g4
      obtain ⟨k8, rfl, b8⟩ := one_u64 g5
      exact ⟨⟨k0, k1, k2, k3, k4, k5, k6, k7, k8⟩, rfl, b0, b1, b2, b3, b4, b5, b6, b7, b8⟩
end
/-- The nine cells of a record's block. -/
theorem rec_cells {w : World} {g : Nat} {d : Rec} {t : TypeId} {fr : Nat × Nat} (h : w.heap[g]? = some (.cells d.cells t fr)) : w.cell? ⟨g, 0, none⟩ = some (.int .u32 d.nr) ∧ w.cell? ⟨g, 1, none⟩ = some (.int .u32 d.arch) ∧ w.cell? ⟨g, 2, none⟩ = some (.int .u64 d.ip) ∧ w.cell? ⟨g, 3, none⟩ = some (.int .u64 d.a0) ∧ w.cell? ⟨g, 4, none⟩ = some (.int .u64 d.a1) ∧ w.cell? ⟨g, 5, none⟩ = some (.int .u64 d.a2) ∧ w.cell? ⟨g, 6, none⟩ = some (.int .u64 d.a3) ∧ w.cell? ⟨g, 7, none⟩ = some (.int .u64 d.a4) ∧ w.cell? ⟨g, 8, none⟩ = some (.int .u64 d.a5) :=
  ⟨cell_in h 0, cell_in h 1, cell_in h 2, cell_in h 3, cell_in h 4, cell_in h 5, cell_in h 6, cell_in h 7, cell_in h 8⟩
end Go.Proofs.YtbhondjfilohdaaGreatDoor
/-
  Package denote: which rules fit, which is the first one, and what a policy says.
-/
namespace Go.Proofs.YtbhondjfilohdaaGreatDoor
open Go.ChangeShapes Go.WideShapes Go.ChangeAt Go.RowKit
set_option maxRecDepth 20000

/-- The closure of Fits: does a condition fail? -/
theorem efails_any (c : Cd) (d : Rec) (g : Nat) (w : World) (hc : c.ok) (hd : d.ok) (hg : w.heap[g]? = some (.cells d.cells 32)) (ht : QTab w) :
    Calls Tryz.prog 17 #[c.val, .pointer (some ⟨g, 0, none⟩)] w fun e w' => e = .returned (.bool (!c.holds d)) ∧ Below w.heap.size w w' := by
  have HT := Lib.hid ht
  have HG0 := Lib.hid hg
  have hz := heap_alloc_new w (cdB c)
  have hb0 := ba (cdB c) (Below.refl w.heap.size w)
  obtain ⟨W, hW⟩ : ∃ W, W = w.alloc (cdB c) := ⟨_, rfl⟩
  rw [← hW] at hz hb0
  have HX := Lib.hid hz
  have HB := Lib.hid hb0
  have HG := Lib.hid (kb hb0 hg)
  clear hz hb0 hg ht HG0
  go_enter Tryz.func17, Tryz.ntmps17
  go_upto_region 1 with fail
  change Code.wp _ _ _ _ (w.alloc (cdB c))
  rw [← hW]
  clear hW
  obtain ⟨c0, c1, c2, c3⟩ := cdX HX.out
  obtain ⟨d0, d1, d2, d3, d4, d5, d6, d7, d8⟩ := rec_cells HG.out
  go_wp2_with fail
  refine (qholds_any c d _ hc hd (HT.out.below HB.out)).mono ?_
  rintro e w1 ⟨rfl, hb1⟩
  have HB1 := Lib.hid (below2 HB.out hb1)
  clear hb1 c0 c1 c2 c3 d0 d1 d2 d3 d4 d5 d6 d7 d8
  go_wp2_with fail
  go_ret
  exact ⟨rfl, HB1.out⟩
/-- Where the first condition that fails stands. -/
def badN : List Cd → Nat → Rec → Int
  | [], _, _ => -1
  | c :: cs, o, d => if c.holds d then badN cs (o + 1) d else (o : Int)
theorem badN_step {cs : List Cd} {k : Nat} (h : k < cs.length) (d : Rec) : badN (cs.drop k) k d = if (cs[k]).holds d then badN (cs.drop (k + 1)) (k + 1) d else (k : Int) := by
  rw [List.drop_eq_getElem_cons h]
  rfl
theorem badN_end {cs : List Cd} {k : Nat} (h : cs.length ≤ k) (d : Rec) : badN (cs.drop k) k d = -1 := by
  rw [List.drop_eq_nil_of_le h]
  rfl
theorem badN_all (cs : List Cd) (o : Nat) (d : Rec) : decide (0 ≤ badN cs o d) = !(cs.all (·.holds d)) := by
  induction cs generalizing o with
  | nil => rfl
  | cons c cs ih =>
    cases hc : c.holds d
    · rw [badN, hc]
      simp [hc]
    · rw [badN, hc, if_pos rfl, ih]
      simp [hc]
set_option maxHeartbeats 4000000 in
theorem cidx_any (cv : Value) (cs : List Cd) (d : Rec) (g : Nat) (w : World) (hC : CAt w cv cs) (hok : ∀ c ∈ cs, c.ok) (hl : cs.length ≤ 9223372036854775807) (hd : d.ok) (hg : w.heap[g]? = some (.cells d.cells 32)) (ht : QTab w) :
    Calls Tryz.prog 28 #[cv, .func (.func 17) #[] #[.pointer (some ⟨g, 0, none⟩)]] w fun e w' => e = .returned (.int .i64 (badN cs 0 d)) ∧ Below w.heap.size w w' := by
  obtain ⟨co, ccap, rfl, hrows⟩ := hC.rows
  have HROW := Lib.hid hrows
  have HC : Hid (∀ V c, c ∈ cs → Below w.heap.size w V → Calls Tryz.prog 17 #[c.val, .pointer (some ⟨g, 0, none⟩)] V fun e w' => e = .returned (.bool (!c.holds d)) ∧ Below V.heap.size V w') := Lib.hid (fun V c hc hV => efails_any c d g V (hok c hc) hd (kb hV hg) (QTab.below ht hV))
  obtain ⟨R, hR⟩ : ∃ R, R = badN cs 0 d := ⟨_, rfl⟩
  rw [← hR]
  have HR := Lib.hid hR
  clear hR hrows hok hC hg ht
  go_enter Tryz.func28, Tryz.ntmps28
  go_wp2_with fail
  go_loopw [5, 8] (fun _ i wr => ∃ k : Nat, k ≤ cs.length ∧ i = .int .i64 k ∧ Hid (Below w.heap.size w wr) ∧ Hid (R = badN (cs.drop k) k d)) (fun _ i _ => cs.length - (Lib.intOf i).toNat)
  case atStart => exact ⟨0, Nat.zero_le _, rfl, Lib.hid (Below.refl _ _), HR⟩
  case round =>
    obtain ⟨k, hk, rfl, HB, HK⟩ := hrel
    by_cases hlt : k < cs.length
    · obtain ⟨b, off, rfl, hb', d0, d1, d2, d3⟩ := HROW.out k hlt
      obtain ⟨c, hc⟩ : ∃ c, c = cs[k] := ⟨_, rfl⟩
      rw [← hc] at d0 d1 d2 d3
      have HS : Hid (badN (cs.drop k) k d = if c.holds d then badN (cs.drop (k + 1)) (k + 1) d else (k : Int)) := Lib.hid (by rw [badN_step hlt, ← hc])
      have e0 := (HB.out.cell (p := ⟨b, _, none⟩) hb').trans d0
      have e1 := (HB.out.cell (p := ⟨b, _, none⟩) hb').trans d1
      have e2 := (HB.out.cell (p := ⟨b, _, none⟩) hb').trans d2
      have e3 := (HB.out.cell (p := ⟨b, _, none⟩) hb').trans d3
      have hmem : c ∈ cs := by rw [hc]; exact List.getElem_mem hlt
      have l0 : (k : Int) < (cs.length : Int) := by omega
      have l1 : (0 : Int) ≤ (k : Int) := by omega
      have l2 : (k : Int).toNat = k := by omega
      clear hc d0 d1 d2 d3
      go_wp2_with fail
      refine (HC.out _ c hmem HB.out).mono ?_
      rintro e w1 ⟨rfl, hb1⟩
      have HB1 := Lib.hid (below2 HB.out hb1)
      clear hb1 e0 e1 e2 e3 hmem
      cases hh : c.holds d
      · rw [hh] at HS
        have HE : Hid (R = (k : Int)) := Lib.hid (by rw [HK.out, HS.out]; rfl)
        clear hh
        go_wp2_with fail
        go_ret
        exact ⟨by rw [HE.out]; rfl, HB1.out⟩
      · rw [hh] at HS
        have HE : Hid (R = badN (cs.drop (k + 1)) (k + 1) d) := Lib.hid (by rw [HK.out, HS.out]; rfl)
        clear hh
        go_wp2_with fail
        go_roundw
        case rel => exact ⟨k + 1, by omega, by go_num, HB1, HE⟩
        case measure => simp [Lib.intOf]; omega
    · have HE : Hid (R = -1) := Lib.hid (by rw [HK.out]; exact badN_end (by omega) d)
      have hnl : decide ((k : Int) < (cs.length : Int)) = false := by simp; omega
      go_wp2_with fail
      go_ret
      exact ⟨by rw [HE.out]; rfl, HB.out⟩
theorem ccont_any (cv : Value) (cs : List Cd) (d : Rec) (g : Nat) (w : World) (hC : CAt w cv cs) (hok : ∀ c ∈ cs, c.ok) (hl : cs.length ≤ 9223372036854775807) (hd : d.ok) (hg : w.heap[g]? = some (.cells d.cells 32)) (ht : QTab w) :
    Calls Tryz.prog 19 #[cv, .func (.func 17) #[] #[.pointer (some ⟨g, 0, none⟩)]] w fun e w' => e = .returned (.bool (!(cs.all (·.holds d)))) ∧ Below w.heap.size w w' := by
  have HE := Lib.hid (badN_all cs 0 d)
  have HC := Lib.hid (cidx_any cv cs d g w hC hok hl hd hg ht)
  clear hC hok hl hd hg ht
  go_enter Tryz.func19, Tryz.ntmps19
  go_wp2_with fail
  refine HC.out.mono ?_
  rintro e w1 ⟨rfl, hb1⟩
  have HB1 := Lib.hid hb1
  clear hb1
  go_wp2_with fail
  go_ret
  exact ⟨by rw [HE.out]; rfl, HB1.out⟩
set_option maxHeartbeats 4000000 in
theorem efits_any (cv : Value) (x : Rl) (d : Rec) (w : World) (hC : CAt w cv x.conds) (hk : x.ok) (hl : x.conds.length ≤ 9223372036854775807) (hd : d.ok) (ht : QTab w) :
    Calls Tryz.prog 8 #[x.val cv, d.val] w fun e w' => e = .returned (.bool (fitsR x d)) ∧ Below w.heap.size w w' := by
  obtain ⟨co, ccap, rfl⟩ := hC.shape
  obtain ⟨W, hW, X0, X1, HBx⟩ := box2 w (rlB x (.slice co x.conds.length ccap)) (.cells d.cells 32)
  have HX := Lib.hid X0
  have HD := Lib.hid X1
  have HB := Lib.hid HBx
  clear X0 X1 HBx
  obtain ⟨R, hR⟩ : ∃ R, R = fitsR x d := ⟨_, rfl⟩
  rw [← hR]
  have HR := Lib.hid hR
  have HC : Hid (Calls Tryz.prog 19 #[.slice co x.conds.length ccap, .func (.func 17) #[] #[.pointer (some ⟨w.heap.size + 1, 0, none⟩)]] W fun e w' => e = .returned (.bool (!(x.conds.all (·.holds d)))) ∧ Below W.heap.size W w') := Lib.hid (ccont_any _ _ d _ W (hC.below HB.out) hk.2.2.2 hl hd HD.out (QTab.below ht HB.out))
  clear hR hC hk ht hd hl
  go_enter Tryz.func8, Tryz.ntmps8
  go_upto_region 1 with fail
  change Code.wp _ _ _ _ ((w.alloc (rlB x (.slice co x.conds.length ccap))).alloc (.cells d.cells 32))
  rw [← hW]
  clear hW
  obtain ⟨r0, r1, r2, r3⟩ := rbox HX.out
  obtain ⟨d0, d1, d2, d3, d4, d5, d6, d7, d8⟩ := rec_cells HD.out
  by_cases h0 : x.arch = d.arch
  case neg =>
    have HE : Hid (R = false) := Lib.hid (by rw [HR.out]; unfold fitsR; simp [h0])
    have hb0 : ((x.arch : Int) == (d.arch : Int)) = false := by simp; omega
    clear h0
    go_wp2_with fail
    go_ret
    exact ⟨by rw [HE.out]; rfl, HB.out⟩
  have hb0 : ((x.arch : Int) == (d.arch : Int)) = true := by simp; omega
  by_cases h1 : x.nr = d.nr
  case neg =>
    have HE : Hid (R = false) := Lib.hid (by rw [HR.out]; unfold fitsR; simp [h1])
    have hb1 : ((x.nr : Int) == (d.nr : Int)) = false := by simp; omega
    clear h0 h1
    go_wp2_with fail
    go_ret
    exact ⟨by rw [HE.out]; rfl, HB.out⟩
  have hb1 : ((x.nr : Int) == (d.nr : Int)) = true := by simp; omega
  have HE : Hid (R = x.conds.all (·.holds d)) := Lib.hid (by rw [HR.out]; unfold fitsR; simp [h0, h1])
  clear h0 h1
  go_wp2_with fail
  refine HC.out.mono ?_
  rintro e w1 ⟨rfl, hb2⟩
  have HB1 := Lib.hid (below2 HB.out hb2)
  clear hb2
  go_wp2_with fail
  go_ret
  exact ⟨by rw [HE.out]; simp, HB1.out⟩
end Go.Proofs.YtbhondjfilohdaaGreatDoor
/-
  Package denote: which rule is the first one, and what a policy says.
-/
namespace Go.Proofs.YtbhondjfilohdaaGreatDoor
open Go.ChangeShapes Go.WideShapes Go.ChangeAt Go.RowKit
set_option maxRecDepth 20000

/-- The closure of First: does a rule fit? -/
theorem efitc_any (cv : Value) (x : Rl) (d : Rec) (g : Nat) (w : World) (hC : CAt w cv x.conds) (hk : x.ok) (hl : x.conds.length ≤ 9223372036854775807) (hd : d.ok) (hg : w.heap[g]? = some (.cells d.cells 32)) (ht : QTab w) :
    Calls Tryz.prog 15 #[x.val cv, .pointer (some ⟨g, 0, none⟩)] w fun e w' => e = .returned (.bool (fitsR x d)) ∧ Below w.heap.size w w' := by
  obtain ⟨co, ccap, rfl⟩ := hC.shape
  have hz := heap_alloc_new w (rlB x (.slice co x.conds.length ccap))
  have hb0 := ba (rlB x (.slice co x.conds.length ccap)) (Below.refl w.heap.size w)
  obtain ⟨W, hW⟩ : ∃ W, W = w.alloc (rlB x (.slice co x.conds.length ccap)) := ⟨_, rfl⟩
  rw [← hW] at hz hb0
  have HX := Lib.hid hz
  have HB := Lib.hid hb0
  have HG := Lib.hid (kb hb0 hg)
  have HF : Hid (Calls Tryz.prog 8 #[x.val (.slice co x.conds.length ccap), d.val] W fun e w' => e = .returned (.bool (fitsR x d)) ∧ Below W.heap.size W w') := Lib.hid (efits_any _ x d W (hC.below hb0) hk hl hd (QTab.below ht hb0))
  obtain ⟨R, hR⟩ : ∃ R, R = fitsR x d := ⟨_, rfl⟩
  rw [← hR] at HF ⊢
  clear hz hb0 hg ht hC hk hl hd hR
  go_enter Tryz.func15, Tryz.ntmps15
  go_upto_region 1 with fail
  change Code.wp _ _ _ _ (w.alloc (rlB x (.slice co x.conds.length ccap)))
  rw [← hW]
  clear hW
  obtain ⟨c0, c1, c2, c3⟩ := rbox HX.out
  obtain ⟨d0, d1, d2, d3, d4, d5, d6, d7, d8⟩ := rec_cells HG.out
  go_wp2_with fail
  refine HF.out.mono ?_
  rintro e w1 ⟨rfl, hb1⟩
  have HB1 := Lib.hid (below2 HB.out hb1)
  clear hb1 c0 c1 c2 c3 d0 d1 d2 d3 d4 d5 d6 d7 d8
  go_wp2_with fail
  go_ret
  exact ⟨rfl, HB1.out⟩
set_option maxHeartbeats 4000000 in
theorem ridx_any (rv : Value) (rs : List Rl) (d : Rec) (g : Nat) (w : World) (hL : LAt w rv rs) (hok : ∀ x ∈ rs, x.ok) (hl : rs.length ≤ 9223372036854775807) (hl2 : ∀ x ∈ rs, x.conds.length ≤ 9223372036854775807) (hd : d.ok) (hg : w.heap[g]? = some (.cells d.cells 32)) (ht : QTab w) :
    Calls Tryz.prog 16 #[rv, .func (.func 15) #[] #[.pointer (some ⟨g, 0, none⟩)]] w fun e w' => e = .returned (.int .i64 (firstN rs 0 d)) ∧ Below w.heap.size w w' := by
  obtain ⟨ao, cap, rfl, hrows⟩ := hL.rows
  have HROW := Lib.hid hrows
  have HC : Hid (∀ V x cv, x ∈ rs → CAt w cv x.conds → Below w.heap.size w V → Calls Tryz.prog 15 #[x.val cv, .pointer (some ⟨g, 0, none⟩)] V fun e w' => e = .returned (.bool (fitsR x d)) ∧ Below V.heap.size V w') := Lib.hid (fun V x cv hx hcv hV => efitc_any cv x d g V (hcv.below hV) (hok x hx) (hl2 x hx) hd (kb hV hg) (QTab.below ht hV))
  obtain ⟨R, hR⟩ : ∃ R, R = firstN rs 0 d := ⟨_, rfl⟩
  rw [← hR]
  have HR := Lib.hid hR
  clear hR hrows hok hL hg ht hl2
  go_enter Tryz.func16, Tryz.ntmps16
  go_wp2_with fail
  go_loopw [5, 8] (fun _ i wr => ∃ k : Nat, k ≤ rs.length ∧ i = .int .i64 k ∧ Hid (Below w.heap.size w wr) ∧ Hid (R = firstN (rs.drop k) k d)) (fun _ i _ => rs.length - (Lib.intOf i).toNat)
  case atStart => exact ⟨0, Nat.zero_le _, rfl, Lib.hid (Below.refl _ _), HR⟩
  case round =>
    obtain ⟨k, hk, rfl, HB, HK⟩ := hrel
    by_cases hlt : k < rs.length
    · obtain ⟨b, off, cv, rfl, hb', hcv, d0, d1, d2, d3⟩ := HROW.out k hlt
      obtain ⟨x, hx⟩ : ∃ x, x = rs[k] := ⟨_, rfl⟩
      rw [← hx] at d0 d1 d3 hcv
      have HS : Hid (firstN (rs.drop k) k d = if fitsR x d then (k : Int) else firstN (rs.drop (k + 1)) (k + 1) d) := Lib.hid (by rw [firstN_step hlt, ← hx])
      have e0 := (HB.out.cell (p := ⟨b, _, none⟩) hb').trans d0
      have e1 := (HB.out.cell (p := ⟨b, _, none⟩) hb').trans d1
      have e2 := (HB.out.cell (p := ⟨b, _, none⟩) hb').trans d2
      have e3 := (HB.out.cell (p := ⟨b, _, none⟩) hb').trans d3
      have hmem : x ∈ rs := by rw [hx]; exact List.getElem_mem hlt
      have HCX : Hid (Calls Tryz.prog 15 #[x.val cv, .pointer (some ⟨g, 0, none⟩)] wr fun e w' => e = .returned (.bool (fitsR x d)) ∧ Below wr.heap.size wr w') := Lib.hid (HC.out _ x cv hmem hcv HB.out)
      have l0 : (k : Int) < (rs.length : Int) := by omega
      have l1 : (0 : Int) ≤ (k : Int) := by omega
      have l2 : (k : Int).toNat = k := by omega
      obtain ⟨co, ccap, rfl⟩ := hcv.shape
      clear hx d0 d1 d2 d3 hcv hmem
      go_wp2_with fail
      refine HCX.out.mono ?_
      rintro e w1 ⟨rfl, hb1⟩
      have HB1 := Lib.hid (below2 HB.out hb1)
      clear hb1 e0 e1 e2 e3 HCX
      cases hh : fitsR x d
      · rw [hh] at HS
        have HE : Hid (R = firstN (rs.drop (k + 1)) (k + 1) d) := Lib.hid (by rw [HK.out, HS.out]; rfl)
        clear hh
        go_wp2_with fail
        go_roundw
        case rel => exact ⟨k + 1, by omega, by go_num, HB1, HE⟩
        case measure => simp [Lib.intOf]; omega
      · rw [hh] at HS
        have HE : Hid (R = (k : Int)) := Lib.hid (by rw [HK.out, HS.out]; rfl)
        clear hh
        go_wp2_with fail
        go_ret
        exact ⟨by rw [HE.out]; rfl, HB1.out⟩
    · have HE : Hid (R = -1) := Lib.hid (by rw [HK.out]; exact firstN_end (by omega) d)
      have hnl : decide ((k : Int) < (rs.length : Int)) = false := by simp; omega
      go_wp2_with fail
      go_ret
      exact ⟨by rw [HE.out]; rfl, HB.out⟩
set_option maxHeartbeats 4000000 in
theorem efirst_any (rv : Value) (p : Po) (d : Rec) (w : World) (hL : LAt w rv p.rules) (hk : p.ok) (hl : p.rules.length ≤ 9223372036854775807) (hl2 : ∀ x ∈ p.rules, x.conds.length ≤ 9223372036854775807) (hd : d.ok) (ht : QTab w) :
    Calls Tryz.prog 6 #[poV rv p.dflt, d.val] w fun e w' => e = .returned (.tuple #[.int .i64 (if p.right then firstN p.rules 0 d else 0), .int .i64 (if p.right then 0 else 1)]) ∧ Below w.heap.size w w' := by
  obtain ⟨ao, cap, rfl⟩ := hL.shape
  obtain ⟨W, hW, X0, X1, HBx⟩ := box2 w (poB (.slice ao p.rules.length cap) p.dflt) (.cells d.cells 32)
  have HX := Lib.hid X0
  have HD := Lib.hid X1
  have HB := Lib.hid HBx
  clear X0 X1 HBx
  have HP : Hid (Calls Tryz.prog 14 #[poV (.slice ao p.rules.length cap) p.dflt] W fun e w' => e = .returned (.bool p.right) ∧ Below W.heap.size W w') := Lib.hid (ppright_any _ p W (hL.below HB.out) hk hl hl2 (QTab.below ht HB.out))
  have HC : Hid (∀ V, Below W.heap.size W V → Calls Tryz.prog 16 #[.slice ao p.rules.length cap, .func (.func 15) #[] #[.pointer (some ⟨w.heap.size + 1, 0, none⟩)]] V fun e w' => e = .returned (.int .i64 (firstN p.rules 0 d)) ∧ Below V.heap.size V w') := Lib.hid (fun V hV => ridx_any _ _ d _ V (hL.below (below2 HB.out hV)) hk.2 hl hl2 hd (kb hV HD.out) (QTab.below ht (below2 HB.out hV)))
  obtain ⟨R1, hR1⟩ : ∃ R : Int, R = if p.right then firstN p.rules 0 d else 0 := ⟨_, rfl⟩
  obtain ⟨R2, hR2⟩ : ∃ R : Int, R = if p.right then 0 else 1 := ⟨_, rfl⟩
  rw [← hR1, ← hR2]
  have HR1 := Lib.hid hR1
  have HR2 := Lib.hid hR2
  clear hL hk hl hl2 hd ht hR1 hR2
  go_enter Tryz.func6, Tryz.ntmps6
  go_upto_region 1 with fail
  change Code.wp _ _ _ _ ((w.alloc (poB (.slice ao p.rules.length cap) p.dflt)).alloc (.cells d.cells 32))
  rw [← hW]
  clear hW
  obtain ⟨c0, c1⟩ := pbox HX.out
  go_wp2_with fail
  refine HP.out.mono ?_
  rintro e w1 ⟨rfl, hb1⟩
  have HB1 := Lib.hid hb1
  have HX1 := Lib.hid (kb hb1 HX.out)
  clear hb1 c0 c1 HP
  cases hr : p.right
  · have HE : Hid (R1 = 0 ∧ R2 = 1) := Lib.hid ⟨by rw [HR1.out, hr]; rfl, by rw [HR2.out, hr]; rfl⟩
    clear hr
    go_wp2_with fail
    go_ret2
    exact ⟨by rw [HE.out.1, HE.out.2]; rfl, below2 HB.out HB1.out⟩
  · have HE : Hid (R1 = firstN p.rules 0 d ∧ R2 = 0) := Lib.hid ⟨by rw [HR1.out, hr]; rfl, by rw [HR2.out, hr]; rfl⟩
    clear hr
    obtain ⟨c0, c1⟩ := pbox HX1.out
    go_wp2_with fail
    refine (HC.out _ HB1.out).mono ?_
    rintro e w2 ⟨rfl, hb2⟩
    have HB2 := Lib.hid (below2 (below2 HB.out HB1.out) hb2)
    clear hb2 c0 c1 HC
    go_wp2_with fail
    go_ret2
    exact ⟨by rw [HE.out.1, HE.out.2]; rfl, HB2.out⟩
set_option maxHeartbeats 4000000 in
theorem ejudge_any (rv : Value) (p : Po) (d : Rec) (w : World) (hL : LAt w rv p.rules) (hk : p.ok) (hl : p.rules.length ≤ 9223372036854775807) (hl2 : ∀ x ∈ p.rules, x.conds.length ≤ 9223372036854775807) (hd : d.ok) (ht : QTab w) :
    Calls Tryz.prog 7 #[poV rv p.dflt, d.val] w fun e w' => e = .returned (.tuple #[.int .u32 ((if p.right then judgeR p.rules p.dflt d else 0 : Nat) : Int), .int .i64 (if p.right then 0 else 1)]) ∧ Below w.heap.size w w' := by
  obtain ⟨ao, cap, rfl, hrows⟩ := hL.rows
  obtain ⟨W, hW, X0, X1, HBx⟩ := box2 w (poB (.slice ao p.rules.length cap) p.dflt) (.cells d.cells 32)
  have HX := Lib.hid X0
  have HD := Lib.hid X1
  have HB := Lib.hid HBx
  have HROW := Lib.hid hrows
  clear X0 X1 HBx
  have HF : Hid (Calls Tryz.prog 6 #[poV (.slice ao p.rules.length cap) p.dflt, d.val] W fun e w' => e = .returned (.tuple #[.int .i64 (if p.right then firstN p.rules 0 d else 0), .int .i64 (if p.right then 0 else 1)]) ∧ Below W.heap.size W w') := Lib.hid (efirst_any _ p d W (hL.below HB.out) hk hl hl2 hd (QTab.below ht HB.out))
  have HJ := Lib.hid (first_judge p.rules 0 p.dflt d)
  obtain ⟨R1, hR1⟩ : ∃ R : Nat, R = if p.right then judgeR p.rules p.dflt d else 0 := ⟨_, rfl⟩
  obtain ⟨R2, hR2⟩ : ∃ R : Int, R = if p.right then 0 else 1 := ⟨_, rfl⟩
  rw [← hR1, ← hR2]
  rw [← hR2] at HF
  have HR1 := Lib.hid hR1
  have HR2 := Lib.hid hR2
  clear hL hk hl2 hd ht hrows hR1 hR2
  go_enter Tryz.func7, Tryz.ntmps7
  go_upto_region 1 with fail
  change Code.wp _ _ _ _ ((w.alloc (poB (.slice ao p.rules.length cap) p.dflt)).alloc (.cells d.cells 32))
  rw [← hW]
  clear hW
  obtain ⟨c0, c1⟩ := pbox HX.out
  obtain ⟨d0, d1, d2, d3, d4, d5, d6, d7, d8⟩ := rec_cells HD.out
  go_wp2_with fail
  refine HF.out.mono ?_
  rintro e w1 ⟨rfl, hb1⟩
  have HB1 := Lib.hid (below2 HB.out hb1)
  have HX1 := Lib.hid (kb hb1 HX.out)
  clear hb1 c0 c1 d0 d1 d2 d3 d4 d5 d6 d7 d8 HF
  cases hr : p.right
  · obtain rfl : R2 = 1 := by rw [HR2.out, hr]; rfl
    have HE : Hid (R1 = 0) := Lib.hid (by rw [HR1.out, hr]; rfl)
    rw [if_neg (by decide)]
    clear hr HR2
    go_wp2_with fail
    go_ret2
    exact ⟨by rw [HE.out]; rfl, HB1.out⟩
  · obtain rfl : R2 = 0 := by rw [HR2.out, hr]; rfl
    rw [if_pos rfl]
    obtain ⟨c0, c1⟩ := pbox HX1.out
    rcases HJ.out with ⟨h1, h2⟩ | ⟨k, hk, h1, h2⟩
    · have HE : Hid (R1 = p.dflt) := Lib.hid (by rw [HR1.out, hr, if_pos rfl, h2])
      rw [h1]
      clear h1 h2 HJ hr HR2
      go_wp2_with fail
      go_ret2
      exact ⟨by rw [HE.out]; rfl, HB1.out⟩
    · have HE : Hid (R1 = (p.rules[k]).act) := Lib.hid (by rw [HR1.out, hr, if_pos rfl, h2])
      rw [h1, Nat.zero_add]
      clear hr HR2
      obtain ⟨b, off, cv, rfl, hb', hcv, e0, e1, e2, e3⟩ := HROW.out k hk
      obtain ⟨x, hx⟩ : ∃ x, x = p.rules[k] := ⟨_, rfl⟩
      rw [← hx] at e3 HE
      have e := (HB1.out.cell (p := ⟨b, _, none⟩) hb').trans e3
      have l0 : (k : Int) < (p.rules.length : Int) := by omega
      have l1 : (0 : Int) ≤ (k : Int) := by omega
      have l2 : (k : Int).toNat = k := by omega
      have l3 : decide ((k : Int) < 0) = false := by simp
      clear h1 h2 HJ hcv e0 e1 e2 e3 hx
      go_wp2_with fail
      go_ret2
      exact ⟨by rw [HE.out]; rfl, HB1.out⟩
end Go.Proofs.YtbhondjfilohdaaGreatDoor
/-
  The document's line of a rule (package hurdleref10).
-/
namespace Go.Proofs.YtbhondjfilohdaaGreatDoor
open Go.ChangeShapes Go.WideShapes Go.ChangeAt Go.RowKit
set_option maxRecDepth 20000

theorem join_app : ∀ (ws vs : List (List UInt8)), ws ≠ [] → Ip.join (ws ++ vs) = Ip.join ws ++ vs.flatMap (32 :: ·)
  | [], _, h => absurd rfl h
  | [x], vs, _ => by
    induction vs generalizing x with
    | nil => simp [Ip.join]
    | cons y l ih =>
      have e : Ip.join ([x] ++ y :: l) = x ++ 32 :: Ip.join ([y] ++ l) := rfl
      rw [e, ih y (by simp)]
      simp [Ip.join]
  | x :: y :: l, vs, _ => by
    have e : Ip.join (x :: y :: l ++ vs) = x ++ 32 :: Ip.join (y :: l ++ vs) := rfl
    have e2 : Ip.join (x :: y :: l) = x ++ 32 :: Ip.join (y :: l) := rfl
    rw [e, e2, join_app (y :: l) vs (by simp)]
    simp
def lineH (x : Rl) : List UInt8 := [111, 110, 32] ++ bl (textN machT x.arch) ++ [32] ++ bl (textN (callT x.arch) x.nr) ++ [32] ++ bl (actB x.act)
def condL (k : Nat) (c : Cd) : List UInt8 := (32 :: glue k ++ [32]) ++ textQ c
def condsL : Nat → List Cd → List UInt8
  | _, [] => []
  | k, c :: cs => condL k c ++ condsL (k + 1) cs
theorem condsL_eq : ∀ (k : Nat) (cs : List Cd), (condsW k cs).flatMap (32 :: ·) = condsL k cs
  | _, [] => rfl
  | k, c :: cs => by
    rw [condsW, List.flatMap_append, condsL_eq (k + 1) cs, condsL]
    simp [condW, condL, textQ]
theorem lineL_eq (x : Rl) : lineL x = lineH x ++ condsL 0 x.conds := by
  unfold lineL wordsR
  rw [join_app _ _ (by simp [headW]), condsL_eq]
  congr 1
  simp [headW, Ip.join, lineH, wOn]
theorem mkT (l m : List UInt8) : (⟨l.toArray⟩ : ByteArray) ++ (⟨m.toArray⟩ : ByteArray) = ⟨(l ++ m).toArray⟩ := Wd.joined l m
/-! ### Sizes -/
end Go.Proofs.YtbhondjfilohdaaGreatDoor
