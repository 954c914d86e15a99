/-
  Package cond: what Right, Not and Holds answer.
-/
import Derived.Test.YtlhpdjafhjfcoaaDoorQRParse
import Derived.Deep.DeepCutAuto
namespace Go.Proofs.YtlhpdjafhjfcoaaDoor
open Go.ChangeShapes Go.WideShapes Go.ChangeAt Go.RowKit
set_option maxRecDepth 100000

/-- The tables that package cond reads. -/
def QTab (w : World) : Prop := Tab w
theorem QTab.below {w w' : World} (h : QTab w) (hb : Below w.heap.size w w') : QTab w' := Tab.below h hb

/-- The function of a comparison's row. -/
def fnC (k : Int) : Value := if k = 0 then .func (.func 40) #[] #[] else if k = 1 then .func (.func 41) #[] #[] else if k = 2 then .func (.func 42) #[] #[] else if k = 3 then .func (.func 43) #[] #[] else if k = 4 then .func (.func 44) #[] #[] else .func (.func 45) #[] #[]
theorem fnC_one (k : Int) : (fnC k).oneCell' = true := by
  unfold fnC
  repeat' split
  all_goals rfl
def cmpCells : Array Value := #[.string (wordT 0), .int .i64 1, fnC 0, .string (wordT 1), .int .i64 0, fnC 1, .string (wordT 2), .int .i64 5, fnC 2, .string (wordT 3), .int .i64 4, fnC 3, .string (wordT 4), .int .i64 3, fnC 4, .string (wordT 5), .int .i64 2, fnC 5]
theorem cmpCells_at {k : Nat} (h : k < 6) : cmpCells[k * 3]? = some (.string (wordT k)) ∧ cmpCells[k * 3 + 1]? = some (.int .i64 (notK k)) ∧ cmpCells[k * 3 + 2]? = some (fnC k) := by
  match k, h with
  | 0, _ => exact ⟨rfl, rfl, rfl⟩
  | 1, _ => exact ⟨rfl, rfl, rfl⟩
  | 2, _ => exact ⟨rfl, rfl, rfl⟩
  | 3, _ => exact ⟨rfl, rfl, rfl⟩
  | 4, _ => exact ⟨rfl, rfl, rfl⟩
  | 5, _ => exact ⟨rfl, rfl, rfl⟩
theorem cmpCells_lit : cmpCells = #[.string ⟨#[101, 113]⟩, .int .i64 1, .func (.func 40) #[] #[], .string ⟨#[110, 101]⟩, .int .i64 0, .func (.func 41) #[] #[], .string ⟨#[108, 116]⟩, .int .i64 5, .func (.func 42) #[] #[], .string ⟨#[108, 101]⟩, .int .i64 4, .func (.func 43) #[] #[], .string ⟨#[103, 116]⟩, .int .i64 3, .func (.func 44) #[] #[], .string ⟨#[103, 101]⟩, .int .i64 2, .func (.func 45) #[] #[]] := rfl

/-- A function is stored. -/
theorem run_storeF {F : Value} (hF : F.oneCell' = true) (a : Addr) (w : World) : (store a F).run Tryd.prog w = match w.cell? a with
      | some _ => if w.frozen? a then .halt (.unsupported (.unsafePointer "a write to bytes that a string shares")) w else .ok () (w.setCell a F)
      | none => match w.farStore Tryd.prog a F (Mode.plain == .atomic) with
        | .ok (w', _) => .ok () w'
        | .error h => .halt h w := run_store _ w a F _ hF
theorem comparisons_any (w : World) : Calls Tryd.prog 32 #[] w fun e w' => e = .returned (.slice (some ⟨w.heap.size, 0, none⟩) 6 6) ∧ w' = w.alloc (.cells cmpCells 46) := by
  go_enter Tryd.func32, Tryd.ntmps32
  go_wp2_with fail
  go_ret
  rw [cmpCells_lit]
  exact ⟨rfl, rfl⟩

/-- What a valid condition's comparison is, and of one that is not valid. -/
abbrev rowV (k : Int) : Value := .agg #[.string (wordT k), .int .i64 (notK k), fnC k]
abbrev noRow : Value := .agg #[.string ⟨#[]⟩, .int .i64 0, .nilFunc]
theorem compOf_good (c : Cd) (w : World) (hr : c.right = true) :
    Calls Tryd.prog 19 #[c.val] w fun e w' => e = .returned (.tuple #[rowV c.cmp, .bool true]) ∧ Below w.heap.size w w' := by
  have hrr := (c.right_iff).1 hr
  clear hr
  obtain ⟨arg, cmp, mask, value⟩ := c
  simp only at hrr ⊢
  obtain ⟨a0, a5, k0, k5⟩ := hrr
  obtain ⟨n, rfl⟩ : ∃ n : Nat, cmp = n := ⟨cmp.toNat, by omega⟩
  obtain ⟨m, rfl⟩ : ∃ n : Nat, arg = n := ⟨arg.toNat, by omega⟩
  obtain ⟨W, hW, X0, X1, HBx⟩ := box2 w (cdB ⟨m, n, mask, value⟩) (.cells #[.string ⟨#[]⟩, .int .i64 0, .nilFunc] 46)
  have HX0 := Lib.hid X0
  have HX1 := Lib.hid X1
  have HB := Lib.hid HBx
  have hn6 : n < 6 := by omega
  clear X0 X1 HBx
  go_enter Tryd.func19, Tryd.ntmps19
  go_upto_region 1 with fail
  rw [← hW]
  clear hW
  go_wp2_with fail
  refine (comparisons_any _).mono ?_
  rintro e w1 ⟨rfl, hw1⟩
  have HC1 : Hid (w1.heap[W.heap.size]? = some (.cells cmpCells 46)) := Lib.hid (by rw [hw1]; exact heap_alloc_new W _)
  have HX01 : Hid (w1.heap[w.heap.size]? = some (cdB ⟨m, n, mask, value⟩)) := Lib.hid (by rw [hw1]; exact ka _ HX0.out)
  have HX11 : Hid (w1.heap[w.heap.size + 1]? = some (.cells #[.string ⟨#[]⟩, .int .i64 0, .nilFunc] 46)) := Lib.hid (by rw [hw1]; exact ka _ HX1.out)
  have HB1 : Hid (Below w.heap.size w w1) := Lib.hid (by rw [hw1]; exact ba _ HB.out)
  clear hw1 HX0 HX1 HB
  obtain ⟨c0, c1, _, _⟩ := cdX HX01.out
  obtain ⟨r0, r1, r2⟩ := cmpCells_at hn6
  have d0 := (cell_in HC1.out (n * 3)).trans r0
  have d1 := (cell_in HC1.out (n * 3 + 1)).trans r1
  have d2 := (cell_in HC1.out (n * 3 + 2)).trans r2
  have l0 : ¬ (m : Int) < 0 := by omega
  have l1 : ¬ (6 : Int) ≤ (m : Int) := by omega
  have l2 : ¬ (n : Int) < 0 := by omega
  have l3 : ¬ (6 : Int) ≤ (n : Int) := by omega
  have f0 := free_in HX11.out 0
  have f1 := free_in HX11.out 1
  have f2 := free_in HX11.out 2
  have e0 := cell_in HX11.out 0
  have e1 := cell_in HX11.out 1
  have e2 := cell_in HX11.out 2
  have hst := run_storeF (fnC_one n)
  clear r0 r1 r2 a0 a5 k0 k5
  go_wp2_with fail
  (try simp only [Exit.inBlock, Exit.then])
  refine bodyPost_ret (v := .tuple #[.agg #[.string (wordT (n : Int)), .int .i64 (notK (n : Int)), fnC (n : Int)], .bool true]) ?_ rfl ⟨rfl, ?_⟩
  · rw [results_cell_tmp rfl]
    go_simp
  · have hB := HB1.out
    go_grown
/-- Where one of a condition's numbers is off. -/
theorem bad_cd {c : Cd} (hr : c.right = false) : c.arg < 0 ∨ (0 ≤ c.arg ∧ 6 ≤ c.arg) ∨ (0 ≤ c.arg ∧ c.arg < 6 ∧ c.cmp < 0) ∨ (0 ≤ c.arg ∧ c.arg < 6 ∧ 0 ≤ c.cmp ∧ 6 ≤ c.cmp) := by
  have : ¬ c.right = true := by rw [hr]; simp
  rw [Cd.right_iff] at this
  omega
theorem compOf_bad (c : Cd) (w : World) (hr : c.right = false) :
    Calls Tryd.prog 19 #[c.val] w fun e w' => e = .returned (.tuple #[noRow, .bool false]) ∧ Below w.heap.size w w' := by
  have hbad := bad_cd hr
  clear hr
  obtain ⟨arg, cmp, mask, value⟩ := c
  simp only at hbad
  obtain ⟨W, hW, X0, X1, HBx⟩ := box2 w (cdB ⟨arg, cmp, mask, value⟩) (.cells #[.string ⟨#[]⟩, .int .i64 0, .nilFunc] 46)
  have HX0 := Lib.hid X0
  have HX1 := Lib.hid X1
  have HB := Lib.hid HBx
  have HBad := Lib.hid hbad
  clear X0 X1 HBx hbad
  go_enter Tryd.func19, Tryd.ntmps19
  go_upto_region 1 with fail
  rw [← hW]
  clear hW
  go_wp2_with fail
  refine (comparisons_any _).mono ?_
  rintro e w1 ⟨rfl, hw1⟩
  have HX01 : Hid (w1.heap[w.heap.size]? = some (cdB ⟨arg, cmp, mask, value⟩)) := Lib.hid (by rw [hw1]; exact ka _ HX0.out)
  have HX11 : Hid (w1.heap[w.heap.size + 1]? = some (.cells #[.string ⟨#[]⟩, .int .i64 0, .nilFunc] 46)) := Lib.hid (by rw [hw1]; exact ka _ HX1.out)
  have HB1 : Hid (Below w.heap.size w w1) := Lib.hid (by rw [hw1]; exact ba _ HB.out)
  clear hw1 HX0 HX1 HB
  obtain ⟨c0, c1, _, _⟩ := cdX HX01.out
  have f0 := free_in HX11.out 0
  have f1 := free_in HX11.out 1
  have f2 := free_in HX11.out 2
  have hst := run_storeF (F := .nilFunc) rfl
  have e0 := cell_in HX11.out 0
  have e1 := cell_in HX11.out 1
  have e2 := cell_in HX11.out 2
  rcases HBad.out with h | ⟨h0, h⟩ | ⟨h0, h1, h⟩ | ⟨h0, h1, h2, h⟩
  · have g : decide (arg < 0) = true := by simpa using h
    clear h
    go_wp2_with fail
    (try simp only [Exit.inBlock, Exit.then])
    refine bodyPost_ret (v := .tuple #[.agg #[.string ⟨#[]⟩, .int .i64 0, .nilFunc], .bool false]) ?_ rfl ⟨rfl, ?_⟩
    · rw [results_cell_tmp rfl]
      go_simp
    · have hB := HB1.out
      go_grown
  · have g0 : decide (arg < 0) = false := by simpa using h0
    have g : decide (6 ≤ arg) = true := by simpa using h
    clear h h0
    go_wp2_with fail
    (try simp only [Exit.inBlock, Exit.then])
    refine bodyPost_ret (v := .tuple #[.agg #[.string ⟨#[]⟩, .int .i64 0, .nilFunc], .bool false]) ?_ rfl ⟨rfl, ?_⟩
    · rw [results_cell_tmp rfl]
      go_simp
    · have hB := HB1.out
      go_grown
  · have g0 : decide (arg < 0) = false := by simpa using h0
    have g1 : decide (6 ≤ arg) = false := by simpa using h1
    have g : decide (cmp < 0) = true := by simpa using h
    clear h h0 h1
    go_wp2_with fail
    (try simp only [Exit.inBlock, Exit.then])
    refine bodyPost_ret (v := .tuple #[.agg #[.string ⟨#[]⟩, .int .i64 0, .nilFunc], .bool false]) ?_ rfl ⟨rfl, ?_⟩
    · rw [results_cell_tmp rfl]
      go_simp
    · have hB := HB1.out
      go_grown
  · have g0 : decide (arg < 0) = false := by simpa using h0
    have g1 : decide (6 ≤ arg) = false := by simpa using h1
    have g2 : decide (cmp < 0) = false := by simpa using h2
    have g : decide (6 ≤ cmp) = true := by simpa using h
    clear h h0 h1 h2
    go_wp2_with fail
    (try simp only [Exit.inBlock, Exit.then])
    refine bodyPost_ret (v := .tuple #[.agg #[.string ⟨#[]⟩, .int .i64 0, .nilFunc], .bool false]) ?_ rfl ⟨rfl, ?_⟩
    · rw [results_cell_tmp rfl]
      go_simp
    · have hB := HB1.out
      go_grown
/-- Both at once. -/
theorem compOf_any (c : Cd) (w : World) :
    Calls Tryd.prog 19 #[c.val] w fun e w' => (∃ T K F, e = .returned (.tuple #[.agg #[.string T, .int .i64 K, F], .bool c.right]) ∧ F.oneCell' = true ∧ (c.right = true → T = wordT c.cmp ∧ K = notK c.cmp ∧ F = fnC c.cmp)) ∧ Below w.heap.size w w' := by
  cases hr : c.right
  · refine (compOf_bad c w hr).mono ?_
    rintro e w' ⟨rfl, h⟩
    exact ⟨⟨_, _, _, rfl, rfl, fun h => by cases h⟩, h⟩
  · refine (compOf_good c w hr).mono ?_
    rintro e w' ⟨rfl, h⟩
    exact ⟨⟨_, _, _, rfl, fnC_one _, fun _ => ⟨rfl, rfl, rfl⟩⟩, h⟩
theorem qright_any (c : Cd) (w : World) (_ht : QTab w) :
    Calls Tryd.prog 9 #[c.val] w fun e w' => e = .returned (.bool c.right) ∧ Below w.heap.size w w' := by
  have HX := Lib.hid (heap_alloc_new w (cdB c))
  have HB := Lib.hid (ba (cdB c) (Below.refl w.heap.size w))
  obtain ⟨W, hW⟩ : ∃ W, W = w.alloc (cdB c) := ⟨_, rfl⟩
  rw [← hW] at HX HB
  obtain ⟨c0, c1, c2, c3⟩ := cdX HX.out
  go_enter Tryd.func9, Tryd.ntmps9
  go_upto_region 1 with fail
  rw [← hW]
  clear hW
  go_wp2_with fail
  refine (compOf_any c _).mono ?_
  rintro e w1 ⟨⟨T, K, F, rfl, hF, _⟩, hb1⟩
  have HB1 := Lib.hid (below2 HB.out hb1)
  have hst := run_storeF hF
  obtain ⟨r, hr⟩ : ∃ r, c.right = r := ⟨_, rfl⟩
  rw [hr]
  have HR := Lib.hid hr
  clear hb1 hr
  go_wp2_with fail
  go_ret
  refine ⟨by rw [HR.out]; rfl, ?_⟩
  have hB := HB1.out
  have hs := hB.size
  go_grown
set_option maxHeartbeats 2000000 in
theorem qnot_any (c : Cd) (w : World) (_ht : QTab w) :
    Calls Tryd.prog 18 #[c.val] w fun e w' => e = .returned c.not.val ∧ Below w.heap.size w w' := by
  obtain ⟨W, hW, X0, X1, HBx⟩ := box2 w (cdB c) (cdB zeroCd)
  have HX := Lib.hid X0
  have HZ := Lib.hid X1
  have HB := Lib.hid HBx
  clear X0 X1 HBx
  obtain ⟨c0, c1, c2, c3⟩ := cdX HX.out
  go_enter Tryd.func18, Tryd.ntmps18
  go_upto_region 1 with fail
  change Code.wp _ _ _ _ ((w.alloc (cdB c)).alloc (cdB zeroCd))
  rw [← hW]
  clear hW
  go_wp2_with fail
  refine (compOf_any c _).mono ?_
  rintro e w1 ⟨⟨T, K, F, rfl, hF, hv⟩, hb1⟩
  have HB1 := Lib.hid (below2 HB.out hb1)
  have HX1 := Lib.hid (kb hb1 HX.out)
  have HZ1 := Lib.hid (kb hb1 HZ.out)
  have hst := run_storeF hF
  clear hb1 c0 c1 c2 c3 HX HZ HB
  have hlt : w.heap.size < w1.heap.size := lt_of_block HX1.out
  have hlt2 : w.heap.size + 1 < w1.heap.size := lt_of_block HZ1.out
  obtain ⟨c0, c1, c2, c3⟩ := cdX HX1.out
  have g0 := free_in HX1.out 0
  have g1 := free_in HX1.out 1
  have g2 := free_in HX1.out 2
  have g3 := free_in HX1.out 3
  have r0 := cell_in HZ1.out 0
  have r1 := cell_in HZ1.out 1
  have r2 := cell_in HZ1.out 2
  have r3 := cell_in HZ1.out 3
  have f0 := free_in HZ1.out 0
  have f1 := free_in HZ1.out 1
  have f2 := free_in HZ1.out 2
  have f3 := free_in HZ1.out 3
  cases hr : c.right
  · have HN : Hid (c.not = c) := Lib.hid (by unfold Cd.not; rw [hr]; rfl)
    clear hv hr
    go_wp2_with fail
    (try simp only [Exit.inBlock, Exit.then])
    refine bodyPost_ret (v := c.val) ?_ rfl ⟨by rw [HN.out], ?_⟩
    · simp [results, Tryd.results18, *, go_sem]
    · have hB := HB1.out
      go_grown
  · obtain ⟨hT, hK, hF2⟩ := hv hr
    have HN : Hid (c.not = ⟨c.arg, K, c.mask, c.value⟩) := Lib.hid (by unfold Cd.not; rw [hr, hK]; rfl)
    clear hv hr hK hT hF2
    go_wp2_with fail
    (try simp only [Exit.inBlock, Exit.then])
    refine bodyPost_ret (v := .agg #[.int .i64 c.arg, .int .i64 K, .int .u64 (c.mask : Nat), .int .u64 (c.value : Nat)]) ?_ rfl ⟨by rw [HN.out], ?_⟩
    · simp [results, Tryd.results18, *, go_sem]
    · have hB := HB1.out
      go_grown
theorem cmpB0 (a b : Nat) : cmpB 0 a b = ((a : Int) == (b : Int)) := by
  rw [Bool.eq_iff_iff]
  simp [cmpB]
  omega
theorem clo0 (a b : Nat) (w : World) :
    Calls Tryd.prog 40 #[.int .u64 (a : Nat), .int .u64 (b : Nat)] w fun e w' => e = .returned (.bool (cmpB 0 a b)) ∧ w' = w := by
  rw [cmpB0]
  go_enter Tryd.func40, Tryd.ntmps40
  go_wp2_with fail
  go_ret
  exact ⟨rfl, rfl⟩
theorem cmpB1 (a b : Nat) : cmpB 1 a b = ((a : Int) != (b : Int)) := by
  rw [Bool.eq_iff_iff]
  simp [cmpB]
  omega
theorem clo1 (a b : Nat) (w : World) :
    Calls Tryd.prog 41 #[.int .u64 (a : Nat), .int .u64 (b : Nat)] w fun e w' => e = .returned (.bool (cmpB 1 a b)) ∧ w' = w := by
  rw [cmpB1]
  go_enter Tryd.func41, Tryd.ntmps41
  go_wp2_with fail
  go_ret
  exact ⟨rfl, rfl⟩
theorem cmpB2 (a b : Nat) : cmpB 2 a b = decide (a < b) := rfl
theorem clo2 (a b : Nat) (w : World) :
    Calls Tryd.prog 42 #[.int .u64 (a : Nat), .int .u64 (b : Nat)] w fun e w' => e = .returned (.bool (cmpB 2 a b)) ∧ w' = w := by
  rw [cmpB2]
  go_enter Tryd.func42, Tryd.ntmps42
  go_wp2_with fail
  go_ret
  exact ⟨rfl, rfl⟩
theorem cmpB3 (a b : Nat) : cmpB 3 a b = decide (a ≤ b) := rfl
theorem clo3 (a b : Nat) (w : World) :
    Calls Tryd.prog 43 #[.int .u64 (a : Nat), .int .u64 (b : Nat)] w fun e w' => e = .returned (.bool (cmpB 3 a b)) ∧ w' = w := by
  rw [cmpB3]
  go_enter Tryd.func43, Tryd.ntmps43
  go_wp2_with fail
  go_ret
  exact ⟨rfl, rfl⟩
theorem cmpB4 (a b : Nat) : cmpB 4 a b = decide (b < a) := rfl
theorem clo4 (a b : Nat) (w : World) :
    Calls Tryd.prog 44 #[.int .u64 (a : Nat), .int .u64 (b : Nat)] w fun e w' => e = .returned (.bool (cmpB 4 a b)) ∧ w' = w := by
  rw [cmpB4]
  go_enter Tryd.func44, Tryd.ntmps44
  go_wp2_with fail
  go_ret
  exact ⟨rfl, rfl⟩
theorem cmpB5 (a b : Nat) : cmpB 5 a b = decide (b ≤ a) := rfl
theorem clo5 (a b : Nat) (w : World) :
    Calls Tryd.prog 45 #[.int .u64 (a : Nat), .int .u64 (b : Nat)] w fun e w' => e = .returned (.bool (cmpB 5 a b)) ∧ w' = w := by
  rw [cmpB5]
  go_enter Tryd.func45, Tryd.ntmps45
  go_wp2_with fail
  go_ret
  exact ⟨rfl, rfl⟩
set_option maxHeartbeats 4000000 in
theorem qholds_any (c : Cd) (d : Rec) (w : World) (hc : c.ok) (hd : d.ok) (_ht : QTab w) :
    Calls Tryd.prog 11 #[c.val, d.val] w fun e w' => e = .returned (.bool (c.holds d)) ∧ Below w.heap.size w w' := by
  obtain ⟨W, hW, X0, X1, HBx⟩ := box2 w (cdB c) (.cells d.cells 28)
  have HX := Lib.hid X0
  have HD := Lib.hid X1
  have HB := Lib.hid HBx
  clear X0 X1 HBx
  obtain ⟨c0, c1, c2, c3⟩ := cdX HX.out
  go_enter Tryd.func11, Tryd.ntmps11
  go_upto_region 1 with fail
  change Code.wp _ _ _ _ ((w.alloc (cdB c)).alloc (.cells d.cells 28))
  rw [← hW]
  clear hW
  go_wp2_with fail
  refine (compOf_any c _).mono ?_
  rintro e w1 ⟨⟨T, K, F, rfl, hF, hv⟩, hb1⟩
  have HB1 := Lib.hid (below2 HB.out hb1)
  have HX1 := Lib.hid (kb hb1 HX.out)
  have HD1 := Lib.hid (kb hb1 HD.out)
  have hst := run_storeF hF
  clear hb1 c0 c1 c2 c3 HX HD HB
  have hlt : w.heap.size < w1.heap.size := lt_of_block HX1.out
  have hlt2 : w.heap.size + 1 < w1.heap.size := lt_of_block HD1.out
  have HV := Lib.hid hv
  clear hv
  cases hr : c.right
  · have HN : Hid (c.holds d = false) := Lib.hid (holds_bad hr d)
    clear hr
    go_upto_region 2 with fail
    obtain ⟨W2, hW2⟩ : ∃ W2, W2 = w1.alloc (.cells #[.string T, .int .i64 K, F] 46) := ⟨_, rfl⟩
    have HB2 : Hid (Below w.heap.size w W2) := Lib.hid (by rw [hW2]; exact ba _ HB1.out)
    change Code.wp _ _ _ _ (w1.alloc (.cells #[.string T, .int .i64 K, F] 46))
    rw [← hW2]
    clear hW2 hst
    go_quiet (fail)
    go_wp2_with fail
    go_ret
    exact ⟨by rw [HN.out]; rfl, bdN HB2.out _⟩
  · obtain ⟨a0, a5, k0, k5⟩ := (c.right_iff).1 hr
    have HR : Hid (c.holds d = cmpB c.cmp (c.bits d) c.value) := Lib.hid (by unfold Cd.holds; rw [hr]; rfl)
    have HF2 := Lib.hid (HV.out hr).2.2
    obtain ⟨n, hn⟩ : ∃ n : Nat, c.arg = n := ⟨c.arg.toNat, by omega⟩
    have hn6 : n < 6 := by omega
    obtain ⟨A, hA⟩ : ∃ A, A = (argsD d).getD n 0 := ⟨_, rfl⟩
    have hA64 : A < 18446744073709551616 := by rw [hA]; exact args_lt hd n
    have hBT : bits .and .u64 (A : Int) (c.mask : Int) = (c.bits d : Int) := by
      rw [u64_and_nat _ _ hA64 hc.1]
      unfold Cd.bits
      rw [hn, hA]
      rfl
    have x3 := (cell_in HD1.out (3 + n)).trans (args_cell d n hn6)
    rw [← hA] at x3
    have HD0 := HD1.out
    have HX0 := HX1.out
    obtain ⟨arg, cmp, mask, value⟩ := c
    simp only at hn k0 k5 HR HF2 hBT ⊢
    subst hn
    go_upto_region 2 with fail
    obtain ⟨W2, hW2⟩ : ∃ W2, W2 = w1.alloc (.cells #[.string T, .int .i64 K, F] 46) := ⟨_, rfl⟩
    have HB2 : Hid (Below w.heap.size w W2) := Lib.hid (by rw [hW2]; exact ba _ HB1.out)
    have hx2 : W2.heap[w.heap.size]? = some (cdB ⟨n, cmp, mask, value⟩) := by rw [hW2]; exact ka _ HX1.out
    have hd2 : W2.heap[w.heap.size + 1]? = some (.cells d.cells 28) := by rw [hW2]; exact ka _ HD1.out
    have hr2 : W2.heap[w1.heap.size]? = some (.cells #[.string T, .int .i64 K, F] 46) := by rw [hW2]; exact heap_alloc_new w1 _
    obtain ⟨c0, c1, c2, c3⟩ := cdX hx2
    have y0 := cell_regrown c0
    have y2 := cell_regrown c2
    have y3 := cell_regrown c3
    have yA := cell_regrown (((cell_in hd2 (3 + n)).trans (args_cell d n hn6)).trans (by rw [← hA]))
    have y4 := cell_regrown (cell_in hr2 2)
    change Code.wp _ _ _ _ (w1.alloc (.cells #[.string T, .int .i64 K, F] 46))
    rw [← hW2]
    obtain ⟨B, hB⟩ : ∃ B, B = (⟨n, cmp, mask, value⟩ : Cd).bits d := ⟨_, rfl⟩
    rw [← hB] at HR hBT
    have l0 : (0 : Int) ≤ (n : Int) := by omega
    have l1 : (n : Int) < 6 := by omega
    have t1 : (n : Int).toNat = n := by omega
    have HK := Lib.hid (six k0 k5)
    obtain rfl := HF2.out
    clear HF2
    clear hW2 hst hF HV hB hA hA64 HD0 HX0 hx2 hd2 hr2 c0 c1 c2 c3 x3 HX1 HD1 HB1 hr a0 a5 k0 k5
    rcases HK.out with rfl | rfl | rfl | rfl | rfl | rfl
    · have cF : ∀ d' os, Calls Tryd.prog 40 #[.int .u64 (B : Nat), .int .u64 (value : Nat)] (Sort.grow (redrawn W2 d') os) fun e w'' => e = .returned (.bool (cmpB 0 B value)) ∧ ∃ p : Regrown, w'' = Sort.grow (redrawn W2 p.d) p.os := fun d' os => Calls.regrown_of ((clo0 B value _).mono fun e w' h => ⟨h.1, by rw [h.2]; exact Below.refl _ _⟩)
      change ∀ d' os, (Sort.grow (redrawn W2 d') os).cell? ⟨w1.heap.size, 2, none⟩ = some (.func (.func 40) #[] #[]) at y4
      generalize cmpB 0 B value = R at *
      refine wp_region_quiet_below (by kernel_rfl) (by kernel_rfl) ?_
      repeat (quiet_step (with_reducible exact cF _ _))
      refine wpQuiet_nil ?_
      intro _ hw'
      obtain ⟨⟨dq, osq⟩, hw''⟩ := hw'
      subst hw''
      have HBq := Lib.hid (HB2.out.trans ((below_regrown W2 dq osq).mono HB2.out.size))
      clear y0 y2 y3 y4 yA cF
      generalize Sort.grow (redrawn W2 dq) osq = Wq at *
      go_wp2_with fail
      go_ret
      exact ⟨by rw [HR.out]; rfl, HBq.out⟩
    · have cF : ∀ d' os, Calls Tryd.prog 41 #[.int .u64 (B : Nat), .int .u64 (value : Nat)] (Sort.grow (redrawn W2 d') os) fun e w'' => e = .returned (.bool (cmpB 1 B value)) ∧ ∃ p : Regrown, w'' = Sort.grow (redrawn W2 p.d) p.os := fun d' os => Calls.regrown_of ((clo1 B value _).mono fun e w' h => ⟨h.1, by rw [h.2]; exact Below.refl _ _⟩)
      change ∀ d' os, (Sort.grow (redrawn W2 d') os).cell? ⟨w1.heap.size, 2, none⟩ = some (.func (.func 41) #[] #[]) at y4
      generalize cmpB 1 B value = R at *
      refine wp_region_quiet_below (by kernel_rfl) (by kernel_rfl) ?_
      repeat (quiet_step (with_reducible exact cF _ _))
      refine wpQuiet_nil ?_
      intro _ hw'
      obtain ⟨⟨dq, osq⟩, hw''⟩ := hw'
      subst hw''
      have HBq := Lib.hid (HB2.out.trans ((below_regrown W2 dq osq).mono HB2.out.size))
      clear y0 y2 y3 y4 yA cF
      generalize Sort.grow (redrawn W2 dq) osq = Wq at *
      go_wp2_with fail
      go_ret
      exact ⟨by rw [HR.out]; rfl, HBq.out⟩
    · have cF : ∀ d' os, Calls Tryd.prog 42 #[.int .u64 (B : Nat), .int .u64 (value : Nat)] (Sort.grow (redrawn W2 d') os) fun e w'' => e = .returned (.bool (cmpB 2 B value)) ∧ ∃ p : Regrown, w'' = Sort.grow (redrawn W2 p.d) p.os := fun d' os => Calls.regrown_of ((clo2 B value _).mono fun e w' h => ⟨h.1, by rw [h.2]; exact Below.refl _ _⟩)
      change ∀ d' os, (Sort.grow (redrawn W2 d') os).cell? ⟨w1.heap.size, 2, none⟩ = some (.func (.func 42) #[] #[]) at y4
      generalize cmpB 2 B value = R at *
      refine wp_region_quiet_below (by kernel_rfl) (by kernel_rfl) ?_
      repeat (quiet_step (with_reducible exact cF _ _))
      refine wpQuiet_nil ?_
      intro _ hw'
      obtain ⟨⟨dq, osq⟩, hw''⟩ := hw'
      subst hw''
      have HBq := Lib.hid (HB2.out.trans ((below_regrown W2 dq osq).mono HB2.out.size))
      clear y0 y2 y3 y4 yA cF
      generalize Sort.grow (redrawn W2 dq) osq = Wq at *
      go_wp2_with fail
      go_ret
      exact ⟨by rw [HR.out]; rfl, HBq.out⟩
    · have cF : ∀ d' os, Calls Tryd.prog 43 #[.int .u64 (B : Nat), .int .u64 (value : Nat)] (Sort.grow (redrawn W2 d') os) fun e w'' => e = .returned (.bool (cmpB 3 B value)) ∧ ∃ p : Regrown, w'' = Sort.grow (redrawn W2 p.d) p.os := fun d' os => Calls.regrown_of ((clo3 B value _).mono fun e w' h => ⟨h.1, by rw [h.2]; exact Below.refl _ _⟩)
      change ∀ d' os, (Sort.grow (redrawn W2 d') os).cell? ⟨w1.heap.size, 2, none⟩ = some (.func (.func 43) #[] #[]) at y4
      generalize cmpB 3 B value = R at *
      refine wp_region_quiet_below (by kernel_rfl) (by kernel_rfl) ?_
      repeat (quiet_step (with_reducible exact cF _ _))
      refine wpQuiet_nil ?_
      intro _ hw'
      obtain ⟨⟨dq, osq⟩, hw''⟩ := hw'
      subst hw''
      have HBq := Lib.hid (HB2.out.trans ((below_regrown W2 dq osq).mono HB2.out.size))
      clear y0 y2 y3 y4 yA cF
      generalize Sort.grow (redrawn W2 dq) osq = Wq at *
      go_wp2_with fail
      go_ret
      exact ⟨by rw [HR.out]; rfl, HBq.out⟩
    · have cF : ∀ d' os, Calls Tryd.prog 44 #[.int .u64 (B : Nat), .int .u64 (value : Nat)] (Sort.grow (redrawn W2 d') os) fun e w'' => e = .returned (.bool (cmpB 4 B value)) ∧ ∃ p : Regrown, w'' = Sort.grow (redrawn W2 p.d) p.os := fun d' os => Calls.regrown_of ((clo4 B value _).mono fun e w' h => ⟨h.1, by rw [h.2]; exact Below.refl _ _⟩)
      change ∀ d' os, (Sort.grow (redrawn W2 d') os).cell? ⟨w1.heap.size, 2, none⟩ = some (.func (.func 44) #[] #[]) at y4
      generalize cmpB 4 B value = R at *
      refine wp_region_quiet_below (by kernel_rfl) (by kernel_rfl) ?_
      repeat (quiet_step (with_reducible exact cF _ _))
      refine wpQuiet_nil ?_
      intro _ hw'
      obtain ⟨⟨dq, osq⟩, hw''⟩ := hw'
      subst hw''
      have HBq := Lib.hid (HB2.out.trans ((below_regrown W2 dq osq).mono HB2.out.size))
      clear y0 y2 y3 y4 yA cF
      generalize Sort.grow (redrawn W2 dq) osq = Wq at *
      go_wp2_with fail
      go_ret
      exact ⟨by rw [HR.out]; rfl, HBq.out⟩
    · have cF : ∀ d' os, Calls Tryd.prog 45 #[.int .u64 (B : Nat), .int .u64 (value : Nat)] (Sort.grow (redrawn W2 d') os) fun e w'' => e = .returned (.bool (cmpB 5 B value)) ∧ ∃ p : Regrown, w'' = Sort.grow (redrawn W2 p.d) p.os := fun d' os => Calls.regrown_of ((clo5 B value _).mono fun e w' h => ⟨h.1, by rw [h.2]; exact Below.refl _ _⟩)
      change ∀ d' os, (Sort.grow (redrawn W2 d') os).cell? ⟨w1.heap.size, 2, none⟩ = some (.func (.func 45) #[] #[]) at y4
      generalize cmpB 5 B value = R at *
      refine wp_region_quiet_below (by kernel_rfl) (by kernel_rfl) ?_
      repeat (quiet_step (with_reducible exact cF _ _))
      refine wpQuiet_nil ?_
      intro _ hw'
      obtain ⟨⟨dq, osq⟩, hw''⟩ := hw'
      subst hw''
      have HBq := Lib.hid (HB2.out.trans ((below_regrown W2 dq osq).mono HB2.out.size))
      clear y0 y2 y3 y4 yA cF
      generalize Sort.grow (redrawn W2 dq) osq = Wq at *
      go_wp2_with fail
      go_ret
      exact ⟨by rw [HR.out]; rfl, HBq.out⟩

end Go.Proofs.YtlhpdjafhjfcoaaDoor
