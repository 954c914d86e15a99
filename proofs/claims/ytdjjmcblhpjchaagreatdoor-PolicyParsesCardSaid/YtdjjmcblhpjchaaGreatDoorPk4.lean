/-
  What the laws' texts use, joined.
-/
import Derived.Test.YtdjjmcblhpjchaaGreatDoorProg
import Derived.WalkKit
import Derived.Laws.BitsAllLaws
import Derived.RowKit
import Derived.ProofKit
import Derived.Lib.Hide
import Derived.Laws.Rows
import Derived.Laws.ResultCell
import Derived.Laws.Entries
import Derived.Handy
import Derived.OwnWalk
import Derived.Laws.OwnMore
import Derived.Deep.Draws
import Derived.Laws.IdiomStrings
import Derived.Lib.BufferRead
import Derived.Maps.OwnSet
import Derived.BigQuiet
import Derived.IntWalk
import Derived.Deep.RegionHeld3
import Derived.BigRegion
import Derived.Lib.OthersKept
import Derived.Lib.QuietBelow
import Derived.Laws.Tables
import Derived.Deep.DeepCutAuto
import Derived.Shelf.Strings.Builder1
import Derived.Shelf.Strings.Search1
import Derived.Lib.IndexLaws
import Derived.Lib.Split
import Derived.Deep.OwnRows
import Derived.Laws.Strings3
import Derived.Lib.Join
import Derived.Lib.MakeNoZero
import Derived.Lib.Builder
import Derived.Laws.IdiomCopy
import Derived.Deep.Cut
import Derived.Deep.Slices
import Derived.Maps.RangeWalk
import Derived.StringKeys
import Derived.Laws.RangeAny
import Derived.Test.YtdjjmcblhpjchaaGreatDoorPk1
import Derived.Test.YtdjjmcblhpjchaaGreatDoorPk2
import Derived.Test.YtdjjmcblhpjchaaGreatDoorPk3
/-
  Package cond: what Right, Not and Holds answer.
-/
namespace Go.Proofs.YtdjjmcblhpjchaaGreatDoor
open Go.ChangeShapes Go.WideShapes Go.ChangeAt Go.RowKit
set_option maxRecDepth 100000

/-- The tables that package cond reads. -/
def QTab (w : World) : Prop := Tab w
theorem QTab.below {w w' : World} (h : QTab w) (hb : Below w.heap.size w w') : QTab w' := Tab.below h hb

/-- The function of a comparison's row. -/
def fnC (k : Int) : Value := if k = 0 then .func (.func 85) #[] #[] else if k = 1 then .func (.func 86) #[] #[] else if k = 2 then .func (.func 87) #[] #[] else if k = 3 then .func (.func 88) #[] #[] else if k = 4 then .func (.func 89) #[] #[] else .func (.func 90) #[] #[]
theorem fnC_one (k : Int) : (fnC k).oneCell' = true := by
  unfold fnC
  repeat' split
  all_goals rfl
def cmpCells : Array Value := #[.string (wordT 0), .int .i64 1, fnC 0, .string (wordT 1), .int .i64 0, fnC 1, .string (wordT 2), .int .i64 5, fnC 2, .string (wordT 3), .int .i64 4, fnC 3, .string (wordT 4), .int .i64 3, fnC 4, .string (wordT 5), .int .i64 2, fnC 5]
theorem cmpCells_at {k : Nat} (h : k < 6) : cmpCells[k * 3]? = some (.string (wordT k)) ∧ cmpCells[k * 3 + 1]? = some (.int .i64 (notK k)) ∧ cmpCells[k * 3 + 2]? = some (fnC k) := by
  match k, h with
  | 0, _ => exact ⟨rfl, rfl, rfl⟩
  | 1, _ => exact ⟨rfl, rfl, rfl⟩
  | 2, _ => exact ⟨rfl, rfl, rfl⟩
  | 3, _ => exact ⟨rfl, rfl, rfl⟩
  | 4, _ => exact ⟨rfl, rfl, rfl⟩
  | 5, _ => exact ⟨rfl, rfl, rfl⟩
theorem cmpCells_lit : cmpCells = #[.string ⟨#[101, 113]⟩, .int .i64 1, .func (.func 85) #[] #[], .string ⟨#[110, 101]⟩, .int .i64 0, .func (.func 86) #[] #[], .string ⟨#[108, 116]⟩, .int .i64 5, .func (.func 87) #[] #[], .string ⟨#[108, 101]⟩, .int .i64 4, .func (.func 88) #[] #[], .string ⟨#[103, 116]⟩, .int .i64 3, .func (.func 89) #[] #[], .string ⟨#[103, 101]⟩, .int .i64 2, .func (.func 90) #[] #[]] := rfl

/-- A function is stored. -/
theorem run_storeF {F : Value} (hF : F.oneCell' = true) (a : Addr) (w : World) : (store a F).run Tryz.prog w = match w.cell? a with
      | some _ => if w.frozen? a then .halt (.unsupported (.unsafePointer "a write to bytes that a string shares")) w else .ok () (w.setCell a F)
      | none => match w.farStore Tryz.prog a F (Mode.plain == .atomic) with
        | .ok (w', _) => .ok () w'
        | .error h => .halt h w := run_store _ w a F _ hF
theorem comparisons_any (w : World) : Calls Tryz.prog 74 #[] w fun e w' => e = .returned (.slice (some ⟨w.heap.size, 0, none⟩) 6 6) ∧ w' = w.alloc (.cells cmpCells 93) := by
  go_enter Tryz.func74, Tryz.ntmps74
  go_wp2_with fail
  go_ret
  rw [cmpCells_lit]
  exact ⟨rfl, rfl⟩

/-- What a valid condition's comparison is, and of one that is not valid. -/
abbrev rowV (k : Int) : Value := .agg #[.string (wordT k), .int .i64 (notK k), fnC k]
abbrev noRow : Value := .agg #[.string ⟨#[]⟩, .int .i64 0, .nilFunc]
theorem compOf_good (c : Cd) (w : World) (hr : c.right = true) :
    Calls Tryz.prog 54 #[c.val] w fun e w' => e = .returned (.tuple #[rowV c.cmp, .bool true]) ∧ Below w.heap.size w w' := by
  have hrr := (c.right_iff).1 hr
  clear hr
  obtain ⟨arg, cmp, mask, value⟩ := c
  simp only at hrr ⊢
  obtain ⟨a0, a5, k0, k5⟩ := hrr
  obtain ⟨n, rfl⟩ : ∃ n : Nat, cmp = n := ⟨cmp.toNat, by omega⟩
  obtain ⟨m, rfl⟩ : ∃ n : Nat, arg = n := ⟨arg.toNat, by omega⟩
  obtain ⟨W, hW, X0, X1, HBx⟩ := box2 w (cdB ⟨m, n, mask, value⟩) (.cells #[.string ⟨#[]⟩, .int .i64 0, .nilFunc] 93)
  have HX0 := Lib.hid X0
  have HX1 := Lib.hid X1
  have HB := Lib.hid HBx
  have hn6 : n < 6 := by omega
  clear X0 X1 HBx
  go_enter Tryz.func54, Tryz.ntmps54
  go_upto_region 1 with fail
  rw [← hW]
  clear hW
  go_wp2_with fail
  refine (comparisons_any _).mono ?_
  rintro e w1 ⟨rfl, hw1⟩
  have HC1 : Hid (w1.heap[W.heap.size]? = some (.cells cmpCells 93)) := Lib.hid (by rw [hw1]; exact heap_alloc_new W _)
  have HX01 : Hid (w1.heap[w.heap.size]? = some (cdB ⟨m, n, mask, value⟩)) := Lib.hid (by rw [hw1]; exact ka _ HX0.out)
  have HX11 : Hid (w1.heap[w.heap.size + 1]? = some (.cells #[.string ⟨#[]⟩, .int .i64 0, .nilFunc] 93)) := Lib.hid (by rw [hw1]; exact ka _ HX1.out)
  have HB1 : Hid (Below w.heap.size w w1) := Lib.hid (by rw [hw1]; exact ba _ HB.out)
  clear hw1 HX0 HX1 HB
  obtain ⟨c0, c1, _, _⟩ := cdX HX01.out
  obtain ⟨r0, r1, r2⟩ := cmpCells_at hn6
  have d0 := (cell_in HC1.out (n * 3)).trans r0
  have d1 := (cell_in HC1.out (n * 3 + 1)).trans r1
  have d2 := (cell_in HC1.out (n * 3 + 2)).trans r2
  have l0 : ¬ (m : Int) < 0 := by omega
  have l1 : ¬ (6 : Int) ≤ (m : Int) := by omega
  have l2 : ¬ (n : Int) < 0 := by omega
  have l3 : ¬ (6 : Int) ≤ (n : Int) := by omega
  have f0 := free_in HX11.out 0
  have f1 := free_in HX11.out 1
  have f2 := free_in HX11.out 2
  have e0 := cell_in HX11.out 0
  have e1 := cell_in HX11.out 1
  have e2 := cell_in HX11.out 2
  have hst := run_storeF (fnC_one n)
  clear r0 r1 r2 a0 a5 k0 k5
  go_wp2_with fail
  (try simp only [Exit.inBlock, Exit.then])
  refine bodyPost_ret (v := .tuple #[.agg #[.string (wordT (n : Int)), .int .i64 (notK (n : Int)), fnC (n : Int)], .bool true]) ?_ rfl ⟨rfl, ?_⟩
  · rw [results_cell_tmp rfl]
    go_simp
  · have hB := HB1.out
    go_grown
/-- Where one of a condition's numbers is off. -/
theorem bad_cd {c : Cd} (hr : c.right = false) : c.arg < 0 ∨ (0 ≤ c.arg ∧ 6 ≤ c.arg) ∨ (0 ≤ c.arg ∧ c.arg < 6 ∧ c.cmp < 0) ∨ (0 ≤ c.arg ∧ c.arg < 6 ∧ 0 ≤ c.cmp ∧ 6 ≤ c.cmp) := by
  have : ¬ c.right = true := by rw [hr]; simp
  rw [Cd.right_iff] at this
  omega
theorem compOf_bad (c : Cd) (w : World) (hr : c.right = false) :
    Calls Tryz.prog 54 #[c.val] w fun e w' => e = .returned (.tuple #[noRow, .bool false]) ∧ Below w.heap.size w w' := by
  have hbad := bad_cd hr
  clear hr
  obtain ⟨arg, cmp, mask, value⟩ := c
  simp only at hbad
  obtain ⟨W, hW, X0, X1, HBx⟩ := box2 w (cdB ⟨arg, cmp, mask, value⟩) (.cells #[.string ⟨#[]⟩, .int .i64 0, .nilFunc] 93)
  have HX0 := Lib.hid X0
  have HX1 := Lib.hid X1
  have HB := Lib.hid HBx
  have HBad := Lib.hid hbad
  clear X0 X1 HBx hbad
  go_enter Tryz.func54, Tryz.ntmps54
  go_upto_region 1 with fail
  rw [← hW]
  clear hW
  go_wp2_with fail
  refine (comparisons_any _).mono ?_
  rintro e w1 ⟨rfl, hw1⟩
  have HX01 : Hid (w1.heap[w.heap.size]? = some (cdB ⟨arg, cmp, mask, value⟩)) := Lib.hid (by rw [hw1]; exact ka _ HX0.out)
  have HX11 : Hid (w1.heap[w.heap.size + 1]? = some (.cells #[.string ⟨#[]⟩, .int .i64 0, .nilFunc] 93)) := Lib.hid (by rw [hw1]; exact ka _ HX1.out)
  have HB1 : Hid (Below w.heap.size w w1) := Lib.hid (by rw [hw1]; exact ba _ HB.out)
  clear hw1 HX0 HX1 HB
  obtain ⟨c0, c1, _, _⟩ := cdX HX01.out
  have f0 := free_in HX11.out 0
  have f1 := free_in HX11.out 1
  have f2 := free_in HX11.out 2
  have hst := run_storeF (F := .nilFunc) rfl
  have e0 := cell_in HX11.out 0
  have e1 := cell_in HX11.out 1
  have e2 := cell_in HX11.out 2
  rcases HBad.out with h | ⟨h0, h⟩ | ⟨h0, h1, h⟩ | ⟨h0, h1, h2, h⟩
  · have g : decide (arg < 0) = true := by simpa using h
    clear h
    go_wp2_with fail
    (try simp only [Exit.inBlock, Exit.then])
    refine bodyPost_ret (v := .tuple #[.agg #[.string ⟨#[]⟩, .int .i64 0, .nilFunc], .bool false]) ?_ rfl ⟨rfl, ?_⟩
    · rw [results_cell_tmp rfl]
      go_simp
    · have hB := HB1.out
      go_grown
  · have g0 : decide (arg < 0) = false := by simpa using h0
    have g : decide (6 ≤ arg) = true := by simpa using h
    clear h h0
    go_wp2_with fail
    (try simp only [Exit.inBlock, Exit.then])
    refine bodyPost_ret (v := .tuple #[.agg #[.string ⟨#[]⟩, .int .i64 0, .nilFunc], .bool false]) ?_ rfl ⟨rfl, ?_⟩
    · rw [results_cell_tmp rfl]
      go_simp
    · have hB := HB1.out
      go_grown
  · have g0 : decide (arg < 0) = false := by simpa using h0
    have g1 : decide (6 ≤ arg) = false := by simpa using h1
    have g : decide (cmp < 0) = true := by simpa using h
    clear h h0 h1
    go_wp2_with fail
    (try simp only [Exit.inBlock, Exit.then])
    refine bodyPost_ret (v := .tuple #[.agg #[.string ⟨#[]⟩, .int .i64 0, .nilFunc], .bool false]) ?_ rfl ⟨rfl, ?_⟩
    · rw [results_cell_tmp rfl]
      go_simp
    · have hB := HB1.out
      go_grown
  · have g0 : decide (arg < 0) = false := by simpa using h0
    have g1 : decide (6 ≤ arg) = false := by simpa using h1
    have g2 : decide (cmp < 0) = false := by simpa using h2
    have g : decide (6 ≤ cmp) = true := by simpa using h
    clear h h0 h1 h2
    go_wp2_with fail
    (try simp only [Exit.inBlock, Exit.then])
    refine bodyPost_ret (v := .tuple #[.agg #[.string ⟨#[]⟩, .int .i64 0, .nilFunc], .bool false]) ?_ rfl ⟨rfl, ?_⟩
    · rw [results_cell_tmp rfl]
      go_simp
    · have hB := HB1.out
      go_grown
/-- Both at once. -/
theorem compOf_any (c : Cd) (w : World) :
    Calls Tryz.prog 54 #[c.val] w fun e w' => (∃ T K F, e = .returned (.tuple #[.agg #[.string T, .int .i64 K, F], .bool c.right]) ∧ F.oneCell' = true ∧ (c.right = true → T = wordT c.cmp ∧ K = notK c.cmp ∧ F = fnC c.cmp)) ∧ Below w.heap.size w w' := by
  cases hr : c.right
  · refine (compOf_bad c w hr).mono ?_
    rintro e w' ⟨rfl, h⟩
    exact ⟨⟨_, _, _, rfl, rfl, fun h => by cases h⟩, h⟩
  · refine (compOf_good c w hr).mono ?_
    rintro e w' ⟨rfl, h⟩
    exact ⟨⟨_, _, _, rfl, fnC_one _, fun _ => ⟨rfl, rfl, rfl⟩⟩, h⟩
theorem qright_any (c : Cd) (w : World) (_ht : QTab w) :
    Calls Tryz.prog 37 #[c.val] w fun e w' => e = .returned (.bool c.right) ∧ Below w.heap.size w w' := by
  have HX := Lib.hid (heap_alloc_new w (cdB c))
  have HB := Lib.hid (ba (cdB c) (Below.refl w.heap.size w))
  obtain ⟨W, hW⟩ : ∃ W, W = w.alloc (cdB c) := ⟨_, rfl⟩
  rw [← hW] at HX HB
  obtain ⟨c0, c1, c2, c3⟩ := cdX HX.out
  go_enter Tryz.func37, Tryz.ntmps37
  go_upto_region 1 with fail
  rw [← hW]
  clear hW
  go_wp2_with fail
  refine (compOf_any c _).mono ?_
  rintro e w1 ⟨⟨T, K, F, rfl, hF, _⟩, hb1⟩
  have HB1 := Lib.hid (below2 HB.out hb1)
  have hst := run_storeF hF
  obtain ⟨r, hr⟩ : ∃ r, c.right = r := ⟨_, rfl⟩
  rw [hr]
  have HR := Lib.hid hr
  clear hb1 hr
  go_wp2_with fail
  go_ret
  refine ⟨by rw [HR.out]; rfl, ?_⟩
  have hB := HB1.out
  have hs := hB.size
  go_grown
end Go.Proofs.YtdjjmcblhpjchaaGreatDoor
/-
  What strings.SplitN answers at a mark of one byte.
-/
namespace Go.Proofs.YtdjjmcblhpjchaaGreatDoor
open Go.ChangeShapes Go.WideShapes Go.ChangeAt Go.RowKit
set_option maxRecDepth 100000

/-- A text of these bytes. -/
abbrev bsT (l : List UInt8) : ByteArray := ⟨l.toArray⟩
/-- The pieces of a text between marks, of so many marks at most. -/
def cutsL (c : UInt8) : Nat → List UInt8 → List (List UInt8)
  | 0, l => [l]
  | k + 1, l => if Lib.indexByte l c = -1 then [l] else l.take (Lib.indexByte l c).toNat :: cutsL c k (l.drop ((Lib.indexByte l c).toNat + 1))
theorem cutsL_miss {c : UInt8} {l : List UInt8} (k : Nat) (h : Lib.indexByte l c = -1) : cutsL c k l = [l] := by
  cases k with
  | zero => rfl
  | succ k => unfold cutsL; rw [if_pos h]
theorem cutsL_hit {c : UInt8} {l : List UInt8} {o : Nat} (k : Nat) (h : Lib.indexByte l c = o) : cutsL c (k + 1) l = l.take o :: cutsL c k (l.drop (o + 1)) := by
  have e : (Lib.indexByte l c).toNat = o := by omega
  rw [cutsL, if_neg (by omega), e]
theorem cutsL_len (c : UInt8) : ∀ (k : Nat) (l : List UInt8), 1 ≤ (cutsL c k l).length ∧ (cutsL c k l).length ≤ k + 1
  | 0, _ => ⟨Nat.le_refl _, Nat.le_refl _⟩
  | k + 1, l => by
    unfold cutsL
    split
    · simp
    · have := cutsL_len c k (l.drop ((Lib.indexByte l c).toNat + 1))
      simp only [List.length_cons]
      omega
/-- The cells of the pieces. -/
def cutCells (ps : List (List UInt8)) (N : Nat) : Array Value := Lib.cellsOf (ps.map bsT) N

theorem strIndex_any (s : ByteArray) (c : UInt8) (w : World) :
    Calls Tryz.prog 113 #[.string s, .string ⟨#[c]⟩] w fun e w' => e = .returned (.int .i64 (Lib.indexByte s.data.toList c)) ∧ w = w' := by
  go_enter Tryz.func113, Tryz.ntmps113
  go_wp2_with fail
  refine (sIndex_any s c w).mono ?_
  rintro e w' ⟨rfl, rfl⟩
  go_wp2_with fail
  go_ret
  exact ⟨rfl, rfl⟩
theorem info9 : (Tryz.prog.info? 9).map (fun i => (i.zero, i.size, i.bytes)) = some (some (.string ByteArray.empty), 1, 16) := by kernel_rfl

set_option maxHeartbeats 4000000 in
theorem genSplit_any (s : List UInt8) (c : UInt8) (n N : Nat) (w : World) (hs : s.length ≤ 4611686018427387904) (hn : 1 ≤ n) (hN : N = min n (s.length + 1)) (hn2 : n ≤ 1048576) :
    Calls Tryz.prog 105 #[.string (bsT s), .string ⟨#[c]⟩, .int .i64 0, .int .i64 n] w fun e w' =>
      e = .returned (.slice (some ⟨w.heap.size, 0, none⟩) (cutsL c (N - 1) s).length N) ∧ w' = w.alloc (.cells (cutCells (cutsL c (N - 1) s) N) 9) := by
  have hne : ((n : Int) == 0) = false := beq_eq_false_iff_ne.2 (by omega)
  have hneg : ¬ (n : Int) < 0 := by omega
  have hsz : (bsT s).size = s.length := by simp [ByteArray.size]
  have hmin : min (n : Int) ((s.length : Int) + 1) = (N : Int) := by rw [hN]; omega
  have hNs : (N : Int) ≤ (s.length : Int) + 1 := by omega
  have hN1 : (1 : Int) ≤ (N : Int) := by omega
  have hN2 : (N : Int) ≤ 1048576 := by omega
  have hmk := run_make_row' (P := Tryz.prog) 63 9 (.string ByteArray.empty) 16 Tryz.underlying63 info9 rfl .i64 .i64 N (by omega) (by omega)
  obtain ⟨S, hS⟩ : ∃ S, S = bsT s := ⟨_, rfl⟩
  rw [← hS] at hsz
  rw [← hS]
  have HS0 := Lib.hid hS
  clear hS hN
  go_enter Tryz.func105, Tryz.ntmps105
  go_wp2_with fail
  clear hmk
  go_loopw [0, 10] (fun s0 s10 wr => ∃ (done : List (List UInt8)) (rest : List UInt8), s0 = .string (bsT rest) ∧ s10 = .int .i64 (done.length : Nat) ∧ done.length ≤ N - 1 ∧ rest.length ≤ s.length ∧
      wr = w.alloc (.cells (cutCells done N) 9) ∧ Hid (done ++ cutsL c (N - 1 - done.length) rest = cutsL c (N - 1) s)) (fun _ i _ => N - 1 - (Lib.intOf i).toNat)
  case atStart => exact ⟨[], s, by rw [HS0.out], rfl, Nat.zero_le _, Nat.le_refl _, by unfold cutCells; rw [List.map_nil, Lib.cellsOf_nil], Lib.hid rfl⟩
  case round =>
    obtain ⟨done, rest, rfl, rfl, hd, hrs, rfl, HC⟩ := hrel
    have hnext : (cutCells done N)[done.length]? = some (.string ByteArray.empty) := by
      have := Lib.cellsOf_next (done := done.map bsT) (N := N) (by rw [List.length_map]; omega)
      rwa [List.length_map] at this
    have hput : (cutCells done N).setIfInBounds done.length (.string (bsT rest)) = cutCells (done ++ [rest]) N := by
      have := Lib.cellsOf_set (done := done.map bsT) (N := N) (by rw [List.length_map]; omega) (bsT rest)
      rw [List.length_map] at this
      unfold cutCells
      rw [this, List.map_append]
      rfl
    have hput2 : ∀ o, (cutCells done N).setIfInBounds done.length (.string (bsT (rest.take o))) = cutCells (done ++ [rest.take o]) N := by
      intro o
      have := Lib.cellsOf_set (done := done.map bsT) (N := N) (by rw [List.length_map]; omega) (bsT (rest.take o))
      rw [List.length_map] at this
      unfold cutCells
      rw [this, List.map_append]
      rfl
    have hcs : (cutCells done N).size = N := Lib.cellsOf_size (by rw [List.length_map]; omega)
    have hfin : Hid (cutsL c (N - 1 - done.length) rest = [rest] → (cutsL c (N - 1) s).length = done.length + 1 ∧ cutCells (done ++ [rest]) N = cutCells (cutsL c (N - 1) s) N) := Lib.hid (fun h => by
      have e := HC.out
      rw [h] at e
      rw [← e]
      exact ⟨by simp, rfl⟩)
    have hrz : (bsT rest).size = rest.length := by simp [ByteArray.size]
    have hxo : Hid (∀ o, (bsT rest).extract 0 o = bsT (rest.take o)) := Lib.hid (fun o => take_str _ _)
    have hxr : Hid (∀ o, (bsT rest).extract o (bsT rest).size = bsT (rest.drop o)) := Lib.hid (fun o => drop_str _ _)
    obtain ⟨R, hR⟩ : ∃ R, R = bsT rest := ⟨_, rfl⟩
    rw [← hR] at hrz hput hxo hxr
    rw [← hR]
    have hRl : R.data.toList = rest := by rw [hR]
    have HRl := Lib.hid hRl
    have HR := Lib.hid hR
    clear hR hRl
    by_cases hlt : done.length < N - 1
    · have hltz : ((done.length : Nat) : Int) < (N : Int) - 1 := by omega
      rcases index_cases rest c with ⟨hix, hno⟩ | ⟨o, ho, hix, hsp, hno⟩
      · have HI := Lib.hid hix
        clear hix
        go_wp2_with fail
        refine (strIndex_any _ c _).mono ?_
        rintro e w' ⟨rfl, rfl⟩
        rw [HRl.out, HI.out]
        go_wp2_with fail
        go_ret
        obtain ⟨f1, f2⟩ := hfin.out (cutsL_miss _ HI.out)
        rw [f1, ← f2]
        exact ⟨by first | rfl | (congr 2 <;> omega), rfl⟩
      · have HI := Lib.hid hix
        clear hix hsp hno
        have cb : R.size ≤ 4611686018427387904 := by omega
        have c0 : ¬ ((o : Int) < 0) := by omega
        have c1 : (0 : Int) ≤ ↑o := by omega
        have c2 : (o : Int) ≤ ↑R.size := by omega
        have c3 : (0 : Int) ≤ ↑o + 1 := by omega
        have c4 : (o + 1 : Int) ≤ ↑R.size := by omega
        go_wp2_with fail
        refine (strIndex_any _ c _).mono ?_
        rintro e w' ⟨rfl, rfl⟩
        rw [HRl.out, HI.out]
        go_wp2_with fail
        go_roundw
        case measure =>
          simp only [Lib.intOf]
          omega
        case rel =>
          refine ⟨done ++ [rest.take o], rest.drop (o + 1), by rw [← hrz, hxr.out], by simp, by rw [List.length_append]; simp only [List.length_singleton]; omega, by rw [List.length_drop]; omega, by rw [hxo.out, hput2], ?_⟩
          refine Lib.hid ?_
          rw [← HC.out, show N - 1 - done.length = (N - 1 - (done.length + 1)) + 1 by omega, cutsL_hit _ HI.out]
          simp
    · have hltz : ¬ (((done.length : Nat) : Int) < (N : Int) - 1) := by omega
      go_wp2_with fail
      go_ret
      obtain ⟨f1, f2⟩ := hfin.out (by rw [show N - 1 - done.length = 0 by omega]; rfl)
      rw [f1, ← f2]
      exact ⟨by first | rfl | (congr 2 <;> omega), rfl⟩

theorem splitN_any (s : List UInt8) (c : UInt8) (n N : Nat) (w : World) (hs : s.length ≤ 4611686018427387904) (hn : 1 ≤ n) (hN : N = min n (s.length + 1)) (hn2 : n ≤ 1048576) :
    Calls Tryz.prog 96 #[.string (bsT s), .string ⟨#[c]⟩, .int .i64 n] w fun e w' =>
      e = .returned (.slice (some ⟨w.heap.size, 0, none⟩) (cutsL c (N - 1) s).length N) ∧ w' = w.alloc (.cells (cutCells (cutsL c (N - 1) s) N) 9) := by
  have c1 := genSplit_any s c n N w hs hn hN hn2
  clear hs hN
  generalize cutsL c (N - 1) s = ps at *
  generalize bsT s = S at *
  go_enter Tryz.func96, Tryz.ntmps96
  go_wp2_with fail
  refine c1.mono ?_
  rintro e w' ⟨rfl, rfl⟩
  go_wp2_with fail
  go_ret
  exact ⟨rfl, rfl⟩
end Go.Proofs.YtdjjmcblhpjchaaGreatDoor
/-
  What strings.Join answers, where the whole takes at most 2^47 bytes.
-/
namespace Go.Proofs.YtdjjmcblhpjchaaGreatDoor
open Go.ChangeShapes Go.WideShapes Go.ChangeAt Go.RowKit
set_option maxRecDepth 100000

set_option maxHeartbeats 4000000 in
/-- A builder without a buffer grows. -/
theorem sbGrow0 (B b n : Nat) (w : World) (hB : B ≤ b) (hbk : w.heap[b]? = some (.cells #[.pointer (some ⟨b, 0, none⟩), .slice none 0 0] 44 (0, 0))) (hBw : B ≤ w.heap.size) (hn : n ≤ 281474976710656) :
    Calls Tryz.prog 91 #[.pointer (some ⟨b, 0, none⟩), .int .i64 n] w fun e w' => e = .returned (.tuple #[]) ∧ SB B b [] w' ∧ Below B w w' := by
  obtain ⟨cs, hrun, hle, hmax⟩ := Lib.run_makeNoZero (P := Tryz.prog) w.drew #[3] 42 5 Tryz.underlying42 n hn
  have hw : IntKind.i64.wrap (IntKind.i64.wrap 0 + (n : Int)) = n := by
    rw [IntKind.wrap_i64, IntKind.wrap_i64]
    omega
  have hcall : (callFunc 103 #[.int .i64 (IntKind.i64.wrap (IntKind.i64.wrap 0 + (n : Int)))]).run Tryz.prog w.drew = .ok (.value (.slice (some ⟨w.drew.heap.size, 0, none⟩) n cs.size)) (w.drew.drew.drew.alloc (.cells cs 5)) := by
    rw [hw, run_callFunc_extern Tryz.func103 (by kernel_rfl) (by kernel_rfl) (by kernel_rfl) (e := Extern.BytealgMakeNoZero.makeNoZero #[3] #[42]) (by kernel_rfl), hrun]
    rfl
  have hlt : b < w.heap.size := lt_of_block hbk
  have c1 : w.drew.cell? ⟨b, 1, none⟩ = some (.slice none 0 0) := by
    have : w.drew.heap[b]? = _ := hbk
    rw [Lib.cell_of_heap this]; rfl
  have c2 : (w.alloc (.cells cs 5)).cell? ⟨b, 1, none⟩ = some (.slice none 0 0) := by
    have : (w.alloc (.cells cs 5)).heap[b]? = _ := (Lib.alloc_old w _ b hlt).trans hbk
    rw [Lib.cell_of_heap this]; rfl
  have f2 : (w.alloc (.cells cs 5)).frozen? ⟨b, 1, none⟩ = false := Lib.frozen_of_heap ((Lib.alloc_old w _ b hlt).trans hbk) 1
  have hcopy : ∀ W : World, (Builtin.copy_ #[42, 42] 3 #[.slice (some ⟨w.heap.size, 0, none⟩) 0 cs.size, .slice none 0 0]).run Tryz.prog W = .ok (goInt 0) W :=
    fun W => run_copy_none W 42 42 3 5 _ _ 0 cs.size 0 0 Tryz.underlying42 (by kernel_rfl) rfl
  clear hw
  have hfin := Lib.grown_fresh (T := 44) (e := 5) (cs := cs) hB hbk hBw (hmax (by unfold maxLen; omega)) (by decide)
  rw [World.setCell_alloc_past _ _ _ _ hlt] at hfin
  have HF := Lib.hid hfin
  clear hfin hrun hmax hbk
  go_enter Tryz.func91, Tryz.ntmps91
  go_wp2_with fail
  go_region
  all_goals (go_wp2_with fail; go_end0; exact ⟨rfl, .inr HF.out.1, HF.out.2⟩)

/-- Grow at a builder that has not been written. -/
theorem sbGrow (b n : Nat) (w : World) (hbk : w.heap[b]? = some (.cells #[.pointer none, .slice none 0 0] 44 (0, 0))) (hn : n ≤ 281474976710656) (hn0 : 0 < n) :
    Calls Tryz.prog 75 #[.pointer (some ⟨b, 0, none⟩), .int .i64 n] w fun e w' => e = .returned (.tuple #[]) ∧ SB b b [] w' ∧ Below b w w' := by
  have hlt : b < w.heap.size := lt_of_block hbk
  have hbk1 : (w.setCell ⟨b, 0, none⟩ (.pointer (some ⟨b, 0, none⟩))).heap[b]? = some (.cells #[.pointer (some ⟨b, 0, none⟩), .slice none 0 0] 44 (0, 0)) := by
    simp [World.setCell, Array.getElem?_modify, hbk]
  have hb1 : Below b w (w.setCell ⟨b, 0, none⟩ (.pointer (some ⟨b, 0, none⟩))) := (Below.refl b w).setCell (p := ⟨b, 0, none⟩) (Nat.le_refl _) _
  have k0 : w.cell? ⟨b, 0, none⟩ = some (.pointer none) := by rw [Lib.cell_of_heap hbk]; rfl
  have k1 : w.shape? b = some (44, 2) := by simp [World.shape?, hbk]
  have k2 : w.frozen? ⟨b, 0, none⟩ = false := Lib.frozen_of_heap hbk 0
  have HB := Lib.hid hb1
  have HK := Lib.hid hbk1
  clear hb1 hbk1 hbk
  go_enter Tryz.func75, Tryz.ntmps75
  go_wp2_with fail
  refine (sbFresh b w k0 k1 k2).mono ?_
  rintro e w' ⟨rfl, hw'⟩
  rw [← hw'] at HB HK
  have hs' : w.heap.size ≤ w'.heap.size := HB.out.size
  clear k0 k1 k2 hw'
  have c1 : w'.cell? ⟨b, 1, none⟩ = some (.slice none 0 0) := by rw [Lib.cell_of_heap HK.out]; rfl
  go_wp2_with fail
  go_quiet (fail)
  go_wp2_with fail
  refine (sbGrow0 b b n _ (Nat.le_refl _) (show (World.drewN w' _).heap[b]? = _ from HK.out) (by show b ≤ w'.heap.size; omega) hn).mono ?_
  rintro e w2 ⟨rfl, h1, h2⟩
  have H1 := Lib.hid h1
  have H2 := Lib.hid ((bdN HB.out _).trans h2)
  clear h1 h2
  go_wp2_with fail
  go_end0
  exact ⟨rfl, H1.out, H2.out⟩

set_option maxHeartbeats 4000000 in
/-- strings.Join of two and more texts, at a mark of one byte. -/
theorem strJoin_any (bk o c : Nat) (xs : List (List UInt8)) (m : UInt8) (w : World) (hcells : ∀ j x, xs[j]? = some x → w.cell? ⟨bk, o + j, none⟩ = some (.string ⟨x.toArray⟩)) (hbk : bk < w.heap.size) (h2 : 2 ≤ xs.length) (hN : xs.length ≤ 140737488355328) (hcap : xs.length ≤ c)
    (hlen : (Lib.join xs [m]).length ≤ 140737488355328) :
    Calls Tryz.prog 56 #[.slice (some ⟨bk, o, none⟩) xs.length c, .string ⟨#[m]⟩] w fun e w' => e = .returned (.string ⟨(Lib.join xs [m]).toArray⟩) ∧ Below w.heap.size w w' := by
  have HC := Lib.hid hcells
  obtain ⟨x0, r, hxs⟩ : ∃ x0 r, xs = x0 :: r := by
    cases xs with
    | nil => simp at h2
    | cons a t => exact ⟨a, t, rfl⟩
  have hrl : r.length = xs.length - 1 := by rw [hxs]; simp
  have hJe : (Lib.join xs [m]).length = (xs.length - 1) + Lib.lens xs := by
    have := Lib.join_length x0 r [m]
    rw [hxs]
    rw [this]
    simp
  have hsum : (xs.length - 1) + Lib.lens xs ≤ 140737488355328 := by omega
  have hdv : ¬ (9223372036854775807 / ((xs.length : Int) - 1) ≤ 1) := by
    have : (2 : Int) ≤ 9223372036854775807 / ((xs.length : Int) - 1) := by
      rw [Int.le_ediv_iff_mul_le (by omega)]
      omega
    omega
  have hne0 : ((xs.length : Int) == 0) = false := beq_eq_false_iff_ne.2 (by omega)
  have hne1 : ((xs.length : Int) == 1) = false := beq_eq_false_iff_ne.2 (by omega)
  have Hxs := Lib.hid hxs
  have HJe := Lib.hid hJe
  have Hrl := Lib.hid hrl
  clear hxs hlen hJe hcells hrl
  go_enter Tryz.func56, Tryz.ntmps56
  go_wp2_with fail
  go_loop [5, 41] (fun n i => ∃ k : Nat, k ≤ xs.length ∧ i = .int .i64 k ∧ n = .int .i64 ((xs.length - 1 + Lib.lens (xs.take k) : Nat) : Int)) (fun _ i => xs.length - (Lib.intOf i).toNat)
  case atStart => exact ⟨0, Nat.zero_le _, rfl, by simp [Lib.lens]; omega⟩
  case round =>
    obtain ⟨k, hk, rfl, rfl⟩ := hrel
    by_cases hkn : k < xs.length
    · have hx : xs[k]? = some xs[k] := List.getElem?_eq_getElem hkn
      have hc := HC.out k _ hx
      have hstep := Lib.lens_take_succ xs k _ hx
      have hbound := Lib.lens_take_le xs (k + 1)
      have hxz : (⟨(xs[k]).toArray⟩ : ByteArray).size = xs[k].length := by simp [ByteArray.size]
      generalize (⟨(xs[k]).toArray⟩ : ByteArray) = X at hc hxz
      generalize xs[k].length = L at hstep hxz
      generalize hA1 : Lib.lens (xs.take (k + 1)) = A1 at hstep hbound
      generalize Lib.lens (xs.take k) = A0 at hstep
      have HA1 := Lib.hid hA1
      clear hA1 hx
      go_wp2_with fail
      exact ⟨⟨k + 1, by omega, by go_num, by rw [HA1.out]; refine congrArg _ ?_; omega⟩, by simp [Lib.intOf]; omega⟩
    · have hke : k = xs.length := by omega
      subst hke
      rw [List.take_of_length_le (Nat.le_refl _)]
      generalize hT : Lib.lens xs = T at hsum
      have HT := Lib.hid hT
      clear hT
      go_wp2_with fail
      have e1 : ((xs.length - 1 : Nat) : Int) + (T : Int) = ((xs.length - 1 + T : Nat) : Int) := by omega
      rw [e1]
      clear e1
      refine (sbGrow w.heap.size (xs.length - 1 + T) _ (heap_alloc_new w _) (by omega) (by omega)).mono ?_
      rintro e w1 ⟨rfl, h1, hb1⟩
      have H1 := Lib.hid h1
      have HB1 := Lib.hid (((Below.refl w.heap.size w).alloc (Nat.le_refl _) _).trans hb1)
      have hs1 : w.heap.size ≤ w1.heap.size := HB1.out.size
      have hc0 : w1.cell? ⟨bk, o, none⟩ = some (.string ⟨x0.toArray⟩) := by
        rw [HB1.out.cell (p := ⟨bk, o, none⟩) hbk]
        exact HC.out 0 x0 (by rw [Hxs.out]; rfl)
      have HW : Hid (Lib.join xs [m] = x0 ++ Lib.joinTail [m] r) := Lib.hid (by rw [Hxs.out, Lib.join_cons])
      have HLe : Hid (∀ k, (x0 ++ Lib.joinTail [m] (r.take k)).length ≤ 140737488355328) := Lib.hid (fun k => by
        have g1 := HJe.out
        rw [HW.out, HT.out, List.length_append] at g1
        have g2 := Lib.joinTail_take_le [m] r k
        rw [List.length_append]
        omega)
      clear h1 hb1
      go_wp2_with fail
      refine (sbWrite w.heap.size w.heap.size [] ⟨x0.toArray⟩ w1 H1.out (by have := HLe.out 0; simp [Lib.joinTail] at this; simpa [ByteArray.size] using this) hs1).mono ?_
      rintro e w2 ⟨rfl, h2', hb2⟩
      have H2 : Hid (SB w.heap.size w.heap.size (x0 ++ Lib.joinTail [m] (r.take 0)) w2) := Lib.hid (by simpa [Lib.joinTail] using h2')
      have HB2 := Lib.hid (HB1.out.trans hb2)
      have hrl2 : r.length = xs.length - 1 := Hrl.out
      clear h2' hb2 hc0 hs1
      go_wp2_with fail
      go_loopw [65] (fun i wr => ∃ k : Nat, k ≤ r.length ∧ i = .int .i64 k ∧ Hid (SB w.heap.size w.heap.size (x0 ++ Lib.joinTail [m] (r.take k)) wr) ∧ Hid (Below w.heap.size w wr)) (fun i _ => r.length - (Lib.intOf i).toNat)
      case atStart => exact ⟨0, Nat.zero_le _, rfl, H2, HB2⟩
      case round =>
        obtain ⟨k, hk', rfl, HB, HW'⟩ := hrel
        have hBw : w.heap.size ≤ wr.heap.size := HW'.out.size
        by_cases hkr : k < r.length
        · have hy : r[k]? = some r[k] := List.getElem?_eq_getElem hkr
          obtain ⟨y, hyy⟩ : ∃ y, y = r[k] := ⟨_, rfl⟩
          rw [← hyy] at hy
          have hcy : wr.cell? ⟨bk, o + 1 + k, none⟩ = some (.string ⟨y.toArray⟩) := by
            rw [HW'.out.cell (p := ⟨bk, o + 1 + k, none⟩) hbk, show o + 1 + k = o + (k + 1) by omega]
            exact HC.out (k + 1) y (by rw [Hxs.out]; simpa using hy)
          have HN : Hid (x0 ++ Lib.joinTail [m] (r.take k) ++ [m] ++ y = x0 ++ Lib.joinTail [m] (r.take (k + 1))) := Lib.hid (by
            rw [Lib.joinTail_take_succ [m] r k y hy]
            simp [List.append_assoc])
          have HL : Hid ((x0 ++ Lib.joinTail [m] (r.take k)).length + 1 + y.length ≤ 140737488355328) := Lib.hid (by
            have g := HLe.out (k + 1)
            rw [← HN.out] at g
            simp only [List.length_append, List.length_singleton] at g ⊢
            omega)
          clear hy hyy
          go_wp2_with fail
          refine (sbWrite w.heap.size w.heap.size _ ⟨#[m]⟩ wr HB.out (by have := HL.out; show _ + 1 ≤ _; omega) hBw).mono ?_
          rintro e w3 ⟨rfl, h3, hb3⟩
          have H3 := Lib.hid h3
          have HB3 := Lib.hid (HW'.out.trans hb3)
          have hs3 : w.heap.size ≤ w3.heap.size := HB3.out.size
          clear h3 hb3 hcy
          go_wp2_with fail
          refine (sbWrite w.heap.size w.heap.size _ ⟨y.toArray⟩ w3 H3.out (by have := HL.out; simp only [List.length_append] at this ⊢; show _ + _ + 1 + y.length ≤ _; omega) hs3).mono ?_
          rintro e w4 ⟨rfl, h4, hb4⟩
          have H4 : Hid (SB w.heap.size w.heap.size (x0 ++ Lib.joinTail [m] (r.take (k + 1))) w4) := Lib.hid (by rw [← HN.out]; exact h4)
          have HB4 := Lib.hid (HB3.out.trans hb4)
          clear h4 hb4
          go_wp2_with fail
          exact ⟨⟨k + 1, by omega, by go_num, H4, HB4⟩, by simp [Lib.intOf]; omega⟩
        · have hke : k = r.length := by omega
          subst hke
          have hfull : r.take r.length = r := List.take_of_length_le (Nat.le_refl _)
          have HB' := Lib.hid HB.out
          rw [hfull, ← HW.out] at HB'
          clear hfull
          go_wp2_with fail
          refine (sbString w.heap.size w.heap.size _ wr HB'.out hBw).mono ?_
          rintro e w5 ⟨rfl, hb5⟩
          have HB5 := Lib.hid (HW'.out.trans hb5)
          clear hb5
          go_wp2_with fail
          go_ret
          exact ⟨rfl, HB5.out⟩
end Go.Proofs.YtdjjmcblhpjchaaGreatDoor
/-
  Package cond: what Print answers.
-/
namespace Go.Proofs.YtdjjmcblhpjchaaGreatDoor
open Go.ChangeShapes Go.WideShapes Go.ChangeAt Go.RowKit
set_option maxRecDepth 100000

/-- An argument's text. -/
def argT (n : Nat) : ByteArray := ⟨(argW n).toArray⟩
theorem conv2 (w : World) (x y : UInt8) : (convert 42 9 (.slice (some ⟨w.heap.size, 0, none⟩) 2 2)).run Tryz.prog (w.alloc (.cells #[.int .u8 (x.toNat : Int), .int .u8 (y.toNat : Int)] 5)) = .ok (.string ⟨#[x, y]⟩) (w.alloc (.cells #[.int .u8 (x.toNat : Int), .int .u8 (y.toNat : Int)] 5)) := by
  refine run_convert_bytes_back _ _ _ 5 ⟨w.heap.size, 0, none⟩ 2 [x, y] Tryz.underlying42 Tryz.underlying5 Tryz.underlying9 (fun j hj => ?_)
  have hj2 : j < 2 := hj
  have h := new_at w #[.int .u8 (x.toNat : Int), .int .u8 (y.toNat : Int)] 5 j
  rcases j with _ | _ | j
  · exact h _ rfl
  · exact h _ rfl
  · omega
theorem argument_any (n : Nat) (w : World) (h : n < 6) : Calls Tryz.prog 55 #[.int .i64 n] w fun e w' => e = .returned (.string (argT n)) ∧ Below w.heap.size w w' := by
  have h6 : n = 0 ∨ n = 1 ∨ n = 2 ∨ n = 3 ∨ n = 4 ∨ n = 5 := by omega
  clear h
  rcases h6 with rfl | rfl | rfl | rfl | rfl | rfl
  · have hcv := conv2 w 97 48
    change (convert 42 9 (.slice (some ⟨w.heap.size, 0, none⟩) 2 2)).run Tryz.prog (w.alloc (.cells #[.int .u8 97, .int .u8 48] 5)) = .ok (.string ⟨#[97, 48]⟩) (w.alloc (.cells #[.int .u8 97, .int .u8 48] 5)) at hcv
    go_enter Tryz.func55, Tryz.ntmps55
    go_wp2_with fail
    go_ret
    exact ⟨rfl, ba _ (Below.refl _ _)⟩
  · have hcv := conv2 w 97 49
    change (convert 42 9 (.slice (some ⟨w.heap.size, 0, none⟩) 2 2)).run Tryz.prog (w.alloc (.cells #[.int .u8 97, .int .u8 49] 5)) = .ok (.string ⟨#[97, 49]⟩) (w.alloc (.cells #[.int .u8 97, .int .u8 49] 5)) at hcv
    go_enter Tryz.func55, Tryz.ntmps55
    go_wp2_with fail
    go_ret
    exact ⟨rfl, ba _ (Below.refl _ _)⟩
  · have hcv := conv2 w 97 50
    change (convert 42 9 (.slice (some ⟨w.heap.size, 0, none⟩) 2 2)).run Tryz.prog (w.alloc (.cells #[.int .u8 97, .int .u8 50] 5)) = .ok (.string ⟨#[97, 50]⟩) (w.alloc (.cells #[.int .u8 97, .int .u8 50] 5)) at hcv
    go_enter Tryz.func55, Tryz.ntmps55
    go_wp2_with fail
    go_ret
    exact ⟨rfl, ba _ (Below.refl _ _)⟩
  · have hcv := conv2 w 97 51
    change (convert 42 9 (.slice (some ⟨w.heap.size, 0, none⟩) 2 2)).run Tryz.prog (w.alloc (.cells #[.int .u8 97, .int .u8 51] 5)) = .ok (.string ⟨#[97, 51]⟩) (w.alloc (.cells #[.int .u8 97, .int .u8 51] 5)) at hcv
    go_enter Tryz.func55, Tryz.ntmps55
    go_wp2_with fail
    go_ret
    exact ⟨rfl, ba _ (Below.refl _ _)⟩
  · have hcv := conv2 w 97 52
    change (convert 42 9 (.slice (some ⟨w.heap.size, 0, none⟩) 2 2)).run Tryz.prog (w.alloc (.cells #[.int .u8 97, .int .u8 52] 5)) = .ok (.string ⟨#[97, 52]⟩) (w.alloc (.cells #[.int .u8 97, .int .u8 52] 5)) at hcv
    go_enter Tryz.func55, Tryz.ntmps55
    go_wp2_with fail
    go_ret
    exact ⟨rfl, ba _ (Below.refl _ _)⟩
  · have hcv := conv2 w 97 53
    change (convert 42 9 (.slice (some ⟨w.heap.size, 0, none⟩) 2 2)).run Tryz.prog (w.alloc (.cells #[.int .u8 97, .int .u8 53] 5)) = .ok (.string ⟨#[97, 53]⟩) (w.alloc (.cells #[.int .u8 97, .int .u8 53] 5)) at hcv
    go_enter Tryz.func55, Tryz.ntmps55
    go_wp2_with fail
    go_ret
    exact ⟨rfl, ba _ (Below.refl _ _)⟩

/-- The text's four parts, put together. -/
theorem join_text (c : Cd) : Lib.join [argW c.arg, numT c.mask, cmpW c.cmp, numT c.value] [32] = textQ c := by
  rw [Lib.join_cons]
  simp [Lib.joinTail, textQ]
theorem joinQ_len {c : Cd} (hc : c.ok) (hr : c.right = true) : (Lib.join [argW c.arg, numT c.mask, cmpW c.cmp, numT c.value] [32]).length ≤ 140737488355328 := by
  rw [join_text]
  obtain ⟨a0, a5, k0, k5⟩ := (c.right_iff).1 hr
  have h1 := Wd.hex_len16 _ hc.1
  have h2 := Wd.hex_len16 _ hc.2
  have hl2 : (cmpW c.cmp).length = 2 := by rcases six k0 k5 with h | h | h | h | h | h <;> rw [h] <;> rfl
  have hla : (argW c.arg).length = 2 := rfl
  simp only [textQ, numT, List.length_append, List.length_cons, hl2, hla]
  omega
set_option maxHeartbeats 4000000 in
theorem qprint_good (c : Cd) (w : World) (hc : c.ok) (hr : c.right = true) (ht : QTab w) :
    Calls Tryz.prog 33 #[c.val] w fun e w' => e = .returned (.tuple #[.string (textT c), .int .i64 0]) ∧ Below w.heap.size w w' := by
  have HX := Lib.hid (heap_alloc_new w (cdB c))
  have HB := Lib.hid (ba (cdB c) (Below.refl w.heap.size w))
  obtain ⟨W, hW⟩ : ∃ W, W = w.alloc (cdB c) := ⟨_, rfl⟩
  rw [← hW] at HX HB
  have HL := Lib.hid (joinQ_len hc hr)
  have HE := Lib.hid (join_text c)
  obtain ⟨a0, a5, k0, k5⟩ := (c.right_iff).1 hr
  obtain ⟨c0, c1, c2, c3⟩ := cdX HX.out
  go_enter Tryz.func33, Tryz.ntmps33
  go_upto_region 1 with fail
  rw [← hW]
  clear hW
  go_wp2_with fail
  refine (compOf_good c _ hr).mono ?_
  rintro e w1 ⟨rfl, hb1⟩
  have HB1 := Lib.hid (below2 HB.out hb1)
  have hx1 := kb hb1 HX.out
  have hst := run_storeF (fnC_one c.cmp)
  have hlt1 : w.heap.size < w1.heap.size := lt_of_block hx1
  obtain ⟨K, hK⟩ : ∃ K, K = notK c.cmp := ⟨_, rfl⟩
  obtain ⟨F, hF⟩ : ∃ F, F = fnC c.cmp := ⟨_, rfl⟩
  obtain ⟨Wo, hWd⟩ : ∃ T, T = wordT c.cmp := ⟨_, rfl⟩
  have HX1 := Lib.hid hx1
  have HWd := Lib.hid hWd
  rw [← hF] at hst
  unfold rowV
  rw [← hK, ← hF, ← hWd]
  clear hb1 hr HX HB c0 c1 c2 c3 hK hF hWd hx1
  go_upto_region 2 with fail
  obtain ⟨W2, hW2⟩ : ∃ W2, W2 = w1.alloc (.cells #[.string Wo, .int .i64 K, F] 93) := ⟨_, rfl⟩
  have HB2 : Hid (Below w.heap.size w W2) := Lib.hid (by rw [hW2]; exact ba _ HB1.out)
  have hx2 : W2.heap[w.heap.size]? = some (cdB c) := by rw [hW2]; exact ka _ HX1.out
  have hr2 : W2.heap[w1.heap.size]? = some (.cells #[.string Wo, .int .i64 K, F] 93) := by rw [hW2]; exact heap_alloc_new w1 _
  change Code.wp _ _ _ _ (w1.alloc (.cells #[.string Wo, .int .i64 K, F] 93))
  rw [← hW2]
  have hlt2 : w.heap.size < W2.heap.size := lt_of_block hx2
  have hlt3 : w1.heap.size < W2.heap.size := lt_of_block hr2
  obtain ⟨d0, d1, d2, d3⟩ := cdX hx2
  have d4 : W2.cell? ⟨w1.heap.size, 0, none⟩ = some (.string Wo) := cell_in hr2 0
  clear hW2 hst HX1 HB1 hx2 hr2
  have HT2 := Lib.hid (ht.below (HB2.out.mono (Nat.le_refl _)))
  obtain ⟨n, hn⟩ : ∃ n : Nat, c.arg = n := ⟨c.arg.toNat, by omega⟩
  have hn6 : n < 6 := by omega
  have HN := Lib.hid hn
  rw [hn] at d0
  have hm := hc.1
  have hv := hc.2
  have CA : Hid (∀ V, Below W2.heap.size W2 V → Calls Tryz.prog 55 #[.int .i64 n] V fun e w' => e = .returned (.string (argT n)) ∧ Below W2.heap.size W2 w') := Lib.hid (fun V hV => (argument_any n V hn6).mono fun e w' h => ⟨h.1, below2 hV h.2⟩)
  have CT : Hid (∀ V x, x < 18446744073709551616 → Below W2.heap.size W2 V → Calls Tryz.prog 50 #[.int .u64 (x : Nat)] V fun e w' => e = .returned (.string (Wd.txt x)) ∧ Below W2.heap.size W2 w') := Lib.hid (fun V x hx hV => (text_any x V hx (Tab.below HT2.out hV)).mono fun e w' h => ⟨h.1, below2 hV h.2⟩)
  clear hn a0 a5 k0 k5 ht
  go_wp2_with fail
  go_region_held3 (fun V => V.cell? ⟨w.heap.size, 0, none⟩ = some (.int .i64 n) ∧ V.cell? ⟨w.heap.size, 2, none⟩ = some (.int .u64 (c.mask : Nat)) ∧ V.cell? ⟨w.heap.size, 3, none⟩ = some (.int .u64 (c.value : Nat)) ∧ V.cell? ⟨w1.heap.size, 0, none⟩ = some (.string Wo)) (first | exact ⟨d0, d2, d3, d4⟩ | exact ⟨a0, a2, a3, a4⟩ | go_keep)
    (first
      | (go_at_call 55; refine (CA.out _ ?_).mono ?_; (first | exact hb9 | (have hB := Below.refl W2.heap.size W2; go_grown)); rintro e w9 ⟨rfl, hb9⟩; have a0 := (hb9.cell (p := ⟨w.heap.size, _, none⟩) hlt2).trans d0; have a2 := (hb9.cell (p := ⟨w.heap.size, _, none⟩) hlt2).trans d2; have a3 := (hb9.cell (p := ⟨w.heap.size, _, none⟩) hlt2).trans d3; have a4 := (hb9.cell (p := ⟨w1.heap.size, _, none⟩) hlt3).trans d4)
      | (go_at_call 50; refine (CT.out _ _ ?_ ?_).mono ?_; (first | exact hm | exact hv); (first | exact hb9 | (have hB := Below.refl W2.heap.size W2; go_grown)); rintro e w9 ⟨rfl, hb9⟩; have a0 := (hb9.cell (p := ⟨w.heap.size, _, none⟩) hlt2).trans d0; have a2 := (hb9.cell (p := ⟨w.heap.size, _, none⟩) hlt2).trans d2; have a3 := (hb9.cell (p := ⟨w.heap.size, _, none⟩) hlt2).trans d3; have a4 := (hb9.cell (p := ⟨w1.heap.size, _, none⟩) hlt3).trans d4))
  obtain ⟨W3, hW3⟩ : ∃ W3, W3 = w9.alloc (.cells #[.string (argT n), .string (Wd.txt c.mask), .string Wo, .string (Wd.txt c.value)] 9) := ⟨_, rfl⟩
  have HB3 : Hid (Below w.heap.size w W3) := Lib.hid (by rw [hW3]; exact ba _ (HB2.out.trans (hb9.mono HB2.out.size)))
  have hr3 : W3.heap[w9.heap.size]? = some (.cells #[.string (argT n), .string (Wd.txt c.mask), .string Wo, .string (Wd.txt c.value)] 9) := by rw [hW3]; exact heap_alloc_new w9 _
  rw [← hW3]
  have hj := strJoin_any w9.heap.size 0 4 [argW c.arg, numT c.mask, cmpW c.cmp, numT c.value] 32 W3 (by
    intro j x hj
    rw [cell_in hr3, HN.out, HWd.out] at *
    rcases j with _ | _ | _ | _ | j
    · obtain rfl := Option.some.inj hj
      rfl
    · obtain rfl := Option.some.inj hj
      rfl
    · obtain rfl := Option.some.inj hj
      rfl
    · obtain rfl := Option.some.inj hj
      rfl
    · simp at hj) (lt_of_block hr3) (by simp) (by simp) (by simp) HL.out
  rw [HE.out] at hj
  have HJ := Lib.hid hj
  clear hj hr3 hW3 hb9 a0 a2 a3 a4 d0 d1 d2 d3 d4 hm hv CA CT
  generalize w9.heap.size = g9 at *
  go_wp2_with fail
  refine HJ.out.mono ?_
  rintro e w4 ⟨rfl, hb4⟩
  have HB4 := Lib.hid (below2 HB3.out hb4)
  clear hb4
  go_wp2_with fail
  go_ret2
  exact ⟨rfl, HB4.out⟩
end Go.Proofs.YtdjjmcblhpjchaaGreatDoor
/-
  Package cond: what Parse answers.
-/
namespace Go.Proofs.YtdjjmcblhpjchaaGreatDoor
open Go.ChangeShapes Go.WideShapes Go.ChangeAt Go.RowKit
set_option maxRecDepth 100000

/-! ### The pieces of a text -/
theorem index_at {a r : List UInt8} (h : ∀ c ∈ a, c ≠ 32) : Lib.indexByte (a ++ 32 :: r) 32 = (a.length : Nat) := by
  rcases index_cases (a ++ 32 :: r) 32 with ⟨_, hno⟩ | ⟨o, ho, hix, hsp, hno⟩
  · exact absurd rfl (hno 32 (by simp))
  · rw [hix]
    have hlo : o = a.length := by
      rcases Nat.lt_trichotomy o a.length with hlt | he | hgt
      · have h1 : (a ++ 32 :: r)[o]? = some 32 := by
          rw [hsp, List.getElem?_append_right (by rw [List.length_take]; omega), List.length_take, Nat.min_eq_left (by omega)]
          simp
        rw [List.getElem?_append_left hlt] at h1
        exact absurd rfl (h 32 (List.mem_of_getElem? h1))
      · exact he
      · refine absurd rfl (hno 32 ?_)
        have h1 : ((a ++ 32 :: r).take o)[a.length]? = some 32 := by
          rw [List.getElem?_take, if_pos hgt, List.getElem?_append_right (Nat.le_refl _)]
          simp
        exact List.mem_of_getElem? h1
    rw [hlo]
theorem cuts_text {c : Cd} (hr : c.right = true) : cutsL 32 3 (textQ c) = [argW c.arg, numT c.mask, cmpW c.cmp, numT c.value] := by
  obtain ⟨a0, a5, k0, k5⟩ := (c.right_iff).1 hr
  have step : ∀ (k : Nat) (a r : List UInt8), (∀ x ∈ a, x ≠ 32) → cutsL 32 (k + 1) (a ++ 32 :: r) = a :: cutsL 32 k r := by
    intro k a r h
    have hd : (a ++ 32 :: r).drop (a.length + 1) = r := by
      rw [← List.drop_drop, List.drop_left]
      rfl
    rw [cutsL_hit k (index_at h), List.take_left, hd]
  unfold textQ
  rw [step 2 _ _ (argW_32 a0 a5), step 1 _ _ (numT_32 _), step 0 _ _ (cmpW_32 _)]
  rfl
theorem cuts_four {l : List UInt8} {k : Nat} {p0 p1 p2 p3 : List UInt8} (h : cutsL 32 k l = [p0, p1, p2, p3]) : l = p0 ++ 32 :: (p1 ++ 32 :: (p2 ++ 32 :: p3)) := by
  have step : ∀ (k : Nat) (l : List UInt8) (p q : List UInt8) (r : List (List UInt8)), cutsL 32 k l = p :: q :: r → ∃ j l', k = j + 1 ∧ l = p ++ 32 :: l' ∧ cutsL 32 j l' = q :: r := by
    intro k l p q r h
    cases k with
    | zero => simp [cutsL] at h
    | succ j =>
      rcases index_cases l 32 with ⟨hix, _⟩ | ⟨o, ho, hix, hsp, hno⟩
      · rw [cutsL_miss _ hix] at h
        simp at h
      · rw [cutsL_hit j hix] at h
        simp only [List.cons.injEq] at h
        exact ⟨j, _, rfl, by rw [← h.1]; exact hsp, h.2⟩
  obtain ⟨k1, l1, rfl, rfl, h1⟩ := step _ _ _ _ _ h
  obtain ⟨k2, l2, rfl, rfl, h2⟩ := step _ _ _ _ _ h1
  obtain ⟨k3, l3, rfl, rfl, h3⟩ := step _ _ _ _ _ h2
  have : l3 = p3 := by
    cases k3 with
    | zero => simpa [cutsL] using h3
    | succ j =>
      rcases index_cases l3 32 with ⟨hix, _⟩ | ⟨o, ho, hix, hsp, hno⟩
      · rw [cutsL_miss _ hix] at h3
        simpa using h3
      · rw [cutsL_hit j hix] at h3
        have := cutsL_len 32 j (l3.drop (o + 1))
        simp only [List.cons.injEq] at h3
        rw [h3.2] at this
        simp at this
  rw [this]
def QPEnd (s : ByteArray) (e : Ending) : Prop :=
  (∃ c : Cd, c.ok ∧ c.right = true ∧ s = textT c ∧ e = .returned (.tuple #[c.val, .int .i64 0])) ∨ ((∀ c : Cd, c.ok → c.right = true → s ≠ textT c) ∧ e = .returned (.tuple #[zeroCd.val, .int .i64 2]))
/-- What a text's first part says. -/
def ArgEnd (s : ByteArray) (e : Ending) : Prop :=
  (∃ n : Nat, n < 6 ∧ s = argT n ∧ e = .returned (.tuple #[.int .i64 n, .bool true])) ∨ ((∀ n : Nat, n < 6 → s ≠ argT n) ∧ e = .returned (.tuple #[.int .i64 0, .bool false]))
theorem readArg_any (s : ByteArray) (w : World) : Calls Tryz.prog 97 #[.string s] w fun e w' => ArgEnd s e ∧ Below w.heap.size w w' := by
  go_enter Tryz.func97, Tryz.ntmps97
  go_wp2_with fail
  go_loopw [5] (fun i wr => ∃ n : Nat, n ≤ 6 ∧ i = .int .i64 n ∧ Below w.heap.size w wr ∧ ∀ m, m < n → s ≠ argT m) (fun i _ => 6 - (Lib.intOf i).toNat)
  case atStart => exact ⟨0, by omega, rfl, Below.refl _ _, fun m h => by omega⟩
  case round =>
    obtain ⟨n, hn, rfl, hb, hno⟩ := hrel
    have HB := Lib.hid hb
    have HN := Lib.hid hno
    clear hb hno
    by_cases h6 : n < 6
    · have hd : decide ((n : Int) < 6) = true := by simp; omega
      go_wp2_with fail
      refine (argument_any n _ h6).mono ?_
      rintro e w1 ⟨rfl, hb1⟩
      have HB1 := Lib.hid (HB.out.trans (hb1.mono HB.out.size))
      clear hb1
      cases hq : ((argT n).toList == s.toList)
      · have HN' : Hid (∀ m, m < n + 1 → s ≠ argT m) := Lib.hid (by
          intro m hm
          by_cases e : m < n
          · exact HN.out m e
          · obtain rfl : m = n := by omega
            intro e
            rw [e] at hq
            simp at hq)
        go_wp2_with fail
        go_roundw
        case rel => exact ⟨n + 1, by omega, by go_num, HB1.out, HN'.out⟩
        case measure => simp [Lib.intOf]; omega
      · have HE : Hid (ArgEnd s (.returned (.tuple #[.int .i64 n, .bool true]))) := Lib.hid (.inl ⟨n, h6, by
          have := beq_iff_eq.1 hq
          rw [Go.ByteArray.toList_eq, Go.ByteArray.toList_eq] at this
          exact (ByteArray.ext (Array.ext' this)).symm, rfl⟩)
        go_wp2_with fail
        go_ret2
        exact ⟨HE.out, HB1.out⟩
    · obtain rfl : n = 6 := by omega
      have HE : Hid (ArgEnd s (.returned (.tuple #[.int .i64 0, .bool false]))) := Lib.hid (.inr ⟨HN.out, rfl⟩)
      go_wp2_with fail
      go_ret2
      exact ⟨HE.out, HB.out⟩

/-- What a text's third part says. -/
def CmpEnd (s : ByteArray) (e : Ending) : Prop :=
  (∃ n : Nat, n < 6 ∧ s = wordT n ∧ e = .returned (.tuple #[.int .i64 n, .bool true])) ∨ ((∀ n : Nat, n < 6 → s ≠ wordT n) ∧ e = .returned (.tuple #[.int .i64 0, .bool false]))
theorem readCmp_any (s : ByteArray) (w : World) : Calls Tryz.prog 98 #[.string s] w fun e w' => CmpEnd s e ∧ Below w.heap.size w w' := by
  go_enter Tryz.func98, Tryz.ntmps98
  go_wp2_with fail
  refine (comparisons_any _).mono ?_
  rintro e w1 ⟨rfl, hw1⟩
  have HC1 : Hid (w1.heap[w.heap.size]? = some (.cells cmpCells 93)) := Lib.hid (by rw [hw1]; exact heap_alloc_new w _)
  have HB1 : Hid (Below w.heap.size w w1) := Lib.hid (by rw [hw1]; exact ba _ (Below.refl _ _))
  clear hw1
  go_wp2_with fail
  go_loopw [8] (fun i wr => ∃ n : Nat, n ≤ 6 ∧ i = .int .i64 n ∧ Below w.heap.size w wr ∧ wr.heap[w.heap.size]? = some (.cells cmpCells 93) ∧ ∀ m : Nat, m < n → s ≠ wordT m) (fun i _ => 6 - (Lib.intOf i).toNat)
  case atStart => exact ⟨0, by omega, rfl, HB1.out, HC1.out, fun m h => by omega⟩
  case round =>
    obtain ⟨n, hn, rfl, hb, hc, hno⟩ := hrel
    have HB := Lib.hid hb
    have HC := Lib.hid hc
    have HN := Lib.hid hno
    clear hb hno hc HB1 HC1
    by_cases h6 : n < 6
    · have hd : decide ((n : Int) < 6) = true := by simp; omega
      obtain ⟨r0, r1, r2⟩ := cmpCells_at h6
      have d0 := (cell_in HC.out (n * 3)).trans r0
      have d1 := (cell_in HC.out (n * 3 + 1)).trans r1
      have d2 := (cell_in HC.out (n * 3 + 2)).trans r2
      have l0 : (0 : Int) ≤ (n : Int) := by omega
      have l1 : (n : Int) < 6 := by omega
      have hst := run_storeF (fnC_one n)
      have HC' : Hid (∀ o, (wr.alloc o).heap[w.heap.size]? = some (.cells cmpCells 93)) := Lib.hid (fun o => ka o HC.out)
      have HB' : Hid (∀ o, Below w.heap.size w (wr.alloc o)) := Lib.hid (fun o => ba o HB.out)
      generalize fnC n = F at *
      generalize notK n = K at *
      obtain ⟨T, hT⟩ : ∃ T, T = wordT n := ⟨_, rfl⟩
      rw [← hT] at d0
      have HT := Lib.hid hT
      clear hT r0 r1 r2
      cases hq : (T.toList == s.toList)
      · have HN' : Hid (∀ m : Nat, m < n + 1 → s ≠ wordT m) := Lib.hid (by
          intro m hm
          by_cases e : m < n
          · exact HN.out m e
          · obtain rfl : m = n := by omega
            intro e
            rw [HT.out, e] at hq
            simp at hq)
        go_wp2_with fail
        go_roundw
        case rel => exact ⟨n + 1, by omega, by go_num, HB'.out _, HC'.out _, HN'.out⟩
        case measure => simp [Lib.intOf]; omega
      · have HE : Hid (CmpEnd s (.returned (.tuple #[.int .i64 n, .bool true]))) := Lib.hid (.inl ⟨n, h6, by
          have := beq_iff_eq.1 hq
          rw [Go.ByteArray.toList_eq, Go.ByteArray.toList_eq] at this
          rw [← HT.out]
          exact (ByteArray.ext (Array.ext' this)).symm, rfl⟩)
        go_wp2_with fail
        go_ret2
        exact ⟨HE.out, HB'.out _⟩
    · obtain rfl : n = 6 := by omega
      have HE : Hid (CmpEnd s (.returned (.tuple #[.int .i64 0, .bool false]))) := Lib.hid (.inr ⟨HN.out, rfl⟩)
      go_wp2_with fail
      go_ret2
      exact ⟨HE.out, HB.out⟩
/-! ### The same, with letters -/
theorem ArgEnd.letters {s : ByteArray} {e : Ending} (h : ArgEnd s e) : ∃ (n : Nat) (b : Bool), e = .returned (.tuple #[.int .i64 n, .bool b]) ∧ ((b = true ∧ n < 6 ∧ s = argT n) ∨ (b = false ∧ ∀ m : Nat, m < 6 → s ≠ argT m)) := by
  rcases h with ⟨n, h1, h2, rfl⟩ | ⟨h, rfl⟩
  · exact ⟨n, true, rfl, .inl ⟨rfl, h1, h2⟩⟩
  · exact ⟨0, false, rfl, .inr ⟨rfl, h⟩⟩
theorem CmpEnd.letters {s : ByteArray} {e : Ending} (h : CmpEnd s e) : ∃ (n : Nat) (b : Bool), e = .returned (.tuple #[.int .i64 n, .bool b]) ∧ ((b = true ∧ n < 6 ∧ s = wordT n) ∨ (b = false ∧ ∀ m : Nat, m < 6 → s ≠ wordT m)) := by
  rcases h with ⟨n, h1, h2, rfl⟩ | ⟨h, rfl⟩
  · exact ⟨n, true, rfl, .inl ⟨rfl, h1, h2⟩⟩
  · exact ⟨0, false, rfl, .inr ⟨rfl, h⟩⟩
theorem ParseEnd.letters {s : ByteArray} {e : Ending} (h : ParseEnd s e) : ∃ (n : Nat) (x : Int), e = .returned (.tuple #[.int .u64 n, .int .i64 x]) ∧ n < 18446744073709551616 ∧ ((x = 0 ∧ s = Wd.txt n) ∨ (x = 2 ∧ ∀ m : Nat, m < 18446744073709551616 → s ≠ Wd.txt m)) := by
  rcases h with ⟨n, h1, h2, rfl⟩ | ⟨h, rfl⟩
  · exact ⟨n, 0, rfl, h1, .inl ⟨rfl, h2⟩⟩
  · exact ⟨0, 2, rfl, by omega, .inr ⟨rfl, h⟩⟩
theorem bsT_inj {a b : List UInt8} (h : bsT a = bsT b) : a = b := by
  have := congrArg (fun x : ByteArray => x.data.toList) h
  simpa using this
theorem textQ_len {c : Cd} : 6 ≤ (textQ c).length := by
  unfold textQ
  simp [argW, numT]
  omega
/-- The pieces of a condition's text. -/
theorem parts_of {l : List UInt8} {c : Cd} (hr : c.right = true) (e : bsT l = textT c) : cutsL 32 (min 4 (l.length + 1) - 1) l = [argW c.arg, numT c.mask, cmpW c.cmp, numT c.value] := by
  have hl : l = textQ c := bsT_inj e
  have := textQ_len (c := c)
  rw [hl, Nat.min_eq_left (by omega)]
  exact cuts_text hr
theorem four_cells {p0 p1 p2 p3 : List UInt8} : cutCells [p0, p1, p2, p3] 4 = #[.string (bsT p0), .string (bsT p1), .string (bsT p2), .string (bsT p3)] := by
  unfold cutCells Lib.cellsOf
  simp
set_option maxHeartbeats 4000000 in
theorem qparse_any (s : ByteArray) (w : World) (hs : s.size ≤ 4611686018427387904) (_ht : QTab w) :
    Calls Tryz.prog 83 #[.string s] w fun e w' => QPEnd s e ∧ Below w.heap.size w w' := by
  obtain ⟨l, rfl⟩ : ∃ l : List UInt8, s = bsT l := ⟨s.data.toList, by simp⟩
  have hl : l.length ≤ 4611686018427387904 := by simpa [ByteArray.size] using hs
  have hz := heap_alloc_new w (cdB zeroCd)
  have HB0 := Lib.hid (ba (cdB zeroCd) (Below.refl w.heap.size w))
  obtain ⟨W, hW⟩ : ∃ W, W = w.alloc (cdB zeroCd) := ⟨_, rfl⟩
  rw [← hW] at hz HB0
  have HZ0 := Lib.hid hz
  clear hz hs
  obtain ⟨N, hN⟩ : ∃ N, N = min 4 (l.length + 1) := ⟨_, rfl⟩
  obtain ⟨ps, hps⟩ : ∃ ps, ps = cutsL 32 (N - 1) l := ⟨_, rfl⟩
  have hsp := splitN_any l 32 4 N W hl (by omega) hN (by omega)
  rw [← hps] at hsp
  have HSP := Lib.hid hsp
  have HT : Hid (∀ c : Cd, c.right = true → bsT l = textT c → ps = [argW c.arg, numT c.mask, cmpW c.cmp, numT c.value]) := Lib.hid (fun c hr e => by rw [hps, hN]; exact parts_of hr e)
  have HPS := Lib.hid hps
  have hle : ps.length ≤ N - 1 + 1 := by rw [hps]; exact (cutsL_len 32 _ l).2
  have hN4 : N ≤ 4 := by omega
  have hN1 : 1 ≤ N := by omega
  clear hps hN hsp
  have HEQ : Hid (∀ p0 p1 p2 p3, ps = [p0, p1, p2, p3] → l = p0 ++ 32 :: (p1 ++ 32 :: (p2 ++ 32 :: p3))) := Lib.hid (fun p0 p1 p2 p3 h => cuts_four (by rw [← HPS.out]; exact h))
  obtain ⟨S, hS⟩ : ∃ S, S = bsT l := ⟨_, rfl⟩
  rw [← hS] at HSP HT ⊢
  have HS := Lib.hid hS
  clear hS
  by_cases h4 : ps.length = 4
  · obtain ⟨p0, p1, p2, p3, rfl⟩ : ∃ p0 p1 p2 p3, ps = [p0, p1, p2, p3] := by
      match ps, h4 with
      | [p0, p1, p2, p3], _ => exact ⟨p0, p1, p2, p3, rfl⟩
    obtain rfl : N = 4 := by simp at hle; omega
    have hlen : l.length = p0.length + (p1.length + (p2.length + (p3.length + 1) + 1) + 1) := by
      have e := HEQ.out _ _ _ _ rfl
      rw [e]
      simp only [List.length_append, List.length_cons]
    have hz1 : (bsT p1).size ≤ 4611686018427387904 := by
      have : (bsT p1).size = p1.length := by simp [ByteArray.size]
      omega
    have hz3 : (bsT p3).size ≤ 4611686018427387904 := by
      have : (bsT p3).size = p3.length := by simp [ByteArray.size]
      omega
    have hsp := HSP.out
    rw [four_cells] at hsp
    have HSP4 := Lib.hid hsp
    clear hsp HSP hlen h4 hle hN4 hN1 hl
    obtain ⟨S0, hS0⟩ : ∃ S, S = bsT p0 := ⟨_, rfl⟩
    obtain ⟨S1, hS1⟩ : ∃ S, S = bsT p1 := ⟨_, rfl⟩
    obtain ⟨S2, hS2⟩ : ∃ S, S = bsT p2 := ⟨_, rfl⟩
    obtain ⟨S3, hS3⟩ : ∃ S, S = bsT p3 := ⟨_, rfl⟩
    rw [← hS0, ← hS1, ← hS2, ← hS3] at HSP4
    rw [← hS1] at hz1
    rw [← hS3] at hz3
    have HS0 := Lib.hid hS0
    have HS1 := Lib.hid hS1
    have HS2 := Lib.hid hS2
    have HS3 := Lib.hid hS3
    clear hS0 hS1 hS2 hS3
    go_enter Tryz.func83, Tryz.ntmps83
    go_upto_region 1 with fail
    change Code.wp _ _ _ _ (w.alloc (cdB zeroCd))
    rw [← hW]
    clear hW
    go_wp2_with fail
    refine HSP4.out.mono ?_
    rintro e w1 ⟨rfl, hw1⟩
    have hr1 : w1.heap[W.heap.size]? = some (.cells #[.string S0, .string S1, .string S2, .string S3] 9) := by rw [hw1]; exact heap_alloc_new W _
    have HR1 := Lib.hid hr1
    have HB1 : Hid (Below w.heap.size w w1) := Lib.hid (by rw [hw1]; exact ba _ HB0.out)
    have HZ1 : Hid (w1.heap[w.heap.size]? = some (cdB zeroCd)) := Lib.hid (by rw [hw1]; exact ka _ HZ0.out)
    have e0 : w1.cell? ⟨W.heap.size, 0, none⟩ = some (.string S0) := cell_in hr1 0
    generalize W.heap.size = g at *
    clear hw1 hr1 HSP4 HZ0 HB0
    go_wp2_with fail
    refine (readArg_any _ _).mono ?_
    rintro e w2 ⟨hA, hb2⟩
    obtain ⟨n, b0, rfl, hA0⟩ := hA.letters
    have HA := Lib.hid hA0
    have HR2 := Lib.hid (kb hb2 HR1.out)
    have HZ2 := Lib.hid (kb hb2 HZ1.out)
    have HB2 := Lib.hid (below2 HB1.out hb2)
    have e1 : w2.cell? ⟨g, 1, none⟩ = some (.string S1) := cell_in HR2.out 1
    clear hA hA0 hb2 e0 HR1 HZ1 HB1
    go_wp2_with fail
    refine (parse_any S1 _ hz1).mono ?_
    rintro e w3 ⟨hA, hb3⟩
    obtain ⟨m, x1, rfl, hm, hA0⟩ := hA.letters
    have HM := Lib.hid hA0
    have HR3 := Lib.hid (kb hb3 HR2.out)
    have HZ3 := Lib.hid (kb hb3 HZ2.out)
    have HB3 := Lib.hid (below2 HB2.out hb3)
    have e2 : w3.cell? ⟨g, 2, none⟩ = some (.string S2) := cell_in HR3.out 2
    clear hA hA0 hb3 e1 HR2 HZ2 HB2
    go_wp2_with fail
    refine (readCmp_any S2 _).mono ?_
    rintro e w4 ⟨hA, hb4⟩
    obtain ⟨k, b2, rfl, hA0⟩ := hA.letters
    have HK := Lib.hid hA0
    have HR4 := Lib.hid (kb hb4 HR3.out)
    have HZ4 := Lib.hid (kb hb4 HZ3.out)
    have HB4 := Lib.hid (below2 HB3.out hb4)
    have e3 : w4.cell? ⟨g, 3, none⟩ = some (.string S3) := cell_in HR4.out 3
    clear hA hA0 hb4 e2 HR3 HZ3 HB3
    go_wp2_with fail
    refine (parse_any S3 _ hz3).mono ?_
    rintro e w5 ⟨hA, hb5⟩
    obtain ⟨v, x3, rfl, hv, hA0⟩ := hA.letters
    have HV := Lib.hid hA0
    have HZ5 := Lib.hid (kb hb5 HZ4.out)
    have HB5 := Lib.hid (below2 HB4.out hb5)
    have r0 := cell_in HZ5.out 0
    have r1 := cell_in HZ5.out 1
    have r2 := cell_in HZ5.out 2
    have r3 := cell_in HZ5.out 3
    have f0 := free_in HZ5.out 0
    have f1 := free_in HZ5.out 1
    have f2 := free_in HZ5.out 2
    have f3 := free_in HZ5.out 3
    have hlt : w.heap.size < w5.heap.size := lt_of_block HZ5.out
    clear hA hA0 hb5 e3 HR4 HZ4 HB4
    rcases HA.out with ⟨rfl, hn6, hn⟩ | ⟨rfl, hno⟩
    rotate_left
    · have HE : Hid (QPEnd S (.returned (.tuple #[zeroCd.val, .int .i64 2]))) := Lib.hid (.inr ⟨fun c _ hr e => by
        have h := HT.out c hr e
        simp only [List.cons.injEq] at h
        have h' := (c.right_iff).1 hr
        exact hno c.arg.toNat (by omega) (by rw [HS0.out, h.1]; unfold argT; rw [show ((c.arg.toNat : Nat) : Int) = c.arg by omega]), rfl⟩)
      clear hno
      go_wp2_with fail
      (try simp only [Exit.inBlock, Exit.then])
      refine bodyPost_ret (v := .tuple #[.agg #[.int .i64 0, .int .i64 0, .int .u64 0, .int .u64 0], .int .i64 2]) ?_ rfl ⟨HE.out, ?_⟩
      · rw [results_cell_tmp rfl]
        go_simp
      · have hB := HB5.out
        go_grown
    rcases HM.out with ⟨rfl, hm1⟩ | ⟨rfl, hno⟩
    rotate_left
    · have HE : Hid (QPEnd S (.returned (.tuple #[zeroCd.val, .int .i64 2]))) := Lib.hid (.inr ⟨fun c hc hr e => by
        have h := HT.out c hr e
        simp only [List.cons.injEq] at h
        exact hno c.mask hc.1 (by rw [HS1.out, h.2.1]; rfl), rfl⟩)
      clear hno hn
      go_wp2_with fail
      (try simp only [Exit.inBlock, Exit.then])
      refine bodyPost_ret (v := .tuple #[.agg #[.int .i64 0, .int .i64 0, .int .u64 0, .int .u64 0], .int .i64 2]) ?_ rfl ⟨HE.out, ?_⟩
      · rw [results_cell_tmp rfl]
        go_simp
      · have hB := HB5.out
        go_grown
    rcases HK.out with ⟨rfl, hk6, hk⟩ | ⟨rfl, hno⟩
    rotate_left
    · have HE : Hid (QPEnd S (.returned (.tuple #[zeroCd.val, .int .i64 2]))) := Lib.hid (.inr ⟨fun c hc hr e => by
        have h := HT.out c hr e
        simp only [List.cons.injEq] at h
        have h' := (c.right_iff).1 hr
        exact hno c.cmp.toNat (by omega) (by rw [HS2.out, h.2.2.1]; unfold wordT; rw [show ((c.cmp.toNat : Nat) : Int) = c.cmp by omega]), rfl⟩)
      clear hno hn hm1
      go_wp2_with fail
      (try simp only [Exit.inBlock, Exit.then])
      refine bodyPost_ret (v := .tuple #[.agg #[.int .i64 0, .int .i64 0, .int .u64 0, .int .u64 0], .int .i64 2]) ?_ rfl ⟨HE.out, ?_⟩
      · rw [results_cell_tmp rfl]
        go_simp
      · have hB := HB5.out
        go_grown
    rcases HV.out with ⟨rfl, hv1⟩ | ⟨rfl, hno⟩
    rotate_left
    · have HE : Hid (QPEnd S (.returned (.tuple #[zeroCd.val, .int .i64 2]))) := Lib.hid (.inr ⟨fun c hc hr e => by
        have h := HT.out c hr e
        simp only [List.cons.injEq] at h
        exact hno c.value hc.2 (by rw [HS3.out, h.2.2.2.1]; rfl), rfl⟩)
      clear hno hn hm1 hk
      go_wp2_with fail
      (try simp only [Exit.inBlock, Exit.then])
      refine bodyPost_ret (v := .tuple #[.agg #[.int .i64 0, .int .i64 0, .int .u64 0, .int .u64 0], .int .i64 2]) ?_ rfl ⟨HE.out, ?_⟩
      · rw [results_cell_tmp rfl]
        go_simp
      · have hB := HB5.out
        go_grown
    have HE : Hid (QPEnd S (.returned (.tuple #[(⟨n, k, m, v⟩ : Cd).val, .int .i64 0]))) := Lib.hid (.inl ⟨⟨n, k, m, v⟩, ⟨hm, hv⟩, cd_right hn6 hk6, by
      have q0 : p0 = argW n := bsT_inj (HS0.out.symm.trans hn)
      have q1 : p1 = numT m := bsT_inj (HS1.out.symm.trans hm1)
      have q2 : p2 = cmpW k := bsT_inj (HS2.out.symm.trans hk)
      have q3 : p3 = numT v := bsT_inj (HS3.out.symm.trans hv1)
      rw [HS.out, HEQ.out _ _ _ _ rfl, q0, q1, q2, q3]
      rfl, rfl⟩)
    clear hn hm1 hk hv1
    go_wp2_with fail
    (try simp only [Exit.inBlock, Exit.then])
    refine bodyPost_ret (v := .tuple #[.agg #[.int .i64 n, .int .i64 k, .int .u64 m, .int .u64 v], .int .i64 0]) ?_ rfl ⟨HE.out, ?_⟩
    · rw [results_cell_tmp rfl]
      go_simp
    · have hB := HB5.out
      go_grown
  · have HE : Hid (QPEnd S (.returned (.tuple #[zeroCd.val, .int .i64 2]))) := Lib.hid (.inr ⟨fun c _ hr e => h4 (by rw [HT.out c hr e]; rfl), rfl⟩)
    have h4' : ((ps.length : Int) != 4) = true := by simp; omega
    have r0 := cell_in HZ0.out 0
    have r1 := cell_in HZ0.out 1
    have r2 := cell_in HZ0.out 2
    have r3 := cell_in HZ0.out 3
    have f0 := free_in HZ0.out 0
    have f1 := free_in HZ0.out 1
    have f2 := free_in HZ0.out 2
    have f3 := free_in HZ0.out 3
    have hlt : w.heap.size < W.heap.size := lt_of_block HZ0.out
    clear h4
    go_enter Tryz.func83, Tryz.ntmps83
    go_upto_region 1 with fail
    change Code.wp _ _ _ _ (w.alloc (cdB zeroCd))
    rw [← hW]
    clear hW
    go_wp2_with fail
    refine HSP.out.mono ?_
    rintro e w1 ⟨rfl, rfl⟩
    go_wp2_with fail
    (try simp only [Exit.inBlock, Exit.then])
    refine bodyPost_ret (v := .tuple #[.agg #[.int .i64 0, .int .i64 0, .int .u64 0, .int .u64 0], .int .i64 2]) ?_ rfl ⟨HE.out, ?_⟩
    · rw [results_cell_tmp rfl]
      go_simp
    · have hB := HB0.out
      go_grown
end Go.Proofs.YtdjjmcblhpjchaaGreatDoor
/-
  Package policy: which policies are right.
-/
namespace Go.Proofs.YtdjjmcblhpjchaaGreatDoor
open Go.ChangeShapes Go.WideShapes Go.ChangeAt Go.RowKit
set_option maxRecDepth 20000

theorem pisaction_any (v : Nat) (w : World) (hv : v < 4294967296) (ht : Tab w) :
    Calls Tryz.prog 20 #[.int .u32 (v : Nat)] w fun e w' => e = .returned (.bool (actT v).isSome) ∧ Below w.heap.size w w' := by
  go_enter Tryz.func20, Tryz.ntmps20
  go_wp2_with fail
  refine (naction_any v _ hv ht).mono ?_
  rintro e w1 ⟨rfl, hb1⟩
  have HB1 := Lib.hid hb1
  clear hb1
  generalize actS v = A
  cases hs : (actT v).isSome
  · have HS := Lib.hid hs
    rw [if_neg (by decide)]
    clear hs
    go_wp2_with fail
    go_ret
    exact ⟨by rw [HS.out]; rfl, HB1.out⟩
  · have HS := Lib.hid hs
    rw [if_pos rfl]
    clear hs
    go_wp2_with fail
    go_ret
    exact ⟨by rw [HS.out]; rfl, HB1.out⟩
set_option maxHeartbeats 8000000 in
theorem pisrule_any (cv : Value) (x : Rl) (w : World) (hC : CAt w cv x.conds) (hk : x.ok) (hl : x.conds.length ≤ 9223372036854775807) (ht : Tab w) :
    Calls Tryz.prog 21 #[x.val cv] w fun e w' => e = .returned (.bool x.right) ∧ Below w.heap.size w w' := by
  obtain ⟨co, ccap, rfl, hrows⟩ := hC.rows
  have HROW := Lib.hid hrows
  have HX0 := Lib.hid (heap_alloc_new w (rlB x (.slice co x.conds.length ccap)))
  have HB0 := Lib.hid (ba (rlB x (.slice co x.conds.length ccap)) (Below.refl w.heap.size w))
  obtain ⟨W, hW⟩ : ∃ W, W = w.alloc (rlB x (.slice co x.conds.length ccap)) := ⟨_, rfl⟩
  rw [← hW] at HX0 HB0
  obtain ⟨R, hR⟩ : ∃ R, R = x.right := ⟨_, rfl⟩
  rw [← hR]
  have HR := Lib.hid hR
  have HT := Lib.hid ht
  have hv := hk.2.2.1
  clear hR hrows hC ht hk
  go_enter Tryz.func21, Tryz.ntmps21
  go_upto_region 1 with fail
  change Code.wp _ _ _ _ (w.alloc (rlB x (.slice co x.conds.length ccap)))
  rw [← hW]
  clear hW
  obtain ⟨r0, r1, r2, r3⟩ := rbox HX0.out
  by_cases h4 : 4 < x.conds.length
  · have HE : Hid (R = false) := Lib.hid (by rw [HR.out]; unfold Rl.right; rw [show decide (x.conds.length ≤ 4) = false by simp; omega]; rfl)
    have hb : decide ((4 : Int) < (x.conds.length : Int)) = true := by simp; omega
    clear h4
    go_wp2_with fail
    go_ret
    exact ⟨by rw [HE.out]; rfl, HB0.out⟩
  have hb : decide ((4 : Int) < (x.conds.length : Int)) = false := by simp; omega
  go_wp2_with fail
  refine (pisaction_any x.act _ hv (HT.out.below HB0.out)).mono ?_
  rintro e w1 ⟨rfl, hb1⟩
  have HB1 := Lib.hid (below2 HB0.out hb1)
  have HX1 := Lib.hid (kb hb1 HX0.out)
  clear hb1 r0 r1 r2 r3 HX0 HB0
  cases hs : (actT x.act).isSome
  · have HE : Hid (R = false) := Lib.hid (by rw [HR.out]; unfold Rl.right; rw [hs]; simp)
    clear hs h4
    go_wp2_with fail
    go_ret
    exact ⟨by rw [HE.out]; rfl, HB1.out⟩
  have HRR : Hid (R = x.conds.all Cd.right) := Lib.hid (by rw [HR.out]; unfold Rl.right; rw [hs, show decide (x.conds.length ≤ 4) = true by simp; omega]; rfl)
  clear hs h4
  obtain ⟨r0, r1, r2, r3⟩ := rbox HX1.out
  go_wp2_with fail
  go_loopw [18] (fun i wr => ∃ j : Nat, j ≤ x.conds.length ∧ i = .int .i64 j ∧ Below w.heap.size w wr ∧ wr.heap[w.heap.size]? = some (rlB x (.slice co x.conds.length ccap)) ∧ (x.conds.take j).all Cd.right = true) (fun i _ => x.conds.length - (Lib.intOf i).toNat)
  case atStart => exact ⟨0, Nat.zero_le _, rfl, HB1.out, HX1.out, rfl⟩
  case round =>
    obtain ⟨j, hj, rfl, hbw, hxx, hall⟩ := hrel
    have HB := Lib.hid hbw
    have HX := Lib.hid hxx
    have HA := Lib.hid hall
    clear hbw hxx hall HB1 HX1 r0 r1 r2 r3
    obtain ⟨r0, r1, r2, r3⟩ := rbox HX.out
    by_cases hjl : j < x.conds.length
    · obtain ⟨cb, coff, rfl, hcb, d0, d1, d2, d3⟩ := HROW.out j hjl
      obtain ⟨c, hc⟩ : ∃ c, c = x.conds[j] := ⟨_, rfl⟩
      rw [← hc] at d0 d1 d2 d3
      have e0 := (HB.out.cell (p := ⟨cb, _, none⟩) hcb).trans d0
      have e1 := (HB.out.cell (p := ⟨cb, _, none⟩) hcb).trans d1
      have e2 := (HB.out.cell (p := ⟨cb, _, none⟩) hcb).trans d2
      have e3 := (HB.out.cell (p := ⟨cb, _, none⟩) hcb).trans d3
      have HCJ := Lib.hid hc
      have l0 : (j : Int) < (x.conds.length : Int) := by omega
      have l1 : (0 : Int) ≤ (j : Int) := by omega
      have l2 : (j : Int).toNat = j := by omega
      clear hc d0 d1 d2 d3
      go_wp2_with fail
      have hba : Below wr.heap.size wr (wr.alloc (cdB c)) := ba _ (Below.refl _ _)
      refine (qright_any c _ (HT.out.below (below2 HB.out hba))).mono ?_
      rintro e w5 ⟨rfl, hb5'⟩
      have hb5 := below2 hba hb5'
      clear hb5' hba
      have HB5 := Lib.hid (below2 HB.out hb5)
      have HX5 := Lib.hid (kb hb5 HX.out)
      clear hb5 e0 e1 e2 e3 r0 r1 r2 r3
      cases hr : c.right
      · have HE : Hid (R = false) := Lib.hid (by
          rw [HRR.out]
          refine not_all hjl ?_
          rw [← HCJ.out, hr])
        clear hr
        go_wp2_with fail
        go_ret
        exact ⟨by rw [HE.out]; rfl, HB5.out⟩
      · have HN : Hid ((x.conds.take (j + 1)).all Cd.right = true) := Lib.hid (take_all_succ hjl HA.out (by rw [← HCJ.out]; exact hr))
        clear hr
        go_wp2_with fail
        go_roundw
        case rel => exact ⟨j + 1, by omega, by go_num, HB5.out, HX5.out, HN.out⟩
        case measure => simp [Lib.intOf]; omega
    · have HE : Hid (R = true) := Lib.hid (by rw [HRR.out]; exact take_all_end (by omega) HA.out)
      go_wp2_with fail
      go_ret
      exact ⟨by rw [HE.out]; rfl, HB.out⟩
set_option maxHeartbeats 8000000 in
theorem ppright_any (rv : Value) (p : Po) (w : World) (hL : LAt w rv p.rules) (hk : p.ok) (hl : p.rules.length ≤ 9223372036854775807) (hl2 : ∀ x ∈ p.rules, x.conds.length ≤ 9223372036854775807) (ht : Tab w) :
    Calls Tryz.prog 9 #[poV rv p.dflt] w fun e w' => e = .returned (.bool p.right) ∧ Below w.heap.size w w' := by
  obtain ⟨rs, d⟩ := p
  simp only at hL hl hl2
  obtain ⟨hd, hok⟩ := hk
  simp only at hd hok
  obtain ⟨ao, cap, rfl, hrows⟩ := hL.rows
  have HROW := Lib.hid hrows
  have HX0 := Lib.hid (heap_alloc_new w (poB (.slice ao rs.length cap) d))
  have HB0 := Lib.hid (ba (poB (.slice ao rs.length cap) d) (Below.refl w.heap.size w))
  obtain ⟨W, hW⟩ : ∃ W, W = w.alloc (poB (.slice ao rs.length cap) d) := ⟨_, rfl⟩
  rw [← hW] at HX0 HB0
  obtain ⟨R, hR⟩ : ∃ R, R = (⟨rs, d⟩ : Po).right := ⟨_, rfl⟩
  rw [← hR]
  have HR := Lib.hid hR
  have HL2 := Lib.hid hl2
  have HOK := Lib.hid hok
  have HT := Lib.hid ht
  clear hR hrows hL hl2 hok ht
  go_enter Tryz.func9, Tryz.ntmps9
  go_upto_region 1 with fail
  change Code.wp _ _ _ _ (w.alloc (poB (.slice ao rs.length cap) d))
  rw [← hW]
  clear hW
  obtain ⟨c0, c1⟩ := pbox HX0.out
  by_cases h64 : 64 < rs.length
  · have HE : Hid (R = false) := Lib.hid (by rw [HR.out]; unfold Po.right; rw [show decide (rs.length ≤ 64) = false by simp; omega]; rfl)
    have hb : decide ((64 : Int) < (rs.length : Int)) = true := by simp; omega
    clear h64
    go_wp2_with fail
    go_ret
    exact ⟨by rw [HE.out]; rfl, HB0.out⟩
  have hb : decide ((64 : Int) < (rs.length : Int)) = false := by simp; omega
  go_wp2_with fail
  refine (pisaction_any d _ hd (HT.out.below HB0.out)).mono ?_
  rintro e w1 ⟨rfl, hb1⟩
  have HB1 := Lib.hid (below2 HB0.out hb1)
  have HX1 := Lib.hid (kb hb1 HX0.out)
  clear hb1 c0 c1 HX0 HB0
  cases hs : (actT d).isSome
  · have HE : Hid (R = false) := Lib.hid (by rw [HR.out]; unfold Po.right; rw [hs]; simp)
    clear hs h64
    go_wp2_with fail
    go_ret
    exact ⟨by rw [HE.out]; rfl, HB1.out⟩
  have HRR : Hid (R = rs.all Rl.right) := Lib.hid (by rw [HR.out]; unfold Po.right; rw [hs, show decide (rs.length ≤ 64) = true by simp; omega]; rfl)
  clear hs h64
  obtain ⟨c0, c1⟩ := pbox HX1.out
  go_wp2_with fail
  go_loopw [18] (fun i wr => ∃ k : Nat, k ≤ rs.length ∧ i = .int .i64 k ∧ Below w.heap.size w wr ∧ wr.heap[w.heap.size]? = some (poB (.slice ao rs.length cap) d) ∧ (rs.take k).all Rl.right = true) (fun i _ => rs.length - (Lib.intOf i).toNat)
  case atStart => exact ⟨0, Nat.zero_le _, rfl, HB1.out, HX1.out, rfl⟩
  case round =>
    obtain ⟨k, hk, rfl, hbw, hxx, hall⟩ := hrel
    have HB := Lib.hid hbw
    have HX := Lib.hid hxx
    have HA := Lib.hid hall
    clear hbw hxx hall HB1 HX1 c0 c1
    obtain ⟨c0, c1⟩ := pbox HX.out
    by_cases hlt : k < rs.length
    · obtain ⟨b, off, cv, rfl, hb', hcv, d0, d1, d2, d3⟩ := HROW.out k hlt
      obtain ⟨x, hx⟩ : ∃ x, x = rs[k] := ⟨_, rfl⟩
      rw [← hx] at hcv d0 d1 d3
      have hxk : x.ok := by rw [hx]; exact HOK.out _ (List.getElem_mem hlt)
      have hxl : x.conds.length ≤ 9223372036854775807 := by rw [hx]; exact HL2.out _ (List.getElem_mem hlt)
      have HIR : Hid (∀ V, Below wr.heap.size wr V → Calls Tryz.prog 21 #[x.val cv] V fun e w' => e = .returned (.bool x.right) ∧ Below V.heap.size V w') := Lib.hid (fun V hV => pisrule_any cv x V (hcv.below (below2 HB.out hV)) hxk hxl (HT.out.below (below2 HB.out hV)))
      obtain ⟨co, ccap, rfl⟩ := hcv.shape
      have HXR := Lib.hid hx
      have e0 := (HB.out.cell (p := ⟨b, _, none⟩) hb').trans d0
      have e1 := (HB.out.cell (p := ⟨b, _, none⟩) hb').trans d1
      have e2 := (HB.out.cell (p := ⟨b, _, none⟩) hb').trans d2
      have e3 := (HB.out.cell (p := ⟨b, _, none⟩) hb').trans d3
      have l0 : (k : Int) < (rs.length : Int) := by omega
      have l1 : (0 : Int) ≤ (k : Int) := by omega
      have l2 : (k : Int).toNat = k := by omega
      clear hx d0 d1 d2 d3 hcv hxk hxl
      go_wp2_with fail
      have hba : Below wr.heap.size wr (wr.alloc (rlB x (.slice co x.conds.length ccap))) := ba _ (Below.refl _ _)
      refine (HIR.out _ hba).mono ?_
      rintro e w5 ⟨rfl, hb5'⟩
      have hb5 := below2 hba hb5'
      clear hb5' hba
      have HB5 := Lib.hid (below2 HB.out hb5)
      have HX5 := Lib.hid (kb hb5 HX.out)
      clear hb5 e0 e1 e2 e3 c0 c1 HIR
      cases hr : x.right
      · have HE : Hid (R = false) := Lib.hid (by
          rw [HRR.out]
          refine not_all hlt ?_
          rw [← HXR.out, hr])
        clear hr
        go_wp2_with fail
        go_ret
        exact ⟨by rw [HE.out]; rfl, HB5.out⟩
      · have HN : Hid ((rs.take (k + 1)).all Rl.right = true) := Lib.hid (take_all_succ hlt HA.out (by rw [← HXR.out]; exact hr))
        clear hr
        go_wp2_with fail
        go_roundw
        case rel => exact ⟨k + 1, by omega, by go_num, HB5.out, HX5.out, HN.out⟩
        case measure => simp [Lib.intOf]; omega
    · have HE : Hid (R = true) := Lib.hid (by rw [HRR.out]; exact take_all_end (by omega) HA.out)
      go_wp2_with fail
      go_ret
      exact ⟨by rw [HE.out]; rfl, HB.out⟩
end Go.Proofs.YtdjjmcblhpjchaaGreatDoor
/-
  A line's words, each with a space behind it, plainly: what is taken of them, and what they say. What a round of a range over a text passes by.
-/
namespace Go.Proofs.YtdjjmcblhpjchaaGreatDoor
open Go.RowKit
set_option maxRecDepth 20000

/-! ### Runes -/
theorem decode_32 (s : ByteArray) (k : Nat) (h : k < s.size) (h32 : (s[k]'h).toNat = 32) : Utf8.decode s k = (32, 1) := by
  rw [decode_ascii s k h (by omega), h32]
theorem decode_not (s : ByteArray) (k : Nat) (h : k < s.size) (h32 : (s[k]'h).toNat ≠ 32) : (Utf8.decode s k).1 ≠ 32 := by
  by_cases ha : (s[k]'h).toNat < 128
  · rw [decode_ascii s k h ha]
    exact h32
  · have := (decode_high s k h (by omega)).1
    omega
theorem decode_pos (s : ByteArray) (k : Nat) (h : k < s.size) : 1 ≤ (Utf8.decode s k).2 := by
  by_cases ha : (s[k]'h).toNat < 128
  · rw [decode_ascii s k h ha]
    exact Nat.le_refl _
  · exact (decode_high s k h (by omega)).2
theorem get_in (s : ByteArray) (k : Nat) (h : k < s.size) : s.get! k = s[k]'h := by
  have := get_at s k h
  simpa using this
/-- A rune ends ahead of the next space. -/
theorem decode_upto (s : ByteArray) (i k : Nat) (hk : k < s.size) (hik : i < k) (h32 : (s[k]'hk).toNat = 32) : i + (Utf8.decode s i).2 ≤ k := by
  have hg : (s.get! k).toNat = 32 := by rw [get_in s k hk, h32]
  obtain ⟨j, rfl⟩ : ∃ j, k = i + j := ⟨k - i, by omega⟩
  have hw : (Utf8.decode s i).2 ≤ j := by
    by_cases j1 : j = 1
    · subst j1
      simp only [Utf8.decode, hg]
      repeat' split
      all_goals simp_all
    · by_cases j2 : j = 2
      · subst j2
        simp only [Utf8.decode, hg]
        repeat' split
        all_goals simp_all
      · by_cases j3 : j = 3
        · subst j3
          simp only [Utf8.decode, hg]
          repeat' split
          all_goals simp_all
        · simp only [Utf8.decode]
          repeat' split
          all_goals (show _ ≤ _; simp; omega)
  omega
/-! ### Words with a space behind each -/
def restT (ws : List (List UInt8)) : List UInt8 := ws.flatMap (· ++ [32])
def freeW (ws : List (List UInt8)) : Prop := ∀ p ∈ ws, ∀ c ∈ p, c ≠ 32
theorem restT_cons (p : List UInt8) (ws : List (List UInt8)) : restT (p :: ws) = p ++ 32 :: restT ws := by simp [restT]
theorem restT_join : ∀ (ws : List (List UInt8)), ws ≠ [] → restT ws = Ip.join ws ++ [32]
  | [], h => absurd rfl h
  | [x], _ => by simp [restT, Ip.join]
  | x :: y :: l, _ => by
    rw [restT_cons, restT_join (y :: l) (by simp)]
    show _ = (x ++ 32 :: Ip.join (y :: l)) ++ [32]
    simp
theorem restT_line (p : List UInt8) : p ++ [32] = restT (Ip.cutAll 32 [] p) := by
  rw [restT_join _ (Ip.cutAll_ne 32 p []), Ip.join_cutAll]
  simp
theorem cutAll_free (m : UInt8) (l : List UInt8) : ∀ cur, (∀ c ∈ cur, c ≠ m) → ∀ y ∈ Ip.cutAll m cur l, ∀ c ∈ y, c ≠ m := by
  induction l with
  | nil =>
    intro cur h y hy
    simp [Ip.cutAll] at hy
    subst hy
    exact h
  | cons c l ih =>
    intro cur h y hy
    rw [Ip.cutAll] at hy
    split at hy
    · rcases List.mem_cons.1 hy with rfl | hy
      · exact h
      · exact ih [] (by simp) y hy
    · rename_i hc
      refine ih (cur ++ [c]) ?_ y hy
      intro d hd
      rcases List.mem_append.1 hd with hd | hd
      · exact h d hd
      · rw [List.mem_singleton.1 hd]
        exact hc
theorem freeW_cut (p : List UInt8) : freeW (Ip.cutAll 32 [] p) := cutAll_free 32 p [] (by simp)
theorem freeW_drop {ws : List (List UInt8)} (h : freeW ws) (k : Nat) : freeW (ws.drop k) := fun p hp => h p (List.mem_of_mem_drop hp)
theorem freeW_take {ws : List (List UInt8)} (h : freeW ws) (k : Nat) : freeW (ws.take k) := fun p hp => h p (List.mem_of_mem_take hp)
theorem restT_drop_le (ws : List (List UInt8)) : ∀ (k : Nat), (restT (ws.drop k)).length ≤ (restT ws).length := by
  induction ws with
  | nil => intro k; simp [restT]
  | cons p l ih =>
    intro k
    cases k with
    | zero => simp
    | succ k =>
      rw [List.drop_succ_cons, restT_cons]
      have := ih k
      simp
      omega
theorem join_take_le (ws : List (List UInt8)) : ∀ (k : Nat), (Ip.join (ws.take k)).length ≤ (restT ws).length := by
  intro k
  by_cases h : ws.take k = []
  · rw [h]
    simp [Ip.join]
  · have e := congrArg List.length (restT_join _ h)
    have : (restT (ws.take k)).length ≤ (restT ws).length := by
      clear e h
      induction ws generalizing k with
      | nil => simp [restT]
      | cons p l ih =>
        cases k with
        | zero => simp [restT]
        | succ k =>
          rw [List.take_succ_cons, restT_cons, restT_cons]
          have := ih k
          simp
          omega
    rw [List.length_append] at e
    simp at e
    omega
theorem join_lib : ∀ (ws : List (List UInt8)), Lib.join ws [32] = Ip.join ws
  | [] => rfl
  | [x] => by rw [Lib.join_one]; rfl
  | x :: y :: l => by
    rw [Lib.join_cons]
    have h := join_lib (y :: l)
    rw [Lib.join_cons] at h
    show _ = x ++ 32 :: Ip.join (y :: l)
    rw [← h]
    simp [Lib.joinTail]
theorem word_at {ws : List (List UInt8)} {p : List UInt8} {l : List (List UInt8)} {k : Nat} (h : ws.drop k = p :: l) : ws.take (k + 1) = ws.take k ++ [p] ∧ ws.drop (k + 1) = l := by
  have hk : k < ws.length := by
    apply Nat.lt_of_not_le
    intro hle
    rw [List.drop_eq_nil_of_le hle] at h
    cases h
  have e := List.drop_eq_getElem_cons hk
  rw [h] at e
  simp only [List.cons.injEq] at e
  obtain ⟨rfl, rfl⟩ := e
  exact ⟨by rw [List.take_succ_eq_append_getElem hk], rfl⟩
/-! ### What a rule's words say of its conditions -/
theorem condsW_app : ∀ (k : Nat) (cs : List Cd) (c : Cd), condsW k (cs ++ [c]) = condsW k cs ++ condW (k + cs.length) c
  | k, [], c => by simp [condsW]
  | k, d :: cs, c => by
    rw [List.cons_append, condsW, condsW, condsW_app (k + 1) cs c, List.append_assoc, List.length_cons, show k + 1 + cs.length = k + (cs.length + 1) by omega]
def textW (c : Cd) : List (List UInt8) := [argW c.arg, numT c.mask, cmpW c.cmp, numT c.value]
theorem condW_eq (k : Nat) (c : Cd) : condW k c = glue k :: textW c := rfl
theorem textW_join (c : Cd) : Ip.join (textW c) = textQ c := by
  show argW c.arg ++ 32 :: (numT c.mask ++ 32 :: (cmpW c.cmp ++ 32 :: numT c.value)) = textQ c
  rfl
theorem textW_free {c : Cd} (h : c.right = true) : freeW (textW c) := by
  obtain ⟨a0, a5, _, _⟩ := (c.right_iff).1 h
  intro p hp d hd
  have : free2 p := by
    unfold textW at hp
    simp only [List.mem_cons, List.not_mem_nil, or_false] at hp
    rcases hp with rfl | rfl | rfl | rfl
    · exact free_arg a0 a5
    · exact free_num _
    · exact free_cmp _
    · exact free_num _
  exact (this d hd).1
/-- Words that are a condition's text when they are joined. -/
theorem words_cond {l : List (List UInt8)} (hf : freeW l) {c : Cd} (hc : c.right = true) (h : Ip.join (l.take 4) = textQ c) : l = textW c ++ l.drop 4 := by
  have hne : l.take 4 ≠ [] := by
    intro e
    rw [e] at h
    have := congrArg List.length h
    simp [Ip.join, textQ, argW] at this
  have e1 := Ip.cutAll_join (l.take 4) hne (freeW_take hf 4)
  have e2 := Ip.cutAll_join (textW c) (by simp [textW]) (textW_free hc)
  rw [textW_join, ← h, e1] at e2
  rw [← e2, List.take_append_drop]
theorem condsW_pre : ∀ (k : Nat) (cs ds : List Cd) (l : List (List UInt8)), (∀ c ∈ cs, c.right = true) → (∀ c ∈ ds, c.right = true) → condsW k cs ++ l = condsW k ds → ∃ es, ds = cs ++ es ∧ l = condsW (k + cs.length) es
  | k, [], ds, l, _, _, h => ⟨ds, rfl, h⟩
  | k, c :: cs, [], l, _, _, h => by simp [condsW, condW] at h
  | k, c :: cs, d :: ds, l, hc, hd, h => by
    obtain ⟨a0, a5, k0, k5⟩ := (c.right_iff).1 (hc c (by simp))
    obtain ⟨b0, b5, j0, j5⟩ := (d.right_iff).1 (hd d (by simp))
    unfold condsW condW at h
    simp only [List.cons_append, List.nil_append, List.cons.injEq, true_and] at h
    obtain ⟨h1, h2, h3, h4, h5⟩ := h
    obtain ⟨es, rfl, e⟩ := condsW_pre (k + 1) cs ds l (fun x hx => hc x (by simp [hx])) (fun x hx => hd x (by simp [hx])) h5
    have e1 := argW_inj a0 a5 b0 b5 h1
    have e3 := cmpW_inj k0 k5 j0 j5 h3
    have e2 := numT_inj h2
    have e4 := numT_inj h4
    refine ⟨es, ?_, ?_⟩
    · obtain ⟨_, _, _, _⟩ := c
      obtain ⟨_, _, _, _⟩ := d
      simp_all
    · rw [e]
      congr 1
      simp
      omega
/-- These words are no conditions'. -/
def noConds (ws : List (List UInt8)) : Prop := ∀ ds : List Cd, ds.length ≤ 4 → (∀ c ∈ ds, c.ok ∧ c.right = true) → ws ≠ condsW 0 ds
section
variable {ws l : List (List UInt8)} {cs : List Cd}
theorem noConds_of (h : ws = condsW 0 cs ++ l) (hcs : ∀ c ∈ cs, c.ok ∧ c.right = true) (hno : ∀ es : List Cd, cs.length + es.length ≤ 4 → (∀ c ∈ es, c.ok ∧ c.right = true) → l ≠ condsW cs.length es) : noConds ws := by
  intro ds hl hds e
  rw [h] at e
  obtain ⟨es, rfl, e2⟩ := condsW_pre 0 cs ds l (fun c hc => (hcs c hc).2) (fun c hc => (hds c hc).2) e
  rw [Nat.zero_add] at e2
  exact hno es (by simpa using hl) (fun c hc => hds c (by simp [hc])) e2
theorem noConds_many (h : ws = condsW 0 cs ++ l) (hcs : ∀ c ∈ cs, c.ok ∧ c.right = true) (hl : l ≠ []) (h4 : cs.length = 4) : noConds ws :=
  noConds_of h hcs fun es hes _ e => by
    have : es = [] := List.length_eq_zero_iff.1 (by omega)
    subst this
    exact hl e
theorem noConds_word (h : ws = condsW 0 cs ++ l) (hcs : ∀ c ∈ cs, c.ok ∧ c.right = true) {p : List UInt8} {m : List (List UInt8)} (hl : l = p :: m) (hp : p ≠ glue cs.length) : noConds ws :=
  noConds_of h hcs fun es _ _ e => by
    cases es with
    | nil => rw [hl] at e; cases e
    | cons d es =>
      rw [hl] at e
      simp only [condsW, condW, List.cons_append, List.cons.injEq] at e
      exact hp e.1
theorem noConds_text (h : ws = condsW 0 cs ++ l) (hcs : ∀ c ∈ cs, c.ok ∧ c.right = true) {p : List UInt8} {m : List (List UInt8)} (hl : l = p :: m) (hp : ∀ c : Cd, c.ok → c.right = true → Ip.join (m.take 4) ≠ textQ c) : noConds ws :=
  noConds_of h hcs fun es _ hes e => by
    cases es with
    | nil => rw [hl] at e; cases e
    | cons d es =>
      rw [hl] at e
      rw [condsW, condW_eq, List.cons_append, List.cons.injEq] at e
      have hd := hes d (by simp)
      refine hp d hd.1 hd.2 ?_
      rw [e.2]
      show Ip.join (textW d) = _
      exact textW_join d
theorem conds_more (h : ws = condsW 0 cs ++ l) (hf : freeW l) {p : List UInt8} {m : List (List UInt8)} (hl : l = p :: m) (hp : p = glue cs.length) {c : Cd} (hc : c.right = true) (ht : Ip.join (m.take 4) = textQ c) :
    ws = condsW 0 (cs ++ [c]) ++ m.drop 4 := by
  have e := words_cond (l := m) (fun q hq => hf q (by rw [hl]; simp [hq])) hc ht
  rw [h, hl, condsW_app, Nat.zero_add, condW_eq, hp, List.append_assoc, List.cons_append]
  congr 2
end
/-! ### Rules and defaults -/
theorem lineL_words {p : List UInt8} {x : Rl} (hx : x.right = true) : p = lineL x ↔ Ip.cutAll 32 [] p = wordsR x := by
  constructor
  · rintro rfl
    exact cut_line hx
  · intro h
    have := Ip.join_cutAll p []
    rw [h] at this
    exact this.symm
theorem lineD_words {p : List UInt8} {v : Nat} : p = lineD v ↔ Ip.cutAll 32 [] p = defW v := by
  constructor
  · rintro rfl
    exact cut_def v
  · intro h
    have := Ip.join_cutAll p []
    rw [h] at this
    exact this.symm
/-- The word at a place, as it is taken: nothing where there is none. -/
def wordN (ws : List (List UInt8)) (k : Nat) : List UInt8 := Ip.join ((ws.drop k).take 1)
theorem wordN_some {ws : List (List UInt8)} {k : Nat} (h : wordN ws k ≠ []) : ws.drop k = wordN ws k :: ws.drop (k + 1) := by
  cases e : ws.drop k with
  | nil =>
    unfold wordN at h
    rw [e] at h
    exact absurd rfl h
  | cons p l =>
    unfold wordN
    rw [e, (word_at e).2]
    rfl
def tblFull (T : Tbl) : Bool := T.all fun p => !(bl p.1).isEmpty
theorem textN_ne {T : Tbl} (h : tblFull T = true) (n : Nat) : bl (textN T n) ≠ [] := by
  rcases textN_is T n with ⟨p, hp, _, e⟩ | ⟨_, e⟩
  · rw [e]
    unfold tblFull at h
    rw [List.all_eq_true] at h
    simpa using h p hp
  · rw [e]
    show numT n ≠ []
    simp [numT]
theorem machT_full : tblFull machT = true := by decide
theorem callT_full (a : Nat) : tblFull (callT a) = true := by
  unfold callT
  split
  · decide
  split
  · decide
  split
  · decide
  split
  · decide
  rfl
theorem act_ne {v : Nat} (h : (actT v).isSome = true) : bl (actB v) ≠ [] := by
  unfold actB
  cases hv : actT v with
  | none => rw [hv] at h; cases h
  | some s =>
    show bl s ≠ []
    rcases actT_some hv with ⟨n, _, _, rfl⟩ | ⟨_, rfl⟩ | ⟨_, rfl⟩ | ⟨_, rfl⟩ | ⟨_, rfl⟩
    · unfold bl
      rw [err_list]
      simp
    all_goals simp [bl]; try decide
section
variable {p : List UInt8} {ws : List (List UInt8)}
theorem rule_of (hw : ws = Ip.cutAll 32 [] p) {a n v : Nat} {cs : List Cd} (h0 : wordN ws 0 = wOn) (h1 : wordN ws 1 = bl (textN machT a)) (h2 : wordN ws 2 = bl (textN (callT a) n)) (h3 : wordN ws 3 = bl (actB v)) (hv : (actT v).isSome = true) (hc : ws.drop 4 = condsW 0 cs) (h4 : cs.length ≤ 4) (hcs : ∀ c ∈ cs, c.right = true) : p = lineL ⟨a, n, v, cs⟩ := by
  have e0 := wordN_some (ws := ws) (k := 0) (by rw [h0]; decide)
  have e1 := wordN_some (ws := ws) (k := 1) (by rw [h1]; exact textN_ne machT_full _)
  have e2 := wordN_some (ws := ws) (k := 2) (by rw [h2]; exact textN_ne (callT_full _) _)
  have e3 := wordN_some (ws := ws) (k := 3) (by rw [h3]; exact act_ne hv)
  rw [List.drop_zero, h0] at e0
  rw [h1] at e1
  rw [h2] at e2
  rw [h3] at e3
  refine (lineL_words (x := ⟨a, n, v, cs⟩) (rl_right h4 hv hcs)).2 ?_
  rw [← hw, e0]
  show wOn :: ws.drop 1 = _
  rw [e1]
  show wOn :: _ :: ws.drop 2 = _
  rw [e2]
  show wOn :: _ :: _ :: ws.drop 3 = _
  rw [e3]
  show wOn :: _ :: _ :: _ :: ws.drop 4 = _
  rw [hc]
  rfl
theorem rule_no (hw : ws = Ip.cutAll 32 [] p) {x : Rl} (hx : x.right = true) (h : p = lineL x) : wordN ws 0 = wOn ∧ wordN ws 1 = bl (textN machT x.arch) ∧ wordN ws 2 = bl (textN (callT x.arch) x.nr) ∧ wordN ws 3 = bl (actB x.act) ∧ ws.drop 4 = condsW 0 x.conds := by
  have e := (lineL_words hx).1 h
  rw [← hw] at e
  rw [e]
  exact ⟨rfl, rfl, rfl, rfl, rfl⟩
theorem def_is (hw : ws = Ip.cutAll 32 [] p) {v : Nat} (h0 : wordN ws 0 = wDefault) (h1 : wordN ws 1 = bl (actB v)) (hv : (actT v).isSome = true) (h2 : ws.drop 2 = []) : p = lineD v := by
  have e0 := wordN_some (ws := ws) (k := 0) (by rw [h0]; decide)
  have e1 := wordN_some (ws := ws) (k := 1) (by rw [h1]; exact act_ne hv)
  rw [List.drop_zero, h0] at e0
  rw [h1] at e1
  refine lineD_words.2 ?_
  rw [← hw, e0]
  show wDefault :: ws.drop 1 = _
  rw [e1]
  show wDefault :: _ :: ws.drop 2 = _
  rw [h2]
  rfl
theorem def_no (hw : ws = Ip.cutAll 32 [] p) {v : Nat} (h : p = lineD v) : wordN ws 0 = wDefault ∧ wordN ws 1 = bl (actB v) ∧ ws.drop 2 = [] := by
  have e := lineD_words.1 h
  rw [← hw] at e
  rw [e]
  exact ⟨rfl, rfl, rfl⟩
end
end Go.Proofs.YtdjjmcblhpjchaaGreatDoor
/-
  The document's line of a rule (package hurdleref10).
-/
namespace Go.Proofs.YtdjjmcblhpjchaaGreatDoor
open Go.ChangeShapes Go.WideShapes Go.ChangeAt Go.RowKit
set_option maxRecDepth 20000

theorem join_app : ∀ (ws vs : List (List UInt8)), ws ≠ [] → Ip.join (ws ++ vs) = Ip.join ws ++ vs.flatMap (32 :: ·)
  | [], _, h => absurd rfl h
  | [x], vs, _ => by
    induction vs generalizing x with
    | nil => simp [Ip.join]
    | cons y l ih =>
      have e : Ip.join ([x] ++ y :: l) = x ++ 32 :: Ip.join ([y] ++ l) := rfl
      rw [e, ih y (by simp)]
      simp [Ip.join]
  | x :: y :: l, vs, _ => by
    have e : Ip.join (x :: y :: l ++ vs) = x ++ 32 :: Ip.join (y :: l ++ vs) := rfl
    have e2 : Ip.join (x :: y :: l) = x ++ 32 :: Ip.join (y :: l) := rfl
    rw [e, e2, join_app (y :: l) vs (by simp)]
    simp
def lineH (x : Rl) : List UInt8 := [111, 110, 32] ++ bl (textN machT x.arch) ++ [32] ++ bl (textN (callT x.arch) x.nr) ++ [32] ++ bl (actB x.act)
def condL (k : Nat) (c : Cd) : List UInt8 := (32 :: glue k ++ [32]) ++ textQ c
def condsL : Nat → List Cd → List UInt8
  | _, [] => []
  | k, c :: cs => condL k c ++ condsL (k + 1) cs
theorem condsL_eq : ∀ (k : Nat) (cs : List Cd), (condsW k cs).flatMap (32 :: ·) = condsL k cs
  | _, [] => rfl
  | k, c :: cs => by
    rw [condsW, List.flatMap_append, condsL_eq (k + 1) cs, condsL]
    simp [condW, condL, textQ]
theorem lineL_eq (x : Rl) : lineL x = lineH x ++ condsL 0 x.conds := by
  unfold lineL wordsR
  rw [join_app _ _ (by simp [headW]), condsL_eq]
  congr 1
  simp [headW, Ip.join, lineH, wOn]
theorem condsL_take (cs : List Cd) : ∀ (k j : Nat) (h : j < cs.length), condsL k (cs.take (j + 1)) = condsL k (cs.take j) ++ condL (k + j) cs[j] := by
  induction cs with
  | nil => intro k j h; simp at h
  | cons c cs ih =>
    intro k j h
    cases j with
    | zero => simp [condsL]
    | succ j =>
      rw [List.take_succ_cons, List.take_succ_cons, condsL, condsL, ih (k + 1) j (by simpa using h), List.getElem_cons_succ, List.append_assoc, show k + 1 + j = k + (j + 1) by omega]
/-- A line up to some conditions. -/
def lineJ (x : Rl) (j : Nat) : ByteArray := ⟨(lineH x ++ condsL 0 (x.conds.take j)).toArray⟩
def lineT (x : Rl) : ByteArray := ⟨(lineL x).toArray⟩
theorem lineJ_end (x : Rl) {j : Nat} (h : x.conds.length ≤ j) : lineJ x j = lineT x := by
  unfold lineJ lineT
  rw [List.take_of_length_le h, lineL_eq]
theorem mkT (l m : List UInt8) : (⟨l.toArray⟩ : ByteArray) ++ (⟨m.toArray⟩ : ByteArray) = ⟨(l ++ m).toArray⟩ := Wd.joined l m
theorem lineJ_if (x : Rl) (h : 0 < x.conds.length) : (lineJ x 0 ++ ⟨#[32, 105, 102, 32]⟩) ++ textT x.conds[0] = lineJ x 1 := by
  unfold lineJ textT
  rw [mkT, mkT, condsL_take x.conds 0 0 h]
  simp [condL, glue, wIf]
theorem lineJ_and (x : Rl) {j : Nat} (h : j < x.conds.length) (h0 : j ≠ 0) : (lineJ x j ++ ⟨#[32, 97, 110, 100, 32]⟩) ++ textT x.conds[j] = lineJ x (j + 1) := by
  unfold lineJ textT
  rw [mkT, mkT, condsL_take x.conds 0 j h]
  simp [condL, glue, wAnd, h0]
/-! ### Sizes -/
def tblShort (T : Tbl) : Bool := T.all fun p => decide (p.1.size ≤ 18)
theorem textN_size {T : Tbl} (h : tblShort T = true) {n : Nat} (hn : n < 4294967296) : (textN T n).size ≤ 18 := by
  rcases textN_is T n with ⟨p, hp, _, e⟩ | ⟨_, e⟩
  · rw [e]
    unfold tblShort at h
    rw [List.all_eq_true] at h
    simpa using h p hp
  · rw [e]
    exact txt_lt18 (by omega)
theorem machT_short : tblShort machT = true := by decide
theorem callT_short (a : Nat) : tblShort (callT a) = true := by
  unfold callT
  split
  · decide
  split
  · decide
  split
  · decide
  split
  · decide
  rfl
theorem actS_size {v : Nat} (_hv : v < 4294967296) : (actS v).size ≤ 24 := by
  unfold actS
  cases h : actT v with
  | none => exact (by decide : (0 : Nat) ≤ 24)
  | some s =>
    show s.size ≤ 24
    rcases actT_some h with ⟨n, hn, _, rfl⟩ | ⟨_, rfl⟩ | ⟨_, rfl⟩ | ⟨_, rfl⟩ | ⟨_, rfl⟩
    · have := txt_lt18 (n := n) (by omega)
      rw [ByteArray.size_append]
      have e : berror.size = 6 := rfl
      omega
    all_goals decide
theorem textQ_size {c : Cd} (hc : c.ok) (hr : c.right = true) : (textT c).size ≤ 44 := by
  obtain ⟨a0, a5, k0, k5⟩ := (c.right_iff).1 hr
  have h1 := Wd.hex_len16 _ hc.1
  have h2 := Wd.hex_len16 _ hc.2
  have hl2 : (cmpW c.cmp).length = 2 := by rcases six k0 k5 with h | h | h | h | h | h <;> rw [h] <;> rfl
  have hla : (argW c.arg).length = 2 := rfl
  show (textQ c).length ≤ 44
  simp only [textQ, numT, List.length_append, List.length_cons, hl2, hla]
  omega
theorem condsL_size : ∀ (k : Nat) (cs : List Cd), (∀ c ∈ cs, c.ok ∧ c.right = true) → (condsL k cs).length ≤ 50 * cs.length
  | _, [], _ => by simp [condsL]
  | k, c :: cs, h => by
    have h1 := condsL_size (k + 1) cs fun d hd => h d (by simp [hd])
    have h2 : (textQ c).length ≤ 44 := textQ_size (h c (by simp)).1 (h c (by simp)).2
    have h3 : (glue k).length ≤ 3 := by unfold glue; split <;> decide
    simp only [condsL, condL, List.length_append, List.length_cons, List.length_nil]
    omega
theorem lineH_size {x : Rl} (hk : x.ok) : (lineH x).length ≤ 70 := by
  have h1 : (bl (textN machT x.arch)).length ≤ 18 := textN_size machT_short hk.1
  have h2 : (bl (textN (callT x.arch) x.nr)).length ≤ 18 := textN_size (callT_short _) hk.2.1
  have h3 : (bl (actB x.act)).length ≤ 24 := actS_size hk.2.2.1
  simp only [lineH, List.length_append, List.length_cons, List.length_nil]
  omega
theorem lineJ_size {x : Rl} (hk : x.ok) (hr : ∀ c ∈ x.conds, c.right = true) (h4 : x.conds.length ≤ 4) (j : Nat) : (lineJ x j).size ≤ 300 := by
  have h1 := lineH_size hk
  have h2 := condsL_size 0 (x.conds.take j) fun c hc => ⟨hk.2.2.2 c (List.mem_of_mem_take hc), hr c (List.mem_of_mem_take hc)⟩
  have h3 : (x.conds.take j).length ≤ 4 := by rw [List.length_take]; omega
  show (lineH x ++ condsL 0 (x.conds.take j)).length ≤ 300
  rw [List.length_append]
  omega
theorem lineJ_0 (x : Rl) : ((((⟨#[111, 110, 32]⟩ : ByteArray) ++ textN machT x.arch) ++ ⟨#[32]⟩) ++ textN (callT x.arch) x.nr ++ ⟨#[32]⟩) ++ actS x.act = lineJ x 0 := by
  apply ByteArray.ext
  apply Array.ext'
  show _ = lineH x ++ condsL 0 (x.conds.take 0)
  simp [lineH, condsL, bl, actB, actS, ByteArray.data_append]
set_option maxHeartbeats 8000000 in
theorem rline10_any (x : Rl) (cv : Value) (w : World) (hC : CAt w cv x.conds) (hk : x.ok) (hr : ∀ c ∈ x.conds, c.right = true) (h4 : x.conds.length ≤ 4) :
    Calls Tryz.prog 22 #[x.val cv] w fun e w' => e = .returned (.string (lineT x)) ∧ Below w.heap.size w w' := by
  obtain ⟨co, ccap, rfl, hrows⟩ := hC.rows
  have HROW := Lib.hid hrows
  have HX0 := Lib.hid (heap_alloc_new w (rlB x (.slice co x.conds.length ccap)))
  have HB0 := Lib.hid (ba (rlB x (.slice co x.conds.length ccap)) (Below.refl w.heap.size w))
  obtain ⟨W, hW⟩ : ∃ W, W = w.alloc (rlB x (.slice co x.conds.length ccap)) := ⟨_, rfl⟩
  rw [← hW] at HX0 HB0
  have HS := Lib.hid (lineJ_size hk hr h4)
  have HJ0 := Lib.hid (lineJ_0 x)
  have HOK := Lib.hid hk.2.2.2
  have HRT := Lib.hid hr
  have ha := hk.1
  have hn := hk.2.1
  have hv := hk.2.2.1
  have hlt : w.heap.size < W.heap.size := lt_of_block HX0.out
  obtain ⟨d0, d1, d2, d3⟩ := rbox HX0.out
  obtain ⟨M, hM⟩ : ∃ M, M = textN machT x.arch := ⟨_, rfl⟩
  obtain ⟨C, hC'⟩ : ∃ C, C = textN (callT x.arch) x.nr := ⟨_, rfl⟩
  obtain ⟨A, hA⟩ : ∃ A, A = actS x.act := ⟨_, rfl⟩
  rw [← hM, ← hC', ← hA] at HJ0
  have zM : M.size ≤ 18 := by rw [hM]; exact textN_size machT_short ha
  have zC : C.size ≤ 18 := by rw [hC']; exact textN_size (callT_short _) hn
  have zA : A.size ≤ 24 := by rw [hA]; exact actS_size hv
  have CM : Hid (∀ V, Below W.heap.size W V → Calls Tryz.prog 38 #[.int .u32 (x.arch : Nat)] V fun e w' => e = .returned (.string M) ∧ Below W.heap.size W w') := Lib.hid (fun V hV => (rmachine_any x.arch V ha).mono fun e w' h => ⟨by rw [hM]; exact h.1, below2 hV h.2⟩)
  have CC : Hid (∀ V, Below W.heap.size W V → Calls Tryz.prog 39 #[.int .u32 (x.arch : Nat), .int .u32 (x.nr : Nat)] V fun e w' => e = .returned (.string C) ∧ Below W.heap.size W w') := Lib.hid (fun V hV => (rcall_any x.arch x.nr V ha hn).mono fun e w' h => ⟨by rw [hC']; exact h.1, below2 hV h.2⟩)
  have CA : Hid (∀ V, Below W.heap.size W V → Calls Tryz.prog 18 #[.int .u32 (x.act : Nat)] V fun e w' => e = .returned (.string A) ∧ Below W.heap.size W w') := Lib.hid (fun V hV => (raction_any x.act V hv).mono fun e w' h => ⟨by rw [hA]; exact h.1, below2 hV h.2⟩)
  have z3 : (⟨#[111, 110, 32]⟩ : ByteArray).size = 3 := rfl
  have z1 : (⟨#[32]⟩ : ByteArray).size = 1 := rfl
  have n1 : ¬ 9223372036854775807 < 3 + M.size := by omega
  have n2 : ¬ 9223372036854775807 < 3 + M.size + 1 := by omega
  have n3 : ¬ 9223372036854775807 < 3 + M.size + 1 + C.size := by omega
  have n4 : ¬ 9223372036854775807 < 3 + M.size + 1 + C.size + 1 := by omega
  have n5 : ¬ 9223372036854775807 < 3 + M.size + 1 + C.size + 1 + A.size := by omega
  clear hrows hr hk hM hC' hA zM zC zA z1 z3
  go_enter Tryz.func22, Tryz.ntmps22
  go_upto_region 1 with fail
  change Code.wp _ _ _ _ (w.alloc (rlB x (.slice co x.conds.length ccap)))
  rw [← hW]
  clear hW
  go_region_held3 (fun V => V.cell? ⟨w.heap.size, 0, none⟩ = some (.int .u32 (x.arch : Nat)) ∧ V.cell? ⟨w.heap.size, 1, none⟩ = some (.int .u32 (x.nr : Nat)) ∧ V.cell? ⟨w.heap.size, 3, none⟩ = some (.int .u32 (x.act : Nat))) (first | exact ⟨d0, d1, d3⟩ | exact ⟨a0, a1, a3⟩ | go_keep)
    (first
      | (go_at_call 38; refine (CM.out _ ?_).mono ?_; (first | exact hb9 | (have hB := Below.refl W.heap.size W; go_grown)); rintro e w9 ⟨rfl, hb9⟩; have a0 := (hb9.cell (p := ⟨w.heap.size, _, none⟩) hlt).trans d0; have a1 := (hb9.cell (p := ⟨w.heap.size, _, none⟩) hlt).trans d1; have a3 := (hb9.cell (p := ⟨w.heap.size, _, none⟩) hlt).trans d3)
      | (go_at_call 39; refine (CC.out _ ?_).mono ?_; (first | exact hb9 | (have hB := Below.refl W.heap.size W; go_grown)); rintro e w9 ⟨rfl, hb9⟩; have a0 := (hb9.cell (p := ⟨w.heap.size, _, none⟩) hlt).trans d0; have a1 := (hb9.cell (p := ⟨w.heap.size, _, none⟩) hlt).trans d1; have a3 := (hb9.cell (p := ⟨w.heap.size, _, none⟩) hlt).trans d3)
      | (go_at_call 18; refine (CA.out _ ?_).mono ?_; (first | exact hb9 | (have hB := Below.refl W.heap.size W; go_grown)); rintro e w9 ⟨rfl, hb9⟩; have a0 := (hb9.cell (p := ⟨w.heap.size, _, none⟩) hlt).trans d0; have a1 := (hb9.cell (p := ⟨w.heap.size, _, none⟩) hlt).trans d1; have a3 := (hb9.cell (p := ⟨w.heap.size, _, none⟩) hlt).trans d3))
  rw [HJ0.out]
  have HB1 := Lib.hid (below2 HB0.out hb9)
  have HX1 := Lib.hid (kb hb9 HX0.out)
  clear a0 a1 a3 d0 d1 d2 d3 hb9 n1 n2 n3 n4 n5 CM CC CA HJ0 HX0 HB0 hC ha hn hv hlt
  generalize (⟨#[111, 110, 32]⟩ : ByteArray) ++ M ++ ⟨#[32]⟩ ++ C ++ ⟨#[32]⟩ = t4 at *
  generalize (⟨#[111, 110, 32]⟩ : ByteArray) ++ M ++ ⟨#[32]⟩ ++ C = t3 at *
  generalize (⟨#[111, 110, 32]⟩ : ByteArray) ++ M ++ ⟨#[32]⟩ = t2 at *
  generalize (⟨#[111, 110, 32]⟩ : ByteArray) ++ M = t1 at *
  obtain ⟨L0, hL0⟩ : ∃ L, L = lineJ x 0 := ⟨_, rfl⟩
  rw [← hL0]
  have HL0 := Lib.hid hL0
  clear hL0
  go_wp2_with fail
  go_loopw [3, 4] (fun s i wr => ∃ (j : Nat) (L : ByteArray), j ≤ x.conds.length ∧ i = .int .i64 j ∧ s = .string L ∧ Hid (L = lineJ x j) ∧ Below w.heap.size w wr ∧ wr.heap[w.heap.size]? = some (rlB x (.slice co x.conds.length ccap))) (fun _ i _ => x.conds.length - (Lib.intOf i).toNat)
  case atStart => exact ⟨0, L0, Nat.zero_le _, rfl, rfl, HL0, HB1.out, HX1.out⟩
  case round =>
    obtain ⟨j, L, hj, rfl, rfl, HL, hbw, hxx⟩ := hrel
    have HB := Lib.hid hbw
    have HX := Lib.hid hxx
    clear hbw hxx HB1 HX1 HL0
    obtain ⟨r0, r1, r2, r3⟩ := rbox HX.out
    have zL : L.size ≤ 300 := by rw [HL.out]; exact HS.out j
    by_cases hjl : j < x.conds.length
    · obtain ⟨cb, coff, rfl, hcb, d0, d1, d2, d3⟩ := HROW.out j hjl
      obtain ⟨c, hc⟩ : ∃ c, c = x.conds[j] := ⟨_, rfl⟩
      rw [← hc] at d0 d1 d2 d3
      have e0 := (HB.out.cell (p := ⟨cb, _, none⟩) hcb).trans d0
      have e1 := (HB.out.cell (p := ⟨cb, _, none⟩) hcb).trans d1
      have e2 := (HB.out.cell (p := ⟨cb, _, none⟩) hcb).trans d2
      have e3 := (HB.out.cell (p := ⟨cb, _, none⟩) hcb).trans d3
      have hck : c.ok := by rw [hc]; exact HOK.out _ (List.getElem_mem hjl)
      have hcr : c.right = true := by rw [hc]; exact HRT.out _ (List.getElem_mem hjl)
      have zT := textQ_size hck hcr
      have HCP : Hid (∀ V, Calls Tryz.prog 40 #[c.val] V fun e w' => e = .returned (.string (textT c)) ∧ Below V.heap.size V w') := Lib.hid (fun V => rprint8_any c V hck hcr)
      have HCJ := Lib.hid hc
      have l0 : (j : Int) < (x.conds.length : Int) := by omega
      have l1 : (0 : Int) ≤ (j : Int) := by omega
      have l2 : (j : Int).toNat = j := by omega
      clear hc d0 d1 d2 d3 hck hcr
      obtain ⟨T, hT⟩ : ∃ T, T = textT c := ⟨_, rfl⟩
      rw [← hT] at zT HCP
      have HT := Lib.hid hT
      clear hT
      by_cases hj0 : j = 0
      · subst hj0
        simp only [Nat.zero_mul, Nat.add_zero] at e0 e1 e2 e3
        have HN : Hid ((L ++ ⟨#[32, 105, 102, 32]⟩) ++ T = lineJ x 1) := Lib.hid (by rw [HL.out, HT.out, HCJ.out]; exact lineJ_if x hjl)
        have n1 : ¬ 9223372036854775807 < L.size + 4 := by omega
        have n2 : ¬ 9223372036854775807 < L.size + 4 + T.size := by omega
        go_wp2_with fail
        refine (HCP.out _).mono ?_
        rintro e w5 ⟨rfl, hb5⟩
        have HB5 := Lib.hid (below2 HB.out hb5)
        have HX5 := Lib.hid (kb hb5 HX.out)
        clear hb5 e0 e1 e2 e3 r0 r1 r2 r3
        go_wp2_with fail
        go_roundw
        case rel => exact ⟨1, _, by omega, rfl, rfl, HN, HB5.out, HX5.out⟩
        case measure => simp [Lib.intOf]; omega
      · have HN : Hid ((L ++ ⟨#[32, 97, 110, 100, 32]⟩) ++ T = lineJ x (j + 1)) := Lib.hid (by rw [HL.out, HT.out, HCJ.out]; exact lineJ_and x hjl hj0)
        have n1 : ¬ 9223372036854775807 < L.size + 5 := by omega
        have n2 : ¬ 9223372036854775807 < L.size + 5 + T.size := by omega
        have hjb : ((j : Int) == 0) = false := by simp; omega
        go_wp2_with fail
        refine (HCP.out _).mono ?_
        rintro e w5 ⟨rfl, hb5⟩
        have HB5 := Lib.hid (below2 HB.out hb5)
        have HX5 := Lib.hid (kb hb5 HX.out)
        clear hb5 e0 e1 e2 e3 r0 r1 r2 r3
        go_wp2_with fail
        go_roundw
        case rel => exact ⟨j + 1, _, by omega, by go_num, rfl, HN, HB5.out, HX5.out⟩
        case measure => simp [Lib.intOf]; omega
    · have HE : Hid (L = lineT x) := Lib.hid (by rw [HL.out]; exact lineJ_end x (by omega))
      go_wp2_with fail
      go_ret
      exact ⟨by rw [← HE.out]; rfl, HB.out⟩
end Go.Proofs.YtdjjmcblhpjchaaGreatDoor
/-
  The document's own way to part a text (package hurdleref02): Cut, at every byte that is the mark.
-/
namespace Go.Proofs.YtdjjmcblhpjchaaGreatDoor
open Go.ChangeShapes Go.WideShapes Go.ChangeAt Go.RowKit
set_option maxRecDepth 20000

def CutREnd (m : UInt8) (s : ByteArray) (w : World) (e : Ending) (w' : World) : Prop := ∃ v, e = .returned v ∧ w'.ownsRow w.heap.size 9 1 v (Ip.cutAll m [] s.data.toList).length (strs (Ip.cutAll m [] s.data.toList)) ∧ Below w.heap.size w w'

theorem cutREnd {m : UInt8} {s : ByteArray} {w w' : World} {v : Value} {ps : List (List UInt8)} {q : List UInt8} (h : Ip.cutAll m [] s.data.toList = ps ++ [q]) (ho : w'.ownsRow w.heap.size 9 1 v (ps.length + 1) (strs ps ++ [.string ⟨q.toArray⟩])) (hb : Below w.heap.size w w') : CutREnd m s w (.returned v) w' := by
  refine ⟨v, rfl, ?_, hb⟩
  rw [h]
  simpa using ho
theorem grow1 (cur : List UInt8) (s : ByteArray) (p : Nat) (h : p < s.size) : (⟨cur.toArray⟩ : ByteArray) ++ s.extract p (p + 1) = ⟨(cur ++ [s.data.toList[p]'h]).toArray⟩ := by
  rw [Ip.extract_piece, Wd.joined]
  have e : Ip.piece s.data.toList p (p + 1) = [s.data.toList[p]'h] := by
    unfold Ip.piece
    rw [List.take_succ_eq_append_getElem h, List.drop_append_of_le_length (by rw [List.length_take]; have h' : p < s.data.toList.length := h; omega)]
    rw [List.drop_eq_nil_of_le (by simp; omega), List.nil_append]
  rw [e]

set_option maxHeartbeats 2000000 in
theorem rcut_any (s : ByteArray) (m : UInt8) (w : World) (hs : s.size ≤ 1099511627776) :
    Calls Tryz.prog 25 #[.string s, .int .u8 m.toNat] w fun e w' => CutREnd m s w e w' := by
  obtain ⟨i0, hi, hz0, hz1, hz2⟩ := info_parts infoS
  go_enter Tryz.func25, Tryz.ntmps25
  go_wp2_with fail
  go_loopw [5, 6, 7] (fun v cw i w' => ∃ (p : Nat) (ps : List (List UInt8)) (cur : List UInt8), i = .int .i64 p ∧ cw = .string ⟨cur.toArray⟩ ∧ w'.ownsRow w.heap.size 9 1 v ps.length (strs ps) ∧ Below w.heap.size w w' ∧ Ip.Parting m s.data.toList p ps cur) (fun _ _ i _ => s.size - (intOf i).toNat)
  case atStart => exact ⟨0, [], [], rfl, rfl, World.ownsRow_nil _ _ _ _, Below.refl _ _, Ip.Parting.start _ _⟩
  case round =>
    obtain ⟨p, ps, cur, rfl, rfl, hown, hB, hC⟩ := hrel
    have hp' : p ≤ s.size := hC.1
    have hps := hC.2.1
    have hcl : (⟨cur.toArray⟩ : ByteArray).size ≤ p := hC.2.2.1
    have HC := Lib.hid hC
    have HO := Lib.hid hown
    have HB := Lib.hid hB
    have hle := hB.size
    clear hC hown hB
    by_cases hlt : p < s.size
    · by_cases hm : s.data.toList[p]'hlt = m
      · have hbq : (((s[p]'hlt).toNat : Int) == (m.toNat : Int)) = true := by
          have e : s[p]'hlt = m := hm
          rw [e]
          exact beq_self_eq_true _
        have HN := Lib.hid (HC.out.cut hlt hm)
        clear hm
        go_wp2_with (at_builtin; refine wpList_append_own _ rfl _ _ 63 rfl w.heap.size 9 i0 (.string ⟨#[]⟩) 1 16 Tryz.underlying63 hi hz0 hz1 hz2 rfl (by decide) _ _ _ rfl (HO.out.alloc _) ⟨wr.heap.size, 0, none⟩ 1 1 [.string ⟨cur.toArray⟩] rfl rfl (new_at wr #[.string ⟨cur.toArray⟩] 9) (by simp [Value.oneCell']) (by unfold maxLen; omega) (by omega) (by rw [size_alloc]; omega) ?_)
        intro v2 w2 hown2 hgrow2 _
        have hB2 := (ba (.cells #[.string ⟨cur.toArray⟩] 9) HB.out).grown hgrow2 (by rw [size_alloc]; omega) (fun k hk => (HO.out.lt k hk).1)
        clear hgrow2
        go_wp2_with fail
        refine ⟨⟨p + 1, ps ++ [cur], [], by go_num, rfl, ?_, hB2, HN.out⟩, by simp [intOf]; omega⟩
        simpa using hown2
      · have hbq : (((s[p]'hlt).toNat : Int) == (m.toNat : Int)) = false := by
          rw [beq_eq_false_iff_ne]
          intro e
          apply hm
          apply UInt8.toNat_inj.1
          exact Int.ofNat.inj e
        have HN := Lib.hid (HC.out.go hlt hm)
        have HG := Lib.hid (grow1 cur s p hlt)
        have hsl : ∀ W, (Instr.slice 9 (.string s) (some (.int .i64 (p : Int))) (some (.int .i64 ((p : Int) + 1))) none).run Tryz.prog W = .ok (.string (s.extract p (p + 1))) W := fun W => by
          have h := run_slice_string (P := Tryz.prog) W 9 s .i64 .i64 (p : Int) ((p : Int) + 1) Tryz.underlying9 (by omega) (by omega) (by omega)
          rw [h]
          rfl
        have hz : (s.extract p (p + 1)).size ≤ 1 := by rw [ByteArray.size_extract]; omega
        generalize hsC : (⟨cur.toArray⟩ : ByteArray) = sC at *
        generalize hsE : s.extract p (p + 1) = sE at *
        have hn : ¬ 9223372036854775807 < sC.size + sE.size := by omega
        have HSC := Lib.hid hsC
        clear hm hsC hsE
        go_wp2_with fail
        refine ⟨⟨p + 1, ps, _, by go_num, ?_, HO.out, HB.out, HN.out⟩, by simp [intOf]; omega⟩
        rw [← HG.out]
    · have HF := Lib.hid (HC.out.done (by show s.size ≤ p; omega))
      go_wp2_with (at_builtin; refine wpList_append_own _ rfl _ _ 63 rfl w.heap.size 9 i0 (.string ⟨#[]⟩) 1 16 Tryz.underlying63 hi hz0 hz1 hz2 rfl (by decide) _ _ _ rfl (HO.out.alloc _) ⟨wr.heap.size, 0, none⟩ 1 1 [.string ⟨cur.toArray⟩] rfl rfl (new_at wr #[.string ⟨cur.toArray⟩] 9) (by simp [Value.oneCell']) (by unfold maxLen; omega) (by omega) (by rw [size_alloc]; omega) ?_)
      intro v2 w2 hown2 hgrow2 _
      have hB2 := (ba (.cells #[.string ⟨cur.toArray⟩] 9) HB.out).grown hgrow2 (by rw [size_alloc]; omega) (fun k hk => (HO.out.lt k hk).1)
      clear hgrow2
      go_wp2_with fail
      go_ret
      exact cutREnd HF.out hown2 hB2
end Go.Proofs.YtdjjmcblhpjchaaGreatDoor
