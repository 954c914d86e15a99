/-
  What the laws' texts use, joined.
-/
import Derived.Laws.BitsAllLaws
import Derived.RowKit
import Derived.Test.YtbhondjfilohdaaGreatDoorProg
import Derived.WalkKit
import Derived.ProofKit
import Derived.Lib.Hide
import Derived.Laws.Rows
import Derived.Laws.ResultCell
import Derived.Laws.Entries
import Derived.Handy
import Derived.OwnWalk
import Derived.Laws.OwnMore
import Derived.Deep.Draws
import Derived.Laws.IdiomStrings
import Derived.Lib.BufferRead
import Derived.Maps.OwnSet
import Derived.Laws.Tables
import Derived.Deep.DeepCutAuto
import Derived.BigQuiet
import Derived.IntWalk
import Derived.Deep.RegionHeld3
import Derived.BigRegion
import Derived.Lib.OthersKept
import Derived.Lib.QuietBelow
import Derived.Deep.Cut
import Derived.Shelf.Strings.Builder1
import Derived.Shelf.Strings.Search1
import Derived.Lib.IndexLaws
import Derived.Deep.Slices
import Derived.Maps.RangeWalk
import Derived.StringKeys
import Derived.Test.YtbhondjfilohdaaGreatDoorPk1
/-
  The document's own texts of numbers (package hurdleref01): Text and Parse answer as word's do.
-/
namespace Go.Proofs.YtbhondjfilohdaaGreatDoor
open Go.ChangeShapes Go.WideShapes Go.ChangeAt Go.RowKit
set_option maxRecDepth 20000

/-- A row of one new byte, as a text. -/
theorem conv1 (W : World) (g : Nat) (hg : g = W.heap.size) (v : Int) (b : UInt8) (hv : v = (b.toNat : Int)) :
    (convert 90 9 (.slice (some ⟨g, 0, none⟩) 1 1)).run Tryz.prog (W.alloc (.cells #[.int .u8 v] 5)) = .ok (.string ⟨#[b]⟩) (W.alloc (.cells #[.int .u8 v] 5)) := by
  subst hg
  subst hv
  exact run_convert_bytes_back (P := Tryz.prog) (W.alloc (.cells #[.int .u8 (b.toNat : Int)] 5)) 90 9 5 ⟨W.heap.size, 0, none⟩ 1 [b] Tryz.underlying90 Tryz.underlying5 Tryz.underlying9 (fun j hj => by
    obtain rfl : j = 0 := by simpa using hj
    rw [show (⟨W.heap.size, 0, none⟩ : Addr).add 0 = ⟨W.heap.size, 0, none⟩ by simp [Addr.add], World.cell?_alloc_new]
    rfl)

theorem ofNat_toNat (k : Nat) (h : k < 256) : ((UInt8.ofNat k).toNat : Int) = (k : Int) := by
  simp
  omega

set_option maxHeartbeats 2000000 in
theorem digits_any (n : Nat) : ∀ (_ : n < 18446744073709551616) (w : World),
    Calls Tryz.prog 37 #[.int .u64 n] w fun e w' => e = .returned (.string ⟨(Wd.hex n).toArray⟩) ∧ Below w.heap.size w w' := by
  induction n using Nat.strongRecOn with
  | ind n ih =>
    intro hn w
    have IH := Lib.hid ih
    clear ih
    have b1 := (Below.refl w.heap.size w).alloc (Nat.le_refl _) (Obj.cells #[.int .u8 (48 + (n : Int) % 16)] 5)
    have b2 := b1.alloc b1.size (Obj.cells #[.int .u8 (87 + (n : Int) % 16)] 5)
    by_cases hd : n % 16 ≤ 9
    · have c1 := conv1 w w.heap.size rfl (48 + (n : Int) % 16) (Wd.hexB (n % 16)) (by rw [Wd.hexB_lo _ (by omega)]; omega)
      clear b2
      by_cases h16 : n < 16
      · have hx := Wd.hex_lt h16
        have hmod : n % 16 = n := Nat.mod_eq_of_lt h16
        have hx2 : Wd.hex n = [Wd.hexB (n % 16)] := by rw [hx, hmod]
        have HX := Lib.hid hx2
        clear hmod hx hx2
        go_enter Tryz.func37, Tryz.ntmps37
        go_wp2_with fail
        go_ret
        refine ⟨?_, b1⟩
        rw [HX.out]
        rfl
      · have hx := Lib.hid (Wd.hex_ge (show 16 ≤ n by omega))
        have hl := Wd.hex_len16 (n / 16) (by omega)
        have hcall := IH.out (n / 16) (by omega) (by omega)
        have HC := Lib.hid hcall
        clear hcall IH
        go_enter Tryz.func37, Tryz.ntmps37
        go_wp2_with fail
        refine (HC.out _).mono ?_
        rintro e w' ⟨rfl, hb⟩
        go_wp2_with fail
        go_ret
        refine ⟨?_, b1.trans (hb.mono b1.size)⟩
        rw [hx.out]
        exact congrArg (fun s => Ending.returned (.string s)) (Wd.joined _ _)
    · obtain ⟨z, hz⟩ : ∃ z : UInt8, 48 + (n : Int) % 16 = (z.toNat : Int) := ⟨UInt8.ofNat (48 + n % 16), by rw [ofNat_toNat _ (by omega)]; omega⟩
      have c1 := conv1 w w.heap.size rfl (48 + (n : Int) % 16) z hz
      clear hz
      have c2 := conv1 (w.alloc (.cells #[.int .u8 (48 + (n : Int) % 16)] 5)) (w.heap.size + 1) (by simp) (87 + (n : Int) % 16) (Wd.hexB (n % 16)) (by rw [Wd.hexB_hi _ (by omega) (by omega)]; omega)
      by_cases h16 : n < 16
      · have hx := Wd.hex_lt h16
        have hmod : n % 16 = n := Nat.mod_eq_of_lt h16
        have hx2 : Wd.hex n = [Wd.hexB (n % 16)] := by rw [hx, hmod]
        have HX := Lib.hid hx2
        clear hmod hx hx2
        go_enter Tryz.func37, Tryz.ntmps37
        go_wp2_with fail
        go_ret
        refine ⟨?_, b2⟩
        rw [HX.out]
        rfl
      · have hx := Lib.hid (Wd.hex_ge (show 16 ≤ n by omega))
        have hl := Wd.hex_len16 (n / 16) (by omega)
        have hcall := IH.out (n / 16) (by omega) (by omega)
        have HC := Lib.hid hcall
        clear hcall IH
        go_enter Tryz.func37, Tryz.ntmps37
        go_wp2_with fail
        refine (HC.out _).mono ?_
        rintro e w' ⟨rfl, hb⟩
        go_wp2_with fail
        go_ret
        refine ⟨?_, b2.trans (hb.mono b2.size)⟩
        rw [hx.out]
        exact congrArg (fun s => Ending.returned (.string s)) (Wd.joined _ _)

theorem refText_any (n : Nat) (hn : n < 18446744073709551616) (w : World) :
    Calls Tryz.prog 30 #[.int .u64 n] w fun e w' => e = .returned (.string (Wd.txt n)) ∧ Below w.heap.size w w' := by
  have hl := Wd.hex_len16 n hn
  go_enter Tryz.func30, Tryz.ntmps30
  go_wp2_with fail
  refine (digits_any n hn _).mono ?_
  rintro e w' ⟨rfl, hb⟩
  go_wp2_with fail
  go_ret
  exact ⟨congrArg (fun s => Ending.returned (.string s)) (Wd.joined [48, 120] (Wd.hex n)), hb⟩

end Go.Proofs.YtbhondjfilohdaaGreatDoor
/-
  States, as they lie in a world; what run.cell and run.withCell answer.
-/
namespace Go.Proofs.YtbhondjfilohdaaGreatDoor
open Go.ChangeShapes Go.WideShapes Go.ChangeAt Go.RowKit
set_option maxRecDepth 20000

/-- A state. -/
structure St where
  a : Nat
  x : Nat
  m : List Nat
deriving DecidableEq
def St.ok (s : St) : Prop := s.a ≤ 4294967295 ∧ s.x ≤ 4294967295 ∧ s.m.length = 16 ∧ ∀ v ∈ s.m, v ≤ 4294967295
/-- What is in a cell; 0, if there is none. -/
def mAt (m : List Nat) (i : Nat) : Nat := m.getD i 0
/-- Its eighteen cells (not to be opened by a walk). -/
def stC (s : St) : Array Value := #[.int .u32 s.a, .int .u32 s.x, .int .u32 (mAt s.m 0), .int .u32 (mAt s.m 1), .int .u32 (mAt s.m 2), .int .u32 (mAt s.m 3), .int .u32 (mAt s.m 4), .int .u32 (mAt s.m 5), .int .u32 (mAt s.m 6), .int .u32 (mAt s.m 7), .int .u32 (mAt s.m 8), .int .u32 (mAt s.m 9), .int .u32 (mAt s.m 10), .int .u32 (mAt s.m 11), .int .u32 (mAt s.m 12), .int .u32 (mAt s.m 13), .int .u32 (mAt s.m 14), .int .u32 (mAt s.m 15)]
abbrev St.val (s : St) : Value := .agg (stC s)
/-! ### Rows of a call's own: one that has been written -/
/-- 'w' is written in one row alone, which then holds 'o'. -/
structure RowPut (w w' : World) (g : Nat) (o : Obj) : Prop where
  os : w'.os = w.os
  tape : w'.tape = w.tape
  output : w'.output = w.output
  size : w'.heap.size = w.heap.size
  row : w'.heap[g]? = some o
  rest : ∀ k, k ≠ g → w'.heap[k]? = w.heap[k]?
theorem RowPut.below {w w' a : World} {g B : Nat} {o : Obj} (h : RowPut w w' g o) (hb : Below B a w) (hg : B ≤ g) : Below B a w' :=
  ⟨h.os.trans hb.os, h.tape.trans hb.tape, h.output.trans hb.output, by rw [h.size]; exact hb.size, fun k hk => (h.rest k (by omega)).trans (hb.block k hk)⟩
theorem RowPut.keep {w w' : World} {g k : Nat} {o o' : Obj} (h : RowPut w w' g o) (hk : k ≠ g) (ho : w.heap[k]? = some o') : w'.heap[k]? = some o' := (h.rest k hk).trans ho
theorem rowPut_set {w : World} {g : Nat} {old : Array Value} {t : TypeId} (hg : w.heap[g]? = some (.cells old t)) (cs : Array Value) : RowPut w (w.setRow g cs) g (.cells cs t) :=
  ⟨rfl, rfl, rfl, by unfold World.setRow; simp, setRow_heap w g old cs t (0, 0) hg, fun k hk => setRow_other w g k cs hk⟩
section
variable {ops : Array Oper} {rest : List Oper} {o : Oper} {a : Act} {w : World} {Q : Exit → Act → World → Prop}
end
theorem ka {w : World} {g : Nat} {o : Obj} (o' : Obj) (h : w.heap[g]? = some o) : (w.alloc o').heap[g]? = some o := (Below.heap_alloc w o' g (lt_of_block h)).trans h

theorem kb {w w' : World} {g : Nat} {o : Obj} (hb : Below w.heap.size w w') (h : w.heap[g]? = some o) : w'.heap[g]? = some o := (hb.block _ (lt_of_block h)).trans h
/-- Blocks that a call lays at its head. -/
theorem box2 (w : World) (A B : Obj) : ∃ W, W = (w.alloc A).alloc B ∧ W.heap[w.heap.size]? = some A ∧ W.heap[w.heap.size + 1]? = some B ∧ Below w.heap.size w W :=
  ⟨_, rfl, ka _ (heap_alloc_new _ _), by have h := heap_alloc_new (w.alloc A) B; rw [size_alloc] at h; exact h, ba _ (ba _ (Below.refl _ _))⟩
theorem box3 (w : World) (A B C : Obj) : ∃ W, W = ((w.alloc A).alloc B).alloc C ∧ W.heap[w.heap.size]? = some A ∧ W.heap[w.heap.size + 1]? = some B ∧ W.heap[w.heap.size + 2]? = some C ∧ Below w.heap.size w W := by
  obtain ⟨W, hW, h0, h1, hb⟩ := box2 w A B
  refine ⟨_, rfl, ?_, ?_, ?_, ?_⟩
  · rw [← hW]; exact ka _ h0
  · rw [← hW]; exact ka _ h1
  · have h := heap_alloc_new ((w.alloc A).alloc B) C
    rw [size_alloc, size_alloc] at h
    exact h
  · rw [← hW]; exact ba _ hb
end Go.Proofs.YtbhondjfilohdaaGreatDoor
/-
  The document's own answers on conditions (package hurdleref08): Right, masked, Holds, part.
-/
namespace Go.Proofs.YtbhondjfilohdaaGreatDoor
open Go.ChangeShapes Go.WideShapes Go.ChangeAt Go.RowKit
set_option maxRecDepth 20000

theorem cdX {w : World} {g : Nat} {c : Cd} (h : w.heap[g]? = some (cdB c)) : w.cell? ⟨g, 0, none⟩ = some (.int .i64 c.arg) ∧ w.cell? ⟨g, 1, none⟩ = some (.int .i64 c.cmp) ∧ w.cell? ⟨g, 2, none⟩ = some (.int .u64 (c.mask : Nat)) ∧ w.cell? ⟨g, 3, none⟩ = some (.int .u64 (c.value : Nat)) :=
  ⟨cell_in h 0, cell_in h 1, cell_in h 2, cell_in h 3⟩
theorem rright8_any (c : Cd) (w : World) :
    Calls Tryz.prog 22 #[c.val] w fun e w' => e = .returned (.bool c.right) ∧ Below w.heap.size w w' := by
  have HB := Lib.hid (ba (cdB c) (Below.refl w.heap.size w))
  have HX := Lib.hid (heap_alloc_new w (cdB c))
  obtain ⟨c0, c1, c2, c3⟩ := cdX HX.out
  obtain ⟨arg, cmp, mask, value⟩ := c
  by_cases h0 : 0 ≤ arg
  · by_cases h1 : arg ≤ 5
    · by_cases h2 : 0 ≤ cmp
      · by_cases h3 : cmp ≤ 5
        · have HR : Hid ((⟨arg, cmp, mask, value⟩ : Cd).right = true) := Lib.hid (by rw [Cd.right_iff]; exact ⟨h0, h1, h2, h3⟩)
          go_enter Tryz.func22, Tryz.ntmps22
          go_wp2_with fail
          go_ret
          exact ⟨by rw [HR.out]; rfl, HB.out⟩
        · have HR : Hid ((⟨arg, cmp, mask, value⟩ : Cd).right = false) := Lib.hid (by rw [Bool.eq_false_iff, ne_eq, Cd.right_iff]; simp only; omega)
          go_enter Tryz.func22, Tryz.ntmps22
          go_wp2_with fail
          go_ret
          exact ⟨by rw [HR.out]; rfl, HB.out⟩
      · have HR : Hid ((⟨arg, cmp, mask, value⟩ : Cd).right = false) := Lib.hid (by rw [Bool.eq_false_iff, ne_eq, Cd.right_iff]; simp only; omega)
        go_enter Tryz.func22, Tryz.ntmps22
        go_wp2_with fail
        go_ret
        exact ⟨by rw [HR.out]; rfl, HB.out⟩
    · have HR : Hid ((⟨arg, cmp, mask, value⟩ : Cd).right = false) := Lib.hid (by rw [Bool.eq_false_iff, ne_eq, Cd.right_iff]; simp only; omega)
      go_enter Tryz.func22, Tryz.ntmps22
      go_wp2_with fail
      go_ret
      exact ⟨by rw [HR.out]; rfl, HB.out⟩
  · have HR : Hid ((⟨arg, cmp, mask, value⟩ : Cd).right = false) := Lib.hid (by rw [Bool.eq_false_iff, ne_eq, Cd.right_iff]; simp only; omega)
    go_enter Tryz.func22, Tryz.ntmps22
    go_wp2_with fail
    go_ret
    exact ⟨by rw [HR.out]; rfl, HB.out⟩

theorem div_pow (a j : Nat) : a / 2 ^ (j + 1) = a / 2 ^ j / 2 := by rw [Nat.pow_succ, Nat.div_div_eq_div_mul]
theorem bit_div (a j : Nat) : a.testBit j = ((a / 2 ^ j : Nat) % 2 == 1) := by
  rw [Nat.testBit_eq_decide_div_mod_eq]
  generalize a / 2 ^ j = q
  rw [Bool.eq_iff_iff]
  simp
set_option maxHeartbeats 1000000 in
theorem rmasked_any (a b : Nat) (w : World) (ha : a < 18446744073709551616) (hb : b < 18446744073709551616) :
    Calls Tryz.prog 29 #[.int .u64 a, .int .u64 b] w fun e w' => e = .returned (.int .u64 (a &&& b : Nat)) ∧ Below w.heap.size w w' := by
  obtain ⟨P, hP⟩ : ∃ P : Nat → Bool, P = fun i => a.testBit i && b.testBit i := ⟨_, rfl⟩
  have HM : Hid (maskN P 64 = a &&& b) := Lib.hid (by rw [hP]; exact mask_and64 ha)
  have HP : Hid (∀ j, P j = (((a / 2 ^ j : Nat) % 2 == 1) && ((b / 2 ^ j : Nat) % 2 == 1))) := Lib.hid (fun j => by rw [hP]; simp only; rw [bit_div, bit_div])
  clear hP
  go_enter Tryz.func29, Tryz.ntmps29
  go_wp2_with fail
  go_loopw [0, 1, 5, 6, 7] (fun x y o p i wr => ∃ j : Nat, j ≤ 64 ∧ i = .int .i64 j ∧ x = .int .u64 ((a / 2 ^ j : Nat) : Int) ∧ y = .int .u64 ((b / 2 ^ j : Nat) : Int) ∧ o = .int .u64 ((maskN P j : Nat) : Int) ∧ p = .int .u64 ((2 ^ j % 18446744073709551616 : Nat) : Int) ∧ Below w.heap.size w wr) (fun _ _ _ _ i _ => 64 - (intOf i).toNat)
  case atStart => exact ⟨0, by omega, rfl, by rw [Nat.pow_zero, Nat.div_one], by rw [Nat.pow_zero, Nat.div_one], rfl, rfl, Below.refl _ _⟩
  case round =>
    obtain ⟨j, hj, rfl, rfl, rfl, rfl, rfl, hbw⟩ := hrel
    have HB := Lib.hid hbw
    clear hbw
    by_cases hlt : j < 64
    · have HX := Lib.hid (div_pow a j)
      have HY := Lib.hid (div_pow b j)
      have hx1 : a / 2 ^ j ≤ a := Nat.div_le_self _ _
      have hy1 : b / 2 ^ j ≤ b := Nat.div_le_self _ _
      have HPJ := Lib.hid (HP.out j)
      have hpow : 2 ^ j < 18446744073709551616 := Nat.lt_of_lt_of_le (Nat.pow_lt_pow_right (by omega) hlt) (show 2 ^ 64 ≤ 18446744073709551616 by decide)
      have hM := maskN_lt P j
      have HPW : Hid (2 ^ (j + 1) = 2 ^ j * 2) := Lib.hid (Nat.pow_succ 2 j)
      have HMN : Hid (maskN P (j + 1) = maskN P j + (if P j then 2 ^ j else 0)) := Lib.hid rfl
      have e1 : 2 ^ j % 18446744073709551616 = 2 ^ j := Nat.mod_eq_of_lt hpow
      have hpow2 : 2 ^ j ≤ 9223372036854775808 := Nat.pow_le_pow_right (n := 2) (by omega) (show j ≤ 63 by omega)
      rw [e1]
      clear e1 hpow
      generalize a / 2 ^ j = x at *
      generalize b / 2 ^ j = y at *
      generalize maskN P j = m at *
      generalize 2 ^ j = q at *
      have hx2 : (x : Int) ≤ 18446744073709551615 := by omega
      have hy2 : (y : Int) ≤ 18446744073709551615 := by omega
      have hq2 : (q : Int) ≤ 9223372036854775808 := by omega
      have hm2 : (m : Int) < q := by omega
      clear hx1 hy1 hM hpow2
      have hxe : ((x : Int) % 2 == 1) = (x % 2 == 1) := by rw [Bool.eq_iff_iff]; simp; omega
      have hye : ((y : Int) % 2 == 1) = (y % 2 == 1) := by rw [Bool.eq_iff_iff]; simp; omega
      cases hx : (x % 2 == 1)
      · rw [hx] at hxe HPJ
        rw [Bool.false_and] at HPJ
        rw [HPJ.out] at HMN
        clear hye hx
        go_wp2_with fail
        go_roundw
        case rel => exact ⟨j + 1, by omega, by go_num, by rw [HX.out]; go_num, by rw [HY.out]; go_num, by rw [HMN.out]; rfl, by rw [HPW.out]; go_num, HB.out⟩
        case measure => simp [intOf]; omega
      · rw [hx] at hxe HPJ
        rw [Bool.true_and] at HPJ
        clear hx
        cases hy : (y % 2 == 1)
        · rw [hy] at hye HPJ
          rw [HPJ.out] at HMN
          clear hy
          go_wp2_with fail
          go_roundw
          case rel => exact ⟨j + 1, by omega, by go_num, by rw [HX.out]; go_num, by rw [HY.out]; go_num, by rw [HMN.out]; rfl, by rw [HPW.out]; go_num, HB.out⟩
          case measure => simp [intOf]; omega
        · rw [hy] at hye HPJ
          rw [HPJ.out] at HMN
          clear hy
          go_wp2_with fail
          go_roundw
          case rel => exact ⟨j + 1, by omega, by go_num, by rw [HX.out]; go_num, by rw [HY.out]; go_num, by rw [HMN.out]; go_num, by rw [HPW.out]; go_num, HB.out⟩
          case measure => simp [intOf]; omega
    · obtain rfl : j = 64 := by omega
      rw [HM.out]
      go_wp2_with fail
      go_ret
      exact ⟨rfl, HB.out⟩
theorem cmp_lt {v x : Nat} (h : v < x) : cmpB 0 v x = false ∧ cmpB 1 v x = true ∧ cmpB 2 v x = true ∧ cmpB 3 v x = true ∧ cmpB 4 v x = false ∧ cmpB 5 v x = false := by
  refine ⟨?_, ?_, ?_, ?_, ?_, ?_⟩ <;> simp [cmpB] <;> omega
theorem cmp_gt {v x : Nat} (h : x < v) : cmpB 0 v x = false ∧ cmpB 1 v x = true ∧ cmpB 2 v x = false ∧ cmpB 3 v x = false ∧ cmpB 4 v x = true ∧ cmpB 5 v x = true := by
  refine ⟨?_, ?_, ?_, ?_, ?_, ?_⟩ <;> simp [cmpB] <;> omega
theorem cmp_same (v : Nat) : cmpB 0 v v = true ∧ cmpB 1 v v = false ∧ cmpB 2 v v = false ∧ cmpB 3 v v = true ∧ cmpB 4 v v = false ∧ cmpB 5 v v = true := by
  refine ⟨?_, ?_, ?_, ?_, ?_, ?_⟩ <;> simp [cmpB]
theorem bits_lt {c : Cd} {d : Rec} (hd : d.ok) : c.bits d < 18446744073709551616 := by
  have h := args_lt hd c.arg.toNat
  unfold Cd.bits
  exact Nat.lt_of_le_of_lt Nat.and_le_left h
set_option maxHeartbeats 4000000 in
theorem rholds8_any (c : Cd) (d : Rec) (w : World) (hc : c.ok) (hd : d.ok) :
    Calls Tryz.prog 20 #[c.val, d.val] w fun e w' => e = .returned (.bool (c.holds d)) ∧ Below w.heap.size w w' := by
  have HX0 := Lib.hid (ka (.cells d.cells 32) (heap_alloc_new w (cdB c)))
  have hD0 := heap_alloc_new (w.alloc (cdB c)) (.cells d.cells 32)
  rw [size_alloc] at hD0
  have HD0 := Lib.hid hD0
  have HB0 := Lib.hid (ba (.cells d.cells 32) (ba (cdB c) (Below.refl w.heap.size w)))
  obtain ⟨W, hW⟩ : ∃ W, W = (w.alloc (cdB c)).alloc (.cells d.cells 32) := ⟨_, rfl⟩
  rw [← hW] at HX0 HD0 HB0
  clear hD0
  go_enter Tryz.func20, Tryz.ntmps20
  go_upto_region 1 with fail
  rw [← hW]
  clear hW
  obtain ⟨c0, c1, c2, c3⟩ := cdX HX0.out
  go_wp2_with fail
  refine (rright8_any c _).mono ?_
  rintro e w1 ⟨rfl, hb1⟩
  have HX1 := Lib.hid (kb hb1 HX0.out)
  have HD1 := Lib.hid (kb hb1 HD0.out)
  have HB1 := Lib.hid (below2 HB0.out hb1)
  clear hb1 c0 c1 c2 c3 HX0 HD0 HB0
  cases hr : c.right
  · have HR := Lib.hid (holds_bad hr d)
    clear hr
    go_wp2_with fail
    go_ret
    exact ⟨by rw [HR.out]; rfl, HB1.out⟩
  · obtain ⟨a0, a5, k0, k5⟩ := (c.right_iff).1 hr
    have HR : Hid (c.holds d = cmpB c.cmp (c.bits d) c.value) := Lib.hid (by unfold Cd.holds; rw [hr]; rfl)
    obtain ⟨n, hn⟩ : ∃ n : Nat, c.arg = n := ⟨c.arg.toNat, by omega⟩
    have hn6 : n < 6 := by omega
    have HBT : Hid (c.bits d = (argsD d).getD n 0 &&& c.mask) := Lib.hid (by unfold Cd.bits; rw [hn]; rfl)
    have HBL := Lib.hid (bits_lt (c := c) hd)
    have HAL := Lib.hid (args_lt hd n)
    obtain ⟨c0, c1, c2, c3⟩ := cdX HX1.out
    have x3 := (cell_in HD1.out (3 + n)).trans (args_cell d n hn6)
    rw [hn] at c0
    clear hn
    have y0 := cell_regrown c0
    have y2 := cell_regrown c2
    have y3 := cell_regrown x3
    obtain ⟨A, hA⟩ : ∃ A, A = (argsD d).getD n 0 := ⟨_, rfl⟩
    rw [← hA] at HBT HAL y3
    have cM : ∀ d' os, Calls Tryz.prog 29 #[.int .u64 (A : Nat), .int .u64 (c.mask : Nat)] (Sort.grow (redrawn w1 d') os) fun e w'' => e = .returned (.int .u64 (c.bits d : Nat)) ∧ ∃ p : Regrown, w'' = Sort.grow (redrawn w1 p.d) p.os := fun d' os => Calls.regrown_of ((rmasked_any A c.mask _ HAL.out hc.1).mono fun e w' h => ⟨by rw [HBT.out]; exact h.1, h.2⟩)
    generalize c.bits d = V at *
    clear hA hr c0 c1 c2 c3 x3
    go_wp2_with fail
    have l0 : (0 : Int) ≤ (n : Int) := by omega
    have l1 : (n : Int) < 6 := by omega
    have t1 : (n : Int).toNat = n := by omega
    refine wp_region_quiet_below (by kernel_rfl) (by kernel_rfl) ?_
    repeat (quiet_step (with_reducible exact cM _ _))
    refine wpQuiet_nil ?_
    intro _ hw'
    obtain ⟨⟨dq, osq⟩, hw''⟩ := hw'
    subst hw''
    have hbq := below_regrown w1 dq osq
    have HBq := Lib.hid (below2 HB1.out hbq)
    have HXq := Lib.hid (kb hbq HX1.out)
    clear hbq y0 y2 y3 cM l0 l1 t1
    generalize Sort.grow (redrawn w1 dq) osq = Wq at *
    obtain ⟨c0, c1, c2, c3⟩ := cdX HXq.out
    obtain ⟨arg, cmp, mask, x⟩ := c
    simp only at c1 c3 k0 k5 HR
    clear c0 c2
    have HK := Lib.hid (six k0 k5)
    clear k0 k5
    rcases Nat.lt_trichotomy V x with h | h | h
    · obtain ⟨q0, q1, q2, q3, q4, q5⟩ := cmp_lt h
      have i1 : (V : Int) < (x : Int) := by omega
      have i2 : ¬ (x : Int) < (V : Int) := by omega
      have Q := Lib.hid (And.intro q0 (And.intro q1 (And.intro q2 (And.intro q3 (And.intro q4 q5)))))
      clear q0 q1 q2 q3 q4 q5
      rcases HK.out with rfl | rfl | rfl | rfl | rfl | rfl
      · rw [Q.out.1] at HR
        go_wp2_with fail
        go_ret
        exact ⟨by rw [HR.out]; rfl, HBq.out⟩
      · rw [Q.out.2.1] at HR
        go_wp2_with fail
        go_ret
        exact ⟨by rw [HR.out]; rfl, HBq.out⟩
      · rw [Q.out.2.2.1] at HR
        go_wp2_with fail
        go_ret
        exact ⟨by rw [HR.out]; rfl, HBq.out⟩
      · rw [Q.out.2.2.2.1] at HR
        go_wp2_with fail
        go_ret
        exact ⟨by rw [HR.out]; rfl, HBq.out⟩
      · rw [Q.out.2.2.2.2.1] at HR
        go_wp2_with fail
        go_ret
        exact ⟨by rw [HR.out]; rfl, HBq.out⟩
      · rw [Q.out.2.2.2.2.2] at HR
        go_wp2_with fail
        go_ret
        exact ⟨by rw [HR.out]; rfl, HBq.out⟩
    · subst h
      obtain ⟨q0, q1, q2, q3, q4, q5⟩ := cmp_same V
      have i1 : ¬ (V : Int) < (V : Int) := by omega
      have Q := Lib.hid (And.intro q0 (And.intro q1 (And.intro q2 (And.intro q3 (And.intro q4 q5)))))
      clear q0 q1 q2 q3 q4 q5
      rcases HK.out with rfl | rfl | rfl | rfl | rfl | rfl
      · rw [Q.out.1] at HR
        go_wp2_with fail
        go_ret
        exact ⟨by rw [HR.out]; rfl, HBq.out⟩
      · rw [Q.out.2.1] at HR
        go_wp2_with fail
        go_ret
        exact ⟨by rw [HR.out]; rfl, HBq.out⟩
      · rw [Q.out.2.2.1] at HR
        go_wp2_with fail
        go_ret
        exact ⟨by rw [HR.out]; rfl, HBq.out⟩
      · rw [Q.out.2.2.2.1] at HR
        go_wp2_with fail
        go_ret
        exact ⟨by rw [HR.out]; rfl, HBq.out⟩
      · rw [Q.out.2.2.2.2.1] at HR
        go_wp2_with fail
        go_ret
        exact ⟨by rw [HR.out]; rfl, HBq.out⟩
      · rw [Q.out.2.2.2.2.2] at HR
        go_wp2_with fail
        go_ret
        exact ⟨by rw [HR.out]; rfl, HBq.out⟩
    · obtain ⟨q0, q1, q2, q3, q4, q5⟩ := cmp_gt h
      have i1 : ¬ (V : Int) < (x : Int) := by omega
      have i2 : (x : Int) < (V : Int) := by omega
      have Q := Lib.hid (And.intro q0 (And.intro q1 (And.intro q2 (And.intro q3 (And.intro q4 q5)))))
      clear q0 q1 q2 q3 q4 q5
      rcases HK.out with rfl | rfl | rfl | rfl | rfl | rfl
      · rw [Q.out.1] at HR
        go_wp2_with fail
        go_ret
        exact ⟨by rw [HR.out]; rfl, HBq.out⟩
      · rw [Q.out.2.1] at HR
        go_wp2_with fail
        go_ret
        exact ⟨by rw [HR.out]; rfl, HBq.out⟩
      · rw [Q.out.2.2.1] at HR
        go_wp2_with fail
        go_ret
        exact ⟨by rw [HR.out]; rfl, HBq.out⟩
      · rw [Q.out.2.2.2.1] at HR
        go_wp2_with fail
        go_ret
        exact ⟨by rw [HR.out]; rfl, HBq.out⟩
      · rw [Q.out.2.2.2.2.1] at HR
        go_wp2_with fail
        go_ret
        exact ⟨by rw [HR.out]; rfl, HBq.out⟩
      · rw [Q.out.2.2.2.2.2] at HR
        go_wp2_with fail
        go_ret
        exact ⟨by rw [HR.out]; rfl, HBq.out⟩

end Go.Proofs.YtbhondjfilohdaaGreatDoor
/-
  The document's Words and Print (package hurdleref08).
-/
namespace Go.Proofs.YtbhondjfilohdaaGreatDoor
open Go.ChangeShapes Go.WideShapes Go.ChangeAt Go.RowKit
set_option maxRecDepth 20000

/-! ### A region whose order is drawn, taken by hand -/
section
variable {ops : Array Oper} {Q : Exit → Act → World → Prop} {md : Region.Mode} {S : World → Prop}
variable {o : Oper} {a : Act}
end
def wordT (k : Int) : ByteArray := ⟨(cmpW k).toArray⟩
/-- A condition's text. -/
def textT (c : Cd) : ByteArray := ⟨(textQ c).toArray⟩
end Go.Proofs.YtbhondjfilohdaaGreatDoor
/-
  The document's Parse of a condition (package hurdleref08).
-/
namespace Go.Proofs.YtbhondjfilohdaaGreatDoor
open Go.ChangeShapes Go.WideShapes Go.ChangeAt Go.RowKit
set_option maxRecDepth 20000

theorem cd_right {a k m v : Nat} (ha : a < 6) (hk : k < 6) : (⟨a, k, m, v⟩ : Cd).right = true := by
  rw [Cd.right_iff]
  simp only
  omega
end Go.Proofs.YtbhondjfilohdaaGreatDoor
/-
  What the document's functions of names answer (package hurdleref09).
-/
namespace Go.Proofs.YtbhondjfilohdaaGreatDoor
open Go.ChangeShapes Go.WideShapes Go.ChangeAt Go.RowKit
set_option maxRecDepth 20000

/-- A slice whose elements, of one cell each, are these. -/
def SAt (w : World) (v : Value) (cs : List Value) : Prop :=
  ∃ ao cap, v = .slice ao cs.length cap ∧ cs.length ≤ cap ∧ (cs = [] ∨ ∃ b, ao = some ⟨b, 0, none⟩ ∧ b < w.heap.size ∧ ∀ i u, cs[i]? = some u → w.cell? ⟨b, i, none⟩ = some u)
theorem SAt.below {w w' : World} {v : Value} {cs : List Value} (h : SAt w v cs) (hb : Below w.heap.size w w') : SAt w' v cs := by
  obtain ⟨ao, cap, rfl, hcap, h⟩ := h
  refine ⟨ao, cap, rfl, hcap, h.imp id ?_⟩
  rintro ⟨b, rfl, hl, hc⟩
  exact ⟨b, rfl, Nat.lt_of_lt_of_le hl hb.size, fun i u hi => (hb.cell (p := ⟨b, _, none⟩) hl).trans (hc i u hi)⟩
theorem SAt.own {w : World} {base : Nat} {e : TypeId} {v : Value} {n : Nat} {cs : List Value} (h : w.ownsRow base e 1 v n cs) (hn : n = cs.length) : SAt w v cs := by
  subst hn
  rcases Nat.eq_zero_or_pos cs.length with h0 | h0
  · obtain rfl := List.length_eq_zero_iff.1 h0
    obtain ⟨a, c, rfl⟩ := own_shape h
    exact ⟨a, c, rfl, Nat.zero_le _, .inl rfl⟩
  · obtain ⟨g, c, rfl, _, hl, hc, hx⟩ := own_cells h h0
    exact ⟨_, _, rfl, hc, .inr ⟨g, rfl, hl, hx⟩⟩
theorem SAt.lit {w : World} {g : Nat} {cs : Array Value} {t : TypeId} {fr : Nat × Nat} (h : w.heap[g]? = some (.cells cs t fr)) : SAt w (.slice (some ⟨g, 0, none⟩) cs.size cs.size) cs.toList :=
  ⟨some ⟨g, 0, none⟩, cs.size, by simp, by simp, .inr ⟨g, rfl, lt_of_block h, fun i u hu => by rw [cell_in h i]; simpa using hu⟩⟩
theorem beq_eq {a b : ByteArray} (h : (a.toList == b.toList) = true) : a = b := by
  have h := eq_of_beq h
  rw [Go.ByteArray.toList_eq, Go.ByteArray.toList_eq] at h
  exact ByteArray.ext (Array.ext' h)
theorem beq_ne {a b : ByteArray} (h : a ≠ b) : (a.toList == b.toList) = false := by
  cases q : (a.toList == b.toList)
  · rfl
  · exact absurd (beq_eq q) h
theorem readN_no {T : Tbl} {s : ByteArray} (h : ∀ p ∈ T, p.1 ≠ s) (h2 : ∀ n : Nat, n < 4294967296 → s = Wd.txt n → textN T n ≠ s) : readN T s none := by
  intro n hn e
  rcases textN_is T n with ⟨p, hp, _, e1⟩ | ⟨_, e1⟩
  · exact h p hp (e1.symm.trans e.symm)
  · exact h2 n hn (e.trans e1) e.symm
end Go.Proofs.YtbhondjfilohdaaGreatDoor
/-
  What the document's Calls answers (package hurdleref09).
-/
namespace Go.Proofs.YtbhondjfilohdaaGreatDoor
open Go.ChangeShapes Go.WideShapes Go.ChangeAt Go.RowKit
set_option maxRecDepth 20000

/-- Rows that hold cells of two types lie in two blocks. -/
theorem own_apart {w : World} {base base' : Nat} {e e' : TypeId} {s s' : Nat} {v v' : Value} {n n' : Nat} {xs xs' : List Value} (h : w.ownsRow base e s v n xs) (h' : w.ownsRow base' e' s' v' n' xs') (hne : e ≠ e') : v'.ownBlock = none ∨ v'.ownBlock ≠ v.ownBlock := by
  rcases h.2 with ⟨rfl, _⟩ | ⟨g, c, cur, rfl, _, hh, _⟩ <;> rcases h'.2 with ⟨rfl, _⟩ | ⟨g', c', cur', rfl, _, hh', _⟩
  · exact .inl rfl
  · exact .inr (by simp [Value.ownBlock])
  · exact .inl rfl
  · refine .inr fun e1 => ?_
    have e1 : g' = g := by simpa [Value.ownBlock] using e1
    subst e1
    rw [hh] at hh'
    simp at hh'
    exact hne hh'.2
end Go.Proofs.YtbhondjfilohdaaGreatDoor
/-
  What the document's Call, ReadCall, Action and ReadAction answer (package hurdleref09).
-/
namespace Go.Proofs.YtbhondjfilohdaaGreatDoor
open Go.ChangeShapes Go.WideShapes Go.ChangeAt Go.RowKit
set_option maxRecDepth 20000

/-! ### Actions -/
/-- An action's text, or nothing. -/
def actS (v : Nat) : ByteArray := (actT v).getD ⟨#[]⟩
theorem actS_err {v : Nat} (h1 : 327680 ≤ v) (h2 : v ≤ 331775) : actS v = berror ++ Wd.txt (v - 327680) := by
  unfold actS actT
  rw [if_pos ⟨h1, h2⟩]
  rfl
theorem actS_rest {v : Nat} (h : ¬ (327680 ≤ v ∧ v ≤ 331775)) : actS v = if v = 0 then bkillA else if v = 196608 then btrap else if v = 2147221504 then blog else if v = 2147418112 then ballow else ⟨#[]⟩ := by
  unfold actS actT
  rw [if_neg h]
  split
  · rfl
  split
  · rfl
  split
  · rfl
  split
  · rfl
  rfl
theorem txt_lt18 {n : Nat} (h : n < 18446744073709551616) : (Wd.txt n).size ≤ 18 := by
  have := Wd.hex_len16 n h
  show (48 :: 120 :: Wd.hex n).length ≤ 18
  simp
  omega
set_option maxHeartbeats 2000000 in
theorem raction_any (v : Nat) (w : World) (hv : v < 4294967296) :
    Calls Tryz.prog 21 #[.int .u32 v] w fun e w' => e = .returned (.string (actS v)) ∧ Below w.heap.size w w' := by
  by_cases h : 327680 ≤ v ∧ v ≤ 331775
  · obtain ⟨m, rfl⟩ : ∃ m, v = 327680 + m := ⟨v - 327680, by omega⟩
    have HE := Lib.hid (actS_err h.1 h.2)
    rw [show 327680 + m - 327680 = m by omega] at HE
    have HT := Lib.hid (refText_any m (by omega))
    have hz := txt_lt18 (n := m) (by omega)
    have hzE : (⟨#[101, 114, 114, 111, 114, 58]⟩ : ByteArray).size = 6 := rfl
    have l1 : (327680 : Int) ≤ ((327680 + m : Nat) : Int) := by omega
    have l2 : ((327680 + m : Nat) : Int) ≤ 331775 := by omega
    have l3 : IntKind.u32.wrap (((327680 + m : Nat) : Int) - 327680) = (m : Int) := by unfold IntKind.wrap; simp [IntKind.bits, IntKind.signed]; omega
    obtain ⟨A, hA⟩ : ∃ A : Int, A = ((327680 + m : Nat) : Int) := ⟨_, rfl⟩
    rw [← hA] at l1 l2 l3 ⊢
    clear hA
    generalize Wd.txt m = TX at HT HE hz
    go_enter Tryz.func21, Tryz.ntmps21
    go_wp2_with fail
    refine (HT.out _).mono ?_
    rintro e w1 ⟨rfl, hb1⟩
    have HB1 := Lib.hid hb1
    clear hb1
    go_wp2_with fail
    go_ret
    exact ⟨by rw [HE.out]; rfl, HB1.out⟩
  · have HE := Lib.hid (actS_rest h)
    by_cases h0 : v = 0
    · subst h0
      go_enter Tryz.func21, Tryz.ntmps21
      go_wp2_with fail
      go_ret
      exact ⟨by rw [HE.out]; rfl, Below.refl _ _⟩
    by_cases h1 : v = 196608
    · subst h1
      go_enter Tryz.func21, Tryz.ntmps21
      go_wp2_with fail
      go_ret
      exact ⟨by rw [HE.out]; rfl, Below.refl _ _⟩
    by_cases h2 : v = 2147221504
    · subst h2
      go_enter Tryz.func21, Tryz.ntmps21
      go_wp2_with fail
      go_ret
      exact ⟨by rw [HE.out]; rfl, Below.refl _ _⟩
    by_cases h3 : v = 2147418112
    · subst h3
      go_enter Tryz.func21, Tryz.ntmps21
      go_wp2_with fail
      go_ret
      exact ⟨by rw [HE.out]; rfl, Below.refl _ _⟩
    have q0 : ((v : Int) == 0) = false := by simp; omega
    have q1 : ((v : Int) == 196608) = false := by simp; omega
    have q2 : ((v : Int) == 2147221504) = false := by simp; omega
    have q3 : ((v : Int) == 2147418112) = false := by simp; omega
    have HE2 : Hid (actS v = ⟨#[]⟩) := Lib.hid (by rw [HE.out, if_neg h0, if_neg h1, if_neg h2, if_neg h3])
    clear HE h0 h1 h2 h3
    by_cases hlo : 327680 ≤ v
    · have l1 : (327680 : Int) ≤ (v : Int) := by omega
      have l2 : ¬ (v : Int) ≤ 331775 := by omega
      clear h hlo
      go_enter Tryz.func21, Tryz.ntmps21
      go_wp2_with fail
      go_ret
      exact ⟨by rw [HE2.out]; rfl, Below.refl _ _⟩
    · have l1 : ¬ (327680 : Int) ≤ (v : Int) := by omega
      clear h hlo
      go_enter Tryz.func21, Tryz.ntmps21
      go_wp2_with fail
      go_ret
      exact ⟨by rw [HE2.out]; rfl, Below.refl _ _⟩
end Go.Proofs.YtbhondjfilohdaaGreatDoor
/-
  What the document's ReadAction answers (package hurdleref09).
-/
namespace Go.Proofs.YtbhondjfilohdaaGreatDoor
open Go.ChangeShapes Go.WideShapes Go.ChangeAt Go.RowKit
set_option maxRecDepth 20000

/-- What is an action has a text; what is none has nothing. -/
theorem actS_kinds (v : Nat) : ((actT v).isSome = true ∧ (actS v).toList.isEmpty = false) ∨ ((actT v).isSome = false ∧ actS v = ⟨#[]⟩) := by
  cases h : actT v with
  | none => exact .inr ⟨rfl, by unfold actS; rw [h]; rfl⟩
  | some x =>
    refine .inl ⟨rfl, ?_⟩
    have e : actS v = x := by unfold actS; rw [h]; rfl
    rw [e, Go.ByteArray.toList_eq]
    rcases actT_some h with ⟨n, _, _, rfl⟩ | ⟨_, rfl⟩ | ⟨_, rfl⟩ | ⟨_, rfl⟩ | ⟨_, rfl⟩
    · rw [err_list]
      rfl
    all_goals rfl
end Go.Proofs.YtbhondjfilohdaaGreatDoor
/-
  Conditions, rules and policies that lie in a world.
-/
namespace Go.Proofs.YtbhondjfilohdaaGreatDoor
open Go.ChangeShapes Go.WideShapes Go.ChangeAt Go.RowKit Go.Deep
set_option maxRecDepth 20000

/-- Four cells. -/
abbrev V4 := Value × Value × Value × Value
abbrev V4.cells (x : V4) : List Value := [x.1, x.2.1, x.2.2.1, x.2.2.2]
def qcells (l : List V4) : List Value := l.flatMap V4.cells
theorem qcells_len (l : List V4) : (qcells l).length = l.length * 4 := by
  induction l with
  | nil => rfl
  | cons x l ih => simp [qcells, List.flatMap_cons] at ih ⊢; omega
theorem qcells_app (l m : List V4) : qcells (l ++ m) = qcells l ++ qcells m := by simp [qcells]
theorem qcells_one (x : V4) : qcells [x] = x.cells := by simp [qcells]
theorem qcells_at (l : List V4) (i : Nat) (h : i < l.length) : ∀ j, j < 4 → (qcells l)[i * 4 + j]? = (l[i]).cells[j]? := by
  induction l generalizing i with
  | nil => simp at h
  | cons x l ih =>
    intro j hj
    have e : qcells (x :: l) = x.cells ++ qcells l := by simp [qcells]
    rw [e]
    cases i with
    | zero =>
      rw [List.getElem?_append_left (by simp; omega)]
      simp
    | succ i =>
      rw [List.getElem?_append_right (by simp; omega)]
      simp only [List.getElem_cons_succ]
      rw [← ih i (by simpa using h) j hj]
      congr 1
      simp
      omega
/-- Rows of four cells that lie in a world. -/
def QAt (w : World) (v : Value) (l : List V4) : Prop :=
  ∃ ao cap, v = .slice ao l.length cap ∧ (l = [] ∨ ∃ b off, ao = some ⟨b, off, none⟩ ∧ b < w.heap.size ∧ ∀ i (h : i < l.length),
    w.cell? ⟨b, off + i * 4, none⟩ = some (l[i]).1 ∧ w.cell? ⟨b, off + i * 4 + 1, none⟩ = some (l[i]).2.1 ∧ w.cell? ⟨b, off + i * 4 + 2, none⟩ = some (l[i]).2.2.1 ∧ w.cell? ⟨b, off + i * 4 + 3, none⟩ = some (l[i]).2.2.2)
theorem QAt.nil (w : World) : QAt w (.slice none 0 0) [] := ⟨none, 0, rfl, .inl rfl⟩
theorem QAt.below {w w' : World} {v : Value} {l : List V4} (h : QAt w v l) (hb : Below w.heap.size w w') : QAt w' v l := by
  obtain ⟨ao, cap, rfl, h⟩ := h
  refine ⟨ao, cap, rfl, h.imp id ?_⟩
  rintro ⟨b, off, rfl, hl, hc⟩
  refine ⟨b, off, rfl, Nat.lt_of_lt_of_le hl hb.size, fun i hi => ?_⟩
  obtain ⟨c0, c1, c2, c3⟩ := hc i hi
  exact ⟨(hb.cell (p := ⟨b, _, none⟩) hl).trans c0, (hb.cell (p := ⟨b, _, none⟩) hl).trans c1, (hb.cell (p := ⟨b, _, none⟩) hl).trans c2, (hb.cell (p := ⟨b, _, none⟩) hl).trans c3⟩
theorem QAt.of_cells {w : World} {b off cap : Nat} {l : List V4} (hb : l ≠ [] → b < w.heap.size) (h : ∀ i u, (qcells l)[i]? = some u → w.cell? ⟨b, off + i, none⟩ = some u) : QAt w (.slice (some ⟨b, off, none⟩) l.length cap) l := by
  refine ⟨_, _, rfl, ?_⟩
  by_cases h0 : l = []
  · exact .inl h0
  · refine .inr ⟨b, off, rfl, hb h0, fun i hi => ⟨?_, ?_, ?_, ?_⟩⟩
    · have := qcells_at l i hi 0 (by omega)
      exact h _ _ this
    · have := qcells_at l i hi 1 (by omega)
      rw [Nat.add_assoc]
      exact h _ _ this
    · have := qcells_at l i hi 2 (by omega)
      rw [Nat.add_assoc]
      exact h _ _ this
    · have := qcells_at l i hi 3 (by omega)
      rw [Nat.add_assoc]
      exact h _ _ this
theorem QAt.own {w : World} {base : Nat} {e : TypeId} {v : Value} {n : Nat} {l : List V4} (h : w.ownsRow base e 4 v n (qcells l)) (hn : n = l.length) : QAt w v l := by
  subst hn
  rcases h.2 with ⟨rfl, h0⟩ | ⟨g, cap, cur, rfl, _, hg, _, _, _, ht⟩
  · obtain rfl := List.length_eq_zero_iff.1 h0
    exact QAt.nil w
  · refine QAt.of_cells (fun _ => lt_of_block hg) fun i u hu => ?_
    rw [Nat.zero_add, cell_in hg i, ← Array.getElem?_toList]
    have hi := (List.getElem?_eq_some_iff.1 hu).1
    rw [qcells_len] at hi
    rw [← ht, List.getElem?_take, if_pos (by omega)] at hu
    exact hu
theorem QAt.shape {w : World} {v : Value} {l : List V4} (h : QAt w v l) : ∃ ao cap, v = .slice ao l.length cap := by
  obtain ⟨ao, cap, rfl, _⟩ := h
  exact ⟨ao, cap, rfl⟩
/-- One of the rows. -/
theorem QAt.row {w : World} {v : Value} {l : List V4} (h : QAt w v l) {i : Nat} (hi : i < l.length) : ∃ b off cap, v = .slice (some ⟨b, off, none⟩) l.length cap ∧ b < w.heap.size ∧
    w.cell? ⟨b, off + i * 4, none⟩ = some (l[i]).1 ∧ w.cell? ⟨b, off + i * 4 + 1, none⟩ = some (l[i]).2.1 ∧ w.cell? ⟨b, off + i * 4 + 2, none⟩ = some (l[i]).2.2.1 ∧ w.cell? ⟨b, off + i * 4 + 3, none⟩ = some (l[i]).2.2.2 := by
  obtain ⟨ao, cap, rfl, h⟩ := h
  rcases h with rfl | ⟨b, off, rfl, hb, hc⟩
  · simp at hi
  · exact ⟨b, off, cap, rfl, hb, hc i hi⟩
/-! ### Conditions -/
abbrev cdQ (c : Cd) : V4 := (.int .i64 c.arg, .int .i64 c.cmp, .int .u64 (c.mask : Nat), .int .u64 (c.value : Nat))
def CAt (w : World) (v : Value) (cs : List Cd) : Prop := QAt w v (cs.map cdQ)
theorem CAt.nil (w : World) : CAt w (.slice none 0 0) [] := QAt.nil w
theorem CAt.below {w w' : World} {v : Value} {cs : List Cd} (h : CAt w v cs) (hb : Below w.heap.size w w') : CAt w' v cs := QAt.below h hb
theorem CAt.shape {w : World} {v : Value} {cs : List Cd} (h : CAt w v cs) : ∃ ao cap, v = .slice ao cs.length cap := by
  obtain ⟨ao, cap, e⟩ := QAt.shape h
  exact ⟨ao, cap, by rw [e, List.length_map]⟩
theorem CAt.row {w : World} {v : Value} {cs : List Cd} (h : CAt w v cs) {i : Nat} (hi : i < cs.length) : ∃ b off cap, v = .slice (some ⟨b, off, none⟩) cs.length cap ∧ b < w.heap.size ∧
    w.cell? ⟨b, off + i * 4, none⟩ = some (.int .i64 (cs[i]).arg) ∧ w.cell? ⟨b, off + i * 4 + 1, none⟩ = some (.int .i64 (cs[i]).cmp) ∧ w.cell? ⟨b, off + i * 4 + 2, none⟩ = some (.int .u64 ((cs[i]).mask : Nat)) ∧ w.cell? ⟨b, off + i * 4 + 3, none⟩ = some (.int .u64 ((cs[i]).value : Nat)) := by
  obtain ⟨b, off, cap, e, hb, c0, c1, c2, c3⟩ := QAt.row h (i := i) (by rw [List.length_map]; exact hi)
  rw [List.getElem_map] at c0 c1 c2 c3
  exact ⟨b, off, cap, by rw [e, List.length_map], hb, c0, c1, c2, c3⟩
/-! ### Rules -/
abbrev rlQ (p : Rl × Value) : V4 := (.int .u32 (p.1.arch : Nat), .int .u32 (p.1.nr : Nat), p.2, .int .u32 (p.1.act : Nat))
/-- A rule's value, its conditions lying elsewhere. -/
abbrev Rl.val (x : Rl) (cv : Value) : Value := .agg #[.int .u32 (x.arch : Nat), .int .u32 (x.nr : Nat), cv, .int .u32 (x.act : Nat)]
abbrev rlB (x : Rl) (cv : Value) : Obj := .cells #[.int .u32 (x.arch : Nat), .int .u32 (x.nr : Nat), cv, .int .u32 (x.act : Nat)] 28
def LAt (w : World) (v : Value) (rs : List Rl) : Prop := ∃ l : List (Rl × Value), rs = l.map (·.1) ∧ QAt w v (l.map rlQ) ∧ ∀ p ∈ l, CAt w p.2 p.1.conds
theorem LAt.nil (w : World) : LAt w (.slice none 0 0) [] := ⟨[], rfl, QAt.nil w, by simp⟩
theorem LAt.below {w w' : World} {v : Value} {rs : List Rl} (h : LAt w v rs) (hb : Below w.heap.size w w') : LAt w' v rs := by
  obtain ⟨l, e, h1, h2⟩ := h
  exact ⟨l, e, h1.below hb, fun p hp => (h2 p hp).below hb⟩
theorem LAt.shape {w : World} {v : Value} {rs : List Rl} (h : LAt w v rs) : ∃ ao cap, v = .slice ao rs.length cap := by
  obtain ⟨l, e, h1, _⟩ := h
  obtain ⟨ao, cap, e2⟩ := h1.shape
  exact ⟨ao, cap, by rw [e2, e, List.length_map, List.length_map]⟩
theorem LAt.row {w : World} {v : Value} {rs : List Rl} (h : LAt w v rs) {i : Nat} (hi : i < rs.length) : ∃ b off cap cv, v = .slice (some ⟨b, off, none⟩) rs.length cap ∧ b < w.heap.size ∧ CAt w cv (rs[i]).conds ∧
    w.cell? ⟨b, off + i * 4, none⟩ = some (.int .u32 ((rs[i]).arch : Nat)) ∧ w.cell? ⟨b, off + i * 4 + 1, none⟩ = some (.int .u32 ((rs[i]).nr : Nat)) ∧ w.cell? ⟨b, off + i * 4 + 2, none⟩ = some cv ∧ w.cell? ⟨b, off + i * 4 + 3, none⟩ = some (.int .u32 ((rs[i]).act : Nat)) := by
  obtain ⟨l, rfl, h1, h2⟩ := h
  rw [List.length_map] at hi
  obtain ⟨b, off, cap, e, hb, c0, c1, c2, c3⟩ := h1.row (i := i) (by rw [List.length_map]; exact hi)
  rw [List.getElem_map] at c0 c1 c2 c3
  refine ⟨b, off, cap, (l[i]).2, by rw [e, List.length_map, List.length_map], hb, ?_, ?_⟩
  · rw [List.getElem_map]
    exact h2 _ (List.getElem_mem hi)
  · rw [List.getElem_map]
    exact ⟨c0, c1, c2, c3⟩
/-! ### Policies -/
abbrev poV (rv : Value) (d : Nat) : Value := .agg #[rv, .int .u32 (d : Nat)]
abbrev poB (rv : Value) (d : Nat) : Obj := .cells #[rv, .int .u32 (d : Nat)] 25
theorem pbox {w : World} {g : Nat} {rv : Value} {d : Nat} (h : w.heap[g]? = some (poB rv d)) : w.cell? ⟨g, 0, none⟩ = some rv ∧ w.cell? ⟨g, 1, none⟩ = some (.int .u32 (d : Nat)) := ⟨cell_in h 0, cell_in h 1⟩
theorem rbox {w : World} {g : Nat} {x : Rl} {cv : Value} (h : w.heap[g]? = some (rlB x cv)) : w.cell? ⟨g, 0, none⟩ = some (.int .u32 (x.arch : Nat)) ∧ w.cell? ⟨g, 1, none⟩ = some (.int .u32 (x.nr : Nat)) ∧ w.cell? ⟨g, 2, none⟩ = some cv ∧ w.cell? ⟨g, 3, none⟩ = some (.int .u32 (x.act : Nat)) := ⟨cell_in h 0, cell_in h 1, cell_in h 2, cell_in h 3⟩
/-! ### A policy that came in -/
theorem cellsCond : Tryz.prog.cellsOf 49 = 4 := by kernel_rfl
theorem cellsRule : Tryz.prog.cellsOf 28 = 4 := by kernel_rfl
theorem cellsPolicy : Tryz.prog.cellsOf 25 = 2 := by kernel_rfl
section
variable {H : Type} {enc : TypeId × Value → H} {W : World}
theorem trod_i64 {n : Nat} {c : Value} {y : DataW H × List MemPlace} (h : DataW.trod enc Tryz.prog W 0 (fun _ => true) true n 3 [c] = some y) : ∃ k : Int, c = .int .i64 k := by
  obtain ⟨z, e, _, _⟩ := DataW.trod_int Tryz.underlying3 h
  simp only [List.cons.injEq, and_true] at e
  exact ⟨z, e⟩
theorem trod_u64 {n : Nat} {c : Value} {y : DataW H × List MemPlace} (h : DataW.trod enc Tryz.prog W 0 (fun _ => true) true n 29 [c] = some y) : ∃ k : Nat, c = .int .u64 (k : Nat) ∧ k < 18446744073709551616 := by
  obtain ⟨z, e, _, g⟩ := DataW.trod_int Tryz.underlying29 h
  simp only [List.cons.injEq, and_true] at e
  have b := bounds_u64 g
  exact ⟨z.toNat, by rw [e, show ((z.toNat : Nat) : Int) = z by omega], by omega⟩
theorem trod_u32 {n : Nat} {c : Value} {y : DataW H × List MemPlace} (h : DataW.trod enc Tryz.prog W 0 (fun _ => true) true n 23 [c] = some y) : ∃ k : Nat, c = .int .u32 (k : Nat) ∧ k < 4294967296 := by
  obtain ⟨z, e, _, g⟩ := DataW.trod_int Tryz.underlying23 h
  simp only [List.cons.injEq, and_true] at e
  have b := bounds_u32 g
  exact ⟨z.toNat, by rw [e, show ((z.toNat : Nat) : Int) = z by omega], by omega⟩
theorem open_conds {n : Nat} {v : Value} {y : DataW H × List MemPlace} (h : DataW.trod enc Tryz.prog W 0 (fun _ => true) true n 26 [v] = some y) : ∃ cs : List Cd, CAt W v cs ∧ (∀ c ∈ cs, c.ok) ∧ cs.length ≤ 9223372036854775807 := by
  obtain ⟨d, p⟩ := y
  rcases open_slice Tryz.underlying26 h with ⟨hcs, _⟩ | ⟨a, len', cap', m, n, D, Pl, hcs, _, hl, hm, hmm, _, hi⟩
  · obtain rfl := (List.cons.inj hcs).1
    exact ⟨[], CAt.nil W, by simp, by simp⟩
  · obtain rfl := (List.cons.inj hcs).1
    simp only [if_true] at hmm
    unfold maxLen at hm
    rw [cellsCond] at hi
    have hall : ∀ i, i < len' → ∃ c : Cd, c.ok ∧ W.cell? (a.add (i * 4)) = some (.int .i64 c.arg) ∧ W.cell? ((a.add (i * 4)).add 1) = some (.int .i64 c.cmp) ∧ W.cell? ((a.add (i * 4)).add 2) = some (.int .u64 (c.mask : Nat)) ∧ W.cell? ((a.add (i * 4)).add 3) = some (.int .u64 (c.value : Nat)) := by
      intro i hil
      obtain ⟨cs', hc, ht'⟩ := hi i (by omega)
      obtain ⟨ys, n', _, _, hlen, hyl, hff⟩ := DataW.trod_struct Tryz.underlying49 ht'
      obtain ⟨_, hcl, hat⟩ := World.cells?_some hc
      rw [cellsCond] at hlen
      match cs', hlen with
      | [c0, c1, c2, c3], _ =>
        have hy4 : ys.length = 4 := hyl
        match ys, hy4 with
        | [y0, y1, y2, y3], _ =>
          have h0 : DataW.trod enc Tryz.prog W 0 (fun _ => true) true n' 3 [c0] = some y0 := hff 0 _ rfl
          have h1 : DataW.trod enc Tryz.prog W 0 (fun _ => true) true n' 3 [c1] = some y1 := hff 1 _ rfl
          have h2 : DataW.trod enc Tryz.prog W 0 (fun _ => true) true n' 29 [c2] = some y2 := hff 2 _ rfl
          have h3 : DataW.trod enc Tryz.prog W 0 (fun _ => true) true n' 29 [c3] = some y3 := hff 3 _ rfl
          obtain ⟨k0, rfl⟩ := trod_i64 h0
          obtain ⟨k1, rfl⟩ := trod_i64 h1
          obtain ⟨k2, rfl, b2⟩ := trod_u64 h2
          obtain ⟨k3, rfl, b3⟩ := trod_u64 h3
          have g0 := hat 0 (by omega)
          have g1 := hat 1 (by omega)
          have g2 := hat 2 (by omega)
          have g3 := hat 3 (by omega)
          refine ⟨⟨k0, k1, k2, k3⟩, ⟨b2, b3⟩, ?_, g1, g2, g3⟩
          simpa [Addr.add] using g0
    obtain ⟨l, hll, hq⟩ := pick_list len' hall
    subst hll
    refine ⟨l, ⟨some a, cap', by rw [List.length_map], ?_⟩, ?_, by omega⟩
    · by_cases h0 : l = []
      · exact .inl (by rw [h0]; rfl)
      · have hpos : 0 < l.length := List.length_pos_iff.2 h0
        obtain ⟨ab, ao, spot⟩ := a
        obtain ⟨_, q0, _⟩ := hq 0 hpos
        have hspot : spot = none := by simpa [Addr.add] using World.cell?_spot q0
        subst hspot
        refine .inr ⟨ab, ao, rfl, ?_, fun i hi' => ?_⟩
        · apply Nat.lt_of_not_le
          intro hle
          have e : W.heap[ab]? = none := by simp; exact hle
          rw [Addr.add_lit] at q0
          simp [World.cell?, e] at q0
        · rw [List.length_map] at hi'
          obtain ⟨_, q0, q1, q2, q3⟩ := hq i hi'
          rw [Addr.add_lit] at q0 q1 q2 q3
          rw [Addr.add_lit] at q1 q2 q3
          rw [List.getElem_map]
          exact ⟨q0, q1, q2, q3⟩
    · intro x hx
      obtain ⟨i, hi', rfl⟩ := List.getElem_of_mem hx
      exact (hq i hi').1
theorem open_rules {n : Nat} {v : Value} {y : DataW H × List MemPlace} (h : DataW.trod enc Tryz.prog W 0 (fun _ => true) true n 22 [v] = some y) : ∃ rs : List Rl, LAt W v rs ∧ (∀ x ∈ rs, x.ok ∧ x.conds.length ≤ 9223372036854775807) ∧ rs.length ≤ 9223372036854775807 := by
  obtain ⟨d, p⟩ := y
  rcases open_slice Tryz.underlying22 h with ⟨hcs, _⟩ | ⟨a, len', cap', m, n, D, Pl, hcs, _, hl, hm, hmm, _, hi⟩
  · obtain rfl := (List.cons.inj hcs).1
    exact ⟨[], LAt.nil W, by simp, by simp⟩
  · obtain rfl := (List.cons.inj hcs).1
    simp only [if_true] at hmm
    unfold maxLen at hm
    rw [cellsRule] at hi
    have hall : ∀ i, i < len' → ∃ q : Rl × Value, (q.1.ok ∧ q.1.conds.length ≤ 9223372036854775807 ∧ CAt W q.2 q.1.conds) ∧ W.cell? (a.add (i * 4)) = some (.int .u32 (q.1.arch : Nat)) ∧ W.cell? ((a.add (i * 4)).add 1) = some (.int .u32 (q.1.nr : Nat)) ∧ W.cell? ((a.add (i * 4)).add 2) = some q.2 ∧ W.cell? ((a.add (i * 4)).add 3) = some (.int .u32 (q.1.act : Nat)) := by
      intro i hil
      obtain ⟨cs', hc, ht'⟩ := hi i (by omega)
      obtain ⟨ys, n', _, _, hlen, hyl, hff⟩ := DataW.trod_struct Tryz.underlying28 ht'
      obtain ⟨_, hcl, hat⟩ := World.cells?_some hc
      rw [cellsRule] at hlen
      match cs', hlen with
      | [c0, c1, c2, c3], _ =>
        have hy4 : ys.length = 4 := hyl
        match ys, hy4 with
        | [y0, y1, y2, y3], _ =>
          have h0 : DataW.trod enc Tryz.prog W 0 (fun _ => true) true n' 23 [c0] = some y0 := hff 0 _ rfl
          have h1 : DataW.trod enc Tryz.prog W 0 (fun _ => true) true n' 23 [c1] = some y1 := hff 1 _ rfl
          have h2 : DataW.trod enc Tryz.prog W 0 (fun _ => true) true n' 26 [c2] = some y2 := hff 2 _ rfl
          have h3 : DataW.trod enc Tryz.prog W 0 (fun _ => true) true n' 23 [c3] = some y3 := hff 3 _ rfl
          obtain ⟨k0, rfl, b0⟩ := trod_u32 h0
          obtain ⟨k1, rfl, b1⟩ := trod_u32 h1
          obtain ⟨cs, hcs, hok, hln⟩ := open_conds h2
          obtain ⟨k3, rfl, b3⟩ := trod_u32 h3
          have g0 := hat 0 (by omega)
          have g1 := hat 1 (by omega)
          have g2 := hat 2 (by omega)
          have g3 := hat 3 (by omega)
          refine ⟨(⟨k0, k1, k3, cs⟩, c2), ⟨⟨b0, b1, b3, hok⟩, hln, hcs⟩, ?_, g1, g2, g3⟩
          simpa [Addr.add] using g0
    obtain ⟨l, hll, hq⟩ := pick_list len' hall
    subst hll
    refine ⟨l.map (·.1), ⟨l, rfl, ⟨some a, cap', by rw [List.length_map], ?_⟩, ?_⟩, ?_, by rw [List.length_map]; omega⟩
    · by_cases h0 : l = []
      · exact .inl (by rw [h0]; rfl)
      · have hpos : 0 < l.length := List.length_pos_iff.2 h0
        obtain ⟨ab, ao, spot⟩ := a
        obtain ⟨_, q0, _⟩ := hq 0 hpos
        have hspot : spot = none := by simpa [Addr.add] using World.cell?_spot q0
        subst hspot
        refine .inr ⟨ab, ao, rfl, ?_, fun i hi' => ?_⟩
        · apply Nat.lt_of_not_le
          intro hle
          have e : W.heap[ab]? = none := by simp; exact hle
          rw [Addr.add_lit] at q0
          simp [World.cell?, e] at q0
        · rw [List.length_map] at hi'
          obtain ⟨_, q0, q1, q2, q3⟩ := hq i hi'
          rw [Addr.add_lit] at q0 q1 q2 q3
          rw [Addr.add_lit] at q1 q2 q3
          rw [List.getElem_map]
          exact ⟨q0, q1, q2, q3⟩
    · intro p hp
      obtain ⟨i, hi', rfl⟩ := List.getElem_of_mem hp
      exact (hq i hi').1.2.2
    · intro x hx
      obtain ⟨p, hp, rfl⟩ := List.mem_map.1 hx
      obtain ⟨i, hi', rfl⟩ := List.getElem_of_mem hp
      exact ⟨(hq i hi').1.1, (hq i hi').1.2.1⟩
theorem open_policy {base : Nat} {v : Value} {d : DataW H} {p : List MemPlace} (hval : Value.okWide Tryz.prog W .any base 25 v) (h : DataW.Trod enc Tryz.prog W 0 (fun _ => true) true 25 v d p) : ∃ (q : Po) (rv : Value), v = poV rv q.dflt ∧ LAt W rv q.rules ∧ q.ok ∧ q.rules.length ≤ 9223372036854775807 ∧ ∀ x ∈ q.rules, x.conds.length ≤ 9223372036854775807 := by
  obtain ⟨cs, rfl, hsz⟩ := okWide_struct Tryz.underlying25 hval
  rw [cellsPolicy] at hsz
  obtain ⟨c0, c1, hc⟩ : ∃ c0 c1, cs = #[c0, c1] := by
    obtain ⟨l⟩ := cs
    match l, hsz with
    | [c0, c1], _ => exact ⟨c0, c1, rfl⟩
  subst hc
  obtain ⟨fuel, hf⟩ := h
  obtain ⟨ys, n, _, _, _, hyl, hff⟩ := DataW.trod_struct Tryz.underlying25 hf
  have hy2 : ys.length = 2 := hyl
  match ys, hy2 with
  | [y0, y1], _ =>
    have h0 : DataW.trod enc Tryz.prog W 0 (fun _ => true) true n 22 [c0] = some y0 := hff 0 _ rfl
    have h1 : DataW.trod enc Tryz.prog W 0 (fun _ => true) true n 23 [c1] = some y1 := hff 1 _ rfl
    obtain ⟨rs, hL, hok, hln⟩ := open_rules h0
    obtain ⟨k1, rfl, b1⟩ := trod_u32 h1
    exact ⟨⟨rs, k1⟩, c0, rfl, hL, ⟨b1, fun x hx => (hok x hx).1⟩, hln, fun x hx => (hok x hx).2⟩
end
end Go.Proofs.YtbhondjfilohdaaGreatDoor
/-
  The document's Right of a policy (package hurdleref10).
-/
namespace Go.Proofs.YtbhondjfilohdaaGreatDoor
open Go.ChangeShapes Go.WideShapes Go.ChangeAt Go.RowKit
set_option maxRecDepth 20000

theorem LAt.rows {w : World} {v : Value} {rs : List Rl} (h : LAt w v rs) : ∃ ao cap, v = .slice ao rs.length cap ∧ ∀ i (hi : i < rs.length), ∃ b off cv, ao = some ⟨b, off, none⟩ ∧ b < w.heap.size ∧ CAt w cv (rs[i]).conds ∧
    w.cell? ⟨b, off + i * 4, none⟩ = some (.int .u32 ((rs[i]).arch : Nat)) ∧ w.cell? ⟨b, off + i * 4 + 1, none⟩ = some (.int .u32 ((rs[i]).nr : Nat)) ∧ w.cell? ⟨b, off + i * 4 + 2, none⟩ = some cv ∧ w.cell? ⟨b, off + i * 4 + 3, none⟩ = some (.int .u32 ((rs[i]).act : Nat)) := by
  obtain ⟨ao, cap, e⟩ := h.shape
  refine ⟨ao, cap, e, fun i hi => ?_⟩
  obtain ⟨b, off, cap', cv, e', hb, hc, d⟩ := h.row hi
  rw [e] at e'
  simp only [Value.slice.injEq] at e'
  exact ⟨b, off, cv, e'.1, hb, hc, d⟩
theorem CAt.rows {w : World} {v : Value} {cs : List Cd} (h : CAt w v cs) : ∃ ao cap, v = .slice ao cs.length cap ∧ ∀ i (hi : i < cs.length), ∃ b off, ao = some ⟨b, off, none⟩ ∧ b < w.heap.size ∧
    w.cell? ⟨b, off + i * 4, none⟩ = some (.int .i64 (cs[i]).arg) ∧ w.cell? ⟨b, off + i * 4 + 1, none⟩ = some (.int .i64 (cs[i]).cmp) ∧ w.cell? ⟨b, off + i * 4 + 2, none⟩ = some (.int .u64 ((cs[i]).mask : Nat)) ∧ w.cell? ⟨b, off + i * 4 + 3, none⟩ = some (.int .u64 ((cs[i]).value : Nat)) := by
  obtain ⟨ao, cap, e⟩ := h.shape
  refine ⟨ao, cap, e, fun i hi => ?_⟩
  obtain ⟨b, off, cap', e', hb, d⟩ := h.row hi
  rw [e] at e'
  simp only [Value.slice.injEq] at e'
  exact ⟨b, off, e'.1, hb, d⟩
theorem act_empty {v : Nat} : ((actS v).toList.isEmpty = true ∧ (actT v).isSome = false) ∨ ((actS v).toList.isEmpty = false ∧ (actT v).isSome = true) := by
  rcases actS_kinds v with ⟨h1, h2⟩ | ⟨h1, h2⟩
  · exact .inr ⟨h2, h1⟩
  · exact .inl ⟨by rw [h2, Go.ByteArray.toList_eq]; rfl, h1⟩
theorem take_all_succ {α : Type} {P : α → Bool} {l : List α} {n : Nat} (hn : n < l.length) (h : (l.take n).all P = true) (hr : P l[n] = true) : (l.take (n + 1)).all P = true := by
  rw [List.take_succ_eq_append_getElem hn, List.all_append, h]
  simp [hr]
theorem take_all_end {α : Type} {P : α → Bool} {l : List α} {n : Nat} (hn : l.length ≤ n) (h : (l.take n).all P = true) : l.all P = true := by rwa [List.take_of_length_le hn] at h
theorem not_all {α : Type} {P : α → Bool} {l : List α} {n : Nat} (hn : n < l.length) (hr : P l[n] = false) : l.all P = false := by
  rw [List.all_eq_false]
  exact ⟨_, List.getElem_mem hn, by rw [hr]; simp⟩
set_option maxHeartbeats 8000000 in
theorem rright10_any (rv : Value) (p : Po) (w : World) (hL : LAt w rv p.rules) (hk : p.ok) (hl : p.rules.length ≤ 9223372036854775807) (hl2 : ∀ x ∈ p.rules, x.conds.length ≤ 9223372036854775807) :
    Calls Tryz.prog 10 #[poV rv p.dflt] w fun e w' => e = .returned (.bool p.right) ∧ Below w.heap.size w w' := by
  obtain ⟨rs, d⟩ := p
  simp only at hL hl hl2
  obtain ⟨hd, hok⟩ := hk
  simp only at hd hok
  obtain ⟨ao, cap, rfl, hrows⟩ := hL.rows
  have HROW := Lib.hid hrows
  have HX0 := Lib.hid (heap_alloc_new w (poB (.slice ao rs.length cap) d))
  have HB0 := Lib.hid (ba (poB (.slice ao rs.length cap) d) (Below.refl w.heap.size w))
  obtain ⟨W, hW⟩ : ∃ W, W = w.alloc (poB (.slice ao rs.length cap) d) := ⟨_, rfl⟩
  rw [← hW] at HX0 HB0
  obtain ⟨R, hR⟩ : ∃ R, R = (⟨rs, d⟩ : Po).right := ⟨_, rfl⟩
  rw [← hR]
  have HR := Lib.hid hR
  have HL2 := Lib.hid hl2
  have HOK := Lib.hid hok
  clear hR hrows hL hl2 hok
  go_enter Tryz.func10, Tryz.ntmps10
  go_upto_region 1 with fail
  change Code.wp _ _ _ _ (w.alloc (poB (.slice ao rs.length cap) d))
  rw [← hW]
  clear hW
  obtain ⟨c0, c1⟩ := pbox HX0.out
  by_cases h64 : 64 < rs.length
  · have HE : Hid (R = false) := Lib.hid (by rw [HR.out]; unfold Po.right; rw [show decide (rs.length ≤ 64) = false by simp; omega]; rfl)
    have hb : decide ((64 : Int) < (rs.length : Int)) = true := by simp; omega
    clear h64
    go_wp2_with fail
    go_ret
    exact ⟨by rw [HE.out]; rfl, HB0.out⟩
  have hb : decide ((64 : Int) < (rs.length : Int)) = false := by simp; omega
  go_wp2_with fail
  refine (raction_any d _ hd).mono ?_
  rintro e w1 ⟨rfl, hb1⟩
  have HB1 := Lib.hid (below2 HB0.out hb1)
  have HX1 := Lib.hid (kb hb1 HX0.out)
  clear hb1 c0 c1 HX0 HB0
  rcases act_empty (v := d) with ⟨he, hs⟩ | ⟨he, hs⟩
  · have HE : Hid (R = false) := Lib.hid (by rw [HR.out]; unfold Po.right; rw [hs]; simp)
    clear hs h64
    generalize actS d = A at *
    go_wp2_with fail
    go_ret
    exact ⟨by rw [HE.out]; rfl, HB1.out⟩
  have HRR : Hid (R = rs.all Rl.right) := Lib.hid (by rw [HR.out]; unfold Po.right; rw [hs, show decide (rs.length ≤ 64) = true by simp; omega]; rfl)
  clear hs h64
  generalize actS d = A at *
  go_wp2_with fail
  go_loopw [3] (fun i wr => ∃ k : Nat, k ≤ rs.length ∧ i = .int .i64 k ∧ Below w.heap.size w wr ∧ wr.heap[w.heap.size]? = some (poB (.slice ao rs.length cap) d) ∧ (rs.take k).all Rl.right = true) (fun i _ => rs.length - (Lib.intOf i).toNat)
  case atStart => exact ⟨0, Nat.zero_le _, rfl, HB1.out, HX1.out, rfl⟩
  case round =>
    obtain ⟨k, hk, rfl, hbw, hxx, hall⟩ := hrel
    have HB := Lib.hid hbw
    have HX := Lib.hid hxx
    have HA := Lib.hid hall
    clear hbw hxx hall HB1 HX1
    obtain ⟨c0, c1⟩ := pbox HX.out
    by_cases hlt : k < rs.length
    · obtain ⟨b, off, cv, rfl, hb', hcv, d0, d1, d2, d3⟩ := HROW.out k hlt
      obtain ⟨x, hx⟩ : ∃ x, x = rs[k] := ⟨_, rfl⟩
      rw [← hx] at hcv d0 d1 d3
      have hxk : x.ok := by rw [hx]; exact HOK.out _ (List.getElem_mem hlt)
      have hxl : x.conds.length ≤ 9223372036854775807 := by rw [hx]; exact HL2.out _ (List.getElem_mem hlt)
      obtain ⟨co, ccap, rfl, hcr⟩ := hcv.rows
      have HXR := Lib.hid hx
      have HCR := Lib.hid hcr
      have hact := hxk.2.2.1
      have e0 := (HB.out.cell (p := ⟨b, _, none⟩) hb').trans d0
      have e1 := (HB.out.cell (p := ⟨b, _, none⟩) hb').trans d1
      have e2 := (HB.out.cell (p := ⟨b, _, none⟩) hb').trans d2
      have e3 := (HB.out.cell (p := ⟨b, _, none⟩) hb').trans d3
      have l0 : (k : Int) < (rs.length : Int) := by omega
      have l1 : (0 : Int) ≤ (k : Int) := by omega
      have l2 : (k : Int).toNat = k := by omega
      clear hx hcr d0 d1 d2 d3 hcv
      go_upto_region 7 with fail
      obtain ⟨W1, hW1⟩ : ∃ W1, W1 = wr.alloc (rlB x (.slice co x.conds.length ccap)) := ⟨_, rfl⟩
      have HX2 : Hid (W1.heap[wr.heap.size]? = some (rlB x (.slice co x.conds.length ccap))) := Lib.hid (by rw [hW1]; exact heap_alloc_new wr _)
      have HP2 : Hid (W1.heap[w.heap.size]? = some (poB (.slice (some ⟨b, off, none⟩) rs.length cap) d)) := Lib.hid (by rw [hW1]; exact ka _ HX.out)
      have HB2 : Hid (Below w.heap.size w W1) := Lib.hid (by rw [hW1]; exact ba _ HB.out)
      change Code.wp _ _ _ _ (wr.alloc (rlB x (.slice co x.conds.length ccap)))
      rw [← hW1]
      clear hW1 e0 e1 e2 e3 l0 l1 l2 c0 c1 HX HB
      obtain ⟨r0, r1, r2, r3⟩ := rbox HX2.out
      generalize wr.heap.size = g at *
      by_cases h4 : 4 < x.conds.length
      · have HE : Hid (R = false) := Lib.hid (by
          rw [HRR.out]
          refine not_all hlt ?_
          rw [← HXR.out]
          unfold Rl.right
          rw [show decide (x.conds.length ≤ 4) = false by simp; omega]
          rfl)
        have hb4 : decide ((4 : Int) < (x.conds.length : Int)) = true := by simp; omega
        clear h4
        go_wp2_with fail
        go_ret
        exact ⟨by rw [HE.out]; rfl, HB2.out⟩
      have hb4 : decide ((4 : Int) < (x.conds.length : Int)) = false := by simp; omega
      go_wp2_with fail
      refine (raction_any x.act _ hact).mono ?_
      rintro e w3 ⟨rfl, hb3⟩
      have HB3 := Lib.hid (below2 HB2.out hb3)
      have HX3 := Lib.hid (kb hb3 HX2.out)
      have HP3 := Lib.hid (kb hb3 HP2.out)
      clear hb3 r0 r1 r2 r3 HX2 HP2 HB2
      rcases act_empty (v := x.act) with ⟨he2, hs⟩ | ⟨he2, hs⟩
      · have HE : Hid (R = false) := Lib.hid (by
          rw [HRR.out]
          refine not_all hlt ?_
          rw [← HXR.out]
          unfold Rl.right
          rw [hs]
          simp)
        clear hs h4
        generalize actS x.act = A2 at *
        go_wp2_with fail
        go_ret
        exact ⟨by rw [HE.out]; rfl, HB3.out⟩
      have HXX : Hid (x.right = x.conds.all Cd.right) := Lib.hid (by unfold Rl.right; rw [hs, show decide (x.conds.length ≤ 4) = true by simp; omega]; rfl)
      clear hs h4
      generalize actS x.act = A2 at *
      go_wp2_with fail
      go_loopw [5] (fun i wv => ∃ j : Nat, j ≤ x.conds.length ∧ i = .int .i64 j ∧ Below w.heap.size w wv ∧ wv.heap[w.heap.size]? = some (poB (.slice (some ⟨b, off, none⟩) rs.length cap) d) ∧ wv.heap[g]? = some (rlB x (.slice co x.conds.length ccap)) ∧ (x.conds.take j).all Cd.right = true) (fun i _ => x.conds.length - (Lib.intOf i).toNat)
      case atStart => exact ⟨0, Nat.zero_le _, rfl, HB3.out, HP3.out, HX3.out, rfl⟩
      case round =>
        obtain ⟨j, hj, rfl, hbw, hxx, hgg, hcall⟩ := hrel
        have HBv := Lib.hid hbw
        have HPv := Lib.hid hxx
        have HXv := Lib.hid hgg
        have HCv := Lib.hid hcall
        clear hbw hxx hgg hcall HB3 HP3 HX3
        obtain ⟨r0, r1, r2, r3⟩ := rbox HXv.out
        by_cases hjl : j < x.conds.length
        · obtain ⟨cb, coff, rfl, hcb, d0, d1, d2, d3⟩ := HCR.out j hjl
          obtain ⟨c, hc⟩ : ∃ c, c = x.conds[j] := ⟨_, rfl⟩
          rw [← hc] at d0 d1 d2 d3
          have e0 := (HBv.out.cell (p := ⟨cb, _, none⟩) hcb).trans d0
          have e1 := (HBv.out.cell (p := ⟨cb, _, none⟩) hcb).trans d1
          have e2 := (HBv.out.cell (p := ⟨cb, _, none⟩) hcb).trans d2
          have e3 := (HBv.out.cell (p := ⟨cb, _, none⟩) hcb).trans d3
          have HCJ := Lib.hid hc
          have l0 : (j : Int) < (x.conds.length : Int) := by omega
          have l1 : (0 : Int) ≤ (j : Int) := by omega
          have l2 : (j : Int).toNat = j := by omega
          clear hc d0 d1 d2 d3
          go_wp2_with fail
          refine (rright8_any c _).mono ?_
          rintro e w5 ⟨rfl, hb5⟩
          have HB5 := Lib.hid (below2 HBv.out hb5)
          have HP5 := Lib.hid (kb hb5 HPv.out)
          have HX5 := Lib.hid (kb hb5 HXv.out)
          clear hb5 e0 e1 e2 e3 r0 r1 r2 r3
          cases hr : c.right
          · have HE : Hid (R = false) := Lib.hid (by
              rw [HRR.out]
              refine not_all hlt ?_
              rw [← HXR.out, HXX.out]
              refine not_all hjl ?_
              rw [← HCJ.out, hr])
            clear hr
            go_wp2_with fail
            go_ret
            exact ⟨by rw [HE.out]; rfl, HB5.out⟩
          · have HN : Hid ((x.conds.take (j + 1)).all Cd.right = true) := Lib.hid (take_all_succ hjl HCv.out (by rw [← HCJ.out]; exact hr))
            clear hr
            go_wp2_with fail
            go_roundw
            case rel => exact ⟨j + 1, by omega, by go_num, HB5.out, HP5.out, HX5.out, HN.out⟩
            case measure => simp [Lib.intOf]; omega
        · have HN : Hid ((rs.take (k + 1)).all Rl.right = true) := Lib.hid (take_all_succ hlt HA.out (by rw [← HXR.out, HXX.out]; exact take_all_end (by omega) HCv.out))
          go_wp2_with fail
          go_roundw
          case rel => exact ⟨k + 1, by omega, by go_num, HBv.out, HPv.out, HN.out⟩
          case measure => simp [Lib.intOf]; omega
    · have hke : k = rs.length := by omega
      have HE : Hid (R = true) := Lib.hid (by rw [HRR.out]; exact take_all_end (by omega) HA.out)
      clear hke
      go_wp2_with fail
      go_ret
      exact ⟨by rw [HE.out]; rfl, HB.out⟩
end Go.Proofs.YtbhondjfilohdaaGreatDoor
/-
  What package names of the program answers: its tables are maps from names to numbers.
-/
namespace Go.Proofs.YtbhondjfilohdaaGreatDoor
open Go.ChangeShapes Go.WideShapes Go.ChangeAt Go.RowKit
set_option maxRecDepth 20000

/-! ### A table as a map -/
/-- The elements of a map read as themselves. -/
def nmR : Value → Option (DataW Value × List MemPlace) := fun v => some (.held v, [])
theorem keyS : Go.Maps.Keyed Tryz.prog 9 := Go.Maps.string_keyed Tryz.underlying9
def nkey (s : ByteArray) : Lit := .string s.data.toList
def nval (n : Nat) : Value := .int .u32 n
theorem nkey_lit (s : ByteArray) : WideAt.IsKeyLit (nkey s) := by unfold nkey; exact True.intro
theorem nkey_inj {s t : ByteArray} (h : nkey s = nkey t) : s = t := by
  unfold nkey at h
  exact ByteArray.ext (Array.ext' (by simpa using h))
theorem keyOfS {s : ByteArray} (h : s.size ≤ maxLen) : keyOf Tryz.prog 9 (.string s) = some (nkey s) := WideMaps.keyOf_string_mk Tryz.underlying9 h
def tblPut : Tbl → DataW Value → DataW Value
  | [], D => D
  | p :: T, D => tblPut T (D.put (nkey p.1) (.held (nval p.2)))
def tblD (T : Tbl) : DataW Value := tblPut T (.map [])
theorem put_isMap {D : DataW Value} (h : Maps.IsMap D) (k : Lit) (v : DataW Value) : Maps.IsMap (D.put k v) := Maps.IsMap.put h k v
theorem has_tblPut : ∀ (T : Tbl) (D : DataW Value) (kl : Lit), Maps.IsMap D → (Maps.has (tblPut T D) kl = true ↔ (∃ p ∈ T, nkey p.1 = kl) ∨ Maps.has D kl = true)
  | [], D, kl, _ => by simp [tblPut]
  | p :: T, D, kl, hm => by
    have ih := has_tblPut T (D.put (nkey p.1) (.held (nval p.2))) kl (put_isMap hm _ _)
    show Maps.has (tblPut T _) kl = true ↔ _
    rw [ih]
    by_cases e : nkey p.1 = kl
    · subst e
      rw [Maps.has_put_same hm (nkey_lit _)]
      simp
    · rw [Maps.has_put_other (fun h => e h.symm)]
      simp [e]
theorem has_tbl (T : Tbl) (kl : Lit) : Maps.has (tblD T) kl = true ↔ ∃ p ∈ T, nkey p.1 = kl := by
  unfold tblD
  rw [has_tblPut T _ kl Maps.isMap_empty]
  constructor
  · rintro (h | h)
    · exact h
    · cases h
  · exact .inl
theorem at_miss : ∀ (T : Tbl) (D : DataW Value) (kl : Lit) (z : DataW Value), (∀ p ∈ T, nkey p.1 ≠ kl) → (tblPut T D).atKey kl z = D.atKey kl z
  | [], _, _, _, _ => rfl
  | p :: T, D, kl, z, h => by
    show (tblPut T _).atKey kl z = _
    rw [at_miss T _ kl z (fun q hq => h q (by simp [hq])), Maps.atKey_put_other (fun e => h p (by simp) e.symm)]
theorem at_hit : ∀ (T : Tbl) (D : DataW Value) (p : ByteArray × Nat) (z : DataW Value), tblGood T = true → p ∈ T → Maps.IsMap D → (tblPut T D).atKey (nkey p.1) z = .held (nval p.2)
  | q :: T, D, p, z, hT, hp, hm => by
    obtain ⟨h1, _, _, h4⟩ := tbl_cons hT
    show (tblPut T _).atKey _ z = _
    rcases List.mem_cons.1 hp with rfl | hp
    · rw [at_miss T _ _ z (fun r hr e => (h1 r hr).1 (nkey_inj e).symm), Maps.atKey_put_same hm (nkey_lit _)]
    · exact at_hit T _ p z h4 hp (put_isMap hm _ _)
theorem at_tbl {T : Tbl} (hT : tblGood T = true) {p : ByteArray × Nat} (hp : p ∈ T) (z : DataW Value) : (tblD T).atKey (nkey p.1) z = .held (nval p.2) := at_hit T _ p z hT hp Maps.isMap_empty
/-- A table, as it lies in a world. -/
def MAt (w : World) (v : Value) (T : Tbl) : Prop := (T = [] ∧ v = .map none) ∨ ∃ b, v = .map (some b) ∧ w.ownsMap Tryz.prog 9 nmR b T.length (tblD T)
theorem nmap_below {w w' : World} {b n : Nat} {D : DataW Value} (h : w.ownsMap Tryz.prog 9 nmR b n D) (hb : Below w.heap.size w w') : w'.ownsMap Tryz.prog 9 nmR b n D := by
  obtain ⟨es, clock, hh, r⟩ := h
  exact ⟨es, clock, (hb.block b (lt_of_block hh)).trans hh, r⟩
theorem MAt.below {w w' : World} {v : Value} {T : Tbl} (h : MAt w v T) (hb : Below w.heap.size w w') : MAt w' v T := h.imp id fun ⟨b, e, h⟩ => ⟨b, e, nmap_below h hb⟩
theorem zeroU (w : World) : (zeroValue 23).run Tryz.prog w = .ok (.int .u32 0) w := by kernel_rfl
/-- What is looked up. -/
theorem look_hit {w : World} {v : Value} {T : Tbl} (hT : tblGood T = true) (h : MAt w v T) {p : ByteArray × Nat} (hp : p ∈ T) (hs : p.1.size ≤ maxLen) :
    (Instr.lookup 88 v (.string p.1) true).run Tryz.prog w = .ok (.tuple #[.int .u32 (p.2 : Nat), .bool true]) w := by
  rcases h with ⟨rfl, _⟩ | ⟨b, rfl, h⟩
  · cases hp
  · obtain ⟨v, ps, hr, hv⟩ := h.look_ok keyS Tryz.underlying88 (zeroU w) (zd := .held (.int .u32 0)) (zp := []) rfl (keyOfS hs)
    rw [at_tbl hT hp] at hv
    rw [(has_tbl T _).2 ⟨p, hp, rfl⟩] at hr
    unfold nmR at hv
    simp only [Option.some.injEq, Prod.mk.injEq, DataW.held.injEq] at hv
    rw [hr, hv.1]
    rfl
theorem look_miss {w : World} {v : Value} {T : Tbl} (h : MAt w v T) {s : ByteArray} (hn : ∀ p ∈ T, p.1 ≠ s) (hs : s.size ≤ maxLen) :
    (Instr.lookup 88 v (.string s) true).run Tryz.prog w = .ok (.tuple #[.int .u32 0, .bool false]) w := by
  rcases h with ⟨rfl, rfl⟩ | ⟨b, rfl, h⟩
  · exact Maps.look_nil true keyS Tryz.underlying88 (zeroU w) (keyOfS hs)
  · obtain ⟨v, ps, hr, hv⟩ := h.look_ok keyS Tryz.underlying88 (zeroU w) (zd := .held (.int .u32 0)) (zp := []) rfl (keyOfS hs)
    have hno : ∀ p ∈ T, nkey p.1 ≠ nkey s := fun p hp e => hn p hp (nkey_inj e)
    have hh : Maps.has (tblD T) (nkey s) = false := by
      cases e : Maps.has (tblD T) (nkey s)
      · rfl
      · obtain ⟨p, hp, e2⟩ := (has_tbl T _).1 e
        exact absurd e2 (hno p hp)
    unfold tblD at hv
    rw [at_miss T _ _ _ hno] at hv
    rw [hh] at hr
    unfold nmR at hv
    have hv' : v = .int .u32 0 := by
      have : (some (DataW.held v, ([] : List MemPlace))) = some (DataW.held (.int .u32 0), ps) := hv
      simp only [Option.some.injEq, Prod.mk.injEq, DataW.held.injEq] at this
      exact this.1
    rw [hr, hv']
/-- The map while it is filled. -/
def NK (w0 : World) (b n : Nat) (D : DataW Value) (w : World) : Prop := w.ownsMap Tryz.prog 9 nmR b n D ∧ Below w0.heap.size w0 w ∧ w0.heap.size ≤ b
theorem nk_new (w : World) : NK w w.heap.size 0 (.map []) (w.alloc (.map #[] 0)) :=
  ⟨World.ownsMap_made w Tryz.prog 9 nmR, ba _ (Below.refl _ _), Nat.le_refl _⟩
theorem wpList_nins (w : World) {ops : Array Oper} {rest : List Oper} {o : Oper} {a : Act} {Q : Exit → Act → World → Prop}
    (hg : o.guard = none) (m x v : Operand) (hop : o.op = Op.insert 88 m x v) {w0 : World} {b n : Nat} {D : DataW Value}
    (hm : a.eval m = .map (some b)) (h : NK w0 b n D w) (hn : n < 100) (k : ByteArray) (hk : k.size ≤ 100) (hx : a.eval x = .string k) (y : Int) (hv : a.eval v = .int .u32 y) (z : Nat) (hz : y = z)
    (hK : ∀ w', NK w0 b (n + 1) (D.put (nkey k) (.held (nval z))) w' → wpList Tryz.prog ops Q rest (a.put o.dst undef) w') : wpList Tryz.prog ops Q (o :: rest) a w := by
  subst hz
  obtain ⟨h1, h2, h3⟩ := h
  refine wpList_insert_own w hg m x v _ hop _ _ keyS Tryz.underlying88 nmR b n D hm h1 (by unfold maxLen; omega) _ _ _ hx hv (keyOfS (by unfold maxLen; omega)) _ [] rfl ?_
  intro w' h1' hg'
  exact hK w' ⟨h1', h2.grown hg' h2.size (fun k hk => by cases hk; exact h3), h3⟩
/-- What a table's making ends with. -/
def MkEnd (T : Tbl) (w : World) (e : Ending) (w' : World) : Prop := ∃ v, e = .returned v ∧ MAt w' v T ∧ Below w.heap.size w w'
theorem mkEnd {T : Tbl} {w w' : World} {n : Nat} (h : NK w w.heap.size n (tblD T) w') (hn : n = T.length) : MkEnd T w (.returned (.map (some w.heap.size))) w' := by
  subst hn
  exact ⟨_, rfl, .inr ⟨_, rfl, h.1⟩, h.2.1⟩
theorem mkNil (w : World) : MkEnd [] w (.returned (.map none)) w := ⟨_, rfl, .inl ⟨rfl, rfl⟩, Below.refl _ _⟩

/-! ### The three tables -/
theorem machines_any (w : World) : Calls Tryz.prog 63 #[] w (MkEnd machT w) := by
  have hend : ∀ w', NK w w.heap.size 4 (tblD machT) w' → MkEnd machT w (.returned (.map (some w.heap.size))) w' := fun w' h => mkEnd h rfl
  have hmm := @run_makeMap Tryz.prog
  have M0 := nk_new w
  go_enter Tryz.func63, Tryz.ntmps63
  go_wp2_with (first | (refine wpList_nins _ rfl _ _ _ rfl rfl (by assumption) (by omega) _ (by decide) rfl _ rfl _ rfl ?_; intro w' h') | go_in)
  go_ret
  exact hend _ (by assumption)
def actTab : Tbl := [(bkillA, 0), (btrap, 196608), (blog, 2147221504), (ballow, 2147418112)]
theorem actTab_good : tblGood actTab = true := by decide
theorem actions_any (w : World) : Calls Tryz.prog 47 #[] w (MkEnd actTab w) := by
  have hend : ∀ w', NK w w.heap.size 4 (tblD actTab) w' → MkEnd actTab w (.returned (.map (some w.heap.size))) w' := fun w' h => mkEnd h rfl
  have hmm := @run_makeMap Tryz.prog
  have M0 := nk_new w
  go_enter Tryz.func47, Tryz.ntmps47
  go_wp2_with (first | (refine wpList_nins _ rfl _ _ _ rfl rfl (by assumption) (by omega) _ (by decide) rfl _ rfl _ rfl ?_; intro w' h') | go_in)
  go_ret
  exact hend _ (by assumption)
theorem eqN {m k : Nat} (h : m = k) : ((m : Int) == (k : Int)) = true := by simp [h]
theorem neN {m k : Nat} (h : m ≠ k) : ((m : Int) == (k : Int)) = false := by simp; omega
theorem calls_any (m : Nat) (w : World) : Calls Tryz.prog 64 #[.int .u32 m] w (MkEnd (callT m) w) := by
  have hmm := @run_makeMap Tryz.prog
  have M0 := nk_new w
  by_cases h1 : m = 3221225534
  · have d1 : ((m : Int) == 3221225534) = true := eqN h1
    have hend : ∀ w', NK w w.heap.size 8 (tblD callX64) w' → MkEnd (callT m) w (.returned (.map (some w.heap.size))) w' := fun w' h => by subst h1; exact mkEnd h rfl
    clear h1
    go_enter Tryz.func64, Tryz.ntmps64
    go_wp2_with (first | (refine wpList_nins _ rfl _ _ _ rfl rfl (by assumption) (by omega) _ (by decide) rfl _ rfl _ rfl ?_; intro w' h') | go_in)
    go_ret
    exact hend _ (by assumption)
  by_cases h2 : m = 1073741827
  · have d1 : ((m : Int) == 3221225534) = false := neN h1
    have d2 : ((m : Int) == 1073741827) = true := eqN h2
    have hend : ∀ w', NK w w.heap.size 8 (tblD callX86) w' → MkEnd (callT m) w (.returned (.map (some w.heap.size))) w' := fun w' h => by subst h2; exact mkEnd h rfl
    clear h1 h2
    go_enter Tryz.func64, Tryz.ntmps64
    go_wp2_with (first | (refine wpList_nins _ rfl _ _ _ rfl rfl (by assumption) (by omega) _ (by decide) rfl _ rfl _ rfl ?_; intro w' h') | go_in)
    go_ret
    exact hend _ (by assumption)
  by_cases h3 : m = 3221225655
  · have d1 : ((m : Int) == 3221225534) = false := neN h1
    have d2 : ((m : Int) == 1073741827) = false := neN h2
    have d3 : ((m : Int) == 3221225655) = true := eqN h3
    have hend : ∀ w', NK w w.heap.size 6 (tblD callA64) w' → MkEnd (callT m) w (.returned (.map (some w.heap.size))) w' := fun w' h => by subst h3; exact mkEnd h rfl
    clear h1 h2 h3
    go_enter Tryz.func64, Tryz.ntmps64
    go_wp2_with (first | (refine wpList_nins _ rfl _ _ _ rfl rfl (by assumption) (by omega) _ (by decide) rfl _ rfl _ rfl ?_; intro w' h') | go_in)
    go_ret
    exact hend _ (by assumption)
  by_cases h4 : m = 1073741864
  · have d1 : ((m : Int) == 3221225534) = false := neN h1
    have d2 : ((m : Int) == 1073741827) = false := neN h2
    have d3 : ((m : Int) == 3221225655) = false := neN h3
    have d4 : ((m : Int) == 1073741864) = true := eqN h4
    have hend : ∀ w', NK w w.heap.size 7 (tblD callArm) w' → MkEnd (callT m) w (.returned (.map (some w.heap.size))) w' := fun w' h => by subst h4; exact mkEnd h rfl
    clear h1 h2 h3 h4
    go_enter Tryz.func64, Tryz.ntmps64
    go_wp2_with (first | (refine wpList_nins _ rfl _ _ _ rfl rfl (by assumption) (by omega) _ (by decide) rfl _ rfl _ rfl ?_; intro w' h') | go_in)
    go_ret
    exact hend _ (by assumption)
  · have d1 : ((m : Int) == 3221225534) = false := neN h1
    have d2 : ((m : Int) == 1073741827) = false := neN h2
    have d3 : ((m : Int) == 3221225655) = false := neN h3
    have d4 : ((m : Int) == 1073741864) = false := neN h4
    have hend : MkEnd (callT m) w (.returned (.map none)) w := by
      have e : callT m = [] := by unfold callT; rw [if_neg h1, if_neg h2, if_neg h3, if_neg h4]
      rw [e]
      exact mkNil w
    clear h1 h2 h3 h4
    go_enter Tryz.func64, Tryz.ntmps64
    go_wp2_with fail
    go_ret
    exact hend
/-! ### A number's name -/
/-- What a look for a number's name ends with. -/
def NameEnd (T : Tbl) (n : Nat) (e : Ending) : Prop :=
  (∃ p ∈ T, p.2 = n ∧ e = .returned (.tuple #[.string p.1, .bool true])) ∨ ((∀ p ∈ T, p.2 ≠ n) ∧ e = .returned (.tuple #[.string ⟨#[]⟩, .bool false]))
theorem wpList_ntbl {T : Tbl} (hT : tblGood T = true) (w : World) {ops : Array Oper} {rest : List Oper} {o : Oper} {a : Act} {Q : Exit → Act → World → Prop}
    (hg : o.guard = none) (it : Operand) (hop : o.op = Op.next it false) (b r n : Nat) (left : Lit → Bool) (cnt : Nat) (hit : a.eval it = .pointer (some ⟨r, 0, none⟩))
    (h : w.ranges Tryz.prog 9 nmR b r n (tblD T) left cnt)
    (hDone : (∀ kl, left kl = false) → wpList Tryz.prog ops Q rest (a.put o.dst (.tuple #[.bool false])) w)
    (hMore : ∀ (p : ByteArray × Nat) (w' : World) (cnt' : Nat), p ∈ T → w'.ranges Tryz.prog 9 nmR b r n (tblD T) (fun z => left z && !z.sameKey (nkey p.1)) cnt' → cnt' < cnt → w.grownBy w' (some r) →
      (Instr.entry (.pointer (some ⟨r, 0, none⟩))).run Tryz.prog w' = .ok (.tuple #[.string p.1, .int .u32 (p.2 : Nat)]) w' → wpList Tryz.prog ops Q rest (a.put o.dst (.tuple #[.bool true, .string p.1, .int .u32 (p.2 : Nat)])) w') :
    wpList Tryz.prog ops Q (o :: rest) a w := by
  refine wpList_next_ranges w hg it hop 9 keyS nmR (fun s : ByteArray => Value.string s) (fun v : Value => v) (fun key kl hk => ?_) (fun v y _ => ⟨v, rfl⟩) b r n (tblD T) left cnt hit h (fun _ hl => hDone hl) ?_
  · obtain ⟨s, rfl, _, _⟩ := WideMaps.string_of_keyOf Tryz.underlying9 hk
    exact ⟨s, rfl⟩
  · intro x c kl y w' cnt' hk hl hR hat hrg hlt hgr _ hen
    obtain ⟨s, e, rfl, _⟩ := WideMaps.string_of_keyOf Tryz.underlying9 hk
    obtain rfl : x = s := by injection e
    have hh : Maps.has (tblD T) (nkey x) = true := Maps.has_true_of_atKey hat
    obtain ⟨p, hp, ep⟩ := (has_tbl T _).1 hh
    have ex := nkey_inj ep
    subst ex
    have hv := hat (.held .nilFunc)
    have h2 := at_tbl hT hp (.held .nilFunc)
    unfold nkey at h2
    rw [h2] at hv
    unfold nmR at hR
    simp only [Option.some.injEq] at hR
    subst hR
    simp only [DataW.held.injEq] at hv
    subst hv
    exact hMore p w' cnt' hp hrg hlt hgr hen
theorem nameOf_nil (n : Nat) (w : World) : Calls Tryz.prog 46 #[.map none, .int .u32 n] w fun e w' => e = .returned (.tuple #[.string ⟨#[]⟩, .bool false]) ∧ Below w.heap.size w w' := by
  have hrg := run_range_nilMap (P := Tryz.prog) w 88 9 23 Tryz.underlying88
  have hnx : ∀ ty, (Instr.next (.pointer (some ⟨w.heap.size, 0, none⟩)) false ty).run Tryz.prog (w.alloc (.mapIter none 0 #[] 0)) = _ := fun ty => run_next_nilMap w ty 0 0 #[]
  go_enter Tryz.func46, Tryz.ntmps46
  go_wp2
  refine wp_loop_rounds 1 ?_
  rw [rounds_succ]
  go_wp2
  go_ret2
  exact ⟨rfl, ba _ (Below.refl _ _)⟩
/-- What has not been found so far. -/
def Past (T : Tbl) (left : Lit → Bool) (n : Nat) : Prop := ∀ p ∈ T, left (nkey p.1) = false → p.2 ≠ n
theorem past_start (T : Tbl) (n : Nat) : Past T (Maps.has (tblD T)) n := fun p hp h => by
  rw [(has_tbl T _).2 ⟨p, hp, rfl⟩] at h
  cases h
theorem past_step {T : Tbl} (hT : tblGood T = true) {left : Lit → Bool} {n : Nat} (h : Past T left n) {p : ByteArray × Nat} (hp : p ∈ T) (hn : p.2 ≠ n) : Past T (fun z => left z && !z.sameKey (nkey p.1)) n := fun q hq e => by
  cases hl : left (nkey q.1)
  · exact h q hq hl
  · have e2 : (left (nkey q.1) && !(nkey q.1).sameKey (nkey p.1)) = false := e
    rw [hl] at e2
    have e3 : (nkey q.1).sameKey (nkey p.1) = true := by simpa using e2
    rw [tbl_names hT hq hp (nkey_inj (WideAt.sameKey_eq e3))]
    exact hn
theorem nameOf_some {T : Tbl} (hT : tblGood T = true) (b n : Nat) (w : World) (hown : w.ownsMap Tryz.prog 9 nmR b T.length (tblD T)) :
    Calls Tryz.prog 46 #[.map (some b), .int .u32 n] w fun e w' => NameEnd T n e ∧ Below w.heap.size w w' := by
  have HTG := Lib.hid hT
  go_enter Tryz.func46, Tryz.ntmps46
  go_wp2_with (first
    | (at_range; refine wpList_range_own _ rfl _ 88 rfl 9 23 keyS Tryz.underlying88 _ b _ _ rfl hown ?_; intro w0 hrg0 hg0 hs0)
    | go_in)
  go_frame
  have hb0 : Below w.heap.size w w0 := (Below.refl _ _).grown hg0 (Nat.le_refl _) (fun k hk => by cases hk)
  clear hg0 hs0 hT hown
  go_loopw [6, 7] (fun _ _ wr => ∃ (left : Lit → Bool) (cnt : Nat), wr.ranges Tryz.prog 9 nmR b w.heap.size T.length (tblD T) left cnt ∧ Below w.heap.size w wr ∧ Past T left n)
    (fun _ _ wr => wr.rangeLeft b w.heap.size)
  case atStart => exact ⟨_, _, hrg0, hb0, past_start T n⟩
  case round =>
    obtain ⟨left, cnt, hrg, hbw, hpa⟩ := hrel
    have HB := Lib.hid hbw
    have HP := Lib.hid hpa
    clear hrg0 hb0 hbw hpa
    go_wp2_with (first
      | (at_next; refine wpList_ntbl HTG.out _ rfl _ rfl b w.heap.size _ _ _ rfl hrg ?_ ?_)
      | go_in)
    · intro hl
      have HE : Hid (NameEnd T n (.returned (.tuple #[.string ⟨#[]⟩, .bool false]))) := Lib.hid (.inr ⟨fun p hp => HP.out p hp (hl _), rfl⟩)
      clear hl
      go_wp2
      go_ret2
      exact ⟨HE.out, HB.out⟩
    · intro pk pn w1 cnt1 hp hrg1 hlt hgr hen
      have HB1 : Hid (Below w.heap.size w w1) := Lib.hid (HB.out.grown hgr HB.out.size (fun k hk => by cases hk; exact Nat.le_refl _))
      have HM := Lib.hid (show w1.rangeLeft b w.heap.size < wr.rangeLeft b w.heap.size by rw [hrg1.left_eq, hrg.left_eq]; exact hlt)
      have HRG := Lib.hid hrg1
      clear hgr hlt hrg hrg1
      by_cases hq : pn = n
      · have hqd : ((pn : Int) == (n : Int)) = true := eqN hq
        have HE : Hid (NameEnd T n (.returned (.tuple #[.string pk, .bool true]))) := Lib.hid (.inl ⟨(pk, pn), hp, hq, rfl⟩)
        clear hq hp
        go_wp2
        go_ret2
        exact ⟨HE.out, HB1.out⟩
      · have hqd : ((pn : Int) == (n : Int)) = false := neN hq
        have HP1 := Lib.hid (past_step HTG.out HP.out hp hq)
        clear hq hp
        go_wp2
        go_roundw
        case rel => exact ⟨_, _, HRG.out, HB1.out, HP1.out⟩
        case measure => exact HM.out
theorem nameOf_any {T : Tbl} (hT : tblGood T = true) (v : Value) (n : Nat) (w : World) (hv : MAt w v T) :
    Calls Tryz.prog 46 #[v, .int .u32 n] w fun e w' => NameEnd T n e ∧ Below w.heap.size w w' := by
  rcases hv with ⟨rfl, rfl⟩ | ⟨b, rfl, h⟩
  · refine (nameOf_nil n w).mono ?_
    rintro e w' ⟨rfl, hb⟩
    exact ⟨.inr ⟨by simp, rfl⟩, hb⟩
  · exact nameOf_some hT b n w h
/-- What the reading of a name ends with. -/
def PNEnd (T : Tbl) (s : ByteArray) (e : Ending) : Prop := ∃ o : Option Nat, readN T s o ∧ e = .returned (.tuple #[.int .u32 (o.getD 0 : Nat), .int .i64 (if o.isSome then 0 else 2)])
theorem pnEnd_some {T : Tbl} {s : ByteArray} {n : Nat} (h : readN T s (some n)) : PNEnd T s (.returned (.tuple #[.int .u32 (n : Nat), .int .i64 0])) := ⟨some n, h, rfl⟩
theorem pnEnd_none {T : Tbl} {s : ByteArray} (h : readN T s none) : PNEnd T s (.returned (.tuple #[.int .u32 0, .int .i64 2])) := ⟨none, h, rfl⟩
theorem pn_letters {T : Tbl} {s : ByteArray} {e : Ending} (h : PNEnd T s e) : ∃ x c : Int, e = .returned (.tuple #[.int .u32 x, .int .i64 c]) ∧ Hid (PNEnd T s (.returned (.tuple #[.int .u32 x, .int .i64 c]))) := by
  obtain ⟨o, ho, rfl⟩ := h
  exact ⟨_, _, rfl, Lib.hid ⟨o, ho, rfl⟩⟩
set_option maxHeartbeats 2000000 in
theorem nread_any {T : Tbl} (hT : tblGood T = true) (v : Value) (s : ByteArray) (w : World) (hs : s.size ≤ 4611686018427387904) (hv : MAt w v T) :
    Calls Tryz.prog 62 #[v, .string s] w fun e w' => PNEnd T s e ∧ Below w.heap.size w w' := by
  have HV := Lib.hid hv
  have HT := Lib.hid hT
  by_cases hx : ∃ p ∈ T, p.1 = s
  · obtain ⟨p, hp, rfl⟩ := hx
    have hl := look_hit hT hv hp (by unfold maxLen; omega)
    have HR : Hid (readN T p.1 (some p.2)) := Lib.hid ⟨tbl_small hT hp, (textN_of hT hp).symm⟩
    clear hv hT hp
    go_enter Tryz.func62, Tryz.ntmps62
    go_wp2_with fail
    go_ret2
    exact ⟨pnEnd_some HR.out, Below.refl _ _⟩
  · have hno : ∀ p ∈ T, p.1 ≠ s := fun p hp e => hx ⟨p, hp, e⟩
    have hl := look_miss hv hno (by unfold maxLen; omega)
    have HNO := Lib.hid hno
    clear hv hT hx hno
    go_enter Tryz.func62, Tryz.ntmps62
    go_wp2_with fail
    refine (parse_any s _ hs).mono ?_
    rintro e w1 ⟨hE, hb1⟩
    have HB1 := Lib.hid hb1
    have HV1 := Lib.hid (HV.out.below hb1)
    clear hb1 hl
    rcases hE with ⟨n, hn, he, rfl⟩ | ⟨hn, rfl⟩
    · have HS := Lib.hid he
      clear he
      by_cases hm : n < 4294967296
      · have hmd : decide (4294967295 < (n : Int)) = false := by simp; omega
        have hm2 : ¬ 4294967295 < (n : Int) := by omega
        have hwr : IntKind.u32.wrap (n : Int) = (n : Int) := by unfold IntKind.wrap; simp [IntKind.bits, IntKind.signed]; omega
        go_wp2_with fail
        refine (nameOf_any HT.out v n _ HV1.out).mono ?_
        rintro e w2 ⟨hE, hb2⟩
        have HB2 := Lib.hid (below2 HB1.out hb2)
        clear hb2
        rcases hE with ⟨p, hp, hq, rfl⟩ | ⟨hnn, rfl⟩
        · have HR : Hid (readN T s none) := Lib.hid (readN_no HNO.out (fun k _ e e2 => by
            have : n = k := Wd.txt_inj (HS.out.symm.trans e)
            subst this
            rw [← hq, textN_of HT.out hp] at e2
            exact HNO.out p hp e2))
          clear hp hq
          go_wp2_with fail
          go_ret2
          exact ⟨pnEnd_none HR.out, HB2.out⟩
        · have HR : Hid (readN T s (some n)) := Lib.hid ⟨hm, by
            rcases textN_is T n with ⟨p, hp, hq, _⟩ | ⟨_, h⟩
            · exact absurd hq (hnn p hp)
            · rw [h]; exact HS.out⟩
          clear hnn
          go_wp2_with fail
          go_ret2
          exact ⟨pnEnd_some HR.out, HB2.out⟩
      · have hm2 : 4294967295 < (n : Int) := by omega
        have HR : Hid (readN T s none) := Lib.hid (readN_no HNO.out (fun k hk e _ => by
          have : n = k := Wd.txt_inj (HS.out.symm.trans e)
          omega))
        go_wp2_with fail
        go_ret2
        exact ⟨pnEnd_none HR.out, HB1.out⟩
    · have HR : Hid (readN T s none) := Lib.hid (readN_no HNO.out (fun k hk e _ => hn k (by omega) e))
      clear hn
      go_wp2_with fail
      go_ret2
      exact ⟨pnEnd_none HR.out, HB1.out⟩
/-! ### Machines and calls -/
theorem nreadmachine_any (s : ByteArray) (w : World) (hs : s.size ≤ 4611686018427387904) (_ht : Tab w) :
    Calls Tryz.prog 43 #[.string s] w fun e w' => PNEnd machT s e ∧ Below w.heap.size w w' := by
  go_enter Tryz.func43, Tryz.ntmps43
  go_wp2_with fail
  refine (machines_any _).mono ?_
  rintro e w1 ⟨v, rfl, hm, hb1⟩
  have HM := Lib.hid hm
  have HB1 := Lib.hid hb1
  clear hm hb1
  go_wp2_with fail
  refine (nread_any machT_good v s _ hs HM.out).mono ?_
  rintro e w2 ⟨hE, hb2⟩
  obtain ⟨x, c, rfl, HO⟩ := pn_letters hE
  have HB2 := Lib.hid (below2 HB1.out hb2)
  clear hb2 hE
  go_wp2_with fail
  go_ret2
  exact ⟨HO.out, HB2.out⟩
theorem nreadcall_any (m : Nat) (s : ByteArray) (w : World) (_hm : m < 4294967296) (hs : s.size ≤ 4611686018427387904) (_ht : Tab w) :
    Calls Tryz.prog 44 #[.int .u32 m, .string s] w fun e w' => PNEnd (callT m) s e ∧ Below w.heap.size w w' := by
  go_enter Tryz.func44, Tryz.ntmps44
  go_wp2_with fail
  refine (calls_any m _).mono ?_
  rintro e w1 ⟨v, rfl, hm, hb1⟩
  have HM := Lib.hid hm
  have HB1 := Lib.hid hb1
  clear hm hb1
  go_wp2_with fail
  refine (nread_any (callT_good m) v s _ hs HM.out).mono ?_
  rintro e w2 ⟨hE, hb2⟩
  obtain ⟨x, c, rfl, HO⟩ := pn_letters hE
  have HB2 := Lib.hid (below2 HB1.out hb2)
  clear hb2 hE
  go_wp2_with fail
  go_ret2
  exact ⟨HO.out, HB2.out⟩
/-! ### Actions -/
theorem act_named {v : Nat} {p : ByteArray × Nat} (hp : p ∈ actTab) (hv : p.2 = v) : actT v = some p.1 := by
  subst hv
  unfold actTab at hp
  simp only [List.mem_cons, List.not_mem_nil, or_false] at hp
  unfold actT
  rcases hp with rfl | rfl | rfl | rfl
  · show (if 327680 ≤ 0 ∧ 0 ≤ 331775 then _ else _) = _
    rw [if_neg (by omega), if_pos rfl]
  · show (if 327680 ≤ 196608 ∧ 196608 ≤ 331775 then _ else _) = _
    rw [if_neg (by omega), if_neg (by decide), if_pos rfl]
  · show (if 327680 ≤ 2147221504 ∧ 2147221504 ≤ 331775 then _ else _) = _
    rw [if_neg (by omega), if_neg (by decide), if_neg (by decide), if_pos rfl]
  · show (if 327680 ≤ 2147418112 ∧ 2147418112 ≤ 331775 then _ else _) = _
    rw [if_neg (by omega), if_neg (by decide), if_neg (by decide), if_neg (by decide), if_pos rfl]
theorem act_unnamed {v : Nat} (h : ∀ p ∈ actTab, p.2 ≠ v) : actT v = if 327680 ≤ v ∧ v ≤ 331775 then some (berror ++ Wd.txt (v - 327680)) else none := by
  have h0 : v ≠ 0 := fun e => h (bkillA, 0) (by unfold actTab; simp) e.symm
  have h1 : v ≠ 196608 := fun e => h (btrap, 196608) (by unfold actTab; simp) e.symm
  have h2 : v ≠ 2147221504 := fun e => h (blog, 2147221504) (by unfold actTab; simp) e.symm
  have h3 : v ≠ 2147418112 := fun e => h (ballow, 2147418112) (by unfold actTab; simp) e.symm
  unfold actT
  rw [if_neg h0, if_neg h1, if_neg h2, if_neg h3]
/-- What an action's text ends with. -/
def ActEnd (v : Nat) (e : Ending) : Prop := e = .returned (.tuple #[.string (actS v), .int .i64 (if (actT v).isSome then 0 else 1)])
theorem actEnd_some {v : Nat} {s : ByteArray} (h : actT v = some s) : ActEnd v (.returned (.tuple #[.string s, .int .i64 0])) := by
  unfold ActEnd actS
  rw [h]
  rfl
theorem actEnd_none {v : Nat} (h : actT v = none) : ActEnd v (.returned (.tuple #[.string ⟨#[]⟩, .int .i64 1])) := by
  unfold ActEnd actS
  rw [h]
  rfl
set_option maxRecDepth 100000 in
set_option maxHeartbeats 2000000 in
theorem naction_gen (v : Nat) (w : World) (hv : v < 4294967296) (ht : Tab w) (E : Ending → Prop) (hE1 : ∀ s, actT v = some s → E (.returned (.tuple #[.string s, .int .i64 0]))) (hE2 : actT v = none → E (.returned (.tuple #[.string ⟨#[]⟩, .int .i64 1]))) :
    Calls Tryz.prog 34 #[.int .u32 v] w fun e w' => E e ∧ Below w.heap.size w w' := by
  have HE1 := Lib.hid hE1
  have HE2 := Lib.hid hE2
  clear hE1 hE2
  have HTab := Lib.hid ht
  clear ht
  go_enter Tryz.func34, Tryz.ntmps34
  go_wp2_with fail
  refine (actions_any _).mono ?_
  rintro e w1 ⟨t, rfl, hm, hb1⟩
  have HM := Lib.hid hm
  have HB1 := Lib.hid hb1
  clear hm hb1
  go_wp2_with fail
  refine (nameOf_any actTab_good t v _ HM.out).mono ?_
  rintro e w2 ⟨hE, hb2⟩
  have HB2 := Lib.hid (below2 HB1.out hb2)
  clear hb2
  rcases hE with ⟨p, hp, hq, rfl⟩ | ⟨hno, rfl⟩
  · have HR := Lib.hid (HE1.out _ (act_named hp hq))
    clear hp hq
    go_wp2_with fail
    go_ret2
    exact ⟨HR.out, HB2.out⟩
  · have HA := Lib.hid (act_unnamed hno)
    clear hno
    by_cases h1 : v < 327680
    · have d1 : decide ((v : Int) < 327680) = true := by simp; omega
      have HR := Lib.hid (HE2.out (by rw [HA.out, if_neg (by omega)]))
      clear h1 HE1 HE2 HA
      generalize (v : Int) = A at d1 ⊢
      go_wp2_with fail
      go_ret2
      exact ⟨HR.out, HB2.out⟩
    by_cases h2 : 331775 < v
    · have d1 : decide ((v : Int) < 327680) = false := by simp; omega
      have d2 : decide ((331775 : Int) < (v : Int)) = true := by simp; omega
      have HR := Lib.hid (HE2.out (by rw [HA.out, if_neg (by omega)]))
      clear h1 h2 HE1 HE2 HA
      generalize (v : Int) = A at d1 d2 ⊢
      go_wp2_with fail
      go_ret2
      exact ⟨HR.out, HB2.out⟩
    · obtain ⟨m, hm⟩ : ∃ m, v = 327680 + m := ⟨v - 327680, by omega⟩
      have HR := Lib.hid (HE1.out _ (by rw [HA.out, if_pos (by omega)]))
      rw [show v - 327680 = m by omega, show berror = ⟨#[101, 114, 114, 111, 114, 58]⟩ from rfl] at HR
      have HT : Hid (Calls Tryz.prog 48 #[.int .u64 (m : Nat)] w2 fun e w' => e = .returned (.string (Wd.txt m)) ∧ Below w2.heap.size w2 w') := Lib.hid (text_any m w2 (by omega) (HTab.out.below HB2.out))
      have hz := txt_lt18 (n := m) (by omega)
      have hzE : (⟨#[101, 114, 114, 111, 114, 58]⟩ : ByteArray).size = 6 := rfl
      have l1 : ¬ (v : Int) < 327680 := by omega
      have l2 : ¬ (331775 : Int) < (v : Int) := by omega
      have l3 : IntKind.u32.wrap ((v : Int) - 327680) = (m : Int) := by unfold IntKind.wrap; simp [IntKind.bits, IntKind.signed]; omega
      have hml : m < 4096 := by omega
      clear h1 h2 HE1 HE2 HA hm
      generalize (v : Int) = A at l1 l2 l3 ⊢
      generalize Wd.txt m = TX at HT HR hz
      go_wp2_with fail
      refine HT.out.mono ?_
      rintro e w3 ⟨rfl, hb3⟩
      have HB3 := Lib.hid (below2 HB2.out hb3)
      clear hb3
      go_wp2_with fail
      go_ret2
      exact ⟨HR.out, HB3.out⟩
theorem naction_end (v : Nat) (w : World) (hv : v < 4294967296) (ht : Tab w) :
    Calls Tryz.prog 34 #[.int .u32 v] w fun e w' => ActEnd v e ∧ Below w.heap.size w w' := naction_gen v w hv ht (ActEnd v) (fun _ h => actEnd_some h) actEnd_none
theorem naction_any (v : Nat) (w : World) (hv : v < 4294967296) (ht : Tab w) :
    Calls Tryz.prog 34 #[.int .u32 v] w fun e w' => e = .returned (.tuple #[.string (actS v), .int .i64 (if (actT v).isSome then 0 else 1)]) ∧ Below w.heap.size w w' := naction_end v w hv ht
/-! ### What is read of an action's text -/
theorem hasPrefix_yes (p r : ByteArray) (w : World) (_hz : (p ++ r).size ≤ 4611686018427387904) :
    Calls Tryz.prog 81 #[.string (p ++ r), .string p] w fun e w' => e = .returned (.bool true) ∧ w' = w := by
  have hs : (p ++ r).size = p.size + r.size := ByteArray.size_append
  have h1 : decide ((p.size : Int) ≤ ((p ++ r).size : Int)) = true := by simp; omega
  have h2 : (p ++ r).extract 0 p.size = p := by
    apply ByteArray.ext
    simp
  have h3 : (((p ++ r).extract 0 p.size).toList == p.toList) = true := by rw [h2]; exact beq_self_eq_true _
  go_enter Tryz.func81, Tryz.ntmps81
  go_wp2_with fail
  go_ret
  exact ⟨rfl, rfl⟩
theorem hasPrefix_no (s p : ByteArray) (w : World) (hno : ∀ r, s ≠ p ++ r) :
    Calls Tryz.prog 81 #[.string s, .string p] w fun e w' => e = .returned (.bool false) ∧ w' = w := by
  by_cases hl : p.size ≤ s.size
  · have h1 : decide ((p.size : Int) ≤ (s.size : Int)) = true := by simp; omega
    have h3 : ((s.extract 0 p.size).toList == p.toList) = false := by
      refine beq_ne fun e => hno (s.extract p.size s.size) ?_
      have e2 : s.extract 0 p.size ++ s.extract p.size s.size = s := by
        apply ByteArray.ext
        apply Array.ext'
        simp
      rw [e] at e2
      exact e2.symm
    clear hno
    go_enter Tryz.func81, Tryz.ntmps81
    go_wp2_with fail
    go_ret
    exact ⟨rfl, rfl⟩
  · have h1 : decide ((p.size : Int) ≤ (s.size : Int)) = false := by simp; omega
    clear hno
    go_enter Tryz.func81, Tryz.ntmps81
    go_wp2_with fail
    go_ret
    exact ⟨rfl, rfl⟩
theorem cutLite_yes (p r : ByteArray) (w : World) (hz : (p ++ r).size ≤ 4611686018427387904) :
    Calls Tryz.prog 73 #[.string (p ++ r), .string p] w fun e w' => e = .returned (.tuple #[.string r, .bool true]) ∧ w' = w := by
  have HP := Lib.hid (hasPrefix_yes p r w hz)
  have hs : (p ++ r).size = p.size + r.size := ByteArray.size_append
  have h2 : (p ++ r).extract p.size (p ++ r).size = r := by
    apply ByteArray.ext
    simp [hs]
    rw [Array.extract_empty_of_size_le_start (by show p.data.size ≤ p.data.size; omega)]
    show #[] ++ r.data.extract 0 r.data.size = r.data
    simp
  have h2' : (p ++ r).extract p.size (p.size + r.size) = r := by rw [← hs]; exact h2
  have hl : p.size ≤ (p ++ r).size := by omega
  go_enter Tryz.func73, Tryz.ntmps73
  go_wp2_with fail
  refine HP.out.mono ?_
  rintro e w1 ⟨rfl, rfl⟩
  go_wp2_with fail
  go_ret2
  exact ⟨rfl, rfl⟩
theorem cutLite_no (s p : ByteArray) (w : World) (hno : ∀ r, s ≠ p ++ r) :
    Calls Tryz.prog 73 #[.string s, .string p] w fun e w' => e = .returned (.tuple #[.string s, .bool false]) ∧ w' = w := by
  have HP := Lib.hid (hasPrefix_no s p w hno)
  clear hno
  go_enter Tryz.func73, Tryz.ntmps73
  go_wp2_with fail
  refine HP.out.mono ?_
  rintro e w1 ⟨rfl, rfl⟩
  go_wp2_with fail
  go_ret2
  exact ⟨rfl, rfl⟩
theorem cutPrefix_yes (p r : ByteArray) (w : World) (hz : (p ++ r).size ≤ 4611686018427387904) :
    Calls Tryz.prog 60 #[.string (p ++ r), .string p] w fun e w' => e = .returned (.tuple #[.string r, .bool true]) ∧ w' = w := by
  have HP := Lib.hid (cutLite_yes p r w hz)
  go_enter Tryz.func60, Tryz.ntmps60
  go_wp2_with fail
  refine HP.out.mono ?_
  rintro e w1 ⟨rfl, rfl⟩
  go_wp2_with fail
  go_ret2
  exact ⟨rfl, rfl⟩
theorem cutPrefix_no (s p : ByteArray) (w : World) (hno : ∀ r, s ≠ p ++ r) :
    Calls Tryz.prog 60 #[.string s, .string p] w fun e w' => e = .returned (.tuple #[.string s, .bool false]) ∧ w' = w := by
  have HP := Lib.hid (cutLite_no s p w hno)
  clear hno
  go_enter Tryz.func60, Tryz.ntmps60
  go_wp2_with fail
  refine HP.out.mono ?_
  rintro e w1 ⟨rfl, rfl⟩
  go_wp2_with fail
  go_ret2
  exact ⟨rfl, rfl⟩
/-- What the reading of an action ends with. -/
def PAEnd (s : ByteArray) (e : Ending) : Prop := ∃ o : Option Nat, readA s o ∧ e = .returned (.tuple #[.int .u32 (o.getD 0 : Nat), .int .i64 (if o.isSome then 0 else 2)])
theorem paEnd_some {s : ByteArray} {n : Nat} (h : readA s (some n)) : PAEnd s (.returned (.tuple #[.int .u32 (n : Nat), .int .i64 0])) := ⟨some n, h, rfl⟩
theorem paEnd_none {s : ByteArray} (h : readA s none) : PAEnd s (.returned (.tuple #[.int .u32 0, .int .i64 2])) := ⟨none, h, rfl⟩
theorem act_none {s : ByteArray} (h1 : ∀ p ∈ actTab, p.1 ≠ s) (h2 : ∀ n, n < 4096 → s ≠ berror ++ Wd.txt n) : readA s none := by
  intro v _ e
  rcases actT_some e with ⟨n, hn, _, e2⟩ | ⟨_, e2⟩ | ⟨_, e2⟩ | ⟨_, e2⟩ | ⟨_, e2⟩
  · exact h2 n hn e2
  · exact h1 (bkillA, 0) (by unfold actTab; simp) e2.symm
  · exact h1 (btrap, 196608) (by unfold actTab; simp) e2.symm
  · exact h1 (blog, 2147221504) (by unfold actTab; simp) e2.symm
  · exact h1 (ballow, 2147418112) (by unfold actTab; simp) e2.symm
theorem app_inj {p a b : ByteArray} (h : p ++ a = p ++ b) : a = b := by
  have e := congrArg (fun x : ByteArray => x.data.toList) h
  simp only [ByteArray.data_append, Array.toList_append] at e
  exact ByteArray.ext (Array.ext' (List.append_cancel_left e))
theorem act_err {n : Nat} (h : n < 4096) : actT (327680 + n) = some (berror ++ Wd.txt n) := by
  have e : actT (327680 + n) = some (berror ++ Wd.txt (327680 + n - 327680)) := by
    unfold actT
    rw [if_pos ⟨by omega, by omega⟩]
  rw [e, show 327680 + n - 327680 = n by omega]
set_option maxHeartbeats 2000000 in
theorem nreadaction_any (s : ByteArray) (w : World) (hs : s.size ≤ 4611686018427387904) (_ht : Tab w) :
    Calls Tryz.prog 41 #[.string s] w fun e w' => PAEnd s e ∧ Below w.heap.size w w' := by
  have HS := Lib.hid hs
  by_cases hx : ∃ p ∈ actTab, p.1 = s
  · obtain ⟨p, hp, rfl⟩ := hx
    have HL : Hid (∀ (V : World) (v : Value), MAt V v actTab → (Instr.lookup 88 v (.string p.1) true).run Tryz.prog V = .ok (.tuple #[.int .u32 (p.2 : Nat), .bool true]) V) := Lib.hid (fun V v h => look_hit actTab_good h hp (by unfold maxLen; omega))
    have HR := Lib.hid (paEnd_some (s := p.1) ⟨tbl_small actTab_good hp, act_named hp rfl⟩)
    clear hs hp
    go_enter Tryz.func41, Tryz.ntmps41
    go_wp2_with fail
    refine (actions_any _).mono ?_
    rintro e w1 ⟨v, rfl, hm, hb1⟩
    have hl := HL.out _ _ hm
    have HB1 := Lib.hid hb1
    clear hm hb1
    go_wp2_with fail
    go_ret2
    exact ⟨HR.out, HB1.out⟩
  · have hno : ∀ p ∈ actTab, p.1 ≠ s := fun p hp e => hx ⟨p, hp, e⟩
    have HL : Hid (∀ (V : World) (v : Value), MAt V v actTab → (Instr.lookup 88 v (.string s) true).run Tryz.prog V = .ok (.tuple #[.int .u32 0, .bool false]) V) := Lib.hid (fun V v h => look_miss h hno (by unfold maxLen; omega))
    have HNO := Lib.hid hno
    clear hx hno hs
    go_enter Tryz.func41, Tryz.ntmps41
    go_wp2_with fail
    refine (actions_any _).mono ?_
    rintro e w1 ⟨v, rfl, hm, hb1⟩
    have hl := HL.out _ _ hm
    have HB1 := Lib.hid hb1
    clear hm hb1
    by_cases hpre : ∃ r, s = berror ++ r
    · obtain ⟨r, hr⟩ := hpre
      have HC : Hid (∀ V : World, Calls Tryz.prog 60 #[.string s, .string ⟨#[101, 114, 114, 111, 114, 58]⟩] V fun e w' => e = .returned (.tuple #[.string r, .bool true]) ∧ w' = V) := Lib.hid (fun V => by
        have := cutPrefix_yes berror r V (by rw [← hr]; exact HS.out)
        rw [← hr] at this
        exact this)
      have HZ : Hid (r.size ≤ 4611686018427387904) := Lib.hid (by
        have := HS.out
        rw [hr, ByteArray.size_append] at this
        omega)
      have HRS := Lib.hid hr
      clear hr
      go_wp2_with fail
      refine (HC.out _).mono ?_
      rintro e w2 ⟨rfl, rfl⟩
      clear hl
      go_wp2_with fail
      refine (parse_any r _ HZ.out).mono ?_
      rintro e w3 ⟨hE, hb3⟩
      have HB3 := Lib.hid (below2 HB1.out hb3)
      clear hb3
      rcases hE with ⟨n, hn, he, rfl⟩ | ⟨hn, rfl⟩
      · have HT := Lib.hid he
        clear he
        by_cases hm : n < 4096
        · have hm2 : ¬ 4095 < (n : Int) := by omega
          have hwr : IntKind.u32.wrap (n : Int) = (n : Int) := by unfold IntKind.wrap; simp [IntKind.bits, IntKind.signed]; omega
          have hwr2 : IntKind.u32.wrap (327680 + (n : Int)) = ((327680 + n : Nat) : Int) := by unfold IntKind.wrap; simp [IntKind.bits, IntKind.signed]; omega
          have HR := Lib.hid (paEnd_some (s := s) (n := 327680 + n) ⟨by omega, by rw [HRS.out, HT.out]; exact act_err hm⟩)
          obtain ⟨f, hf⟩ : ∃ f, f = 327680 + n := ⟨_, rfl⟩
          rw [← hf] at hwr2 HR
          clear hf
          go_wp2_with fail
          go_ret2
          exact ⟨HR.out, HB3.out⟩
        · have hm2 : 4095 < (n : Int) := by omega
          have HR := Lib.hid (paEnd_none (act_none HNO.out (fun k hk e => by
            rw [HRS.out, HT.out] at e
            have : n = k := err_inj e
            omega)))
          go_wp2_with fail
          go_ret2
          exact ⟨HR.out, HB3.out⟩
      · have HR := Lib.hid (paEnd_none (act_none HNO.out (fun k hk e => by
          rw [HRS.out] at e
          exact hn k (by omega) (app_inj e))))
        clear hn
        go_wp2_with fail
        go_ret2
        exact ⟨HR.out, HB3.out⟩
    · have hno : ∀ r, s ≠ berror ++ r := fun r e => hpre ⟨r, e⟩
      have HC : Hid (∀ V : World, Calls Tryz.prog 60 #[.string s, .string ⟨#[101, 114, 114, 111, 114, 58]⟩] V fun e w' => e = .returned (.tuple #[.string s, .bool false]) ∧ w' = V) := Lib.hid (fun V => cutPrefix_no s berror V hno)
      have HR := Lib.hid (paEnd_none (act_none HNO.out (fun k _ e => hno _ e)))
      clear hpre hno
      go_wp2_with fail
      refine (HC.out _).mono ?_
      rintro e w2 ⟨rfl, rfl⟩
      clear hl
      go_wp2_with fail
      refine (parse_any s _ HS.out).mono ?_
      rintro e w3 ⟨hE, hb3⟩
      have HB3 := Lib.hid (below2 HB1.out hb3)
      clear hb3
      obtain ⟨x, c, rfl⟩ : ∃ x c : Int, e = .returned (.tuple #[.int .u64 x, .int .i64 c]) := by
        rcases hE with ⟨n, _, _, rfl⟩ | ⟨_, rfl⟩
        · exact ⟨_, _, rfl⟩
        · exact ⟨_, _, rfl⟩
      clear hE
      go_wp2_with fail
      go_ret2
      exact ⟨HR.out, HB3.out⟩
end Go.Proofs.YtbhondjfilohdaaGreatDoor
