/-
  Records of system calls, plainly: their words, their bytes, and both ways between them.
-/
import Derived.Test.YtlhpdjafhjfcoaaDoorBytes
import Derived.Laws.BitsAllLaws
import Derived.BigQuiet
import Derived.IntWalk
import Derived.Deep.RegionHeld3
import Derived.BigRegion
namespace Go.Proofs.YtlhpdjafhjfcoaaDoor
open Go.RowKit

/-- A record. -/
structure Rec where
  nr : Nat
  arch : Nat
  ip : Nat
  a0 : Nat
  a1 : Nat
  a2 : Nat
  a3 : Nat
  a4 : Nat
  a5 : Nat
deriving DecidableEq
/-- Its numbers fit. -/
def Rec.ok (d : Rec) : Prop := d.nr < 4294967296 ∧ d.arch < 4294967296 ∧ d.ip < 18446744073709551616 ∧ d.a0 < 18446744073709551616 ∧ d.a1 < 18446744073709551616 ∧ d.a2 < 18446744073709551616 ∧ d.a3 < 18446744073709551616 ∧ d.a4 < 18446744073709551616 ∧ d.a5 < 18446744073709551616
abbrev Rec.cells (d : Rec) : Array Value := #[.int .u32 d.nr, .int .u32 d.arch, .int .u64 d.ip, .int .u64 d.a0, .int .u64 d.a1, .int .u64 d.a2, .int .u64 d.a3, .int .u64 d.a4, .int .u64 d.a5]
abbrev Rec.val (d : Rec) : Value := .agg d.cells
def zeroRec : Rec := ⟨0, 0, 0, 0, 0, 0, 0, 0, 0⟩
/-- The sixteen words of a record, and the record of sixteen words. -/
def wordsD (d : Rec) : List Nat := [d.nr, d.arch, d.ip % 4294967296, d.ip / 4294967296, d.a0 % 4294967296, d.a0 / 4294967296, d.a1 % 4294967296, d.a1 / 4294967296, d.a2 % 4294967296, d.a2 / 4294967296, d.a3 % 4294967296, d.a3 / 4294967296, d.a4 % 4294967296, d.a4 / 4294967296, d.a5 % 4294967296, d.a5 / 4294967296]
def ofWords (l : List Nat) : Rec :=
  ⟨l.getD 0 0, l.getD 1 0, l.getD 2 0 + l.getD 3 0 * 4294967296, l.getD 4 0 + l.getD 5 0 * 4294967296, l.getD 6 0 + l.getD 7 0 * 4294967296, l.getD 8 0 + l.getD 9 0 * 4294967296, l.getD 10 0 + l.getD 11 0 * 4294967296, l.getD 12 0 + l.getD 13 0 * 4294967296, l.getD 14 0 + l.getD 15 0 * 4294967296⟩
theorem words_len (d : Rec) : (wordsD d).length = 16 := rfl
theorem words_lt {d : Rec} (h : d.ok) : ∀ x ∈ wordsD d, x < 4294967296 := by
  obtain ⟨nr, arch, ip, a0, a1, a2, a3, a4, a5⟩ := d
  obtain ⟨h0, h1, h2, h3, h4, h5, h6, h7, h8⟩ := h
  simp only at h0 h1 h2 h3 h4 h5 h6 h7 h8
  intro x hx
  simp only [wordsD, List.mem_cons, List.not_mem_nil, or_false] at hx
  omega
theorem ofWords_words (d : Rec) : ofWords (wordsD d) = d := by
  obtain ⟨nr, arch, ip, a0, a1, a2, a3, a4, a5⟩ := d
  simp only [ofWords, wordsD, List.getD_cons_zero, List.getD_cons_succ, Rec.mk.injEq, true_and]
  omega
theorem list16 {α : Type} {l : List α} (h : l.length = 16) : ∃ x0 x1 x2 x3 x4 x5 x6 x7 x8 x9 x10 x11 x12 x13 x14 x15, l = [x0, x1, x2, x3, x4, x5, x6, x7, x8, x9, x10, x11, x12, x13, x14, x15] := by
  match l, h with
  | [x0, x1, x2, x3, x4, x5, x6, x7, x8, x9, x10, x11, x12, x13, x14, x15], _ => exact ⟨x0, x1, x2, x3, x4, x5, x6, x7, x8, x9, x10, x11, x12, x13, x14, x15, rfl⟩
theorem words_ofWords {l : List Nat} (h : l.length = 16) (hl : ∀ x ∈ l, x < 4294967296) : wordsD (ofWords l) = l := by
  obtain ⟨x0, x1, x2, x3, x4, x5, x6, x7, x8, x9, x10, x11, x12, x13, x14, x15, rfl⟩ := list16 h
  simp only [List.mem_cons, List.not_mem_nil, or_false, forall_eq_or_imp, forall_eq] at hl
  simp only [ofWords, wordsD, List.getD_cons_zero, List.getD_cons_succ, List.cons.injEq, and_true, true_and]
  omega
theorem ofWords_ok {l : List Nat} (h : l.length = 16) (hl : ∀ x ∈ l, x < 4294967296) : (ofWords l).ok := by
  obtain ⟨x0, x1, x2, x3, x4, x5, x6, x7, x8, x9, x10, x11, x12, x13, x14, x15, rfl⟩ := list16 h
  simp only [List.mem_cons, List.not_mem_nil, or_false, forall_eq_or_imp, forall_eq] at hl
  simp only [Rec.ok, ofWords, List.getD_cons_zero, List.getD_cons_succ]
  omega
/-- A record's bytes, and the words of bytes. -/
def bytesD (d : Rec) : List UInt8 := (wordsD d).flatMap (lowBytes · 4)
def num4 (b : List UInt8) (i : Nat) : Nat := numAt b (4 * i) 4
def wordsB (b : List UInt8) : List Nat := (List.range 16).map (num4 b)
def fromB (b : List UInt8) : Rec := ofWords (wordsB b)
theorem flat4_len (l : List Nat) : (l.flatMap (lowBytes · 4)).length = 4 * l.length := by
  induction l with
  | nil => rfl
  | cons x l ih => rw [List.flatMap_cons, List.length_append, lowBytes_len, ih, List.length_cons]; omega
theorem bytesD_len (d : Rec) : (bytesD d).length = 64 := flat4_len _
theorem wordsB_len (b : List UInt8) : (wordsB b).length = 16 := by simp [wordsB]
theorem wordsB_lt (b : List UInt8) : ∀ x ∈ wordsB b, x < 4294967296 := by
  intro x hx
  obtain ⟨i, _, rfl⟩ := List.mem_map.1 hx
  exact numAt_lt b (4 * i) 4
/-- A number of four bytes. -/
theorem num_low4 (x : Nat) (h : x < 4294967296) : numAt (lowBytes x 4) 0 4 = x := by
  have e : lowBytes x 4 = [byteAt x 0, byteAt x 1, byteAt x 2, byteAt x 3] := rfl
  rw [e]
  have c0 := byteAt_val x 0
  have c1 := byteAt_val x 1
  have c2 := byteAt_val x 2
  have c3 := byteAt_val x 3
  simp only [Nat.mul_zero, Nat.pow_zero, Nat.div_one, Nat.mul_one, Nat.reduceMul, Nat.reducePow] at c0 c1 c2 c3
  simp only [numAt, List.getD_eq_getElem?_getD, List.getElem?_cons_succ, List.getElem?_cons_zero, Option.getD_some, Nat.zero_add, Nat.reduceMul, Nat.mul_zero, Nat.pow_zero, Nat.mul_one, Nat.reducePow]
  omega
theorem low4_num (E : List UInt8) (h : E.length = 4) : lowBytes (numAt E 0 4) 4 = E := by
  match E, h with
  | [e0, e1, e2, e3], _ =>
    have h0 := UInt8.toNat_lt e0
    have h1 := UInt8.toNat_lt e1
    have h2 := UInt8.toNat_lt e2
    have h3 := UInt8.toNat_lt e3
    have e : numAt [e0, e1, e2, e3] 0 4 = e0.toNat + e1.toNat * 256 + e2.toNat * 65536 + e3.toNat * 16777216 := by
      simp only [numAt, List.getD_eq_getElem?_getD, List.getElem?_cons_succ, List.getElem?_cons_zero, Option.getD_some, Nat.zero_add, Nat.reduceMul, Nat.mul_zero, Nat.pow_zero, Nat.mul_one, Nat.reducePow]
    rw [e]
    show [byteAt _ 0, byteAt _ 1, byteAt _ 2, byteAt _ 3] = _
    simp only [byteAt, Nat.mul_zero, Nat.pow_zero, Nat.div_one, Nat.mul_one, Nat.reduceMul, Nat.reducePow]
    rw [ofNat_is _ e0 (by omega), ofNat_is _ e1 (by omega), ofNat_is _ e2 (by omega), ofNat_is _ e3 (by omega)]
/-- The words of numbers' bytes. -/
theorem num_flat : ∀ (l : List Nat) (i : Nat), (∀ x ∈ l, x < 4294967296) → (h : i < l.length) → numAt (l.flatMap (lowBytes · 4)) (4 * i) 4 = l[i]
  | x :: l, 0, hl, _ => by
    rw [List.flatMap_cons, Nat.mul_zero, numAt_behind _ _ _ _ (by rw [lowBytes_len]; omega), num_low4 x (hl x List.mem_cons_self)]
    rfl
  | x :: l, i + 1, hl, h => by
    rw [List.flatMap_cons, show 4 * (i + 1) = (lowBytes x 4).length + 4 * i by rw [lowBytes_len]; omega, numAt_front]
    exact num_flat l i (fun y hy => hl y (List.mem_cons_of_mem _ hy)) (by simpa using h)
theorem wordsB_bytes {d : Rec} (h : d.ok) : wordsB (bytesD d) = wordsD d := by
  apply List.ext_getElem
  · rw [wordsB_len, words_len]
  · intro i h1 h2
    simp only [wordsB, List.getElem_map, List.getElem_range, num4]
    exact num_flat _ i (words_lt h) h2
theorem from_bytes {d : Rec} (h : d.ok) : fromB (bytesD d) = d := by
  unfold fromB
  rw [wordsB_bytes h, ofWords_words]
theorem num4_zero (E S : List UInt8) (h : E.length = 4) : num4 (E ++ S) 0 = numAt E 0 4 := numAt_behind E S 0 4 (by omega)
theorem num4_succ (E S : List UInt8) (h : E.length = 4) (i : Nat) : num4 (E ++ S) (i + 1) = num4 S i := by
  unfold num4
  rw [show 4 * (i + 1) = E.length + 4 * i by omega, numAt_front]
theorem num4_tail (E S : List UInt8) (h : E.length = 4) (n : Nat) : (List.range (n + 1)).map (num4 (E ++ S)) = numAt E 0 4 :: (List.range n).map (num4 S) := by
  apply List.ext_getElem
  · simp
  · intro i h1 h2
    rw [List.getElem_map, List.getElem_range]
    cases i with
    | zero => exact num4_zero E S h
    | succ i => rw [num4_succ E S h, List.getElem_cons_succ, List.getElem_map, List.getElem_range]
theorem split4 {b : List UInt8} {n : Nat} (h : b.length = 4 * (n + 1)) : ∃ E S : List UInt8, E.length = 4 ∧ S.length = 4 * n ∧ b = E ++ S :=
  ⟨b.take 4, b.drop 4, by rw [List.length_take]; omega, by rw [List.length_drop]; omega, (List.take_append_drop 4 b).symm⟩
def flat4 (l : List Nat) : List UInt8 := l.flatMap (lowBytes · 4)
theorem flat4_cons (x : Nat) (l : List Nat) : flat4 (x :: l) = lowBytes x 4 ++ flat4 l := rfl
theorem flat_words (n : Nat) : ∀ b : List UInt8, b.length = 4 * n → flat4 ((List.range n).map (num4 b)) = b := by
  induction n with
  | zero =>
    intro b h
    rw [List.eq_nil_of_length_eq_zero (by omega : b.length = 0)]
    rfl
  | succ n ih =>
    intro b h
    obtain ⟨E, S, h4, hS, e⟩ := split4 h
    rw [e, num4_tail E S h4, flat4_cons, low4_num E h4, ih S hS]
theorem bytes_from {b : List UInt8} (h : b.length = 64) : bytesD (fromB b) = b := by
  unfold bytesD fromB
  rw [words_ofWords (wordsB_len b) (wordsB_lt b)]
  exact flat_words 16 b (by omega)
theorem fromB_ok (b : List UInt8) : (fromB b).ok := ofWords_ok (wordsB_len b) (wordsB_lt b)
/-- Is there a word at a place? The word, and the record with another one. -/
def hasW (at_ : Nat) : Bool := at_ % 4 == 0 && decide (at_ < 64)
def wordAtD (d : Rec) (at_ : Nat) : Nat := if hasW at_ then (wordsD d).getD (at_ / 4) 0 else 0
def withD (d : Rec) (at_ v : Nat) : Rec := if hasW at_ then ofWords ((wordsD d).set (at_ / 4) v) else d
theorem set_lt {l : List Nat} {i v : Nat} (hl : ∀ x ∈ l, x < 4294967296) (hv : v < 4294967296) : ∀ x ∈ l.set i v, x < 4294967296 := by
  intro x hx
  rcases List.mem_or_eq_of_mem_set hx with h | rfl
  · exact hl x h
  · exact hv
theorem withD_ok {d : Rec} {at_ v : Nat} (h : d.ok) (hv : v < 4294967296) : (withD d at_ v).ok := by
  unfold withD
  split
  · exact ofWords_ok (by simp [words_len]) (set_lt (words_lt h) hv)
  · exact h
theorem withD_words {d : Rec} {at_ v : Nat} (h : d.ok) (hv : v < 4294967296) (ha : hasW at_ = true) : wordsD (withD d at_ v) = (wordsD d).set (at_ / 4) v := by
  unfold withD
  rw [if_pos ha]
  exact words_ofWords (by simp [words_len]) (set_lt (words_lt h) hv)
theorem rec_of_words {d e : Rec} (h : wordsD d = wordsD e) : d = e := by rw [← ofWords_words d, h, ofWords_words]
end Go.Proofs.YtlhpdjafhjfcoaaDoor

/-
  Package data's small functions: split, join, begins, argByte, Low, High; and the document's Low.
-/
namespace Go.Proofs.YtlhpdjafhjfcoaaDoor
open Go.ChangeShapes Go.WideShapes Go.ChangeAt Go.RowKit
set_option maxRecDepth 20000

theorem retU32 {a b : Int} (h : a = b) : Ending.returned (.int .u32 a) = .returned (.int .u32 b) := by rw [h]
theorem retU64 {a b : Int} (h : a = b) : Ending.returned (.int .u64 a) = .returned (.int .u64 b) := by rw [h]

theorem or_join (a b : Nat) (ha : a < 4294967296) (hb : b < 4294967296) : bits .or .u64 ((b : Int) * 4294967296) (a : Int) = ((a + b * 4294967296 : Nat) : Int) := by
  have e : (b : Int) * 4294967296 = ((b * 4294967296 : Nat) : Int) := by omega
  rw [e, u64_or_nat _ _ (by omega) (by omega), nat_join 32 _ _ (by omega) (by omega), Nat.add_comm]
def hasA (n : Int) : Bool := decide (0 ≤ n) && decide (n < 6)
def argAt (n p : Int) : Int := if hasA n then 4 * (4 + 2 * n + p) else 64
theorem argAt_in {n p : Int} (h0 : 0 ≤ n) (h1 : n < 6) : argAt n p = 4 * (4 + 2 * n + p) := by simp [argAt, hasA, h0, h1]
theorem argAt_out {n p : Int} (h : n < 0 ∨ 6 ≤ n) : argAt n p = 64 := by
  unfold argAt hasA
  rw [if_neg]
  simp
  omega
end Go.Proofs.YtlhpdjafhjfcoaaDoor

/-
  What data.words and data.record answer: a record's sixteen words, and the record of sixteen words.
-/
namespace Go.Proofs.YtlhpdjafhjfcoaaDoor
open Go.ChangeShapes Go.WideShapes Go.ChangeAt Go.RowKit
set_option maxRecDepth 20000

abbrev wcells (l : List Nat) : List Value := l.map fun x : Nat => Value.int .u32 (x : Int)
abbrev wsV (l : List Nat) : Value := .agg (wcells l).toArray
/-- The words that are there behind k arguments. -/
def mixC (nr arch ip a0 a1 a2 a3 a4 a5 : Nat) : Nat → Array Value
  | 0 => #[.int .u32 (nr : Int), .int .u32 (arch : Int), .int .u32 ((ip : Int) % 4294967296), .int .u32 ((ip : Int) / 4294967296), .int .u32 0, .int .u32 0, .int .u32 0, .int .u32 0, .int .u32 0, .int .u32 0, .int .u32 0, .int .u32 0, .int .u32 0, .int .u32 0, .int .u32 0, .int .u32 0]
  | 1 => #[.int .u32 (nr : Int), .int .u32 (arch : Int), .int .u32 ((ip : Int) % 4294967296), .int .u32 ((ip : Int) / 4294967296), .int .u32 ((a0 : Int) % 4294967296), .int .u32 ((a0 : Int) / 4294967296), .int .u32 0, .int .u32 0, .int .u32 0, .int .u32 0, .int .u32 0, .int .u32 0, .int .u32 0, .int .u32 0, .int .u32 0, .int .u32 0]
  | 2 => #[.int .u32 (nr : Int), .int .u32 (arch : Int), .int .u32 ((ip : Int) % 4294967296), .int .u32 ((ip : Int) / 4294967296), .int .u32 ((a0 : Int) % 4294967296), .int .u32 ((a0 : Int) / 4294967296), .int .u32 ((a1 : Int) % 4294967296), .int .u32 ((a1 : Int) / 4294967296), .int .u32 0, .int .u32 0, .int .u32 0, .int .u32 0, .int .u32 0, .int .u32 0, .int .u32 0, .int .u32 0]
  | 3 => #[.int .u32 (nr : Int), .int .u32 (arch : Int), .int .u32 ((ip : Int) % 4294967296), .int .u32 ((ip : Int) / 4294967296), .int .u32 ((a0 : Int) % 4294967296), .int .u32 ((a0 : Int) / 4294967296), .int .u32 ((a1 : Int) % 4294967296), .int .u32 ((a1 : Int) / 4294967296), .int .u32 ((a2 : Int) % 4294967296), .int .u32 ((a2 : Int) / 4294967296), .int .u32 0, .int .u32 0, .int .u32 0, .int .u32 0, .int .u32 0, .int .u32 0]
  | 4 => #[.int .u32 (nr : Int), .int .u32 (arch : Int), .int .u32 ((ip : Int) % 4294967296), .int .u32 ((ip : Int) / 4294967296), .int .u32 ((a0 : Int) % 4294967296), .int .u32 ((a0 : Int) / 4294967296), .int .u32 ((a1 : Int) % 4294967296), .int .u32 ((a1 : Int) / 4294967296), .int .u32 ((a2 : Int) % 4294967296), .int .u32 ((a2 : Int) / 4294967296), .int .u32 ((a3 : Int) % 4294967296), .int .u32 ((a3 : Int) / 4294967296), .int .u32 0, .int .u32 0, .int .u32 0, .int .u32 0]
  | 5 => #[.int .u32 (nr : Int), .int .u32 (arch : Int), .int .u32 ((ip : Int) % 4294967296), .int .u32 ((ip : Int) / 4294967296), .int .u32 ((a0 : Int) % 4294967296), .int .u32 ((a0 : Int) / 4294967296), .int .u32 ((a1 : Int) % 4294967296), .int .u32 ((a1 : Int) / 4294967296), .int .u32 ((a2 : Int) % 4294967296), .int .u32 ((a2 : Int) / 4294967296), .int .u32 ((a3 : Int) % 4294967296), .int .u32 ((a3 : Int) / 4294967296), .int .u32 ((a4 : Int) % 4294967296), .int .u32 ((a4 : Int) / 4294967296), .int .u32 0, .int .u32 0]
  | _ => #[.int .u32 (nr : Int), .int .u32 (arch : Int), .int .u32 ((ip : Int) % 4294967296), .int .u32 ((ip : Int) / 4294967296), .int .u32 ((a0 : Int) % 4294967296), .int .u32 ((a0 : Int) / 4294967296), .int .u32 ((a1 : Int) % 4294967296), .int .u32 ((a1 : Int) / 4294967296), .int .u32 ((a2 : Int) % 4294967296), .int .u32 ((a2 : Int) / 4294967296), .int .u32 ((a3 : Int) % 4294967296), .int .u32 ((a3 : Int) / 4294967296), .int .u32 ((a4 : Int) % 4294967296), .int .u32 ((a4 : Int) / 4294967296), .int .u32 ((a5 : Int) % 4294967296), .int .u32 ((a5 : Int) / 4294967296)]
def z16 : Array Value := #[.int .u32 0, .int .u32 0, .int .u32 0, .int .u32 0, .int .u32 0, .int .u32 0, .int .u32 0, .int .u32 0, .int .u32 0, .int .u32 0, .int .u32 0, .int .u32 0, .int .u32 0, .int .u32 0, .int .u32 0, .int .u32 0]
theorem mix_all (nr arch ip a0 a1 a2 a3 a4 a5 : Nat) : mixC nr arch ip a0 a1 a2 a3 a4 a5 6 = (wcells (wordsD ⟨nr, arch, ip, a0, a1, a2, a3, a4, a5⟩)).toArray := rfl

end Go.Proofs.YtlhpdjafhjfcoaaDoor

/-
  What data.record answers: the record of sixteen words.
-/
namespace Go.Proofs.YtlhpdjafhjfcoaaDoor
open Go.ChangeShapes Go.WideShapes Go.ChangeAt Go.RowKit
set_option maxRecDepth 20000

/-- The record that is there behind k arguments. -/
def mixR (x0 x1 x2 x3 x4 x5 x6 x7 x8 x9 x10 x11 x12 x13 x14 x15 : Nat) : Nat → Array Value
  | 0 => #[.int .u32 x0, .int .u32 x1, .int .u64 (x2 + x3 * 4294967296 : Nat), .int .u64 0, .int .u64 0, .int .u64 0, .int .u64 0, .int .u64 0, .int .u64 0]
  | 1 => #[.int .u32 x0, .int .u32 x1, .int .u64 (x2 + x3 * 4294967296 : Nat), .int .u64 (x4 + x5 * 4294967296 : Nat), .int .u64 0, .int .u64 0, .int .u64 0, .int .u64 0, .int .u64 0]
  | 2 => #[.int .u32 x0, .int .u32 x1, .int .u64 (x2 + x3 * 4294967296 : Nat), .int .u64 (x4 + x5 * 4294967296 : Nat), .int .u64 (x6 + x7 * 4294967296 : Nat), .int .u64 0, .int .u64 0, .int .u64 0, .int .u64 0]
  | 3 => #[.int .u32 x0, .int .u32 x1, .int .u64 (x2 + x3 * 4294967296 : Nat), .int .u64 (x4 + x5 * 4294967296 : Nat), .int .u64 (x6 + x7 * 4294967296 : Nat), .int .u64 (x8 + x9 * 4294967296 : Nat), .int .u64 0, .int .u64 0, .int .u64 0]
  | 4 => #[.int .u32 x0, .int .u32 x1, .int .u64 (x2 + x3 * 4294967296 : Nat), .int .u64 (x4 + x5 * 4294967296 : Nat), .int .u64 (x6 + x7 * 4294967296 : Nat), .int .u64 (x8 + x9 * 4294967296 : Nat), .int .u64 (x10 + x11 * 4294967296 : Nat), .int .u64 0, .int .u64 0]
  | 5 => #[.int .u32 x0, .int .u32 x1, .int .u64 (x2 + x3 * 4294967296 : Nat), .int .u64 (x4 + x5 * 4294967296 : Nat), .int .u64 (x6 + x7 * 4294967296 : Nat), .int .u64 (x8 + x9 * 4294967296 : Nat), .int .u64 (x10 + x11 * 4294967296 : Nat), .int .u64 (x12 + x13 * 4294967296 : Nat), .int .u64 0]
  | _ => #[.int .u32 x0, .int .u32 x1, .int .u64 (x2 + x3 * 4294967296 : Nat), .int .u64 (x4 + x5 * 4294967296 : Nat), .int .u64 (x6 + x7 * 4294967296 : Nat), .int .u64 (x8 + x9 * 4294967296 : Nat), .int .u64 (x10 + x11 * 4294967296 : Nat), .int .u64 (x12 + x13 * 4294967296 : Nat), .int .u64 (x14 + x15 * 4294967296 : Nat)]
def z9 : Array Value := #[.int .u32 0, .int .u32 0, .int .u64 0, .int .u64 0, .int .u64 0, .int .u64 0, .int .u64 0, .int .u64 0, .int .u64 0]
theorem mixR_all (x0 x1 x2 x3 x4 x5 x6 x7 x8 x9 x10 x11 x12 x13 x14 x15 : Nat) : mixR x0 x1 x2 x3 x4 x5 x6 x7 x8 x9 x10 x11 x12 x13 x14 x15 6 = (ofWords [x0, x1, x2, x3, x4, x5, x6, x7, x8, x9, x10, x11, x12, x13, x14, x15]).cells := rfl

theorem box_cell (w : World) (n : Nat) (cs : Array Value) (t : TypeId) (o1 o2 : Obj) (i : Nat) (v : Value) (h : cs[i]? = some v) : ((((w.drewN n).alloc (.cells cs t)).alloc o1).alloc o2).drew.cell? ⟨w.heap.size, i, none⟩ = some v := by
  have hw : ((w.drewN n).alloc (.cells cs t)).heap[w.heap.size]? = some (.cells cs t) := heap_alloc_new _ _
  have h1 : (((w.drewN n).alloc (.cells cs t)).alloc o1).heap[w.heap.size]? = some (.cells cs t) := (Below.heap_alloc _ _ _ (lt_of_block hw)).trans hw
  have h2 : ((((w.drewN n).alloc (.cells cs t)).alloc o1).alloc o2).drew.heap[w.heap.size]? = some (.cells cs t) := (Below.heap_alloc _ _ _ (lt_of_block h1)).trans h1
  rw [cell_in h2, h]

end Go.Proofs.YtlhpdjafhjfcoaaDoor

/-
  What data.Word answers.
-/
namespace Go.Proofs.YtlhpdjafhjfcoaaDoor
open Go.ChangeShapes Go.WideShapes Go.ChangeAt Go.RowKit
set_option maxRecDepth 20000

end Go.Proofs.YtlhpdjafhjfcoaaDoor
