/-
  Conditions, plainly: which are right, of which records they hold, their texts, and what is read of a text.
-/
import Derived.Test.YtlhpdjafhjfcoaaDoorMask
import Derived.Test.YtlhpdjafhjfcoaaDoorTxt
import Derived.Test.YtlhpdjafhjfcoaaDoorDRBytes
namespace Go.Proofs.YtlhpdjafhjfcoaaDoor
open Go.RowKit

/-- A condition. -/
structure Cd where
  arg : Int
  cmp : Int
  mask : Nat
  value : Nat
deriving DecidableEq
def Cd.ok (c : Cd) : Prop := c.mask < 18446744073709551616 ∧ c.value < 18446744073709551616
abbrev cdB (c : Cd) : Obj := .cells #[.int .i64 c.arg, .int .i64 c.cmp, .int .u64 (c.mask : Nat), .int .u64 (c.value : Nat)] 24
abbrev Cd.val (c : Cd) : Value := .agg #[.int .i64 c.arg, .int .i64 c.cmp, .int .u64 (c.mask : Nat), .int .u64 (c.value : Nat)]
def zeroCd : Cd := ⟨0, 0, 0, 0⟩
def Cd.right (c : Cd) : Bool := decide (0 ≤ c.arg) && decide (c.arg ≤ 5) && decide (0 ≤ c.cmp) && decide (c.cmp ≤ 5)
theorem Cd.right_iff (c : Cd) : c.right = true ↔ 0 ≤ c.arg ∧ c.arg ≤ 5 ∧ 0 ≤ c.cmp ∧ c.cmp ≤ 5 := by
  unfold Cd.right
  simp only [Bool.and_eq_true, decide_eq_true_eq]
  omega
/-- What a comparison says of two numbers. -/
def cmpB (k : Int) (v x : Nat) : Bool := if k = 0 then v == x else if k = 1 then v != x else if k = 2 then decide (v < x) else if k = 3 then decide (v ≤ x) else if k = 4 then decide (x < v) else decide (x ≤ v)
/-- The bits of the argument that the mask has. -/
def Cd.bits (c : Cd) (d : Rec) : Nat := (argsD d).getD c.arg.toNat 0 &&& c.mask
def Cd.holds (c : Cd) (d : Rec) : Bool := c.right && cmpB c.cmp (c.bits d) c.value
def notK (k : Int) : Int := if k = 0 then 1 else if k = 1 then 0 else if k = 2 then 5 else if k = 5 then 2 else if k = 3 then 4 else if k = 4 then 3 else k
def Cd.not (c : Cd) : Cd := if c.right then ⟨c.arg, notK c.cmp, c.mask, c.value⟩ else c
theorem six {k : Int} (h0 : 0 ≤ k) (h5 : k ≤ 5) : k = 0 ∨ k = 1 ∨ k = 2 ∨ k = 3 ∨ k = 4 ∨ k = 5 := by omega
theorem not_right {c : Cd} (h : c.right = true) : c.not.right = true := by
  have h' := (c.right_iff).1 h
  unfold Cd.not
  rw [if_pos h, Cd.right_iff]
  obtain ⟨a, b, e, f⟩ := h'
  refine ⟨a, b, ?_⟩
  show 0 ≤ notK c.cmp ∧ notK c.cmp ≤ 5
  rcases six e f with h | h | h | h | h | h <;> rw [h] <;> decide
theorem not_not {c : Cd} : c.not.not = c := by
  by_cases h : c.right = true
  · have hr := not_right h
    have h' := (c.right_iff).1 h
    obtain ⟨arg, cmp, mask, value⟩ := c
    unfold Cd.not at hr ⊢
    rw [if_pos h] at hr ⊢
    rw [if_pos hr]
    obtain ⟨_, _, e, f⟩ := h'
    simp only at e f ⊢
    rcases six e f with rfl | rfl | rfl | rfl | rfl | rfl <;> rfl
  · unfold Cd.not
    rw [if_neg h, if_neg h]
theorem cmp_not {k : Int} (h0 : 0 ≤ k) (h5 : k ≤ 5) (v x : Nat) : cmpB (notK k) v x = !cmpB k v x := by
  rcases six h0 h5 with rfl | rfl | rfl | rfl | rfl | rfl
  · show (v != x) = !(v == x); rfl
  · show (v == x) = !(v != x); simp [bne]
  · show decide (x ≤ v) = !decide (v < x); rw [Bool.eq_iff_iff]; simp
  · show decide (x < v) = !decide (v ≤ x); rw [Bool.eq_iff_iff]; simp
  · show decide (v ≤ x) = !decide (x < v); rw [Bool.eq_iff_iff]; simp
  · show decide (v < x) = !decide (x ≤ v); rw [Bool.eq_iff_iff]; simp
theorem holds_not {c : Cd} (h : c.right = true) (d : Rec) : c.not.holds d = !c.holds d := by
  have hr := not_right h
  have h' := (c.right_iff).1 h
  unfold Cd.holds
  rw [hr, h]
  unfold Cd.not
  rw [if_pos h]
  exact cmp_not h'.2.2.1 h'.2.2.2 _ _
theorem holds_bad {c : Cd} (h : c.right = false) (d : Rec) : c.holds d = false := by unfold Cd.holds; rw [h]; rfl
/-- The number of two numbers' common bits, bit by bit. -/
theorem mask_and64 {a b : Nat} (ha : a < 18446744073709551616) : maskN (fun i => a.testBit i && b.testBit i) 64 = a &&& b := by
  apply Nat.eq_of_testBit_eq
  intro i
  rw [maskN_test, Nat.testBit_and]
  by_cases h : i < 64
  · rw [decide_eq_true h, Bool.true_and]
  · have : a.testBit i = false := Nat.testBit_lt_two_pow (Nat.lt_of_lt_of_le ha (show 2 ^ 64 ≤ 2 ^ i from Nat.pow_le_pow_right (by omega) (by omega)))
    rw [decide_eq_false h, this]
    rfl

/-! ### Texts -/
/-- The words of the comparisons. -/
def cmpW (k : Int) : List UInt8 := if k = 0 then [101, 113] else if k = 1 then [110, 101] else if k = 2 then [108, 116] else if k = 3 then [108, 101] else if k = 4 then [103, 116] else [103, 101]
def numT (n : Nat) : List UInt8 := 48 :: 120 :: Wd.hex n
def argW (k : Int) : List UInt8 := [97, UInt8.ofNat (48 + k.toNat)]
def textQ (c : Cd) : List UInt8 := argW c.arg ++ 32 :: (numT c.mask ++ 32 :: (cmpW c.cmp ++ 32 :: numT c.value))
theorem hexB_32 {d : Nat} (h : d < 16) : Wd.hexB d ≠ 32 := by
  intro e
  have := congrArg UInt8.toNat e
  by_cases h10 : d < 10
  · rw [Wd.hexB_lo d h10] at this
    simp at this
    omega
  · rw [Wd.hexB_hi d (by omega) h] at this
    simp at this
    omega
theorem numT_32 (n : Nat) : ∀ c ∈ numT n, c ≠ 32 := by
  intro c hc
  unfold numT at hc
  simp only [List.mem_cons] at hc
  rcases hc with rfl | rfl | hc
  · decide
  · decide
  · obtain ⟨d, hd, rfl⟩ := Wd.hex_mem n c hc
    exact hexB_32 hd
theorem cmpW_32 (k : Int) : ∀ c ∈ cmpW k, c ≠ 32 := by
  unfold cmpW
  repeat' split
  all_goals decide
theorem argW_32 {k : Int} (h0 : 0 ≤ k) (h5 : k ≤ 5) : ∀ c ∈ argW k, c ≠ 32 := by
  rcases six h0 h5 with rfl | rfl | rfl | rfl | rfl | rfl <;> decide
theorem cmpW_inj {k j : Int} (h0 : 0 ≤ k) (h5 : k ≤ 5) (g0 : 0 ≤ j) (g5 : j ≤ 5) (h : cmpW k = cmpW j) : k = j := by
  rcases six h0 h5 with rfl | rfl | rfl | rfl | rfl | rfl <;> rcases six g0 g5 with rfl | rfl | rfl | rfl | rfl | rfl <;> first | rfl | exact absurd h (by decide)
theorem argW_inj {k j : Int} (h0 : 0 ≤ k) (h5 : k ≤ 5) (g0 : 0 ≤ j) (g5 : j ≤ 5) (h : argW k = argW j) : k = j := by
  rcases six h0 h5 with rfl | rfl | rfl | rfl | rfl | rfl <;> rcases six g0 g5 with rfl | rfl | rfl | rfl | rfl | rfl <;> first | rfl | exact absurd h (by decide)
theorem numT_inj {m n : Nat} (h : numT m = numT n) : m = n := by
  unfold numT at h
  simp only [List.cons.injEq, true_and] at h
  exact Wd.hex_inj h
/-- Up to a space. -/
def uptoS (l : List UInt8) : List UInt8 := l.takeWhile (· != 32)
theorem uptoS_app {a r : List UInt8} (h : ∀ c ∈ a, c ≠ 32) : uptoS (a ++ 32 :: r) = a := by
  unfold uptoS
  rw [List.takeWhile_append_of_pos (by intro c hc; simpa using h c hc)]
  simp
theorem uptoS_all {a : List UInt8} (h : ∀ c ∈ a, c ≠ 32) : uptoS a = a := by
  unfold uptoS
  induction a with
  | nil => rfl
  | cons x l ih => rw [List.takeWhile_cons_of_pos (by simpa using h x (by simp)), ih fun c hc => h c (by simp [hc])]
/-- The piece of a text from a place on, and where the next one begins. -/
def pieceL (l : List UInt8) (p : Nat) : List UInt8 := if l.length ≤ p then [] else uptoS (l.drop p)
def nextP (l : List UInt8) (p : Nat) : Nat := if l.length ≤ p then p else p + (uptoS (l.drop p)).length + 1
theorem piece_mid {pre a r : List UInt8} (h : ∀ c ∈ a, c ≠ 32) : pieceL (pre ++ (a ++ 32 :: r)) pre.length = a ∧ nextP (pre ++ (a ++ 32 :: r)) pre.length = pre.length + a.length + 1 := by
  unfold pieceL nextP
  rw [if_neg (by simp; omega), if_neg (by simp; omega), List.drop_left, uptoS_app h]
  exact ⟨rfl, rfl⟩
theorem piece_end {pre a : List UInt8} (h : ∀ c ∈ a, c ≠ 32) (hne : a ≠ []) : pieceL (pre ++ a) pre.length = a := by
  have : 0 < a.length := List.length_pos_iff.2 hne
  unfold pieceL
  rw [if_neg (by simp; omega), List.drop_left, uptoS_all h]
theorem pieces {c : Cd} (h : c.right = true) :
    nextP (textQ c) 0 = 3 ∧ pieceL (textQ c) 3 = numT c.mask ∧ nextP (textQ c) 3 = 4 + (numT c.mask).length ∧ pieceL (textQ c) (4 + (numT c.mask).length) = cmpW c.cmp ∧ nextP (textQ c) (4 + (numT c.mask).length) = 7 + (numT c.mask).length ∧ pieceL (textQ c) (7 + (numT c.mask).length) = numT c.value := by
  obtain ⟨a0, a5, c0, c5⟩ := (c.right_iff).1 h
  have hl2 : (cmpW c.cmp).length = 2 := by rcases six c0 c5 with h | h | h | h | h | h <;> rw [h] <;> rfl
  have hla : (argW c.arg).length = 2 := rfl
  have p0 := piece_mid (pre := []) (a := argW c.arg) (r := numT c.mask ++ 32 :: (cmpW c.cmp ++ 32 :: numT c.value)) (argW_32 a0 a5)
  have e1 : textQ c = (argW c.arg ++ [32]) ++ (numT c.mask ++ 32 :: (cmpW c.cmp ++ 32 :: numT c.value)) := by unfold textQ; simp
  have p1 := piece_mid (pre := argW c.arg ++ [32]) (a := numT c.mask) (r := cmpW c.cmp ++ 32 :: numT c.value) (numT_32 _)
  have e2 : textQ c = (argW c.arg ++ 32 :: (numT c.mask ++ [32])) ++ (cmpW c.cmp ++ 32 :: numT c.value) := by unfold textQ; simp
  have p2 := piece_mid (pre := argW c.arg ++ 32 :: (numT c.mask ++ [32])) (a := cmpW c.cmp) (r := numT c.value) (cmpW_32 _)
  have e3 : textQ c = (argW c.arg ++ 32 :: (numT c.mask ++ 32 :: (cmpW c.cmp ++ [32]))) ++ numT c.value := by unfold textQ; simp
  have p3 := piece_end (pre := argW c.arg ++ 32 :: (numT c.mask ++ 32 :: (cmpW c.cmp ++ [32]))) (a := numT c.value) (numT_32 _) (by unfold numT; simp)
  rw [← e1] at p1
  rw [← e2] at p2
  rw [← e3] at p3
  have l1 : (argW c.arg ++ [32]).length = 3 := by simp [hla]
  have l2 : (argW c.arg ++ 32 :: (numT c.mask ++ [32])).length = 4 + (numT c.mask).length := by simp [hla]; omega
  have l3 : (argW c.arg ++ 32 :: (numT c.mask ++ 32 :: (cmpW c.cmp ++ [32]))).length = 7 + (numT c.mask).length := by simp [hla, hl2]; omega
  rw [l1] at p1
  rw [l2] at p2
  rw [l3] at p3
  refine ⟨?_, p1.1, ?_, p2.1, ?_, p3⟩
  · have := p0.2
    simp only [List.nil_append, List.length_nil, hla] at this
    exact this
  · rw [p1.2]; omega
  · rw [p2.2, hl2]; omega
theorem textQ_inj {c e : Cd} (hc : c.right = true) (he : e.right = true) (h : textQ c = textQ e) : c = e := by
  obtain ⟨_, p1, _, p2, _, p3⟩ := pieces hc
  obtain ⟨_, q1, _, q2, _, q3⟩ := pieces he
  obtain ⟨a0, a5, c0, c5⟩ := (c.right_iff).1 hc
  obtain ⟨b0, b5, d0, d5⟩ := (e.right_iff).1 he
  rw [h] at p1 p2 p3
  have m : c.mask = e.mask := numT_inj (p1.symm.trans q1)
  rw [m] at p2 p3
  have k := cmpW_inj c0 c5 d0 d5 (p2.symm.trans q2)
  have v : c.value = e.value := numT_inj (p3.symm.trans q3)
  have hh : argW c.arg = argW e.arg := by
    have := congrArg (List.take 2) h
    exact this
  have g := argW_inj a0 a5 b0 b5 hh
  obtain ⟨_, _, _, _⟩ := c
  obtain ⟨_, _, _, _⟩ := e
  simp_all
/-! ### The consequences -/
theorem orders_one (v x : Nat) : (if cmpB 0 v x then 1 else 0) + (if cmpB 2 v x then 1 else 0) + (if cmpB 4 v x then 1 else 0 : Nat) = 1 := by
  show (if (v == x) = true then 1 else 0) + (if decide (v < x) = true then 1 else 0) + (if decide (x < v) = true then 1 else 0) = 1
  rcases Nat.lt_trichotomy v x with h | h | h
  · rw [if_neg (by simp; omega), if_pos (by simpa using h), if_neg (by simp; omega)]
  · subst h; simp
  · rw [if_neg (by simp; omega), if_neg (by simp; omega), if_pos (by simpa using h)]
theorem orders_both (v x : Nat) : (cmpB 3 v x && cmpB 5 v x) = cmpB 0 v x ∧ cmpB 3 v x = !cmpB 4 v x := by
  constructor
  · show (decide (v ≤ x) && decide (x ≤ v)) = (v == x)
    rw [Bool.eq_iff_iff]
    simp
    omega
  · show decide (v ≤ x) = !decide (x < v)
    rw [Bool.eq_iff_iff]
    simp
/-- Bits that are not the mask's make no difference. -/
theorem mask_mix {a e m : Nat} (hm : m < 18446744073709551616) : ((a &&& m) ||| (e &&& (18446744073709551615 - m))) &&& m = a &&& m := by
  apply Nat.eq_of_testBit_eq
  intro i
  have e2 : 18446744073709551615 - m = 2 ^ 64 - (m + 1) := by omega
  rw [Nat.testBit_and, Nat.testBit_or, Nat.testBit_and, Nat.testBit_and, e2, Nat.testBit_two_pow_sub_succ hm]
  cases m.testBit i <;> simp
end Go.Proofs.YtlhpdjafhjfcoaaDoor
