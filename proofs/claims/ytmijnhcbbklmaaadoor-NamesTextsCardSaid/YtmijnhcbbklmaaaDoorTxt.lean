/-
  Plain facts on numbers and texts, without any program: 32-bit arithmetic as Int functions, hexadecimal digits as lists of bytes.
-/
import Derived.Laws.BitsAllLaws
import Derived.RowKit
import Derived.Test.YtmijnhcbbklmaaaDoorBytes
import Derived.Test.YtmijnhcbbklmaaaDoorProg
import Derived.WalkKit
import Derived.ProofKit
import Derived.Lib.Hide
namespace Wd
open Go

/-- What comes of a kind of arithmetic, as a number. -/
def doV (k a b : Int) : Int :=
  if k = 4 then (a + b) % 4294967296
  else if k = 20 then (a - b) % 4294967296
  else if k = 36 then a * b % 4294967296
  else if k = 52 then (if b = 0 then 0 else a / b)
  else if k = 68 then bits .or .u32 a b
  else if k = 84 then bits .and .u32 a b
  else if k = 100 then a * 2 ^ (b % 32).toNat % 4294967296
  else if k = 116 then a / 2 ^ (b % 32).toNat
  else if k = 164 then bits .xor .u32 a b
  else 0
/-- Whether something comes of it. -/
def doB (k b : Int) : Bool :=
  decide (k = 4) || decide (k = 20) || decide (k = 36) || (decide (k = 52) && !decide (b = 0)) || decide (k = 68) || decide (k = 84) || decide (k = 100) || decide (k = 116) || decide (k = 164)

theorem doV_add (a b : Int) : doV 4 a b = (a + b) % 4294967296 := rfl
theorem doV_sub (a b : Int) : doV 20 a b = (a - b) % 4294967296 := rfl
theorem doV_mul (a b : Int) : doV 36 a b = a * b % 4294967296 := rfl
theorem doV_div (a b : Int) (h : b ≠ 0) : doV 52 a b = a / b := by show (if b = 0 then 0 else a / b) = _; rw [if_neg h]
theorem doV_div0 (a : Int) : doV 52 a 0 = 0 := rfl
theorem doV_or (a b : Int) : doV 68 a b = bits .or .u32 a b := rfl
theorem doV_and (a b : Int) : doV 84 a b = bits .and .u32 a b := rfl
theorem doV_lsh (a b : Int) : doV 100 a b = a * 2 ^ (b % 32).toNat % 4294967296 := rfl
theorem doV_rsh (a b : Int) : doV 116 a b = a / 2 ^ (b % 32).toNat := rfl
theorem doV_xor (a b : Int) : doV 164 a b = bits .xor .u32 a b := rfl

theorem and31 (b : Int) (h0 : 0 ≤ b) (h1 : b ≤ 4294967295) : bits .and .u32 b 31 = b % 32 := by
  have h := u32_and b 31 h0 (by omega) (by omega) (by omega)
  rw [h]
  have e : (31 : Int).toNat = 31 := rfl
  rw [e, nat_mask5]
  omega

/-- A bound for what bits make of two numbers of 32 bits. -/
theorem bits_bd (op : BinOp) (a b : Int) : 0 ≤ bits op .u32 a b ∧ bits op .u32 a b ≤ 4294967295 := by
  unfold bits
  rw [IntKind.wrap_u32']
  omega

theorem pow32 (m : Nat) (h : m < 32) : (1 : Int) ≤ 2 ^ m ∧ (2 : Int) ^ m ≤ 2147483648 := by
  have h1 : (2 : Nat) ^ m ≤ 2 ^ 31 := Nat.pow_le_pow_right (by omega) (by omega)
  have h2 : 0 < (2 : Nat) ^ m := Nat.pow_pos (by omega)
  have e : ((2 ^ m : Nat) : Int) = (2 : Int) ^ m := by simp
  omega

theorem doV_bd (k a b : Int) (h0 : 0 ≤ a) (h1 : a ≤ 4294967295) (h2 : 0 ≤ b) : 0 ≤ doV k a b ∧ doV k a b ≤ 4294967295 := by
  unfold doV
  split; · omega
  split; · omega
  split; · omega
  split
  · split
    · omega
    · exact ⟨Int.ediv_nonneg h0 h2, Int.le_trans (Int.ediv_le_self _ h0) h1⟩
  split; · exact bits_bd _ _ _
  split; · exact bits_bd _ _ _
  split; · omega
  split
  · have := (pow32 (b % 32).toNat (by omega)).1
    exact ⟨Int.ediv_nonneg h0 (by omega), Int.le_trans (Int.ediv_le_self _ h0) h1⟩
  split; · exact bits_bd _ _ _
  omega

/-- A digit's byte. -/
def hexB (d : Nat) : UInt8 := if d < 10 then UInt8.ofNat (48 + d) else UInt8.ofNat (87 + d)

theorem hexB_lo (d : Nat) (h : d < 10) : (hexB d).toNat = 48 + d := by
  unfold hexB; rw [if_pos h]; simp; omega
theorem hexB_hi (d : Nat) (h : 10 ≤ d) (h2 : d < 16) : (hexB d).toNat = 87 + d := by
  unfold hexB; rw [if_neg (by omega)]; simp; omega

/-- The hexadecimal digits of a number. -/
def hex (n : Nat) : List UInt8 := if _h : n < 16 then [hexB n] else hex (n / 16) ++ [hexB (n % 16)]
termination_by n
decreasing_by omega

theorem hex_lt {n : Nat} (h : n < 16) : hex n = [hexB n] := by rw [hex, dif_pos h]
theorem hex_ge {n : Nat} (h : 16 ≤ n) : hex n = hex (n / 16) ++ [hexB (n % 16)] := by rw [hex, dif_neg (by omega)]

theorem hex_len : ∀ (k n : Nat), n < 16 ^ (k + 1) → 1 ≤ (hex n).length ∧ (hex n).length ≤ k + 1
  | 0, n, h => by rw [hex_lt (by simpa using h)]; simp
  | k + 1, n, h => by
    by_cases hn : n < 16
    · rw [hex_lt hn]; simp
    · rw [hex_ge (by omega)]
      have := hex_len k (n / 16) (by rw [Nat.pow_succ] at h; omega)
      simp
      omega
theorem hex_len16 (n : Nat) (h : n < 18446744073709551616) : 1 ≤ (hex n).length ∧ (hex n).length ≤ 16 := hex_len 15 n h
theorem joined (l m : List UInt8) : (⟨l.toArray⟩ : ByteArray) ++ (⟨m.toArray⟩ : ByteArray) = ⟨(l ++ m).toArray⟩ := by
  apply ByteArray.ext
  simp

theorem pow16_le (k : Nat) (h : k ≤ 65) : 16 ^ (k - 49) ≤ 18446744073709551616 :=
  Nat.le_trans (Nat.pow_le_pow_right (by omega) (show k - 49 ≤ 16 by omega)) (Nat.le_of_eq (by decide))
theorem pow16_step {x m : Nat} (hx : x < 16 ^ (m + 1 - 49)) (hge : 16 ≤ x) : 50 ≤ m ∧ x / 16 < 16 ^ (m - 49) := by
  have h49 : 50 ≤ m := by
    apply Nat.lt_of_not_le
    intro hm
    have h1 : 16 ^ (m + 1 - 49) ≤ 16 ^ 1 := Nat.pow_le_pow_right (by omega) (by omega)
    omega
  refine ⟨h49, ?_⟩
  rw [show m + 1 - 49 = (m - 49) + 1 by omega, Nat.pow_succ] at hx
  omega
theorem and15 (x : Nat) (h : x < 18446744073709551616) : bits .and .u64 (x : Int) 15 = ((x % 16 : Nat) : Int) := by
  have e := u64_and_nat x 15 h (by omega)
  rw [nat_mask4] at e
  exact e

theorem or16 (x d : Nat) (hx : x ≤ 1152921504606846975) (hd : d < 16) : bits .or .u64 ((x : Int) * 16) (d : Int) = ((x * 16 + d : Nat) : Int) := by
  have e := u64_or_nat (x * 16) d (by omega) (by omega)
  rw [nat_join 4 (x * 16) d (by omega) (by omega)] at e
  rw [← e]
  simp

/-! ### Digits as numbers -/
/-- What a digit's byte counts. -/
def dig (c : UInt8) : Nat := if c.toNat < 97 then c.toNat - 48 else c.toNat - 87
def val (l : List UInt8) : Nat := l.foldl (fun a c => a * 16 + dig c) 0
theorem dig_hexB (d : Nat) (h : d < 16) : dig (hexB d) = d := by
  unfold dig
  by_cases hd : d < 10
  · rw [hexB_lo d hd]; split <;> omega
  · rw [hexB_hi d (by omega) h]; split <;> omega
theorem val_snoc (l : List UInt8) (c : UInt8) : val (l ++ [c]) = val l * 16 + dig c := by simp [val]
theorem val_hex (n : Nat) : val (hex n) = n := by
  induction n using Nat.strongRecOn with
  | ind n ih =>
    by_cases h : n < 16
    · rw [hex_lt h]; simp [val, dig_hexB n h]
    · rw [hex_ge (by omega), val_snoc, ih (n / 16) (by omega), dig_hexB _ (by omega)]; omega
theorem hex_inj {m n : Nat} (h : hex m = hex n) : m = n := by rw [← val_hex m, h, val_hex]
theorem hex_ne (n : Nat) : hex n ≠ [] := by
  intro h
  by_cases hn : n < 16
  · rw [hex_lt hn] at h; cases h
  · rw [hex_ge (by omega)] at h; simp at h
theorem hex_mem (n : Nat) : ∀ c ∈ hex n, ∃ d, d < 16 ∧ c = hexB d := by
  induction n using Nat.strongRecOn with
  | ind n ih =>
    intro c hc
    by_cases h : n < 16
    · rw [hex_lt h] at hc; exact ⟨n, h, by simpa using hc⟩
    · rw [hex_ge (by omega)] at hc
      rcases List.mem_append.1 hc with hc | hc
      · exact ih (n / 16) (by omega) c hc
      · exact ⟨n % 16, by omega, by simpa using hc⟩
/-- What stands ahead in a number's digits are a smaller number's digits: not 0's, and that number times 16 is no more. -/
theorem hex_front (m : Nat) : ∀ (p q : List UInt8), p ≠ [] → q ≠ [] → hex m = p ++ q → ∃ n, p = hex n ∧ 1 ≤ n ∧ n * 16 ≤ m := by
  induction m using Nat.strongRecOn with
  | ind m ih =>
    intro p q hp hq h
    by_cases hm : m < 16
    · rw [hex_lt hm] at h
      have hl := congrArg List.length h
      have h1 := List.length_pos_iff.2 hp
      have h2 := List.length_pos_iff.2 hq
      simp at hl
      omega
    · rw [hex_ge (by omega)] at h
      rcases List.eq_nil_or_concat q with e | ⟨q', c, e⟩
      · exact absurd e hq
      · rw [List.concat_eq_append] at e
        rw [e, ← List.append_assoc] at h
        have hh := (List.append_inj' h rfl).1
        by_cases hq' : q' = []
        · rw [hq', List.append_nil] at hh
          exact ⟨m / 16, hh.symm, by omega, by omega⟩
        · obtain ⟨n, h1, h2, h3⟩ := ih (m / 16) (by omega) p q' hp hq' hh
          exact ⟨n, h1, h2, by omega⟩
theorem hex_grow (n d : Nat) (hd : d < 16) (h : n ≠ 0) : hex (n * 16 + d) = hex n ++ [hexB d] := by
  rw [hex_ge (by omega), show (n * 16 + d) / 16 = n by omega, show (n * 16 + d) % 16 = d by omega]

theorem val_le (l : List UInt8) : ∀ r : List UInt8, val l ≤ val (l ++ r) := by
  intro r
  induction r generalizing l with
  | nil => simp
  | cons c r ih =>
    have h1 := ih (l ++ [c])
    rw [val_snoc, List.append_assoc] at h1
    exact Nat.le_trans (by omega) h1
theorem val_take (m j : Nat) (h : j < (hex m).length) : val ((hex m).take (j + 1)) = val ((hex m).take j) * 16 + dig (hex m)[j] ∧ val ((hex m).take (j + 1)) ≤ m := by
  refine ⟨by rw [List.take_succ_eq_append_getElem h, val_snoc], ?_⟩
  have h1 := val_le ((hex m).take (j + 1)) ((hex m).drop (j + 1))
  rw [List.take_append_drop, val_hex] at h1
  exact h1

/-- A number's text: 0x, then its digits. -/
def txt (n : Nat) : ByteArray := ⟨(48 :: 120 :: hex n).toArray⟩
theorem txt_list (n : Nat) : (txt n).data.toList = 48 :: 120 :: hex n := rfl
theorem txt_inj {m n : Nat} (h : txt m = txt n) : m = n := by
  have e := congrArg (fun s : ByteArray => s.data.toList) h
  simp only [txt_list, List.cons.injEq, true_and] at e
  exact hex_inj e

/-- How far a text is read: the first p bytes are those of 0x and of the digits of n (of none, and n is 0, where p is at most 2). -/
def Read (l : List UInt8) (p n : Nat) : Prop :=
  n < 18446744073709551616 ∧ ((p ≤ 2 ∧ n = 0 ∧ l.take p = [48, 120].take p) ∨ (2 < p ∧ l.take p = 48 :: 120 :: hex n))
theorem Read.start (l : List UInt8) : Read l 0 0 := ⟨by omega, .inl ⟨by omega, rfl, by simp⟩⟩
/-- A text that is read up to its end is a number's. -/
theorem Read.done {l : List UInt8} {p n : Nat} (h : Read l p n) (hp : l.length ≤ p) (h3 : 3 ≤ l.length) : l = 48 :: 120 :: hex n := by
  rcases h.2 with ⟨h1, _, _⟩ | ⟨_, h2⟩
  · omega
  · rwa [List.take_of_length_le hp] at h2
theorem take_snoc (l : List UInt8) (p : Nat) (h : p < l.length) : l.take (p + 1) = l.take p ++ [l[p]] := List.take_succ_eq_append_getElem h
/-- One more byte of 0x. -/
theorem Read.sign {l : List UInt8} {p n : Nat} (h : Read l p n) (hp : p < 2) (hl : p < l.length) (hc : [48, 120][p]? = some l[p]) : n = 0 ∧ Read l (p + 1) 0 := by
  rcases h.2 with ⟨_, h2, h3⟩ | ⟨h1, _⟩
  · refine ⟨h2, by omega, .inl ⟨by omega, rfl, ?_⟩⟩
    rw [take_snoc l p hl, h3]
    rcases p with _ | _ | p
    · simp at hc; simp [← hc]
    · simp at hc; simp [← hc]
    · omega
  · omega
/-- One more digit. -/
theorem Read.digit {l : List UInt8} {p n d : Nat} (h : Read l p n) (hp : 2 ≤ p) (hl : p < l.length) (hd : d < 16) (hc : l[p] = hexB d) (hn : n ≤ 1152921504606846975) (hz : 2 < p → n ≠ 0) : Read l (p + 1) (n * 16 + d) := by
  refine ⟨by omega, .inr ⟨by omega, ?_⟩⟩
  rw [take_snoc l p hl, hc]
  rcases h.2 with ⟨h1, h2, h3⟩ | ⟨h1, h2⟩
  · obtain rfl : p = 2 := by omega
    rw [h3, h2, show 0 * 16 + d = d by omega, hex_lt hd]; rfl
  · rw [h2, hex_grow n d hd (hz h1)]; rfl
/-- If the text is a number's: the byte that is read next .. -/
theorem Read.next {m : Nat} {p n : Nat} (h : Read (48 :: 120 :: hex m) p n) (hm : m < 18446744073709551616) (hl : p < (48 :: 120 :: hex m).length) :
    (p < 2 → [48, 120][p]? = some (48 :: 120 :: hex m)[p]) ∧ (2 ≤ p → ∃ d, d < 16 ∧ (48 :: 120 :: hex m)[p] = hexB d) ∧ (2 < p → n ≠ 0) ∧ n ≤ 1152921504606846975 := by
  refine ⟨fun hp => ?_, fun hp => ?_, ?_⟩
  · rcases p with _ | _ | p
    · rfl
    · rfl
    · omega
  · obtain ⟨q, rfl⟩ : ∃ q, p = q + 2 := ⟨p - 2, by omega⟩
    exact hex_mem m _ (List.getElem_mem _)
  · rcases h.2 with ⟨h1, h2, _⟩ | ⟨h1, h2⟩
    · exact ⟨fun hp => by omega, by omega⟩
    · obtain ⟨q, rfl⟩ : ∃ q, p = q + 2 := ⟨p - 2, by omega⟩
      have e : (hex m).take q = hex n := by simpa using h2
      have hq : (hex m).drop q ≠ [] := by
        intro hh
        have := congrArg List.length hh
        simp at this hl
        omega
      obtain ⟨k, hk, h1, h3⟩ := hex_front m (hex n) ((hex m).drop q) (hex_ne n) hq (by rw [← e]; exact (List.take_append_drop q (hex m)).symm)
      obtain rfl := hex_inj hk
      exact ⟨fun _ => by omega, by omega⟩

end Wd

/-
  What word.Text answers, for any number of 64 bits, in every world that has the table of math/bits: 0x and the number's hexadecimal digits; nothing that was there is changed.
-/
namespace Go.Proofs.YtmijnhcbbklmaaaDoor
open Go.ChangeShapes Go.WideShapes Go.ChangeAt Go.RowKit

/-- The one place of the table that is read: that of 16. -/
def Tab (w : World) : Prop := w.cell? ⟨2, 15, none⟩ = some (.int .u8 4) ∧ 2 < w.heap.size
theorem Tab.below {w w' : World} (h : Tab w) (hb : Below w.heap.size w w') : Tab w' :=
  ⟨(hb.cell (p := ⟨2, 15, none⟩) h.2).trans h.1, Nat.lt_of_lt_of_le h.2 hb.size⟩

theorem tz64 (w : World) (ht : Tab w) :
    Calls Tryd.prog 52 #[.int .u64 16] w fun e w' => e = .returned (.int .i64 4) ∧ w = w' := by
  have hc := ht.1
  have he : IntKind.u64.wrap (bits BinOp.and IntKind.u64 16 (IntKind.u64.wrap (-16)) * 285870213051353865) / 288230376151711744 = 15 := by decide
  clear ht
  go_enter Tryd.func52, Tryd.ntmps52
  go_wp2
  go_ret
  exact ⟨rfl, rfl⟩
theorem tz (w : World) (ht : Tab w) :
    Calls Tryd.prog 50 #[.int .u64 16] w fun e w' => e = .returned (.int .i64 4) ∧ w = w' := by
  go_enter Tryd.func50, Tryd.ntmps50
  go_wp2_with (go_at_call 52; refine (tz64 _ ht).mono ?_; rintro e w' ⟨rfl, rfl⟩)
  go_ret
  exact ⟨rfl, rfl⟩
theorem pow2 (w : World) :
    Calls Tryd.prog 49 #[.int .i64 16] w fun e w' => e = .returned (.bool true) ∧ w = w' := by
  have he : (bits BinOp.and IntKind.i64 16 15 == 0) = true := by decide
  go_enter Tryd.func49, Tryd.ntmps49
  go_wp2
  go_ret
  exact ⟨rfl, rfl⟩

/-- What the array of 65 bytes in block g holds from place i on. -/
structure Buf (g : Nat) (w : World) (i : Nat) (suf : List UInt8) : Prop where
  cells : ∀ j, j < 65 → ∃ v : Int, w.cell? ⟨g, j, none⟩ = some (.int .u8 v)
  free : ∀ j, w.frozen? ⟨g, j, none⟩ = false
  has : ∀ j (h : j < suf.length), w.cell? ⟨g, i + j, none⟩ = some (.int .u8 (suf[j].toNat : Int))

theorem Buf.put {g : Nat} {w : World} {i : Nat} {suf : List UInt8} (h : Buf g w (i + 1) suf) (hi : i < 65) (c : UInt8) : Buf g (w.setCell ⟨g, i, none⟩ (.int .u8 (c.toNat : Int))) i (c :: suf) := by
  obtain ⟨v, hv⟩ := h.cells i hi
  refine ⟨fun j hj => ?_, fun j => ?_, fun j hj => ?_⟩
  · by_cases e : j = i
    · subst e; exact ⟨_, World.cell?_setCell_same _ _ _ hv⟩
    · rw [World.cell?_setCell_other _ _ _ _ (by simp)]; exact h.cells j hj
  · rw [World.frozen?_setCell]; exact h.free j
  · cases j with
    | zero => exact World.cell?_setCell_same _ _ _ hv
    | succ j =>
      rw [World.cell?_setCell_other _ _ _ _ (by simp), show i + (j + 1) = i + 1 + j by omega]
      exact h.has j (by simpa using hj)

/-- The cells of a new array of 65 bytes. -/
def zs65 : Array Value := Array.replicate 65 (.int .u8 0)
theorem zs65_at (i : Nat) (h : i < 65) : zs65[i]? = some (.int .u8 0) := by simp [zs65, h]
theorem zs65_ne : zs65 ≠ #[] := by
  intro h
  have e := zs65_at 0 (by omega)
  rw [h] at e
  simp at e
theorem zv65 (w : World) : (zeroValue 74).run Tryd.prog w = .ok (.agg zs65) w := by
  have h : (Tryd.prog.info? 74).map (·.zero) = some (some (.agg zs65)) := by kernel_rfl
  cases hi : Tryd.prog.info? 74 with
  | none => rw [hi] at h; cases h
  | some i =>
    rw [hi] at h
    have h2 : i.zero = some (.agg zs65) := by simpa using h
    simp [zeroValue, typeInfo, hi, h2]
theorem Buf.new (w : World) : Buf w.heap.size (w.alloc (.cells zs65 74)) 65 [] := by
  refine ⟨fun j hj => ⟨0, ?_⟩, fun j => ?_, fun j hj => ?_⟩
  · rw [World.cell?_alloc_new]; exact zs65_at j hj
  · exact World.frozen?_alloc_new _ _ _ _
  · simp at hj

/-- What strconv's table of digits has at place d. -/
theorem digs_at (d : Nat) (h : d < 16) (h' : d < (⟨#[48, 49, 50, 51, 52, 53, 54, 55, 56, 57, 97, 98, 99, 100, 101, 102, 103, 104, 105, 106, 107, 108, 109, 110, 111, 112, 113, 114, 115, 116, 117, 118, 119, 120, 121, 122]⟩ : ByteArray).size) :
    (⟨#[48, 49, 50, 51, 52, 53, 54, 55, 56, 57, 97, 98, 99, 100, 101, 102, 103, 104, 105, 106, 107, 108, 109, 110, 111, 112, 113, 114, 115, 116, 117, 118, 119, 120, 121, 122]⟩ : ByteArray)[d]'h' = Wd.hexB d := by
  rcases d with _ | _ | _ | _ | _ | _ | _ | _ | _ | _ | _ | _ | _ | _ | _ | _ | d
  all_goals first | rfl | omega

set_option maxHeartbeats 1000000 in
set_option maxRecDepth 100000 in
theorem bits16 (n : Nat) (w : World) (hn : n < 18446744073709551616) (ht : Tab w) :
    Calls Tryd.prog 45 #[.slice none 0 0, .int .u64 n, .int .i64 16, .bool false, .bool false] w fun e w' =>
      e = .returned (.tuple #[.slice none 0 0, .string ⟨(Wd.hex n).toArray⟩]) ∧ Below w.heap.size w w' := by
  have hz := zv65
  have hne := zs65_ne
  have hb0 : Below w.heap.size w (w.alloc (.cells zs65 74)) := (Below.refl _ _).alloc (Nat.le_refl _) _
  have ht0 := ht.below hb0
  go_enter Tryd.func45, Tryd.ntmps45
  go_wp2_with (first
    | (go_at_call 49; refine (pow2 _).mono ?_; rintro e w' ⟨rfl, rfl⟩)
    | (go_at_call 50; refine (tz _ ht0).mono ?_; rintro e w' ⟨rfl, rfl⟩))
  clear ht ht0 hz hne
  go_loopw [1, 13] (fun u i w' => ∃ (x k : Nat) (suf : List UInt8), u = .int .u64 x ∧ i = .int .i64 k ∧ 50 ≤ k ∧ k ≤ 65 ∧ x < 16 ^ (k - 49) ∧ suf.length = 65 - k ∧ Wd.hex n = Wd.hex x ++ suf ∧ Buf w.heap.size w' k suf ∧ Below w.heap.size w w') (fun u _ _ => (intOf u).toNat)
  case atStart => exact ⟨n, 65, [], rfl, rfl, by omega, by omega, by simpa using hn, rfl, by simp, Buf.new w, hb0⟩
  case round =>
    obtain ⟨x, k, suf, rfl, rfl, hk0, hk1, hx, hl, he, hB, hW⟩ := hrel
    obtain ⟨m, rfl⟩ : ∃ m, k = m + 1 := ⟨k - 1, by omega⟩
    have hx64 : x < 18446744073709551616 := Nat.lt_of_lt_of_le hx (Wd.pow16_le _ hk1)
    obtain ⟨v, hc⟩ := hB.cells m (by omega)
    have hf := hB.free m
    have HB := Lib.hid hB
    have HW := Lib.hid hW
    have HE := Lib.hid he
    have HL := Lib.hid hl
    have HX := Lib.hid hx
    clear hB hW he hl hx hb0
    by_cases hge : 16 ≤ x
    · have hand : bits .and .u64 (x : Int) 15 = ((x % 16 : Nat) : Int) := Wd.and15 x hx64
      have hm16 : x % 16 < 16 := by omega
      go_wp2
      obtain ⟨h50, hx'⟩ := Wd.pow16_step HX.out hge
      rw [digs_at (x % 16) hm16]
      refine ⟨⟨x / 16, m, Wd.hexB (x % 16) :: suf, by go_num, rfl, h50, by omega, hx', by simp [HL.out]; omega, ?_, HB.out.put (by omega) _, HW.out.setCell (Nat.le_refl _) _⟩, by simp [intOf]; omega⟩
      rw [HE.out, Wd.hex_ge hge]
      simp
    · have hlt : x < 16 := by omega
      have hsl : ∀ W, (Instr.sliceAt 74 (.pointer (some ⟨w.heap.size, 0, none⟩)) (some (.int .i64 (m : Int))) none none).run Tryd.prog W = .ok (.slice (some ⟨w.heap.size, m, none⟩) (65 - m) (65 - m)) W := fun W => by
        rw [run_sliceAt_array_l W 74 ⟨w.heap.size, 0, none⟩ Tryd.underlying74 .i64 (m : Int) (by omega) (by show (m : Int) ≤ 65; omega)]
        go_simp
        omega
      have hcv := run_convert_bytes_back (P := Tryd.prog) (wr.setCell ⟨w.heap.size, m, none⟩ (.int .u8 ((Wd.hexB x).toNat : Int))) 63 9 5 ⟨w.heap.size, m, none⟩ (65 - m) (Wd.hexB x :: suf) Tryd.underlying63 Tryd.underlying5 Tryd.underlying9 (fun j hj => by rw [show (⟨w.heap.size, m, none⟩ : Addr).add j = ⟨w.heap.size, m + j, none⟩ by simp [Addr.add]]; exact (HB.out.put (by omega) _).has j hj)
      rw [show (Wd.hexB x :: suf).length = 65 - m by simp [HL.out]; omega, ← digs_at x hlt (by show x < 36; omega)] at hcv
      clear HL HX
      go_wp2
      go_ret2
      refine ⟨?_, HW.out.setCell (Nat.le_refl _) _⟩
      rw [HE.out, Wd.hex_lt hlt, ← digs_at x hlt (by show x < 36; omega)]
      rfl

theorem fmt_i (n : Nat) (w : World) (hn : n < 18446744073709551616) (ht : Tab w) :
    Calls Tryd.prog 40 #[.int .u64 n, .int .i64 16] w fun e w' => e = .returned (.string ⟨(Wd.hex n).toArray⟩) ∧ Below w.heap.size w w' := by
  go_enter Tryd.func40, Tryd.ntmps40
  go_wp2_with (go_at_call 45; refine (bits16 n _ hn ht).mono ?_; rintro e w' ⟨rfl, hb⟩)
  go_ret
  exact ⟨rfl, hb⟩
theorem fmt_o (n : Nat) (w : World) (hn : n < 18446744073709551616) (ht : Tab w) :
    Calls Tryd.prog 35 #[.int .u64 n, .int .i64 16] w fun e w' => e = .returned (.string ⟨(Wd.hex n).toArray⟩) ∧ Below w.heap.size w w' := by
  go_enter Tryd.func35, Tryd.ntmps35
  go_wp2_with (go_at_call 40; refine (fmt_i n _ hn ht).mono ?_; rintro e w' ⟨rfl, hb⟩)
  go_ret
  exact ⟨rfl, hb⟩

/-- word.Text. -/
theorem text_any (n : Nat) (w : World) (hn : n < 18446744073709551616) (ht : Tab w) :
    Calls Tryd.prog 23 #[.int .u64 n] w fun e w' => e = .returned (.string (Wd.txt n)) ∧ Below w.heap.size w w' := by
  have hl := Wd.hex_len16 n hn
  go_enter Tryd.func23, Tryd.ntmps23
  go_wp2_with (go_at_call 35; refine (fmt_o n _ hn ht).mono ?_; rintro e w' ⟨rfl, hb⟩)
  go_ret
  exact ⟨congrArg (fun s => Ending.returned (.string s)) (Wd.joined [48, 120] (Wd.hex n)), hb⟩
end Go.Proofs.YtmijnhcbbklmaaaDoor

/-
  What word.Parse answers, for any text of at most 2^62 bytes, in every world: the number whose text it is, and OK; or 0 and ErrForm, if it is no number's text. Nothing that was there is changed.
-/
namespace Go.Proofs.YtmijnhcbbklmaaaDoor
open Go.ChangeShapes Go.WideShapes Go.ChangeAt Go.RowKit

theorem ret2u {v v' : Int} {c c' : Bool} (h : v = v') (hc : c = c') : Ending.returned (.tuple #[.int .u64 v, .bool c]) = .returned (.tuple #[.int .u64 v', .bool c']) := by rw [h, hc]

theorem digit_lo (r : Int) (w : World) (h0 : 48 ≤ r) (h1 : r ≤ 57) :
    Calls Tryd.prog 39 #[.int .i32 r] w fun e w' => e = .returned (.tuple #[.int .u64 (r - 48), .bool true]) ∧ w = w' := by
  go_enter Tryd.func39, Tryd.ntmps39
  go_wp2
  go_ret2
  exact ⟨rfl, rfl⟩
theorem digit_hi (r : Int) (w : World) (h0 : 97 ≤ r) (h1 : r ≤ 102) :
    Calls Tryd.prog 39 #[.int .i32 r] w fun e w' => e = .returned (.tuple #[.int .u64 (r - 97 + 10), .bool true]) ∧ w = w' := by
  have h2 : 48 ≤ r := by omega
  have h3 : decide (r ≤ 57) = false := by simp; omega
  go_enter Tryd.func39, Tryd.ntmps39
  go_wp2
  go_ret2
  exact ⟨rfl, rfl⟩
theorem digit_no (r : Int) (w : World) (h : ¬ (48 ≤ r ∧ r ≤ 57) ∧ ¬ (97 ≤ r ∧ r ≤ 102)) :
    Calls Tryd.prog 39 #[.int .i32 r] w fun e w' => e = .returned (.tuple #[.int .u64 0, .bool false]) ∧ w = w' := by
  by_cases h1 : r < 48
  · have h2 : decide (48 ≤ r) = false := by simp; omega
    have h3 : decide (97 ≤ r) = false := by simp; omega
    clear h
    go_enter Tryd.func39, Tryd.ntmps39
    go_wp2
    go_ret2
    exact ⟨rfl, rfl⟩
  · by_cases h4 : r < 97
    · have h2 : decide (48 ≤ r) = true := by simp; omega
      have h5 : decide (r ≤ 57) = false := by simp; omega
      have h3 : decide (97 ≤ r) = false := by simp; omega
      clear h
      go_enter Tryd.func39, Tryd.ntmps39
      go_wp2
      go_ret2
      exact ⟨rfl, rfl⟩
    · have h2 : decide (48 ≤ r) = true := by simp; omega
      have h5 : decide (r ≤ 57) = false := by simp; omega
      have h3 : decide (97 ≤ r) = true := by simp; omega
      have h6 : decide (r ≤ 102) = false := by simp; omega
      clear h
      go_enter Tryd.func39, Tryd.ntmps39
      go_wp2
      go_ret2
      exact ⟨rfl, rfl⟩
theorem digit_yes (d : Nat) (r : Int) (w : World) (hd : d < 16) (hr : r = ((Wd.hexB d).toNat : Int)) :
    Calls Tryd.prog 39 #[.int .i32 r] w fun e w' => e = .returned (.tuple #[.int .u64 d, .bool true]) ∧ w = w' := by
  by_cases h : d < 10
  · rw [Wd.hexB_lo d h] at hr
    refine (digit_lo r w (by omega) (by omega)).mono ?_
    rintro e w' ⟨rfl, rfl⟩
    exact ⟨ret2u (by omega) rfl, rfl⟩
  · rw [Wd.hexB_hi d (by omega) hd] at hr
    refine (digit_hi r w (by omega) (by omega)).mono ?_
    rintro e w' ⟨rfl, rfl⟩
    exact ⟨ret2u (by omega) rfl, rfl⟩

/-- What comes of reading a text. -/
def ParseEnd (s : ByteArray) (e : Ending) : Prop :=
  (∃ n : Nat, n < 18446744073709551616 ∧ s = Wd.txt n ∧ e = .returned (.tuple #[.int .u64 n, .int .i64 0])) ∨
  ((∀ n : Nat, n < 18446744073709551616 → s ≠ Wd.txt n) ∧ e = .returned (.tuple #[.int .u64 0, .int .i64 2]))

theorem not_txt {s : ByteArray} (h : ∀ m : Nat, m < 18446744073709551616 → s.data.toList = 48 :: 120 :: Wd.hex m → False) : ParseEnd s (.returned (.tuple #[.int .u64 0, .int .i64 2])) :=
  .inr ⟨fun m hm e => h m hm (by rw [e]; rfl), rfl⟩

theorem sign0 : wrap32 (((⟨#[48, 120]⟩ : ByteArray)[0]'(by decide)).toNat : Int) = 48 := IntWalk.wrap32_in 48 (by omega)
theorem sign1 : wrap32 (((⟨#[48, 120]⟩ : ByteArray)[1]'(by decide)).toNat : Int) = 120 := IntWalk.wrap32_in 120 (by omega)

/-- Each byte of a number's text is below 128. -/
theorem next_ascii {l : List UInt8} {p n m : Nat} (h : Wd.Read l p n) (e : l = 48 :: 120 :: Wd.hex m) (hm : m < 18446744073709551616) (hl : p < l.length) : ∃ c : UInt8, l[p] = c ∧ c.toNat < 128 := by
  subst e
  obtain ⟨h1, h2, _⟩ := h.next hm hl
  refine ⟨_, rfl, ?_⟩
  by_cases hp : p < 2
  · have := h1 hp
    rcases p with _ | _ | p
    · exact (by decide : (48 : UInt8).toNat < 128)
    · exact (by decide : (120 : UInt8).toNat < 128)
    · omega
  · obtain ⟨d, hd, hc⟩ := h2 (by omega)
    rw [hc]
    by_cases h10 : d < 10
    · rw [Wd.hexB_lo d h10]; omega
    · rw [Wd.hexB_hi d (by omega) hd]; omega

set_option maxHeartbeats 1000000 in
theorem parse_any (s : ByteArray) (w : World) (hs : s.size ≤ 4611686018427387904) :
    Calls Tryd.prog 34 #[.string s] w fun e w' => ParseEnd s e ∧ Below w.heap.size w w' := by
  by_cases h2 : s.size ≤ 2
  · go_enter Tryd.func34, Tryd.ntmps34
    go_wp2
    go_ret2
    refine ⟨not_txt fun m _ e => ?_, Below.refl _ _⟩
    have := congrArg List.length e
    have hp := List.length_pos_iff.2 (Wd.hex_ne m)
    simp at this
    omega
  · have hd2 : decide (s.size ≤ 2) = false := by simpa using h2
    go_enter Tryd.func34, Tryd.ntmps34
    go_wp2
    go_loopw [4] (fun n w' => ∃ (p x : Nat), p ≤ s.size ∧ n = .int .u64 x ∧ w' = w.iter s p ∧ Wd.Read s.data.toList p x) (fun _ w' => s.size - w'.iterPos w.heap.size)
    case atStart => exact ⟨0, 0, by omega, rfl, rfl, Wd.Read.start _⟩
    case round =>
      obtain ⟨p, x, hp, rfl, rfl, hR⟩ := hrel
      have HR := Lib.hid hR
      have hx := hR.1
      have hBw : ∀ q, Below w.heap.size w (w.iter s q) := fun q => (Below.refl _ _).alloc (Nat.le_refl _) _
      have HBw := Lib.hid hBw
      clear hR hBw
      have w48 := sign0
      have w120 := sign1
      by_cases hlt : p < s.size
      · have hlt' : p < s.data.toList.length := hlt
        have hget : s[p] = s.data.toList[p] := rfl
        have HG := Lib.hid hget
        clear hget
        by_cases ha : s[p].toNat < 128
        · have hnx := fun ty => run_next_ascii (P := Tryd.prog) w s p ty hlt ha
          by_cases hp2 : p < 2
          · by_cases hp0 : p = 0
            · obtain rfl := hp0
              by_cases hc : s[0].toNat = 48
              · have hne : ((s[0].toNat : Int) != 48) = false := by simp; omega
                have Hc := Lib.hid hc
                clear hc
                go_wp2
                obtain ⟨h0, hR1⟩ := HR.out.sign hp2 hlt' (by rw [← HG.out]; simp; exact (UInt8.toNat_inj.1 Hc.out).symm)
                refine ⟨⟨1, x, by omega, rfl, rfl, h0 ▸ hR1⟩, ?_⟩
                simp
                omega
              · have hne : ((s[0].toNat : Int) != 48) = true := by simp; omega
                have hfin : ParseEnd s (.returned (.tuple #[.int .u64 0, .int .i64 2])) := not_txt fun m hm e => by
                  apply hc
                  rw [HG.out]
                  simp only [e]
                  rfl
                have HF := Lib.hid hfin
                clear hfin hc
                go_wp2
                go_ret2
                exact ⟨HF.out, HBw.out _⟩
            · obtain rfl : p = 1 := by omega
              by_cases hc : s[1].toNat = 120
              · have hne : ((s[1].toNat : Int) != 120) = false := by simp; omega
                have Hc := Lib.hid hc
                clear hc
                go_wp2
                obtain ⟨h0, hR1⟩ := HR.out.sign hp2 hlt' (by rw [← HG.out]; simp; exact (UInt8.toNat_inj.1 Hc.out).symm)
                refine ⟨⟨2, x, by omega, rfl, rfl, h0 ▸ hR1⟩, ?_⟩
                simp
                omega
              · have hne : ((s[1].toNat : Int) != 120) = true := by simp; omega
                have hfin : ParseEnd s (.returned (.tuple #[.int .u64 0, .int .i64 2])) := not_txt fun m hm e => by
                  apply hc
                  rw [HG.out]
                  simp only [e]
                  rfl
                have HF := Lib.hid hfin
                clear hfin hc
                go_wp2
                go_ret2
                exact ⟨HF.out, HBw.out _⟩
          · by_cases hdg : ∃ d, d < 16 ∧ s[p] = Wd.hexB d
            · obtain ⟨d, hd, hc⟩ := hdg
              have hci : (s[p].toNat : Int) = ((Wd.hexB d).toNat : Int) := by rw [hc]
              by_cases hok : x ≤ 1152921504606846975 ∧ (2 < p → x ≠ 0)
              · obtain ⟨hx60, hz⟩ := hok
                have hR1 := HR.out.digit (by omega) hlt' hd (by rw [← HG.out, hc]) hx60 hz
                have hor := Wd.or16 x d hx60 hd
                have HR1 := Lib.hid hR1
                have Hc := Lib.hid hci
                clear hR1 hc hci HG HR
                by_cases hp3 : 2 < p
                · have hzb : ((x : Int) == 0) = false := by have := hz hp3; simp; omega
                  clear hz
                  go_wp2_with (go_at_call 39; refine (digit_yes d _ _ hd Hc.out).mono ?_; rintro e w' ⟨rfl, rfl⟩)
                  refine ⟨⟨p + 1, x * 16 + d, by omega, rfl, rfl, HR1.out⟩, ?_⟩
                  simp
                  omega
                · obtain rfl : p = 2 := by omega
                  clear hz
                  go_wp2_with (go_at_call 39; refine (digit_yes d _ _ hd Hc.out).mono ?_; rintro e w' ⟨rfl, rfl⟩)
                  refine ⟨⟨2 + 1, x * 16 + d, by omega, rfl, rfl, HR1.out⟩, ?_⟩
                  simp
                  omega
              · have hfin : ParseEnd s (.returned (.tuple #[.int .u64 0, .int .i64 2])) := not_txt fun m hm e => by
                  have hl := hlt'
                  have h1 := HR.out
                  simp only [e] at h1 hl
                  have h3 := h1.next hm hl
                  exact hok ⟨h3.2.2.2, h3.2.2.1⟩
                have HF := Lib.hid hfin
                have Hc := Lib.hid hci
                clear hfin hc hci HG
                by_cases hx60 : x ≤ 1152921504606846975
                · have h23 : 2 < p ∧ x = 0 := by
                    by_cases a : 2 < p
                    · refine ⟨a, ?_⟩
                      by_cases b : x = 0
                      · exact b
                      · exact absurd ⟨hx60, fun _ => b⟩ hok
                    · exact absurd ⟨hx60, fun b => absurd b a⟩ hok
                  obtain ⟨h23, rfl⟩ := h23
                  clear hok
                  go_wp2_with (go_at_call 39; refine (digit_yes d _ _ hd Hc.out).mono ?_; rintro e w' ⟨rfl, rfl⟩)
                  go_ret2
                  exact ⟨HF.out, HBw.out _⟩
                · clear hok
                  go_wp2_with (go_at_call 39; refine (digit_yes d _ _ hd Hc.out).mono ?_; rintro e w' ⟨rfl, rfl⟩)
                  go_ret2
                  exact ⟨HF.out, HBw.out _⟩
            · have hfin : ParseEnd s (.returned (.tuple #[.int .u64 0, .int .i64 2])) := not_txt fun m hm e => by
                have hl := hlt'
                have h1 := HR.out
                simp only [e] at h1 hl
                obtain ⟨d, hd, hc⟩ := (h1.next hm hl).2.1 (by omega)
                refine hdg ⟨d, hd, ?_⟩
                rw [HG.out]
                simp only [e]
                exact hc
              have HF := Lib.hid hfin
              have hno : ¬ (48 ≤ (s[p].toNat : Int) ∧ (s[p].toNat : Int) ≤ 57) ∧ ¬ (97 ≤ (s[p].toNat : Int) ∧ (s[p].toNat : Int) ≤ 102) := by
                refine ⟨fun h => hdg ⟨s[p].toNat - 48, by omega, ?_⟩, fun h => hdg ⟨s[p].toNat - 87, by omega, ?_⟩⟩
                · apply UInt8.toNat_inj.1; rw [Wd.hexB_lo _ (by omega)]; omega
                · apply UInt8.toNat_inj.1; rw [Wd.hexB_hi _ (by omega) (by omega)]; omega
              have Hno := Lib.hid hno
              clear hfin hdg hno HG
              go_wp2_with (go_at_call 39; refine (digit_no _ _ Hno.out).mono ?_; rintro e w' ⟨rfl, rfl⟩)
              go_ret2
              exact ⟨HF.out, HBw.out _⟩
        · have hnx := fun ty => run_next_any (P := Tryd.prog) w s p ty hlt
          have hr0 := (decode_high s p hlt (by omega)).1
          have hr1 := decode_le s p
          have hfin : ParseEnd s (.returned (.tuple #[.int .u64 0, .int .i64 2])) := not_txt fun m hm e => by
            obtain ⟨c, hc, hd⟩ := next_ascii HR.out e hm hlt'
            rw [HG.out, hc] at ha
            exact ha hd
          have HF := Lib.hid hfin
          clear hfin
          by_cases hp2 : p < 2
          · by_cases hp0 : p = 0
            · obtain rfl := hp0
              have hne : (((Utf8.decode s 0).1 : Int) != 48) = true := by simp; omega
              go_wp2
              go_ret2
              exact ⟨HF.out, HBw.out _⟩
            · obtain rfl : p = 1 := by omega
              have hne : (((Utf8.decode s 1).1 : Int) != 120) = true := by simp; omega
              go_wp2
              go_ret2
              exact ⟨HF.out, HBw.out _⟩
          · go_wp2_with (go_at_call 39; refine (digit_no _ _ (by omega)).mono ?_; rintro e w' ⟨rfl, rfl⟩)
            go_ret2
            exact ⟨HF.out, HBw.out _⟩
      · have hnx := fun ty => run_next_end (P := Tryd.prog) w s p ty hlt
        go_wp2
        go_ret2
        refine ⟨.inl ⟨x, hx, ?_, rfl⟩, HBw.out _⟩
        apply ByteArray.ext
        apply Array.ext'
        exact HR.out.done (by show s.size ≤ p; omega) (by show 3 ≤ s.size; omega)
end Go.Proofs.YtmijnhcbbklmaaaDoor

/-
  A number's text is read as the number (word.Parse at word.Text's answers), in every world.
-/
namespace Go.Proofs.YtmijnhcbbklmaaaDoor
open Go.ChangeShapes Go.WideShapes Go.ChangeAt Go.RowKit

theorem parse_txt (n : Nat) (hn : n < 18446744073709551616) (w : World) :
    Calls Tryd.prog 34 #[.string (Wd.txt n)] w fun e w' => e = .returned (.tuple #[.int .u64 n, .int .i64 0]) ∧ Below w.heap.size w w' := by
  have hl := Wd.hex_len16 n hn
  refine (parse_any (Wd.txt n) w (by show (48 :: 120 :: Wd.hex n).length ≤ _; simp; omega)).mono ?_
  rintro e w' ⟨he, hb⟩
  refine ⟨?_, hb⟩
  rcases he with ⟨m, hm, h1, rfl⟩ | ⟨h1, _⟩
  · rw [Wd.txt_inj h1]
  · exact absurd rfl (h1 n hn)
end Go.Proofs.YtmijnhcbbklmaaaDoor
