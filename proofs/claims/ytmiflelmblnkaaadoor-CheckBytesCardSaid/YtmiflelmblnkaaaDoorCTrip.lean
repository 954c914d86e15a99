/-
  Bytes of a filter are read as the filter, and what was read has just these bytes: plain lists.
-/
import Derived.Test.YtmiflelmblnkaaaDoorCDec
import Derived.Test.YtmiflelmblnkaaaDoorCEnc
namespace Go.Proofs.YtmiflelmblnkaaaDoor

theorem x8_front (P B : List UInt8) (o : Nat) : x8 (P ++ B) (P.length + o) = x8 B o := by
  unfold x8
  rw [numAt_front, Nat.add_assoc, Nat.add_assoc, Nat.add_assoc, numAt_front, numAt_front, numAt_front]
theorem x8_behind (E S : List UInt8) (h : E.length = 8) : x8 (E ++ S) 0 = x8 E 0 := by
  unfold x8
  rw [numAt_behind _ _ _ _ (by omega), numAt_behind _ _ _ _ (by omega), numAt_behind _ _ _ _ (by omega), numAt_behind _ _ _ _ (by omega)]
theorem x8s_cons (E B : List UInt8) (h : E.length = 8) : x8s (E ++ B) = x8 E 0 :: x8s B := by
  unfold x8s
  rw [List.length_append, h, show (8 + B.length) / 8 = B.length / 8 + 1 by omega, List.range_succ_eq_map, List.map_cons, List.map_map, x8_behind E B h]
  congr 1
  apply List.map_congr_left
  intro i _
  show x8 (E ++ B) (8 * (i + 1)) = _
  rw [show 8 * (i + 1) = E.length + 8 * i by omega, x8_front]
theorem x8_enc {x : X4} (h : x.right = true) (hk : x.ok) : x8 (encX x) 0 = x := by
  obtain ⟨o, a, b, c, rfl, ho, ha, hb, hc⟩ := right_nats h hk
  have e : encX ⟨o, a, b, c⟩ = [byteAt o 0, byteAt o 1, byteAt a 0, byteAt b 0, byteAt c 0, byteAt c 1, byteAt c 2, byteAt c 3] := rfl
  rw [e]
  have b0 := byteAt_val o 0
  have b1 := byteAt_val o 1
  have b2 := byteAt_val a 0
  have b3 := byteAt_val b 0
  have c0 := byteAt_val c 0
  have c1 := byteAt_val c 1
  have c2 := byteAt_val c 2
  have c3 := byteAt_val c 3
  simp only [Nat.mul_zero, Nat.pow_zero, Nat.div_one, Nat.mul_one, Nat.reduceMul, Nat.reducePow] at b0 b1 b2 b3 c0 c1 c2 c3
  unfold x8
  simp only [numAt, List.getD_eq_getElem?_getD, List.getElem?_cons_succ, List.getElem?_cons_zero, Option.getD_some, Nat.reduceAdd, Nat.zero_add, Nat.reduceMul, Nat.mul_zero, Nat.pow_zero, Nat.mul_one, Nat.reducePow]
  simp only [X4.mk.injEq]
  refine ⟨?_, ?_, ?_, ?_⟩ <;> omega
theorem enc_x8 (E : List UInt8) (h : E.length = 8) : encX (x8 E 0) = E := by
  match E, h with
  | [e0, e1, e2, e3, e4, e5, e6, e7], _ =>
    have h0 := UInt8.toNat_lt e0
    have h1 := UInt8.toNat_lt e1
    have h2 := UInt8.toNat_lt e2
    have h3 := UInt8.toNat_lt e3
    have h4 := UInt8.toNat_lt e4
    have h5 := UInt8.toNat_lt e5
    have h6 := UInt8.toNat_lt e6
    have h7 := UInt8.toNat_lt e7
    have e : x8 [e0, e1, e2, e3, e4, e5, e6, e7] 0 = ⟨((e0.toNat + e1.toNat * 256 : Nat) : Int), (e2.toNat : Int), (e3.toNat : Int), ((e4.toNat + e5.toNat * 256 + e6.toNat * 65536 + e7.toNat * 16777216 : Nat) : Int)⟩ := by
      unfold x8
      simp only [numAt, List.getD_eq_getElem?_getD, List.getElem?_cons_succ, List.getElem?_cons_zero, Option.getD_some, Nat.reduceAdd, Nat.zero_add, Nat.reduceMul, Nat.mul_zero, Nat.pow_zero, Nat.mul_one, Nat.reducePow]
    rw [e]
    show [byteAt _ 0, byteAt _ 1, byteAt _ 0, byteAt _ 0, byteAt _ 0, byteAt _ 1, byteAt _ 2, byteAt _ 3] = _
    simp only [Int.toNat_natCast, byteAt, Nat.mul_zero, Nat.pow_zero, Nat.div_one, Nat.mul_one, Nat.reduceMul, Nat.reducePow]
    rw [ofNat_is _ e0 (by omega), ofNat_is _ e1 (by omega), ofNat_is _ e2 (by omega), ofNat_is _ e3 (by omega), ofNat_is _ e4 (by omega), ofNat_is _ e5 (by omega), ofNat_is _ e6 (by omega), ofNat_is _ e7 (by omega)]
theorem x8s_enc : ∀ l : List X4, l.all X4.right = true → (∀ x ∈ l, x.ok) → x8s (l.flatMap encX) = l
  | [], _, _ => rfl
  | x :: l, hr, hk => by
    rw [List.all_cons, Bool.and_eq_true] at hr
    rw [List.flatMap_cons, x8s_cons _ _ (encX_len x), x8_enc hr.1 (hk x List.mem_cons_self), x8s_enc l hr.2 (fun y hy => hk y (List.mem_cons_of_mem _ hy))]
theorem enc_x8s : ∀ (n : Nat) (b : List UInt8), b.length = 8 * n → (x8s b).flatMap encX = b
  | 0, b, h => by
    obtain rfl := List.eq_nil_of_length_eq_zero (by omega : b.length = 0)
    rfl
  | n + 1, b, h => by
    have e : b = b.take 8 ++ b.drop 8 := (List.take_append_drop 8 b).symm
    have h8 : (b.take 8).length = 8 := by rw [List.length_take]; omega
    have h1 := enc_x8s n (b.drop 8) (by rw [List.length_drop]; omega)
    have h2 : x8s b = x8 (b.take 8) 0 :: x8s (b.drop 8) := by
      have := x8s_cons (b.take 8) (b.drop 8) h8
      rwa [← e] at this
    rw [h2, List.flatMap_cons, enc_x8 _ h8, h1]
    exact e.symm
/-- A filter's bytes are read as it. -/
theorem dec_enc {l : List X4} (h : ferr l = 0) (hk : ∀ x ∈ l, x.ok) : derr (encL l) = 0 ∧ decL (encL l) = l := by
  obtain ⟨h1, h2⟩ := ferr_zero h
  have hx := x8s_enc l h2 hk
  have hd : derr (encL l) = 0 := by
    rw [encL_ok h]
    unfold derr
    rw [hx, if_neg (by rw [enc_len]; omega), if_neg (by rw [enc_len]; omega), if_pos h2]
  refine ⟨hd, ?_⟩
  rw [decL_ok hd, encL_ok h, hx]
theorem derr_zero {b : List UInt8} (h : derr b = 0) : b.length ≤ 32768 ∧ b.length % 8 = 0 ∧ (x8s b).all X4.right = true := by
  unfold derr at h
  by_cases h1 : 32768 < b.length
  · rw [if_pos h1] at h; cases h
  rw [if_neg h1] at h
  by_cases h2 : b.length % 8 = 0
  · rw [if_neg (by omega)] at h
    by_cases h3 : (x8s b).all X4.right = true
    · exact ⟨by omega, h2, h3⟩
    · rw [if_neg h3] at h; cases h
  · rw [if_pos h2] at h; cases h
theorem x8s_ok (b : List UInt8) : ∀ x ∈ x8s b, x.ok := by
  intro x hx
  unfold x8s at hx
  obtain ⟨i, _, rfl⟩ := List.mem_map.1 hx
  exact x8_ok b _
theorem decL_ok' (b : List UInt8) : ∀ x ∈ decL b, x.ok := by
  unfold decL
  split
  · exact x8s_ok b
  · simp
/-- What was read has just these bytes. -/
theorem enc_dec {b : List UInt8} (h : derr b = 0) : ferr (decL b) = 0 ∧ encL (decL b) = b := by
  obtain ⟨h1, h2, h3⟩ := derr_zero h
  rw [decL_ok h]
  have hf : ferr (x8s b) = 0 := ferr_of (by rw [x8s_len]; omega) h3
  refine ⟨hf, ?_⟩
  rw [encL_ok hf]
  exact enc_x8s (b.length / 8) b (by omega)
end Go.Proofs.YtmiflelmblnkaaaDoor
