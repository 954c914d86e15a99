/-
  The document's own way (package hurdleref04): low and number; pieces of bytes.
-/
import Derived.Test.YtlklgifpdneolaaDLeaf
import Derived.Lib.OthersKept
namespace Go.Proofs.Ytlklgifpdneolaa
open Go.ChangeShapes Go.WideShapes Go.ChangeAt Go.RowKit
set_option maxRecDepth 20000

theorem byte_step (N k : Nat) : N / 2 ^ (8 * k) / 256 = N / 2 ^ (8 * (k + 1)) := by
  rw [Nat.div_div_eq_div_mul, show 8 * (k + 1) = 8 * k + 8 by omega, Nat.pow_add]
theorem numAt_cons (l : List UInt8) (o sz : Nat) : numAt l o (sz + 1) = (l.getD o 0).toNat + 256 * numAt l (o + 1) sz := by
  induction sz with
  | zero => simp [numAt]
  | succ n ih =>
    have e1 : numAt l o (n + 1 + 1) = numAt l o (n + 1) + (l.getD (o + (n + 1)) 0).toNat * 2 ^ (8 * (n + 1)) := rfl
    have e2 : numAt l (o + 1) (n + 1) = numAt l (o + 1) n + (l.getD (o + 1 + n) 0).toNat * 2 ^ (8 * n) := rfl
    rw [e1, ih, e2, show o + 1 + n = o + (n + 1) by omega, show 8 * (n + 1) = 8 * n + 8 by omega, Nat.pow_add, Nat.mul_add]
    have h8 : (2 : Nat) ^ 8 = 256 := by decide
    rw [h8, ← Nat.mul_assoc, Nat.mul_comm _ 256]
    omega

set_option maxHeartbeats 1000000 in
theorem lowb_any (N sz : Nat) (hsz : sz ≤ 8) (hN : N < 18446744073709551616) (w : World) :
    Calls Try.prog 23 #[.int .u64 N, .int .i64 sz] w fun e w' => ∃ v', e = .returned v' ∧ w'.ownsRow w.heap.size 5 1 v' sz (bcells (lowBytes N sz)) ∧ Below w.heap.size w w' := by
  obtain ⟨i0, hi, hz0, hz1, hz2⟩ := info_parts info8
  go_enter Try.func23, Try.ntmps23
  go_wp2_with fail
  go_loopw [0, 5, 6] (fun v u i wr => ∃ k M : Nat, k ≤ sz ∧ M = N / 2 ^ (8 * k) ∧ v = .int .u64 M ∧ i = .int .i64 k ∧ wr.ownsRow w.heap.size 5 1 u k (bcells (lowBytes N k)) ∧ Below w.heap.size w wr) (fun _ _ i _ => sz - (intOf i).toNat)
  case atStart => exact ⟨0, N, by omega, by simp, rfl, rfl, by simpa [lowBytes] using World.ownsRow_nil _ _ _ _, Below.refl _ _⟩
  case round =>
    obtain ⟨k, M, hk, hM, rfl, rfl, hO1, hB1⟩ := hrel
    have HO1 := Lib.hid hO1
    have HB1 := Lib.hid hB1
    have hbw := hB1.size
    have hM64 : M < 18446744073709551616 := by rw [hM]; exact Nat.lt_of_le_of_lt (Nat.div_le_self _ _) hN
    have HV : Hid (bcells [byteAt N k] = [.int .u8 ((M : Int) % 256)]) := Lib.hid (by
      simp only [List.map_cons, List.map_nil, byteAt_val, ← hM]
      simp)
    have HM2 : Hid (M / 256 = N / 2 ^ (8 * (k + 1))) := Lib.hid (by rw [hM, byte_step])
    clear hO1 hB1 hM
    by_cases hlt : k < sz
    · go_wp2_with (at_builtin; refine wpList_append_own _ rfl _ _ 27 rfl w.heap.size 5 i0 (.int .u8 0) 1 1 Try.underlying27 hi hz0 hz1 hz2 rfl (by decide) _ _ _ rfl (HO1.out.alloc _) ⟨wr.heap.size, 0, none⟩ 1 1 [.int .u8 ((M : Int) % 256)] rfl rfl (new_at wr #[.int .u8 ((M : Int) % 256)] 5) (by simp [Value.oneCell']) (by unfold maxLen; omega) (by omega) (by rw [size_alloc]; omega) ?_)
      intro v2 w2 hown2 hgrow2 _
      have HB2 := Lib.hid (grown_below (HB1.out.alloc hbw (.cells #[.int .u8 ((M : Int) % 256)] 5)) (HO1.out.alloc _) hgrow2 (by rw [size_alloc]; omega))
      have HO2 : Hid (w2.ownsRow w.heap.size 5 1 v2 (k + 1) (bcells (lowBytes N (k + 1)))) := Lib.hid (by
        rw [lowBytes_succ, bcells_app, HV.out]
        exact hown2)
      clear hgrow2 hown2 HO1 HB1 HV
      go_wp2_with fail
      go_roundw
      case rel => exact ⟨k + 1, M / 256, by omega, HM2.out, by go_num, by go_num, HO2.out, HB2.out⟩
      case measure => simp [intOf]; omega
    · obtain rfl : k = sz := by omega
      go_wp2_with fail
      go_ret
      exact ⟨_, rfl, HO1.out, HB1.out⟩

set_option maxHeartbeats 1000000 in
theorem num_any (v : Value) (b : List UInt8) (w : World) (hb : BAt w v b) (h8 : b.length ≤ 8) :
    Calls Try.prog 24 #[v] w fun e w' => e = .returned (.int .u64 ((numAt b 0 b.length : Nat) : Int)) ∧ w = w' := by
  obtain ⟨ao, cap, rfl, hcap, hmax, hD⟩ := hb
  have HD := Lib.hid hD
  clear hD
  go_enter Try.func24, Try.ntmps24
  go_wp2_with fail
  go_loop [3, 4] (fun u i => ∃ (j M : Nat) (z : Int), j ≤ b.length ∧ z = (j : Int) - 1 ∧ i = .int .i64 z ∧ M = numAt b j (b.length - j) ∧ u = .int .u64 M) (fun _ i => (intOf i + 1).toNat)
  case atStart => exact ⟨b.length, 0, (b.length : Int) - 1, by omega, rfl, rfl, by simp [numAt], rfl⟩
  case round =>
    obtain ⟨j, M, z, hj, hz, rfl, hM, rfl⟩ := hrel
    have HM := Lib.hid hM
    by_cases h0 : 0 < j
    · obtain ⟨g, off, rfl, hg, hc⟩ : ∃ g off, ao = some ⟨g, off, none⟩ ∧ g < w.heap.size ∧ ∀ i (h : i < b.length), w.cell? ⟨g, off + i, none⟩ = some (.int .u8 ((b[i]).toNat : Int)) := by
        rcases HD.out with h0' | h
        · rw [h0'] at hj; simp at hj; omega
        · exact h
      obtain ⟨i, rfl⟩ : ∃ i, j = i + 1 := ⟨j - 1, by omega⟩
      obtain rfl : z = (i : Int) := by omega
      have hMl : M < 2 ^ 56 := by
        rw [hM]
        refine Nat.lt_of_lt_of_le (numAt_lt _ _ _) (Nat.pow_le_pow_right (by omega) (by omega))
      have c0 : w.cell? ⟨g, off + i, none⟩ = some (.int .u8 ((b.getD i 0).toNat : Int)) := by
        rw [hc i (by omega), List.getD_eq_getElem?_getD, List.getElem?_eq_getElem (by omega)]
        rfl
      have hcl := UInt8.toNat_lt (b.getD i 0)
      have HN : Hid (numAt b i (b.length - i) = (b.getD i 0).toNat + 256 * M) := Lib.hid (by
        rw [show b.length - i = (b.length - (i + 1)) + 1 by omega, numAt_cons, hM])
      generalize (b.getD i 0).toNat = c at *
      clear hc hM hz
      simp at hMl
      go_wp2_with fail
      refine ⟨⟨i, c + 256 * M, (i : Int) - 1, by omega, rfl, by go_num, HN.out.symm, by go_num⟩, by simp [intOf] <;> omega⟩
    · obtain rfl : j = 0 := by omega
      obtain rfl : z = -1 := by omega
      clear hM hz
      rw [Nat.sub_zero] at HM
      go_wp2_with fail
      go_ret
      exact ⟨by rw [HM.out]; rfl, rfl⟩
/-- Pieces of bytes. -/
theorem BAt.sub {w : World} {v : Value} {b : List UInt8} (h : BAt w v b) (lo hi : Nat) (x y : Int) (hx : x = lo) (hy : y = hi) (hlh : lo ≤ hi) (hh : hi ≤ b.length) :
    ∃ v', (∀ W, (Instr.slice 27 v (some (.int .i64 x)) (some (.int .i64 y)) none).run Try.prog W = .ok v' W) ∧ BAt w v' ((b.drop lo).take (hi - lo)) := by
  subst hx hy
  obtain ⟨ao, cap, rfl, hcap, hmax, hD⟩ := h
  have hl : ((b.drop lo).take (hi - lo)).length = hi - lo := by rw [List.length_take, List.length_drop]; omega
  rcases hD with rfl | ⟨g, off, rfl, hg, hc⟩
  · simp at hh
    subst hh
    obtain rfl : lo = 0 := by omega
    cases ao with
    | none => exact ⟨.slice none 0 cap, fun W => by go_simp, none, cap, rfl, hcap, hmax, .inl rfl⟩
    | some a => exact ⟨.slice (some a) 0 cap, fun W => by go_simp, some a, cap, rfl, hcap, hmax, .inl rfl⟩
  · by_cases hc1 : cap = lo
    · refine ⟨.slice (some ⟨g, off, none⟩) (hi - lo) 0, fun W => ?_, some ⟨g, off, none⟩, 0, by rw [hl], by omega, by omega, .inl ?_⟩
      · obtain rfl : lo = hi := by omega
        subst hc1
        go_simp
      · exact List.eq_nil_of_length_eq_zero (by omega)
    · refine ⟨.slice (some ⟨g, off + lo, none⟩) (hi - lo) (cap - lo), fun W => ?_, some ⟨g, off + lo, none⟩, cap - lo, by rw [hl], by omega, by omega, .inr ⟨g, off + lo, rfl, hg, fun i hi' => ?_⟩⟩
      · go_simp
        intro h
        omega
      · rw [Nat.add_assoc, hc (lo + i) (by omega)]
        simp
theorem BAt.upto {w : World} {v : Value} {b : List UInt8} (h : BAt w v b) (hi : Nat) (y : Int) (hy : y = hi) (hh : hi ≤ b.length) :
    ∃ v', (∀ W, (Instr.slice 27 v none (some (.int .i64 y)) none).run Try.prog W = .ok v' W) ∧ BAt w v' (b.take hi) := by
  subst hy
  obtain ⟨ao, cap, rfl, hcap, hmax, hD⟩ := h
  have hl : (b.take hi).length = hi := by rw [List.length_take]; omega
  rcases hD with rfl | ⟨g, off, rfl, hg, hc⟩
  · simp at hh
    subst hh
    cases ao with
    | none => exact ⟨.slice none 0 cap, fun W => by go_simp, none, cap, rfl, hcap, hmax, .inl rfl⟩
    | some a => exact ⟨.slice (some a) 0 cap, fun W => by go_simp, some a, cap, rfl, hcap, hmax, .inl rfl⟩
  · refine ⟨.slice (some ⟨g, off, none⟩) hi cap, fun W => ?_, some ⟨g, off, none⟩, cap, by rw [hl], by omega, by omega, .inr ⟨g, off, rfl, hg, fun i hi' => ?_⟩⟩
    · go_simp
      (try (intro h; omega))
    · rw [hc i (by omega)]
      simp
theorem BAt.past {w : World} {v : Value} {b : List UInt8} (h : BAt w v b) (lo : Nat) (x : Int) (hx : x = lo) (hh : lo ≤ b.length) :
    ∃ v', (∀ W, (Instr.slice 27 v (some (.int .i64 x)) none none).run Try.prog W = .ok v' W) ∧ BAt w v' (b.drop lo) := by
  subst hx
  obtain ⟨ao, cap, rfl, hcap, hmax, hD⟩ := h
  have hl : (b.drop lo).length = b.length - lo := List.length_drop
  rcases hD with rfl | ⟨g, off, rfl, hg, hc⟩
  · simp at hh
    subst hh
    cases ao with
    | none => exact ⟨.slice none 0 cap, fun W => by go_simp, none, cap, rfl, hcap, hmax, .inl rfl⟩
    | some a => exact ⟨.slice (some a) 0 cap, fun W => by go_simp, some a, cap, rfl, hcap, hmax, .inl rfl⟩
  · by_cases hc1 : cap = lo
    · refine ⟨.slice (some ⟨g, off, none⟩) (b.length - lo) 0, fun W => ?_, some ⟨g, off, none⟩, 0, by rw [hl], by omega, by omega, .inl ?_⟩
      · subst hc1
        go_simp
        (try (intro h; omega))
      · exact List.eq_nil_of_length_eq_zero (by omega)
    · refine ⟨.slice (some ⟨g, off + lo, none⟩) (b.length - lo) (cap - lo), fun W => ?_, some ⟨g, off + lo, none⟩, cap - lo, by rw [hl], by omega, by omega, .inr ⟨g, off + lo, rfl, hg, fun i hi' => ?_⟩⟩
      · go_simp
        (try (intro h; omega))
      · rw [Nat.add_assoc, hc (lo + i) (by omega)]
        simp
theorem numAt_sub (b : List UInt8) (lo n : Nat) (h : lo + n ≤ b.length) : numAt ((b.drop lo).take n) 0 n = numAt b lo n := by
  have e : b = b.take lo ++ ((b.drop lo).take n ++ (b.drop lo).drop n) := by rw [List.take_append_drop, List.take_append_drop]
  have hl : (b.take lo).length = lo := by rw [List.length_take]; omega
  have hr : ((b.drop lo).take n).length = n := by rw [List.length_take, List.length_drop]; omega
  have h1 := numAt_front (b.take lo) ((b.drop lo).take n ++ (b.drop lo).drop n) 0 n
  rw [← e, hl, Nat.add_zero, numAt_behind _ _ _ _ (by rw [hr]; omega)] at h1
  exact h1.symm
theorem numAt_eight (b : List UInt8) (o : Nat) : numAt b o 8 = numAt b o 4 + numAt b (o + 4) 4 * 4294967296 := by
  simp only [numAt, Nat.add_assoc, Nat.reduceAdd, Nat.zero_add, Nat.mul_zero, Nat.pow_zero, Nat.mul_one, Nat.reduceMul, Nat.reducePow, Nat.add_zero]
  omega
end Go.Proofs.Ytlklgifpdneolaa
