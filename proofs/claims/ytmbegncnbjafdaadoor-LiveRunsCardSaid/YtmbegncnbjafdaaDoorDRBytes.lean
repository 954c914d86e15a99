/-
  The document's own way (package hurdleref04): low and number; pieces of bytes.
-/
import Derived.Test.YtmbegncnbjafdaaDoorDWord
import Derived.Lib.OthersKept
import Derived.Deep.RegionHeld3
import Derived.BigRegion
namespace Go.Proofs.YtmbegncnbjafdaaDoor
open Go.ChangeShapes Go.WideShapes Go.ChangeAt Go.RowKit
set_option maxRecDepth 20000

theorem byte_step (N k : Nat) : N / 2 ^ (8 * k) / 256 = N / 2 ^ (8 * (k + 1)) := by
  rw [Nat.div_div_eq_div_mul, show 8 * (k + 1) = 8 * k + 8 by omega, Nat.pow_add]
theorem numAt_cons (l : List UInt8) (o sz : Nat) : numAt l o (sz + 1) = (l.getD o 0).toNat + 256 * numAt l (o + 1) sz := by
  induction sz with
  | zero => simp [numAt]
  | succ n ih =>
    have e1 : numAt l o (n + 1 + 1) = numAt l o (n + 1) + (l.getD (o + (n + 1)) 0).toNat * 2 ^ (8 * (n + 1)) := rfl
    have e2 : numAt l (o + 1) (n + 1) = numAt l (o + 1) n + (l.getD (o + 1 + n) 0).toNat * 2 ^ (8 * n) := rfl
    rw [e1, ih, e2, show o + 1 + n = o + (n + 1) by omega, show 8 * (n + 1) = 8 * n + 8 by omega, Nat.pow_add, Nat.mul_add]
    have h8 : (2 : Nat) ^ 8 = 256 := by decide
    rw [h8, ← Nat.mul_assoc, Nat.mul_comm _ 256]
    omega

set_option maxHeartbeats 1000000 in
theorem lowb_any (N sz : Nat) (hsz : sz ≤ 8) (hN : N < 18446744073709551616) (w : World) :
    Calls Tryd.prog 88 #[.int .u64 N, .int .i64 sz] w fun e w' => ∃ v', e = .returned v' ∧ w'.ownsRow w.heap.size 5 1 v' sz (bcells (lowBytes N sz)) ∧ Below w.heap.size w w' := by
  obtain ⟨i0, hi, hz0, hz1, hz2⟩ := info_parts info8
  go_enter Tryd.func88, Tryd.ntmps88
  go_wp2_with fail
  go_loopw [0, 5, 6] (fun v u i wr => ∃ k M : Nat, k ≤ sz ∧ M = N / 2 ^ (8 * k) ∧ v = .int .u64 M ∧ i = .int .i64 k ∧ wr.ownsRow w.heap.size 5 1 u k (bcells (lowBytes N k)) ∧ Below w.heap.size w wr) (fun _ _ i _ => sz - (intOf i).toNat)
  case atStart => exact ⟨0, N, by omega, by simp, rfl, rfl, by simpa [lowBytes] using World.ownsRow_nil _ _ _ _, Below.refl _ _⟩
  case round =>
    obtain ⟨k, M, hk, hM, rfl, rfl, hO1, hB1⟩ := hrel
    have HO1 := Lib.hid hO1
    have HB1 := Lib.hid hB1
    have hbw := hB1.size
    have hM64 : M < 18446744073709551616 := by rw [hM]; exact Nat.lt_of_le_of_lt (Nat.div_le_self _ _) hN
    have HV : Hid (bcells [byteAt N k] = [.int .u8 ((M : Int) % 256)]) := Lib.hid (by
      simp only [List.map_cons, List.map_nil, byteAt_val, ← hM]
      simp)
    have HM2 : Hid (M / 256 = N / 2 ^ (8 * (k + 1))) := Lib.hid (by rw [hM, byte_step])
    clear hO1 hB1 hM
    by_cases hlt : k < sz
    · go_wp2_with (at_builtin; refine wpList_append_own _ rfl _ _ 105 rfl w.heap.size 5 i0 (.int .u8 0) 1 1 Tryd.underlying105 hi hz0 hz1 hz2 rfl (by decide) _ _ _ rfl (HO1.out.alloc _) ⟨wr.heap.size, 0, none⟩ 1 1 [.int .u8 ((M : Int) % 256)] rfl rfl (new_at wr #[.int .u8 ((M : Int) % 256)] 5) (by simp [Value.oneCell']) (by unfold maxLen; omega) (by omega) (by rw [size_alloc]; omega) ?_)
      intro v2 w2 hown2 hgrow2 _
      have HB2 := Lib.hid (grown_below (HB1.out.alloc hbw (.cells #[.int .u8 ((M : Int) % 256)] 5)) (HO1.out.alloc _) hgrow2 (by rw [size_alloc]; omega))
      have HO2 : Hid (w2.ownsRow w.heap.size 5 1 v2 (k + 1) (bcells (lowBytes N (k + 1)))) := Lib.hid (by
        rw [lowBytes_succ, bcells_app, HV.out]
        exact hown2)
      clear hgrow2 hown2 HO1 HB1 HV
      go_wp2_with fail
      go_roundw
      case rel => exact ⟨k + 1, M / 256, by omega, HM2.out, by go_num, by go_num, HO2.out, HB2.out⟩
      case measure => simp [intOf]; omega
    · obtain rfl : k = sz := by omega
      go_wp2_with fail
      go_ret
      exact ⟨_, rfl, HO1.out, HB1.out⟩

set_option maxHeartbeats 1000000 in
theorem num_any (v : Value) (b : List UInt8) (w : World) (hb : BAt w v b) (h8 : b.length ≤ 8) :
    Calls Tryd.prog 70 #[v] w fun e w' => e = .returned (.int .u64 ((numAt b 0 b.length : Nat) : Int)) ∧ w = w' := by
  obtain ⟨ao, cap, rfl, hcap, hmax, hD⟩ := hb
  have HD := Lib.hid hD
  clear hD
  go_enter Tryd.func70, Tryd.ntmps70
  go_wp2_with fail
  go_loop [3, 4] (fun u i => ∃ (j M : Nat) (z : Int), j ≤ b.length ∧ z = (j : Int) - 1 ∧ i = .int .i64 z ∧ M = numAt b j (b.length - j) ∧ u = .int .u64 M) (fun _ i => (intOf i + 1).toNat)
  case atStart => exact ⟨b.length, 0, (b.length : Int) - 1, by omega, rfl, rfl, by simp [numAt], rfl⟩
  case round =>
    obtain ⟨j, M, z, hj, hz, rfl, hM, rfl⟩ := hrel
    have HM := Lib.hid hM
    by_cases h0 : 0 < j
    · obtain ⟨g, off, rfl, hg, hc⟩ : ∃ g off, ao = some ⟨g, off, none⟩ ∧ g < w.heap.size ∧ ∀ i (h : i < b.length), w.cell? ⟨g, off + i, none⟩ = some (.int .u8 ((b[i]).toNat : Int)) := by
        rcases HD.out with h0' | h
        · rw [h0'] at hj; simp at hj; omega
        · exact h
      obtain ⟨i, rfl⟩ : ∃ i, j = i + 1 := ⟨j - 1, by omega⟩
      obtain rfl : z = (i : Int) := by omega
      have hMl : M < 2 ^ 56 := by
        rw [hM]
        refine Nat.lt_of_lt_of_le (numAt_lt _ _ _) (Nat.pow_le_pow_right (by omega) (by omega))
      have c0 : w.cell? ⟨g, off + i, none⟩ = some (.int .u8 ((b.getD i 0).toNat : Int)) := by
        rw [hc i (by omega), List.getD_eq_getElem?_getD, List.getElem?_eq_getElem (by omega)]
        rfl
      have hcl := UInt8.toNat_lt (b.getD i 0)
      have HN : Hid (numAt b i (b.length - i) = (b.getD i 0).toNat + 256 * M) := Lib.hid (by
        rw [show b.length - i = (b.length - (i + 1)) + 1 by omega, numAt_cons, hM])
      generalize (b.getD i 0).toNat = c at *
      clear hc hM hz
      simp at hMl
      go_wp2_with fail
      refine ⟨⟨i, c + 256 * M, (i : Int) - 1, by omega, rfl, by go_num, HN.out.symm, by go_num⟩, by simp [intOf] <;> omega⟩
    · obtain rfl : j = 0 := by omega
      obtain rfl : z = -1 := by omega
      clear hM hz
      rw [Nat.sub_zero] at HM
      go_wp2_with fail
      go_ret
      exact ⟨by rw [HM.out]; rfl, rfl⟩
/-- Pieces of bytes. -/
theorem BAt.sub {w : World} {v : Value} {b : List UInt8} (h : BAt w v b) (lo hi : Nat) (x y : Int) (hx : x = lo) (hy : y = hi) (hlh : lo ≤ hi) (hh : hi ≤ b.length) :
    ∃ v', (∀ W, (Instr.slice 105 v (some (.int .i64 x)) (some (.int .i64 y)) none).run Tryd.prog W = .ok v' W) ∧ BAt w v' ((b.drop lo).take (hi - lo)) := by
  subst hx hy
  obtain ⟨ao, cap, rfl, hcap, hmax, hD⟩ := h
  have hl : ((b.drop lo).take (hi - lo)).length = hi - lo := by rw [List.length_take, List.length_drop]; omega
  rcases hD with rfl | ⟨g, off, rfl, hg, hc⟩
  · simp at hh
    subst hh
    obtain rfl : lo = 0 := by omega
    cases ao with
    | none => exact ⟨.slice none 0 cap, fun W => by go_simp, none, cap, rfl, hcap, hmax, .inl rfl⟩
    | some a => exact ⟨.slice (some a) 0 cap, fun W => by go_simp, some a, cap, rfl, hcap, hmax, .inl rfl⟩
  · by_cases hc1 : cap = lo
    · refine ⟨.slice (some ⟨g, off, none⟩) (hi - lo) 0, fun W => ?_, some ⟨g, off, none⟩, 0, by rw [hl], by omega, by omega, .inl ?_⟩
      · obtain rfl : lo = hi := by omega
        subst hc1
        go_simp
      · exact List.eq_nil_of_length_eq_zero (by omega)
    · refine ⟨.slice (some ⟨g, off + lo, none⟩) (hi - lo) (cap - lo), fun W => ?_, some ⟨g, off + lo, none⟩, cap - lo, by rw [hl], by omega, by omega, .inr ⟨g, off + lo, rfl, hg, fun i hi' => ?_⟩⟩
      · go_simp
        intro h
        omega
      · rw [Nat.add_assoc, hc (lo + i) (by omega)]
        simp
theorem BAt.upto {w : World} {v : Value} {b : List UInt8} (h : BAt w v b) (hi : Nat) (y : Int) (hy : y = hi) (hh : hi ≤ b.length) :
    ∃ v', (∀ W, (Instr.slice 105 v none (some (.int .i64 y)) none).run Tryd.prog W = .ok v' W) ∧ BAt w v' (b.take hi) := by
  subst hy
  obtain ⟨ao, cap, rfl, hcap, hmax, hD⟩ := h
  have hl : (b.take hi).length = hi := by rw [List.length_take]; omega
  rcases hD with rfl | ⟨g, off, rfl, hg, hc⟩
  · simp at hh
    subst hh
    cases ao with
    | none => exact ⟨.slice none 0 cap, fun W => by go_simp, none, cap, rfl, hcap, hmax, .inl rfl⟩
    | some a => exact ⟨.slice (some a) 0 cap, fun W => by go_simp, some a, cap, rfl, hcap, hmax, .inl rfl⟩
  · refine ⟨.slice (some ⟨g, off, none⟩) hi cap, fun W => ?_, some ⟨g, off, none⟩, cap, by rw [hl], by omega, by omega, .inr ⟨g, off, rfl, hg, fun i hi' => ?_⟩⟩
    · go_simp
      (try (intro h; omega))
    · rw [hc i (by omega)]
      simp
theorem BAt.past {w : World} {v : Value} {b : List UInt8} (h : BAt w v b) (lo : Nat) (x : Int) (hx : x = lo) (hh : lo ≤ b.length) :
    ∃ v', (∀ W, (Instr.slice 105 v (some (.int .i64 x)) none none).run Tryd.prog W = .ok v' W) ∧ BAt w v' (b.drop lo) := by
  subst hx
  obtain ⟨ao, cap, rfl, hcap, hmax, hD⟩ := h
  have hl : (b.drop lo).length = b.length - lo := List.length_drop
  rcases hD with rfl | ⟨g, off, rfl, hg, hc⟩
  · simp at hh
    subst hh
    cases ao with
    | none => exact ⟨.slice none 0 cap, fun W => by go_simp, none, cap, rfl, hcap, hmax, .inl rfl⟩
    | some a => exact ⟨.slice (some a) 0 cap, fun W => by go_simp, some a, cap, rfl, hcap, hmax, .inl rfl⟩
  · by_cases hc1 : cap = lo
    · refine ⟨.slice (some ⟨g, off, none⟩) (b.length - lo) 0, fun W => ?_, some ⟨g, off, none⟩, 0, by rw [hl], by omega, by omega, .inl ?_⟩
      · subst hc1
        go_simp
        (try (intro h; omega))
      · exact List.eq_nil_of_length_eq_zero (by omega)
    · refine ⟨.slice (some ⟨g, off + lo, none⟩) (b.length - lo) (cap - lo), fun W => ?_, some ⟨g, off + lo, none⟩, cap - lo, by rw [hl], by omega, by omega, .inr ⟨g, off + lo, rfl, hg, fun i hi' => ?_⟩⟩
      · go_simp
        (try (intro h; omega))
      · rw [Nat.add_assoc, hc (lo + i) (by omega)]
        simp
theorem numAt_sub (b : List UInt8) (lo n : Nat) (h : lo + n ≤ b.length) : numAt ((b.drop lo).take n) 0 n = numAt b lo n := by
  have e : b = b.take lo ++ ((b.drop lo).take n ++ (b.drop lo).drop n) := by rw [List.take_append_drop, List.take_append_drop]
  have hl : (b.take lo).length = lo := by rw [List.length_take]; omega
  have hr : ((b.drop lo).take n).length = n := by rw [List.length_take, List.length_drop]; omega
  have h1 := numAt_front (b.take lo) ((b.drop lo).take n ++ (b.drop lo).drop n) 0 n
  rw [← e, hl, Nat.add_zero, numAt_behind _ _ _ _ (by rw [hr]; omega)] at h1
  exact h1.symm
theorem numAt_eight (b : List UInt8) (o : Nat) : numAt b o 8 = numAt b o 4 + numAt b (o + 4) 4 * 4294967296 := by
  simp only [numAt, Nat.add_assoc, Nat.reduceAdd, Nat.zero_add, Nat.mul_zero, Nat.pow_zero, Nat.mul_one, Nat.reduceMul, Nat.reducePow, Nat.add_zero]
  omega
end Go.Proofs.YtmbegncnbjafdaaDoor

/-
  The document's own way (package hurdleref04): Bytes.
-/
namespace Go.Proofs.YtmbegncnbjafdaaDoor
open Go.ChangeShapes Go.WideShapes Go.ChangeAt Go.RowKit
set_option maxRecDepth 20000

def argsD (d : Rec) : List Nat := [d.a0, d.a1, d.a2, d.a3, d.a4, d.a5]
theorem low_eight (x : Nat) : lowBytes x 8 = lowBytes (x % 4294967296) 4 ++ lowBytes (x / 4294967296) 4 := by
  simp only [lowBytes, show List.range 8 = [0, 1, 2, 3, 4, 5, 6, 7] from rfl, show List.range 4 = [0, 1, 2, 3] from rfl, List.map_cons, List.map_nil, List.cons_append, List.nil_append, List.cons.injEq, and_true]
  refine ⟨?_, ?_, ?_, ?_, ?_, ?_, ?_, ?_⟩
  all_goals
    apply UInt8.toNat.inj
    simp only [byteAt, UInt8.toNat_ofNat', Nat.mul_zero, Nat.pow_zero, Nat.div_one, Nat.mul_one, Nat.reduceMul, Nat.reducePow]
    try omega
def headR (d : Rec) : List UInt8 := lowBytes d.nr 4 ++ lowBytes d.arch 4 ++ lowBytes d.ip 8
def bytesR (d : Rec) (k : Nat) : List UInt8 := headR d ++ ((argsD d).take k).flatMap (lowBytes · 8)
theorem bytesR_all (d : Rec) : bytesR d 6 = bytesD d := by
  simp only [bytesR, headR, argsD, bytesD, wordsD, List.take_succ_cons, List.take_zero, List.flatMap_cons, List.flatMap_nil, List.append_nil, low_eight, List.append_assoc]
theorem headR_len (d : Rec) : (headR d).length = 16 := by simp [headR, lowBytes_len]
theorem argsD_len (d : Rec) : (argsD d).length = 6 := rfl
theorem flat8_len (l : List Nat) : (l.flatMap (lowBytes · 8)).length = 8 * l.length := by
  induction l with
  | nil => rfl
  | cons x l ih => rw [List.flatMap_cons, List.length_append, lowBytes_len, ih, List.length_cons]; omega
theorem bytesR_len (d : Rec) (k : Nat) (hk : k ≤ 6) : (bytesR d k).length = 16 + 8 * k := by
  rw [bytesR, List.length_append, headR_len, flat8_len, List.length_take, argsD_len]; omega
theorem bytesR_next (d : Rec) (k : Nat) (hk : k < 6) : bytesR d (k + 1) = bytesR d k ++ lowBytes ((argsD d).getD k 0) 8 := by
  have hk' : k < (argsD d).length := hk
  rw [bytesR, List.take_succ_eq_append_getElem hk', List.getD_eq_getElem?_getD, List.getElem?_eq_getElem hk', List.flatMap_append, List.flatMap_cons, List.flatMap_nil, List.append_nil, ← List.append_assoc]
  rfl
theorem args_lt {d : Rec} (h : d.ok) (k : Nat) : (argsD d).getD k 0 < 18446744073709551616 := by
  obtain ⟨nr, arch, ip, a0, a1, a2, a3, a4, a5⟩ := d
  obtain ⟨h0, h1, h2, h3, h4, h5, h6, h7, h8⟩ := h
  simp only at h0 h1 h2 h3 h4 h5 h6 h7 h8
  rcases k with _ | _ | _ | _ | _ | _ | k <;> simp [argsD] <;> omega
theorem args_cell (d : Rec) (k : Nat) (hk : k < 6) : d.cells[3 + k]? = some (.int .u64 (((argsD d).getD k 0 : Nat) : Int)) := by
  obtain rfl | rfl | rfl | rfl | rfl | rfl : k = 0 ∨ k = 1 ∨ k = 2 ∨ k = 3 ∨ k = 4 ∨ k = 5 := by omega
  all_goals rfl
theorem own_src {w : World} {base : Nat} {v : Value} {n : Nat} {l : List UInt8} (h : w.ownsRow base 5 1 v n (bcells l)) (hn : n = l.length) : SrcAt w 1 v n (bcells l) := by
  have h1 := (BAt.own h hn).src
  rw [← hn] at h1
  exact h1
/-- low, from a world on. -/
theorem lowb_here {W V : World} (hV : Below W.heap.size W V) (N sz : Nat) (hsz : sz ≤ 8) (hN : N < 18446744073709551616) :
    Calls Tryd.prog 88 #[.int .u64 N, .int .i64 sz] V fun e w' => ∃ v' L, e = .returned v' ∧ Hid (L = lowBytes N sz ∧ sz = L.length) ∧ Hid (w'.ownsRow W.heap.size 5 1 v' sz (bcells L)) ∧ Hid (Below W.heap.size W w') ∧ Hid (Below V.heap.size V w') := by
  refine (lowb_any N sz hsz hN V).mono ?_
  rintro e w' ⟨v', rfl, hO, hB⟩
  exact ⟨v', _, rfl, Lib.hid ⟨rfl, (lowBytes_len _ _).symm⟩, Lib.hid (own_mono hO hV.size), Lib.hid (hV.trans (hB.mono hV.size)), Lib.hid hB⟩
theorem lowb4 {W V : World} (hV : Below W.heap.size W V) (N : Nat) (hN : N < 18446744073709551616) :
    Calls Tryd.prog 88 #[.int .u64 N, .int .i64 4] V fun e w' => ∃ v' L, e = .returned v' ∧ Hid (L = lowBytes N 4 ∧ 4 = L.length) ∧ Hid (w'.ownsRow W.heap.size 5 1 v' 4 (bcells L)) ∧ Hid (Below W.heap.size W w') ∧ Hid (Below V.heap.size V w') := lowb_here hV N 4 (by omega) hN
theorem lowb8 {W V : World} (hV : Below W.heap.size W V) (N : Nat) (hN : N < 18446744073709551616) :
    Calls Tryd.prog 88 #[.int .u64 N, .int .i64 8] V fun e w' => ∃ v' L, e = .returned v' ∧ Hid (L = lowBytes N 8 ∧ 8 = L.length) ∧ Hid (w'.ownsRow W.heap.size 5 1 v' 8 (bcells L)) ∧ Hid (Below W.heap.size W w') ∧ Hid (Below V.heap.size V w') := lowb_here hV N 8 (by omega) hN

set_option maxHeartbeats 4000000 in
theorem rbytes_any (d : Rec) (w : World) (hd : d.ok) :
    Calls Tryd.prog 71 #[d.val] w fun e w' => ∃ v, e = .returned v ∧ w'.ownsRow w.heap.size 5 1 v 64 (bcells (bytesD d)) ∧ Below w.heap.size w w' := by
  obtain ⟨i0, hi, hz0, hz1, hz2⟩ := info_parts info8
  have h0 := hd.1
  have h1 := hd.2.1
  have h2 := hd.2.2.1
  have HK := Lib.hid hd
  clear hd
  go_enter Tryd.func71, Tryd.ntmps71
  go_wp2_with fail
  obtain ⟨W, hW⟩ : ∃ W, W = w.alloc (.cells d.cells 46) := ⟨_, rfl⟩
  have HX : Hid (W.heap[w.heap.size]? = some (.cells d.cells 46)) := Lib.hid (by rw [hW]; exact heap_alloc_new _ _)
  have HW : Hid (Below w.heap.size w W) := Lib.hid (by rw [hW]; exact ba _ (Below.refl _ _))
  rw [← hW]
  have sx := lt_of_block HX.out
  have x0 : W.cell? ⟨w.heap.size, 0, none⟩ = some (.int .u32 d.nr) := cell_in HX.out 0
  have x1 : W.cell? ⟨w.heap.size, 1, none⟩ = some (.int .u32 d.arch) := cell_in HX.out 1
  obtain ⟨n0, hn0⟩ : ∃ n0, n0 = d.nr := ⟨_, rfl⟩
  obtain ⟨n1, hn1⟩ : ∃ n1, n1 = d.arch := ⟨_, rfl⟩
  rw [← hn0] at x0 h0
  rw [← hn1] at x1 h1
  have HN := Lib.hid (And.intro hn0 hn1)
  clear hW hn0 hn1
  have m0 : n0 < 18446744073709551616 := by omega
  have m1 : n1 < 18446744073709551616 := by omega
  have q0 : IntKind.u64.wrap (n0 : Int) = (n0 : Int) := by rw [IntKind.wrap_u64]; omega
  have q1 : IntKind.u64.wrap (n1 : Int) = (n1 : Int) := by rw [IntKind.wrap_u64]; omega
  go_region_held3 (fun w' => w'.cell? ⟨w.heap.size, 0, none⟩ = some (.int .u32 n0) ∧ w'.cell? ⟨w.heap.size, 1, none⟩ = some (.int .u32 n1)) (first | exact ⟨x0, x1⟩ | exact ⟨a0, a1⟩ | go_keep)
    (first
      | (go_at_call 88; refine (lowb4 (W := W) hB8.out _ ?_).mono ?_; exact m1; rintro e w12 ⟨u12, L12, rfl, hL12, hO12, hB12, hb12⟩; have a0 := (hB12.out.cell (p := ⟨w.heap.size, 0, none⟩) sx).trans x0; have a1 := (hB12.out.cell (p := ⟨w.heap.size, 1, none⟩) sx).trans x1)
      | (go_at_call 88; refine (lowb4 (W := W) (bdN (Below.refl _ _) 1) _ ?_).mono ?_; exact m0; rintro e w8 ⟨u8, L8, rfl, hL8, hO8, hB8, hb8⟩; have a0 := (hB8.out.cell (p := ⟨w.heap.size, 0, none⟩) sx).trans x0; have a1 := (hB8.out.cell (p := ⟨w.heap.size, 1, none⟩) sx).trans x1)
      | (refine step_append_src _ (by rfl) _ _ 105 (by rfl) W.heap.size 5 i0 (.int .u8 0) 1 1 Tryd.underlying105 hi hz0 hz1 hz2 (by rfl) (by decide) u8 4 (bcells L8) (by rfl) (own_below hO8.out hb12.out) u12 4 (bcells L12) (by rfl) (own_src hO12.out hL12.out.2) (bcells_one _) (by decide) (by decide) hB12.out.size ?_; intro u13 w13 hO13 hg13; have hB13 := Lib.hid (grown_below hB12.out (own_below hO8.out hb12.out) hg13 hB12.out.size); have a0 := (hB13.out.cell (p := ⟨w.heap.size, 0, none⟩) sx).trans x0; have a1 := (hB13.out.cell (p := ⟨w.heap.size, 1, none⟩) sx).trans x1))
  rename_i hh
  have HO13 : Hid (w13.ownsRow W.heap.size 5 1 u13 8 (bcells (lowBytes d.nr 4 ++ lowBytes d.arch 4))) := Lib.hid (by
    rw [hL8.out.1, hL12.out.1, HN.out.1, HN.out.2] at hO13
    rw [bcells_app]
    exact hO13)
  have hX13 := (hB13.out.block _ sx).trans HX.out
  clear hh a0 a1 hO13 hg13 hL8 hL12 hO8 hO12 hB8 hb8 hB12 hb12 q0 q1 m0 m1 x0 x1 HN
  have x2 : w13.cell? ⟨w.heap.size, 2, none⟩ = some (.int .u64 d.ip) := cell_in hX13 2
  clear hX13
  go_wp2_with fail
  refine (lowb8 (W := W) hB13.out _ h2).mono ?_
  rintro e w17 ⟨u17, L17, rfl, hL17, hO17, hB17, hb17⟩
  clear x2
  go_wp2_with (at_builtin; refine wpList_append_src _ rfl _ _ 105 rfl W.heap.size 5 i0 (.int .u8 0) 1 1 Tryd.underlying105 hi hz0 hz1 hz2 rfl (by decide) u13 8 (bcells (lowBytes d.nr 4 ++ lowBytes d.arch 4)) rfl (own_below HO13.out hb17.out) u17 8 (bcells L17) rfl (own_src hO17.out hL17.out.2) (bcells_one _) (by decide) (by decide) hB17.out.size ?_)
  intro u18 w18 hO18 hg18
  have HO18 : Hid (w18.ownsRow W.heap.size 5 1 u18 16 (bcells (bytesR d 0))) := Lib.hid (by
    rw [hL17.out.1] at hO18
    have e : bytesR d 0 = lowBytes d.nr 4 ++ lowBytes d.arch 4 ++ lowBytes d.ip 8 := by simp [bytesR, headR]
    rw [e, bcells_app]
    exact hO18)
  have HB18 := Lib.hid (grown_below hB17.out (own_below HO13.out hb17.out) hg18 hB17.out.size)
  clear hO18 hg18 hL17 hO17 hB17 hb17 HO13 hB13
  go_wp2_with fail
  go_loopw [3, 4] (fun u i wr => ∃ k n : Nat, k ≤ 6 ∧ n = 16 + 8 * k ∧ i = .int .i64 k ∧ wr.ownsRow W.heap.size 5 1 u n (bcells (bytesR d k)) ∧ Below W.heap.size W wr) (fun _ i _ => 6 - (intOf i).toNat)
  case atStart => exact ⟨0, 16, by omega, rfl, rfl, HO18.out, HB18.out⟩
  case round =>
    obtain ⟨k, n, hk, hn, rfl, hO, hB⟩ := hrel
    have HO := Lib.hid hO
    have HB := Lib.hid hB
    have hsz := hB.size
    clear hO
    by_cases hlt : k < 6
    · have hXr := (hB.block _ sx).trans HX.out
      have xk := (cell_in hXr (3 + k)).trans (args_cell d k hlt)
      have HAk := Lib.hid (args_lt HK.out k)
      have HNx := Lib.hid (bytesR_next d k hlt)
      obtain ⟨x, hx⟩ : ∃ x, x = (argsD d).getD k 0 := ⟨_, rfl⟩
      rw [← hx] at xk HAk HNx
      clear hx hXr hB HO18 HB18
      go_wp2_with fail
      refine (lowb8 (W := W) HB.out _ HAk.out).mono ?_
      rintro e w28 ⟨u28, L28, rfl, hL28, hO28, hB28, hb28⟩
      clear xk
      go_wp2_with (at_builtin; refine wpList_append_src _ rfl _ _ 105 rfl W.heap.size 5 i0 (.int .u8 0) 1 1 Tryd.underlying105 hi hz0 hz1 hz2 rfl (by decide) u3 n (bcells (bytesR d k)) rfl (own_below HO.out hb28.out) u28 8 (bcells L28) rfl (own_src hO28.out hL28.out.2) (bcells_one _) (by unfold maxLen; omega) (by omega) hB28.out.size ?_)
      intro u29 w29 hO29 hg29
      have HO29 : Hid (w29.ownsRow W.heap.size 5 1 u29 (n + 8) (bcells (bytesR d (k + 1)))) := Lib.hid (by
        rw [hL28.out.1] at hO29
        rw [HNx.out, bcells_app, hn]
        exact hO29)
      have HB29 := Lib.hid (grown_below hB28.out (own_below HO.out hb28.out) hg29 hB28.out.size)
      clear hO29 hg29 hL28 hO28 hB28 hb28 HO HB
      go_wp2_with fail
      go_roundw
      case rel => exact ⟨k + 1, n + 8, by omega, by omega, by go_num, HO29.out, HB29.out⟩
      case measure => simp [intOf]; omega
    · obtain rfl : k = 6 := by omega
      obtain rfl : n = 64 := by omega
      have HE := Lib.hid (bytesR_all d)
      clear hB HO18 HB18 hn
      go_wp2_with fail
      go_ret
      refine ⟨_, rfl, ?_, HW.out.trans (HB.out.mono HW.out.size)⟩
      have h := HO.out
      rw [HE.out] at h
      exact own_mono h HW.out.size
end Go.Proofs.YtmbegncnbjafdaaDoor
