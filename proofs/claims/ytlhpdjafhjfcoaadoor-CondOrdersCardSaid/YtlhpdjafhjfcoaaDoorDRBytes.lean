/-
  The document's own way (package hurdleref04): low and number; pieces of bytes.
-/
import Derived.Test.YtlhpdjafhjfcoaaDoorDWord
import Derived.Lib.OthersKept
import Derived.Deep.RegionHeld3
import Derived.BigRegion
namespace Go.Proofs.YtlhpdjafhjfcoaaDoor
open Go.ChangeShapes Go.WideShapes Go.ChangeAt Go.RowKit
set_option maxRecDepth 20000

theorem byte_step (N k : Nat) : N / 2 ^ (8 * k) / 256 = N / 2 ^ (8 * (k + 1)) := by
  rw [Nat.div_div_eq_div_mul, show 8 * (k + 1) = 8 * k + 8 by omega, Nat.pow_add]
theorem numAt_cons (l : List UInt8) (o sz : Nat) : numAt l o (sz + 1) = (l.getD o 0).toNat + 256 * numAt l (o + 1) sz := by
  induction sz with
  | zero => simp [numAt]
  | succ n ih =>
    have e1 : numAt l o (n + 1 + 1) = numAt l o (n + 1) + (l.getD (o + (n + 1)) 0).toNat * 2 ^ (8 * (n + 1)) := rfl
    have e2 : numAt l (o + 1) (n + 1) = numAt l (o + 1) n + (l.getD (o + 1 + n) 0).toNat * 2 ^ (8 * n) := rfl
    rw [e1, ih, e2, show o + 1 + n = o + (n + 1) by omega, show 8 * (n + 1) = 8 * n + 8 by omega, Nat.pow_add, Nat.mul_add]
    have h8 : (2 : Nat) ^ 8 = 256 := by decide
    rw [h8, ← Nat.mul_assoc, Nat.mul_comm _ 256]
    omega

/-- Pieces of bytes. -/
theorem BAt.sub {w : World} {v : Value} {b : List UInt8} (h : BAt w v b) (lo hi : Nat) (x y : Int) (hx : x = lo) (hy : y = hi) (hlh : lo ≤ hi) (hh : hi ≤ b.length) :
    ∃ v', (∀ W, (Instr.slice 66 v (some (.int .i64 x)) (some (.int .i64 y)) none).run Tryd.prog W = .ok v' W) ∧ BAt w v' ((b.drop lo).take (hi - lo)) := by
  subst hx hy
  obtain ⟨ao, cap, rfl, hcap, hmax, hD⟩ := h
  have hl : ((b.drop lo).take (hi - lo)).length = hi - lo := by rw [List.length_take, List.length_drop]; omega
  rcases hD with rfl | ⟨g, off, rfl, hg, hc⟩
  · simp at hh
    subst hh
    obtain rfl : lo = 0 := by omega
    cases ao with
    | none => exact ⟨.slice none 0 cap, fun W => by go_simp, none, cap, rfl, hcap, hmax, .inl rfl⟩
    | some a => exact ⟨.slice (some a) 0 cap, fun W => by go_simp, some a, cap, rfl, hcap, hmax, .inl rfl⟩
  · by_cases hc1 : cap = lo
    · refine ⟨.slice (some ⟨g, off, none⟩) (hi - lo) 0, fun W => ?_, some ⟨g, off, none⟩, 0, by rw [hl], by omega, by omega, .inl ?_⟩
      · obtain rfl : lo = hi := by omega
        subst hc1
        go_simp
      · exact List.eq_nil_of_length_eq_zero (by omega)
    · refine ⟨.slice (some ⟨g, off + lo, none⟩) (hi - lo) (cap - lo), fun W => ?_, some ⟨g, off + lo, none⟩, cap - lo, by rw [hl], by omega, by omega, .inr ⟨g, off + lo, rfl, hg, fun i hi' => ?_⟩⟩
      · go_simp
        intro h
        omega
      · rw [Nat.add_assoc, hc (lo + i) (by omega)]
        simp
theorem BAt.upto {w : World} {v : Value} {b : List UInt8} (h : BAt w v b) (hi : Nat) (y : Int) (hy : y = hi) (hh : hi ≤ b.length) :
    ∃ v', (∀ W, (Instr.slice 66 v none (some (.int .i64 y)) none).run Tryd.prog W = .ok v' W) ∧ BAt w v' (b.take hi) := by
  subst hy
  obtain ⟨ao, cap, rfl, hcap, hmax, hD⟩ := h
  have hl : (b.take hi).length = hi := by rw [List.length_take]; omega
  rcases hD with rfl | ⟨g, off, rfl, hg, hc⟩
  · simp at hh
    subst hh
    cases ao with
    | none => exact ⟨.slice none 0 cap, fun W => by go_simp, none, cap, rfl, hcap, hmax, .inl rfl⟩
    | some a => exact ⟨.slice (some a) 0 cap, fun W => by go_simp, some a, cap, rfl, hcap, hmax, .inl rfl⟩
  · refine ⟨.slice (some ⟨g, off, none⟩) hi cap, fun W => ?_, some ⟨g, off, none⟩, cap, by rw [hl], by omega, by omega, .inr ⟨g, off, rfl, hg, fun i hi' => ?_⟩⟩
    · go_simp
      (try (intro h; omega))
    · rw [hc i (by omega)]
      simp
theorem BAt.past {w : World} {v : Value} {b : List UInt8} (h : BAt w v b) (lo : Nat) (x : Int) (hx : x = lo) (hh : lo ≤ b.length) :
    ∃ v', (∀ W, (Instr.slice 66 v (some (.int .i64 x)) none none).run Tryd.prog W = .ok v' W) ∧ BAt w v' (b.drop lo) := by
  subst hx
  obtain ⟨ao, cap, rfl, hcap, hmax, hD⟩ := h
  have hl : (b.drop lo).length = b.length - lo := List.length_drop
  rcases hD with rfl | ⟨g, off, rfl, hg, hc⟩
  · simp at hh
    subst hh
    cases ao with
    | none => exact ⟨.slice none 0 cap, fun W => by go_simp, none, cap, rfl, hcap, hmax, .inl rfl⟩
    | some a => exact ⟨.slice (some a) 0 cap, fun W => by go_simp, some a, cap, rfl, hcap, hmax, .inl rfl⟩
  · by_cases hc1 : cap = lo
    · refine ⟨.slice (some ⟨g, off, none⟩) (b.length - lo) 0, fun W => ?_, some ⟨g, off, none⟩, 0, by rw [hl], by omega, by omega, .inl ?_⟩
      · subst hc1
        go_simp
        (try (intro h; omega))
      · exact List.eq_nil_of_length_eq_zero (by omega)
    · refine ⟨.slice (some ⟨g, off + lo, none⟩) (b.length - lo) (cap - lo), fun W => ?_, some ⟨g, off + lo, none⟩, cap - lo, by rw [hl], by omega, by omega, .inr ⟨g, off + lo, rfl, hg, fun i hi' => ?_⟩⟩
      · go_simp
        (try (intro h; omega))
      · rw [Nat.add_assoc, hc (lo + i) (by omega)]
        simp
theorem numAt_sub (b : List UInt8) (lo n : Nat) (h : lo + n ≤ b.length) : numAt ((b.drop lo).take n) 0 n = numAt b lo n := by
  have e : b = b.take lo ++ ((b.drop lo).take n ++ (b.drop lo).drop n) := by rw [List.take_append_drop, List.take_append_drop]
  have hl : (b.take lo).length = lo := by rw [List.length_take]; omega
  have hr : ((b.drop lo).take n).length = n := by rw [List.length_take, List.length_drop]; omega
  have h1 := numAt_front (b.take lo) ((b.drop lo).take n ++ (b.drop lo).drop n) 0 n
  rw [← e, hl, Nat.add_zero, numAt_behind _ _ _ _ (by rw [hr]; omega)] at h1
  exact h1.symm
theorem numAt_eight (b : List UInt8) (o : Nat) : numAt b o 8 = numAt b o 4 + numAt b (o + 4) 4 * 4294967296 := by
  simp only [numAt, Nat.add_assoc, Nat.reduceAdd, Nat.zero_add, Nat.mul_zero, Nat.pow_zero, Nat.mul_one, Nat.reduceMul, Nat.reducePow, Nat.add_zero]
  omega
end Go.Proofs.YtlhpdjafhjfcoaaDoor

/-
  The document's own way (package hurdleref04): Bytes.
-/
namespace Go.Proofs.YtlhpdjafhjfcoaaDoor
open Go.ChangeShapes Go.WideShapes Go.ChangeAt Go.RowKit
set_option maxRecDepth 20000

def argsD (d : Rec) : List Nat := [d.a0, d.a1, d.a2, d.a3, d.a4, d.a5]
theorem low_eight (x : Nat) : lowBytes x 8 = lowBytes (x % 4294967296) 4 ++ lowBytes (x / 4294967296) 4 := by
  simp only [lowBytes, show List.range 8 = [0, 1, 2, 3, 4, 5, 6, 7] from rfl, show List.range 4 = [0, 1, 2, 3] from rfl, List.map_cons, List.map_nil, List.cons_append, List.nil_append, List.cons.injEq, and_true]
  refine ⟨?_, ?_, ?_, ?_, ?_, ?_, ?_, ?_⟩
  all_goals
    apply UInt8.toNat.inj
    simp only [byteAt, UInt8.toNat_ofNat', Nat.mul_zero, Nat.pow_zero, Nat.div_one, Nat.mul_one, Nat.reduceMul, Nat.reducePow]
    try omega
def headR (d : Rec) : List UInt8 := lowBytes d.nr 4 ++ lowBytes d.arch 4 ++ lowBytes d.ip 8
def bytesR (d : Rec) (k : Nat) : List UInt8 := headR d ++ ((argsD d).take k).flatMap (lowBytes · 8)
theorem bytesR_all (d : Rec) : bytesR d 6 = bytesD d := by
  simp only [bytesR, headR, argsD, bytesD, wordsD, List.take_succ_cons, List.take_zero, List.flatMap_cons, List.flatMap_nil, List.append_nil, low_eight, List.append_assoc]
theorem headR_len (d : Rec) : (headR d).length = 16 := by simp [headR, lowBytes_len]
theorem argsD_len (d : Rec) : (argsD d).length = 6 := rfl
theorem flat8_len (l : List Nat) : (l.flatMap (lowBytes · 8)).length = 8 * l.length := by
  induction l with
  | nil => rfl
  | cons x l ih => rw [List.flatMap_cons, List.length_append, lowBytes_len, ih, List.length_cons]; omega
theorem bytesR_len (d : Rec) (k : Nat) (hk : k ≤ 6) : (bytesR d k).length = 16 + 8 * k := by
  rw [bytesR, List.length_append, headR_len, flat8_len, List.length_take, argsD_len]; omega
theorem bytesR_next (d : Rec) (k : Nat) (hk : k < 6) : bytesR d (k + 1) = bytesR d k ++ lowBytes ((argsD d).getD k 0) 8 := by
  have hk' : k < (argsD d).length := hk
  rw [bytesR, List.take_succ_eq_append_getElem hk', List.getD_eq_getElem?_getD, List.getElem?_eq_getElem hk', List.flatMap_append, List.flatMap_cons, List.flatMap_nil, List.append_nil, ← List.append_assoc]
  rfl
theorem args_lt {d : Rec} (h : d.ok) (k : Nat) : (argsD d).getD k 0 < 18446744073709551616 := by
  obtain ⟨nr, arch, ip, a0, a1, a2, a3, a4, a5⟩ := d
  obtain ⟨h0, h1, h2, h3, h4, h5, h6, h7, h8⟩ := h
  simp only at h0 h1 h2 h3 h4 h5 h6 h7 h8
  rcases k with _ | _ | _ | _ | _ | _ | k <;> simp [argsD] <;> omega
theorem args_cell (d : Rec) (k : Nat) (hk : k < 6) : d.cells[3 + k]? = some (.int .u64 (((argsD d).getD k 0 : Nat) : Int)) := by
  obtain rfl | rfl | rfl | rfl | rfl | rfl : k = 0 ∨ k = 1 ∨ k = 2 ∨ k = 3 ∨ k = 4 ∨ k = 5 := by omega
  all_goals rfl
theorem own_src {w : World} {base : Nat} {v : Value} {n : Nat} {l : List UInt8} (h : w.ownsRow base 5 1 v n (bcells l)) (hn : n = l.length) : SrcAt w 1 v n (bcells l) := by
  have h1 := (BAt.own h hn).src
  rw [← hn] at h1
  exact h1
end Go.Proofs.YtlhpdjafhjfcoaaDoor
