/-
  The document's own way (package hurdleref04): With.
-/
import Derived.Test.YtlklgifpdneolaaDRWord
import Derived.Deep.RegionHeld3
import Derived.BigRegion
namespace Go.Proofs.Ytlklgifpdneolaa
open Go.ChangeShapes Go.WideShapes Go.ChangeAt Go.RowKit
set_option maxRecDepth 20000

theorem BAt.src_n {w : World} {v : Value} {l : List UInt8} {n : Nat} (h : BAt w v l) (hn : l.length = n) : SrcAt w 1 v n (bcells l) := by
  have h1 := h.src
  rw [hn] at h1
  exact h1
theorem flat4_set : ∀ (l : List Nat) (i v : Nat), i < l.length → flat4 (l.set i v) = (flat4 l).take (4 * i) ++ lowBytes v 4 ++ (flat4 l).drop (4 * i + 4)
  | x :: l, 0, v, _ => by
    rw [List.set_cons_zero, flat4_cons, flat4_cons, Nat.mul_zero, List.take_zero, List.nil_append, Nat.zero_add]
    rw [List.drop_append, lowBytes_len, List.drop_of_length_le (by rw [lowBytes_len]; omega)]
    simp
  | x :: l, i + 1, v, h => by
    have hl := lowBytes_len x 4
    have ih := flat4_set l i v (by simpa using h)
    rw [List.set_cons_succ, flat4_cons, flat4_cons, ih, List.take_append, List.drop_append, hl, List.take_of_length_le (l := lowBytes x 4) (by rw [hl]; omega), List.drop_of_length_le (l := lowBytes x 4) (by rw [hl]; omega)]
    rw [show 4 * (i + 1) - 4 = 4 * i by omega, show 4 * (i + 1) + 4 - 4 = 4 * i + 4 by omega]
    simp
theorem with_row {w : World} {base : Nat} {u : Value} {n v : Nat} {A L B : List UInt8} (h : w.ownsRow base 5 1 u (0 + n + 4 + (60 - n)) ([] ++ bcells A ++ bcells L ++ bcells B)) (hn : n ≤ 60) (hL : L = lowBytes v 4 ∧ 4 = L.length) : w.ownsRow base 5 1 u 64 (bcells (A ++ lowBytes v 4 ++ B)) := by
  rw [show 0 + n + 4 + (60 - n) = 64 by omega, hL.1, List.nil_append, ← bcells_app, ← bcells_app] at h
  exact h
theorem z9_cells {w : World} {g : Nat} (h : w.heap[g]? = some (.cells z9 26)) : w.cell? ⟨g, 0, none⟩ = some (.int .u32 0) ∧ w.cell? ⟨g, 1, none⟩ = some (.int .u32 0) ∧ w.cell? ⟨g, 2, none⟩ = some (.int .u64 0) ∧ w.cell? ⟨g, 3, none⟩ = some (.int .u64 0) ∧ w.cell? ⟨g, 4, none⟩ = some (.int .u64 0) ∧ w.cell? ⟨g, 5, none⟩ = some (.int .u64 0) ∧ w.cell? ⟨g, 6, none⟩ = some (.int .u64 0) ∧ w.cell? ⟨g, 7, none⟩ = some (.int .u64 0) ∧ w.cell? ⟨g, 8, none⟩ = some (.int .u64 0) ∧ w.frozen? ⟨g, 0, none⟩ = false ∧ w.frozen? ⟨g, 1, none⟩ = false ∧ w.frozen? ⟨g, 2, none⟩ = false ∧ w.frozen? ⟨g, 3, none⟩ = false ∧ w.frozen? ⟨g, 4, none⟩ = false ∧ w.frozen? ⟨g, 5, none⟩ = false ∧ w.frozen? ⟨g, 6, none⟩ = false ∧ w.frozen? ⟨g, 7, none⟩ = false ∧ w.frozen? ⟨g, 8, none⟩ = false :=
  ⟨cell_in h 0, cell_in h 1, cell_in h 2, cell_in h 3, cell_in h 4, cell_in h 5, cell_in h 6, cell_in h 7, cell_in h 8, free_in h 0, free_in h 1, free_in h 2, free_in h 3, free_in h 4, free_in h 5, free_in h 6, free_in h 7, free_in h 8⟩
theorem with_bytes {d : Rec} {n v : Nat} (hd : d.ok) (hv : v < 4294967296) (h : hasW n = true) : withD d n v = fromB ((bytesD d).take n ++ lowBytes v 4 ++ (bytesD d).drop (n + 4)) := by
  have hh : n % 4 = 0 ∧ n < 64 := by simpa [hasW] using h
  have e := flat4_set (wordsD d) (n / 4) v (by rw [words_len]; omega)
  rw [show 4 * (n / 4) = n by omega] at e
  have e2 : flat4 (wordsD d) = bytesD d := rfl
  have e3 : bytesD (withD d n v) = flat4 ((wordsD d).set (n / 4) v) := by
    show flat4 (wordsD (withD d n v)) = _
    rw [withD_words hd hv h]
  rw [← e2, ← e, ← e3, from_bytes (withD_ok hd hv)]

set_option maxHeartbeats 1000000 in
theorem rwith_any (d : Rec) (n v : Nat) (w : World) (hd : d.ok) (hn : n < 4294967296) (hv : v < 4294967296) :
    Calls Try.prog 17 #[d.val, .int .u32 n, .int .u32 v] w fun e w' => e = .returned (withD d n v).val ∧ Below w.heap.size w w' := by
  obtain ⟨i0, hi, hz0, hz1, hz2⟩ := info_parts info8
  have HD := Lib.hid hd
  clear hd
  cases hh : hasW n
  · have HE : Hid (withD d n v = d) := Lib.hid (by simp [withD, hh])
    go_enter Try.func17, Try.ntmps17
    go_wp2_with fail
    refine (rword_any d n _ HD.out hn).mono ?_
    rintro e w1 ⟨rfl, hb1⟩
    rw [hh]
    have HB1 := Lib.hid (below2 (ba (.cells z9 26) (ba (.cells d.cells 26) (Below.refl w.heap.size w))) hb1)
    have hR1 : w1.heap[w.heap.size + 1]? = some (.cells z9 26) := (hb1.block _ (by rw [size_alloc, size_alloc]; omega)).trans (by have h := heap_alloc_new (w.alloc (.cells d.cells 26)) (.cells z9 26); rw [size_alloc] at h; exact h)
    have hX0 := heap_alloc_new w (.cells d.cells 26)
    have hX1 : w1.heap[w.heap.size]? = some (.cells d.cells 26) := (hb1.block _ (by rw [size_alloc, size_alloc]; omega)).trans ((Below.heap_alloc _ _ _ (lt_of_block hX0)).trans hX0)
    have x0 : w1.cell? ⟨w.heap.size, 0, none⟩ = some (.int .u32 d.nr) := cell_in hX1 0
    have x1 : w1.cell? ⟨w.heap.size, 1, none⟩ = some (.int .u32 d.arch) := cell_in hX1 1
    have x2 : w1.cell? ⟨w.heap.size, 2, none⟩ = some (.int .u64 d.ip) := cell_in hX1 2
    have x3 : w1.cell? ⟨w.heap.size, 3, none⟩ = some (.int .u64 d.a0) := cell_in hX1 3
    have x4 : w1.cell? ⟨w.heap.size, 4, none⟩ = some (.int .u64 d.a1) := cell_in hX1 4
    have x5 : w1.cell? ⟨w.heap.size, 5, none⟩ = some (.int .u64 d.a2) := cell_in hX1 5
    have x6 : w1.cell? ⟨w.heap.size, 6, none⟩ = some (.int .u64 d.a3) := cell_in hX1 6
    have x7 : w1.cell? ⟨w.heap.size, 7, none⟩ = some (.int .u64 d.a4) := cell_in hX1 7
    have x8 : w1.cell? ⟨w.heap.size, 8, none⟩ = some (.int .u64 d.a5) := cell_in hX1 8
    obtain ⟨r0, r1, r2, r3, r4, r5, r6, r7, r8, f0, f1, f2, f3, f4, f5, f6, f7, f8⟩ := z9_cells hR1
    have s1 := lt_of_block hR1
    clear hb1 hR1 hX0 hX1 hh
    go_wp2_with fail
    (try simp only [Exit.inBlock, Exit.then])
    refine bodyPost_ret (v := d.val) ?_ rfl ⟨by rw [HE.out], ?_⟩
    · simp [results, Try.results17, go_sem]
      go_simp
    · have hB := HB1.out
      go_grown
  · have h2 : n % 4 = 0 ∧ n < 64 := by simpa [hasW] using hh
    have h60 : n ≤ 60 := by omega
    clear h2
    go_enter Try.func17, Try.ntmps17
    go_wp2_with fail
    refine (rword_any d n _ HD.out hn).mono ?_
    rintro e w1 ⟨rfl, hb1⟩
    rw [hh]
    have HH := Lib.hid hh
    have HB1 := Lib.hid (below2 (ba (.cells z9 26) (ba (.cells d.cells 26) (Below.refl w.heap.size w))) hb1)
    have hR1 : w1.heap[w.heap.size + 1]? = some (.cells z9 26) := (hb1.block _ (by rw [size_alloc, size_alloc]; omega)).trans (by have h := heap_alloc_new (w.alloc (.cells d.cells 26)) (.cells z9 26); rw [size_alloc] at h; exact h)
    have hX0 := heap_alloc_new w (.cells d.cells 26)
    have hX1 : w1.heap[w.heap.size]? = some (.cells d.cells 26) := (hb1.block _ (by rw [size_alloc, size_alloc]; omega)).trans ((Below.heap_alloc _ _ _ (lt_of_block hX0)).trans hX0)
    have HR1 := Lib.hid hR1
    have x0 : w1.cell? ⟨w.heap.size, 0, none⟩ = some (.int .u32 d.nr) := cell_in hX1 0
    have x1 : w1.cell? ⟨w.heap.size, 1, none⟩ = some (.int .u32 d.arch) := cell_in hX1 1
    have x2 : w1.cell? ⟨w.heap.size, 2, none⟩ = some (.int .u64 d.ip) := cell_in hX1 2
    have x3 : w1.cell? ⟨w.heap.size, 3, none⟩ = some (.int .u64 d.a0) := cell_in hX1 3
    have x4 : w1.cell? ⟨w.heap.size, 4, none⟩ = some (.int .u64 d.a1) := cell_in hX1 4
    have x5 : w1.cell? ⟨w.heap.size, 5, none⟩ = some (.int .u64 d.a2) := cell_in hX1 5
    have x6 : w1.cell? ⟨w.heap.size, 6, none⟩ = some (.int .u64 d.a3) := cell_in hX1 6
    have x7 : w1.cell? ⟨w.heap.size, 7, none⟩ = some (.int .u64 d.a4) := cell_in hX1 7
    have x8 : w1.cell? ⟨w.heap.size, 8, none⟩ = some (.int .u64 d.a5) := cell_in hX1 8
    clear hb1 hR1 hX0 hX1
    go_wp2_with fail
    refine (rbytes_any d _ HD.out).mono ?_
    rintro e W ⟨vb, rfl, hO, hb2⟩
    have HB2 := Lib.hid (below2 HB1.out hb2)
    have HR2 := Lib.hid ((hb2.block _ (lt_of_block HR1.out)).trans HR1.out)
    have hBb := BAt.own hO (bytesD_len d).symm
    obtain ⟨vl, el, hl⟩ := hBb.upto n (n : Int) rfl (by rw [bytesD_len]; omega)
    obtain ⟨vr, er, hr⟩ := hBb.past (n + 4) ((n : Int) + 4) (by simp) (by rw [bytesD_len]; omega)
    have HBl := Lib.hid hl
    have HBr := Lib.hid hr
    have HR3 := Lib.hid (lt_of_block HR2.out)
    clear hl hr hBb hO hb2 HB1 HR1 x0 x1 x2 x3 x4 x5 x6 x7 x8 hh
    have mv : v < 18446744073709551616 := by omega
    go_wp2_with fail
    have b1 : 0 + n ≤ maxLen := by unfold maxLen; omega
    have b2 : (0 + n) * 1 ≤ 140737488355328 := by omega
    have b3 : 0 + n + 4 ≤ maxLen := by unfold maxLen; omega
    have b4 : (0 + n + 4) * 1 ≤ 140737488355328 := by omega
    have b5 : 0 + n + 4 + (60 - n) ≤ maxLen := by unfold maxLen; omega
    have b6 : (0 + n + 4 + (60 - n)) * 1 ≤ 140737488355328 := by omega
    have HLl : Hid (((bytesD d).take n).length = n) := Lib.hid (by rw [List.length_take, bytesD_len]; omega)
    have HLr : Hid (((bytesD d).drop (n + 4)).length = 60 - n) := Lib.hid (by rw [List.length_drop, bytesD_len]; omega)
    have H64 : Hid (((bytesD d).take n ++ lowBytes v 4 ++ (bytesD d).drop (n + 4)).length = 64) := Lib.hid (by rw [List.length_append, List.length_append, lowBytes_len, HLl.out, HLr.out]; omega)
    obtain ⟨D, hD⟩ : ∃ D, D = withD d n v := ⟨_, rfl⟩
    have HDD := Lib.hid hD
    have HF : Hid (∀ u V, V.ownsRow W.heap.size 5 1 u 64 (bcells ((bytesD d).take n ++ lowBytes v 4 ++ (bytesD d).drop (n + 4))) → Calls Try.prog 12 #[u] V fun e w' => e = .returned D.val ∧ Below V.heap.size V w') := Lib.hid fun u V h => by
      have h1 := rfrom_any u _ V (BAt.own h H64.out.symm) H64.out
      rw [← with_bytes HD.out hv HH.out, ← hD] at h1
      exact h1
    clear hD
    have q0 : IntKind.u64.wrap (v : Int) = (v : Int) := by rw [IntKind.wrap_u64]; omega
    have q1 : IntKind.i64.wrap ((n : Int) + 4) = (n : Int) + 4 := IntWalk.i64_in _ (by omega)
    go_region_held3 (fun _ => True) (exact trivial)
      (first
        | (refine step_append_src _ (by rfl) _ _ 27 (by rfl) W.heap.size 5 i0 (.int .u8 0) 1 1 Try.underlying27 hi hz0 hz1 hz2 (by rfl) (by decide) u32 (0 + n + 4) _ (by rfl) hO32.out vr (60 - n) (bcells ((bytesD d).drop (n + 4))) (by rfl) (BAt.src_n (HBr.out.below HB32.out) HLr.out) (bcells_one _) b5 b6 HB32.out.size ?_; intro u37 w37 hO hg; have hO37 := Lib.hid (with_row hO h60 hL31.out); have HB37 := Lib.hid (grown_below HB32.out hO32.out hg HB32.out.size); clear hO hg)
        | (refine step_append_src _ (by rfl) _ _ 27 (by rfl) W.heap.size 5 i0 (.int .u8 0) 1 1 Try.underlying27 hi hz0 hz1 hz2 (by rfl) (by decide) u28 (0 + n) _ (by rfl) (own_below hO28.out hb31.out) u31 4 (bcells L31) (by rfl) (own_src hO31.out hL31.out.2) (bcells_one _) b3 b4 HB31.out.size ?_; intro u32 w32 hO hg; have hO32 := Lib.hid hO; have HB32 := Lib.hid (grown_below HB31.out (own_below hO28.out hb31.out) hg HB31.out.size); clear hO hg)
        | (go_at_call 23; refine (lowb4 (W := W) HB28.out _ mv).mono ?_; rintro e w31 ⟨u31, L31, rfl, hL31, hO31, HB31, hb31⟩)
        | (go_at_call 12; refine (HF.out _ _ hO37.out).mono ?_; rintro e w38 ⟨rfl, hb38⟩; have HB38 := Lib.hid (below2 HB37.out hb38); have hR38 := (HB38.out.block _ HR3.out).trans HR2.out; obtain ⟨r0, r1, r2, r3, r4, r5, r6, r7, r8, f0, f1, f2, f3, f4, f5, f6, f7, f8⟩ := z9_cells hR38; clear hR38 hb38)
        | (refine step_append_src _ (by rfl) _ _ 27 (by rfl) W.heap.size 5 i0 (.int .u8 0) 1 1 Try.underlying27 hi hz0 hz1 hz2 (by rfl) (by decide) _ 0 [] (by rfl) (own_empty W W.heap.size 5 1 (Nat.le_refl _)).drew vl n (bcells ((bytesD d).take n)) (by rfl) (BAt.src_n (HBl.out.below (bdN (ba (.cells #[] 5) (Below.refl W.heap.size W)) 1)) HLl.out) (bcells_one _) b1 b2 (bdN (ba (.cells #[] 5) (Below.refl W.heap.size W)) 1).size ?_; intro u28 w28 hO hg; have hO28 := Lib.hid hO; have HB28 := Lib.hid (grown_below (bdN (ba (.cells #[] 5) (Below.refl W.heap.size W)) 1) (own_empty W W.heap.size 5 1 (Nat.le_refl _)).drew hg (bdN (ba (.cells #[] 5) (Below.refl W.heap.size W)) 1).size); clear hO hg))
    clear q0 q1 el er
    have HB9 := Lib.hid (below2 HB2.out HB38.out)
    have s9 := Nat.lt_of_lt_of_le HR3.out HB38.out.size
    go_wp2_with fail
    (try simp only [Exit.inBlock, Exit.then])
    refine bodyPost_ret (v := D.val) ?_ rfl ⟨by rw [HDD.out], ?_⟩
    · simp [results, Try.results17, go_sem]
      go_simp
    · have hB := HB9.out
      go_grown
end Go.Proofs.Ytlklgifpdneolaa
