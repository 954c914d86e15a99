/-
  The document's own way (package hurdleref04): From, of sixty-four bytes.
-/
import Derived.Test.YtlklgifpdneolaaDRNum
import Derived.Test.YtlklgifpdneolaaDRecord
namespace Go.Proofs.Ytlklgifpdneolaa
open Go.ChangeShapes Go.WideShapes Go.ChangeAt Go.RowKit
set_option maxRecDepth 20000

def mixN (nr arch ip a0 a1 a2 a3 a4 a5 : Nat) : Nat → Array Value
  | 0 => #[.int .u32 nr, .int .u32 arch, .int .u64 ip, .int .u64 0, .int .u64 0, .int .u64 0, .int .u64 0, .int .u64 0, .int .u64 0]
  | 1 => #[.int .u32 nr, .int .u32 arch, .int .u64 ip, .int .u64 a0, .int .u64 0, .int .u64 0, .int .u64 0, .int .u64 0, .int .u64 0]
  | 2 => #[.int .u32 nr, .int .u32 arch, .int .u64 ip, .int .u64 a0, .int .u64 a1, .int .u64 0, .int .u64 0, .int .u64 0, .int .u64 0]
  | 3 => #[.int .u32 nr, .int .u32 arch, .int .u64 ip, .int .u64 a0, .int .u64 a1, .int .u64 a2, .int .u64 0, .int .u64 0, .int .u64 0]
  | 4 => #[.int .u32 nr, .int .u32 arch, .int .u64 ip, .int .u64 a0, .int .u64 a1, .int .u64 a2, .int .u64 a3, .int .u64 0, .int .u64 0]
  | 5 => #[.int .u32 nr, .int .u32 arch, .int .u64 ip, .int .u64 a0, .int .u64 a1, .int .u64 a2, .int .u64 a3, .int .u64 a4, .int .u64 0]
  | _ => #[.int .u32 nr, .int .u32 arch, .int .u64 ip, .int .u64 a0, .int .u64 a1, .int .u64 a2, .int .u64 a3, .int .u64 a4, .int .u64 a5]
theorem fromB_is (b : List UInt8) : fromB b = ⟨numAt b 0 4, numAt b 4 4, numAt b 8 8, numAt b 16 8, numAt b 24 8, numAt b 32 8, numAt b 40 8, numAt b 48 8, numAt b 56 8⟩ := by
  simp only [numAt_eight, fromB, ofWords, wordsB, show List.range 16 = [0, 1, 2, 3, 4, 5, 6, 7, 8, 9, 10, 11, 12, 13, 14, 15] from rfl, List.map_cons, List.map_nil, List.getD_cons_zero, List.getD_cons_succ, num4, Nat.reduceMul, Nat.reduceAdd]
/-- number, of a piece. -/
theorem num_piece {V : World} {v : Value} {b : List UInt8} {x lo n : Nat} (h : BAt V v ((b.drop lo).take n)) (_ _ : Nat) (hl : b.length = 64) (hb : lo + n ≤ 64) (h8 : n ≤ 8) (hx : x = numAt b lo n) :
    Calls Try.prog 24 #[v] V fun e w' => e = .returned (.int .u64 (x : Nat)) ∧ V = w' := by
  have hle : ((b.drop lo).take n).length = n := by rw [List.length_take, List.length_drop]; omega
  refine (num_any v _ V h (by omega)).mono ?_
  rintro e w' ⟨rfl, rfl⟩
  rw [hle, numAt_sub b lo n (by omega), hx]
  exact ⟨rfl, rfl⟩

set_option maxHeartbeats 4000000 in
theorem rfrom_any (v : Value) (b : List UInt8) (w : World) (hD : BAt w v b) (hb : b.length = 64) :
    Calls Try.prog 12 #[v] w fun e w' => e = .returned (fromB b).val ∧ Below w.heap.size w w' := by
  have HD := Lib.hid hD
  have HL := Lib.hid hb
  obtain ⟨v1, e1, hv1⟩ := HD.out.upto 4 4 rfl (by omega)
  obtain ⟨v2, e2, hv2⟩ := HD.out.sub 4 8 4 8 rfl rfl (by omega) (by omega)
  obtain ⟨v3, e3, hv3⟩ := HD.out.sub 8 16 8 16 rfl rfl (by omega) (by omega)
  obtain ⟨va0, ea0, hva0⟩ := HD.out.sub 16 24 16 24 rfl rfl (by omega) (by omega)
  obtain ⟨va1, ea1, hva1⟩ := HD.out.sub 24 32 24 32 rfl rfl (by omega) (by omega)
  obtain ⟨va2, ea2, hva2⟩ := HD.out.sub 32 40 32 40 rfl rfl (by omega) (by omega)
  obtain ⟨va3, ea3, hva3⟩ := HD.out.sub 40 48 40 48 rfl rfl (by omega) (by omega)
  obtain ⟨va4, ea4, hva4⟩ := HD.out.sub 48 56 48 56 rfl rfl (by omega) (by omega)
  obtain ⟨va5, ea5, hva5⟩ := HD.out.sub 56 64 56 64 rfl rfl (by omega) (by omega)
  obtain ⟨nr, hnr⟩ : ∃ x, x = numAt b 0 4 := ⟨_, rfl⟩
  obtain ⟨arch, harch⟩ : ∃ x, x = numAt b 4 4 := ⟨_, rfl⟩
  obtain ⟨ip, hip⟩ : ∃ x, x = numAt b 8 8 := ⟨_, rfl⟩
  obtain ⟨a0, ha0⟩ : ∃ x, x = numAt b 16 8 := ⟨_, rfl⟩
  obtain ⟨a1, ha1⟩ : ∃ x, x = numAt b 24 8 := ⟨_, rfl⟩
  obtain ⟨a2, ha2⟩ : ∃ x, x = numAt b 32 8 := ⟨_, rfl⟩
  obtain ⟨a3, ha3⟩ : ∃ x, x = numAt b 40 8 := ⟨_, rfl⟩
  obtain ⟨a4, ha4⟩ : ∃ x, x = numAt b 48 8 := ⟨_, rfl⟩
  obtain ⟨a5, ha5⟩ : ∃ x, x = numAt b 56 8 := ⟨_, rfl⟩
  have l0 : nr < 4294967296 := by rw [hnr]; exact numAt_lt b 0 4
  have l1 : arch < 4294967296 := by rw [harch]; exact numAt_lt b 4 4
  have H1 : Hid (∀ V, Below w.heap.size w V → Calls Try.prog 24 #[v1] V fun e w' => e = .returned (.int .u64 (nr : Nat)) ∧ V = w') := Lib.hid fun V hV => num_piece (lo := 0) (hv1.below hV) 0 4 HL.out (by omega) (by omega) hnr
  have H2 : Hid (∀ V, Below w.heap.size w V → Calls Try.prog 24 #[v2] V fun e w' => e = .returned (.int .u64 (arch : Nat)) ∧ V = w') := Lib.hid fun V hV => num_piece (hv2.below hV) 4 4 HL.out (by omega) (by omega) harch
  have H3 : Hid (∀ V, Below w.heap.size w V → Calls Try.prog 24 #[v3] V fun e w' => e = .returned (.int .u64 (ip : Nat)) ∧ V = w') := Lib.hid fun V hV => num_piece (hv3.below hV) 8 8 HL.out (by omega) (by omega) hip
  have Ha0 : Hid (∀ V, Below w.heap.size w V → Calls Try.prog 24 #[va0] V fun e w' => e = .returned (.int .u64 (a0 : Nat)) ∧ V = w') := Lib.hid fun V hV => num_piece (hva0.below hV) 16 8 HL.out (by omega) (by omega) ha0
  have Ha1 : Hid (∀ V, Below w.heap.size w V → Calls Try.prog 24 #[va1] V fun e w' => e = .returned (.int .u64 (a1 : Nat)) ∧ V = w') := Lib.hid fun V hV => num_piece (hva1.below hV) 24 8 HL.out (by omega) (by omega) ha1
  have Ha2 : Hid (∀ V, Below w.heap.size w V → Calls Try.prog 24 #[va2] V fun e w' => e = .returned (.int .u64 (a2 : Nat)) ∧ V = w') := Lib.hid fun V hV => num_piece (hva2.below hV) 32 8 HL.out (by omega) (by omega) ha2
  have Ha3 : Hid (∀ V, Below w.heap.size w V → Calls Try.prog 24 #[va3] V fun e w' => e = .returned (.int .u64 (a3 : Nat)) ∧ V = w') := Lib.hid fun V hV => num_piece (hva3.below hV) 40 8 HL.out (by omega) (by omega) ha3
  have Ha4 : Hid (∀ V, Below w.heap.size w V → Calls Try.prog 24 #[va4] V fun e w' => e = .returned (.int .u64 (a4 : Nat)) ∧ V = w') := Lib.hid fun V hV => num_piece (hva4.below hV) 48 8 HL.out (by omega) (by omega) ha4
  have Ha5 : Hid (∀ V, Below w.heap.size w V → Calls Try.prog 24 #[va5] V fun e w' => e = .returned (.int .u64 (a5 : Nat)) ∧ V = w') := Lib.hid fun V hV => num_piece (hva5.below hV) 56 8 HL.out (by omega) (by omega) ha5
  have HE : Hid (fromB b = ⟨nr, arch, ip, a0, a1, a2, a3, a4, a5⟩) := Lib.hid (by rw [fromB_is, hnr, harch, hip, ha0, ha1, ha2, ha3, ha4, ha5])
  clear hD hb hnr harch hip ha0 ha1 ha2 ha3 ha4 ha5 hv1 hv2 hv3 hva0 hva1 hva2 hva3 hva4 hva5 HD HL
  go_enter Try.func12, Try.ntmps12
  go_wp2_with fail
  have q0 : IntKind.u32.wrap (nr : Int) = (nr : Int) := by rw [IntKind.wrap_u32]; omega
  have q1 : IntKind.u32.wrap (arch : Int) = (arch : Int) := by rw [IntKind.wrap_u32]; omega
  go_region_held3 (fun _ => True) (exact trivial)
    (first
      | (go_at_call 24; guard_hyp k2 : True; refine (H3.out _ ?_).mono ?_; (have hB := Below.refl w.heap.size w; go_grown); rintro e w' ⟨rfl, rfl⟩)
      | (go_at_call 24; guard_hyp k1 : True; refine (H2.out _ ?_).mono ?_; (have hB := Below.refl w.heap.size w; go_grown); rintro e w' ⟨rfl, rfl⟩; have k2 := trivial)
      | (go_at_call 24; refine (H1.out _ ?_).mono ?_; (have hB := Below.refl w.heap.size w; go_grown); rintro e w' ⟨rfl, rfl⟩; have k1 := trivial))
  all_goals (rename_i hh; clear hh)
  all_goals (try clear k2)
  all_goals (try clear k1)
  refine ?rest
  rotate_left
  exact ?rest
  exact ?rest
  exact ?rest
  clear q0 q1 e1 e2 e3 H1 H2 H3
  go_wp2_with fail
  go_loopw [4] (fun i wr => ∃ (k : Nat) (j : Int), k ≤ 6 ∧ j = k ∧ i = .int .i64 j ∧ wr = ((w.drewN 1).alloc (.cells z9 26)).alloc (.cells (mixN nr arch ip a0 a1 a2 a3 a4 a5 k) 26)) (fun i _ => 6 - (intOf i).toNat)
  case atStart => exact ⟨0, 0, by omega, rfl, rfl, rfl⟩
  case round =>
    obtain ⟨k, j, hk, hj, rfl, rfl⟩ := hrel
    obtain ⟨rfl, rfl⟩ | ⟨rfl, rfl⟩ | ⟨rfl, rfl⟩ | ⟨rfl, rfl⟩ | ⟨rfl, rfl⟩ | ⟨rfl, rfl⟩ | ⟨rfl, rfl⟩ : (k = 0 ∧ j = 0) ∨ (k = 1 ∧ j = 1) ∨ (k = 2 ∧ j = 2) ∨ (k = 3 ∧ j = 3) ∨ (k = 4 ∧ j = 4) ∨ (k = 5 ∧ j = 5) ∨ (k = 6 ∧ j = 6) := by omega
    · clear hj
      simp only [mixN, z9]
      go_wp2_with fail
      refine (Ha0.out _ ?_).mono ?_
      · have hB := bdN (Below.refl w.heap.size w) 1
        go_grown
      rintro e w' ⟨rfl, rfl⟩
      go_wp2_with fail
      go_roundw
      case rel => exact ⟨1, 1, by omega, rfl, rfl, rfl⟩
      case measure => decide
    · clear hj
      simp only [mixN, z9]
      go_wp2_with fail
      refine (Ha1.out _ ?_).mono ?_
      · have hB := bdN (Below.refl w.heap.size w) 1
        go_grown
      rintro e w' ⟨rfl, rfl⟩
      go_wp2_with fail
      go_roundw
      case rel => exact ⟨2, 2, by omega, rfl, rfl, rfl⟩
      case measure => decide
    · clear hj
      simp only [mixN, z9]
      go_wp2_with fail
      refine (Ha2.out _ ?_).mono ?_
      · have hB := bdN (Below.refl w.heap.size w) 1
        go_grown
      rintro e w' ⟨rfl, rfl⟩
      go_wp2_with fail
      go_roundw
      case rel => exact ⟨3, 3, by omega, rfl, rfl, rfl⟩
      case measure => decide
    · clear hj
      simp only [mixN, z9]
      go_wp2_with fail
      refine (Ha3.out _ ?_).mono ?_
      · have hB := bdN (Below.refl w.heap.size w) 1
        go_grown
      rintro e w' ⟨rfl, rfl⟩
      go_wp2_with fail
      go_roundw
      case rel => exact ⟨4, 4, by omega, rfl, rfl, rfl⟩
      case measure => decide
    · clear hj
      simp only [mixN, z9]
      go_wp2_with fail
      refine (Ha4.out _ ?_).mono ?_
      · have hB := bdN (Below.refl w.heap.size w) 1
        go_grown
      rintro e w' ⟨rfl, rfl⟩
      go_wp2_with fail
      go_roundw
      case rel => exact ⟨5, 5, by omega, rfl, rfl, rfl⟩
      case measure => decide
    · clear hj
      simp only [mixN, z9]
      go_wp2_with fail
      refine (Ha5.out _ ?_).mono ?_
      · have hB := bdN (Below.refl w.heap.size w) 1
        go_grown
      rintro e w' ⟨rfl, rfl⟩
      go_wp2_with fail
      go_roundw
      case rel => exact ⟨6, 6, by omega, rfl, rfl, rfl⟩
      case measure => decide
    · clear hj
      obtain ⟨W, hW⟩ : ∃ W, W = ((w.drewN 1).alloc (.cells z9 26)).alloc (.cells (mixN nr arch ip a0 a1 a2 a3 a4 a5 6) 26) := ⟨_, rfl⟩
      have hR0 : ((w.drewN 1).alloc (.cells z9 26)).heap[w.heap.size]? = some (.cells z9 26) := heap_alloc_new _ _
      have hR : W.heap[w.heap.size]? = some (.cells z9 26) := by rw [hW]; exact (Below.heap_alloc _ _ _ (lt_of_block hR0)).trans hR0
      have hC : W.heap[w.heap.size + 1]? = some (.cells (mixN nr arch ip a0 a1 a2 a3 a4 a5 6) 26) := by
        have h := heap_alloc_new ((w.drewN 1).alloc (.cells z9 26)) (.cells (mixN nr arch ip a0 a1 a2 a3 a4 a5 6) 26)
        rw [size_alloc] at h
        rw [hW]
        exact h
      have HB : Hid (Below w.heap.size w W) := Lib.hid (by rw [hW]; exact ba _ (ba _ (bdN (Below.refl _ _) 1)))
      rw [← hW]
      have r0 : W.cell? ⟨w.heap.size, 0, none⟩ = some (.int .u32 0) := cell_in hR 0
      have f0 := free_in hR 0
      have c0 : W.cell? ⟨w.heap.size + 1, 0, none⟩ = some (.int .u32 nr) := cell_in hC 0
      have r1 : W.cell? ⟨w.heap.size, 1, none⟩ = some (.int .u32 0) := cell_in hR 1
      have f1 := free_in hR 1
      have c1 : W.cell? ⟨w.heap.size + 1, 1, none⟩ = some (.int .u32 arch) := cell_in hC 1
      have r2 : W.cell? ⟨w.heap.size, 2, none⟩ = some (.int .u64 0) := cell_in hR 2
      have f2 := free_in hR 2
      have c2 : W.cell? ⟨w.heap.size + 1, 2, none⟩ = some (.int .u64 ip) := cell_in hC 2
      have r3 : W.cell? ⟨w.heap.size, 3, none⟩ = some (.int .u64 0) := cell_in hR 3
      have f3 := free_in hR 3
      have c3 : W.cell? ⟨w.heap.size + 1, 3, none⟩ = some (.int .u64 a0) := cell_in hC 3
      have r4 : W.cell? ⟨w.heap.size, 4, none⟩ = some (.int .u64 0) := cell_in hR 4
      have f4 := free_in hR 4
      have c4 : W.cell? ⟨w.heap.size + 1, 4, none⟩ = some (.int .u64 a1) := cell_in hC 4
      have r5 : W.cell? ⟨w.heap.size, 5, none⟩ = some (.int .u64 0) := cell_in hR 5
      have f5 := free_in hR 5
      have c5 : W.cell? ⟨w.heap.size + 1, 5, none⟩ = some (.int .u64 a2) := cell_in hC 5
      have r6 : W.cell? ⟨w.heap.size, 6, none⟩ = some (.int .u64 0) := cell_in hR 6
      have f6 := free_in hR 6
      have c6 : W.cell? ⟨w.heap.size + 1, 6, none⟩ = some (.int .u64 a3) := cell_in hC 6
      have r7 : W.cell? ⟨w.heap.size, 7, none⟩ = some (.int .u64 0) := cell_in hR 7
      have f7 := free_in hR 7
      have c7 : W.cell? ⟨w.heap.size + 1, 7, none⟩ = some (.int .u64 a4) := cell_in hC 7
      have r8 : W.cell? ⟨w.heap.size, 8, none⟩ = some (.int .u64 0) := cell_in hR 8
      have f8 := free_in hR 8
      have c8 : W.cell? ⟨w.heap.size + 1, 8, none⟩ = some (.int .u64 a5) := cell_in hC 8
      have s0 := lt_of_block hR
      clear hR0 hR hC hW
      go_wp2_with fail
      (try simp only [Exit.inBlock, Exit.then])
      refine bodyPost_ret (v := Rec.val ⟨nr, arch, ip, a0, a1, a2, a3, a4, a5⟩) ?_ rfl ⟨by rw [HE.out], ?_⟩
      · simp [results, Try.results12, go_sem]
        go_simp
      · have hB := HB.out
        go_grown
end Go.Proofs.Ytlklgifpdneolaa
