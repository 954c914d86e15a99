/-
  What data.From answers, for any bytes.
-/
import Derived.Test.YtlklgifpdneolaaDRecord
import Derived.Lib.SmallJoins
import Derived.StillTailTactics
import Derived.IntWalk
namespace Go.Proofs.Ytlklgifpdneolaa
open Go.ChangeShapes Go.WideShapes Go.ChangeAt Go.RowKit
set_option maxRecDepth 20000

/-- The words behind i bytes. -/
def partW (b : List UInt8) (i : Nat) : List Nat := (List.range 16).map fun j => numAt b (4 * j) (min 4 (i - 4 * j))
theorem partW_len (b : List UInt8) (i : Nat) : (partW b i).length = 16 := by simp [partW]
theorem partW_zero (b : List UInt8) : (wcells (partW b 0)).toArray = z16 := by
  simp only [partW, wcells, List.map_map]
  have e : ((fun x : Nat => Value.int .u32 (x : Int)) ∘ fun j => numAt b (4 * j) (min 4 (0 - 4 * j))) = fun _ : Nat => Value.int .u32 0 := by
    funext j
    simp [numAt]
  rw [e]
  rfl
theorem partW_all (b : List UInt8) : partW b 64 = wordsB b := by
  unfold partW wordsB
  apply List.map_congr_left
  intro j hj
  rw [List.mem_range] at hj
  rw [num4, Nat.min_eq_left (by omega)]
theorem partW_at (b : List UInt8) (i : Nat) (hi : i < 64) : (wcells (partW b i)).toArray[i / 4]? = some (.int .u32 ((numAt b (4 * (i / 4)) (i % 4) : Nat) : Int)) := by
  have e : min 4 (i - 4 * (i / 4)) = i % 4 := by omega
  rw [List.getElem?_toArray, List.getElem?_map, partW, List.getElem?_map, List.getElem?_range (by omega)]
  simp only [Option.map_some]
  rw [e]
theorem partW_next (b : List UInt8) (i : Nat) (hi : i < 64) : (partW b i).set (i / 4) (numAt b (4 * (i / 4)) (i % 4 + 1)) = partW b (i + 1) := by
  apply List.ext_getElem
  · simp [partW]
  · intro j h1 h2
    simp only [partW, List.length_map, List.length_range] at h2
    rw [List.getElem_set]
    simp only [partW, List.getElem_map, List.getElem_range]
    split
    · rename_i h
      subst h
      rw [show min 4 (i + 1 - 4 * (i / 4)) = i % 4 + 1 by omega]
    · rename_i h
      rw [show min 4 (i + 1 - 4 * j) = min 4 (i - 4 * j) by omega]
theorem or_byte (b : List UInt8) (o k : Nat) (hk : k < 4) : bits .or .u32 ((numAt b o k : Nat) : Int) (((b.getD (o + k) 0).toNat * 2 ^ (8 * k) : Nat) : Int) = ((numAt b o (k + 1) : Nat) : Int) := by
  have hc := UInt8.toNat_lt (b.getD (o + k) 0)
  have hlt := numAt_lt b o k
  have e0 : numAt b o (k + 1) = numAt b o k + (b.getD (o + k) 0).toNat * 2 ^ (8 * k) := rfl
  rw [e0]
  generalize (b.getD (o + k) 0).toNat = c at *
  generalize numAt b o k = a at *
  have hb : c * 2 ^ (8 * k) < 4294967296 ∧ a < 4294967296 := by
    obtain rfl | rfl | rfl | rfl : k = 0 ∨ k = 1 ∨ k = 2 ∨ k = 3 := by omega
    all_goals simp at hlt ⊢; omega
  rw [u32_or_nat _ _ hb.2 hb.1, Nat.or_comm, nat_join (8 * k) _ _ (Nat.mul_mod_left _ _) hlt, Nat.add_comm]
/-- The error of bytes that are no record. -/
def rerr (b : List UInt8) : Int := if b.length < 64 then 9 else if b.length > 64 then 3 else 0
def recOf (b : List UInt8) : Rec := if b.length = 64 then fromB b else zeroRec

set_option maxHeartbeats 4000000 in
theorem from_any (v : Value) (b : List UInt8) (w : World) (hD : BAt w v b) :
    Calls Try.prog 9 #[v] w fun e w' => e = .returned (.tuple #[(recOf b).val, .int .i64 (rerr b)]) ∧ Below w.heap.size w w' := by
  obtain ⟨ao, cap, rfl, hcap, hmax, hD⟩ := hD
  have HD := Lib.hid hD
  clear hD
  by_cases h1 : b.length < 64
  · have HE : Hid (recOf b = zeroRec ∧ rerr b = 9) := Lib.hid ⟨if_neg (by omega), if_pos h1⟩
    go_enter Try.func9, Try.ntmps9
    go_wp2_with fail
    (try simp only [Exit.inBlock, Exit.then])
    refine bodyPost_ret (v := .tuple #[zeroRec.val, .int .i64 9]) ?_ rfl ⟨by rw [HE.out.1, HE.out.2], ?_⟩
    · rw [results_cell_tmp rfl]
      go_simp
      simp [zeroRec]
    · repeat (first | exact Below.refl _ _ | apply ba)
  by_cases h2 : 64 < b.length
  · have HE : Hid (recOf b = zeroRec ∧ rerr b = 3) := Lib.hid ⟨if_neg (by omega), by unfold rerr; rw [if_neg h1, if_pos h2]⟩
    go_enter Try.func9, Try.ntmps9
    go_wp2_with fail
    (try simp only [Exit.inBlock, Exit.then])
    refine bodyPost_ret (v := .tuple #[zeroRec.val, .int .i64 3]) ?_ rfl ⟨by rw [HE.out.1, HE.out.2], ?_⟩
    · rw [results_cell_tmp rfl]
      go_simp
      simp [zeroRec]
    · repeat (first | exact Below.refl _ _ | apply ba)
  have hb : b.length = 64 := by omega
  have HE : Hid (recOf b = fromB b ∧ rerr b = 0) := Lib.hid ⟨if_pos hb, by unfold rerr; rw [if_neg h1, if_neg h2]⟩
  obtain ⟨g, off, rfl, hg, hc⟩ : ∃ g off, ao = some ⟨g, off, none⟩ ∧ g < w.heap.size ∧ ∀ i, i < 64 → w.cell? ⟨g, off + i, none⟩ = some (.int .u8 ((b.getD i 0).toNat : Int)) := by
    rcases HD.out with h0 | ⟨g, off, rfl, hg, hc⟩
    · rw [h0] at hb; simp at hb
    · refine ⟨g, off, rfl, hg, fun i hi => ?_⟩
      rw [hc i (by omega), List.getD_eq_getElem?_getD, List.getElem?_eq_getElem (by omega)]
      rfl
  have HC := Lib.hid hc
  have HLn := Lib.hid hb
  rw [hb] at hcap ⊢
  clear hb h1 h2 hc HD
  go_enter Try.func9, Try.ntmps9
  go_wp2_with fail
  go_loopw [17] (fun i wr => ∃ k : Nat, k ≤ 64 ∧ i = .int .i64 k ∧ wr.heap[w.heap.size]? = some (.cells z9 26) ∧ wr.heap[w.heap.size + 1]? = some (.cells (wcells (partW b k)).toArray 43) ∧ Below w.heap.size w wr) (fun i _ => 64 - (intOf i).toNat)
  case atStart =>
    refine ⟨0, by omega, rfl, ?_, ?_, ba _ (ba _ (Below.refl _ _))⟩
    · exact (Below.heap_alloc _ _ _ (by rw [size_alloc]; omega)).trans (heap_alloc_new _ _)
    · rw [partW_zero]
      have h := heap_alloc_new (w.alloc (.cells z9 26)) (.cells z16 43)
      rw [size_alloc] at h
      exact h
  case round =>
    obtain ⟨k, hk, rfl, hR, hO, hB⟩ := hrel
    have HR := Lib.hid hR
    have HO := Lib.hid hO
    have HB := Lib.hid hB
    by_cases hlt : k < 64
    · have k0 := (hB.cell (p := ⟨g, off + k, none⟩) hg).trans (HC.out k hlt)
      have o0 := (cell_in hO (k / 4)).trans (partW_at b k hlt)
      have o1 := free_in hO (k / 4)
      obtain ⟨c, hc⟩ : ∃ c, c = (b.getD k 0).toNat := ⟨_, rfl⟩
      have hcl : c < 256 := by rw [hc]; exact UInt8.toNat_lt _
      rw [← hc] at k0
      obtain ⟨a, ha⟩ : ∃ a, a = numAt b (4 * (k / 4)) (k % 4) := ⟨_, rfl⟩
      rw [← ha] at o0
      have HCc := Lib.hid hc
      have HAa := Lib.hid ha
      clear hR hO hB hc ha
      have l0 : (0 : Int) ≤ (k : Int) / 4 := by omega
      have l1 : (k : Int) / 4 < 16 := by omega
      have t1 : ((k : Int) / 4).toNat = k / 4 := by omega
      go_wp2_with fail
      have s1 : IntKind.i64.wrap ((k : Int) / 4) = (k : Int) / 4 := IntWalk.i64_in _ (by omega)
      have s0 : (k : Int).tmod 4 = (k : Int) % 4 := Int.tmod_eq_emod_of_nonneg (by omega)
      have s2 : IntKind.i64.wrap ((k : Int) % 4) = (k : Int) % 4 := IntWalk.i64_in _ (by omega)
      have s3 : IntKind.i64.wrap (8 * ((k : Int) % 4)) = 8 * ((k : Int) % 4) := IntWalk.i64_in _ (by omega)
      have s4 : IntKind.u32.wrap (c : Int) = (c : Int) := by rw [IntKind.wrap_u32]; omega
      have s5 : (0 : Int) ≤ 8 * ((k : Int) % 4) := by omega
      have s6 : (8 * ((k : Int) % 4)).toNat = 8 * (k % 4) := by omega
      go_still_tail 12, (by kernel_rfl)
      have HV : Hid (Value.int .u32 (bits .or .u32 (a : Int) (IntKind.u32.wrap ((c : Int) * 2 ^ (8 * (k % 4))))) = .int .u32 ((numAt b (4 * (k / 4)) (k % 4 + 1) : Nat) : Int)) := Lib.hid (by
        have h := or_byte b (4 * (k / 4)) (k % 4) (by omega)
        rw [show 4 * (k / 4) + k % 4 = k by omega, ← HAa.out, ← HCc.out] at h
        rw [← h]
        congr 2
        have hc2 : c * 2 ^ (8 * (k % 4)) < 4294967296 := by
          obtain h | h | h | h : k % 4 = 0 ∨ k % 4 = 1 ∨ k % 4 = 2 ∨ k % 4 = 3 := by omega
          all_goals rw [h]; simp; omega
        rw [show (c : Int) * 2 ^ (8 * (k % 4)) = ((c * 2 ^ (8 * (k % 4)) : Nat) : Int) by simp, IntKind.wrap_u32]
        omega)
      change wpList _ _ _ _ _ wr.drew
      have HRq : Hid (wr.drew.heap[w.heap.size]? = some (.cells z9 26)) := HR
      have HOq : Hid (wr.drew.heap[w.heap.size + 1]? = some (.cells (wcells (partW b k)).toArray 43)) := HO
      have HBq := Lib.hid HB.out.drew
      have p0 : wr.drew.cell? ⟨w.heap.size + 1, k / 4, none⟩ = some (.int .u32 (a : Int)) := o0
      have p1 : wr.drew.frozen? ⟨w.heap.size + 1, k / 4, none⟩ = false := o1
      clear s0 s1 s2 s3 s4 s5 s6 o0 o1 k0 HR HO HB
      generalize wr.drew = W at *
      generalize bits .or .u32 (a : Int) (IntKind.u32.wrap ((c : Int) * 2 ^ (8 * (k % 4)))) = z at *
      have HR2 : Hid ((W.setCell ⟨w.heap.size + 1, k / 4, none⟩ (.int .u32 z)).heap[w.heap.size]? = some (.cells z9 26)) := Lib.hid ((Below.heap_setCell W ⟨w.heap.size + 1, k / 4, none⟩ _ w.heap.size (by simp)).trans HRq.out)
      have HO2 : Hid ((W.setCell ⟨w.heap.size + 1, k / 4, none⟩ (.int .u32 z)).heap[w.heap.size + 1]? = some (.cells (wcells (partW b (k + 1))).toArray 43)) := Lib.hid (by
        rw [Joins.block_setCell HOq.out, HV.out, ← partW_next b k hlt]
        simp [wcells, List.map_set])
      have HB2 := Lib.hid (HBq.out.setCell (p := ⟨w.heap.size + 1, k / 4, none⟩) (by simp) (.int .u32 z))
      clear HRq HOq HBq HV
      go_wp2_with fail
      go_roundw
      case rel => exact ⟨k + 1, by omega, by go_num, HR2.out, HO2.out, HB2.out⟩
      case measure => simp [intOf]; omega
    · obtain rfl : k = 64 := by omega
      have HW := Lib.hid (wordsB_lt b)
      have HWl := Lib.hid (wordsB_len b)
      have HF : Hid (recOf b = ofWords (wordsB b) ∧ rerr b = 0) := HE
      have h16 := list16 (wordsB_len b)
      rw [partW_all] at hO
      obtain ⟨x0, x1, x2, x3, x4, x5, x6, x7, x8, x9, x10, x11, x12, x13, x14, x15, hx⟩ := h16
      rw [hx] at hO HW HWl HF
      clear hx HO HR HE
      have c0 : wr.cell? ⟨w.heap.size + 1, 0, none⟩ = some (.int .u32 x0) := cell_in hO 0
      have c1 : wr.cell? ⟨w.heap.size + 1, 1, none⟩ = some (.int .u32 x1) := cell_in hO 1
      have c2 : wr.cell? ⟨w.heap.size + 1, 2, none⟩ = some (.int .u32 x2) := cell_in hO 2
      have c3 : wr.cell? ⟨w.heap.size + 1, 3, none⟩ = some (.int .u32 x3) := cell_in hO 3
      have c4 : wr.cell? ⟨w.heap.size + 1, 4, none⟩ = some (.int .u32 x4) := cell_in hO 4
      have c5 : wr.cell? ⟨w.heap.size + 1, 5, none⟩ = some (.int .u32 x5) := cell_in hO 5
      have c6 : wr.cell? ⟨w.heap.size + 1, 6, none⟩ = some (.int .u32 x6) := cell_in hO 6
      have c7 : wr.cell? ⟨w.heap.size + 1, 7, none⟩ = some (.int .u32 x7) := cell_in hO 7
      have c8 : wr.cell? ⟨w.heap.size + 1, 8, none⟩ = some (.int .u32 x8) := cell_in hO 8
      have c9 : wr.cell? ⟨w.heap.size + 1, 9, none⟩ = some (.int .u32 x9) := cell_in hO 9
      have c10 : wr.cell? ⟨w.heap.size + 1, 10, none⟩ = some (.int .u32 x10) := cell_in hO 10
      have c11 : wr.cell? ⟨w.heap.size + 1, 11, none⟩ = some (.int .u32 x11) := cell_in hO 11
      have c12 : wr.cell? ⟨w.heap.size + 1, 12, none⟩ = some (.int .u32 x12) := cell_in hO 12
      have c13 : wr.cell? ⟨w.heap.size + 1, 13, none⟩ = some (.int .u32 x13) := cell_in hO 13
      have c14 : wr.cell? ⟨w.heap.size + 1, 14, none⟩ = some (.int .u32 x14) := cell_in hO 14
      have c15 : wr.cell? ⟨w.heap.size + 1, 15, none⟩ = some (.int .u32 x15) := cell_in hO 15
      have s0 := lt_of_block hR
      have s1 := lt_of_block hO
      clear hO hB
      go_wp2_with fail
      refine (record_any [x0, x1, x2, x3, x4, x5, x6, x7, x8, x9, x10, x11, x12, x13, x14, x15] _ HWl.out HW.out).mono ?_
      rintro e w2 ⟨rfl, hb2⟩
      have hR2 := (hb2.block w.heap.size s0).trans hR
      have HB2 := Lib.hid (HB.out.trans (hb2.mono HB.out.size))
      have r0 := cell_in hR2 0
      have f0 := free_in hR2 0
      have r1 := cell_in hR2 1
      have f1 := free_in hR2 1
      have r2 := cell_in hR2 2
      have f2 := free_in hR2 2
      have r3 := cell_in hR2 3
      have f3 := free_in hR2 3
      have r4 := cell_in hR2 4
      have f4 := free_in hR2 4
      have r5 := cell_in hR2 5
      have f5 := free_in hR2 5
      have r6 := cell_in hR2 6
      have f6 := free_in hR2 6
      have r7 := cell_in hR2 7
      have f7 := free_in hR2 7
      have r8 := cell_in hR2 8
      have f8 := free_in hR2 8
      have s2 := lt_of_block hR2
      simp only [z9, List.getElem?_toArray, List.getElem?_cons_zero, List.getElem?_cons_succ] at r0 r1 r2 r3 r4 r5 r6 r7 r8
      obtain ⟨D, hD⟩ : ∃ D, D = ofWords [x0, x1, x2, x3, x4, x5, x6, x7, x8, x9, x10, x11, x12, x13, x14, x15] := ⟨_, rfl⟩
      rw [← hD] at HF ⊢
      clear hb2 hR2 hR hD c0 c1 c2 c3 c4 c5 c6 c7 c8 c9 c10 c11 c12 c13 c14 c15
      go_wp2_with fail
      (try simp only [Exit.inBlock, Exit.then])
      refine bodyPost_ret (v := .tuple #[D.val, .int .i64 0]) ?_ rfl ⟨by rw [HF.out.1, HF.out.2], ?_⟩
      · rw [results_cell_tmp rfl]
        go_simp
      · have hB := HB2.out
        go_grown
end Go.Proofs.Ytlklgifpdneolaa
