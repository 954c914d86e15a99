/-
  What codec.take, codec.decodeIns and codec.Decode answer, for any bytes.
-/
import Derived.Test.YtmiflelmblnkaaaDoorCPlain
import Derived.Test.YtmiflelmblnkaaaDoorIReadW
import Derived.BigQuiet
import Derived.Laws.ResultCell
import Derived.Lib.SmallJoins
namespace Go.Proofs.YtmiflelmblnkaaaDoor
open Go.ChangeShapes Go.WideShapes Go.ChangeAt Go.RowKit
set_option maxRecDepth 20000

theorem slice_from (b off n cap sz : Nat) (h : sz ≤ n) (hc : n ≤ cap) (hcap : cap ≤ 9223372036854775807) : ∃ a c, (∀ W, (Instr.slice 37 (.slice (some ⟨b, off, none⟩) n cap) (some (.int .i64 sz)) none none).run Tryd.prog W = .ok (.slice (some a) (n - sz) c) W) ∧ n - sz ≤ c ∧ c ≤ 9223372036854775807 ∧ (sz < n → a = ⟨b, off + sz, none⟩) := by
  by_cases hc1 : cap = sz
  · refine ⟨⟨b, off, none⟩, 0, fun W => ?_, by omega, by omega, by omega⟩
    obtain rfl : n = sz := by omega
    subst hc1
    go_simp
  · refine ⟨⟨b, off + sz, none⟩, cap - sz, fun W => ?_, by omega, by omega, fun _ => rfl⟩
    go_simp

theorem or_step (l : List UInt8) (o k : Nat) (hk : k < 4) : bits .or .u32 ((numAt l o k : Nat) : Int) (((l[o + k]?.getD 0).toNat : Int) % 4294967296 * 2 ^ (8 * k) % 4294967296) = ((numAt l o (k + 1) : Nat) : Int) := by
  have hc := UInt8.toNat_lt (l[o + k]?.getD 0)
  have hlt := numAt_lt l o k
  have e0 : numAt l o (k + 1) = numAt l o k + (l[o + k]?.getD 0).toNat * 2 ^ (8 * k) := rfl
  rw [e0]
  generalize (l[o + k]?.getD 0).toNat = c at *
  generalize numAt l o k = a at *
  have e : ((c : Int) % 4294967296 * 2 ^ (8 * k) % 4294967296) = ((c * 2 ^ (8 * k) : Nat) : Int) := by
    obtain rfl | rfl | rfl | rfl : k = 0 ∨ k = 1 ∨ k = 2 ∨ k = 3 := by omega
    all_goals simp; omega
  have hb : c * 2 ^ (8 * k) < 4294967296 ∧ a < 4294967296 := by
    obtain rfl | rfl | rfl | rfl : k = 0 ∨ k = 1 ∨ k = 2 ∨ k = 3 := by omega
    all_goals simp at hlt ⊢; omega
  rw [e, u32_or_nat _ _ hb.2 hb.1, Nat.or_comm, nat_join (8 * k) _ _ (Nat.mul_mod_left _ _) hlt, Nat.add_comm]

set_option maxHeartbeats 1000000 in
theorem take_any (b off n cap sz o : Nat) (l : List UInt8) (w : World) (h1 : 1 ≤ sz) (h4 : sz ≤ 4) (hsz : sz ≤ n) (hc : n ≤ cap) (hcap : cap ≤ 9223372036854775807)
    (hcell : ∀ i, i < n → w.cell? ⟨b, off + i, none⟩ = some (.int .u8 ((l.getD (o + i) 0).toNat : Int))) :
    Calls Tryd.prog 50 #[.slice (some ⟨b, off, none⟩) n cap, .int .i64 sz] w fun e w' => ∃ a c, e = .returned (.tuple #[.int .u32 (numAt l o sz), .slice (some a) (n - sz) c]) ∧ n - sz ≤ c ∧ c ≤ 9223372036854775807 ∧ (sz < n → a = ⟨b, off + sz, none⟩) ∧ Below w.heap.size w w' := by
  obtain ⟨a, c, hs, hc1, hc2, ha⟩ := slice_from b off n cap sz hsz hc hcap
  have HA := Lib.hid ha
  have HC := Lib.hid hcell
  clear ha hcell
  go_enter Tryd.func50, Tryd.ntmps50
  go_wp2_with fail
  go_loop [6, 9] (fun u i => ∃ k : Nat, k ≤ sz ∧ i = .int .i64 k ∧ u = .int .u32 (numAt l o k)) (fun _ i => sz - (intOf i).toNat)
  case atStart => exact ⟨0, by omega, rfl, rfl⟩
  case round =>
    obtain ⟨k, hk, rfl, rfl⟩ := hrel
    by_cases hlt : k < sz
    · have hd := HC.out k (by omega)
      have HOr := Lib.hid (or_step l o k (by omega))
      go_wp2_with fail
      refine ⟨⟨k + 1, by omega, by go_num, ?_⟩, by simp [intOf]; omega⟩
      rw [HOr.out]
    · obtain rfl : k = sz := by omega
      go_wp2_with fail
      go_quiet (fail)
      go_wp2_with fail
      go_ret2
      exact ⟨a, c, rfl, hc1, hc2, HA.out, bdN (Below.refl _ _) _⟩

/-- The instruction of the eight bytes from a place on. -/
def x8 (l : List UInt8) (o : Nat) : X4 := ⟨numAt l o 2, numAt l (o + 2) 1, numAt l (o + 3) 1, numAt l (o + 4) 4⟩
theorem numAt1 (l : List UInt8) (o : Nat) : numAt l o 1 < 256 := numAt_lt l o 1
theorem numAt2 (l : List UInt8) (o : Nat) : numAt l o 2 < 65536 := numAt_lt l o 2
theorem numAt4 (l : List UInt8) (o : Nat) : numAt l o 4 < 4294967296 := numAt_lt l o 4

set_option maxHeartbeats 1000000 in
theorem decodeIns_any (b off n cap o : Nat) (l : List UInt8) (w : World) (hb : b < w.heap.size) (hn : 8 ≤ n) (hc : n ≤ cap) (hcap : cap ≤ 9223372036854775807)
    (hcell : ∀ i, i < n → w.cell? ⟨b, off + i, none⟩ = some (.int .u8 ((l.getD (o + i) 0).toNat : Int))) :
    Calls Tryd.prog 31 #[.slice (some ⟨b, off, none⟩) n cap] w fun e w' => e = .returned (insV (x8 l o).op (x8 l o).jt (x8 l o).jf (x8 l o).k) ∧ Below w.heap.size w w' := by
  have hB0 := ba zIns (Below.refl w.heap.size w)
  have HR0 : Hid ((w.alloc zIns).heap[w.heap.size]? = some zIns) := Lib.hid (heap_alloc_new _ _)
  have HC := Lib.hid hcell
  clear hcell
  go_enter Tryd.func31, Tryd.ntmps31
  go_wp2_with fail
  refine (take_any b off n cap 2 o l _ (by omega) (by omega) (by omega) hc hcap (fun i hi => (hB0.cell (p := ⟨b, _, none⟩) hb).trans (HC.out i hi))).mono ?_
  rintro e w1 ⟨a1, c1, rfl, hc1, hd1, ha1, hb1⟩
  obtain rfl := ha1 (by omega)
  have hB1 := hB0.trans (hb1.mono hB0.size)
  have HR1 := Lib.hid ((hb1.block _ (lt_of_block HR0.out)).trans HR0.out)
  have HB1 := Lib.hid hB1
  clear hb1 ha1 hB1 hB0
  go_wp2_with fail
  refine (take_any b (off + 2) (n - 2) c1 1 (o + 2) l _ (by omega) (by omega) (by omega) hc1 hd1 (fun i hi => (HB1.out.cell (p := ⟨b, _, none⟩) hb).trans (by have h := HC.out (2 + i) (by omega); rw [← Nat.add_assoc, ← Nat.add_assoc] at h; exact h))).mono ?_
  rintro e w2 ⟨a2, c2, rfl, hc2, hd2, ha2, hb2⟩
  obtain rfl := ha2 (by omega)
  have HR2 := Lib.hid ((hb2.block _ (lt_of_block HR1.out)).trans HR1.out)
  have HB2 := Lib.hid (HB1.out.trans (hb2.mono HB1.out.size))
  clear hb2 ha2 HR1
  go_wp2_with fail
  refine (take_any b (off + 2 + 1) (n - 2 - 1) c2 1 (o + 3) l _ (by omega) (by omega) (by omega) hc2 hd2 (fun i hi => (HB2.out.cell (p := ⟨b, _, none⟩) hb).trans (by have h := HC.out (3 + i) (by omega); rw [← Nat.add_assoc, ← Nat.add_assoc] at h; exact h))).mono ?_
  rintro e w3 ⟨a3, c3, rfl, hc3, hd3, ha3, hb3⟩
  obtain rfl := ha3 (by omega)
  have HR3 := Lib.hid ((hb3.block _ (lt_of_block HR2.out)).trans HR2.out)
  have HB3 := Lib.hid (HB2.out.trans (hb3.mono HB2.out.size))
  clear hb3 ha3 HR2
  go_wp2_with fail
  refine (take_any b (off + 2 + 1 + 1) (n - 2 - 1 - 1) c3 4 (o + 4) l _ (by omega) (by omega) (by omega) hc3 hd3 (fun i hi => (HB3.out.cell (p := ⟨b, _, none⟩) hb).trans (by have h := HC.out (4 + i) (by omega); rw [← Nat.add_assoc, ← Nat.add_assoc] at h; exact h))).mono ?_
  rintro e w4 ⟨a4, c4, rfl, hc4, hd4, ha4, hb4⟩
  have hR4 := (hb4.block _ (lt_of_block HR3.out)).trans HR3.out
  have HB4 := Lib.hid (HB3.out.trans (hb4.mono HB3.out.size))
  clear hb4 ha4 HR3
  have r0 : w4.cell? ⟨w.heap.size, 0, none⟩ = some (.int .i64 0) := cell_in hR4 0
  have r1 : w4.cell? ⟨w.heap.size, 1, none⟩ = some (.int .i64 0) := cell_in hR4 1
  have r2 : w4.cell? ⟨w.heap.size, 2, none⟩ = some (.int .i64 0) := cell_in hR4 2
  have r3 : w4.cell? ⟨w.heap.size, 3, none⟩ = some (.int .u32 0) := cell_in hR4 3
  have f0 := free_in hR4 0
  have f1 := free_in hR4 1
  have f2 := free_in hR4 2
  have f3 := free_in hR4 3
  have s4 := lt_of_block hR4
  have n2 := numAt2 l o
  have n1 := numAt1 l (o + 2)
  have n1' := numAt1 l (o + 3)
  clear hR4
  go_wp2_with fail
  (try simp only [Exit.inBlock, Exit.then])
  refine bodyPost_ret (v := insV (x8 l o).op (x8 l o).jt (x8 l o).jf (x8 l o).k) ?_ rfl ⟨rfl, ?_⟩
  · simp only [x8]
    simp [results, Tryd.results31, go_sem]
    go_simp
  · have hB := HB4.out
    go_grown
end Go.Proofs.YtmiflelmblnkaaaDoor
