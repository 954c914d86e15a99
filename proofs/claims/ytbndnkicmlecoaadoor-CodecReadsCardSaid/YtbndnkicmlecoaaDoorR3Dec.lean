/-
  The document's own way (package hurdleref03): Decode.
-/
import Derived.Test.YtbndnkicmlecoaaDoorCTrip
import Derived.Test.YtbndnkicmlecoaaDoorCFault
import Derived.BigQuiet
import Derived.BigRegion
import Derived.Deep.RegionHeld3
import Derived.IntWalk
namespace Go.Proofs.YtbndnkicmlecoaaDoor
open Go.ChangeShapes Go.WideShapes Go.ChangeAt Go.RowKit
set_option maxRecDepth 100000

set_option maxHeartbeats 8000000 in
theorem r3decode_any (v : Value) (b : List UInt8) (w : World) (hD : BAt w v b) :
    Calls Tryd.prog 17 #[v] w (DecEnd b w) := by
  obtain ⟨i0, hi, hz0, hz1, hz2⟩ := info_parts infoX
  obtain ⟨ao, cap, rfl, hcap, hmax, hD⟩ := hD
  have HD := Lib.hid hD
  clear hD
  by_cases h1 : 32768 < b.length
  · have HE : Hid (derr b = 3) := Lib.hid (by unfold derr; rw [if_pos h1])
    go_enter Tryd.func17, Tryd.ntmps17
    go_wp2_with fail
    go_ret2
    exact decEnd_bad HE.out (by omega) (Below.refl _ _)
  by_cases h2 : b.length % 8 = 0
  · have h2b : ¬ ((0 : Int) < (b.length : Int) % 8) := by omega
    have HN : Hid (b.length % 8 = 0) := Lib.hid h2
    clear h2
    go_enter Tryd.func17, Tryd.ntmps17
    go_wp2_with fail
    go_loopw [4, 5] (fun u i wr => ∃ n m : Nat, n ≤ b.length / 8 ∧ m = 8 * n ∧ i = .int .i64 m ∧ wr.ownsRow w.heap.size 48 4 u n (fcells ((x8s b).take n)) ∧ ((x8s b).take n).all X4.right = true ∧ Below w.heap.size w wr) (fun _ i _ => b.length - (intOf i).toNat)
    case atStart => exact ⟨0, 0, by omega, by omega, rfl, World.ownsRow_nil _ _ _ _, by simp, Below.refl _ _⟩
    case round =>
      obtain ⟨n, m, hn, hm, rfl, hO, hall, hB⟩ := hrel
      have HO := Lib.hid hO
      have HB := Lib.hid hB
      have HA := Lib.hid hall
      have HM := Lib.hid hm
      have hsr := hB.size
      clear hO hall
      by_cases hlt : n < b.length / 8
      · have hml : m + 8 ≤ b.length := by omega
        rcases HD.out with h0 | ⟨g, off, rfl, hg, hc⟩
        · rw [h0] at hlt; simp at hlt
        obtain ⟨p0, p1, p2, p3, p4, p5, p6, p7, hp0, hp1, hp2, hp3, hp4, hp5, hp6, hp7, HX, HC⟩ : ∃ p0 p1 p2 p3 p4 p5 p6 p7 : Nat, p0 ≤ 255 ∧ p1 ≤ 255 ∧ p2 ≤ 255 ∧ p3 ≤ 255 ∧ p4 ≤ 255 ∧ p5 ≤ 255 ∧ p6 ≤ 255 ∧ p7 ≤ 255 ∧ Hid (x8 b (8 * n) = ⟨((p0 + p1 * 256 : Nat) : Int), (p2 : Int), (p3 : Int), ((p4 + p5 * 256 + p6 * 65536 + p7 * 16777216 : Nat) : Int)⟩) ∧ Hid (∀ W, Below w.heap.size w W → W.cell? ⟨g, off + m, none⟩ = some (.int .u8 p0) ∧ W.cell? ⟨g, off + (m + 1), none⟩ = some (.int .u8 p1) ∧ W.cell? ⟨g, off + (m + 2), none⟩ = some (.int .u8 p2) ∧ W.cell? ⟨g, off + (m + 3), none⟩ = some (.int .u8 p3) ∧ W.cell? ⟨g, off + (m + 4), none⟩ = some (.int .u8 p4) ∧ W.cell? ⟨g, off + (m + 5), none⟩ = some (.int .u8 p5) ∧ W.cell? ⟨g, off + (m + 6), none⟩ = some (.int .u8 p6) ∧ W.cell? ⟨g, off + (m + 7), none⟩ = some (.int .u8 p7)) := by
          have hu : ∀ j, (b.getD (m + j) 0).toNat ≤ 255 := fun j => by have := UInt8.toNat_lt (b.getD (m + j) 0); omega
          have hcell : ∀ W, Below w.heap.size w W → ∀ j, j < 8 → W.cell? ⟨g, off + (m + j), none⟩ = some (.int .u8 ((b.getD (m + j) 0).toNat : Int)) := by
            intro W hW j hj
            rw [hW.cell (p := ⟨g, _, none⟩) hg, hc (m + j) (by omega), List.getD_eq_getElem?_getD, List.getElem?_eq_getElem (by omega)]
            rfl
          refine ⟨_, _, _, _, _, _, _, _, hu 0, hu 1, hu 2, hu 3, hu 4, hu 5, hu 6, hu 7, Lib.hid ?_, Lib.hid fun W hW => ⟨hcell W hW 0 (by omega), hcell W hW 1 (by omega), hcell W hW 2 (by omega), hcell W hW 3 (by omega), hcell W hW 4 (by omega), hcell W hW 5 (by omega), hcell W hW 6 (by omega), hcell W hW 7 (by omega)⟩⟩
          rw [← hm]
          unfold x8
          simp only [numAt, Nat.zero_add, Nat.mul_zero, Nat.pow_zero, Nat.mul_one, Nat.add_zero, Nat.reduceMul, Nat.reducePow, Nat.add_assoc, Nat.reduceAdd]
        obtain ⟨k0, k1, k2, k3, k4, k5, k6, k7⟩ := HC.out wr hB
        clear hc hm
        go_wp2_with fail
        go_quiet (fail)
        have HBq := Lib.hid (bdN HB.out nq)
        have HOq : Hid ((wr.drewN nq).ownsRow w.heap.size 48 4 u4 n (fcells ((x8s b).take n))) := HO
        clear k0 k1 k2 k3 k4 k5 k6 k7 hB HB HO hsr
        generalize wr.drewN nq = W at *
        obtain ⟨k0, k1, k2, k3, _, _, _, _⟩ := HC.out W HBq.out
        go_wp2_with fail
        have gW : g < W.heap.size := Nat.lt_of_lt_of_le hg HBq.out.size
        have nW : g ≠ W.heap.size := by omega
        have nW' : W.heap.size ≠ g := by omega
        have l0 : (m : Int) < (b.length : Int) := by omega
        have l1 : (m : Int) + 1 < (b.length : Int) := by omega
        have l2 : (m : Int) + 2 < (b.length : Int) := by omega
        have l3 : (m : Int) + 3 < (b.length : Int) := by omega
        have t1 : ((m : Int) + 1).toNat = m + 1 := by omega
        have t2 : ((m : Int) + 2).toNat = m + 2 := by omega
        have t3 : ((m : Int) + 3).toNat = m + 3 := by omega
        have g0 : (0 : Int) ≤ (m : Int) := by omega
        have g1 : (0 : Int) ≤ (m : Int) + 1 := by omega
        have g2 : (0 : Int) ≤ (m : Int) + 2 := by omega
        have g3 : (0 : Int) ≤ (m : Int) + 3 := by omega
        have s1 : IntKind.i64.wrap ((m : Int) + 1) = (m : Int) + 1 := IntWalk.i64_in _ (by omega)
        have s2 : IntKind.i64.wrap ((m : Int) + 2) = (m : Int) + 2 := IntWalk.i64_in _ (by omega)
        have s3 : IntKind.i64.wrap ((m : Int) + 3) = (m : Int) + 3 := IntWalk.i64_in _ (by omega)
        have q0 : IntKind.i64.wrap (p0 : Int) = (p0 : Int) := IntWalk.i64_in _ (by omega)
        have q1 : IntKind.i64.wrap (p1 : Int) = (p1 : Int) := IntWalk.i64_in _ (by omega)
        have q2 : IntKind.i64.wrap (p2 : Int) = (p2 : Int) := IntWalk.i64_in _ (by omega)
        have q3 : IntKind.i64.wrap (p3 : Int) = (p3 : Int) := IntWalk.i64_in _ (by omega)
        have q4 : IntKind.i64.wrap (256 * (p1 : Int)) = 256 * (p1 : Int) := IntWalk.i64_in _ (by omega)
        have q5 : IntKind.i64.wrap ((p0 : Int) + 256 * (p1 : Int)) = (p0 : Int) + 256 * (p1 : Int) := IntWalk.i64_in _ (by omega)
        go_region_held3 (fun w' => w'.cell? ⟨g, off + m, none⟩ = some (.int .u8 p0) ∧ w'.cell? ⟨g, off + (m + 1), none⟩ = some (.int .u8 p1) ∧ w'.cell? ⟨g, off + (m + 2), none⟩ = some (.int .u8 p2) ∧ w'.cell? ⟨g, off + (m + 3), none⟩ = some (.int .u8 p3)) (first | exact ⟨k0, k1, k2, k3⟩ | go_keep) (first | fail)
        clear l0 l1 l2 l3 t1 t2 t3 g0 g1 g2 g3 s1 s2 s3 q0 q1 q2 q3 q4 q5 k0 k1 k2 k3
        obtain ⟨X, hX⟩ : ∃ X, X = x8 b (8 * n) := ⟨_, rfl⟩
        have HXE := Lib.hid hX
        have HS := Lib.hid (fcells_snoc b n hlt)
        rw [← hX] at HS
        have eX : (Obj.cells #[Value.int .i64 ((p0 : Int) + 256 * (p1 : Int)), .int .i64 (p2 : Int), .int .i64 (p3 : Int), .int .u32 ((p4 : Int) + (p5 : Int) * 256 + (p6 : Int) * 65536 + (p7 : Int) * 16777216)] 48) = insB X.op X.jt X.jf X.k := by
          rw [hX, HX.out]
          have e1 : (p0 : Int) + 256 * (p1 : Int) = ((p0 + p1 * 256 : Nat) : Int) := by omega
          have e2 : (p4 : Int) + (p5 : Int) * 256 + (p6 : Int) * 65536 + (p7 : Int) * 16777216 = ((p4 + p5 * 256 + p6 * 65536 + p7 * 16777216 : Nat) : Int) := by omega
          rw [e1, e2]
        rw [eX]
        have HX3 : Hid ((W.alloc (insB X.op X.jt X.jf X.k)).drew.heap[W.heap.size]? = some (insB X.op X.jt X.jf X.k)) := Lib.hid (heap_alloc_new _ _)
        have HB4 := Lib.hid (bdN (ba (insB X.op X.jt X.jf X.k) HBq.out) 1)
        have HO4 := Lib.hid (HOq.out.alloc (insB X.op X.jt X.jf X.k)).drew
        clear eX hX HBq HOq HX HC
        change Hid (Below w.heap.size w (W.alloc (insB X.op X.jt X.jf X.k)).drew) at HB4
        generalize (W.alloc (insB X.op X.jt X.jf X.k)).drew = W4 at *
        generalize (p4 : Int) + (p5 : Int) * 256 + (p6 : Int) * 65536 + (p7 : Int) * 16777216 = kk at *
        have x0 : W4.cell? ⟨W.heap.size, 0, none⟩ = some (.int .i64 X.op) := cell_in HX3.out 0
        have x1 : W4.cell? ⟨W.heap.size, 1, none⟩ = some (.int .i64 X.jt) := cell_in HX3.out 1
        have x2 : W4.cell? ⟨W.heap.size, 2, none⟩ = some (.int .i64 X.jf) := cell_in HX3.out 2
        have x3 : W4.cell? ⟨W.heap.size, 3, none⟩ = some (.int .u32 X.k) := cell_in HX3.out 3
        go_wp2_with fail
        refine (refRight_any X.op X.jt X.jf X.k _).mono ?_
        rintro e w5 ⟨rfl, hb5⟩
        have hX5 := (hb5.block _ (lt_of_block HX3.out)).trans HX3.out
        have HB5 := Lib.hid (HB4.out.trans (hb5.mono HB4.out.size))
        have HO5 := Lib.hid (own_below HO4.out hb5)
        clear x0 x1 x2 x3
        have x0 : w5.cell? ⟨W.heap.size, 0, none⟩ = some (.int .i64 X.op) := cell_in hX5 0
        have x1 : w5.cell? ⟨W.heap.size, 1, none⟩ = some (.int .i64 X.jt) := cell_in hX5 1
        have x2 : w5.cell? ⟨W.heap.size, 2, none⟩ = some (.int .i64 X.jf) := cell_in hX5 2
        have x3 : w5.cell? ⟨W.heap.size, 3, none⟩ = some (.int .u32 X.k) := cell_in hX5 3
        have hs5 := HB5.out.size
        clear hb5 hX5 HX3 HO4 HB4
        cases hr : right X.op X.jt X.jf X.k
        · have HE := Lib.hid (derr_bad (n := n) (by omega) HN.out hlt (by rw [← HXE.out]; exact hr))
          go_wp2_with fail
          go_ret2
          exact decEnd_bad HE.out (by omega) HB5.out
        · have HA2 := Lib.hid (all_snoc hlt HA.out (by rw [← HXE.out]; exact hr))
          go_wp2_with (at_builtin; refine wpList_append_own _ rfl _ _ 22 rfl w.heap.size 48 i0 (.agg #[.int .i64 0, .int .i64 0, .int .i64 0, .int .u32 0]) 4 32 Tryd.underlying22 hi hz0 hz1 hz2 rfl (by decide) _ _ _ rfl (HO5.out.alloc _) ⟨w5.heap.size, 0, none⟩ 1 1 X.cells rfl rfl (new_at w5 #[.int .i64 X.op, .int .i64 X.jt, .int .i64 X.jf, .int .u32 X.k] 48) (by simp [Value.oneCell']) (by unfold maxLen; omega) (by omega) (by rw [size_alloc]; omega) ?_)
          intro v6 w6 hown6 hgrow6 _
          have HB6 := Lib.hid (grown_below (HB5.out.alloc hs5 (.cells #[.int .i64 X.op, .int .i64 X.jt, .int .i64 X.jf, .int .u32 X.k] 48)) (HO5.out.alloc _) hgrow6 (by rw [size_alloc]; omega))
          rw [← HS.out] at hown6
          have HO6 := Lib.hid hown6
          have HM8 : Hid (m + 8 = 8 * (n + 1)) := Lib.hid (by have := HM.out; omega)
          clear hown6 hgrow6 x0 x1 x2 x3
          go_wp2_with fail
          go_roundw
          case rel => exact ⟨n + 1, m + 8, by omega, HM8.out, by go_num, HO6.out, HA2.out, HB6.out⟩
          case measure => simp [intOf]; omega
      · have hmb : ¬ m < b.length := by omega
        obtain rfl : n = b.length / 8 := by omega
        have HE := Lib.hid (derr_good (by omega) HN.out rfl HA.out)
        have HFt : Hid (FAt wr u4 (decL b)) := Lib.hid (by
          have h := HO.out
          rw [← x8s_len, List.take_length] at h
          rw [decL_ok HE.out]
          exact FAt.own h rfl)
        clear hB hm
        go_wp2_with fail
        go_ret2
        exact decEnd HE.out HFt.out HB.out
  · have h2b : (0 : Int) < (b.length : Int) % 8 := by omega
    have HE : Hid (derr b = 9) := Lib.hid (by unfold derr; rw [if_neg h1, if_pos h2])
    clear h2
    go_enter Tryd.func17, Tryd.ntmps17
    go_wp2_with fail
    go_ret2
    exact decEnd_bad HE.out (by omega) (Below.refl _ _)
end Go.Proofs.YtbndnkicmlecoaaDoor
