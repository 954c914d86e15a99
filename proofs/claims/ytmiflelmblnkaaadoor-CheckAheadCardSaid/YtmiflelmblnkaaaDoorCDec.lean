/-
  What codec.Decode answers, for any bytes that lie in a world.
-/
import Derived.Test.YtmiflelmblnkaaaDoorCTake
import Derived.Test.YtmiflelmblnkaaaDoorCFault
import Derived.Test.YtmiflelmblnkaaaDoorCPut
namespace Go.Proofs.YtmiflelmblnkaaaDoor
open Go.ChangeShapes Go.WideShapes Go.ChangeAt Go.RowKit
set_option maxRecDepth 20000

theorem infoX : (Tryd.prog.info? 36).map (fun i => (i.zero, i.size, i.bytes)) = some (some (.agg #[.int .i64 0, .int .i64 0, .int .i64 0, .int .u32 0]), 4, 32) := by kernel_rfl
/-- The instructions of bytes, eight by eight; their error; what is read. -/
def x8s (b : List UInt8) : List X4 := (List.range (b.length / 8)).map fun i => x8 b (8 * i)
def derr (b : List UInt8) : Int := if 32768 < b.length then 3 else if b.length % 8 ≠ 0 then 9 else if (x8s b).all X4.right then 0 else 2
def decL (b : List UInt8) : List X4 := if derr b = 0 then x8s b else []
theorem x8s_len (b : List UInt8) : (x8s b).length = b.length / 8 := by simp [x8s]
theorem x8s_at (b : List UInt8) (i : Nat) (h : i < (x8s b).length) : (x8s b)[i] = x8 b (8 * i) := by simp [x8s]
theorem x8s_snoc (b : List UInt8) (n : Nat) (h : n < b.length / 8) : (x8s b).take (n + 1) = (x8s b).take n ++ [x8 b (8 * n)] := by
  rw [List.take_succ_eq_append_getElem (by rw [x8s_len]; exact h), x8s_at]
theorem decL_ok {b : List UInt8} (h : derr b = 0) : decL b = x8s b := by unfold decL; rw [if_pos h]
theorem decL_bad {b : List UInt8} (h : derr b ≠ 0) : decL b = [] := by unfold decL; rw [if_neg h]
theorem x8_ok (b : List UInt8) (o : Nat) : (x8 b o).ok := by
  have := numAt4 b (o + 4)
  unfold X4.ok x8
  simp only
  omega
def DecEnd (b : List UInt8) (w : World) (e : Ending) (w' : World) : Prop := ∃ u, e = .returned (.tuple #[u, .int .i64 (derr b)]) ∧ FAt w' u (decL b) ∧ Below w.heap.size w w'
theorem decEnd {b : List UInt8} {w w' : World} {u : Value} {n : Int} (hn : derr b = n) (hF : FAt w' u (decL b)) (hB : Below w.heap.size w w') : DecEnd b w (.returned (.tuple #[u, .int .i64 n])) w' := ⟨u, by rw [hn], hF, hB⟩
theorem decEnd_bad {b : List UInt8} {w w' : World} {n : Int} (hn : derr b = n) (h0 : n ≠ 0) (hB : Below w.heap.size w w') : DecEnd b w (.returned (.tuple #[.slice none 0 0, .int .i64 n])) w' :=
  decEnd hn (by rw [decL_bad (by rw [hn]; exact h0)]; exact FAt.nil _) hB
theorem derr_bad {b : List UInt8} {n : Nat} (h1 : b.length ≤ 32768) (h2 : b.length % 8 = 0) (hn : n < b.length / 8) (hr : (x8 b (8 * n)).right = false) : derr b = 2 := by
  unfold derr
  rw [if_neg (by omega), if_neg (by omega), if_neg]
  intro h
  rw [List.all_eq_true] at h
  have := h _ (List.getElem_mem (show n < (x8s b).length by rw [x8s_len]; exact hn))
  rw [x8s_at, hr] at this
  cases this
theorem derr_good {b : List UInt8} {n : Nat} (h1 : b.length ≤ 32768) (h2 : b.length % 8 = 0) (hn : n = b.length / 8) (hr : ((x8s b).take n).all X4.right = true) : derr b = 0 := by
  subst hn
  rw [← x8s_len, List.take_length] at hr
  unfold derr
  rw [if_neg (by omega), if_neg (by omega), if_pos hr]
theorem all_snoc {b : List UInt8} {n : Nat} (hn : n < b.length / 8) (hr : ((x8s b).take n).all X4.right = true) (hx : (x8 b (8 * n)).right = true) : ((x8s b).take (n + 1)).all X4.right = true := by
  rw [x8s_snoc b n hn, List.all_append, hr]
  simpa using hx
theorem fcells_snoc (b : List UInt8) (n : Nat) (h : n < b.length / 8) : fcells ((x8s b).take (n + 1)) = fcells ((x8s b).take n) ++ (x8 b (8 * n)).cells := by
  rw [x8s_snoc b n h, fcells_app, fcells_one]

set_option maxHeartbeats 4000000 in
theorem decode_any (v : Value) (b : List UInt8) (w : World) (hD : BAt w v b) (ht : OTab w) :
    Calls Tryd.prog 19 #[v] w (DecEnd b w) := by
  obtain ⟨i0, hi, hz0, hz1, hz2⟩ := info_parts infoX
  obtain ⟨ao, cap, rfl, hcap, hmax, hD⟩ := hD
  have HD := Lib.hid hD
  clear hD
  by_cases h1 : 32768 < b.length
  · have HE : Hid (derr b = 3) := Lib.hid (by unfold derr; rw [if_pos h1])
    go_enter Tryd.func19, Tryd.ntmps19
    go_wp2_with fail
    go_ret2
    exact decEnd_bad HE.out (by omega) (Below.refl _ _)
  by_cases h2 : b.length % 8 = 0
  · have h2b : ((b.length : Int) % 8 == 0) = true := by simp; omega
    have HN : Hid (b.length % 8 = 0) := Lib.hid h2
    clear h2
    go_enter Tryd.func19, Tryd.ntmps19
    go_wp2_with (at_make; refine wpList_make_own _ rfl _ _ 22 rfl w.heap.size 36 i0 (.agg #[.int .i64 0, .int .i64 0, .int .i64 0, .int .u32 0]) 4 Tryd.underlying22 hi hz0 hz1 .i64 .i64 _ (b.length / 8) rfl rfl (by omega) (by rw [hz2]; omega) (by unfold maxLen; omega) (Nat.le_refl _) ?_)
    intro w2 hown2 hgrow2
    have hB2 := (Below.refl w.heap.size w).grown hgrow2 (Nat.le_refl _) (by simp)
    have HO2 := Lib.hid hown2
    have HB2 := Lib.hid hB2
    clear hown2 hgrow2 hB2
    go_wp2_with fail
    go_loopw [4, 21] (fun u i wr => ∃ n : Nat, n ≤ b.length / 8 ∧ i = .int .i64 n ∧ wr.ownsRow w.heap.size 36 4 u n (fcells ((x8s b).take n)) ∧ ((x8s b).take n).all X4.right = true ∧ Below w.heap.size w wr) (fun _ i _ => b.length / 8 - (intOf i).toNat)
    case atStart => exact ⟨0, by omega, rfl, by simpa [fcells] using HO2.out, by simp, HB2.out⟩
    case round =>
      obtain ⟨n, hn, rfl, hO, hall, hB⟩ := hrel
      have HO := Lib.hid hO
      have HB := Lib.hid hB
      have HA := Lib.hid hall
      have hsr := hB.size
      clear hO HO2 HB2 hall
      by_cases hlt : n < b.length / 8
      · rcases HD.out with h0 | ⟨g, off, rfl, hg, hc⟩
        · rw [h0] at hlt; simp at hlt
        have HC := Lib.hid hc
        obtain ⟨a, c, hs, hc1, hc2, ha⟩ := slice_from g off b.length cap (8 * n) (by omega) hcap hmax
        obtain rfl := ha (by omega)
        have e8 : ((8 * n : Nat) : Int) = 8 * (n : Int) := by omega
        rw [e8] at hs
        clear ha hc e8 hB
        go_wp2_with fail
        refine (decodeIns_any g (off + 8 * n) (b.length - 8 * n) c (8 * n) b _ (Nat.lt_of_lt_of_le hg hsr) (by omega) hc1 hc2 (fun i hi => ?_)).mono ?_
        · refine (HB.out.cell (p := ⟨g, _, none⟩) hg).trans ?_
          have h := HC.out (8 * n + i) (by omega)
          rw [← Nat.add_assoc] at h
          rw [h, List.getD_eq_getElem?_getD, List.getElem?_eq_getElem (by omega)]
          rfl
        rintro e w3 ⟨rfl, hb3⟩
        have HB3 := Lib.hid (HB.out.trans (hb3.mono hsr))
        have HO3 := Lib.hid (own_below HO.out hb3)
        have HX3 : Hid ((w3.alloc (insB (x8 b (8 * n)).op (x8 b (8 * n)).jt (x8 b (8 * n)).jf (x8 b (8 * n)).k)).heap[w3.heap.size]? = some (insB (x8 b (8 * n)).op (x8 b (8 * n)).jt (x8 b (8 * n)).jf (x8 b (8 * n)).k)) := Lib.hid (heap_alloc_new _ _)
        have HS := Lib.hid (fcells_snoc b n hlt)
        clear hb3 HB HO hs HC
        obtain ⟨X, hX⟩ : ∃ X, X = x8 b (8 * n) := ⟨_, rfl⟩
        have HXE := Lib.hid hX
        rw [← hX] at HX3 HS ⊢
        clear hX
        have hB4 := ba (insB X.op X.jt X.jf X.k) HB3.out
        have HO4 := Lib.hid (HO3.out.alloc (insB X.op X.jt X.jf X.k))
        have HB4 := Lib.hid hB4
        clear hB4 HO3
        go_wp2_with fail
        refine (right_any X.op X.jt X.jf X.k _ (ht.below HB4.out)).mono ?_
        rintro e w5 ⟨rfl, hb5⟩
        have hX5 := (hb5.block _ (lt_of_block HX3.out)).trans HX3.out
        have HB5 := Lib.hid (HB4.out.trans (hb5.mono HB4.out.size))
        have HO5 := Lib.hid (own_below HO4.out hb5)
        have x0 : w5.cell? ⟨w3.heap.size, 0, none⟩ = some (.int .i64 X.op) := cell_in hX5 0
        have x1 : w5.cell? ⟨w3.heap.size, 1, none⟩ = some (.int .i64 X.jt) := cell_in hX5 1
        have x2 : w5.cell? ⟨w3.heap.size, 2, none⟩ = some (.int .i64 X.jf) := cell_in hX5 2
        have x3 : w5.cell? ⟨w3.heap.size, 3, none⟩ = some (.int .u32 X.k) := cell_in hX5 3
        have hs5 := HB5.out.size
        clear hb5 hX5 HX3 HO4 HB4
        cases hr : right X.op X.jt X.jf X.k
        · have HE := Lib.hid (derr_bad (n := n) (by omega) HN.out hlt (by rw [← HXE.out]; exact hr))
          go_wp2_with fail
          go_ret2
          exact decEnd_bad HE.out (by omega) HB5.out
        · have HA2 := Lib.hid (all_snoc hlt HA.out (by rw [← HXE.out]; exact hr))
          go_wp2_with (at_builtin; refine wpList_append_own _ rfl _ _ 22 rfl w.heap.size 36 i0 (.agg #[.int .i64 0, .int .i64 0, .int .i64 0, .int .u32 0]) 4 32 Tryd.underlying22 hi hz0 hz1 hz2 rfl (by decide) _ _ _ rfl (HO5.out.alloc _) ⟨w5.heap.size, 0, none⟩ 1 1 X.cells rfl rfl (new_at w5 #[.int .i64 X.op, .int .i64 X.jt, .int .i64 X.jf, .int .u32 X.k] 36) (by simp [Value.oneCell']) (by unfold maxLen; omega) (by omega) (by rw [size_alloc]; omega) ?_)
          intro v6 w6 hown6 hgrow6 _
          have HB6 := Lib.hid (grown_below (HB5.out.alloc hs5 (.cells #[.int .i64 X.op, .int .i64 X.jt, .int .i64 X.jf, .int .u32 X.k] 36)) (HO5.out.alloc _) hgrow6 (by rw [size_alloc]; omega))
          rw [← HS.out] at hown6
          have HO6 := Lib.hid hown6
          clear hown6 hgrow6 x0 x1 x2 x3
          go_wp2_with fail
          go_roundw
          case rel => exact ⟨n + 1, by omega, by go_num, HO6.out, HA2.out, HB6.out⟩
          case measure => simp [intOf]; omega
      · obtain rfl : n = b.length / 8 := by omega
        have HE := Lib.hid (derr_good (by omega) HN.out rfl HA.out)
        have HFt : Hid (FAt wr u4 (decL b)) := Lib.hid (by
          have h := HO.out
          rw [← x8s_len, List.take_length] at h
          rw [decL_ok HE.out]
          exact FAt.own h rfl)
        clear hB
        go_wp2_with fail
        go_ret2
        exact decEnd HE.out HFt.out HB.out
  · have h2b : ((b.length : Int) % 8 == 0) = false := by simp; omega
    have HE : Hid (derr b = 9) := Lib.hid (by unfold derr; rw [if_neg h1, if_pos h2])
    clear h2
    go_enter Tryd.func19, Tryd.ntmps19
    go_wp2_with fail
    go_ret2
    exact decEnd_bad HE.out (by omega) (Below.refl _ _)
end Go.Proofs.YtmiflelmblnkaaaDoor
