/-
  What codec.Encode answers, for any filter that lies in a world.
-/
import Derived.Test.YtmiflelmblnkaaaDoorCPut
import Derived.Test.YtmiflelmblnkaaaDoorCFault
import Derived.Test.YtmiflelmblnkaaaDoorITexts
namespace Go.Proofs.YtmiflelmblnkaaaDoor
open Go.ChangeShapes Go.WideShapes Go.ChangeAt Go.RowKit
set_option maxRecDepth 20000

/-- The bytes of an instruction, and of a filter. -/
def encX (x : X4) : List UInt8 := lowBytes x.op.toNat 2 ++ lowBytes x.jt.toNat 1 ++ lowBytes x.jf.toNat 1 ++ lowBytes x.k.toNat 4
def encL (l : List X4) : List UInt8 := if ferr l = 0 then l.flatMap encX else []
theorem encX_len (x : X4) : (encX x).length = 8 := by simp [encX, lowBytes_len]
theorem enc_len (l : List X4) : (l.flatMap encX).length = 8 * l.length := by
  induction l with
  | nil => rfl
  | cons x l ih => rw [List.flatMap_cons, List.length_append, encX_len, ih, List.length_cons]; omega
theorem enc_snoc {l : List X4} {n : Nat} (h : n < l.length) : (l.take (n + 1)).flatMap encX = (l.take n).flatMap encX ++ encX l[n] := by
  rw [List.take_succ_eq_append_getElem h, List.flatMap_append]
  simp
theorem ferr_zero {l : List X4} (h : ferr l = 0) : l.length ≤ 4096 ∧ l.all X4.right = true := by
  unfold ferr at h
  by_cases h1 : 4096 < l.length
  · rw [if_pos h1] at h; cases h
  · rw [if_neg h1] at h
    by_cases h2 : l.all X4.right = true
    · exact ⟨by omega, h2⟩
    · rw [if_neg h2] at h; cases h
theorem ferr_of {l : List X4} (h1 : l.length ≤ 4096) (h2 : l.all X4.right = true) : ferr l = 0 := by
  unfold ferr
  rw [if_neg (by omega), if_pos h2]
theorem encL_ok {l : List X4} (h : ferr l = 0) : encL l = l.flatMap encX := by unfold encL; rw [if_pos h]
theorem encL_bad {l : List X4} (h : ferr l ≠ 0) : encL l = [] := by unfold encL; rw [if_neg h]
/-- A right instruction's four numbers. -/
theorem right_nats {x : X4} (h : x.right = true) (hk : x.ok) : ∃ o a b c : Nat, x = ⟨o, a, b, c⟩ ∧ o ≤ 172 ∧ a ≤ 255 ∧ b ≤ 255 ∧ c ≤ 4294967295 := by
  obtain ⟨op, jt, jf, k⟩ := x
  obtain ⟨r, a, b, c, hr, rfl, rfl, rfl, rfl, hf⟩ := right_row h hk.1 hk.2
  have h1 := Ip.row_bd r hr
  have h2 := fine_bd hf
  refine ⟨r.op.toNat, a, b, c, ?_, by omega, h2.1, h2.2, hf.2⟩
  rw [Int.toNat_of_nonneg h1.1]
def EncEnd (l : List X4) (w : World) (e : Ending) (w' : World) : Prop := ∃ u, e = .returned (.tuple #[u, .int .i64 (ferr l)]) ∧ BAt w' u (encL l) ∧ Below w.heap.size w w'
theorem encEnd {l : List X4} {w w' : World} {u : Value} {n : Int} (hn : ferr l = n) (hF : BAt w' u (encL l)) (hB : Below w.heap.size w w') : EncEnd l w (.returned (.tuple #[u, .int .i64 n])) w' := ⟨u, by rw [hn], hF, hB⟩
theorem insB_other (op jt jf k : Int) : ∀ c fz, insB op jt jf k ≠ .cells c 5 fz := by
  intro c fz h
  injection h with _ h2
  revert h2
  decide

set_option maxHeartbeats 2000000 in
theorem encode_any (v : Value) (l : List X4) (w : World) (hF : FAt w v l) (hk : ∀ x ∈ l, x.ok) (ht : OTab w) :
    Calls Tryd.prog 18 #[v] w (EncEnd l w) := by
  obtain ⟨i0, hi, hz0, hz1, hz2⟩ := info_parts info8
  have HF := Lib.hid hF
  have HK := Lib.hid hk
  obtain ⟨ao, cap, rfl, hF2⟩ := hF
  have HF2 := Lib.hid hF2
  clear hF2 hk
  go_enter Tryd.func18, Tryd.ntmps18
  go_wp2_with fail
  refine (fault_any _ l w HF.out ht).mono ?_
  rintro e w1 ⟨rfl, hb1⟩
  have HB1 := Lib.hid hb1
  have hs1 := hb1.size
  clear hb1
  by_cases he : ferr l = 0
  · have HE := Lib.hid he
    have hl := (ferr_zero he).1
    rw [he]
    clear he
    go_wp2_with (at_make; refine wpList_make_own _ rfl _ _ 37 rfl w.heap.size 5 i0 (.int .u8 0) 1 Tryd.underlying37 hi hz0 hz1 .i64 .i64 _ (8 * l.length) rfl rfl (by omega) (by rw [hz2]; omega) (by unfold maxLen; omega) hs1 ?_)
    intro w2 hown2 hgrow2
    have hB2 := HB1.out.grown hgrow2 hs1 (by simp)
    have HO2 := Lib.hid hown2
    have HB2 := Lib.hid hB2
    clear hown2 hgrow2 hB2
    go_wp2_with fail
    go_loopw [5, 19] (fun u i wr => ∃ n : Nat, n ≤ l.length ∧ i = .int .i64 n ∧ wr.ownsRow w.heap.size 5 1 u (8 * n) (bcells ((l.take n).flatMap encX)) ∧ Below w.heap.size w wr) (fun _ i _ => l.length - (intOf i).toNat)
    case atStart => exact ⟨0, by omega, rfl, by simpa using HO2.out, HB2.out⟩
    case round =>
      obtain ⟨n, hn, rfl, hO, hB⟩ := hrel
      have HO := Lib.hid hO
      have HB := Lib.hid hB
      have hsr := hB.size
      clear hO HO2 HB2
      by_cases hlt : n < l.length
      · rcases HF2.out with h0 | ⟨b, off, rfl, hb, hc⟩
        · rw [h0] at hlt; simp at hlt
        obtain ⟨c0, c1, c2, c3⟩ := hc n hlt
        have d0 := (hB.cell (p := ⟨b, _, none⟩) hb).trans c0
        have d1 := (hB.cell (p := ⟨b, _, none⟩) hb).trans c1
        have d2 := (hB.cell (p := ⟨b, _, none⟩) hb).trans c2
        have d3 := (hB.cell (p := ⟨b, _, none⟩) hb).trans c3
        have hra := (ferr_zero HE.out).2
        rw [List.all_eq_true] at hra
        obtain ⟨o, a, b', c, hx, ho, ha, hb', hc'⟩ := right_nats (hra _ (List.getElem_mem hlt)) (HK.out _ (List.getElem_mem hlt))
        have HN : Hid ((l.take (n + 1)).flatMap encX = (l.take n).flatMap encX ++ (lowBytes o 2 ++ lowBytes a 1 ++ lowBytes b' 1 ++ lowBytes c 4)) := Lib.hid (by rw [enc_snoc hlt, hx]; rfl)
        rw [hx] at d0 d1 d2 d3
        simp only at d0 d1 d2 d3
        have HX : Hid ((wr.alloc (insB o a b' c)).heap[wr.heap.size]? = some (insB o a b' c)) := Lib.hid (heap_alloc_new _ _)
        have HB3 := Lib.hid (hB.alloc hsr (insB o a b' c))
        have HO3 := Lib.hid (HO.out.alloc (insB o a b' c))
        clear hc c0 c1 c2 c3 hB hra hx HB HO
        go_wp2_with fail
        refine (put2 o w.heap.size _ _ _ _ HO3.out (by omega) HB3.out.size).mono ?_
        rintro e w4 ⟨u4, rfl, hO4, hB4, hK4⟩
        have hX4 := hK4 _ _ HX.out (by simp) (insB_other _ _ _ _)
        have HO4 := Lib.hid hO4
        have HB4 := Lib.hid (HB3.out.trans hB4)
        have x1 : w4.cell? ⟨wr.heap.size, 1, none⟩ = some (.int .i64 a) := cell_in hX4 1
        have HX4 := Lib.hid hX4
        clear hO4 hB4 hK4 hX4 HX HO3 HB3 d0 d1 d2 d3
        go_wp2_with fail
        refine (put1 a w.heap.size _ _ _ _ HO4.out (by omega) HB4.out.size).mono ?_
        rintro e w5 ⟨u5, rfl, hO5, hB5, hK5⟩
        have hX5 := hK5 _ _ HX4.out (by simp) (insB_other _ _ _ _)
        have HO5 := Lib.hid hO5
        have HB5 := Lib.hid (HB4.out.trans hB5)
        have x2 : w5.cell? ⟨wr.heap.size, 2, none⟩ = some (.int .i64 b') := cell_in hX5 2
        have HX5 := Lib.hid hX5
        clear hO5 hB5 hK5 hX5 HX4 HO4 HB4 x1
        go_wp2_with fail
        refine (put1 b' w.heap.size _ _ _ _ HO5.out (by omega) HB5.out.size).mono ?_
        rintro e w6 ⟨u6, rfl, hO6, hB6, hK6⟩
        have hX6 := hK6 _ _ HX5.out (by simp) (insB_other _ _ _ _)
        have HO6 := Lib.hid hO6
        have HB6 := Lib.hid (HB5.out.trans hB6)
        have x3 : w6.cell? ⟨wr.heap.size, 3, none⟩ = some (.int .u32 c) := cell_in hX6 3
        clear hO6 hB6 hK6 hX6 HX5 HO5 HB5 x2
        go_wp2_with fail
        refine (put4 c w.heap.size _ _ _ _ HO6.out (by omega) HB6.out.size).mono ?_
        rintro e w7 ⟨u7, rfl, hO7, hB7, hK7⟩
        have HO7 : Hid (w7.ownsRow w.heap.size 5 1 u7 (8 * (n + 1)) (bcells ((l.take (n + 1)).flatMap encX))) := Lib.hid (by
          rw [HN.out, show 8 * (n + 1) = 8 * n + 2 + 1 + 1 + 4 by omega]
          simpa [List.append_assoc] using hO7)
        have HB7 := Lib.hid (HB6.out.trans hB7)
        clear hO7 hB7 hK7 HO6 HB6 x3
        go_wp2_with fail
        go_roundw
        case rel => exact ⟨n + 1, by omega, by go_num, HO7.out, HB7.out⟩
        case measure => simp [intOf]; omega
      · obtain rfl : n = l.length := by omega
        have HE2 : Hid (BAt wr u5 (encL l)) := Lib.hid (by
          have h := HO.out
          rw [List.take_length] at h
          rw [encL_ok HE.out]
          exact BAt.own h (enc_len l).symm)
        go_wp2_with fail
        go_ret2
        exact encEnd HE.out HE2.out HB.out
  · have hb : (ferr l == 0) = false := by simpa using he
    have HE := Lib.hid (encL_bad he)
    clear he
    go_wp2_with fail
    go_ret2
    exact encEnd rfl (by rw [HE.out]; exact BAt.nil _) HB1.out
end Go.Proofs.YtmiflelmblnkaaaDoor
