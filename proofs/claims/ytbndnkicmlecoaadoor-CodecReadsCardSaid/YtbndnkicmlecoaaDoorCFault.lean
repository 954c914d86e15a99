/-
  What codec.fault and codec.Right, and the document's Check and Same, answer, for any filter that lies in a world.
-/
import Derived.Test.YtbndnkicmlecoaaDoorCPlain
import Derived.Test.YtbndnkicmlecoaaDoorRRight
import Derived.BigQuiet
namespace Go.Proofs.YtbndnkicmlecoaaDoor
open Go.ChangeShapes Go.WideShapes Go.ChangeAt Go.RowKit
set_option maxRecDepth 20000

set_option maxHeartbeats 1000000 in
theorem fault_any (v : Value) (l : List X4) (w : World) (hF : FAt w v l) (ht : OTab w) :
    Calls Tryd.prog 21 #[v] w fun e w' => e = .returned (.int .i64 (ferr l)) ∧ Below w.heap.size w w' := by
  obtain ⟨ao, cap, rfl, hF⟩ := hF
  by_cases hbig : 4096 < l.length
  · have HE := Lib.hid (ferr_full hbig)
    go_enter Tryd.func21, Tryd.ntmps21
    go_wp2_with fail
    go_ret
    exact ⟨retI HE.out, Below.refl _ _⟩
  · have HF := Lib.hid hF
    clear hF
    go_enter Tryd.func21, Tryd.ntmps21
    go_wp2_with fail
    go_loopw [10] (fun i wr => ∃ n : Nat, n ≤ l.length ∧ i = .int .i64 n ∧ Below w.heap.size w wr ∧ (l.take n).all X4.right = true) (fun i _ => l.length - (intOf i).toNat)
    case atStart => exact ⟨0, by omega, rfl, Below.refl _ _, by simp⟩
    case round =>
      obtain ⟨n, hn, rfl, hB, hall⟩ := hrel
      have HB := Lib.hid hB
      have HA := Lib.hid hall
      by_cases hlt : n < l.length
      · rcases HF.out with h0 | ⟨b, off, rfl, hb, hc⟩
        · rw [h0] at hlt; simp at hlt
        obtain ⟨c0, c1, c2, c3⟩ := hc n hlt
        have d0 := (hB.cell (p := ⟨b, _, none⟩) hb).trans c0
        have d1 := (hB.cell (p := ⟨b, _, none⟩) hb).trans c1
        have d2 := (hB.cell (p := ⟨b, _, none⟩) hb).trans c2
        have d3 := (hB.cell (p := ⟨b, _, none⟩) hb).trans c3
        clear hc c0 c1 c2 c3 hB hall HF
        go_wp2_with fail
        have hB2 := ba (insB l[n].op l[n].jt l[n].jf l[n].k) HB.out
        refine (right_any l[n].op l[n].jt l[n].jf l[n].k _ (ht.below hB2)).mono ?_
        rintro e w1 ⟨rfl, hb1⟩
        have HB1 := Lib.hid (hB2.trans (hb1.mono hB2.size))
        clear hB2 hb1 d0 d1 d2 d3
        cases hr : right l[n].op l[n].jt l[n].jf l[n].k
        · have HE := Lib.hid (ferr_bad (by omega) hlt hr)
          go_wp2_with fail
          go_ret
          exact ⟨retI HE.out, HB1.out⟩
        · have HN := Lib.hid (all_take_succ hlt HA.out hr)
          go_wp2_with fail
          go_roundw
          case rel => exact ⟨n + 1, by omega, by go_num, HB1.out, HN.out⟩
          case measure => simp [intOf]; omega
      · have HE := Lib.hid (ferr_good (by omega) (show n = l.length by omega) hall)
        clear hB hall
        go_wp2_with fail
        go_ret
        exact ⟨retI HE.out, HB.out⟩
theorem retB {a b : Bool} (h : a = b) : Ending.returned (.bool b) = .returned (.bool a) := by rw [h]
theorem cright_any (v : Value) (l : List X4) (w : World) (hF : FAt w v l) (ht : OTab w) :
    Calls Tryd.prog 13 #[v] w fun e w' => e = .returned (.bool (ferr l == 0)) ∧ Below w.heap.size w w' := by
  go_enter Tryd.func13, Tryd.ntmps13
  go_wp2_with fail
  refine (fault_any v l w hF ht).mono ?_
  rintro e w1 ⟨rfl, hb1⟩
  have HB1 := Lib.hid hb1
  clear hb1
  go_wp2_with fail
  go_ret
  exact ⟨rfl, HB1.out⟩

set_option maxHeartbeats 1000000 in
theorem rcheck_any (v : Value) (l : List X4) (w : World) (hF : FAt w v l) :
    Calls Tryd.prog 12 #[v] w fun e w' => e = .returned (.int .i64 (ferr l)) ∧ Below w.heap.size w w' := by
  obtain ⟨ao, cap, rfl, hF⟩ := hF
  by_cases hbig : 4096 < l.length
  · have HE := Lib.hid (ferr_full hbig)
    go_enter Tryd.func12, Tryd.ntmps12
    go_wp2_with fail
    go_ret
    exact ⟨retI HE.out, Below.refl _ _⟩
  · have HF := Lib.hid hF
    clear hF
    go_enter Tryd.func12, Tryd.ntmps12
    go_wp2_with fail
    go_loopw [3] (fun i wr => ∃ n : Nat, n ≤ l.length ∧ i = .int .i64 n ∧ Below w.heap.size w wr ∧ (l.take n).all X4.right = true) (fun i _ => l.length - (intOf i).toNat)
    case atStart => exact ⟨0, by omega, rfl, Below.refl _ _, by simp⟩
    case round =>
      obtain ⟨n, hn, rfl, hB, hall⟩ := hrel
      have HB := Lib.hid hB
      have HA := Lib.hid hall
      by_cases hlt : n < l.length
      · rcases HF.out with h0 | ⟨b, off, rfl, hb, hc⟩
        · rw [h0] at hlt; simp at hlt
        obtain ⟨c0, c1, c2, c3⟩ := hc n hlt
        have d0 := (hB.cell (p := ⟨b, _, none⟩) hb).trans c0
        have d1 := (hB.cell (p := ⟨b, _, none⟩) hb).trans c1
        have d2 := (hB.cell (p := ⟨b, _, none⟩) hb).trans c2
        have d3 := (hB.cell (p := ⟨b, _, none⟩) hb).trans c3
        clear hc c0 c1 c2 c3 hB hall HF
        go_wp2_with fail
        refine (refRight_any l[n].op l[n].jt l[n].jf l[n].k _).mono ?_
        rintro e w1 ⟨rfl, hb1⟩
        have HB1 := Lib.hid (HB.out.trans (hb1.mono HB.out.size))
        clear hb1 d0 d1 d2 d3
        cases hr : right l[n].op l[n].jt l[n].jf l[n].k
        · have HE := Lib.hid (ferr_bad (by omega) hlt hr)
          go_wp2_with fail
          go_ret
          exact ⟨retI HE.out, HB1.out⟩
        · have HN := Lib.hid (all_take_succ hlt HA.out hr)
          go_wp2_with fail
          go_roundw
          case rel => exact ⟨n + 1, by omega, by go_num, HB1.out, HN.out⟩
          case measure => simp [intOf]; omega
      · have HE := Lib.hid (ferr_good (by omega) (show n = l.length by omega) hall)
        clear hB hall
        go_wp2_with fail
        go_ret
        exact ⟨retI HE.out, HB.out⟩

theorem neq_ins (x y : X4) (W : World) : (binOp .neq 48 (.agg #[.int .i64 x.op, .int .i64 x.jt, .int .i64 x.jf, .int .u32 x.k]) (.agg #[.int .i64 y.op, .int .i64 y.jt, .int .i64 y.jf, .int .u32 y.k])).run Tryd.prog W = .ok (.bool (!decide (x = y))) W := by
  obtain ⟨a, b, c, d⟩ := x
  obtain ⟨a', b', c', d'⟩ := y
  simp only [X4.mk.injEq]
  cases h0 : (a == a') <;> cases h1 : (b == b') <;> cases h2 : (c == c') <;> cases h3 : (d == d') <;> go_simp <;> simp_all
theorem take_step {l l' : List X4} {n : Nat} (h : n < l.length) (h' : n < l'.length) (ht : l.take n = l'.take n) (e : l[n] = l'[n]) : l.take (n + 1) = l'.take (n + 1) := by
  rw [List.take_succ_eq_append_getElem h, List.take_succ_eq_append_getElem h', ht, e]

set_option maxHeartbeats 1000000 in
theorem same_any (v v' : Value) (l l' : List X4) (w : World) (hl : l.length ≤ 1099511627776) (hF : FAt w v l) (hF' : FAt w v' l') :
    Calls Tryd.prog 18 #[v, v'] w fun e w' => e = .returned (.bool (decide (l = l'))) ∧ Below w.heap.size w w' := by
  obtain ⟨ao, cap, rfl, hF⟩ := hF
  obtain ⟨ao', cap', rfl, hF'⟩ := hF'
  by_cases hne : l.length = l'.length
  · have HF := Lib.hid hF
    have HF' := Lib.hid hF'
    have HNE := Lib.hid hne
    rw [← hne]
    clear hF hF' hne
    go_enter Tryd.func18, Tryd.ntmps18
    go_wp2_with fail
    go_loopw [5] (fun i wr => ∃ n : Nat, n ≤ l.length ∧ i = .int .i64 n ∧ Below w.heap.size w wr ∧ l.take n = l'.take n) (fun i _ => l.length - (intOf i).toNat)
    case atStart => exact ⟨0, by omega, rfl, Below.refl _ _, by simp⟩
    case round =>
      obtain ⟨n, hn, rfl, hB, hall⟩ := hrel
      have HB := Lib.hid hB
      have HA := Lib.hid hall
      by_cases hlt : n < l.length
      · have hlt' : n < l'.length := by have := HNE.out; omega
        rcases HF.out with h0 | ⟨b, off, rfl, hb, hc⟩
        · rw [h0] at hlt; simp at hlt
        rcases HF'.out with h0 | ⟨b', off', rfl, hb', hc'⟩
        · rw [h0] at hlt'; simp at hlt'
        obtain ⟨c0, c1, c2, c3⟩ := hc n hlt
        obtain ⟨c0', c1', c2', c3'⟩ := hc' n hlt'
        have d0 := (hB.cell (p := ⟨b, _, none⟩) hb).trans c0
        have d1 := (hB.cell (p := ⟨b, _, none⟩) hb).trans c1
        have d2 := (hB.cell (p := ⟨b, _, none⟩) hb).trans c2
        have d3 := (hB.cell (p := ⟨b, _, none⟩) hb).trans c3
        have e0 := (hB.cell (p := ⟨b', _, none⟩) hb').trans c0'
        have e1 := (hB.cell (p := ⟨b', _, none⟩) hb').trans c1'
        have e2 := (hB.cell (p := ⟨b', _, none⟩) hb').trans c2'
        have e3 := (hB.cell (p := ⟨b', _, none⟩) hb').trans c3'
        clear hc c0 c1 c2 c3 hc' c0' c1' c2' c3' hB hall HF HF'
        go_wp2_with fail
        have hq := neq_ins l[n] l'[n]
        cases hd : decide (l[n] = l'[n])
        · have HE := Lib.hid (show l ≠ l' from fun h => by subst h; simp at hd)
          rw [hd] at hq
          clear hd
          go_quiet (fail)
          go_wp2_with fail
          go_ret
          exact ⟨retB (by simpa using HE.out), bdN HB.out _⟩
        · have HE := Lib.hid (take_step hlt hlt' HA.out (by simpa using hd))
          rw [hd] at hq
          clear hd
          go_quiet (fail)
          go_wp2_with fail
          go_roundw
          case rel => exact ⟨n + 1, by omega, by go_num, bdN HB.out _, HE.out⟩
          case measure => simp [intOf]; omega
      · have HE := Lib.hid (show l = l' by
          have h1 := hall
          rw [List.take_of_length_le (by omega), List.take_of_length_le (by have := HNE.out; omega)] at h1
          exact h1)
        clear hB hall
        go_wp2_with fail
        go_ret
        exact ⟨retB (by simpa using HE.out), HB.out⟩
  · have HE := Lib.hid (show l ≠ l' from fun h => hne (by rw [h]))
    go_enter Tryd.func18, Tryd.ntmps18
    go_wp2_with fail
    go_ret
    exact ⟨retB (by simpa using HE.out), Below.refl _ _⟩
end Go.Proofs.YtbndnkicmlecoaaDoor
