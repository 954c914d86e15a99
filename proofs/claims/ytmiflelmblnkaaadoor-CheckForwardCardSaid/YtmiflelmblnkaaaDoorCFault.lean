/-
  What codec.fault answers, for any filter that lies in a world.
-/
import Derived.Test.YtmiflelmblnkaaaDoorCPlain
import Derived.Test.YtmiflelmblnkaaaDoorRRight
import Derived.BigQuiet
namespace Go.Proofs.YtmiflelmblnkaaaDoor
open Go.ChangeShapes Go.WideShapes Go.ChangeAt Go.RowKit
set_option maxRecDepth 20000

set_option maxHeartbeats 1000000 in
theorem fault_any (v : Value) (l : List X4) (w : World) (hF : FAt w v l) (ht : OTab w) :
    Calls Tryd.prog 29 #[v] w fun e w' => e = .returned (.int .i64 (ferr l)) ∧ Below w.heap.size w w' := by
  obtain ⟨ao, cap, rfl, hF⟩ := hF
  by_cases hbig : 4096 < l.length
  · have HE := Lib.hid (ferr_full hbig)
    go_enter Tryd.func29, Tryd.ntmps29
    go_wp2_with fail
    go_ret
    exact ⟨retI HE.out, Below.refl _ _⟩
  · have HF := Lib.hid hF
    clear hF
    go_enter Tryd.func29, Tryd.ntmps29
    go_wp2_with fail
    go_loopw [10] (fun i wr => ∃ n : Nat, n ≤ l.length ∧ i = .int .i64 n ∧ Below w.heap.size w wr ∧ (l.take n).all X4.right = true) (fun i _ => l.length - (intOf i).toNat)
    case atStart => exact ⟨0, by omega, rfl, Below.refl _ _, by simp⟩
    case round =>
      obtain ⟨n, hn, rfl, hB, hall⟩ := hrel
      have HB := Lib.hid hB
      have HA := Lib.hid hall
      by_cases hlt : n < l.length
      · rcases HF.out with h0 | ⟨b, off, rfl, hb, hc⟩
        · rw [h0] at hlt; simp at hlt
        obtain ⟨c0, c1, c2, c3⟩ := hc n hlt
        have d0 := (hB.cell (p := ⟨b, _, none⟩) hb).trans c0
        have d1 := (hB.cell (p := ⟨b, _, none⟩) hb).trans c1
        have d2 := (hB.cell (p := ⟨b, _, none⟩) hb).trans c2
        have d3 := (hB.cell (p := ⟨b, _, none⟩) hb).trans c3
        clear hc c0 c1 c2 c3 hB hall HF
        go_wp2_with fail
        have hB2 := ba (insB l[n].op l[n].jt l[n].jf l[n].k) HB.out
        refine (right_any l[n].op l[n].jt l[n].jf l[n].k _ (ht.below hB2)).mono ?_
        rintro e w1 ⟨rfl, hb1⟩
        have HB1 := Lib.hid (hB2.trans (hb1.mono hB2.size))
        clear hB2 hb1 d0 d1 d2 d3
        cases hr : right l[n].op l[n].jt l[n].jf l[n].k
        · have HE := Lib.hid (ferr_bad (by omega) hlt hr)
          go_wp2_with fail
          go_ret
          exact ⟨retI HE.out, HB1.out⟩
        · have HN := Lib.hid (all_take_succ hlt HA.out hr)
          go_wp2_with fail
          go_roundw
          case rel => exact ⟨n + 1, by omega, by go_num, HB1.out, HN.out⟩
          case measure => simp [intOf]; omega
      · have HE := Lib.hid (ferr_good (by omega) (show n = l.length by omega) hall)
        clear hB hall
        go_wp2_with fail
        go_ret
        exact ⟨retI HE.out, HB.out⟩
end Go.Proofs.YtmiflelmblnkaaaDoor
