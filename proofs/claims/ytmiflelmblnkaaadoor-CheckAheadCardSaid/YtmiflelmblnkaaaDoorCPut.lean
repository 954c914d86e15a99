/-
  What codec.put answers: the row with so many bytes more.
-/
import Derived.Test.YtmiflelmblnkaaaDoorCPlain
import Derived.Lib.OthersKept
namespace Go.Proofs.YtmiflelmblnkaaaDoor
open Go.ChangeShapes Go.WideShapes Go.ChangeAt Go.RowKit
set_option maxRecDepth 20000

theorem kept_append {w wr w2 : World} {base n : Nat} {v : Value} {xs : List Value} {x : Value} (hk : Lib.OthersKept 5 none w wr) (hown : wr.ownsRow base 5 1 v n xs) (hg : (wr.alloc (.cells #[x] 5)).grownBy w2 v.ownBlock) : Lib.OthersKept 5 none w w2 := by
  refine (hk.alloc _).grown hg fun g hgg => ?_
  rcases hown.2 with ⟨rfl, _⟩ | ⟨g', cap, cur, rfl, _, hh, _⟩
  · simp [Value.ownBlock] at hgg
  · simp [Value.ownBlock] at hgg
    subst hgg
    exact ⟨cur, (0, 0), (Below.heap_alloc _ _ _ (lt_of_block hh)).trans hh⟩

set_option maxHeartbeats 1000000 in
theorem put_any (N sz : Nat) (hsz : sz ≤ 4) (base n : Nat) (v : Value) (bs : List UInt8) (w : World) (hown : w.ownsRow base 5 1 v n (bcells bs)) (hn : n ≤ 1000000) (hbase : base ≤ w.heap.size) :
    Calls Tryd.prog 30 #[v, .int .u32 N, .int .i64 sz] w fun e w' => ∃ v', e = .returned v' ∧ w'.ownsRow base 5 1 v' (n + sz) (bcells (bs ++ lowBytes N sz)) ∧ Below base w w' ∧ Lib.OthersKept 5 none w w' := by
  obtain ⟨i0, hi, hz0, hz1, hz2⟩ := info_parts info8
  have HO := Lib.hid hown
  clear hown
  go_enter Tryd.func30, Tryd.ntmps30
  go_wp2_with fail
  go_loopw [0, 9] (fun u i wr => ∃ k : Nat, k ≤ sz ∧ i = .int .i64 k ∧ wr.ownsRow base 5 1 u (n + k) (bcells (bs ++ lowBytes N k)) ∧ Below base w wr ∧ Lib.OthersKept 5 none w wr) (fun _ i _ => sz - (intOf i).toNat)
  case atStart => exact ⟨0, by omega, rfl, by simpa [lowBytes] using HO.out, Below.refl _ _, Lib.OthersKept.refl _ _ _⟩
  case round =>
    obtain ⟨k, hk, rfl, hO1, hB1, hK1⟩ := hrel
    have HO1 := Lib.hid hO1
    have HB1 := Lib.hid hB1
    have HK1 := Lib.hid hK1
    have hbw := Nat.le_trans hbase hB1.size
    clear hO1 hB1 hK1 HO
    by_cases hlt : k < sz
    · go_wp2_with (at_builtin; refine wpList_append_own _ rfl _ _ 37 rfl base 5 i0 (.int .u8 0) 1 1 Tryd.underlying37 hi hz0 hz1 hz2 rfl (by decide) _ _ _ rfl (HO1.out.alloc _) ⟨wr.heap.size, 0, none⟩ 1 1 [.int .u8 ((N : Int) / 2 ^ (8 * k) % 256)] rfl rfl (new_at wr #[.int .u8 ((N : Int) / 2 ^ (8 * k) % 256)] 5) (by simp [Value.oneCell']) (by unfold maxLen; omega) (by omega) (by rw [size_alloc]; omega) ?_)
      intro v2 w2 hown2 hgrow2 _
      have hB2 := (HB1.out.alloc hbw (.cells #[.int .u8 ((N : Int) / 2 ^ (8 * k) % 256)] 5)).grown hgrow2 (by rw [size_alloc]; omega) (fun g hg => (HO1.out.lt g hg).1)
      have hK2 := kept_append HK1.out HO1.out hgrow2
      have HO2 : Hid (w2.ownsRow base 5 1 v2 (n + (k + 1)) (bcells (bs ++ lowBytes N (k + 1)))) := Lib.hid (by
        rw [lowBytes_succ, ← List.append_assoc, bcells_app, bcells_last]
        rw [Nat.add_assoc] at hown2
        simpa [List.append_assoc] using hown2)
      have HB2 := Lib.hid hB2
      have HK2 := Lib.hid hK2
      clear hgrow2 hown2 hB2 hK2
      go_wp2_with fail
      go_roundw
      case rel => exact ⟨k + 1, by omega, by go_num, HO2.out, HB2.out, HK2.out⟩
      case measure => simp [intOf]; omega
    · obtain rfl : k = sz := by omega
      go_wp2_with fail
      go_ret
      exact ⟨_, rfl, HO1.out, HB1.out, HK1.out⟩
theorem put1 (N : Nat) (base n : Nat) (v : Value) (bs : List UInt8) (w : World) (hown : w.ownsRow base 5 1 v n (bcells bs)) (hn : n ≤ 1000000) (hbase : base ≤ w.heap.size) :
    Calls Tryd.prog 30 #[v, .int .u32 N, .int .i64 1] w fun e w' => ∃ v', e = .returned v' ∧ w'.ownsRow base 5 1 v' (n + 1) (bcells (bs ++ lowBytes N 1)) ∧ Below base w w' ∧ Lib.OthersKept 5 none w w' := put_any N 1 (by omega) base n v bs w hown hn hbase
theorem put2 (N : Nat) (base n : Nat) (v : Value) (bs : List UInt8) (w : World) (hown : w.ownsRow base 5 1 v n (bcells bs)) (hn : n ≤ 1000000) (hbase : base ≤ w.heap.size) :
    Calls Tryd.prog 30 #[v, .int .u32 N, .int .i64 2] w fun e w' => ∃ v', e = .returned v' ∧ w'.ownsRow base 5 1 v' (n + 2) (bcells (bs ++ lowBytes N 2)) ∧ Below base w w' ∧ Lib.OthersKept 5 none w w' := put_any N 2 (by omega) base n v bs w hown hn hbase
theorem put4 (N : Nat) (base n : Nat) (v : Value) (bs : List UInt8) (w : World) (hown : w.ownsRow base 5 1 v n (bcells bs)) (hn : n ≤ 1000000) (hbase : base ≤ w.heap.size) :
    Calls Tryd.prog 30 #[v, .int .u32 N, .int .i64 4] w fun e w' => ∃ v', e = .returned v' ∧ w'.ownsRow base 5 1 v' (n + 4) (bcells (bs ++ lowBytes N 4)) ∧ Below base w w' ∧ Lib.OthersKept 5 none w w' := put_any N 4 (by omega) base n v bs w hown hn hbase
end Go.Proofs.YtmiflelmblnkaaaDoor
