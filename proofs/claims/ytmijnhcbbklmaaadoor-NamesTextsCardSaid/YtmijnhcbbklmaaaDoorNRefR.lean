/-
  What the document's ReadAction answers (package hurdleref09).
-/
import Derived.Test.YtmijnhcbbklmaaaDoorNRefA
namespace Go.Proofs.YtmijnhcbbklmaaaDoor
open Go.ChangeShapes Go.WideShapes Go.ChangeAt Go.RowKit
set_option maxRecDepth 20000

def fourN (i : Nat) : Nat := [0, 196608, 2147221504, 2147418112].getD i 0
def four4 : Array Value := #[.int .u32 0, .int .u32 196608, .int .u32 2147221504, .int .u32 2147418112]
theorem four_at {i : Nat} (h : i < 4) : four4[i]? = some (.int .u32 (fourN i : Nat)) := by
  rcases four_nat h with rfl | rfl | rfl | rfl <;> rfl
theorem four_small {i : Nat} (h : i < 4) : fourN i < 4294967296 := by
  rcases four_nat h with rfl | rfl | rfl | rfl <;> decide
theorem four_is {i : Nat} (h : i < 4) : actT (fourN i) = some (actS (fourN i)) := by
  rcases four_nat h with rfl | rfl | rfl | rfl <;> rfl
theorem err_is {n : Nat} (h : n < 4096) : actT (327680 + n) = some (actS (327680 + n)) := by
  have e : actT (327680 + n) = some (berror ++ Wd.txt (327680 + n - 327680)) := by
    unfold actT
    rw [if_pos ⟨by omega, by omega⟩]
  unfold actS
  rw [e]
  rfl
/-- What is an action has a text; what is none has nothing. -/
theorem actS_kinds (v : Nat) : ((actT v).isSome = true ∧ (actS v).toList.isEmpty = false) ∨ ((actT v).isSome = false ∧ actS v = ⟨#[]⟩) := by
  cases h : actT v with
  | none => exact .inr ⟨rfl, by unfold actS; rw [h]; rfl⟩
  | some x =>
    refine .inl ⟨rfl, ?_⟩
    have e : actS v = x := by unfold actS; rw [h]; rfl
    rw [e, Go.ByteArray.toList_eq]
    rcases actT_some h with ⟨n, _, _, rfl⟩ | ⟨_, rfl⟩ | ⟨_, rfl⟩ | ⟨_, rfl⟩ | ⟨_, rfl⟩
    · rw [err_list]
      rfl
    all_goals rfl
theorem size_len (s : ByteArray) : s.data.toList.length = s.size := by simp
theorem err_size {n : Nat} (h : n < 4096) : 6 < (actS (327680 + n)).size := by
  rw [actS_err (by omega) (by omega), ← size_len]
  exact err_long _
theorem readA_none {s : ByteArray} (h1 : ∀ i, i < 4 → actS (fourN i) ≠ s) (h2 : ∀ n, n < 4096 → actS (327680 + n) ≠ s) : readA s none := by
  intro v _ e
  have ev : actS v = s := by unfold actS; rw [e]; rfl
  rcases actT_some e with ⟨n, hn, rfl, _⟩ | ⟨rfl, _⟩ | ⟨rfl, _⟩ | ⟨rfl, _⟩ | ⟨rfl, _⟩
  · exact h2 n hn ev
  · exact h1 0 (by omega) ev
  · exact h1 1 (by omega) ev
  · exact h1 2 (by omega) ev
  · exact h1 3 (by omega) ev
/-- What an action's reading ends with. -/
def RAEnd (s : ByteArray) (e : Ending) : Prop := ∃ o : Option Nat, readA s o ∧ e = .returned (.tuple #[.int .u32 (o.getD 0 : Nat), .bool o.isSome])
theorem raEnd_some {s : ByteArray} {n : Nat} (h : readA s (some n)) : RAEnd s (.returned (.tuple #[.int .u32 (n : Nat), .bool true])) := ⟨some n, h, rfl⟩
theorem raEnd_none {s : ByteArray} (h : readA s none) : RAEnd s (.returned (.tuple #[.int .u32 0, .bool false])) := ⟨none, h, rfl⟩
set_option maxHeartbeats 4000000 in
theorem rreadaction_any (s : ByteArray) (w : World) (hs : s.size ≤ 4611686018427387904) :
    Calls Tryd.prog 20 #[.string s] w fun e w' => RAEnd s e ∧ Below w.heap.size w w' := by
  have HS := Lib.hid hs
  clear hs
  go_enter Tryd.func20, Tryd.ntmps20
  go_upto_region 2 with fail
  change Code.wp _ _ _ _ (w.alloc (.cells four4 22))
  obtain ⟨W, hW⟩ : ∃ W, W = w.alloc (.cells four4 22) := ⟨_, rfl⟩
  have hF := heap_alloc_new w (.cells four4 22)
  have hb := ba (.cells four4 22) (Below.refl w.heap.size w)
  rw [← hW] at hF hb ⊢
  have HF := Lib.hid hF
  have HB := Lib.hid hb
  clear hW hF hb
  go_wp2_with fail
  go_loopw [5] (fun i wr => ∃ k : Nat, k ≤ 4 ∧ i = .int .i64 k ∧ Below W.heap.size W wr ∧ ∀ j, j < k → actS (fourN j) ≠ s) (fun i _ => 4 - (intOf i).toNat)
  case atStart => exact ⟨0, by omega, rfl, Below.refl _ _, fun j h => by omega⟩
  case round =>
    obtain ⟨k, hk, rfl, hbr, hno⟩ := hrel
    have HBr := Lib.hid hbr
    have HN := Lib.hid hno
    clear hbr hno
    by_cases hlt : k < 4
    · have hlt' : (k : Int) < 4 := by omega
      have h0 : (0 : Int) ≤ (k : Int) := by omega
      have t1 : (k : Int).toNat = k := by omega
      have x0 : wr.cell? ⟨w.heap.size, k, none⟩ = some (.int .u32 (fourN k : Nat)) := (cell_in ((HBr.out.block _ (lt_of_block HF.out)).trans HF.out) k).trans (four_at hlt)
      have HI := Lib.hid (four_is hlt)
      have HSM := Lib.hid (four_small hlt)
      have HN2 : Hid (actS (fourN k) ≠ s → ∀ j, j < k + 1 → actS (fourN j) ≠ s) := Lib.hid (fun h j hj => by
        rcases Nat.lt_or_ge j k with h' | h'
        · exact HN.out j h'
        · obtain rfl : j = k := by omega
          exact h)
      clear HN
      generalize fourN k = f at x0 HI HSM HN2
      go_wp2_with fail
      refine (raction_any f _ HSM.out).mono ?_
      rintro e w1 ⟨rfl, hb1⟩
      have HB1 := Lib.hid (below2 HBr.out hb1)
      have x1 : w1.cell? ⟨w.heap.size, k, none⟩ = some (.int .u32 (f : Nat)) := (hb1.cell (p := ⟨w.heap.size, k, none⟩) (by have := lt_of_block HF.out; have := HBr.out.size; show w.heap.size < wr.heap.size; omega)).trans x0
      clear hb1 x0
      by_cases hq : actS f = s
      · have hqd : ((actS f).toList == s.toList) = true := by simp [hq]
        have HR : Hid (readA s (some f)) := Lib.hid ⟨HSM.out, by rw [HI.out, hq]⟩
        have HBB := Lib.hid (HB.out.trans (HB1.out.mono HB.out.size))
        clear hq HI
        generalize actS f = y at hqd
        go_wp2_with fail
        go_ret2
        exact ⟨raEnd_some HR.out, HBB.out⟩
      · have hqd : ((actS f).toList == s.toList) = false := beq_ne hq
        have HN3 := Lib.hid (HN2.out hq)
        clear hq HI HN2
        generalize actS f = y at hqd
        go_wp2_with fail
        go_roundw
        case rel => exact ⟨k + 1, by omega, by go_num, HB1.out, HN3.out⟩
        case measure => simp [intOf]; omega
    · have hk4 : k = 4 := by omega
      have HB2 := Lib.hid (HB.out.trans (HBr.out.mono HB.out.size))
      have HN4 := Lib.hid HN.out
      rw [hk4] at HN4
      have hkd : ¬ (k : Int) < 4 := by omega
      clear HBr HN hk4 hlt hk
      obtain ⟨kI, hkI⟩ : ∃ x : Int, x = (k : Int) := ⟨_, rfl⟩
      rw [← hkI] at hkd ⊢
      clear hkI
      go_wp2_with fail
      go_loopw [6] (fun i wr => ∃ k : Nat, k ≤ 4096 ∧ i = .int .u32 k ∧ Below w.heap.size w wr ∧ ∀ j, j < k → actS (327680 + j) ≠ s) (fun i _ => 4096 - (intOf i).toNat)
      case atStart => exact ⟨0, by omega, rfl, HB2.out, fun j h => by omega⟩
      case round =>
        clear HB2
        obtain ⟨k, hk, rfl, hbr, hno⟩ := hrel
        have HBr := Lib.hid hbr
        have HN := Lib.hid hno
        clear hbr hno
        by_cases hlt : k < 4096
        · have hlt' : (k : Int) < 4096 := by omega
          have hw1 : IntKind.u32.wrap (327680 + (k : Int)) = ((327680 + k : Nat) : Int) := by unfold IntKind.wrap; simp [IntKind.bits, IntKind.signed]; omega
          have HI := Lib.hid (err_is hlt)
          have HZ := Lib.hid (err_size hlt)
          have HN2 : Hid (actS (327680 + k) ≠ s → ∀ j, j < k + 1 → actS (327680 + j) ≠ s) := Lib.hid (fun h j hj => by
            rcases Nat.lt_or_ge j k with h' | h'
            · exact HN.out j h'
            · obtain rfl : j = k := by omega
              exact h)
          clear HN
          have HSM : Hid (327680 + k < 4294967296) := Lib.hid (by omega)
          obtain ⟨f, hf⟩ : ∃ f, f = 327680 + k := ⟨_, rfl⟩
          rw [← hf] at hw1 HI HZ HN2 HSM
          clear hf
          by_cases hsz : 6 < s.size
          · have hszd : (6 : Int) < (s.size : Int) := by omega
            go_wp2_with fail
            refine (raction_any f _ HSM.out).mono ?_
            rintro e w1 ⟨rfl, hb1⟩
            have HB1 := Lib.hid (HBr.out.trans (hb1.mono HBr.out.size))
            clear hb1
            by_cases hq : actS f = s
            · have hqd : ((actS f).toList == s.toList) = true := by simp [hq]
              have HR : Hid (readA s (some f)) := Lib.hid ⟨HSM.out, by rw [HI.out, hq]⟩
              clear hq HI HZ HN2
              generalize actS f = y at hqd
              go_wp2_with fail
              go_ret2
              exact ⟨raEnd_some HR.out, HB1.out⟩
            · have hqd : ((actS f).toList == s.toList) = false := beq_ne hq
              have HN3 := Lib.hid (HN2.out hq)
              clear hq HI HZ HN2
              generalize actS f = y at hqd
              go_wp2_with fail
              go_roundw
              case rel => exact ⟨k + 1, by omega, by go_num, HB1.out, HN3.out⟩
              case measure => simp [intOf]; omega
          · have hszd : ¬ (6 : Int) < (s.size : Int) := by omega
            have HN3 := Lib.hid (HN2.out (fun e => hsz (by rw [← e]; exact HZ.out)))
            clear HI HZ HN2
            go_wp2_with fail
            go_roundw
            case rel => exact ⟨k + 1, by omega, by go_num, HBr.out, HN3.out⟩
            case measure => simp [intOf]; omega
        · obtain rfl : k = 4096 := by omega
          have HR := Lib.hid (readA_none HN4.out HN.out)
          go_wp2_with fail
          go_ret2
          exact ⟨raEnd_none HR.out, HBr.out⟩
end Go.Proofs.YtmijnhcbbklmaaaDoor
