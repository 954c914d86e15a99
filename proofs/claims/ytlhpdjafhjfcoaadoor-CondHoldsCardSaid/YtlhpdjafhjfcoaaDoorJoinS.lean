/-
  What strings.Join answers, where the whole takes at most 2^47 bytes.
-/
import Derived.Test.YtlhpdjafhjfcoaaDoorSCut
import Derived.Lib.Join
import Derived.Lib.MakeNoZero
import Derived.Lib.Builder
import Derived.Laws.IdiomCopy
import Derived.BigRegion
import Derived.Deep.OwnRows
import Derived.Laws.Strings3
import Derived.Deep.DeepCutAuto
import Derived.Handy
namespace Go.Proofs.YtlhpdjafhjfcoaaDoor
open Go.ChangeShapes Go.WideShapes Go.ChangeAt Go.RowKit
set_option maxRecDepth 100000

set_option maxHeartbeats 4000000 in
/-- A builder without a buffer grows. -/
theorem sbGrow0 (B b n : Nat) (w : World) (hB : B ≤ b) (hbk : w.heap[b]? = some (.cells #[.pointer (some ⟨b, 0, none⟩), .slice none 0 0] 70 (0, 0))) (hBw : B ≤ w.heap.size) (hn : n ≤ 281474976710656) :
    Calls Tryd.prog 48 #[.pointer (some ⟨b, 0, none⟩), .int .i64 n] w fun e w' => e = .returned (.tuple #[]) ∧ SB B b [] w' ∧ Below B w w' := by
  obtain ⟨cs, hrun, hle, hmax⟩ := Lib.run_makeNoZero (P := Tryd.prog) w.drew #[3] 66 5 Tryd.underlying66 n hn
  have hw : IntKind.i64.wrap (IntKind.i64.wrap 0 + (n : Int)) = n := by
    rw [IntKind.wrap_i64, IntKind.wrap_i64]
    omega
  have hcall : (callFunc 57 #[.int .i64 (IntKind.i64.wrap (IntKind.i64.wrap 0 + (n : Int)))]).run Tryd.prog w.drew = .ok (.value (.slice (some ⟨w.drew.heap.size, 0, none⟩) n cs.size)) (w.drew.drew.drew.alloc (.cells cs 5)) := by
    rw [hw, run_callFunc_extern Tryd.func57 (by kernel_rfl) (by kernel_rfl) (by kernel_rfl) (e := Extern.BytealgMakeNoZero.makeNoZero #[3] #[66]) (by kernel_rfl), hrun]
    rfl
  have hlt : b < w.heap.size := lt_of_block hbk
  have c1 : w.drew.cell? ⟨b, 1, none⟩ = some (.slice none 0 0) := by
    have : w.drew.heap[b]? = _ := hbk
    rw [Lib.cell_of_heap this]; rfl
  have c2 : (w.alloc (.cells cs 5)).cell? ⟨b, 1, none⟩ = some (.slice none 0 0) := by
    have : (w.alloc (.cells cs 5)).heap[b]? = _ := (Lib.alloc_old w _ b hlt).trans hbk
    rw [Lib.cell_of_heap this]; rfl
  have f2 : (w.alloc (.cells cs 5)).frozen? ⟨b, 1, none⟩ = false := Lib.frozen_of_heap ((Lib.alloc_old w _ b hlt).trans hbk) 1
  have hcopy : ∀ W : World, (Builtin.copy_ #[66, 66] 3 #[.slice (some ⟨w.heap.size, 0, none⟩) 0 cs.size, .slice none 0 0]).run Tryd.prog W = .ok (goInt 0) W :=
    fun W => run_copy_none W 66 66 3 5 _ _ 0 cs.size 0 0 Tryd.underlying66 (by kernel_rfl) rfl
  clear hw
  have hfin := Lib.grown_fresh (T := 70) (e := 5) (cs := cs) hB hbk hBw (hmax (by unfold maxLen; omega)) (by decide)
  rw [World.setCell_alloc_past _ _ _ _ hlt] at hfin
  have HF := Lib.hid hfin
  clear hfin hrun hmax hbk
  go_enter Tryd.func48, Tryd.ntmps48
  go_wp2_with fail
  go_region
  all_goals (go_wp2_with fail; go_end0; exact ⟨rfl, .inr HF.out.1, HF.out.2⟩)

/-- Grow at a builder that has not been written. -/
theorem sbGrow (b n : Nat) (w : World) (hbk : w.heap[b]? = some (.cells #[.pointer none, .slice none 0 0] 70 (0, 0))) (hn : n ≤ 281474976710656) (hn0 : 0 < n) :
    Calls Tryd.prog 34 #[.pointer (some ⟨b, 0, none⟩), .int .i64 n] w fun e w' => e = .returned (.tuple #[]) ∧ SB b b [] w' ∧ Below b w w' := by
  have hlt : b < w.heap.size := lt_of_block hbk
  have hbk1 : (w.setCell ⟨b, 0, none⟩ (.pointer (some ⟨b, 0, none⟩))).heap[b]? = some (.cells #[.pointer (some ⟨b, 0, none⟩), .slice none 0 0] 70 (0, 0)) := by
    simp [World.setCell, Array.getElem?_modify, hbk]
  have hb1 : Below b w (w.setCell ⟨b, 0, none⟩ (.pointer (some ⟨b, 0, none⟩))) := (Below.refl b w).setCell (p := ⟨b, 0, none⟩) (Nat.le_refl _) _
  have k0 : w.cell? ⟨b, 0, none⟩ = some (.pointer none) := by rw [Lib.cell_of_heap hbk]; rfl
  have k1 : w.shape? b = some (70, 2) := by simp [World.shape?, hbk]
  have k2 : w.frozen? ⟨b, 0, none⟩ = false := Lib.frozen_of_heap hbk 0
  have HB := Lib.hid hb1
  have HK := Lib.hid hbk1
  clear hb1 hbk1 hbk
  go_enter Tryd.func34, Tryd.ntmps34
  go_wp2_with fail
  refine (sbFresh b w k0 k1 k2).mono ?_
  rintro e w' ⟨rfl, hw'⟩
  rw [← hw'] at HB HK
  have hs' : w.heap.size ≤ w'.heap.size := HB.out.size
  clear k0 k1 k2 hw'
  have c1 : w'.cell? ⟨b, 1, none⟩ = some (.slice none 0 0) := by rw [Lib.cell_of_heap HK.out]; rfl
  go_wp2_with fail
  go_quiet (fail)
  go_wp2_with fail
  refine (sbGrow0 b b n _ (Nat.le_refl _) (show (World.drewN w' _).heap[b]? = _ from HK.out) (by show b ≤ w'.heap.size; omega) hn).mono ?_
  rintro e w2 ⟨rfl, h1, h2⟩
  have H1 := Lib.hid h1
  have H2 := Lib.hid ((bdN HB.out _).trans h2)
  clear h1 h2
  go_wp2_with fail
  go_end0
  exact ⟨rfl, H1.out, H2.out⟩

set_option maxHeartbeats 4000000 in
/-- strings.Join of two and more texts, at a mark of one byte. -/
theorem strJoin_any (bk o c : Nat) (xs : List (List UInt8)) (m : UInt8) (w : World) (hcells : ∀ j x, xs[j]? = some x → w.cell? ⟨bk, o + j, none⟩ = some (.string ⟨x.toArray⟩)) (hbk : bk < w.heap.size) (h2 : 2 ≤ xs.length) (hN : xs.length ≤ 140737488355328) (hcap : xs.length ≤ c)
    (hlen : (Lib.join xs [m]).length ≤ 140737488355328) :
    Calls Tryd.prog 23 #[.slice (some ⟨bk, o, none⟩) xs.length c, .string ⟨#[m]⟩] w fun e w' => e = .returned (.string ⟨(Lib.join xs [m]).toArray⟩) ∧ Below w.heap.size w w' := by
  have HC := Lib.hid hcells
  obtain ⟨x0, r, hxs⟩ : ∃ x0 r, xs = x0 :: r := by
    cases xs with
    | nil => simp at h2
    | cons a t => exact ⟨a, t, rfl⟩
  have hrl : r.length = xs.length - 1 := by rw [hxs]; simp
  have hJe : (Lib.join xs [m]).length = (xs.length - 1) + Lib.lens xs := by
    have := Lib.join_length x0 r [m]
    rw [hxs]
    rw [this]
    simp
  have hsum : (xs.length - 1) + Lib.lens xs ≤ 140737488355328 := by omega
  have hdv : ¬ (9223372036854775807 / ((xs.length : Int) - 1) ≤ 1) := by
    have : (2 : Int) ≤ 9223372036854775807 / ((xs.length : Int) - 1) := by
      rw [Int.le_ediv_iff_mul_le (by omega)]
      omega
    omega
  have hne0 : ((xs.length : Int) == 0) = false := beq_eq_false_iff_ne.2 (by omega)
  have hne1 : ((xs.length : Int) == 1) = false := beq_eq_false_iff_ne.2 (by omega)
  have Hxs := Lib.hid hxs
  have HJe := Lib.hid hJe
  have Hrl := Lib.hid hrl
  clear hxs hlen hJe hcells hrl
  go_enter Tryd.func23, Tryd.ntmps23
  go_wp2_with fail
  go_loop [5, 41] (fun n i => ∃ k : Nat, k ≤ xs.length ∧ i = .int .i64 k ∧ n = .int .i64 ((xs.length - 1 + Lib.lens (xs.take k) : Nat) : Int)) (fun _ i => xs.length - (Lib.intOf i).toNat)
  case atStart => exact ⟨0, Nat.zero_le _, rfl, by simp [Lib.lens]; omega⟩
  case round =>
    obtain ⟨k, hk, rfl, rfl⟩ := hrel
    by_cases hkn : k < xs.length
    · have hx : xs[k]? = some xs[k] := List.getElem?_eq_getElem hkn
      have hc := HC.out k _ hx
      have hstep := Lib.lens_take_succ xs k _ hx
      have hbound := Lib.lens_take_le xs (k + 1)
      have hxz : (⟨(xs[k]).toArray⟩ : ByteArray).size = xs[k].length := by simp [ByteArray.size]
      generalize (⟨(xs[k]).toArray⟩ : ByteArray) = X at hc hxz
      generalize xs[k].length = L at hstep hxz
      generalize hA1 : Lib.lens (xs.take (k + 1)) = A1 at hstep hbound
      generalize Lib.lens (xs.take k) = A0 at hstep
      have HA1 := Lib.hid hA1
      clear hA1 hx
      go_wp2_with fail
      exact ⟨⟨k + 1, by omega, by go_num, by rw [HA1.out]; refine congrArg _ ?_; omega⟩, by simp [Lib.intOf]; omega⟩
    · have hke : k = xs.length := by omega
      subst hke
      rw [List.take_of_length_le (Nat.le_refl _)]
      generalize hT : Lib.lens xs = T at hsum
      have HT := Lib.hid hT
      clear hT
      go_wp2_with fail
      have e1 : ((xs.length - 1 : Nat) : Int) + (T : Int) = ((xs.length - 1 + T : Nat) : Int) := by omega
      rw [e1]
      clear e1
      refine (sbGrow w.heap.size (xs.length - 1 + T) _ (heap_alloc_new w _) (by omega) (by omega)).mono ?_
      rintro e w1 ⟨rfl, h1, hb1⟩
      have H1 := Lib.hid h1
      have HB1 := Lib.hid (((Below.refl w.heap.size w).alloc (Nat.le_refl _) _).trans hb1)
      have hs1 : w.heap.size ≤ w1.heap.size := HB1.out.size
      have hc0 : w1.cell? ⟨bk, o, none⟩ = some (.string ⟨x0.toArray⟩) := by
        rw [HB1.out.cell (p := ⟨bk, o, none⟩) hbk]
        exact HC.out 0 x0 (by rw [Hxs.out]; rfl)
      have HW : Hid (Lib.join xs [m] = x0 ++ Lib.joinTail [m] r) := Lib.hid (by rw [Hxs.out, Lib.join_cons])
      have HLe : Hid (∀ k, (x0 ++ Lib.joinTail [m] (r.take k)).length ≤ 140737488355328) := Lib.hid (fun k => by
        have g1 := HJe.out
        rw [HW.out, HT.out, List.length_append] at g1
        have g2 := Lib.joinTail_take_le [m] r k
        rw [List.length_append]
        omega)
      clear h1 hb1
      go_wp2_with fail
      refine (sbWrite w.heap.size w.heap.size [] ⟨x0.toArray⟩ w1 H1.out (by have := HLe.out 0; simp [Lib.joinTail] at this; simpa [ByteArray.size] using this) hs1).mono ?_
      rintro e w2 ⟨rfl, h2', hb2⟩
      have H2 : Hid (SB w.heap.size w.heap.size (x0 ++ Lib.joinTail [m] (r.take 0)) w2) := Lib.hid (by simpa [Lib.joinTail] using h2')
      have HB2 := Lib.hid (HB1.out.trans hb2)
      have hrl2 : r.length = xs.length - 1 := Hrl.out
      clear h2' hb2 hc0 hs1
      go_wp2_with fail
      go_loopw [65] (fun i wr => ∃ k : Nat, k ≤ r.length ∧ i = .int .i64 k ∧ Hid (SB w.heap.size w.heap.size (x0 ++ Lib.joinTail [m] (r.take k)) wr) ∧ Hid (Below w.heap.size w wr)) (fun i _ => r.length - (Lib.intOf i).toNat)
      case atStart => exact ⟨0, Nat.zero_le _, rfl, H2, HB2⟩
      case round =>
        obtain ⟨k, hk', rfl, HB, HW'⟩ := hrel
        have hBw : w.heap.size ≤ wr.heap.size := HW'.out.size
        by_cases hkr : k < r.length
        · have hy : r[k]? = some r[k] := List.getElem?_eq_getElem hkr
          obtain ⟨y, hyy⟩ : ∃ y, y = r[k] := ⟨_, rfl⟩
          rw [← hyy] at hy
          have hcy : wr.cell? ⟨bk, o + 1 + k, none⟩ = some (.string ⟨y.toArray⟩) := by
            rw [HW'.out.cell (p := ⟨bk, o + 1 + k, none⟩) hbk, show o + 1 + k = o + (k + 1) by omega]
            exact HC.out (k + 1) y (by rw [Hxs.out]; simpa using hy)
          have HN : Hid (x0 ++ Lib.joinTail [m] (r.take k) ++ [m] ++ y = x0 ++ Lib.joinTail [m] (r.take (k + 1))) := Lib.hid (by
            rw [Lib.joinTail_take_succ [m] r k y hy]
            simp [List.append_assoc])
          have HL : Hid ((x0 ++ Lib.joinTail [m] (r.take k)).length + 1 + y.length ≤ 140737488355328) := Lib.hid (by
            have g := HLe.out (k + 1)
            rw [← HN.out] at g
            simp only [List.length_append, List.length_singleton] at g ⊢
            omega)
          clear hy hyy
          go_wp2_with fail
          refine (sbWrite w.heap.size w.heap.size _ ⟨#[m]⟩ wr HB.out (by have := HL.out; show _ + 1 ≤ _; omega) hBw).mono ?_
          rintro e w3 ⟨rfl, h3, hb3⟩
          have H3 := Lib.hid h3
          have HB3 := Lib.hid (HW'.out.trans hb3)
          have hs3 : w.heap.size ≤ w3.heap.size := HB3.out.size
          clear h3 hb3 hcy
          go_wp2_with fail
          refine (sbWrite w.heap.size w.heap.size _ ⟨y.toArray⟩ w3 H3.out (by have := HL.out; simp only [List.length_append] at this ⊢; show _ + _ + 1 + y.length ≤ _; omega) hs3).mono ?_
          rintro e w4 ⟨rfl, h4, hb4⟩
          have H4 : Hid (SB w.heap.size w.heap.size (x0 ++ Lib.joinTail [m] (r.take (k + 1))) w4) := Lib.hid (by rw [← HN.out]; exact h4)
          have HB4 := Lib.hid (HB3.out.trans hb4)
          clear h4 hb4
          go_wp2_with fail
          exact ⟨⟨k + 1, by omega, by go_num, H4, HB4⟩, by simp [Lib.intOf]; omega⟩
        · have hke : k = r.length := by omega
          subst hke
          have hfull : r.take r.length = r := List.take_of_length_le (Nat.le_refl _)
          have HB' := Lib.hid HB.out
          rw [hfull, ← HW.out] at HB'
          clear hfull
          go_wp2_with fail
          refine (sbString w.heap.size w.heap.size _ wr HB'.out hBw).mono ?_
          rintro e w5 ⟨rfl, hb5⟩
          have HB5 := Lib.hid (HW'.out.trans hb5)
          clear hb5
          go_wp2_with fail
          go_ret
          exact ⟨rfl, HB5.out⟩
end Go.Proofs.YtlhpdjafhjfcoaaDoor
