/-
  What the laws' texts use, joined.
-/
import Derived.Test.YtdjjmcblhpjchaaDoorProg
import Derived.WalkKit
import Derived.ProofKit
import Derived.Lib.Hide
import Derived.Laws.Rows
import Derived.Laws.ResultCell
import Derived.Laws.Entries
import Derived.Handy
import Derived.OwnWalk
import Derived.Laws.OwnMore
import Derived.Deep.Draws
import Derived.Laws.IdiomStrings
import Derived.Lib.BufferRead
import Derived.Maps.OwnSet
import Derived.Laws.BitsAllLaws
import Derived.RowKit
import Derived.Lib.QuietBelow
import Derived.Lib.OthersKept
import Derived.Shelf.Strings.Builder1
import Derived.Shelf.Strings.Search1
import Derived.Lib.IndexLaws
import Derived.BigQuiet
import Derived.Lib.Split
import Derived.Deep.OwnRows
import Derived.Laws.Strings3
import Derived.Deep.DeepCutAuto
import Derived.Lib.Join
import Derived.Lib.MakeNoZero
import Derived.Lib.Builder
import Derived.Laws.IdiomCopy
import Derived.BigRegion
import Derived.IntWalk
import Derived.Deep.RegionHeld3
import Derived.Laws.Tables
import Derived.Deep.Cut
import Derived.Deep.Slices
import Derived.Maps.RangeWalk
import Derived.StringKeys
import Derived.Laws.RangeAny
import Derived.Deep.LoopGhost
import Derived.WalkMore
import Derived.Test.YtdjjmcblhpjchaaDoorPk1
import Derived.Test.YtdjjmcblhpjchaaDoorPk2
/-
  What strings.SplitN answers at a mark of one byte.
-/
namespace Go.Proofs.YtdjjmcblhpjchaaDoor
open Go.ChangeShapes Go.WideShapes Go.ChangeAt Go.RowKit
set_option maxRecDepth 100000

/-- A text of these bytes. -/
abbrev bsT (l : List UInt8) : ByteArray := ⟨l.toArray⟩
/-- The pieces of a text between marks, of so many marks at most. -/
def cutsL (c : UInt8) : Nat → List UInt8 → List (List UInt8)
  | 0, l => [l]
  | k + 1, l => if Lib.indexByte l c = -1 then [l] else l.take (Lib.indexByte l c).toNat :: cutsL c k (l.drop ((Lib.indexByte l c).toNat + 1))
theorem cutsL_miss {c : UInt8} {l : List UInt8} (k : Nat) (h : Lib.indexByte l c = -1) : cutsL c k l = [l] := by
  cases k with
  | zero => rfl
  | succ k => unfold cutsL; rw [if_pos h]
theorem cutsL_hit {c : UInt8} {l : List UInt8} {o : Nat} (k : Nat) (h : Lib.indexByte l c = o) : cutsL c (k + 1) l = l.take o :: cutsL c k (l.drop (o + 1)) := by
  have e : (Lib.indexByte l c).toNat = o := by omega
  rw [cutsL, if_neg (by omega), e]
theorem cutsL_len (c : UInt8) : ∀ (k : Nat) (l : List UInt8), 1 ≤ (cutsL c k l).length ∧ (cutsL c k l).length ≤ k + 1
  | 0, _ => ⟨Nat.le_refl _, Nat.le_refl _⟩
  | k + 1, l => by
    unfold cutsL
    split
    · simp
    · have := cutsL_len c k (l.drop ((Lib.indexByte l c).toNat + 1))
      simp only [List.length_cons]
      omega
/-- The cells of the pieces. -/
def cutCells (ps : List (List UInt8)) (N : Nat) : Array Value := Lib.cellsOf (ps.map bsT) N

theorem strIndex_any (s : ByteArray) (c : UInt8) (w : World) :
    Calls Tryd.prog 91 #[.string s, .string ⟨#[c]⟩] w fun e w' => e = .returned (.int .i64 (Lib.indexByte s.data.toList c)) ∧ w = w' := by
  go_enter Tryd.func91, Tryd.ntmps91
  go_wp2_with fail
  refine (sIndex_any s c w).mono ?_
  rintro e w' ⟨rfl, rfl⟩
  go_wp2_with fail
  go_ret
  exact ⟨rfl, rfl⟩
theorem info9 : (Tryd.prog.info? 9).map (fun i => (i.zero, i.size, i.bytes)) = some (some (.string ByteArray.empty), 1, 16) := by kernel_rfl

set_option maxHeartbeats 4000000 in
theorem genSplit_any (s : List UInt8) (c : UInt8) (n N : Nat) (w : World) (hs : s.length ≤ 4611686018427387904) (hn : 1 ≤ n) (hN : N = min n (s.length + 1)) (hn2 : n ≤ 1048576) :
    Calls Tryd.prog 83 #[.string (bsT s), .string ⟨#[c]⟩, .int .i64 0, .int .i64 n] w fun e w' =>
      e = .returned (.slice (some ⟨w.heap.size, 0, none⟩) (cutsL c (N - 1) s).length N) ∧ w' = w.alloc (.cells (cutCells (cutsL c (N - 1) s) N) 9) := by
  have hne : ((n : Int) == 0) = false := beq_eq_false_iff_ne.2 (by omega)
  have hneg : ¬ (n : Int) < 0 := by omega
  have hsz : (bsT s).size = s.length := by simp [ByteArray.size]
  have hmin : min (n : Int) ((s.length : Int) + 1) = (N : Int) := by rw [hN]; omega
  have hNs : (N : Int) ≤ (s.length : Int) + 1 := by omega
  have hN1 : (1 : Int) ≤ (N : Int) := by omega
  have hN2 : (N : Int) ≤ 1048576 := by omega
  have hmk := run_make_row' (P := Tryd.prog) 59 9 (.string ByteArray.empty) 16 Tryd.underlying59 info9 rfl .i64 .i64 N (by omega) (by omega)
  obtain ⟨S, hS⟩ : ∃ S, S = bsT s := ⟨_, rfl⟩
  rw [← hS] at hsz
  rw [← hS]
  have HS0 := Lib.hid hS
  clear hS hN
  go_enter Tryd.func83, Tryd.ntmps83
  go_wp2_with fail
  clear hmk
  go_loopw [0, 10] (fun s0 s10 wr => ∃ (done : List (List UInt8)) (rest : List UInt8), s0 = .string (bsT rest) ∧ s10 = .int .i64 (done.length : Nat) ∧ done.length ≤ N - 1 ∧ rest.length ≤ s.length ∧
      wr = w.alloc (.cells (cutCells done N) 9) ∧ Hid (done ++ cutsL c (N - 1 - done.length) rest = cutsL c (N - 1) s)) (fun _ i _ => N - 1 - (Lib.intOf i).toNat)
  case atStart => exact ⟨[], s, by rw [HS0.out], rfl, Nat.zero_le _, Nat.le_refl _, by unfold cutCells; rw [List.map_nil, Lib.cellsOf_nil], Lib.hid rfl⟩
  case round =>
    obtain ⟨done, rest, rfl, rfl, hd, hrs, rfl, HC⟩ := hrel
    have hnext : (cutCells done N)[done.length]? = some (.string ByteArray.empty) := by
      have := Lib.cellsOf_next (done := done.map bsT) (N := N) (by rw [List.length_map]; omega)
      rwa [List.length_map] at this
    have hput : (cutCells done N).setIfInBounds done.length (.string (bsT rest)) = cutCells (done ++ [rest]) N := by
      have := Lib.cellsOf_set (done := done.map bsT) (N := N) (by rw [List.length_map]; omega) (bsT rest)
      rw [List.length_map] at this
      unfold cutCells
      rw [this, List.map_append]
      rfl
    have hput2 : ∀ o, (cutCells done N).setIfInBounds done.length (.string (bsT (rest.take o))) = cutCells (done ++ [rest.take o]) N := by
      intro o
      have := Lib.cellsOf_set (done := done.map bsT) (N := N) (by rw [List.length_map]; omega) (bsT (rest.take o))
      rw [List.length_map] at this
      unfold cutCells
      rw [this, List.map_append]
      rfl
    have hcs : (cutCells done N).size = N := Lib.cellsOf_size (by rw [List.length_map]; omega)
    have hfin : Hid (cutsL c (N - 1 - done.length) rest = [rest] → (cutsL c (N - 1) s).length = done.length + 1 ∧ cutCells (done ++ [rest]) N = cutCells (cutsL c (N - 1) s) N) := Lib.hid (fun h => by
      have e := HC.out
      rw [h] at e
      rw [← e]
      exact ⟨by simp, rfl⟩)
    have hrz : (bsT rest).size = rest.length := by simp [ByteArray.size]
    have hxo : Hid (∀ o, (bsT rest).extract 0 o = bsT (rest.take o)) := Lib.hid (fun o => take_str _ _)
    have hxr : Hid (∀ o, (bsT rest).extract o (bsT rest).size = bsT (rest.drop o)) := Lib.hid (fun o => drop_str _ _)
    obtain ⟨R, hR⟩ : ∃ R, R = bsT rest := ⟨_, rfl⟩
    rw [← hR] at hrz hput hxo hxr
    rw [← hR]
    have hRl : R.data.toList = rest := by rw [hR]
    have HRl := Lib.hid hRl
    have HR := Lib.hid hR
    clear hR hRl
    by_cases hlt : done.length < N - 1
    · have hltz : ((done.length : Nat) : Int) < (N : Int) - 1 := by omega
      rcases index_cases rest c with ⟨hix, hno⟩ | ⟨o, ho, hix, hsp, hno⟩
      · have HI := Lib.hid hix
        clear hix
        go_wp2_with fail
        refine (strIndex_any _ c _).mono ?_
        rintro e w' ⟨rfl, rfl⟩
        rw [HRl.out, HI.out]
        go_wp2_with fail
        go_ret
        obtain ⟨f1, f2⟩ := hfin.out (cutsL_miss _ HI.out)
        rw [f1, ← f2]
        exact ⟨by first | rfl | (congr 2 <;> omega), rfl⟩
      · have HI := Lib.hid hix
        clear hix hsp hno
        have cb : R.size ≤ 4611686018427387904 := by omega
        have c0 : ¬ ((o : Int) < 0) := by omega
        have c1 : (0 : Int) ≤ ↑o := by omega
        have c2 : (o : Int) ≤ ↑R.size := by omega
        have c3 : (0 : Int) ≤ ↑o + 1 := by omega
        have c4 : (o + 1 : Int) ≤ ↑R.size := by omega
        go_wp2_with fail
        refine (strIndex_any _ c _).mono ?_
        rintro e w' ⟨rfl, rfl⟩
        rw [HRl.out, HI.out]
        go_wp2_with fail
        go_roundw
        case measure =>
          simp only [Lib.intOf]
          omega
        case rel =>
          refine ⟨done ++ [rest.take o], rest.drop (o + 1), by rw [← hrz, hxr.out], by simp, by rw [List.length_append]; simp only [List.length_singleton]; omega, by rw [List.length_drop]; omega, by rw [hxo.out, hput2], ?_⟩
          refine Lib.hid ?_
          rw [← HC.out, show N - 1 - done.length = (N - 1 - (done.length + 1)) + 1 by omega, cutsL_hit _ HI.out]
          simp
    · have hltz : ¬ (((done.length : Nat) : Int) < (N : Int) - 1) := by omega
      go_wp2_with fail
      go_ret
      obtain ⟨f1, f2⟩ := hfin.out (by rw [show N - 1 - done.length = 0 by omega]; rfl)
      rw [f1, ← f2]
      exact ⟨by first | rfl | (congr 2 <;> omega), rfl⟩

theorem splitN_any (s : List UInt8) (c : UInt8) (n N : Nat) (w : World) (hs : s.length ≤ 4611686018427387904) (hn : 1 ≤ n) (hN : N = min n (s.length + 1)) (hn2 : n ≤ 1048576) :
    Calls Tryd.prog 74 #[.string (bsT s), .string ⟨#[c]⟩, .int .i64 n] w fun e w' =>
      e = .returned (.slice (some ⟨w.heap.size, 0, none⟩) (cutsL c (N - 1) s).length N) ∧ w' = w.alloc (.cells (cutCells (cutsL c (N - 1) s) N) 9) := by
  have c1 := genSplit_any s c n N w hs hn hN hn2
  clear hs hN
  generalize cutsL c (N - 1) s = ps at *
  generalize bsT s = S at *
  go_enter Tryd.func74, Tryd.ntmps74
  go_wp2_with fail
  refine c1.mono ?_
  rintro e w' ⟨rfl, rfl⟩
  go_wp2_with fail
  go_ret
  exact ⟨rfl, rfl⟩
end Go.Proofs.YtdjjmcblhpjchaaDoor
/-
  What strings.Join answers, where the whole takes at most 2^47 bytes.
-/
namespace Go.Proofs.YtdjjmcblhpjchaaDoor
open Go.ChangeShapes Go.WideShapes Go.ChangeAt Go.RowKit
set_option maxRecDepth 100000

set_option maxHeartbeats 4000000 in
/-- A builder without a buffer grows. -/
theorem sbGrow0 (B b n : Nat) (w : World) (hB : B ≤ b) (hbk : w.heap[b]? = some (.cells #[.pointer (some ⟨b, 0, none⟩), .slice none 0 0] 41 (0, 0))) (hBw : B ≤ w.heap.size) (hn : n ≤ 281474976710656) :
    Calls Tryd.prog 69 #[.pointer (some ⟨b, 0, none⟩), .int .i64 n] w fun e w' => e = .returned (.tuple #[]) ∧ SB B b [] w' ∧ Below B w w' := by
  obtain ⟨cs, hrun, hle, hmax⟩ := Lib.run_makeNoZero (P := Tryd.prog) w.drew #[3] 39 5 Tryd.underlying39 n hn
  have hw : IntKind.i64.wrap (IntKind.i64.wrap 0 + (n : Int)) = n := by
    rw [IntKind.wrap_i64, IntKind.wrap_i64]
    omega
  have hcall : (callFunc 81 #[.int .i64 (IntKind.i64.wrap (IntKind.i64.wrap 0 + (n : Int)))]).run Tryd.prog w.drew = .ok (.value (.slice (some ⟨w.drew.heap.size, 0, none⟩) n cs.size)) (w.drew.drew.drew.alloc (.cells cs 5)) := by
    rw [hw, run_callFunc_extern Tryd.func81 (by kernel_rfl) (by kernel_rfl) (by kernel_rfl) (e := Extern.BytealgMakeNoZero.makeNoZero #[3] #[39]) (by kernel_rfl), hrun]
    rfl
  have hlt : b < w.heap.size := lt_of_block hbk
  have c1 : w.drew.cell? ⟨b, 1, none⟩ = some (.slice none 0 0) := by
    have : w.drew.heap[b]? = _ := hbk
    rw [Lib.cell_of_heap this]; rfl
  have c2 : (w.alloc (.cells cs 5)).cell? ⟨b, 1, none⟩ = some (.slice none 0 0) := by
    have : (w.alloc (.cells cs 5)).heap[b]? = _ := (Lib.alloc_old w _ b hlt).trans hbk
    rw [Lib.cell_of_heap this]; rfl
  have f2 : (w.alloc (.cells cs 5)).frozen? ⟨b, 1, none⟩ = false := Lib.frozen_of_heap ((Lib.alloc_old w _ b hlt).trans hbk) 1
  have hcopy : ∀ W : World, (Builtin.copy_ #[39, 39] 3 #[.slice (some ⟨w.heap.size, 0, none⟩) 0 cs.size, .slice none 0 0]).run Tryd.prog W = .ok (goInt 0) W :=
    fun W => run_copy_none W 39 39 3 5 _ _ 0 cs.size 0 0 Tryd.underlying39 (by kernel_rfl) rfl
  clear hw
  have hfin := Lib.grown_fresh (T := 41) (e := 5) (cs := cs) hB hbk hBw (hmax (by unfold maxLen; omega)) (by decide)
  rw [World.setCell_alloc_past _ _ _ _ hlt] at hfin
  have HF := Lib.hid hfin
  clear hfin hrun hmax hbk
  go_enter Tryd.func69, Tryd.ntmps69
  go_wp2_with fail
  go_region
  all_goals (go_wp2_with fail; go_end0; exact ⟨rfl, .inr HF.out.1, HF.out.2⟩)

/-- Grow at a builder that has not been written. -/
theorem sbGrow (b n : Nat) (w : World) (hbk : w.heap[b]? = some (.cells #[.pointer none, .slice none 0 0] 41 (0, 0))) (hn : n ≤ 281474976710656) (hn0 : 0 < n) :
    Calls Tryd.prog 53 #[.pointer (some ⟨b, 0, none⟩), .int .i64 n] w fun e w' => e = .returned (.tuple #[]) ∧ SB b b [] w' ∧ Below b w w' := by
  have hlt : b < w.heap.size := lt_of_block hbk
  have hbk1 : (w.setCell ⟨b, 0, none⟩ (.pointer (some ⟨b, 0, none⟩))).heap[b]? = some (.cells #[.pointer (some ⟨b, 0, none⟩), .slice none 0 0] 41 (0, 0)) := by
    simp [World.setCell, Array.getElem?_modify, hbk]
  have hb1 : Below b w (w.setCell ⟨b, 0, none⟩ (.pointer (some ⟨b, 0, none⟩))) := (Below.refl b w).setCell (p := ⟨b, 0, none⟩) (Nat.le_refl _) _
  have k0 : w.cell? ⟨b, 0, none⟩ = some (.pointer none) := by rw [Lib.cell_of_heap hbk]; rfl
  have k1 : w.shape? b = some (41, 2) := by simp [World.shape?, hbk]
  have k2 : w.frozen? ⟨b, 0, none⟩ = false := Lib.frozen_of_heap hbk 0
  have HB := Lib.hid hb1
  have HK := Lib.hid hbk1
  clear hb1 hbk1 hbk
  go_enter Tryd.func53, Tryd.ntmps53
  go_wp2_with fail
  refine (sbFresh b w k0 k1 k2).mono ?_
  rintro e w' ⟨rfl, hw'⟩
  rw [← hw'] at HB HK
  have hs' : w.heap.size ≤ w'.heap.size := HB.out.size
  clear k0 k1 k2 hw'
  have c1 : w'.cell? ⟨b, 1, none⟩ = some (.slice none 0 0) := by rw [Lib.cell_of_heap HK.out]; rfl
  go_wp2_with fail
  go_quiet (fail)
  go_wp2_with fail
  refine (sbGrow0 b b n _ (Nat.le_refl _) (show (World.drewN w' _).heap[b]? = _ from HK.out) (by show b ≤ w'.heap.size; omega) hn).mono ?_
  rintro e w2 ⟨rfl, h1, h2⟩
  have H1 := Lib.hid h1
  have H2 := Lib.hid ((bdN HB.out _).trans h2)
  clear h1 h2
  go_wp2_with fail
  go_end0
  exact ⟨rfl, H1.out, H2.out⟩

set_option maxHeartbeats 4000000 in
/-- strings.Join of two and more texts, at a mark of one byte. -/
theorem strJoin_any (bk o c : Nat) (xs : List (List UInt8)) (m : UInt8) (w : World) (hcells : ∀ j x, xs[j]? = some x → w.cell? ⟨bk, o + j, none⟩ = some (.string ⟨x.toArray⟩)) (hbk : bk < w.heap.size) (h2 : 2 ≤ xs.length) (hN : xs.length ≤ 140737488355328) (hcap : xs.length ≤ c)
    (hlen : (Lib.join xs [m]).length ≤ 140737488355328) :
    Calls Tryd.prog 42 #[.slice (some ⟨bk, o, none⟩) xs.length c, .string ⟨#[m]⟩] w fun e w' => e = .returned (.string ⟨(Lib.join xs [m]).toArray⟩) ∧ Below w.heap.size w w' := by
  have HC := Lib.hid hcells
  obtain ⟨x0, r, hxs⟩ : ∃ x0 r, xs = x0 :: r := by
    cases xs with
    | nil => simp at h2
    | cons a t => exact ⟨a, t, rfl⟩
  have hrl : r.length = xs.length - 1 := by rw [hxs]; simp
  have hJe : (Lib.join xs [m]).length = (xs.length - 1) + Lib.lens xs := by
    have := Lib.join_length x0 r [m]
    rw [hxs]
    rw [this]
    simp
  have hsum : (xs.length - 1) + Lib.lens xs ≤ 140737488355328 := by omega
  have hdv : ¬ (9223372036854775807 / ((xs.length : Int) - 1) ≤ 1) := by
    have : (2 : Int) ≤ 9223372036854775807 / ((xs.length : Int) - 1) := by
      rw [Int.le_ediv_iff_mul_le (by omega)]
      omega
    omega
  have hne0 : ((xs.length : Int) == 0) = false := beq_eq_false_iff_ne.2 (by omega)
  have hne1 : ((xs.length : Int) == 1) = false := beq_eq_false_iff_ne.2 (by omega)
  have Hxs := Lib.hid hxs
  have HJe := Lib.hid hJe
  have Hrl := Lib.hid hrl
  clear hxs hlen hJe hcells hrl
  go_enter Tryd.func42, Tryd.ntmps42
  go_wp2_with fail
  go_loop [5, 41] (fun n i => ∃ k : Nat, k ≤ xs.length ∧ i = .int .i64 k ∧ n = .int .i64 ((xs.length - 1 + Lib.lens (xs.take k) : Nat) : Int)) (fun _ i => xs.length - (Lib.intOf i).toNat)
  case atStart => exact ⟨0, Nat.zero_le _, rfl, by simp [Lib.lens]; omega⟩
  case round =>
    obtain ⟨k, hk, rfl, rfl⟩ := hrel
    by_cases hkn : k < xs.length
    · have hx : xs[k]? = some xs[k] := List.getElem?_eq_getElem hkn
      have hc := HC.out k _ hx
      have hstep := Lib.lens_take_succ xs k _ hx
      have hbound := Lib.lens_take_le xs (k + 1)
      have hxz : (⟨(xs[k]).toArray⟩ : ByteArray).size = xs[k].length := by simp [ByteArray.size]
      generalize (⟨(xs[k]).toArray⟩ : ByteArray) = X at hc hxz
      generalize xs[k].length = L at hstep hxz
      generalize hA1 : Lib.lens (xs.take (k + 1)) = A1 at hstep hbound
      generalize Lib.lens (xs.take k) = A0 at hstep
      have HA1 := Lib.hid hA1
      clear hA1 hx
      go_wp2_with fail
      exact ⟨⟨k + 1, by omega, by go_num, by rw [HA1.out]; refine congrArg _ ?_; omega⟩, by simp [Lib.intOf]; omega⟩
    · have hke : k = xs.length := by omega
      subst hke
      rw [List.take_of_length_le (Nat.le_refl _)]
      generalize hT : Lib.lens xs = T at hsum
      have HT := Lib.hid hT
      clear hT
      go_wp2_with fail
      have e1 : ((xs.length - 1 : Nat) : Int) + (T : Int) = ((xs.length - 1 + T : Nat) : Int) := by omega
      rw [e1]
      clear e1
      refine (sbGrow w.heap.size (xs.length - 1 + T) _ (heap_alloc_new w _) (by omega) (by omega)).mono ?_
      rintro e w1 ⟨rfl, h1, hb1⟩
      have H1 := Lib.hid h1
      have HB1 := Lib.hid (((Below.refl w.heap.size w).alloc (Nat.le_refl _) _).trans hb1)
      have hs1 : w.heap.size ≤ w1.heap.size := HB1.out.size
      have hc0 : w1.cell? ⟨bk, o, none⟩ = some (.string ⟨x0.toArray⟩) := by
        rw [HB1.out.cell (p := ⟨bk, o, none⟩) hbk]
        exact HC.out 0 x0 (by rw [Hxs.out]; rfl)
      have HW : Hid (Lib.join xs [m] = x0 ++ Lib.joinTail [m] r) := Lib.hid (by rw [Hxs.out, Lib.join_cons])
      have HLe : Hid (∀ k, (x0 ++ Lib.joinTail [m] (r.take k)).length ≤ 140737488355328) := Lib.hid (fun k => by
        have g1 := HJe.out
        rw [HW.out, HT.out, List.length_append] at g1
        have g2 := Lib.joinTail_take_le [m] r k
        rw [List.length_append]
        omega)
      clear h1 hb1
      go_wp2_with fail
      refine (sbWrite w.heap.size w.heap.size [] ⟨x0.toArray⟩ w1 H1.out (by have := HLe.out 0; simp [Lib.joinTail] at this; simpa [ByteArray.size] using this) hs1).mono ?_
      rintro e w2 ⟨rfl, h2', hb2⟩
      have H2 : Hid (SB w.heap.size w.heap.size (x0 ++ Lib.joinTail [m] (r.take 0)) w2) := Lib.hid (by simpa [Lib.joinTail] using h2')
      have HB2 := Lib.hid (HB1.out.trans hb2)
      have hrl2 : r.length = xs.length - 1 := Hrl.out
      clear h2' hb2 hc0 hs1
      go_wp2_with fail
      go_loopw [65] (fun i wr => ∃ k : Nat, k ≤ r.length ∧ i = .int .i64 k ∧ Hid (SB w.heap.size w.heap.size (x0 ++ Lib.joinTail [m] (r.take k)) wr) ∧ Hid (Below w.heap.size w wr)) (fun i _ => r.length - (Lib.intOf i).toNat)
      case atStart => exact ⟨0, Nat.zero_le _, rfl, H2, HB2⟩
      case round =>
        obtain ⟨k, hk', rfl, HB, HW'⟩ := hrel
        have hBw : w.heap.size ≤ wr.heap.size := HW'.out.size
        by_cases hkr : k < r.length
        · have hy : r[k]? = some r[k] := List.getElem?_eq_getElem hkr
          obtain ⟨y, hyy⟩ : ∃ y, y = r[k] := ⟨_, rfl⟩
          rw [← hyy] at hy
          have hcy : wr.cell? ⟨bk, o + 1 + k, none⟩ = some (.string ⟨y.toArray⟩) := by
            rw [HW'.out.cell (p := ⟨bk, o + 1 + k, none⟩) hbk, show o + 1 + k = o + (k + 1) by omega]
            exact HC.out (k + 1) y (by rw [Hxs.out]; simpa using hy)
          have HN : Hid (x0 ++ Lib.joinTail [m] (r.take k) ++ [m] ++ y = x0 ++ Lib.joinTail [m] (r.take (k + 1))) := Lib.hid (by
            rw [Lib.joinTail_take_succ [m] r k y hy]
            simp [List.append_assoc])
          have HL : Hid ((x0 ++ Lib.joinTail [m] (r.take k)).length + 1 + y.length ≤ 140737488355328) := Lib.hid (by
            have g := HLe.out (k + 1)
            rw [← HN.out] at g
            simp only [List.length_append, List.length_singleton] at g ⊢
            omega)
          clear hy hyy
          go_wp2_with fail
          refine (sbWrite w.heap.size w.heap.size _ ⟨#[m]⟩ wr HB.out (by have := HL.out; show _ + 1 ≤ _; omega) hBw).mono ?_
          rintro e w3 ⟨rfl, h3, hb3⟩
          have H3 := Lib.hid h3
          have HB3 := Lib.hid (HW'.out.trans hb3)
          have hs3 : w.heap.size ≤ w3.heap.size := HB3.out.size
          clear h3 hb3 hcy
          go_wp2_with fail
          refine (sbWrite w.heap.size w.heap.size _ ⟨y.toArray⟩ w3 H3.out (by have := HL.out; simp only [List.length_append] at this ⊢; show _ + _ + 1 + y.length ≤ _; omega) hs3).mono ?_
          rintro e w4 ⟨rfl, h4, hb4⟩
          have H4 : Hid (SB w.heap.size w.heap.size (x0 ++ Lib.joinTail [m] (r.take (k + 1))) w4) := Lib.hid (by rw [← HN.out]; exact h4)
          have HB4 := Lib.hid (HB3.out.trans hb4)
          clear h4 hb4
          go_wp2_with fail
          exact ⟨⟨k + 1, by omega, by go_num, H4, HB4⟩, by simp [Lib.intOf]; omega⟩
        · have hke : k = r.length := by omega
          subst hke
          have hfull : r.take r.length = r := List.take_of_length_le (Nat.le_refl _)
          have HB' := Lib.hid HB.out
          rw [hfull, ← HW.out] at HB'
          clear hfull
          go_wp2_with fail
          refine (sbString w.heap.size w.heap.size _ wr HB'.out hBw).mono ?_
          rintro e w5 ⟨rfl, hb5⟩
          have HB5 := Lib.hid (HW'.out.trans hb5)
          clear hb5
          go_wp2_with fail
          go_ret
          exact ⟨rfl, HB5.out⟩
end Go.Proofs.YtdjjmcblhpjchaaDoor
/-
  Package cond: what Print answers.
-/
namespace Go.Proofs.YtdjjmcblhpjchaaDoor
open Go.ChangeShapes Go.WideShapes Go.ChangeAt Go.RowKit
set_option maxRecDepth 100000

/-- An argument's text. -/
def argT (n : Nat) : ByteArray := ⟨(argW n).toArray⟩
theorem conv2 (w : World) (x y : UInt8) : (convert 39 9 (.slice (some ⟨w.heap.size, 0, none⟩) 2 2)).run Tryd.prog (w.alloc (.cells #[.int .u8 (x.toNat : Int), .int .u8 (y.toNat : Int)] 5)) = .ok (.string ⟨#[x, y]⟩) (w.alloc (.cells #[.int .u8 (x.toNat : Int), .int .u8 (y.toNat : Int)] 5)) := by
  refine run_convert_bytes_back _ _ _ 5 ⟨w.heap.size, 0, none⟩ 2 [x, y] Tryd.underlying39 Tryd.underlying5 Tryd.underlying9 (fun j hj => ?_)
  have hj2 : j < 2 := hj
  have h := new_at w #[.int .u8 (x.toNat : Int), .int .u8 (y.toNat : Int)] 5 j
  rcases j with _ | _ | j
  · exact h _ rfl
  · exact h _ rfl
  · omega
theorem argument_any (n : Nat) (w : World) (h : n < 6) : Calls Tryd.prog 41 #[.int .i64 n] w fun e w' => e = .returned (.string (argT n)) ∧ Below w.heap.size w w' := by
  have h6 : n = 0 ∨ n = 1 ∨ n = 2 ∨ n = 3 ∨ n = 4 ∨ n = 5 := by omega
  clear h
  rcases h6 with rfl | rfl | rfl | rfl | rfl | rfl
  · have hcv := conv2 w 97 48
    change (convert 39 9 (.slice (some ⟨w.heap.size, 0, none⟩) 2 2)).run Tryd.prog (w.alloc (.cells #[.int .u8 97, .int .u8 48] 5)) = .ok (.string ⟨#[97, 48]⟩) (w.alloc (.cells #[.int .u8 97, .int .u8 48] 5)) at hcv
    go_enter Tryd.func41, Tryd.ntmps41
    go_wp2_with fail
    go_ret
    exact ⟨rfl, ba _ (Below.refl _ _)⟩
  · have hcv := conv2 w 97 49
    change (convert 39 9 (.slice (some ⟨w.heap.size, 0, none⟩) 2 2)).run Tryd.prog (w.alloc (.cells #[.int .u8 97, .int .u8 49] 5)) = .ok (.string ⟨#[97, 49]⟩) (w.alloc (.cells #[.int .u8 97, .int .u8 49] 5)) at hcv
    go_enter Tryd.func41, Tryd.ntmps41
    go_wp2_with fail
    go_ret
    exact ⟨rfl, ba _ (Below.refl _ _)⟩
  · have hcv := conv2 w 97 50
    change (convert 39 9 (.slice (some ⟨w.heap.size, 0, none⟩) 2 2)).run Tryd.prog (w.alloc (.cells #[.int .u8 97, .int .u8 50] 5)) = .ok (.string ⟨#[97, 50]⟩) (w.alloc (.cells #[.int .u8 97, .int .u8 50] 5)) at hcv
    go_enter Tryd.func41, Tryd.ntmps41
    go_wp2_with fail
    go_ret
    exact ⟨rfl, ba _ (Below.refl _ _)⟩
  · have hcv := conv2 w 97 51
    change (convert 39 9 (.slice (some ⟨w.heap.size, 0, none⟩) 2 2)).run Tryd.prog (w.alloc (.cells #[.int .u8 97, .int .u8 51] 5)) = .ok (.string ⟨#[97, 51]⟩) (w.alloc (.cells #[.int .u8 97, .int .u8 51] 5)) at hcv
    go_enter Tryd.func41, Tryd.ntmps41
    go_wp2_with fail
    go_ret
    exact ⟨rfl, ba _ (Below.refl _ _)⟩
  · have hcv := conv2 w 97 52
    change (convert 39 9 (.slice (some ⟨w.heap.size, 0, none⟩) 2 2)).run Tryd.prog (w.alloc (.cells #[.int .u8 97, .int .u8 52] 5)) = .ok (.string ⟨#[97, 52]⟩) (w.alloc (.cells #[.int .u8 97, .int .u8 52] 5)) at hcv
    go_enter Tryd.func41, Tryd.ntmps41
    go_wp2_with fail
    go_ret
    exact ⟨rfl, ba _ (Below.refl _ _)⟩
  · have hcv := conv2 w 97 53
    change (convert 39 9 (.slice (some ⟨w.heap.size, 0, none⟩) 2 2)).run Tryd.prog (w.alloc (.cells #[.int .u8 97, .int .u8 53] 5)) = .ok (.string ⟨#[97, 53]⟩) (w.alloc (.cells #[.int .u8 97, .int .u8 53] 5)) at hcv
    go_enter Tryd.func41, Tryd.ntmps41
    go_wp2_with fail
    go_ret
    exact ⟨rfl, ba _ (Below.refl _ _)⟩

/-- The text's four parts, put together. -/
theorem join_text (c : Cd) : Lib.join [argW c.arg, numT c.mask, cmpW c.cmp, numT c.value] [32] = textQ c := by
  rw [Lib.join_cons]
  simp [Lib.joinTail, textQ]
theorem joinQ_len {c : Cd} (hc : c.ok) (hr : c.right = true) : (Lib.join [argW c.arg, numT c.mask, cmpW c.cmp, numT c.value] [32]).length ≤ 140737488355328 := by
  rw [join_text]
  obtain ⟨a0, a5, k0, k5⟩ := (c.right_iff).1 hr
  have h1 := Wd.hex_len16 _ hc.1
  have h2 := Wd.hex_len16 _ hc.2
  have hl2 : (cmpW c.cmp).length = 2 := by rcases six k0 k5 with h | h | h | h | h | h <;> rw [h] <;> rfl
  have hla : (argW c.arg).length = 2 := rfl
  simp only [textQ, numT, List.length_append, List.length_cons, hl2, hla]
  omega
set_option maxHeartbeats 4000000 in
theorem qprint_good (c : Cd) (w : World) (hc : c.ok) (hr : c.right = true) (ht : QTab w) :
    Calls Tryd.prog 26 #[c.val] w fun e w' => e = .returned (.tuple #[.string (textT c), .int .i64 0]) ∧ Below w.heap.size w w' := by
  have HX := Lib.hid (heap_alloc_new w (cdB c))
  have HB := Lib.hid (ba (cdB c) (Below.refl w.heap.size w))
  obtain ⟨W, hW⟩ : ∃ W, W = w.alloc (cdB c) := ⟨_, rfl⟩
  rw [← hW] at HX HB
  have HL := Lib.hid (joinQ_len hc hr)
  have HE := Lib.hid (join_text c)
  obtain ⟨a0, a5, k0, k5⟩ := (c.right_iff).1 hr
  obtain ⟨c0, c1, c2, c3⟩ := cdX HX.out
  go_enter Tryd.func26, Tryd.ntmps26
  go_upto_region 1 with fail
  rw [← hW]
  clear hW
  go_wp2_with fail
  refine (compOf_good c _ hr).mono ?_
  rintro e w1 ⟨rfl, hb1⟩
  have HB1 := Lib.hid (below2 HB.out hb1)
  have hx1 := kb hb1 HX.out
  have hst := run_storeF (fnC_one c.cmp)
  have hlt1 : w.heap.size < w1.heap.size := lt_of_block hx1
  obtain ⟨K, hK⟩ : ∃ K, K = notK c.cmp := ⟨_, rfl⟩
  obtain ⟨F, hF⟩ : ∃ F, F = fnC c.cmp := ⟨_, rfl⟩
  obtain ⟨Wo, hWd⟩ : ∃ T, T = wordT c.cmp := ⟨_, rfl⟩
  have HX1 := Lib.hid hx1
  have HWd := Lib.hid hWd
  rw [← hF] at hst
  unfold rowV
  rw [← hK, ← hF, ← hWd]
  clear hb1 hr HX HB c0 c1 c2 c3 hK hF hWd hx1
  go_upto_region 2 with fail
  obtain ⟨W2, hW2⟩ : ∃ W2, W2 = w1.alloc (.cells #[.string Wo, .int .i64 K, F] 84) := ⟨_, rfl⟩
  have HB2 : Hid (Below w.heap.size w W2) := Lib.hid (by rw [hW2]; exact ba _ HB1.out)
  have hx2 : W2.heap[w.heap.size]? = some (cdB c) := by rw [hW2]; exact ka _ HX1.out
  have hr2 : W2.heap[w1.heap.size]? = some (.cells #[.string Wo, .int .i64 K, F] 84) := by rw [hW2]; exact heap_alloc_new w1 _
  change Code.wp _ _ _ _ (w1.alloc (.cells #[.string Wo, .int .i64 K, F] 84))
  rw [← hW2]
  have hlt2 : w.heap.size < W2.heap.size := lt_of_block hx2
  have hlt3 : w1.heap.size < W2.heap.size := lt_of_block hr2
  obtain ⟨d0, d1, d2, d3⟩ := cdX hx2
  have d4 : W2.cell? ⟨w1.heap.size, 0, none⟩ = some (.string Wo) := cell_in hr2 0
  clear hW2 hst HX1 HB1 hx2 hr2
  have HT2 := Lib.hid (ht.below (HB2.out.mono (Nat.le_refl _)))
  obtain ⟨n, hn⟩ : ∃ n : Nat, c.arg = n := ⟨c.arg.toNat, by omega⟩
  have hn6 : n < 6 := by omega
  have HN := Lib.hid hn
  rw [hn] at d0
  have hm := hc.1
  have hv := hc.2
  have CA : Hid (∀ V, Below W2.heap.size W2 V → Calls Tryd.prog 41 #[.int .i64 n] V fun e w' => e = .returned (.string (argT n)) ∧ Below W2.heap.size W2 w') := Lib.hid (fun V hV => (argument_any n V hn6).mono fun e w' h => ⟨h.1, below2 hV h.2⟩)
  have CT : Hid (∀ V x, x < 18446744073709551616 → Below W2.heap.size W2 V → Calls Tryd.prog 36 #[.int .u64 (x : Nat)] V fun e w' => e = .returned (.string (Wd.txt x)) ∧ Below W2.heap.size W2 w') := Lib.hid (fun V x hx hV => (text_any x V hx (Tab.below HT2.out hV)).mono fun e w' h => ⟨h.1, below2 hV h.2⟩)
  clear hn a0 a5 k0 k5 ht
  go_wp2_with fail
  go_region_held3 (fun V => V.cell? ⟨w.heap.size, 0, none⟩ = some (.int .i64 n) ∧ V.cell? ⟨w.heap.size, 2, none⟩ = some (.int .u64 (c.mask : Nat)) ∧ V.cell? ⟨w.heap.size, 3, none⟩ = some (.int .u64 (c.value : Nat)) ∧ V.cell? ⟨w1.heap.size, 0, none⟩ = some (.string Wo)) (first | exact ⟨d0, d2, d3, d4⟩ | exact ⟨a0, a2, a3, a4⟩ | go_keep)
    (first
      | (go_at_call 41; refine (CA.out _ ?_).mono ?_; (first | exact hb9 | (have hB := Below.refl W2.heap.size W2; go_grown)); rintro e w9 ⟨rfl, hb9⟩; have a0 := (hb9.cell (p := ⟨w.heap.size, _, none⟩) hlt2).trans d0; have a2 := (hb9.cell (p := ⟨w.heap.size, _, none⟩) hlt2).trans d2; have a3 := (hb9.cell (p := ⟨w.heap.size, _, none⟩) hlt2).trans d3; have a4 := (hb9.cell (p := ⟨w1.heap.size, _, none⟩) hlt3).trans d4)
      | (go_at_call 36; refine (CT.out _ _ ?_ ?_).mono ?_; (first | exact hm | exact hv); (first | exact hb9 | (have hB := Below.refl W2.heap.size W2; go_grown)); rintro e w9 ⟨rfl, hb9⟩; have a0 := (hb9.cell (p := ⟨w.heap.size, _, none⟩) hlt2).trans d0; have a2 := (hb9.cell (p := ⟨w.heap.size, _, none⟩) hlt2).trans d2; have a3 := (hb9.cell (p := ⟨w.heap.size, _, none⟩) hlt2).trans d3; have a4 := (hb9.cell (p := ⟨w1.heap.size, _, none⟩) hlt3).trans d4))
  obtain ⟨W3, hW3⟩ : ∃ W3, W3 = w9.alloc (.cells #[.string (argT n), .string (Wd.txt c.mask), .string Wo, .string (Wd.txt c.value)] 9) := ⟨_, rfl⟩
  have HB3 : Hid (Below w.heap.size w W3) := Lib.hid (by rw [hW3]; exact ba _ (HB2.out.trans (hb9.mono HB2.out.size)))
  have hr3 : W3.heap[w9.heap.size]? = some (.cells #[.string (argT n), .string (Wd.txt c.mask), .string Wo, .string (Wd.txt c.value)] 9) := by rw [hW3]; exact heap_alloc_new w9 _
  rw [← hW3]
  have hj := strJoin_any w9.heap.size 0 4 [argW c.arg, numT c.mask, cmpW c.cmp, numT c.value] 32 W3 (by
    intro j x hj
    rw [cell_in hr3, HN.out, HWd.out] at *
    rcases j with _ | _ | _ | _ | j
    · obtain rfl := Option.some.inj hj
      rfl
    · obtain rfl := Option.some.inj hj
      rfl
    · obtain rfl := Option.some.inj hj
      rfl
    · obtain rfl := Option.some.inj hj
      rfl
    · simp at hj) (lt_of_block hr3) (by simp) (by simp) (by simp) HL.out
  rw [HE.out] at hj
  have HJ := Lib.hid hj
  clear hj hr3 hW3 hb9 a0 a2 a3 a4 d0 d1 d2 d3 d4 hm hv CA CT
  generalize w9.heap.size = g9 at *
  go_wp2_with fail
  refine HJ.out.mono ?_
  rintro e w4 ⟨rfl, hb4⟩
  have HB4 := Lib.hid (below2 HB3.out hb4)
  clear hb4
  go_wp2_with fail
  go_ret2
  exact ⟨rfl, HB4.out⟩
end Go.Proofs.YtdjjmcblhpjchaaDoor
/-
  Package cond: what Parse answers.
-/
namespace Go.Proofs.YtdjjmcblhpjchaaDoor
open Go.ChangeShapes Go.WideShapes Go.ChangeAt Go.RowKit
set_option maxRecDepth 100000

/-! ### The pieces of a text -/
theorem index_at {a r : List UInt8} (h : ∀ c ∈ a, c ≠ 32) : Lib.indexByte (a ++ 32 :: r) 32 = (a.length : Nat) := by
  rcases index_cases (a ++ 32 :: r) 32 with ⟨_, hno⟩ | ⟨o, ho, hix, hsp, hno⟩
  · exact absurd rfl (hno 32 (by simp))
  · rw [hix]
    have hlo : o = a.length := by
      rcases Nat.lt_trichotomy o a.length with hlt | he | hgt
      · have h1 : (a ++ 32 :: r)[o]? = some 32 := by
          rw [hsp, List.getElem?_append_right (by rw [List.length_take]; omega), List.length_take, Nat.min_eq_left (by omega)]
          simp
        rw [List.getElem?_append_left hlt] at h1
        exact absurd rfl (h 32 (List.mem_of_getElem? h1))
      · exact he
      · refine absurd rfl (hno 32 ?_)
        have h1 : ((a ++ 32 :: r).take o)[a.length]? = some 32 := by
          rw [List.getElem?_take, if_pos hgt, List.getElem?_append_right (Nat.le_refl _)]
          simp
        exact List.mem_of_getElem? h1
    rw [hlo]
theorem cuts_text {c : Cd} (hr : c.right = true) : cutsL 32 3 (textQ c) = [argW c.arg, numT c.mask, cmpW c.cmp, numT c.value] := by
  obtain ⟨a0, a5, k0, k5⟩ := (c.right_iff).1 hr
  have step : ∀ (k : Nat) (a r : List UInt8), (∀ x ∈ a, x ≠ 32) → cutsL 32 (k + 1) (a ++ 32 :: r) = a :: cutsL 32 k r := by
    intro k a r h
    have hd : (a ++ 32 :: r).drop (a.length + 1) = r := by
      rw [← List.drop_drop, List.drop_left]
      rfl
    rw [cutsL_hit k (index_at h), List.take_left, hd]
  unfold textQ
  rw [step 2 _ _ (argW_32 a0 a5), step 1 _ _ (numT_32 _), step 0 _ _ (cmpW_32 _)]
  rfl
theorem cuts_four {l : List UInt8} {k : Nat} {p0 p1 p2 p3 : List UInt8} (h : cutsL 32 k l = [p0, p1, p2, p3]) : l = p0 ++ 32 :: (p1 ++ 32 :: (p2 ++ 32 :: p3)) := by
  have step : ∀ (k : Nat) (l : List UInt8) (p q : List UInt8) (r : List (List UInt8)), cutsL 32 k l = p :: q :: r → ∃ j l', k = j + 1 ∧ l = p ++ 32 :: l' ∧ cutsL 32 j l' = q :: r := by
    intro k l p q r h
    cases k with
    | zero => simp [cutsL] at h
    | succ j =>
      rcases index_cases l 32 with ⟨hix, _⟩ | ⟨o, ho, hix, hsp, hno⟩
      · rw [cutsL_miss _ hix] at h
        simp at h
      · rw [cutsL_hit j hix] at h
        simp only [List.cons.injEq] at h
        exact ⟨j, _, rfl, by rw [← h.1]; exact hsp, h.2⟩
  obtain ⟨k1, l1, rfl, rfl, h1⟩ := step _ _ _ _ _ h
  obtain ⟨k2, l2, rfl, rfl, h2⟩ := step _ _ _ _ _ h1
  obtain ⟨k3, l3, rfl, rfl, h3⟩ := step _ _ _ _ _ h2
  have : l3 = p3 := by
    cases k3 with
    | zero => simpa [cutsL] using h3
    | succ j =>
      rcases index_cases l3 32 with ⟨hix, _⟩ | ⟨o, ho, hix, hsp, hno⟩
      · rw [cutsL_miss _ hix] at h3
        simpa using h3
      · rw [cutsL_hit j hix] at h3
        have := cutsL_len 32 j (l3.drop (o + 1))
        simp only [List.cons.injEq] at h3
        rw [h3.2] at this
        simp at this
  rw [this]
def QPEnd (s : ByteArray) (e : Ending) : Prop :=
  (∃ c : Cd, c.ok ∧ c.right = true ∧ s = textT c ∧ e = .returned (.tuple #[c.val, .int .i64 0])) ∨ ((∀ c : Cd, c.ok → c.right = true → s ≠ textT c) ∧ e = .returned (.tuple #[zeroCd.val, .int .i64 2]))
/-- What a text's first part says. -/
def ArgEnd (s : ByteArray) (e : Ending) : Prop :=
  (∃ n : Nat, n < 6 ∧ s = argT n ∧ e = .returned (.tuple #[.int .i64 n, .bool true])) ∨ ((∀ n : Nat, n < 6 → s ≠ argT n) ∧ e = .returned (.tuple #[.int .i64 0, .bool false]))
theorem readArg_any (s : ByteArray) (w : World) : Calls Tryd.prog 75 #[.string s] w fun e w' => ArgEnd s e ∧ Below w.heap.size w w' := by
  go_enter Tryd.func75, Tryd.ntmps75
  go_wp2_with fail
  go_loopw [5] (fun i wr => ∃ n : Nat, n ≤ 6 ∧ i = .int .i64 n ∧ Below w.heap.size w wr ∧ ∀ m, m < n → s ≠ argT m) (fun i _ => 6 - (Lib.intOf i).toNat)
  case atStart => exact ⟨0, by omega, rfl, Below.refl _ _, fun m h => by omega⟩
  case round =>
    obtain ⟨n, hn, rfl, hb, hno⟩ := hrel
    have HB := Lib.hid hb
    have HN := Lib.hid hno
    clear hb hno
    by_cases h6 : n < 6
    · have hd : decide ((n : Int) < 6) = true := by simp; omega
      go_wp2_with fail
      refine (argument_any n _ h6).mono ?_
      rintro e w1 ⟨rfl, hb1⟩
      have HB1 := Lib.hid (HB.out.trans (hb1.mono HB.out.size))
      clear hb1
      cases hq : ((argT n).toList == s.toList)
      · have HN' : Hid (∀ m, m < n + 1 → s ≠ argT m) := Lib.hid (by
          intro m hm
          by_cases e : m < n
          · exact HN.out m e
          · obtain rfl : m = n := by omega
            intro e
            rw [e] at hq
            simp at hq)
        go_wp2_with fail
        go_roundw
        case rel => exact ⟨n + 1, by omega, by go_num, HB1.out, HN'.out⟩
        case measure => simp [Lib.intOf]; omega
      · have HE : Hid (ArgEnd s (.returned (.tuple #[.int .i64 n, .bool true]))) := Lib.hid (.inl ⟨n, h6, by
          have := beq_iff_eq.1 hq
          rw [Go.ByteArray.toList_eq, Go.ByteArray.toList_eq] at this
          exact (ByteArray.ext (Array.ext' this)).symm, rfl⟩)
        go_wp2_with fail
        go_ret2
        exact ⟨HE.out, HB1.out⟩
    · obtain rfl : n = 6 := by omega
      have HE : Hid (ArgEnd s (.returned (.tuple #[.int .i64 0, .bool false]))) := Lib.hid (.inr ⟨HN.out, rfl⟩)
      go_wp2_with fail
      go_ret2
      exact ⟨HE.out, HB.out⟩

/-- What a text's third part says. -/
def CmpEnd (s : ByteArray) (e : Ending) : Prop :=
  (∃ n : Nat, n < 6 ∧ s = wordT n ∧ e = .returned (.tuple #[.int .i64 n, .bool true])) ∨ ((∀ n : Nat, n < 6 → s ≠ wordT n) ∧ e = .returned (.tuple #[.int .i64 0, .bool false]))
theorem readCmp_any (s : ByteArray) (w : World) : Calls Tryd.prog 76 #[.string s] w fun e w' => CmpEnd s e ∧ Below w.heap.size w w' := by
  go_enter Tryd.func76, Tryd.ntmps76
  go_wp2_with fail
  refine (comparisons_any _).mono ?_
  rintro e w1 ⟨rfl, hw1⟩
  have HC1 : Hid (w1.heap[w.heap.size]? = some (.cells cmpCells 84)) := Lib.hid (by rw [hw1]; exact heap_alloc_new w _)
  have HB1 : Hid (Below w.heap.size w w1) := Lib.hid (by rw [hw1]; exact ba _ (Below.refl _ _))
  clear hw1
  go_wp2_with fail
  go_loopw [8] (fun i wr => ∃ n : Nat, n ≤ 6 ∧ i = .int .i64 n ∧ Below w.heap.size w wr ∧ wr.heap[w.heap.size]? = some (.cells cmpCells 84) ∧ ∀ m : Nat, m < n → s ≠ wordT m) (fun i _ => 6 - (Lib.intOf i).toNat)
  case atStart => exact ⟨0, by omega, rfl, HB1.out, HC1.out, fun m h => by omega⟩
  case round =>
    obtain ⟨n, hn, rfl, hb, hc, hno⟩ := hrel
    have HB := Lib.hid hb
    have HC := Lib.hid hc
    have HN := Lib.hid hno
    clear hb hno hc HB1 HC1
    by_cases h6 : n < 6
    · have hd : decide ((n : Int) < 6) = true := by simp; omega
      obtain ⟨r0, r1, r2⟩ := cmpCells_at h6
      have d0 := (cell_in HC.out (n * 3)).trans r0
      have d1 := (cell_in HC.out (n * 3 + 1)).trans r1
      have d2 := (cell_in HC.out (n * 3 + 2)).trans r2
      have l0 : (0 : Int) ≤ (n : Int) := by omega
      have l1 : (n : Int) < 6 := by omega
      have hst := run_storeF (fnC_one n)
      have HC' : Hid (∀ o, (wr.alloc o).heap[w.heap.size]? = some (.cells cmpCells 84)) := Lib.hid (fun o => ka o HC.out)
      have HB' : Hid (∀ o, Below w.heap.size w (wr.alloc o)) := Lib.hid (fun o => ba o HB.out)
      generalize fnC n = F at *
      generalize notK n = K at *
      obtain ⟨T, hT⟩ : ∃ T, T = wordT n := ⟨_, rfl⟩
      rw [← hT] at d0
      have HT := Lib.hid hT
      clear hT r0 r1 r2
      cases hq : (T.toList == s.toList)
      · have HN' : Hid (∀ m : Nat, m < n + 1 → s ≠ wordT m) := Lib.hid (by
          intro m hm
          by_cases e : m < n
          · exact HN.out m e
          · obtain rfl : m = n := by omega
            intro e
            rw [HT.out, e] at hq
            simp at hq)
        go_wp2_with fail
        go_roundw
        case rel => exact ⟨n + 1, by omega, by go_num, HB'.out _, HC'.out _, HN'.out⟩
        case measure => simp [Lib.intOf]; omega
      · have HE : Hid (CmpEnd s (.returned (.tuple #[.int .i64 n, .bool true]))) := Lib.hid (.inl ⟨n, h6, by
          have := beq_iff_eq.1 hq
          rw [Go.ByteArray.toList_eq, Go.ByteArray.toList_eq] at this
          rw [← HT.out]
          exact (ByteArray.ext (Array.ext' this)).symm, rfl⟩)
        go_wp2_with fail
        go_ret2
        exact ⟨HE.out, HB'.out _⟩
    · obtain rfl : n = 6 := by omega
      have HE : Hid (CmpEnd s (.returned (.tuple #[.int .i64 0, .bool false]))) := Lib.hid (.inr ⟨HN.out, rfl⟩)
      go_wp2_with fail
      go_ret2
      exact ⟨HE.out, HB.out⟩
/-! ### The same, with letters -/
theorem ArgEnd.letters {s : ByteArray} {e : Ending} (h : ArgEnd s e) : ∃ (n : Nat) (b : Bool), e = .returned (.tuple #[.int .i64 n, .bool b]) ∧ ((b = true ∧ n < 6 ∧ s = argT n) ∨ (b = false ∧ ∀ m : Nat, m < 6 → s ≠ argT m)) := by
  rcases h with ⟨n, h1, h2, rfl⟩ | ⟨h, rfl⟩
  · exact ⟨n, true, rfl, .inl ⟨rfl, h1, h2⟩⟩
  · exact ⟨0, false, rfl, .inr ⟨rfl, h⟩⟩
theorem CmpEnd.letters {s : ByteArray} {e : Ending} (h : CmpEnd s e) : ∃ (n : Nat) (b : Bool), e = .returned (.tuple #[.int .i64 n, .bool b]) ∧ ((b = true ∧ n < 6 ∧ s = wordT n) ∨ (b = false ∧ ∀ m : Nat, m < 6 → s ≠ wordT m)) := by
  rcases h with ⟨n, h1, h2, rfl⟩ | ⟨h, rfl⟩
  · exact ⟨n, true, rfl, .inl ⟨rfl, h1, h2⟩⟩
  · exact ⟨0, false, rfl, .inr ⟨rfl, h⟩⟩
theorem ParseEnd.letters {s : ByteArray} {e : Ending} (h : ParseEnd s e) : ∃ (n : Nat) (x : Int), e = .returned (.tuple #[.int .u64 n, .int .i64 x]) ∧ n < 18446744073709551616 ∧ ((x = 0 ∧ s = Wd.txt n) ∨ (x = 2 ∧ ∀ m : Nat, m < 18446744073709551616 → s ≠ Wd.txt m)) := by
  rcases h with ⟨n, h1, h2, rfl⟩ | ⟨h, rfl⟩
  · exact ⟨n, 0, rfl, h1, .inl ⟨rfl, h2⟩⟩
  · exact ⟨0, 2, rfl, by omega, .inr ⟨rfl, h⟩⟩
theorem bsT_inj {a b : List UInt8} (h : bsT a = bsT b) : a = b := by
  have := congrArg (fun x : ByteArray => x.data.toList) h
  simpa using this
theorem textQ_len {c : Cd} : 6 ≤ (textQ c).length := by
  unfold textQ
  simp [argW, numT]
  omega
/-- The pieces of a condition's text. -/
theorem parts_of {l : List UInt8} {c : Cd} (hr : c.right = true) (e : bsT l = textT c) : cutsL 32 (min 4 (l.length + 1) - 1) l = [argW c.arg, numT c.mask, cmpW c.cmp, numT c.value] := by
  have hl : l = textQ c := bsT_inj e
  have := textQ_len (c := c)
  rw [hl, Nat.min_eq_left (by omega)]
  exact cuts_text hr
theorem four_cells {p0 p1 p2 p3 : List UInt8} : cutCells [p0, p1, p2, p3] 4 = #[.string (bsT p0), .string (bsT p1), .string (bsT p2), .string (bsT p3)] := by
  unfold cutCells Lib.cellsOf
  simp
set_option maxHeartbeats 4000000 in
theorem qparse_any (s : ByteArray) (w : World) (hs : s.size ≤ 4611686018427387904) (_ht : QTab w) :
    Calls Tryd.prog 61 #[.string s] w fun e w' => QPEnd s e ∧ Below w.heap.size w w' := by
  obtain ⟨l, rfl⟩ : ∃ l : List UInt8, s = bsT l := ⟨s.data.toList, by simp⟩
  have hl : l.length ≤ 4611686018427387904 := by simpa [ByteArray.size] using hs
  have hz := heap_alloc_new w (cdB zeroCd)
  have HB0 := Lib.hid (ba (cdB zeroCd) (Below.refl w.heap.size w))
  obtain ⟨W, hW⟩ : ∃ W, W = w.alloc (cdB zeroCd) := ⟨_, rfl⟩
  rw [← hW] at hz HB0
  have HZ0 := Lib.hid hz
  clear hz hs
  obtain ⟨N, hN⟩ : ∃ N, N = min 4 (l.length + 1) := ⟨_, rfl⟩
  obtain ⟨ps, hps⟩ : ∃ ps, ps = cutsL 32 (N - 1) l := ⟨_, rfl⟩
  have hsp := splitN_any l 32 4 N W hl (by omega) hN (by omega)
  rw [← hps] at hsp
  have HSP := Lib.hid hsp
  have HT : Hid (∀ c : Cd, c.right = true → bsT l = textT c → ps = [argW c.arg, numT c.mask, cmpW c.cmp, numT c.value]) := Lib.hid (fun c hr e => by rw [hps, hN]; exact parts_of hr e)
  have HPS := Lib.hid hps
  have hle : ps.length ≤ N - 1 + 1 := by rw [hps]; exact (cutsL_len 32 _ l).2
  have hN4 : N ≤ 4 := by omega
  have hN1 : 1 ≤ N := by omega
  clear hps hN hsp
  have HEQ : Hid (∀ p0 p1 p2 p3, ps = [p0, p1, p2, p3] → l = p0 ++ 32 :: (p1 ++ 32 :: (p2 ++ 32 :: p3))) := Lib.hid (fun p0 p1 p2 p3 h => cuts_four (by rw [← HPS.out]; exact h))
  obtain ⟨S, hS⟩ : ∃ S, S = bsT l := ⟨_, rfl⟩
  rw [← hS] at HSP HT ⊢
  have HS := Lib.hid hS
  clear hS
  by_cases h4 : ps.length = 4
  · obtain ⟨p0, p1, p2, p3, rfl⟩ : ∃ p0 p1 p2 p3, ps = [p0, p1, p2, p3] := by
      match ps, h4 with
      | [p0, p1, p2, p3], _ => exact ⟨p0, p1, p2, p3, rfl⟩
    obtain rfl : N = 4 := by simp at hle; omega
    have hlen : l.length = p0.length + (p1.length + (p2.length + (p3.length + 1) + 1) + 1) := by
      have e := HEQ.out _ _ _ _ rfl
      rw [e]
      simp only [List.length_append, List.length_cons]
    have hz1 : (bsT p1).size ≤ 4611686018427387904 := by
      have : (bsT p1).size = p1.length := by simp [ByteArray.size]
      omega
    have hz3 : (bsT p3).size ≤ 4611686018427387904 := by
      have : (bsT p3).size = p3.length := by simp [ByteArray.size]
      omega
    have hsp := HSP.out
    rw [four_cells] at hsp
    have HSP4 := Lib.hid hsp
    clear hsp HSP hlen h4 hle hN4 hN1 hl
    obtain ⟨S0, hS0⟩ : ∃ S, S = bsT p0 := ⟨_, rfl⟩
    obtain ⟨S1, hS1⟩ : ∃ S, S = bsT p1 := ⟨_, rfl⟩
    obtain ⟨S2, hS2⟩ : ∃ S, S = bsT p2 := ⟨_, rfl⟩
    obtain ⟨S3, hS3⟩ : ∃ S, S = bsT p3 := ⟨_, rfl⟩
    rw [← hS0, ← hS1, ← hS2, ← hS3] at HSP4
    rw [← hS1] at hz1
    rw [← hS3] at hz3
    have HS0 := Lib.hid hS0
    have HS1 := Lib.hid hS1
    have HS2 := Lib.hid hS2
    have HS3 := Lib.hid hS3
    clear hS0 hS1 hS2 hS3
    go_enter Tryd.func61, Tryd.ntmps61
    go_upto_region 1 with fail
    change Code.wp _ _ _ _ (w.alloc (cdB zeroCd))
    rw [← hW]
    clear hW
    go_wp2_with fail
    refine HSP4.out.mono ?_
    rintro e w1 ⟨rfl, hw1⟩
    have hr1 : w1.heap[W.heap.size]? = some (.cells #[.string S0, .string S1, .string S2, .string S3] 9) := by rw [hw1]; exact heap_alloc_new W _
    have HR1 := Lib.hid hr1
    have HB1 : Hid (Below w.heap.size w w1) := Lib.hid (by rw [hw1]; exact ba _ HB0.out)
    have HZ1 : Hid (w1.heap[w.heap.size]? = some (cdB zeroCd)) := Lib.hid (by rw [hw1]; exact ka _ HZ0.out)
    have e0 : w1.cell? ⟨W.heap.size, 0, none⟩ = some (.string S0) := cell_in hr1 0
    generalize W.heap.size = g at *
    clear hw1 hr1 HSP4 HZ0 HB0
    go_wp2_with fail
    refine (readArg_any _ _).mono ?_
    rintro e w2 ⟨hA, hb2⟩
    obtain ⟨n, b0, rfl, hA0⟩ := hA.letters
    have HA := Lib.hid hA0
    have HR2 := Lib.hid (kb hb2 HR1.out)
    have HZ2 := Lib.hid (kb hb2 HZ1.out)
    have HB2 := Lib.hid (below2 HB1.out hb2)
    have e1 : w2.cell? ⟨g, 1, none⟩ = some (.string S1) := cell_in HR2.out 1
    clear hA hA0 hb2 e0 HR1 HZ1 HB1
    go_wp2_with fail
    refine (parse_any S1 _ hz1).mono ?_
    rintro e w3 ⟨hA, hb3⟩
    obtain ⟨m, x1, rfl, hm, hA0⟩ := hA.letters
    have HM := Lib.hid hA0
    have HR3 := Lib.hid (kb hb3 HR2.out)
    have HZ3 := Lib.hid (kb hb3 HZ2.out)
    have HB3 := Lib.hid (below2 HB2.out hb3)
    have e2 : w3.cell? ⟨g, 2, none⟩ = some (.string S2) := cell_in HR3.out 2
    clear hA hA0 hb3 e1 HR2 HZ2 HB2
    go_wp2_with fail
    refine (readCmp_any S2 _).mono ?_
    rintro e w4 ⟨hA, hb4⟩
    obtain ⟨k, b2, rfl, hA0⟩ := hA.letters
    have HK := Lib.hid hA0
    have HR4 := Lib.hid (kb hb4 HR3.out)
    have HZ4 := Lib.hid (kb hb4 HZ3.out)
    have HB4 := Lib.hid (below2 HB3.out hb4)
    have e3 : w4.cell? ⟨g, 3, none⟩ = some (.string S3) := cell_in HR4.out 3
    clear hA hA0 hb4 e2 HR3 HZ3 HB3
    go_wp2_with fail
    refine (parse_any S3 _ hz3).mono ?_
    rintro e w5 ⟨hA, hb5⟩
    obtain ⟨v, x3, rfl, hv, hA0⟩ := hA.letters
    have HV := Lib.hid hA0
    have HZ5 := Lib.hid (kb hb5 HZ4.out)
    have HB5 := Lib.hid (below2 HB4.out hb5)
    have r0 := cell_in HZ5.out 0
    have r1 := cell_in HZ5.out 1
    have r2 := cell_in HZ5.out 2
    have r3 := cell_in HZ5.out 3
    have f0 := free_in HZ5.out 0
    have f1 := free_in HZ5.out 1
    have f2 := free_in HZ5.out 2
    have f3 := free_in HZ5.out 3
    have hlt : w.heap.size < w5.heap.size := lt_of_block HZ5.out
    clear hA hA0 hb5 e3 HR4 HZ4 HB4
    rcases HA.out with ⟨rfl, hn6, hn⟩ | ⟨rfl, hno⟩
    rotate_left
    · have HE : Hid (QPEnd S (.returned (.tuple #[zeroCd.val, .int .i64 2]))) := Lib.hid (.inr ⟨fun c _ hr e => by
        have h := HT.out c hr e
        simp only [List.cons.injEq] at h
        have h' := (c.right_iff).1 hr
        exact hno c.arg.toNat (by omega) (by rw [HS0.out, h.1]; unfold argT; rw [show ((c.arg.toNat : Nat) : Int) = c.arg by omega]), rfl⟩)
      clear hno
      go_wp2_with fail
      (try simp only [Exit.inBlock, Exit.then])
      refine bodyPost_ret (v := .tuple #[.agg #[.int .i64 0, .int .i64 0, .int .u64 0, .int .u64 0], .int .i64 2]) ?_ rfl ⟨HE.out, ?_⟩
      · rw [results_cell_tmp rfl]
        go_simp
      · have hB := HB5.out
        go_grown
    rcases HM.out with ⟨rfl, hm1⟩ | ⟨rfl, hno⟩
    rotate_left
    · have HE : Hid (QPEnd S (.returned (.tuple #[zeroCd.val, .int .i64 2]))) := Lib.hid (.inr ⟨fun c hc hr e => by
        have h := HT.out c hr e
        simp only [List.cons.injEq] at h
        exact hno c.mask hc.1 (by rw [HS1.out, h.2.1]; rfl), rfl⟩)
      clear hno hn
      go_wp2_with fail
      (try simp only [Exit.inBlock, Exit.then])
      refine bodyPost_ret (v := .tuple #[.agg #[.int .i64 0, .int .i64 0, .int .u64 0, .int .u64 0], .int .i64 2]) ?_ rfl ⟨HE.out, ?_⟩
      · rw [results_cell_tmp rfl]
        go_simp
      · have hB := HB5.out
        go_grown
    rcases HK.out with ⟨rfl, hk6, hk⟩ | ⟨rfl, hno⟩
    rotate_left
    · have HE : Hid (QPEnd S (.returned (.tuple #[zeroCd.val, .int .i64 2]))) := Lib.hid (.inr ⟨fun c hc hr e => by
        have h := HT.out c hr e
        simp only [List.cons.injEq] at h
        have h' := (c.right_iff).1 hr
        exact hno c.cmp.toNat (by omega) (by rw [HS2.out, h.2.2.1]; unfold wordT; rw [show ((c.cmp.toNat : Nat) : Int) = c.cmp by omega]), rfl⟩)
      clear hno hn hm1
      go_wp2_with fail
      (try simp only [Exit.inBlock, Exit.then])
      refine bodyPost_ret (v := .tuple #[.agg #[.int .i64 0, .int .i64 0, .int .u64 0, .int .u64 0], .int .i64 2]) ?_ rfl ⟨HE.out, ?_⟩
      · rw [results_cell_tmp rfl]
        go_simp
      · have hB := HB5.out
        go_grown
    rcases HV.out with ⟨rfl, hv1⟩ | ⟨rfl, hno⟩
    rotate_left
    · have HE : Hid (QPEnd S (.returned (.tuple #[zeroCd.val, .int .i64 2]))) := Lib.hid (.inr ⟨fun c hc hr e => by
        have h := HT.out c hr e
        simp only [List.cons.injEq] at h
        exact hno c.value hc.2 (by rw [HS3.out, h.2.2.2.1]; rfl), rfl⟩)
      clear hno hn hm1 hk
      go_wp2_with fail
      (try simp only [Exit.inBlock, Exit.then])
      refine bodyPost_ret (v := .tuple #[.agg #[.int .i64 0, .int .i64 0, .int .u64 0, .int .u64 0], .int .i64 2]) ?_ rfl ⟨HE.out, ?_⟩
      · rw [results_cell_tmp rfl]
        go_simp
      · have hB := HB5.out
        go_grown
    have HE : Hid (QPEnd S (.returned (.tuple #[(⟨n, k, m, v⟩ : Cd).val, .int .i64 0]))) := Lib.hid (.inl ⟨⟨n, k, m, v⟩, ⟨hm, hv⟩, cd_right hn6 hk6, by
      have q0 : p0 = argW n := bsT_inj (HS0.out.symm.trans hn)
      have q1 : p1 = numT m := bsT_inj (HS1.out.symm.trans hm1)
      have q2 : p2 = cmpW k := bsT_inj (HS2.out.symm.trans hk)
      have q3 : p3 = numT v := bsT_inj (HS3.out.symm.trans hv1)
      rw [HS.out, HEQ.out _ _ _ _ rfl, q0, q1, q2, q3]
      rfl, rfl⟩)
    clear hn hm1 hk hv1
    go_wp2_with fail
    (try simp only [Exit.inBlock, Exit.then])
    refine bodyPost_ret (v := .tuple #[.agg #[.int .i64 n, .int .i64 k, .int .u64 m, .int .u64 v], .int .i64 0]) ?_ rfl ⟨HE.out, ?_⟩
    · rw [results_cell_tmp rfl]
      go_simp
    · have hB := HB5.out
      go_grown
  · have HE : Hid (QPEnd S (.returned (.tuple #[zeroCd.val, .int .i64 2]))) := Lib.hid (.inr ⟨fun c _ hr e => h4 (by rw [HT.out c hr e]; rfl), rfl⟩)
    have h4' : ((ps.length : Int) != 4) = true := by simp; omega
    have r0 := cell_in HZ0.out 0
    have r1 := cell_in HZ0.out 1
    have r2 := cell_in HZ0.out 2
    have r3 := cell_in HZ0.out 3
    have f0 := free_in HZ0.out 0
    have f1 := free_in HZ0.out 1
    have f2 := free_in HZ0.out 2
    have f3 := free_in HZ0.out 3
    have hlt : w.heap.size < W.heap.size := lt_of_block HZ0.out
    clear h4
    go_enter Tryd.func61, Tryd.ntmps61
    go_upto_region 1 with fail
    change Code.wp _ _ _ _ (w.alloc (cdB zeroCd))
    rw [← hW]
    clear hW
    go_wp2_with fail
    refine HSP.out.mono ?_
    rintro e w1 ⟨rfl, rfl⟩
    go_wp2_with fail
    (try simp only [Exit.inBlock, Exit.then])
    refine bodyPost_ret (v := .tuple #[.agg #[.int .i64 0, .int .i64 0, .int .u64 0, .int .u64 0], .int .i64 2]) ?_ rfl ⟨HE.out, ?_⟩
    · rw [results_cell_tmp rfl]
      go_simp
    · have hB := HB0.out
      go_grown
end Go.Proofs.YtdjjmcblhpjchaaDoor
/-
  Package policy: which policies are right.
-/
namespace Go.Proofs.YtdjjmcblhpjchaaDoor
open Go.ChangeShapes Go.WideShapes Go.ChangeAt Go.RowKit
set_option maxRecDepth 20000

theorem pisaction_any (v : Nat) (w : World) (hv : v < 4294967296) (ht : Tab w) :
    Calls Tryd.prog 20 #[.int .u32 (v : Nat)] w fun e w' => e = .returned (.bool (actT v).isSome) ∧ Below w.heap.size w w' := by
  go_enter Tryd.func20, Tryd.ntmps20
  go_wp2_with fail
  refine (naction_any v _ hv ht).mono ?_
  rintro e w1 ⟨rfl, hb1⟩
  have HB1 := Lib.hid hb1
  clear hb1
  generalize actS v = A
  cases hs : (actT v).isSome
  · have HS := Lib.hid hs
    rw [if_neg (by decide)]
    clear hs
    go_wp2_with fail
    go_ret
    exact ⟨by rw [HS.out]; rfl, HB1.out⟩
  · have HS := Lib.hid hs
    rw [if_pos rfl]
    clear hs
    go_wp2_with fail
    go_ret
    exact ⟨by rw [HS.out]; rfl, HB1.out⟩
set_option maxHeartbeats 8000000 in
theorem pisrule_any (cv : Value) (x : Rl) (w : World) (hC : CAt w cv x.conds) (hk : x.ok) (hl : x.conds.length ≤ 9223372036854775807) (ht : Tab w) :
    Calls Tryd.prog 21 #[x.val cv] w fun e w' => e = .returned (.bool x.right) ∧ Below w.heap.size w w' := by
  obtain ⟨co, ccap, rfl, hrows⟩ := hC.rows
  have HROW := Lib.hid hrows
  have HX0 := Lib.hid (heap_alloc_new w (rlB x (.slice co x.conds.length ccap)))
  have HB0 := Lib.hid (ba (rlB x (.slice co x.conds.length ccap)) (Below.refl w.heap.size w))
  obtain ⟨W, hW⟩ : ∃ W, W = w.alloc (rlB x (.slice co x.conds.length ccap)) := ⟨_, rfl⟩
  rw [← hW] at HX0 HB0
  obtain ⟨R, hR⟩ : ∃ R, R = x.right := ⟨_, rfl⟩
  rw [← hR]
  have HR := Lib.hid hR
  have HT := Lib.hid ht
  have hv := hk.2.2.1
  clear hR hrows hC ht hk
  go_enter Tryd.func21, Tryd.ntmps21
  go_upto_region 1 with fail
  change Code.wp _ _ _ _ (w.alloc (rlB x (.slice co x.conds.length ccap)))
  rw [← hW]
  clear hW
  obtain ⟨r0, r1, r2, r3⟩ := rbox HX0.out
  by_cases h4 : 4 < x.conds.length
  · have HE : Hid (R = false) := Lib.hid (by rw [HR.out]; unfold Rl.right; rw [show decide (x.conds.length ≤ 4) = false by simp; omega]; rfl)
    have hb : decide ((4 : Int) < (x.conds.length : Int)) = true := by simp; omega
    clear h4
    go_wp2_with fail
    go_ret
    exact ⟨by rw [HE.out]; rfl, HB0.out⟩
  have hb : decide ((4 : Int) < (x.conds.length : Int)) = false := by simp; omega
  go_wp2_with fail
  refine (pisaction_any x.act _ hv (HT.out.below HB0.out)).mono ?_
  rintro e w1 ⟨rfl, hb1⟩
  have HB1 := Lib.hid (below2 HB0.out hb1)
  have HX1 := Lib.hid (kb hb1 HX0.out)
  clear hb1 r0 r1 r2 r3 HX0 HB0
  cases hs : (actT x.act).isSome
  · have HE : Hid (R = false) := Lib.hid (by rw [HR.out]; unfold Rl.right; rw [hs]; simp)
    clear hs h4
    go_wp2_with fail
    go_ret
    exact ⟨by rw [HE.out]; rfl, HB1.out⟩
  have HRR : Hid (R = x.conds.all Cd.right) := Lib.hid (by rw [HR.out]; unfold Rl.right; rw [hs, show decide (x.conds.length ≤ 4) = true by simp; omega]; rfl)
  clear hs h4
  obtain ⟨r0, r1, r2, r3⟩ := rbox HX1.out
  go_wp2_with fail
  go_loopw [18] (fun i wr => ∃ j : Nat, j ≤ x.conds.length ∧ i = .int .i64 j ∧ Below w.heap.size w wr ∧ wr.heap[w.heap.size]? = some (rlB x (.slice co x.conds.length ccap)) ∧ (x.conds.take j).all Cd.right = true) (fun i _ => x.conds.length - (Lib.intOf i).toNat)
  case atStart => exact ⟨0, Nat.zero_le _, rfl, HB1.out, HX1.out, rfl⟩
  case round =>
    obtain ⟨j, hj, rfl, hbw, hxx, hall⟩ := hrel
    have HB := Lib.hid hbw
    have HX := Lib.hid hxx
    have HA := Lib.hid hall
    clear hbw hxx hall HB1 HX1 r0 r1 r2 r3
    obtain ⟨r0, r1, r2, r3⟩ := rbox HX.out
    by_cases hjl : j < x.conds.length
    · obtain ⟨cb, coff, rfl, hcb, d0, d1, d2, d3⟩ := HROW.out j hjl
      obtain ⟨c, hc⟩ : ∃ c, c = x.conds[j] := ⟨_, rfl⟩
      rw [← hc] at d0 d1 d2 d3
      have e0 := (HB.out.cell (p := ⟨cb, _, none⟩) hcb).trans d0
      have e1 := (HB.out.cell (p := ⟨cb, _, none⟩) hcb).trans d1
      have e2 := (HB.out.cell (p := ⟨cb, _, none⟩) hcb).trans d2
      have e3 := (HB.out.cell (p := ⟨cb, _, none⟩) hcb).trans d3
      have HCJ := Lib.hid hc
      have l0 : (j : Int) < (x.conds.length : Int) := by omega
      have l1 : (0 : Int) ≤ (j : Int) := by omega
      have l2 : (j : Int).toNat = j := by omega
      clear hc d0 d1 d2 d3
      go_wp2_with fail
      have hba : Below wr.heap.size wr (wr.alloc (cdB c)) := ba _ (Below.refl _ _)
      refine (qright_any c _ (HT.out.below (below2 HB.out hba))).mono ?_
      rintro e w5 ⟨rfl, hb5'⟩
      have hb5 := below2 hba hb5'
      clear hb5' hba
      have HB5 := Lib.hid (below2 HB.out hb5)
      have HX5 := Lib.hid (kb hb5 HX.out)
      clear hb5 e0 e1 e2 e3 r0 r1 r2 r3
      cases hr : c.right
      · have HE : Hid (R = false) := Lib.hid (by
          rw [HRR.out]
          refine not_all hjl ?_
          rw [← HCJ.out, hr])
        clear hr
        go_wp2_with fail
        go_ret
        exact ⟨by rw [HE.out]; rfl, HB5.out⟩
      · have HN : Hid ((x.conds.take (j + 1)).all Cd.right = true) := Lib.hid (take_all_succ hjl HA.out (by rw [← HCJ.out]; exact hr))
        clear hr
        go_wp2_with fail
        go_roundw
        case rel => exact ⟨j + 1, by omega, by go_num, HB5.out, HX5.out, HN.out⟩
        case measure => simp [Lib.intOf]; omega
    · have HE : Hid (R = true) := Lib.hid (by rw [HRR.out]; exact take_all_end (by omega) HA.out)
      go_wp2_with fail
      go_ret
      exact ⟨by rw [HE.out]; rfl, HB.out⟩
set_option maxHeartbeats 8000000 in
theorem ppright_any (rv : Value) (p : Po) (w : World) (hL : LAt w rv p.rules) (hk : p.ok) (hl : p.rules.length ≤ 9223372036854775807) (hl2 : ∀ x ∈ p.rules, x.conds.length ≤ 9223372036854775807) (ht : Tab w) :
    Calls Tryd.prog 12 #[poV rv p.dflt] w fun e w' => e = .returned (.bool p.right) ∧ Below w.heap.size w w' := by
  obtain ⟨rs, d⟩ := p
  simp only at hL hl hl2
  obtain ⟨hd, hok⟩ := hk
  simp only at hd hok
  obtain ⟨ao, cap, rfl, hrows⟩ := hL.rows
  have HROW := Lib.hid hrows
  have HX0 := Lib.hid (heap_alloc_new w (poB (.slice ao rs.length cap) d))
  have HB0 := Lib.hid (ba (poB (.slice ao rs.length cap) d) (Below.refl w.heap.size w))
  obtain ⟨W, hW⟩ : ∃ W, W = w.alloc (poB (.slice ao rs.length cap) d) := ⟨_, rfl⟩
  rw [← hW] at HX0 HB0
  obtain ⟨R, hR⟩ : ∃ R, R = (⟨rs, d⟩ : Po).right := ⟨_, rfl⟩
  rw [← hR]
  have HR := Lib.hid hR
  have HL2 := Lib.hid hl2
  have HOK := Lib.hid hok
  have HT := Lib.hid ht
  clear hR hrows hL hl2 hok ht
  go_enter Tryd.func12, Tryd.ntmps12
  go_upto_region 1 with fail
  change Code.wp _ _ _ _ (w.alloc (poB (.slice ao rs.length cap) d))
  rw [← hW]
  clear hW
  obtain ⟨c0, c1⟩ := pbox HX0.out
  by_cases h64 : 64 < rs.length
  · have HE : Hid (R = false) := Lib.hid (by rw [HR.out]; unfold Po.right; rw [show decide (rs.length ≤ 64) = false by simp; omega]; rfl)
    have hb : decide ((64 : Int) < (rs.length : Int)) = true := by simp; omega
    clear h64
    go_wp2_with fail
    go_ret
    exact ⟨by rw [HE.out]; rfl, HB0.out⟩
  have hb : decide ((64 : Int) < (rs.length : Int)) = false := by simp; omega
  go_wp2_with fail
  refine (pisaction_any d _ hd (HT.out.below HB0.out)).mono ?_
  rintro e w1 ⟨rfl, hb1⟩
  have HB1 := Lib.hid (below2 HB0.out hb1)
  have HX1 := Lib.hid (kb hb1 HX0.out)
  clear hb1 c0 c1 HX0 HB0
  cases hs : (actT d).isSome
  · have HE : Hid (R = false) := Lib.hid (by rw [HR.out]; unfold Po.right; rw [hs]; simp)
    clear hs h64
    go_wp2_with fail
    go_ret
    exact ⟨by rw [HE.out]; rfl, HB1.out⟩
  have HRR : Hid (R = rs.all Rl.right) := Lib.hid (by rw [HR.out]; unfold Po.right; rw [hs, show decide (rs.length ≤ 64) = true by simp; omega]; rfl)
  clear hs h64
  obtain ⟨c0, c1⟩ := pbox HX1.out
  go_wp2_with fail
  go_loopw [18] (fun i wr => ∃ k : Nat, k ≤ rs.length ∧ i = .int .i64 k ∧ Below w.heap.size w wr ∧ wr.heap[w.heap.size]? = some (poB (.slice ao rs.length cap) d) ∧ (rs.take k).all Rl.right = true) (fun i _ => rs.length - (Lib.intOf i).toNat)
  case atStart => exact ⟨0, Nat.zero_le _, rfl, HB1.out, HX1.out, rfl⟩
  case round =>
    obtain ⟨k, hk, rfl, hbw, hxx, hall⟩ := hrel
    have HB := Lib.hid hbw
    have HX := Lib.hid hxx
    have HA := Lib.hid hall
    clear hbw hxx hall HB1 HX1 c0 c1
    obtain ⟨c0, c1⟩ := pbox HX.out
    by_cases hlt : k < rs.length
    · obtain ⟨b, off, cv, rfl, hb', hcv, d0, d1, d2, d3⟩ := HROW.out k hlt
      obtain ⟨x, hx⟩ : ∃ x, x = rs[k] := ⟨_, rfl⟩
      rw [← hx] at hcv d0 d1 d3
      have hxk : x.ok := by rw [hx]; exact HOK.out _ (List.getElem_mem hlt)
      have hxl : x.conds.length ≤ 9223372036854775807 := by rw [hx]; exact HL2.out _ (List.getElem_mem hlt)
      have HIR : Hid (∀ V, Below wr.heap.size wr V → Calls Tryd.prog 21 #[x.val cv] V fun e w' => e = .returned (.bool x.right) ∧ Below V.heap.size V w') := Lib.hid (fun V hV => pisrule_any cv x V (hcv.below (below2 HB.out hV)) hxk hxl (HT.out.below (below2 HB.out hV)))
      obtain ⟨co, ccap, rfl⟩ := hcv.shape
      have HXR := Lib.hid hx
      have e0 := (HB.out.cell (p := ⟨b, _, none⟩) hb').trans d0
      have e1 := (HB.out.cell (p := ⟨b, _, none⟩) hb').trans d1
      have e2 := (HB.out.cell (p := ⟨b, _, none⟩) hb').trans d2
      have e3 := (HB.out.cell (p := ⟨b, _, none⟩) hb').trans d3
      have l0 : (k : Int) < (rs.length : Int) := by omega
      have l1 : (0 : Int) ≤ (k : Int) := by omega
      have l2 : (k : Int).toNat = k := by omega
      clear hx d0 d1 d2 d3 hcv hxk hxl
      go_wp2_with fail
      have hba : Below wr.heap.size wr (wr.alloc (rlB x (.slice co x.conds.length ccap))) := ba _ (Below.refl _ _)
      refine (HIR.out _ hba).mono ?_
      rintro e w5 ⟨rfl, hb5'⟩
      have hb5 := below2 hba hb5'
      clear hb5' hba
      have HB5 := Lib.hid (below2 HB.out hb5)
      have HX5 := Lib.hid (kb hb5 HX.out)
      clear hb5 e0 e1 e2 e3 c0 c1 HIR
      cases hr : x.right
      · have HE : Hid (R = false) := Lib.hid (by
          rw [HRR.out]
          refine not_all hlt ?_
          rw [← HXR.out, hr])
        clear hr
        go_wp2_with fail
        go_ret
        exact ⟨by rw [HE.out]; rfl, HB5.out⟩
      · have HN : Hid ((rs.take (k + 1)).all Rl.right = true) := Lib.hid (take_all_succ hlt HA.out (by rw [← HXR.out]; exact hr))
        clear hr
        go_wp2_with fail
        go_roundw
        case rel => exact ⟨k + 1, by omega, by go_num, HB5.out, HX5.out, HN.out⟩
        case measure => simp [Lib.intOf]; omega
    · have HE : Hid (R = true) := Lib.hid (by rw [HRR.out]; exact take_all_end (by omega) HA.out)
      go_wp2_with fail
      go_ret
      exact ⟨by rw [HE.out]; rfl, HB.out⟩
end Go.Proofs.YtdjjmcblhpjchaaDoor
/-
  A line's words, each with a space behind it, plainly: what is taken of them, and what they say. What a round of a range over a text passes by.
-/
namespace Go.Proofs.YtdjjmcblhpjchaaDoor
open Go.RowKit
set_option maxRecDepth 20000

/-! ### Runes -/
theorem decode_32 (s : ByteArray) (k : Nat) (h : k < s.size) (h32 : (s[k]'h).toNat = 32) : Utf8.decode s k = (32, 1) := by
  rw [decode_ascii s k h (by omega), h32]
theorem decode_not (s : ByteArray) (k : Nat) (h : k < s.size) (h32 : (s[k]'h).toNat ≠ 32) : (Utf8.decode s k).1 ≠ 32 := by
  by_cases ha : (s[k]'h).toNat < 128
  · rw [decode_ascii s k h ha]
    exact h32
  · have := (decode_high s k h (by omega)).1
    omega
theorem decode_pos (s : ByteArray) (k : Nat) (h : k < s.size) : 1 ≤ (Utf8.decode s k).2 := by
  by_cases ha : (s[k]'h).toNat < 128
  · rw [decode_ascii s k h ha]
    exact Nat.le_refl _
  · exact (decode_high s k h (by omega)).2
theorem get_in (s : ByteArray) (k : Nat) (h : k < s.size) : s.get! k = s[k]'h := by
  have := get_at s k h
  simpa using this
/-- A rune ends ahead of the next space. -/
theorem decode_upto (s : ByteArray) (i k : Nat) (hk : k < s.size) (hik : i < k) (h32 : (s[k]'hk).toNat = 32) : i + (Utf8.decode s i).2 ≤ k := by
  have hg : (s.get! k).toNat = 32 := by rw [get_in s k hk, h32]
  obtain ⟨j, rfl⟩ : ∃ j, k = i + j := ⟨k - i, by omega⟩
  have hw : (Utf8.decode s i).2 ≤ j := by
    by_cases j1 : j = 1
    · subst j1
      simp only [Utf8.decode, hg]
      repeat' split
      all_goals simp_all
    · by_cases j2 : j = 2
      · subst j2
        simp only [Utf8.decode, hg]
        repeat' split
        all_goals simp_all
      · by_cases j3 : j = 3
        · subst j3
          simp only [Utf8.decode, hg]
          repeat' split
          all_goals simp_all
        · simp only [Utf8.decode]
          repeat' split
          all_goals (show _ ≤ _; simp; omega)
  omega
/-! ### Words with a space behind each -/
def restT (ws : List (List UInt8)) : List UInt8 := ws.flatMap (· ++ [32])
def freeW (ws : List (List UInt8)) : Prop := ∀ p ∈ ws, ∀ c ∈ p, c ≠ 32
theorem restT_cons (p : List UInt8) (ws : List (List UInt8)) : restT (p :: ws) = p ++ 32 :: restT ws := by simp [restT]
theorem restT_join : ∀ (ws : List (List UInt8)), ws ≠ [] → restT ws = Ip.join ws ++ [32]
  | [], h => absurd rfl h
  | [x], _ => by simp [restT, Ip.join]
  | x :: y :: l, _ => by
    rw [restT_cons, restT_join (y :: l) (by simp)]
    show _ = (x ++ 32 :: Ip.join (y :: l)) ++ [32]
    simp
theorem restT_line (p : List UInt8) : p ++ [32] = restT (Ip.cutAll 32 [] p) := by
  rw [restT_join _ (Ip.cutAll_ne 32 p []), Ip.join_cutAll]
  simp
theorem cutAll_free (m : UInt8) (l : List UInt8) : ∀ cur, (∀ c ∈ cur, c ≠ m) → ∀ y ∈ Ip.cutAll m cur l, ∀ c ∈ y, c ≠ m := by
  induction l with
  | nil =>
    intro cur h y hy
    simp [Ip.cutAll] at hy
    subst hy
    exact h
  | cons c l ih =>
    intro cur h y hy
    rw [Ip.cutAll] at hy
    split at hy
    · rcases List.mem_cons.1 hy with rfl | hy
      · exact h
      · exact ih [] (by simp) y hy
    · rename_i hc
      refine ih (cur ++ [c]) ?_ y hy
      intro d hd
      rcases List.mem_append.1 hd with hd | hd
      · exact h d hd
      · rw [List.mem_singleton.1 hd]
        exact hc
theorem freeW_cut (p : List UInt8) : freeW (Ip.cutAll 32 [] p) := cutAll_free 32 p [] (by simp)
theorem freeW_drop {ws : List (List UInt8)} (h : freeW ws) (k : Nat) : freeW (ws.drop k) := fun p hp => h p (List.mem_of_mem_drop hp)
theorem freeW_take {ws : List (List UInt8)} (h : freeW ws) (k : Nat) : freeW (ws.take k) := fun p hp => h p (List.mem_of_mem_take hp)
theorem restT_drop_le (ws : List (List UInt8)) : ∀ (k : Nat), (restT (ws.drop k)).length ≤ (restT ws).length := by
  induction ws with
  | nil => intro k; simp [restT]
  | cons p l ih =>
    intro k
    cases k with
    | zero => simp
    | succ k =>
      rw [List.drop_succ_cons, restT_cons]
      have := ih k
      simp
      omega
theorem join_take_le (ws : List (List UInt8)) : ∀ (k : Nat), (Ip.join (ws.take k)).length ≤ (restT ws).length := by
  intro k
  by_cases h : ws.take k = []
  · rw [h]
    simp [Ip.join]
  · have e := congrArg List.length (restT_join _ h)
    have : (restT (ws.take k)).length ≤ (restT ws).length := by
      clear e h
      induction ws generalizing k with
      | nil => simp [restT]
      | cons p l ih =>
        cases k with
        | zero => simp [restT]
        | succ k =>
          rw [List.take_succ_cons, restT_cons, restT_cons]
          have := ih k
          simp
          omega
    rw [List.length_append] at e
    simp at e
    omega
theorem join_lib : ∀ (ws : List (List UInt8)), Lib.join ws [32] = Ip.join ws
  | [] => rfl
  | [x] => by rw [Lib.join_one]; rfl
  | x :: y :: l => by
    rw [Lib.join_cons]
    have h := join_lib (y :: l)
    rw [Lib.join_cons] at h
    show _ = x ++ 32 :: Ip.join (y :: l)
    rw [← h]
    simp [Lib.joinTail]
theorem word_at {ws : List (List UInt8)} {p : List UInt8} {l : List (List UInt8)} {k : Nat} (h : ws.drop k = p :: l) : ws.take (k + 1) = ws.take k ++ [p] ∧ ws.drop (k + 1) = l := by
  have hk : k < ws.length := by
    apply Nat.lt_of_not_le
    intro hle
    rw [List.drop_eq_nil_of_le hle] at h
    cases h
  have e := List.drop_eq_getElem_cons hk
  rw [h] at e
  simp only [List.cons.injEq] at e
  obtain ⟨rfl, rfl⟩ := e
  exact ⟨by rw [List.take_succ_eq_append_getElem hk], rfl⟩
/-! ### What a rule's words say of its conditions -/
theorem condsW_app : ∀ (k : Nat) (cs : List Cd) (c : Cd), condsW k (cs ++ [c]) = condsW k cs ++ condW (k + cs.length) c
  | k, [], c => by simp [condsW]
  | k, d :: cs, c => by
    rw [List.cons_append, condsW, condsW, condsW_app (k + 1) cs c, List.append_assoc, List.length_cons, show k + 1 + cs.length = k + (cs.length + 1) by omega]
def textW (c : Cd) : List (List UInt8) := [argW c.arg, numT c.mask, cmpW c.cmp, numT c.value]
theorem condW_eq (k : Nat) (c : Cd) : condW k c = glue k :: textW c := rfl
theorem textW_join (c : Cd) : Ip.join (textW c) = textQ c := by
  show argW c.arg ++ 32 :: (numT c.mask ++ 32 :: (cmpW c.cmp ++ 32 :: numT c.value)) = textQ c
  rfl
theorem textW_free {c : Cd} (h : c.right = true) : freeW (textW c) := by
  obtain ⟨a0, a5, _, _⟩ := (c.right_iff).1 h
  intro p hp d hd
  have : free2 p := by
    unfold textW at hp
    simp only [List.mem_cons, List.not_mem_nil, or_false] at hp
    rcases hp with rfl | rfl | rfl | rfl
    · exact free_arg a0 a5
    · exact free_num _
    · exact free_cmp _
    · exact free_num _
  exact (this d hd).1
/-- Words that are a condition's text when they are joined. -/
theorem words_cond {l : List (List UInt8)} (hf : freeW l) {c : Cd} (hc : c.right = true) (h : Ip.join (l.take 4) = textQ c) : l = textW c ++ l.drop 4 := by
  have hne : l.take 4 ≠ [] := by
    intro e
    rw [e] at h
    have := congrArg List.length h
    simp [Ip.join, textQ, argW] at this
  have e1 := Ip.cutAll_join (l.take 4) hne (freeW_take hf 4)
  have e2 := Ip.cutAll_join (textW c) (by simp [textW]) (textW_free hc)
  rw [textW_join, ← h, e1] at e2
  rw [← e2, List.take_append_drop]
theorem condsW_pre : ∀ (k : Nat) (cs ds : List Cd) (l : List (List UInt8)), (∀ c ∈ cs, c.right = true) → (∀ c ∈ ds, c.right = true) → condsW k cs ++ l = condsW k ds → ∃ es, ds = cs ++ es ∧ l = condsW (k + cs.length) es
  | k, [], ds, l, _, _, h => ⟨ds, rfl, h⟩
  | k, c :: cs, [], l, _, _, h => by simp [condsW, condW] at h
  | k, c :: cs, d :: ds, l, hc, hd, h => by
    obtain ⟨a0, a5, k0, k5⟩ := (c.right_iff).1 (hc c (by simp))
    obtain ⟨b0, b5, j0, j5⟩ := (d.right_iff).1 (hd d (by simp))
    unfold condsW condW at h
    simp only [List.cons_append, List.nil_append, List.cons.injEq, true_and] at h
    obtain ⟨h1, h2, h3, h4, h5⟩ := h
    obtain ⟨es, rfl, e⟩ := condsW_pre (k + 1) cs ds l (fun x hx => hc x (by simp [hx])) (fun x hx => hd x (by simp [hx])) h5
    have e1 := argW_inj a0 a5 b0 b5 h1
    have e3 := cmpW_inj k0 k5 j0 j5 h3
    have e2 := numT_inj h2
    have e4 := numT_inj h4
    refine ⟨es, ?_, ?_⟩
    · obtain ⟨_, _, _, _⟩ := c
      obtain ⟨_, _, _, _⟩ := d
      simp_all
    · rw [e]
      congr 1
      simp
      omega
/-- These words are no conditions'. -/
def noConds (ws : List (List UInt8)) : Prop := ∀ ds : List Cd, ds.length ≤ 4 → (∀ c ∈ ds, c.ok ∧ c.right = true) → ws ≠ condsW 0 ds
section
variable {ws l : List (List UInt8)} {cs : List Cd}
theorem noConds_of (h : ws = condsW 0 cs ++ l) (hcs : ∀ c ∈ cs, c.ok ∧ c.right = true) (hno : ∀ es : List Cd, cs.length + es.length ≤ 4 → (∀ c ∈ es, c.ok ∧ c.right = true) → l ≠ condsW cs.length es) : noConds ws := by
  intro ds hl hds e
  rw [h] at e
  obtain ⟨es, rfl, e2⟩ := condsW_pre 0 cs ds l (fun c hc => (hcs c hc).2) (fun c hc => (hds c hc).2) e
  rw [Nat.zero_add] at e2
  exact hno es (by simpa using hl) (fun c hc => hds c (by simp [hc])) e2
theorem noConds_many (h : ws = condsW 0 cs ++ l) (hcs : ∀ c ∈ cs, c.ok ∧ c.right = true) (hl : l ≠ []) (h4 : cs.length = 4) : noConds ws :=
  noConds_of h hcs fun es hes _ e => by
    have : es = [] := List.length_eq_zero_iff.1 (by omega)
    subst this
    exact hl e
theorem noConds_word (h : ws = condsW 0 cs ++ l) (hcs : ∀ c ∈ cs, c.ok ∧ c.right = true) {p : List UInt8} {m : List (List UInt8)} (hl : l = p :: m) (hp : p ≠ glue cs.length) : noConds ws :=
  noConds_of h hcs fun es _ _ e => by
    cases es with
    | nil => rw [hl] at e; cases e
    | cons d es =>
      rw [hl] at e
      simp only [condsW, condW, List.cons_append, List.cons.injEq] at e
      exact hp e.1
theorem noConds_text (h : ws = condsW 0 cs ++ l) (hcs : ∀ c ∈ cs, c.ok ∧ c.right = true) {p : List UInt8} {m : List (List UInt8)} (hl : l = p :: m) (hp : ∀ c : Cd, c.ok → c.right = true → Ip.join (m.take 4) ≠ textQ c) : noConds ws :=
  noConds_of h hcs fun es _ hes e => by
    cases es with
    | nil => rw [hl] at e; cases e
    | cons d es =>
      rw [hl] at e
      rw [condsW, condW_eq, List.cons_append, List.cons.injEq] at e
      have hd := hes d (by simp)
      refine hp d hd.1 hd.2 ?_
      rw [e.2]
      show Ip.join (textW d) = _
      exact textW_join d
theorem conds_more (h : ws = condsW 0 cs ++ l) (hf : freeW l) {p : List UInt8} {m : List (List UInt8)} (hl : l = p :: m) (hp : p = glue cs.length) {c : Cd} (hc : c.right = true) (ht : Ip.join (m.take 4) = textQ c) :
    ws = condsW 0 (cs ++ [c]) ++ m.drop 4 := by
  have e := words_cond (l := m) (fun q hq => hf q (by rw [hl]; simp [hq])) hc ht
  rw [h, hl, condsW_app, Nat.zero_add, condW_eq, hp, List.append_assoc, List.cons_append]
  congr 2
end
/-! ### Rules and defaults -/
theorem lineL_words {p : List UInt8} {x : Rl} (hx : x.right = true) : p = lineL x ↔ Ip.cutAll 32 [] p = wordsR x := by
  constructor
  · rintro rfl
    exact cut_line hx
  · intro h
    have := Ip.join_cutAll p []
    rw [h] at this
    exact this.symm
theorem lineD_words {p : List UInt8} {v : Nat} : p = lineD v ↔ Ip.cutAll 32 [] p = defW v := by
  constructor
  · rintro rfl
    exact cut_def v
  · intro h
    have := Ip.join_cutAll p []
    rw [h] at this
    exact this.symm
/-- The word at a place, as it is taken: nothing where there is none. -/
def wordN (ws : List (List UInt8)) (k : Nat) : List UInt8 := Ip.join ((ws.drop k).take 1)
theorem wordN_some {ws : List (List UInt8)} {k : Nat} (h : wordN ws k ≠ []) : ws.drop k = wordN ws k :: ws.drop (k + 1) := by
  cases e : ws.drop k with
  | nil =>
    unfold wordN at h
    rw [e] at h
    exact absurd rfl h
  | cons p l =>
    unfold wordN
    rw [e, (word_at e).2]
    rfl
def tblFull (T : Tbl) : Bool := T.all fun p => !(bl p.1).isEmpty
theorem textN_ne {T : Tbl} (h : tblFull T = true) (n : Nat) : bl (textN T n) ≠ [] := by
  rcases textN_is T n with ⟨p, hp, _, e⟩ | ⟨_, e⟩
  · rw [e]
    unfold tblFull at h
    rw [List.all_eq_true] at h
    simpa using h p hp
  · rw [e]
    show numT n ≠ []
    simp [numT]
theorem machT_full : tblFull machT = true := by decide
theorem callT_full (a : Nat) : tblFull (callT a) = true := by
  unfold callT
  split
  · decide
  split
  · decide
  split
  · decide
  split
  · decide
  rfl
theorem act_ne {v : Nat} (h : (actT v).isSome = true) : bl (actB v) ≠ [] := by
  unfold actB
  cases hv : actT v with
  | none => rw [hv] at h; cases h
  | some s =>
    show bl s ≠ []
    rcases actT_some hv with ⟨n, _, _, rfl⟩ | ⟨_, rfl⟩ | ⟨_, rfl⟩ | ⟨_, rfl⟩ | ⟨_, rfl⟩
    · unfold bl
      rw [err_list]
      simp
    all_goals simp [bl]; try decide
section
variable {p : List UInt8} {ws : List (List UInt8)}
theorem rule_of (hw : ws = Ip.cutAll 32 [] p) {a n v : Nat} {cs : List Cd} (h0 : wordN ws 0 = wOn) (h1 : wordN ws 1 = bl (textN machT a)) (h2 : wordN ws 2 = bl (textN (callT a) n)) (h3 : wordN ws 3 = bl (actB v)) (hv : (actT v).isSome = true) (hc : ws.drop 4 = condsW 0 cs) (h4 : cs.length ≤ 4) (hcs : ∀ c ∈ cs, c.right = true) : p = lineL ⟨a, n, v, cs⟩ := by
  have e0 := wordN_some (ws := ws) (k := 0) (by rw [h0]; decide)
  have e1 := wordN_some (ws := ws) (k := 1) (by rw [h1]; exact textN_ne machT_full _)
  have e2 := wordN_some (ws := ws) (k := 2) (by rw [h2]; exact textN_ne (callT_full _) _)
  have e3 := wordN_some (ws := ws) (k := 3) (by rw [h3]; exact act_ne hv)
  rw [List.drop_zero, h0] at e0
  rw [h1] at e1
  rw [h2] at e2
  rw [h3] at e3
  refine (lineL_words (x := ⟨a, n, v, cs⟩) (rl_right h4 hv hcs)).2 ?_
  rw [← hw, e0]
  show wOn :: ws.drop 1 = _
  rw [e1]
  show wOn :: _ :: ws.drop 2 = _
  rw [e2]
  show wOn :: _ :: _ :: ws.drop 3 = _
  rw [e3]
  show wOn :: _ :: _ :: _ :: ws.drop 4 = _
  rw [hc]
  rfl
theorem rule_no (hw : ws = Ip.cutAll 32 [] p) {x : Rl} (hx : x.right = true) (h : p = lineL x) : wordN ws 0 = wOn ∧ wordN ws 1 = bl (textN machT x.arch) ∧ wordN ws 2 = bl (textN (callT x.arch) x.nr) ∧ wordN ws 3 = bl (actB x.act) ∧ ws.drop 4 = condsW 0 x.conds := by
  have e := (lineL_words hx).1 h
  rw [← hw] at e
  rw [e]
  exact ⟨rfl, rfl, rfl, rfl, rfl⟩
theorem def_is (hw : ws = Ip.cutAll 32 [] p) {v : Nat} (h0 : wordN ws 0 = wDefault) (h1 : wordN ws 1 = bl (actB v)) (hv : (actT v).isSome = true) (h2 : ws.drop 2 = []) : p = lineD v := by
  have e0 := wordN_some (ws := ws) (k := 0) (by rw [h0]; decide)
  have e1 := wordN_some (ws := ws) (k := 1) (by rw [h1]; exact act_ne hv)
  rw [List.drop_zero, h0] at e0
  rw [h1] at e1
  refine lineD_words.2 ?_
  rw [← hw, e0]
  show wDefault :: ws.drop 1 = _
  rw [e1]
  show wDefault :: _ :: ws.drop 2 = _
  rw [h2]
  rfl
theorem def_no (hw : ws = Ip.cutAll 32 [] p) {v : Nat} (h : p = lineD v) : wordN ws 0 = wDefault ∧ wordN ws 1 = bl (actB v) ∧ ws.drop 2 = [] := by
  have e := lineD_words.1 h
  rw [← hw] at e
  rw [e]
  exact ⟨rfl, rfl, rfl⟩
end
end Go.Proofs.YtdjjmcblhpjchaaDoor
/-
  The document's line of a rule (package hurdleref10).
-/
namespace Go.Proofs.YtdjjmcblhpjchaaDoor
open Go.ChangeShapes Go.WideShapes Go.ChangeAt Go.RowKit
set_option maxRecDepth 20000

theorem join_app : ∀ (ws vs : List (List UInt8)), ws ≠ [] → Ip.join (ws ++ vs) = Ip.join ws ++ vs.flatMap (32 :: ·)
  | [], _, h => absurd rfl h
  | [x], vs, _ => by
    induction vs generalizing x with
    | nil => simp [Ip.join]
    | cons y l ih =>
      have e : Ip.join ([x] ++ y :: l) = x ++ 32 :: Ip.join ([y] ++ l) := rfl
      rw [e, ih y (by simp)]
      simp [Ip.join]
  | x :: y :: l, vs, _ => by
    have e : Ip.join (x :: y :: l ++ vs) = x ++ 32 :: Ip.join (y :: l ++ vs) := rfl
    have e2 : Ip.join (x :: y :: l) = x ++ 32 :: Ip.join (y :: l) := rfl
    rw [e, e2, join_app (y :: l) vs (by simp)]
    simp
def lineH (x : Rl) : List UInt8 := [111, 110, 32] ++ bl (textN machT x.arch) ++ [32] ++ bl (textN (callT x.arch) x.nr) ++ [32] ++ bl (actB x.act)
def condL (k : Nat) (c : Cd) : List UInt8 := (32 :: glue k ++ [32]) ++ textQ c
def condsL : Nat → List Cd → List UInt8
  | _, [] => []
  | k, c :: cs => condL k c ++ condsL (k + 1) cs
theorem condsL_eq : ∀ (k : Nat) (cs : List Cd), (condsW k cs).flatMap (32 :: ·) = condsL k cs
  | _, [] => rfl
  | k, c :: cs => by
    rw [condsW, List.flatMap_append, condsL_eq (k + 1) cs, condsL]
    simp [condW, condL, textQ]
theorem lineL_eq (x : Rl) : lineL x = lineH x ++ condsL 0 x.conds := by
  unfold lineL wordsR
  rw [join_app _ _ (by simp [headW]), condsL_eq]
  congr 1
  simp [headW, Ip.join, lineH, wOn]
/-- A line up to some conditions. -/
def lineJ (x : Rl) (j : Nat) : ByteArray := ⟨(lineH x ++ condsL 0 (x.conds.take j)).toArray⟩
def lineT (x : Rl) : ByteArray := ⟨(lineL x).toArray⟩
theorem lineJ_end (x : Rl) {j : Nat} (h : x.conds.length ≤ j) : lineJ x j = lineT x := by
  unfold lineJ lineT
  rw [List.take_of_length_le h, lineL_eq]
theorem mkT (l m : List UInt8) : (⟨l.toArray⟩ : ByteArray) ++ (⟨m.toArray⟩ : ByteArray) = ⟨(l ++ m).toArray⟩ := Wd.joined l m
/-! ### Sizes -/
def tblShort (T : Tbl) : Bool := T.all fun p => decide (p.1.size ≤ 18)
theorem textN_size {T : Tbl} (h : tblShort T = true) {n : Nat} (hn : n < 4294967296) : (textN T n).size ≤ 18 := by
  rcases textN_is T n with ⟨p, hp, _, e⟩ | ⟨_, e⟩
  · rw [e]
    unfold tblShort at h
    rw [List.all_eq_true] at h
    simpa using h p hp
  · rw [e]
    exact txt_lt18 (by omega)
theorem machT_short : tblShort machT = true := by decide
theorem callT_short (a : Nat) : tblShort (callT a) = true := by
  unfold callT
  split
  · decide
  split
  · decide
  split
  · decide
  split
  · decide
  rfl
theorem actS_size {v : Nat} (_hv : v < 4294967296) : (actS v).size ≤ 24 := by
  unfold actS
  cases h : actT v with
  | none => exact (by decide : (0 : Nat) ≤ 24)
  | some s =>
    show s.size ≤ 24
    rcases actT_some h with ⟨n, hn, _, rfl⟩ | ⟨_, rfl⟩ | ⟨_, rfl⟩ | ⟨_, rfl⟩ | ⟨_, rfl⟩
    · have := txt_lt18 (n := n) (by omega)
      rw [ByteArray.size_append]
      have e : berror.size = 6 := rfl
      omega
    all_goals decide
theorem textQ_size {c : Cd} (hc : c.ok) (hr : c.right = true) : (textT c).size ≤ 44 := by
  obtain ⟨a0, a5, k0, k5⟩ := (c.right_iff).1 hr
  have h1 := Wd.hex_len16 _ hc.1
  have h2 := Wd.hex_len16 _ hc.2
  have hl2 : (cmpW c.cmp).length = 2 := by rcases six k0 k5 with h | h | h | h | h | h <;> rw [h] <;> rfl
  have hla : (argW c.arg).length = 2 := rfl
  show (textQ c).length ≤ 44
  simp only [textQ, numT, List.length_append, List.length_cons, hl2, hla]
  omega
theorem condsL_size : ∀ (k : Nat) (cs : List Cd), (∀ c ∈ cs, c.ok ∧ c.right = true) → (condsL k cs).length ≤ 50 * cs.length
  | _, [], _ => by simp [condsL]
  | k, c :: cs, h => by
    have h1 := condsL_size (k + 1) cs fun d hd => h d (by simp [hd])
    have h2 : (textQ c).length ≤ 44 := textQ_size (h c (by simp)).1 (h c (by simp)).2
    have h3 : (glue k).length ≤ 3 := by unfold glue; split <;> decide
    simp only [condsL, condL, List.length_append, List.length_cons, List.length_nil]
    omega
theorem lineH_size {x : Rl} (hk : x.ok) : (lineH x).length ≤ 70 := by
  have h1 : (bl (textN machT x.arch)).length ≤ 18 := textN_size machT_short hk.1
  have h2 : (bl (textN (callT x.arch) x.nr)).length ≤ 18 := textN_size (callT_short _) hk.2.1
  have h3 : (bl (actB x.act)).length ≤ 24 := actS_size hk.2.2.1
  simp only [lineH, List.length_append, List.length_cons, List.length_nil]
  omega
theorem lineJ_size {x : Rl} (hk : x.ok) (hr : ∀ c ∈ x.conds, c.right = true) (h4 : x.conds.length ≤ 4) (j : Nat) : (lineJ x j).size ≤ 300 := by
  have h1 := lineH_size hk
  have h2 := condsL_size 0 (x.conds.take j) fun c hc => ⟨hk.2.2.2 c (List.mem_of_mem_take hc), hr c (List.mem_of_mem_take hc)⟩
  have h3 : (x.conds.take j).length ≤ 4 := by rw [List.length_take]; omega
  show (lineH x ++ condsL 0 (x.conds.take j)).length ≤ 300
  rw [List.length_append]
  omega
end Go.Proofs.YtdjjmcblhpjchaaDoor
/-
  The document's Read of a rule's line (package hurdleref10).
-/
namespace Go.Proofs.YtdjjmcblhpjchaaDoor
open Go.ChangeShapes Go.WideShapes Go.ChangeAt Go.RowKit
set_option maxRecDepth 20000

theorem infoCd : (Tryd.prog.info? 62).map (fun i => (i.zero, i.size, i.bytes)) = some (some (.agg #[.int .i64 0, .int .i64 0, .int .u64 0, .int .u64 0]), 4, 32) := by kernel_rfl
/-- A row of the call's own stays where another block is written. -/
theorem own_put {w w' : World} {g base : Nat} {o : Obj} {e : TypeId} {size : Nat} {v : Value} {n : Nat} {xs : List Value} (h : w.ownsRow base e size v n xs) (hp : RowPut w w' g o) (hg : g < base) : w'.ownsRow base e size v n xs := by
  obtain ⟨h1, h2⟩ := h
  refine ⟨h1, h2.imp id ?_⟩
  rintro ⟨k, cap, cur, hv, hk, hh, r⟩
  exact ⟨k, cap, cur, hv, hk, hp.keep (by omega) hh, r⟩
theorem rowPut_cell {w : World} {g : Nat} {old : Array Value} {t : TypeId} (hg : w.heap[g]? = some (.cells old t)) (i : Nat) (v : Value) : RowPut w (w.setCell ⟨g, i, none⟩ v) g (.cells (old.setIfInBounds i v) t) := by
  have h := rowPut_set hg (old.setIfInBounds i v)
  rwa [← setCell_eq_setRow w _ _ _ _ _ _ hg] at h
theorem RowPut.then {w w' w'' : World} {g : Nat} {o o' : Obj} (h : RowPut w w' g o) (h' : RowPut w' w'' g o') : RowPut w w'' g o' :=
  ⟨h'.os.trans h.os, h'.tape.trans h.tape, h'.output.trans h.output, h'.size.trans h.size, h'.row, fun k hk => (h'.rest k hk).trans (h.rest k hk)⟩
theorem put_four {w : World} {g : Nat} {x : Rl} {u : Value} (h : w.heap[g]? = some (rlB x u)) (a n v : Nat) (cs : List Cd) (cv : Value) :
    RowPut w ((((w.setCell ⟨g, 0, none⟩ (.int .u32 (a : Nat))).setCell ⟨g, 1, none⟩ (.int .u32 (n : Nat))).setCell ⟨g, 2, none⟩ cv).setCell ⟨g, 3, none⟩ (.int .u32 (v : Nat))) g (rlB ⟨a, n, v, cs⟩ cv) := by
  have h1 := rowPut_cell h 0 (.int .u32 (a : Nat))
  have h2 := rowPut_cell h1.row 1 (.int .u32 (n : Nat))
  have h3 := rowPut_cell h2.row 2 cv
  have h4 := rowPut_cell h3.row 3 (.int .u32 (v : Nat))
  exact ((h1.then h2).then h3).then h4
theorem qcells_snoc (cs : List Cd) (c : Cd) : qcells ((cs ++ [c]).map cdQ) = qcells (cs.map cdQ) ++ V4.cells (cdQ c) := by
  rw [List.map_append, qcells_app, List.map_singleton, qcells_one]
/-- What comes of a line. -/
def PReadEnd (l : List UInt8) (B : Nat) (w' : World) (e : Ending) : Prop :=
  (∃ x cv, readR l = some x ∧ w'.ownsRow B 62 4 cv x.conds.length (qcells (x.conds.map cdQ)) ∧ e = .returned (.tuple #[x.val cv, .bool true])) ∨ (readR l = none ∧ e = .returned (.tuple #[zeroRl.val (.slice none 0 0), .bool false]))
theorem preadNo {l : List UInt8} {B : Nat} {w' : World} (h : readR l = none) : PReadEnd l B w' (.returned (.tuple #[.agg #[.int .u32 0, .int .u32 0, .slice none 0 0, .int .u32 0], .bool false])) := .inr ⟨h, rfl⟩
end Go.Proofs.YtdjjmcblhpjchaaDoor
/-
  The document's Parse of a policy (package hurdleref10).
-/
namespace Go.Proofs.YtdjjmcblhpjchaaDoor
open Go.ChangeShapes Go.WideShapes Go.ChangeAt Go.RowKit
set_option maxRecDepth 20000

theorem results_cell_tmp2 {fn : Func} {p u v : Tmp} {ty : TypeId} (h : fn.results = #[.cell p ty, .tmp u, .tmp v]) (tmps : Array Value) (P : Program) (w : World) :
    (results fn tmps).run P w =
      ((asAddr (tmps.getD p undef)).run P w).andThen fun a w₁ => ((loadVar ty a).run P w₁).andThen fun x w₂ => .ok (.tuple #[x, tmps.getD u undef, tmps.getD v undef]) w₂ := by
  simp only [results, h]
  simp [Sem.run_bind, Result.andThen]
theorem infoRl : (Tryd.prog.info? 37).map (fun i => (i.zero, i.size, i.bytes)) = some (some (.agg #[.int .u32 0, .int .u32 0, .slice none 0 0, .int .u32 0]), 4, 40) := by kernel_rfl
/-- A row of the call's own stays where another one grows. -/
theorem own_keep {w w' : World} {base : Nat} {e : TypeId} {size : Nat} {u v : Value} {n : Nat} {xs : List Value} (h : w.ownsRow base e size v n xs) (hg : w.grownBy w' u.ownBlock) (hne : v.ownBlock = none ∨ v.ownBlock ≠ u.ownBlock) : w'.ownsRow base e size v n xs := by
  obtain ⟨h1, h2⟩ := h
  refine ⟨h1, h2.imp id ?_⟩
  rintro ⟨k, cap, cur, rfl, hk, hh, r⟩
  refine ⟨k, cap, cur, rfl, hk, (hg.block k (lt_of_block hh) (fun e => ?_)).trans hh, r⟩
  rcases hne with h | h
  · simp [Value.ownBlock] at h
  · exact h (by rw [← e]; simp [Value.ownBlock])
/-- Rules that lie in rows of the call's own. -/
structure LOwn (w : World) (B : Nat) (rv : Value) (l : List (Rl × Value)) : Prop where
  row : w.ownsRow B 37 4 rv l.length (qcells (l.map rlQ))
  conds : ∀ p ∈ l, w.ownsRow B 62 4 p.2 p.1.conds.length (qcells (p.1.conds.map cdQ))
theorem LOwn.nil (w : World) (B : Nat) : LOwn w B (.slice none 0 0) [] := ⟨World.ownsRow_nil _ _ _ _, by simp⟩
theorem LOwn.below {w w' : World} {B : Nat} {rv : Value} {l : List (Rl × Value)} (h : LOwn w B rv l) (hb : Below w.heap.size w w') : LOwn w' B rv l := ⟨own_below h.row hb, fun p hp => own_below (h.conds p hp) hb⟩
theorem LOwn.put {w w' : World} {B g : Nat} {o : Obj} {rv : Value} {l : List (Rl × Value)} (h : LOwn w B rv l) (hp : RowPut w w' g o) (hg : g < B) : LOwn w' B rv l := ⟨own_put h.row hp hg, fun p hq => own_put (h.conds p hq) hp hg⟩
theorem LOwn.at {w : World} {B : Nat} {rv : Value} {l : List (Rl × Value)} (h : LOwn w B rv l) : LAt w rv (l.map (·.1)) :=
  ⟨l, rfl, QAt.own h.row (by rw [List.length_map]), fun p hp => QAt.own (h.conds p hp) (by rw [List.length_map])⟩
theorem ne_types : 37 ≠ 62 := by decide
theorem LOwn.grow {w w' : World} {B : Nat} {rv rv' : Value} {l : List (Rl × Value)} {x : Rl} {cv : Value} (h : LOwn w B rv l) (hc : w.ownsRow B 62 4 cv x.conds.length (qcells (x.conds.map cdQ))) (hg : w.grownBy w' rv.ownBlock)
    (hr : w'.ownsRow B 37 4 rv' (l.length + 1) (qcells (l.map rlQ) ++ V4.cells (rlQ (x, cv)))) : LOwn w' B rv' (l ++ [(x, cv)]) := by
  refine ⟨?_, fun p hp => ?_⟩
  · rw [List.length_append, List.length_singleton, List.map_append, qcells_app, List.map_singleton, qcells_one]
    exact hr
  · rcases List.mem_append.1 hp with hp | hp
    · exact own_keep (h.conds p hp) hg (own_apart h.row (h.conds p hp) ne_types)
    · rw [List.mem_singleton.1 hp]
      exact own_keep hc hg (own_apart h.row hc ne_types)
/-- What comes of a text. -/
def PPEnd (l : List UInt8) (w' : World) (e : Ending) : Prop :=
  ∃ rv, LAt w' rv (polT l).1.rules ∧ e = .returned (.tuple #[poV rv (polT l).1.dflt, .int .i64 ((polT l).2.1 : Nat), .int .i64 ((polT l).2.2 : Nat)])
theorem ppEnd_bad {l : List UInt8} {w' : World} {i e : Nat} (h : polT l = (zeroPo, i, e)) : PPEnd l w' (.returned (.tuple #[.agg #[.slice none 0 0, .int .u32 0], .int .i64 (i : Nat), .int .i64 (e : Nat)])) := by
  refine ⟨.slice none 0 0, ?_, ?_⟩
  · rw [h]
    exact LAt.nil w'
  · rw [h]
    rfl
theorem ppEnd_good {l : List UInt8} {w' : World} {rs : List Rl} {d : Nat} {rv : Value} (h : polT l = (⟨rs, d⟩, 0, 0)) (hL : LAt w' rv rs) : PPEnd l w' (.returned (.tuple #[.agg #[rv, .int .u32 (d : Nat)], .int .i64 0, .int .i64 0])) := by
  refine ⟨rv, ?_, ?_⟩
  · rw [h]
    exact hL
  · rw [h]
    rfl
theorem put_pol {w : World} {g : Nat} {u : Value} {d : Nat} (h : w.heap[g]? = some (poB u d)) (rv : Value) (v : Nat) : RowPut w ((w.setCell ⟨g, 0, none⟩ rv).setCell ⟨g, 1, none⟩ (.int .u32 (v : Nat))) g (poB rv v) := by
  have h1 := rowPut_cell h 0 rv
  have h2 := rowPut_cell h1.row 1 (.int .u32 (v : Nat))
  exact h1.then h2
end Go.Proofs.YtdjjmcblhpjchaaDoor
/-
  Package policy: a reader's words: take, more, wordsOf; strings.Join of any texts.
-/
namespace Go.Proofs.YtdjjmcblhpjchaaDoor
open Go.ChangeShapes Go.WideShapes Go.ChangeAt Go.RowKit
set_option maxRecDepth 20000

/-- Below block B nothing else than block g has changed. -/
structure OwnAt (B : Nat) (w w' : World) (g : Nat) (o : Obj) : Prop where
  os : w'.os = w.os
  tape : w'.tape = w.tape
  output : w'.output = w.output
  size : w.heap.size ≤ w'.heap.size
  row : w'.heap[g]? = some o
  rest : ∀ k, k ≠ g → k < B → w'.heap[k]? = w.heap[k]?
section
variable {B g : Nat} {w w' w'' : World} {o o' : Obj}
theorem OwnAt.refl (h : w.heap[g]? = some o) : OwnAt B w w g o := ⟨rfl, rfl, rfl, Nat.le_refl _, h, fun _ _ _ => rfl⟩
theorem OwnAt.then {B' : Nat} (h : OwnAt B w w' g o) (hb : Below B' w' w'') (hB : B ≤ B') (hg : g < B') : OwnAt B w w'' g o :=
  ⟨hb.os.trans h.os, hb.tape.trans h.tape, hb.output.trans h.output, Nat.le_trans h.size hb.size, (hb.block g hg).trans h.row, fun k hk hkB => (hb.block k (by omega)).trans (h.rest k hk hkB)⟩
theorem OwnAt.next (h : OwnAt B w w' g o) (hb : Below w'.heap.size w' w'') (hB : B ≤ w.heap.size) : OwnAt B w w'' g o :=
  h.then hb (Nat.le_trans hB h.size) (lt_of_block h.row)
theorem OwnAt.put (h : OwnAt B w w' g o) (hp : RowPut w' w'' g o') : OwnAt B w w'' g o' :=
  ⟨hp.os.trans h.os, hp.tape.trans h.tape, hp.output.trans h.output, by rw [hp.size]; exact h.size, hp.row, fun k hk hkB => (hp.rest k hk).trans (h.rest k hk hkB)⟩
theorem OwnAt.trans {B' : Nat} (h : OwnAt B w w' g o) (h' : OwnAt B' w' w'' g o') (hB : B ≤ B') : OwnAt B w w'' g o' :=
  ⟨h'.os.trans h.os, h'.tape.trans h.tape, h'.output.trans h.output, Nat.le_trans h.size h'.size, h'.row, fun k hk hkB => (h'.rest k hk (by omega)).trans (h.rest k hk hkB)⟩
theorem OwnAt.below {a : World} {C : Nat} (h : OwnAt B w w' g o) (hb : Below C a w) (hC : C ≤ B) (hg : C ≤ g) : Below C a w' :=
  ⟨h.os.trans hb.os, h.tape.trans hb.tape, h.output.trans hb.output, Nat.le_trans hb.size h.size, fun k hk => (h.rest k (by omega) (by omega)).trans (hb.block k hk)⟩
theorem OwnAt.keep {k : Nat} {x : Obj} (h : OwnAt B w w' g o) (hk : k ≠ g) (hkB : k < B) (ho : w.heap[k]? = some x) : w'.heap[k]? = some x := (h.rest k hk hkB).trans ho
theorem OwnAt.own {base size n : Nat} {e : TypeId} {v : Value} {xs : List Value} (h : OwnAt B w w' g o) (hw : w.ownsRow base e size v n xs) (hg : g < base) (hB : w.heap.size ≤ B) : w'.ownsRow base e size v n xs := by
  obtain ⟨h1, h2⟩ := hw
  refine ⟨h1, h2.imp id ?_⟩
  rintro ⟨k, cap, cur, hv, hk, hh, r⟩
  exact ⟨k, cap, cur, hv, hk, h.keep (by omega) (Nat.lt_of_lt_of_le (lt_of_block hh) hB) hh, r⟩
theorem OwnAt.grown {base size n : Nat} {e : TypeId} {v : Value} {xs : List Value} (h : OwnAt B w w' g o) (hw : w'.ownsRow base e size v n xs) (hgr : w'.grownBy w'' v.ownBlock) (hB : B ≤ w'.heap.size) (hb : B ≤ base) (hg : g < base) : OwnAt B w w'' g o := by
  have hlt := hw.lt
  have hgs := lt_of_block h.row
  refine ⟨hgr.os.trans h.os, hgr.tape.trans h.tape, hgr.output.trans h.output, Nat.le_trans h.size hgr.size, (hgr.block g hgs (fun e => ?_)).trans h.row, fun k hk hkB => (hgr.block k (by omega) (fun e => ?_)).trans (h.rest k hk hkB)⟩
  · have := (hlt g e.symm).1
    omega
  · have := (hlt k e.symm).1
    omega
end
/-! ### strings.Join of the texts of a row of the call's own -/
theorem strJoin_own (base n : Nat) (v : Value) (xs : List (List UInt8)) (m : UInt8) (w : World) (hw : w.ownsRow base 9 1 v n (strs xs)) (hn : xs.length = n) (hN : n ≤ 140737488355328) (hlen : (Lib.join xs [m]).length ≤ 140737488355328) :
    Calls Tryd.prog 42 #[v, .string ⟨#[m]⟩] w fun e w' => e = .returned (.string (bsT (Lib.join xs [m]))) ∧ Below w.heap.size w w' := by
  subst hn
  rcases hw.2 with ⟨rfl, h0⟩ | ⟨g, cap, cur, rfl, _, hg, hc, _, _, ht⟩
  · obtain rfl := List.length_eq_zero_iff.1 h0
    go_enter Tryd.func42, Tryd.ntmps42
    go_wp2_with fail
    go_ret
    exact ⟨rfl, Below.refl _ _⟩
  · have hcell : ∀ i (h : i < xs.length), w.cell? ⟨g, i, none⟩ = some (.string ⟨xs[i].toArray⟩) := fun i hi => by
      rw [cell_in hg, ← Array.getElem?_toList]
      have hu : (strs xs)[i]? = some (.string ⟨xs[i].toArray⟩) := by simp [hi]
      rw [← ht, List.getElem?_take, if_pos (by omega)] at hu
      exact hu
    match xs, hcell, hN, hlen, hc with
    | [], _, _, _, _ =>
      go_enter Tryd.func42, Tryd.ntmps42
      go_wp2_with fail
      go_ret
      exact ⟨rfl, Below.refl _ _⟩
    | [x], hcell, _, _, _ =>
      have h0 : w.cell? ⟨g, 0, none⟩ = some (.string ⟨x.toArray⟩) := hcell 0 (by simp)
      have HE : Hid ((⟨x.toArray⟩ : ByteArray) = bsT (Lib.join [x] [m])) := Lib.hid (by rw [Lib.join_one])
      clear hcell
      generalize (⟨x.toArray⟩ : ByteArray) = X at *
      rw [← HE.out]
      go_enter Tryd.func42, Tryd.ntmps42
      go_wp2_with fail
      go_ret
      exact ⟨rfl, Below.refl _ _⟩
    | x :: y :: l, hcell, hN, hlen, hc =>
      refine strJoin_any g 0 cap (x :: y :: l) m w (fun j z hz => ?_) (lt_of_block hg) (by simp) hN hc hlen
      rw [Nat.zero_add]
      have hj := (List.getElem?_eq_some_iff.1 hz)
      obtain ⟨hj1, rfl⟩ := hj
      exact hcell j hj1
/-! ### A reader -/
abbrev rdB (l : List UInt8) : Obj := .cells #[.string (bsT l)] 90
theorem iter_below {w : World} {S : ByteArray} {pos : Nat} : Below w.heap.size w (w.iter S pos) := ba _ (Below.refl _ _)
theorem rest_head (p r : List UInt8) : (bsT (p ++ 32 :: r)).extract 0 p.length = bsT p ∧ (bsT (p ++ 32 :: r)).extract (p.length + 1) (bsT (p ++ 32 :: r)).size = bsT r := by
  constructor
  · rw [take_str]
    simp
  · rw [drop_str]
    show bsT ((p ++ 32 :: r).drop (p.length + 1)) = bsT r
    rw [← List.drop_drop, List.drop_left]
    rfl
theorem rest_at (p r : List UInt8) (hf : ∀ c ∈ p, c ≠ 32) (S : ByteArray) (hS : S = bsT (p ++ 32 :: r)) : S.size = p.length + 1 + r.length ∧ Utf8.decode S p.length = (32, 1) ∧ ∀ pos, pos < p.length → (Utf8.decode S pos).1 ≠ 32 ∧ 1 ≤ (Utf8.decode S pos).2 ∧ pos + (Utf8.decode S pos).2 ≤ p.length := by
  have hz : S.size = p.length + 1 + r.length := by
    rw [hS]
    show (p ++ 32 :: r).length = _
    simp
    omega
  have hb : ∀ (i : Nat) (h : i < S.size), S[i]'h = (p ++ 32 :: r)[i]'(by simp; omega) := by
    subst hS
    intro i h
    rfl
  have h32 : (S[p.length]'(by omega)).toNat = 32 := by
    rw [hb]
    simp
  refine ⟨hz, decode_32 S _ (by omega) h32, fun pos hp => ⟨?_, decode_pos S pos (by omega), decode_upto S pos p.length (by omega) hp h32⟩⟩
  refine decode_not S pos (by omega) fun e => ?_
  rw [hb, List.getElem_append_left hp] at e
  exact hf _ (List.getElem_mem hp) (UInt8.toNat_inj.1 e)
set_option maxHeartbeats 8000000 in
/-- The next words, as one text. -/
theorem take_any (g n : Nat) (ws : List (List UInt8)) (w : World) (hg : w.heap[g]? = some (rdB (restT ws))) (hf : freeW ws) (hz : (restT ws).length ≤ 100000) (hn : n ≤ 4) :
    Calls Tryd.prog 45 #[.pointer (some ⟨g, 0, none⟩), .int .i64 (n : Nat)] w fun e w' => e = .returned (.string (bsT (Ip.join (ws.take n)))) ∧ OwnAt w.heap.size w w' g (rdB (restT (ws.drop n))) := by
  obtain ⟨i0, hi, hz0, hz1, hz2⟩ := info_parts infoS
  have hglt := lt_of_block hg
  have HF := Lib.hid hf
  have HZ := Lib.hid hz
  have HO0 : Hid (w.ownsRow w.heap.size 9 1 (.slice none 0 0) 0 (strs (ws.take 0))) := Lib.hid (World.ownsRow_nil _ _ _ _)
  have HA0 : Hid (OwnAt w.heap.size w w g (rdB (restT (ws.drop 0)))) := Lib.hid (OwnAt.refl (by rw [List.drop_zero]; exact hg))
  have HJL : Hid (∀ j, (Lib.join (ws.take j) [32]).length ≤ 140737488355328) := Lib.hid fun j => by
    rw [join_lib]
    have := join_take_le ws j
    omega
  clear hf hg hz
  go_enter Tryd.func45, Tryd.ntmps45
  go_wp2_with fail
  go_step3
  go_wp2_with fail
  go_step3
  go_wp2_with fail
  go_loopg [5] (n + 1) (fun k v wr => ∃ j : Nat, j + k = n + 1 ∧ j ≤ n ∧ j ≤ ws.length ∧ Hid (wr.ownsRow w.heap.size 9 1 v j (strs (ws.take j))) ∧ Hid (OwnAt w.heap.size w wr g (rdB (restT (ws.drop j)))))
  case atStart => exact ⟨0, by omega, Nat.zero_le _, Nat.zero_le _, HO0, HA0⟩
  case round =>
    obtain ⟨j, hjk, hjn, hjl, HO, HA⟩ := hrel
    clear HO0 HA0
    have HJ : Hid (Calls Tryd.prog 42 #[u5, .string ⟨#[32]⟩] wr fun e w' => e = .returned (.string (bsT (Lib.join (ws.take j) [32]))) ∧ Below wr.heap.size wr w') :=
      Lib.hid (strJoin_own w.heap.size j u5 (ws.take j) 32 wr HO.out (by rw [List.length_take]; omega) (by omega) (HJL.out j))
    obtain ⟨ao, cap, rfl⟩ := own_shape HO.out
    have hws : w.heap.size ≤ wr.heap.size := HA.out.size
    by_cases hjlt : j < n
    case neg =>
      obtain rfl : j = n := by omega
      have hb : ¬ ((j : Int) < (j : Int)) := by omega
      go_wp2_with fail
      refine HJ.out.mono ?_
      rintro e w2 ⟨rfl, hb2⟩
      have HA2 := Lib.hid (HA.out.next hb2 (Nat.le_refl _))
      clear hb2
      go_wp2_with fail
      (try rw [Exit.noGoto_ret])
      go_ret
      exact ⟨by rw [join_lib]; rfl, HA2.out⟩
    have hlt : (j : Int) < (n : Int) := by omega
    cases hd : ws.drop j with
    | nil =>
      have hje : ws.length ≤ j := List.drop_eq_nil_iff.1 hd
      have HT : Hid (ws.take n = ws.take j) := Lib.hid (by rw [List.take_of_length_le hje, List.take_of_length_le (by omega)])
      have HD : Hid (ws.drop n = ws.drop j) := Lib.hid (by rw [List.drop_eq_nil_of_le hje, List.drop_eq_nil_of_le (by omega)])
      have c0 : wr.cell? ⟨g, 0, none⟩ = some (.string ⟨#[]⟩) := by
        rw [cell_in HA.out.row 0, hd]
        rfl
      clear hd hje
      go_wp2_with fail
      go_loopg [5] 0 (fun k v wv => v = .slice ao j cap ∧ wv = wr.iter ⟨#[]⟩ 0)
      case atStart => exact ⟨rfl, rfl⟩
      case round =>
        obtain ⟨rfl, rfl⟩ := hrel
        have hnx : ∀ ty, (Instr.next (.pointer (some ⟨wr.heap.size, 0, none⟩)) true ty).run Tryd.prog (wr.iter ⟨#[]⟩ 0) = _ := fun ty => run_next_end wr ⟨#[]⟩ 0 ty (by decide)
        have HJ2 : Hid (Calls Tryd.prog 42 #[.slice ao j cap, .string ⟨#[32]⟩] (wr.iter ⟨#[]⟩ 0) fun e w' => e = .returned (.string (bsT (Lib.join (ws.take j) [32]))) ∧ Below (wr.iter ⟨#[]⟩ 0).heap.size (wr.iter ⟨#[]⟩ 0) w') :=
          Lib.hid (strJoin_own w.heap.size j _ (ws.take j) 32 _ (own_below HO.out iter_below) (by rw [List.length_take]; omega) (by omega) (HJL.out j))
        have HA3 : Hid (OwnAt w.heap.size w (wr.iter ⟨#[]⟩ 0) g (rdB (restT (ws.drop j)))) := Lib.hid (HA.out.next iter_below (Nat.le_refl _))
        go_wp2_with fail
        refine HJ2.out.mono ?_
        rintro e w2 ⟨rfl, hb2⟩
        have HA2 := Lib.hid (HA3.out.next hb2 (Nat.le_refl _))
        clear hb2
        go_wp2_with fail
        (try rw [Exit.noGoto_ret])
        go_ret
        exact ⟨by rw [join_lib, HT.out]; rfl, by rw [HD.out]; exact HA2.out⟩
    | cons p l =>
      obtain ⟨htk, hdr⟩ := word_at hd
      have hpf : ∀ c ∈ p, c ≠ 32 := HF.out p (List.mem_of_mem_drop (i := j) (by rw [hd]; simp))
      have hlj : j < ws.length := by
        apply Nat.lt_of_not_le
        intro hle
        rw [List.drop_eq_nil_of_le hle] at hd
        cases hd
      obtain ⟨S, hSe⟩ : ∃ S : ByteArray, S = bsT (p ++ 32 :: restT l) := ⟨_, rfl⟩
      obtain ⟨hSz, hS1, hS2⟩ := rest_at p (restT l) hpf S hSe
      have c0 : wr.cell? ⟨g, 0, none⟩ = some (.string S) := by
        rw [cell_in HA.out.row 0, hd, restT_cons, hSe]
        rfl
      obtain ⟨he1, he2⟩ := rest_head p (restT l)
      rw [← hSe] at he1 he2
      have HN : Hid (∀ pos, pos < p.length → (Utf8.decode S pos).1 ≠ 32 ∧ 1 ≤ (Utf8.decode S pos).2 ∧ pos + (Utf8.decode S pos).2 ≤ p.length) := Lib.hid hS2
      have HP := Lib.hid hS1
      have HSE : Hid (bsT (restT (ws.drop j)) = S) := Lib.hid (by rw [hd, restT_cons, hSe])
      have HE1 := Lib.hid he1
      have HE2 := Lib.hid he2
      have HTK := Lib.hid htk
      have HDR := Lib.hid hdr
      have hzl : S.size ≤ 100001 := by
        have h1 := restT_drop_le ws j
        have h2 := HZ.out
        rw [hd, restT_cons, List.length_append, List.length_cons] at h1
        omega
      have hSz1 : p.length + 1 ≤ S.size := by omega
      clear hSe hS1 hS2 he1 he2 htk hdr hpf hd hSz
      go_wp2_with fail
      go_loopg [5] (p.length + 1) (fun k v wv => ∃ pos : Nat, pos ≤ p.length ∧ p.length + 1 ≤ k + pos ∧ v = .slice ao j cap ∧ wv = wr.iter S pos)
      case atStart => exact ⟨0, Nat.zero_le _, by omega, rfl, rfl⟩
      case round =>
        obtain ⟨pos, hp1, hp2, rfl, rfl⟩ := hrel
        by_cases hpl : pos < p.length
        · obtain ⟨hd1, hd2, hd3⟩ := HN.out pos hpl
          have hnx : ∀ ty, (Instr.next (.pointer (some ⟨wr.heap.size, 0, none⟩)) true ty).run Tryd.prog (wr.iter S pos) = _ := fun ty => run_next_any wr S pos ty (by omega)
          obtain ⟨D, hD⟩ : ∃ D, D = Utf8.decode S pos := ⟨_, rfl⟩
          rw [← hD] at hnx hd1 hd2 hd3
          obtain ⟨D1, D2⟩ := D
          simp only at hnx hd1 hd2 hd3
          have hne : ((D1 : Int) == 32) = false := by simp; omega
          clear hD
          go_wp2_with fail
          go_roundg (gk - 1)
          case measure => omega
          case rel => exact ⟨pos + D2, by omega, by omega, rfl, rfl⟩
        · obtain rfl : pos = p.length := by omega
          have hnx : ∀ ty, (Instr.next (.pointer (some ⟨wr.heap.size, 0, none⟩)) true ty).run Tryd.prog (wr.iter S p.length) = .ok (.tuple #[.bool true, .int .i64 p.length, .int .i32 32]) (wr.iter S (p.length + 1)) := fun ty => by
            rw [run_next_any wr S p.length ty (by omega), HP.out]
            rfl
          have hb1 : Below wr.heap.size wr (wr.iter S (p.length + 1)) := iter_below
          have HO1 := Lib.hid (own_below HO.out hb1)
          have HA1 := Lib.hid (HA.out.next hb1 (Nat.le_refl _))
          have c1 := (hb1.cell (p := ⟨g, _, none⟩) (lt_of_block HA.out.row)).trans c0
          have hs1 : w.heap.size ≤ (wr.iter S (p.length + 1)).heap.size := HA1.out.size
          have q1 : (p.length : Int) ≤ (S.size : Int) := by omega
          clear hb1
          go_upto_region 7 with fail
          obtain ⟨W1, hW1⟩ : ∃ V, V = wr.iter S (p.length + 1) := ⟨_, rfl⟩
          rw [← hW1] at HO1 HA1 c1 hs1 ⊢
          clear hW1 hnx
          go_wp2_with (at_builtin; refine wpList_append_own _ rfl _ _ 59 rfl w.heap.size 9 i0 (.string ⟨#[]⟩) 1 16 Tryd.underlying59 hi hz0 hz1 hz2 rfl (by decide) _ _ _ rfl (HO1.out.alloc _) ⟨W1.heap.size, 0, none⟩ 1 1 [.string (S.extract 0 p.length)] rfl rfl (new_at W1 #[.string (S.extract 0 p.length)] 9) (by simp [Value.oneCell']) (by unfold maxLen; omega) (by omega) (by rw [size_alloc]; omega) ?_)
          intro v2 w5 hown hgrow _
          have HA5 : Hid (OwnAt w.heap.size w w5 g (rdB (restT (ws.drop j)))) := Lib.hid ((HA1.out.next (ba _ (Below.refl _ _)) (Nat.le_refl _)).grown (HO1.out.alloc _) hgrow (by rw [size_alloc]; omega) (Nat.le_refl _) hglt)
          have HO5 : Hid (w5.ownsRow w.heap.size 9 1 v2 (j + 1) (strs (ws.take (j + 1)))) := Lib.hid (by
            rw [HTK.out]
            rw [HE1.out] at hown
            simpa using hown)
          have c5 : w5.cell? ⟨g, 0, none⟩ = some (.string S) := by
            rw [cell_in HA5.out.row 0, ← HSE.out]
            rfl
          have f5 := free_in HA5.out.row 0
          have HPUT : Hid (RowPut w5 (w5.setCell ⟨g, 0, none⟩ (.string (S.extract (p.length + 1) S.size))) g (rdB (restT (ws.drop (j + 1))))) := Lib.hid (by
            rw [HDR.out, HE2.out]
            exact rowPut_cell HA5.out.row 0 _)
          have q2 : (p.length : Int) + 1 ≤ (S.size : Int) := by omega
          obtain ⟨ao2, cap2, rfl⟩ := own_shape hown
          clear hown hgrow HO1 HA1 HO HA
          go_wp2_with fail
          have HO9 := Lib.hid (own_put HO5.out HPUT.out hglt)
          have HA9 := Lib.hid (HA5.out.put HPUT.out)
          go_roundg (n - j)
          case measure => omega
          case rel => exact ⟨j + 1, by omega, by omega, by omega, HO9, HA9⟩
end Go.Proofs.YtdjjmcblhpjchaaDoor
/-
  The document's Print of a policy (package hurdleref10).
-/
namespace Go.Proofs.YtdjjmcblhpjchaaDoor
open Go.ChangeShapes Go.WideShapes Go.ChangeAt Go.RowKit
set_option maxRecDepth 20000

/-- A policy's text. -/
def polB (p : Po) : ByteArray := ⟨(textP p).toArray⟩
/-- Its first rules' lines. -/
def linesJ (rs : List Rl) (j : Nat) : ByteArray := ⟨((rs.take j).flatMap (fun x => lineL x ++ [10])).toArray⟩
theorem linesJ_next (rs : List Rl) {j : Nat} (h : j < rs.length) : (linesJ rs j ++ lineT rs[j]) ++ ⟨#[10]⟩ = linesJ rs (j + 1) := by
  unfold linesJ lineT
  rw [mkT, mkT, List.take_succ_eq_append_getElem h, List.flatMap_append]
  simp
theorem lineT_size {x : Rl} (hk : x.ok) (hr : x.right = true) : (lineT x).size ≤ 300 := by
  obtain ⟨h1, _, h3⟩ := right_conds hr
  rw [← lineJ_end x (Nat.le_refl _)]
  exact lineJ_size hk h3 h1 _
theorem linesJ_size {rs : List Rl} (hk : ∀ x ∈ rs, x.ok ∧ x.right = true) : ∀ j, (linesJ rs j).size ≤ 301 * j
  | 0 => by unfold linesJ; simp [ByteArray.size]
  | j + 1 => by
    by_cases h : j < rs.length
    · have h1 := linesJ_size hk j
      have h2 := lineT_size (hk _ (List.getElem_mem h)).1 (hk _ (List.getElem_mem h)).2
      have e := congrArg ByteArray.size (linesJ_next rs h)
      rw [ByteArray.size_append, ByteArray.size_append] at e
      have e1 : (⟨#[10]⟩ : ByteArray).size = 1 := rfl
      omega
    · have h1 := linesJ_size hk j
      have e : linesJ rs (j + 1) = linesJ rs j := by unfold linesJ; rw [List.take_of_length_le (by omega), List.take_of_length_le (by omega)]
      rw [e]
      omega
theorem linesJ_64 {rs : List Rl} (hk : ∀ x ∈ rs, x.ok ∧ x.right = true) (h : rs.length ≤ 64) (j : Nat) : (linesJ rs j).size ≤ 20000 := by
  by_cases hj : j ≤ 64
  · have := linesJ_size hk j
    omega
  · have e : linesJ rs j = linesJ rs 64 := by unfold linesJ; rw [List.take_of_length_le (by omega), List.take_of_length_le (by omega)]
    have := linesJ_size hk 64
    rw [e]
    omega
end Go.Proofs.YtdjjmcblhpjchaaDoor
