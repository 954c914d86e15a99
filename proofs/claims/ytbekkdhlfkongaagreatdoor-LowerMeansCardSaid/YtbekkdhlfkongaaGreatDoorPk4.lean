/-
  What the laws' texts use, joined.
-/
import Derived.Test.YtbekkdhlfkongaaGreatDoorProg
import Derived.WalkKit
import Derived.ProofKit
import Derived.Lib.Hide
import Derived.Laws.Rows
import Derived.Laws.ResultCell
import Derived.Laws.Entries
import Derived.Handy
import Derived.OwnWalk
import Derived.Laws.OwnMore
import Derived.Deep.Draws
import Derived.Laws.IdiomStrings
import Derived.Lib.BufferRead
import Derived.Maps.OwnSet
import Derived.Laws.BitsAllLaws
import Derived.RowKit
import Derived.Lib.QuietBelow
import Derived.Lib.OthersKept
import Derived.BigQuiet
import Derived.BigRegion
import Derived.Deep.RegionHeld3
import Derived.Shelf.Strings.Builder1
import Derived.Shelf.Strings.Search1
import Derived.Lib.IndexLaws
import Derived.IntWalk
import Derived.Laws.Tables
import Derived.Deep.DeepCutAuto
import Derived.Deep.QuietTactic
import Derived.Test.YtbekkdhlfkongaaGreatDoorRows
import Derived.OpenShut
import Derived.Carry
import Derived.Deep.DeepHandedRow
import Derived.Lib.SmallJoins
import Derived.WalkMore
import Derived.Lib.AppendZerosOnto
import Derived.Lib.SliceRun
import Derived.Test.YtbekkdhlfkongaaGreatDoorPk1
import Derived.Test.YtbekkdhlfkongaaGreatDoorPk2
import Derived.Test.YtbekkdhlfkongaaGreatDoorPk3
/-
  A list of instructions that was just laid; its shape.
-/
namespace Go.Proofs.YtbekkdhlfkongaaGreatDoor
open Go.ChangeShapes Go.WideShapes Go.ChangeAt Go.RowKit
set_option maxRecDepth 20000

/-- A list of instructions, and of bytes, that was just laid. -/
theorem FAt.lit (w : World) (l : List X4) (t : TypeId) (cap : Nat) : FAt (w.alloc (.cells (fcells l).toArray t)) (.slice (some ⟨w.heap.size, 0, none⟩) l.length cap) l :=
  FAt.of_cells (fun _ => by rw [size_alloc]; omega) fun i u hu => by
    rw [Nat.zero_add, cell_in (heap_alloc_new w (.cells (fcells l).toArray t)) i]
    simpa using hu
theorem FAt.shape {w : World} {v : Value} {l : List X4} (h : FAt w v l) : ∃ ao cap, v = .slice ao l.length cap := by
  obtain ⟨ao, cap, rfl, _⟩ := h
  exact ⟨ao, cap, rfl⟩
end Go.Proofs.YtbekkdhlfkongaaGreatDoor

/-
  What codec.put answers: the row with so many bytes more.
-/
namespace Go.Proofs.YtbekkdhlfkongaaGreatDoor
open Go.ChangeShapes Go.WideShapes Go.ChangeAt Go.RowKit
set_option maxRecDepth 20000

theorem kept_append {w wr w2 : World} {base n : Nat} {v : Value} {xs : List Value} {x : Value} (hk : Lib.OthersKept 5 none w wr) (hown : wr.ownsRow base 5 1 v n xs) (hg : (wr.alloc (.cells #[x] 5)).grownBy w2 v.ownBlock) : Lib.OthersKept 5 none w w2 := by
  refine (hk.alloc _).grown hg fun g hgg => ?_
  rcases hown.2 with ⟨rfl, _⟩ | ⟨g', cap, cur, rfl, _, hh, _⟩
  · simp [Value.ownBlock] at hgg
  · simp [Value.ownBlock] at hgg
    subst hgg
    exact ⟨cur, (0, 0), (Below.heap_alloc _ _ _ (lt_of_block hh)).trans hh⟩

set_option maxHeartbeats 1000000 in
theorem put_any (N sz : Nat) (hsz : sz ≤ 4) (base n : Nat) (v : Value) (bs : List UInt8) (w : World) (hown : w.ownsRow base 5 1 v n (bcells bs)) (hn : n ≤ 1000000) (hbase : base ≤ w.heap.size) :
    Calls Tryz.prog 41 #[v, .int .u32 N, .int .i64 sz] w fun e w' => ∃ v', e = .returned v' ∧ w'.ownsRow base 5 1 v' (n + sz) (bcells (bs ++ lowBytes N sz)) ∧ Below base w w' ∧ Lib.OthersKept 5 none w w' := by
  obtain ⟨i0, hi, hz0, hz1, hz2⟩ := info_parts info8
  have HO := Lib.hid hown
  clear hown
  go_enter Tryz.func41, Tryz.ntmps41
  go_wp2_with fail
  go_loopw [0, 9] (fun u i wr => ∃ k : Nat, k ≤ sz ∧ i = .int .i64 k ∧ wr.ownsRow base 5 1 u (n + k) (bcells (bs ++ lowBytes N k)) ∧ Below base w wr ∧ Lib.OthersKept 5 none w wr) (fun _ i _ => sz - (intOf i).toNat)
  case atStart => exact ⟨0, by omega, rfl, by simpa [lowBytes] using HO.out, Below.refl _ _, Lib.OthersKept.refl _ _ _⟩
  case round =>
    obtain ⟨k, hk, rfl, hO1, hB1, hK1⟩ := hrel
    have HO1 := Lib.hid hO1
    have HB1 := Lib.hid hB1
    have HK1 := Lib.hid hK1
    have hbw := Nat.le_trans hbase hB1.size
    clear hO1 hB1 hK1 HO
    by_cases hlt : k < sz
    · go_wp2_with (at_builtin; refine wpList_append_own _ rfl _ _ 48 rfl base 5 i0 (.int .u8 0) 1 1 Tryz.underlying48 hi hz0 hz1 hz2 rfl (by decide) _ _ _ rfl (HO1.out.alloc _) ⟨wr.heap.size, 0, none⟩ 1 1 [.int .u8 ((N : Int) / 2 ^ (8 * k) % 256)] rfl rfl (new_at wr #[.int .u8 ((N : Int) / 2 ^ (8 * k) % 256)] 5) (by simp [Value.oneCell']) (by unfold maxLen; omega) (by omega) (by rw [size_alloc]; omega) ?_)
      intro v2 w2 hown2 hgrow2 _
      have hB2 := (HB1.out.alloc hbw (.cells #[.int .u8 ((N : Int) / 2 ^ (8 * k) % 256)] 5)).grown hgrow2 (by rw [size_alloc]; omega) (fun g hg => (HO1.out.lt g hg).1)
      have hK2 := kept_append HK1.out HO1.out hgrow2
      have HO2 : Hid (w2.ownsRow base 5 1 v2 (n + (k + 1)) (bcells (bs ++ lowBytes N (k + 1)))) := Lib.hid (by
        rw [lowBytes_succ, ← List.append_assoc, bcells_app, bcells_last]
        rw [Nat.add_assoc] at hown2
        simpa [List.append_assoc] using hown2)
      have HB2 := Lib.hid hB2
      have HK2 := Lib.hid hK2
      clear hgrow2 hown2 hB2 hK2
      go_wp2_with fail
      go_roundw
      case rel => exact ⟨k + 1, by omega, by go_num, HO2.out, HB2.out, HK2.out⟩
      case measure => simp [intOf]; omega
    · obtain rfl : k = sz := by omega
      go_wp2_with fail
      go_ret
      exact ⟨_, rfl, HO1.out, HB1.out, HK1.out⟩
theorem put1 (N : Nat) (base n : Nat) (v : Value) (bs : List UInt8) (w : World) (hown : w.ownsRow base 5 1 v n (bcells bs)) (hn : n ≤ 1000000) (hbase : base ≤ w.heap.size) :
    Calls Tryz.prog 41 #[v, .int .u32 N, .int .i64 1] w fun e w' => ∃ v', e = .returned v' ∧ w'.ownsRow base 5 1 v' (n + 1) (bcells (bs ++ lowBytes N 1)) ∧ Below base w w' ∧ Lib.OthersKept 5 none w w' := put_any N 1 (by omega) base n v bs w hown hn hbase
theorem put2 (N : Nat) (base n : Nat) (v : Value) (bs : List UInt8) (w : World) (hown : w.ownsRow base 5 1 v n (bcells bs)) (hn : n ≤ 1000000) (hbase : base ≤ w.heap.size) :
    Calls Tryz.prog 41 #[v, .int .u32 N, .int .i64 2] w fun e w' => ∃ v', e = .returned v' ∧ w'.ownsRow base 5 1 v' (n + 2) (bcells (bs ++ lowBytes N 2)) ∧ Below base w w' ∧ Lib.OthersKept 5 none w w' := put_any N 2 (by omega) base n v bs w hown hn hbase
theorem put4 (N : Nat) (base n : Nat) (v : Value) (bs : List UInt8) (w : World) (hown : w.ownsRow base 5 1 v n (bcells bs)) (hn : n ≤ 1000000) (hbase : base ≤ w.heap.size) :
    Calls Tryz.prog 41 #[v, .int .u32 N, .int .i64 4] w fun e w' => ∃ v', e = .returned v' ∧ w'.ownsRow base 5 1 v' (n + 4) (bcells (bs ++ lowBytes N 4)) ∧ Below base w w' ∧ Lib.OthersKept 5 none w w' := put_any N 4 (by omega) base n v bs w hown hn hbase
end Go.Proofs.YtbekkdhlfkongaaGreatDoor

/-
  append(own, src...) where src is any filter, or any bytes, that lie in the world (nil among them).
-/
namespace Go.Proofs.YtbekkdhlfkongaaGreatDoor
open Go.ChangeShapes Go.WideShapes Go.ChangeAt Go.RowKit

theorem FAt.src {w : World} {v : Value} {l : List X4} (h : FAt w v l) : SrcAt w 4 v l.length (fcells l) := by
  obtain ⟨ao, cap, rfl, h⟩ := h
  refine ⟨ao, cap, rfl, fcells_len l, fun h0 => ?_, fun ad had j u hu => ?_⟩
  · rcases h with rfl | ⟨b, off, rfl, _⟩
    · rfl
    · cases h0
  · rcases h with rfl | ⟨b, off, rfl, _, hc⟩
    · simp [fcells] at hu
    · cases had
      have hj : j < l.length * 4 := by rw [← fcells_len]; exact (List.getElem?_eq_some_iff.1 hu).1
      have hd : j / 4 < l.length := by omega
      have e : j = j / 4 * 4 + j % 4 := by omega
      have h4 := fcells_at l (j / 4) hd (j % 4) (by omega)
      rw [← e, hu] at h4
      obtain ⟨c0, c1, c2, c3⟩ := hc (j / 4) hd
      have hm : j % 4 < 4 := by omega
      rw [add_plain]
      generalize hr : j % 4 = r at *
      match r, hm with
      | 0, _ => rw [show off + j = off + j / 4 * 4 by omega, c0]; simpa using h4.symm
      | 1, _ => rw [show off + j = off + j / 4 * 4 + 1 by omega, c1]; simpa using h4.symm
      | 2, _ => rw [show off + j = off + j / 4 * 4 + 2 by omega, c2]; simpa using h4.symm
      | 3, _ => rw [show off + j = off + j / 4 * 4 + 3 by omega, c3]; simpa using h4.symm
end Go.Proofs.YtbekkdhlfkongaaGreatDoor

/-
  What codec.fault answers, for any filter that lies in a world.
-/
namespace Go.Proofs.YtbekkdhlfkongaaGreatDoor
open Go.ChangeShapes Go.WideShapes Go.ChangeAt Go.RowKit
set_option maxRecDepth 20000

set_option maxHeartbeats 1000000 in
theorem fault_any (v : Value) (l : List X4) (w : World) (hF : FAt w v l) (ht : OTab w) :
    Calls Tryz.prog 40 #[v] w fun e w' => e = .returned (.int .i64 (ferr l)) ∧ Below w.heap.size w w' := by
  obtain ⟨ao, cap, rfl, hF⟩ := hF
  by_cases hbig : 4096 < l.length
  · have HE := Lib.hid (ferr_full hbig)
    go_enter Tryz.func40, Tryz.ntmps40
    go_wp2_with fail
    go_ret
    exact ⟨retI HE.out, Below.refl _ _⟩
  · have HF := Lib.hid hF
    clear hF
    go_enter Tryz.func40, Tryz.ntmps40
    go_wp2_with fail
    go_loopw [10] (fun i wr => ∃ n : Nat, n ≤ l.length ∧ i = .int .i64 n ∧ Below w.heap.size w wr ∧ (l.take n).all X4.right = true) (fun i _ => l.length - (intOf i).toNat)
    case atStart => exact ⟨0, by omega, rfl, Below.refl _ _, by simp⟩
    case round =>
      obtain ⟨n, hn, rfl, hB, hall⟩ := hrel
      have HB := Lib.hid hB
      have HA := Lib.hid hall
      by_cases hlt : n < l.length
      · rcases HF.out with h0 | ⟨b, off, rfl, hb, hc⟩
        · rw [h0] at hlt; simp at hlt
        obtain ⟨c0, c1, c2, c3⟩ := hc n hlt
        have d0 := (hB.cell (p := ⟨b, _, none⟩) hb).trans c0
        have d1 := (hB.cell (p := ⟨b, _, none⟩) hb).trans c1
        have d2 := (hB.cell (p := ⟨b, _, none⟩) hb).trans c2
        have d3 := (hB.cell (p := ⟨b, _, none⟩) hb).trans c3
        clear hc c0 c1 c2 c3 hB hall HF
        go_wp2_with fail
        have hB2 := ba (insB l[n].op l[n].jt l[n].jf l[n].k) HB.out
        refine (right_any l[n].op l[n].jt l[n].jf l[n].k _ (ht.below hB2)).mono ?_
        rintro e w1 ⟨rfl, hb1⟩
        have HB1 := Lib.hid (hB2.trans (hb1.mono hB2.size))
        clear hB2 hb1 d0 d1 d2 d3
        cases hr : right l[n].op l[n].jt l[n].jf l[n].k
        · have HE := Lib.hid (ferr_bad (by omega) hlt hr)
          go_wp2_with fail
          go_ret
          exact ⟨retI HE.out, HB1.out⟩
        · have HN := Lib.hid (all_take_succ hlt HA.out hr)
          go_wp2_with fail
          go_roundw
          case rel => exact ⟨n + 1, by omega, by go_num, HB1.out, HN.out⟩
          case measure => simp [intOf]; omega
      · have HE := Lib.hid (ferr_good (by omega) (show n = l.length by omega) hall)
        clear hB hall
        go_wp2_with fail
        go_ret
        exact ⟨retI HE.out, HB.out⟩
end Go.Proofs.YtbekkdhlfkongaaGreatDoor
/-
  What operation.read answers: its walk.
-/
namespace Go.Proofs.YtbekkdhlfkongaaGreatDoor
open Go.ChangeShapes Go.WideShapes Go.ChangeAt Go.RowKit
set_option maxRecDepth 20000

abbrev zIns : Obj := .cells #[.int .i64 0, .int .i64 0, .int .i64 0, .int .u32 0] 64
end Go.Proofs.YtbekkdhlfkongaaGreatDoor
/-
  What ins.Print answers, for any instruction, in every world that has the tables: its text, or the empty text and ErrArg.
-/
namespace Go.Proofs.YtbekkdhlfkongaaGreatDoor
open Go.ChangeShapes Go.WideShapes Go.ChangeAt Go.RowKit
set_option maxRecDepth 20000

/-- A block of three cells. -/
abbrev opB (r : Ip.Row) : Obj := .cells #[.int .i64 r.op, .string r.str, .int .i64 r.fmt] 127

end Go.Proofs.YtbekkdhlfkongaaGreatDoor
/-
  What Print and Parse answer at one another's texts; and at the texts of the examples.
-/
namespace Go.Proofs.YtbekkdhlfkongaaGreatDoor
open Go.ChangeShapes Go.WideShapes Go.ChangeAt Go.RowKit
set_option maxRecDepth 20000

end Go.Proofs.YtbekkdhlfkongaaGreatDoor

/-
  Right instructions and their texts: what Print and Parse answer, said over the rows of the table.
-/
namespace Go.Proofs.YtbekkdhlfkongaaGreatDoor
open Go.ChangeShapes Go.WideShapes Go.ChangeAt Go.RowKit

theorem right_row {op jt jf k : Int} (h : right op jt jf k = true) (hk0 : 0 ≤ k) (hk : k ≤ 4294967295) : ∃ (r : Ip.Row) (a b c : Nat), r ∈ Ip.rows ∧ op = r.op ∧ jt = a ∧ jf = b ∧ k = c ∧ Ip.Fine r.fmt a b c := by
  unfold right at h
  cases hr : Ip.byOp op with
  | none => rw [hr] at h; cases h
  | some r =>
    rw [hr] at h
    have hf : Ip.fits r.fmt jt jf k = true := by simpa using h
    obtain ⟨hm, ho⟩ := Ip.byOp_op hr
    have hj : 0 ≤ jt ∧ 0 ≤ jf := by
      cases hJ : Ip.hasJ r.fmt
      · unfold Ip.fits at hf
        rw [hJ] at hf
        simp at hf
        omega
      · have := Ip.fits_J hf hJ
        omega
    obtain ⟨a, rfl⟩ := Int.eq_ofNat_of_zero_le hj.1
    obtain ⟨b, rfl⟩ := Int.eq_ofNat_of_zero_le hj.2
    obtain ⟨c, rfl⟩ := Int.eq_ofNat_of_zero_le hk0
    exact ⟨r, a, b, c, hm, ho.symm, rfl, rfl, rfl, hf, by omega⟩
theorem fine_bd {f : Int} {a b c : Nat} (h : Ip.Fine f a b c) : a ≤ 255 ∧ b ≤ 255 := by
  cases hJ : Ip.hasJ f
  · have := Ip.fine_J h hJ
    omega
  · have := Ip.fits_J h.1 hJ
    omega
end Go.Proofs.YtbekkdhlfkongaaGreatDoor
/-
  What codec.Encode answers, for any filter that lies in a world.
-/
namespace Go.Proofs.YtbekkdhlfkongaaGreatDoor
open Go.ChangeShapes Go.WideShapes Go.ChangeAt Go.RowKit
set_option maxRecDepth 20000

/-- The bytes of an instruction, and of a filter. -/
def encX (x : X4) : List UInt8 := lowBytes x.op.toNat 2 ++ lowBytes x.jt.toNat 1 ++ lowBytes x.jf.toNat 1 ++ lowBytes x.k.toNat 4
def encL (l : List X4) : List UInt8 := if ferr l = 0 then l.flatMap encX else []
theorem encX_len (x : X4) : (encX x).length = 8 := by simp [encX, lowBytes_len]
theorem enc_len (l : List X4) : (l.flatMap encX).length = 8 * l.length := by
  induction l with
  | nil => rfl
  | cons x l ih => rw [List.flatMap_cons, List.length_append, encX_len, ih, List.length_cons]; omega
theorem enc_snoc {l : List X4} {n : Nat} (h : n < l.length) : (l.take (n + 1)).flatMap encX = (l.take n).flatMap encX ++ encX l[n] := by
  rw [List.take_succ_eq_append_getElem h, List.flatMap_append]
  simp
theorem ferr_zero {l : List X4} (h : ferr l = 0) : l.length ≤ 4096 ∧ l.all X4.right = true := by
  unfold ferr at h
  by_cases h1 : 4096 < l.length
  · rw [if_pos h1] at h; cases h
  · rw [if_neg h1] at h
    by_cases h2 : l.all X4.right = true
    · exact ⟨by omega, h2⟩
    · rw [if_neg h2] at h; cases h
theorem ferr_of {l : List X4} (h1 : l.length ≤ 4096) (h2 : l.all X4.right = true) : ferr l = 0 := by
  unfold ferr
  rw [if_neg (by omega), if_pos h2]
theorem encL_ok {l : List X4} (h : ferr l = 0) : encL l = l.flatMap encX := by unfold encL; rw [if_pos h]
theorem encL_bad {l : List X4} (h : ferr l ≠ 0) : encL l = [] := by unfold encL; rw [if_neg h]
/-- A right instruction's four numbers. -/
theorem right_nats {x : X4} (h : x.right = true) (hk : x.ok) : ∃ o a b c : Nat, x = ⟨o, a, b, c⟩ ∧ o ≤ 172 ∧ a ≤ 255 ∧ b ≤ 255 ∧ c ≤ 4294967295 := by
  obtain ⟨op, jt, jf, k⟩ := x
  obtain ⟨r, a, b, c, hr, rfl, rfl, rfl, rfl, hf⟩ := right_row h hk.1 hk.2
  have h1 := Ip.row_bd r hr
  have h2 := fine_bd hf
  refine ⟨r.op.toNat, a, b, c, ?_, by omega, h2.1, h2.2, hf.2⟩
  rw [Int.toNat_of_nonneg h1.1]
def EncEnd (l : List X4) (w : World) (e : Ending) (w' : World) : Prop := ∃ u, e = .returned (.tuple #[u, .int .i64 (ferr l)]) ∧ BAt w' u (encL l) ∧ Below w.heap.size w w'
theorem encEnd {l : List X4} {w w' : World} {u : Value} {n : Int} (hn : ferr l = n) (hF : BAt w' u (encL l)) (hB : Below w.heap.size w w') : EncEnd l w (.returned (.tuple #[u, .int .i64 n])) w' := ⟨u, by rw [hn], hF, hB⟩
theorem insB_other (op jt jf k : Int) : ∀ c fz, insB op jt jf k ≠ .cells c 5 fz := by
  intro c fz h
  injection h with _ h2
  revert h2
  decide

set_option maxHeartbeats 2000000 in
theorem encode_any (v : Value) (l : List X4) (w : World) (hF : FAt w v l) (hk : ∀ x ∈ l, x.ok) (ht : OTab w) :
    Calls Tryz.prog 17 #[v] w (EncEnd l w) := by
  obtain ⟨i0, hi, hz0, hz1, hz2⟩ := info_parts info8
  have HF := Lib.hid hF
  have HK := Lib.hid hk
  obtain ⟨ao, cap, rfl, hF2⟩ := hF
  have HF2 := Lib.hid hF2
  clear hF2 hk
  go_enter Tryz.func17, Tryz.ntmps17
  go_wp2_with fail
  refine (fault_any _ l w HF.out ht).mono ?_
  rintro e w1 ⟨rfl, hb1⟩
  have HB1 := Lib.hid hb1
  have hs1 := hb1.size
  clear hb1
  by_cases he : ferr l = 0
  · have HE := Lib.hid he
    have hl := (ferr_zero he).1
    rw [he]
    clear he
    go_wp2_with (at_make; refine wpList_make_own _ rfl _ _ 48 rfl w.heap.size 5 i0 (.int .u8 0) 1 Tryz.underlying48 hi hz0 hz1 .i64 .i64 _ (8 * l.length) rfl rfl (by omega) (by rw [hz2]; omega) (by unfold maxLen; omega) hs1 ?_)
    intro w2 hown2 hgrow2
    have hB2 := HB1.out.grown hgrow2 hs1 (by simp)
    have HO2 := Lib.hid hown2
    have HB2 := Lib.hid hB2
    clear hown2 hgrow2 hB2
    go_wp2_with fail
    go_loopw [5, 19] (fun u i wr => ∃ n : Nat, n ≤ l.length ∧ i = .int .i64 n ∧ wr.ownsRow w.heap.size 5 1 u (8 * n) (bcells ((l.take n).flatMap encX)) ∧ Below w.heap.size w wr) (fun _ i _ => l.length - (intOf i).toNat)
    case atStart => exact ⟨0, by omega, rfl, by simpa using HO2.out, HB2.out⟩
    case round =>
      obtain ⟨n, hn, rfl, hO, hB⟩ := hrel
      have HO := Lib.hid hO
      have HB := Lib.hid hB
      have hsr := hB.size
      clear hO HO2 HB2
      by_cases hlt : n < l.length
      · rcases HF2.out with h0 | ⟨b, off, rfl, hb, hc⟩
        · rw [h0] at hlt; simp at hlt
        obtain ⟨c0, c1, c2, c3⟩ := hc n hlt
        have d0 := (hB.cell (p := ⟨b, _, none⟩) hb).trans c0
        have d1 := (hB.cell (p := ⟨b, _, none⟩) hb).trans c1
        have d2 := (hB.cell (p := ⟨b, _, none⟩) hb).trans c2
        have d3 := (hB.cell (p := ⟨b, _, none⟩) hb).trans c3
        have hra := (ferr_zero HE.out).2
        rw [List.all_eq_true] at hra
        obtain ⟨o, a, b', c, hx, ho, ha, hb', hc'⟩ := right_nats (hra _ (List.getElem_mem hlt)) (HK.out _ (List.getElem_mem hlt))
        have HN : Hid ((l.take (n + 1)).flatMap encX = (l.take n).flatMap encX ++ (lowBytes o 2 ++ lowBytes a 1 ++ lowBytes b' 1 ++ lowBytes c 4)) := Lib.hid (by rw [enc_snoc hlt, hx]; rfl)
        rw [hx] at d0 d1 d2 d3
        simp only at d0 d1 d2 d3
        have HX : Hid ((wr.alloc (insB o a b' c)).heap[wr.heap.size]? = some (insB o a b' c)) := Lib.hid (heap_alloc_new _ _)
        have HB3 := Lib.hid (hB.alloc hsr (insB o a b' c))
        have HO3 := Lib.hid (HO.out.alloc (insB o a b' c))
        clear hc c0 c1 c2 c3 hB hra hx HB HO
        go_wp2_with fail
        refine (put2 o w.heap.size _ _ _ _ HO3.out (by omega) HB3.out.size).mono ?_
        rintro e w4 ⟨u4, rfl, hO4, hB4, hK4⟩
        have hX4 := hK4 _ _ HX.out (by simp) (insB_other _ _ _ _)
        have HO4 := Lib.hid hO4
        have HB4 := Lib.hid (HB3.out.trans hB4)
        have x1 : w4.cell? ⟨wr.heap.size, 1, none⟩ = some (.int .i64 a) := cell_in hX4 1
        have HX4 := Lib.hid hX4
        clear hO4 hB4 hK4 hX4 HX HO3 HB3 d0 d1 d2 d3
        go_wp2_with fail
        refine (put1 a w.heap.size _ _ _ _ HO4.out (by omega) HB4.out.size).mono ?_
        rintro e w5 ⟨u5, rfl, hO5, hB5, hK5⟩
        have hX5 := hK5 _ _ HX4.out (by simp) (insB_other _ _ _ _)
        have HO5 := Lib.hid hO5
        have HB5 := Lib.hid (HB4.out.trans hB5)
        have x2 : w5.cell? ⟨wr.heap.size, 2, none⟩ = some (.int .i64 b') := cell_in hX5 2
        have HX5 := Lib.hid hX5
        clear hO5 hB5 hK5 hX5 HX4 HO4 HB4 x1
        go_wp2_with fail
        refine (put1 b' w.heap.size _ _ _ _ HO5.out (by omega) HB5.out.size).mono ?_
        rintro e w6 ⟨u6, rfl, hO6, hB6, hK6⟩
        have hX6 := hK6 _ _ HX5.out (by simp) (insB_other _ _ _ _)
        have HO6 := Lib.hid hO6
        have HB6 := Lib.hid (HB5.out.trans hB6)
        have x3 : w6.cell? ⟨wr.heap.size, 3, none⟩ = some (.int .u32 c) := cell_in hX6 3
        clear hO6 hB6 hK6 hX6 HX5 HO5 HB5 x2
        go_wp2_with fail
        refine (put4 c w.heap.size _ _ _ _ HO6.out (by omega) HB6.out.size).mono ?_
        rintro e w7 ⟨u7, rfl, hO7, hB7, hK7⟩
        have HO7 : Hid (w7.ownsRow w.heap.size 5 1 u7 (8 * (n + 1)) (bcells ((l.take (n + 1)).flatMap encX))) := Lib.hid (by
          rw [HN.out, show 8 * (n + 1) = 8 * n + 2 + 1 + 1 + 4 by omega]
          simpa [List.append_assoc] using hO7)
        have HB7 := Lib.hid (HB6.out.trans hB7)
        clear hO7 hB7 hK7 HO6 HB6 x3
        go_wp2_with fail
        go_roundw
        case rel => exact ⟨n + 1, by omega, by go_num, HO7.out, HB7.out⟩
        case measure => simp [intOf]; omega
      · obtain rfl : n = l.length := by omega
        have HE2 : Hid (BAt wr u5 (encL l)) := Lib.hid (by
          have h := HO.out
          rw [List.take_length] at h
          rw [encL_ok HE.out]
          exact BAt.own h (enc_len l).symm)
        go_wp2_with fail
        go_ret2
        exact encEnd HE.out HE2.out HB.out
  · have hb : (ferr l == 0) = false := by simpa using he
    have HE := Lib.hid (encL_bad he)
    clear he
    go_wp2_with fail
    go_ret2
    exact encEnd rfl (by rw [HE.out]; exact BAt.nil _) HB1.out
end Go.Proofs.YtbekkdhlfkongaaGreatDoor

/-
  What codec.Print answers, for any filter that lies in a world.
-/
namespace Go.Proofs.YtbekkdhlfkongaaGreatDoor
open Go.ChangeShapes Go.WideShapes Go.ChangeAt Go.RowKit
set_option maxRecDepth 20000

end Go.Proofs.YtbekkdhlfkongaaGreatDoor
/-
  A text parted at every byte that is a mark, plainly.
-/
namespace Ip
open Go
/-- All parts of a text between marks. -/
def cutAll (m : UInt8) : List UInt8 → List UInt8 → List (List UInt8)
  | cur, [] => [cur]
  | cur, c :: l => if c = m then cur :: cutAll m [] l else cutAll m (cur ++ [c]) l
/-- How far a text is parted. -/
def Parting (m : UInt8) (L : List UInt8) (p : Nat) (ps : List (List UInt8)) (cur : List UInt8) : Prop :=
  p ≤ L.length ∧ ps.length ≤ p ∧ cur.length ≤ p ∧ cutAll m [] L = ps ++ cutAll m cur (L.drop p)
theorem Parting.start (m : UInt8) (L : List UInt8) : Parting m L 0 [] [] := ⟨by omega, by simp, by simp, by simp⟩
theorem Parting.go {m : UInt8} {L : List UInt8} {p : Nat} {ps : List (List UInt8)} {cur : List UInt8} (h : Parting m L p ps cur) (hp : p < L.length) (hc : L[p] ≠ m) : Parting m L (p + 1) ps (cur ++ [L[p]]) := by
  obtain ⟨h1, h2, h3, h4⟩ := h
  refine ⟨hp, by omega, by simp; omega, ?_⟩
  rw [h4, List.drop_eq_getElem_cons hp, cutAll, if_neg hc]
theorem Parting.done {m : UInt8} {L : List UInt8} {p : Nat} {ps : List (List UInt8)} {cur : List UInt8} (h : Parting m L p ps cur) (hp : L.length ≤ p) : cutAll m [] L = ps ++ [cur] := by
  obtain ⟨h1, h2, h3, h4⟩ := h
  rw [h4, List.drop_eq_nil_of_le hp, cutAll]
end Ip

/-
  Texts of filters, line by line, as plain lists: what a filter's text is read as.
-/
namespace Go.Proofs.YtbekkdhlfkongaaGreatDoor
open Go.ChangeShapes Go.WideShapes Go.ChangeAt Go.RowKit

end Go.Proofs.YtbekkdhlfkongaaGreatDoor
/-
  Policies, plainly: rules and their lines, policies and their texts, and what is read of a text.
-/
namespace Go.Proofs.YtbekkdhlfkongaaGreatDoor
open Go.RowKit
set_option maxRecDepth 20000

/-- A rule. -/
structure Rl where
  arch : Nat
  nr : Nat
  act : Nat
  conds : List Cd
deriving DecidableEq
/-- A policy. -/
structure Po where
  rules : List Rl
  dflt : Nat
deriving DecidableEq
def Rl.ok (x : Rl) : Prop := x.arch < 4294967296 ∧ x.nr < 4294967296 ∧ x.act < 4294967296 ∧ ∀ c ∈ x.conds, c.ok
def Rl.right (x : Rl) : Bool := decide (x.conds.length ≤ 4) && (actT x.act).isSome && x.conds.all Cd.right
def Po.ok (p : Po) : Prop := p.dflt < 4294967296 ∧ ∀ x ∈ p.rules, x.ok
def Po.right (p : Po) : Bool := decide (p.rules.length ≤ 64) && (actT p.dflt).isSome && p.rules.all Rl.right
def zeroRl : Rl := ⟨0, 0, 0, []⟩
def bl (b : ByteArray) : List UInt8 := b.data.toList
/-! ### Words -/
/-! ### What the words are made of -/
theorem rl_right {x : Rl} (h1 : x.conds.length ≤ 4) (h2 : (actT x.act).isSome = true) (h3 : ∀ c ∈ x.conds, c.right = true) : x.right = true := by
  unfold Rl.right
  simp only [Bool.and_eq_true, decide_eq_true_eq, List.all_eq_true]
  exact ⟨⟨h1, h2⟩, h3⟩
/-! ### Unlike rules have unlike lines -/
/-! ### What is read -/
theorem right_po {p : Po} (h1 : p.rules.length ≤ 64) (h2 : (actT p.dflt).isSome = true) (h3 : ∀ x ∈ p.rules, x.right = true) : p.right = true := by
  unfold Po.right
  simp only [Bool.and_eq_true, decide_eq_true_eq, List.all_eq_true]
  exact ⟨⟨h1, h2⟩, h3⟩
end Go.Proofs.YtbekkdhlfkongaaGreatDoor
/-
  What a policy says, plainly: which rules fit, which is the first one, which action counts; what a rule more, or two swapped, make of it.
-/
namespace Go.Proofs.YtbekkdhlfkongaaGreatDoor
open Go.RowKit
set_option maxRecDepth 20000

/-- Does a rule fit? -/
def fitsR (x : Rl) (d : Rec) : Bool := decide (x.arch = d.arch) && decide (x.nr = d.nr) && x.conds.all (·.holds d)
/-- The first of the rules that fits, counted from o on; -1: there is none. -/
def firstN : List Rl → Nat → Rec → Int
  | [], _, _ => -1
  | x :: rs, o, d => if fitsR x d then (o : Int) else firstN rs (o + 1) d
/-- The action that counts. -/
def judgeR : List Rl → Nat → Rec → Nat
  | [], df, _ => df
  | x :: rs, df, d => if fitsR x d then x.act else judgeR rs df d
theorem firstN_step {rs : List Rl} {k : Nat} (h : k < rs.length) (d : Rec) : firstN (rs.drop k) k d = if fitsR rs[k] d then (k : Int) else firstN (rs.drop (k + 1)) (k + 1) d := by
  rw [List.drop_eq_getElem_cons h]
  rfl
theorem firstN_end {rs : List Rl} {k : Nat} (h : rs.length ≤ k) (d : Rec) : firstN (rs.drop k) k d = -1 := by
  rw [List.drop_eq_nil_of_le h]
  rfl
theorem first_judge (rs : List Rl) (o df : Nat) (d : Rec) : (firstN rs o d = -1 ∧ judgeR rs df d = df) ∨ ∃ (k : Nat) (h : k < rs.length), firstN rs o d = ((o + k : Nat) : Int) ∧ judgeR rs df d = (rs[k]).act := by
  induction rs generalizing o with
  | nil => exact .inl ⟨rfl, rfl⟩
  | cons x rs ih =>
    cases hx : fitsR x d
    · rcases ih (o + 1) with ⟨h1, h2⟩ | ⟨k, hk, h1, h2⟩
      · exact .inl ⟨by rw [firstN, hx]; exact h1, by rw [judgeR, hx]; exact h2⟩
      · refine .inr ⟨k + 1, by simp; omega, ?_, ?_⟩
        · rw [firstN, hx]
          simp only [Bool.false_eq_true, if_false, h1]
          omega
        · rw [judgeR, hx]
          simpa using h2
    · exact .inr ⟨0, by simp, by rw [firstN, hx]; simp, by rw [judgeR, hx]; simp⟩
end Go.Proofs.YtbekkdhlfkongaaGreatDoor
/-
  Runs from labels, step by step; conditions by the words of a record; how many instructions a policy's filter has at most.
-/
namespace Go.Proofs.YtbekkdhlfkongaaGreatDoor
open Go.RowKit

/-! ### Runs from labels -/
theorem labR_app {c : List X4} (hs : SoundL c) (hok : ∀ x ∈ c, x.ok) (p : List X4) (d : Rec) (s : St) {l : Int} (hl : isLab c l = true) : labR (p ++ c) d s l = labR c d s l := by
  have h := isLab_iff.1 hl
  have e : (((p ++ c).length : Int) - l).toNat = p.length + ((c.length : Int) - l).toNat := by rw [List.length_append]; omega
  show (fromS (p ++ c) d _ s _).1 = _
  rw [e, fromS_behind p c]
  exact labR_any hs hok d s hl _ (by rw [List.length_append]; omega)
/-- The front of code that goes on behind it. -/
theorem labR_plain {c : List X4} (hs : SoundL c) (x : X4) (d : Rec) (s : St) (h6 : ¬ x.op = 6) (h22 : ¬ x.op = 22) (h5 : ¬ x.op = 5) (hb : isBranch x.op = false) (hg : goesS s x = true) :
    labR (x :: c) d s ((c.length : Int) + 1) = labR c d (stepS s x d) c.length := by
  have hpos : 0 < c.length := hs.1
  have hP : placeS s x 0 = [x].length + 0 := by
    unfold placeS
    rw [if_neg h5, hb]
    rfl
  unfold labR
  rw [show (((x :: c).length : Int) - ((c.length : Int) + 1)).toNat = 0 by rw [List.length_cons]; omega, List.length_cons, fromS_succ, List.getD_cons_zero, if_neg h6, if_neg h22, hg, if_neg (by decide), hP]
  simp only
  have e2 := fromS_behind [x] c d c.length (stepS s x d) 0
  rw [List.cons_append, List.nil_append] at e2
  rw [e2, show ((c.length : Int) - (c.length : Int)).toNat = 0 by omega]
/-- A label at which the code ends. -/
theorem labR_end {c : List X4} (d : Rec) (s : St) {l : Int} (hl : isLab c l = true) (h6 : (c.getD ((c.length : Int) - l).toNat zeroX).op = 6) : labR c d s l = (c.getD ((c.length : Int) - l).toNat zeroX).k.toNat := by
  have h := isLab_iff.1 hl
  unfold labR
  rw [show c.length = (c.length - 1) + 1 by omega, fromS_succ, if_pos (by rw [show c.length - 1 + 1 = c.length by omega]; exact h6), show c.length - 1 + 1 = c.length by omega]
/-- The whole filter's run. -/
theorem run_lab (c : List X4) (d : Rec) : (runS c d).1 = labR c d zeroSt c.length := by
  unfold runS labR
  rw [show ((c.length : Int) - (c.length : Int)).toNat = 0 by omega]

/-! ### What loads and the common bits make of A -/
theorem step_load (s : St) (d : Rec) (k : Nat) : stepS s ⟨32, 0, 0, (k : Nat)⟩ d = ⟨wordAtD d k, s.x, s.m⟩ := by
  have h : aluB 32 = false := by decide
  unfold stepS
  simp [h]
theorem goes_load (s : St) (k : Int) : goesS s ⟨32, 0, 0, k⟩ = true := by
  have h : aluB 32 = false := by decide
  unfold goesS
  simp [h]
theorem step_and (s : St) (d : Rec) (k : Nat) (ha : s.a ≤ 4294967295) (hk : k ≤ 4294967295) : stepS s ⟨84, 0, 0, (k : Nat)⟩ d = ⟨s.a &&& k, s.x, s.m⟩ := by
  have h1 : aluB 84 = true := by decide
  have h2 : aluV 84 = 84 := by decide
  have h3 : aluX 84 = false := by decide
  have hg : goesS s ⟨84, 0, 0, (k : Nat)⟩ = true := by
    unfold goesS
    simp only [h1, h2]
    rfl
  unfold stepS
  simp only [h1, hg, if_true]
  have : Wd.doV (aluV 84) s.a (argS s ⟨84, 0, 0, (k : Nat)⟩) = ((s.a &&& k : Nat) : Int) := by
    unfold argS
    simp only [h2, h3, Bool.false_eq_true, if_false]
    rw [Wd.doV_and, u32_and_nat _ _ (by omega) (by omega)]
  rw [this]
  rfl
theorem goes_and (s : St) (k : Int) : goesS s ⟨84, 0, 0, k⟩ = true := by
  have h1 : aluB 84 = true := by decide
  have h2 : aluV 84 = 84 := by decide
  unfold goesS
  simp only [h1, h2]
  rfl
theorem takes_eq (s : St) (k : Nat) : takesS s ⟨21, 0, 0, (k : Nat)⟩ = (s.a == k) := by
  unfold takesS
  rw [if_pos rfl]
  rw [Bool.eq_iff_iff]
  simp only [beq_iff_eq]
  omega
theorem takes_gt (s : St) (k : Nat) : takesS s ⟨37, 0, 0, (k : Nat)⟩ = decide (k < s.a) := by
  unfold takesS
  rw [if_neg (by simp), if_pos rfl]
  rw [Bool.eq_iff_iff]
  simp
theorem takes_ge (s : St) (k : Nat) : takesS s ⟨53, 0, 0, (k : Nat)⟩ = decide (k ≤ s.a) := by
  unfold takesS
  rw [if_neg (by simp), if_neg (by simp), if_pos rfl]
  rw [Bool.eq_iff_iff]
  simp

/-! ### Conditions by words -/
theorem arg_words (d : Rec) (i : Nat) (hi : i ≤ 5) : wordAtD d (16 + 8 * i) = (argsD d).getD i 0 % 4294967296 ∧ wordAtD d (20 + 8 * i) = (argsD d).getD i 0 / 4294967296 := by
  have h : i = 0 ∨ i = 1 ∨ i = 2 ∨ i = 3 ∨ i = 4 ∨ i = 5 := by omega
  rcases h with rfl | rfl | rfl | rfl | rfl | rfl <;> exact ⟨rfl, rfl⟩
theorem nr_word (d : Rec) : wordAtD d 0 = d.nr := rfl
theorem arch_word (d : Rec) : wordAtD d 4 = d.arch := rfl
theorem and_parts (v m : Nat) : v &&& m = (v / 4294967296 &&& m / 4294967296) * 4294967296 + (v % 4294967296 &&& m % 4294967296) ∧ (v % 4294967296 &&& m % 4294967296) < 4294967296 := by
  have hlt : (v % 4294967296 &&& m % 4294967296) < 4294967296 := Nat.lt_of_le_of_lt Nat.and_le_left (Nat.mod_lt _ (by decide))
  refine ⟨?_, hlt⟩
  have h1 : (v &&& m) / 4294967296 = v / 4294967296 &&& m / 4294967296 := by
    have := Nat.shiftRight_and_distrib (a := v) (b := m) (i := 32)
    rw [Nat.shiftRight_eq_div_pow, Nat.shiftRight_eq_div_pow, Nat.shiftRight_eq_div_pow] at this
    exact this
  have h2 : (v &&& m) % 4294967296 = v % 4294967296 &&& m % 4294967296 := Nat.and_mod_two_pow (a := v) (b := m) (n := 32)
  rw [← h1, ← h2]
  omega
/-- What a comparison says of two numbers, by their halves. -/
theorem cmp_parts (k : Int) (h0 : 0 ≤ k) (h5 : k ≤ 5) (H L a b : Nat) (hL : L < 4294967296) (hb : b < 4294967296) : cmpB k (H * 4294967296 + L) (a * 4294967296 + b) =
    if k = 0 then H == a && L == b else if k = 1 then !(H == a && L == b) else if k = 2 then decide (H < a) || (H == a && decide (L < b)) else if k = 3 then decide (H < a) || (H == a && decide (L ≤ b))
    else if k = 4 then decide (a < H) || (H == a && decide (b < L)) else decide (a < H) || (H == a && decide (b ≤ L)) := by
  obtain ⟨V, hV⟩ : ∃ V, V = H * 4294967296 + L := ⟨_, rfl⟩
  obtain ⟨X, hX⟩ : ∃ X, X = a * 4294967296 + b := ⟨_, rfl⟩
  rw [← hV, ← hX, Bool.eq_iff_iff]
  rcases six h0 h5 with rfl | rfl | rfl | rfl | rfl | rfl
  · show (V == X) = true ↔ (H == a && L == b) = true
    simp only [beq_iff_eq, Bool.and_eq_true]; omega
  · show (V != X) = true ↔ (!(H == a && L == b)) = true
    simp only [bne_iff_ne, Bool.not_eq_true', Bool.and_eq_false_iff, beq_eq_false_iff_ne]; omega
  · show decide (V < X) = true ↔ (decide (H < a) || (H == a && decide (L < b))) = true
    simp only [decide_eq_true_eq, Bool.or_eq_true, Bool.and_eq_true, beq_iff_eq]; omega
  · show decide (V ≤ X) = true ↔ (decide (H < a) || (H == a && decide (L ≤ b))) = true
    simp only [decide_eq_true_eq, Bool.or_eq_true, Bool.and_eq_true, beq_iff_eq]; omega
  · show decide (X < V) = true ↔ (decide (a < H) || (H == a && decide (b < L))) = true
    simp only [decide_eq_true_eq, Bool.or_eq_true, Bool.and_eq_true, beq_iff_eq]; omega
  · show decide (X ≤ V) = true ↔ (decide (a < H) || (H == a && decide (b ≤ L))) = true
    simp only [decide_eq_true_eq, Bool.or_eq_true, Bool.and_eq_true, beq_iff_eq]; omega
/-- The halves of what a condition looks at. -/
def hiB (c : Cd) (d : Rec) : Nat := wordAtD d (20 + 8 * c.arg.toNat) &&& c.mask / 4294967296
def loB (c : Cd) (d : Rec) : Nat := wordAtD d (16 + 8 * c.arg.toNat) &&& c.mask % 4294967296
theorem holds_parts (c : Cd) (d : Rec) (hr : c.right = true) : c.holds d =
    if c.cmp = 0 then hiB c d == c.value / 4294967296 && loB c d == c.value % 4294967296 else if c.cmp = 1 then !(hiB c d == c.value / 4294967296 && loB c d == c.value % 4294967296)
    else if c.cmp = 2 then decide (hiB c d < c.value / 4294967296) || (hiB c d == c.value / 4294967296 && decide (loB c d < c.value % 4294967296))
    else if c.cmp = 3 then decide (hiB c d < c.value / 4294967296) || (hiB c d == c.value / 4294967296 && decide (loB c d ≤ c.value % 4294967296))
    else if c.cmp = 4 then decide (c.value / 4294967296 < hiB c d) || (hiB c d == c.value / 4294967296 && decide (c.value % 4294967296 < loB c d))
    else decide (c.value / 4294967296 < hiB c d) || (hiB c d == c.value / 4294967296 && decide (c.value % 4294967296 ≤ loB c d)) := by
  obtain ⟨a0, a5, h0, h5⟩ := c.right_iff.1 hr
  obtain ⟨w1, w2⟩ := arg_words d c.arg.toNat (by omega)
  obtain ⟨e, hlt⟩ := and_parts ((argsD d).getD c.arg.toNat 0) c.mask
  have hb : c.bits d = hiB c d * 4294967296 + loB c d := by
    unfold Cd.bits hiB loB
    rw [w1, w2]
    exact e
  have hl : loB c d < 4294967296 := by
    unfold loB
    rw [w1]
    exact hlt
  unfold Cd.holds
  rw [hr, Bool.true_and, hb]
  have hv : c.value = (c.value / 4294967296) * 4294967296 + c.value % 4294967296 := by omega
  have := cmp_parts c.cmp h0 h5 (hiB c d) (loB c d) (c.value / 4294967296) (c.value % 4294967296) hl (Nat.mod_lt _ (by decide))
  rw [← hv] at this
  exact this

/-! ### How many instructions -/
def mostAt (rs : List Rl) (i : Nat) : Nat :=
  match rs[i]? with
  | none => 0
  | some x => 3 + 16 * x.conds.length + (if (rs.take i).any (fun y => y.arch == x.arch) then 0 else 4) + (if (rs.take i).any (fun y => y.arch == x.arch && y.nr == x.nr) then 0 else 8)
def mostTo (rs : List Rl) : Nat → Nat
  | 0 => 0
  | n + 1 => mostTo rs n + mostAt rs n
def mostN (rs : List Rl) : Nat := if rs.length = 0 then 1 else 8 + mostTo rs rs.length
end Go.Proofs.YtbekkdhlfkongaaGreatDoor
/-
  Code that grows behind errors, plainly: what the draft of package lower makes of it; a condition's test, and what it does.
-/
namespace Go.Proofs.YtbekkdhlfkongaaGreatDoor
open Go.RowKit
set_option maxRecDepth 20000

structure DS where
  c : List X4
  e : Int
def takeS (s : DS) (g : G3) : DS := if s.e = 0 then ⟨g.1, g.2.2⟩ else s
def addS (s : DS) (x : X4) : DS × Int := (takeS s (addN s.c x), (addN s.c x).2.1)
def aheadS (s : DS) (x : X4) (l : Int) : DS × Int := addS (takeS s (jumpN s.c l)) x
def branchS (s : DS) (op k t f : Int) : DS × Int := (takeS s (branchN s.c op k t f), (branchN s.c op k t f).2.1)
structure Hf where
  pos : Nat
  mask : Nat
  value : Nat
def Hf.ties (h : Hf) : Bool := h.mask == 0 && h.value == 0
def ldX (k : Nat) : X4 := ⟨32, 0, 0, (k : Nat)⟩
def andX (k : Nat) : X4 := ⟨84, 0, 0, (k : Nat)⟩
def maskedS (s : DS) (h : Hf) (l : Int) : DS × Int := if h.mask = 4294967295 then aheadS s (ldX h.pos) l else aheadS (aheadS s (andX h.mask) l).1 (ldX h.pos) (aheadS s (andX h.mask) l).2
def compareS (s : DS) (op : Int) (h : Hf) (t f : Int) : DS × Int := maskedS (branchS s op (h.value : Nat) t f).1 h (branchS s op (h.value : Nat) t f).2
def loH (x : Cd) : Hf := ⟨16 + 8 * x.arg.toNat, x.mask % 4294967296, x.value % 4294967296⟩
def hiH (x : Cd) : Hf := ⟨20 + 8 * x.arg.toNat, x.mask / 4294967296, x.value / 4294967296⟩
def dirK (k : Int) : Bool := k == 0 || k == 4 || k == 5
def opK (k : Int) : Int := if k = 0 then 21 else if k = 4 then 37 else 53
/-- What tells records whose more significant halves differ. -/
def diffS (s : DS) (op k t f : Int) : DS × Int := if op = 21 then (s, f) else branchS s op k t f
def bothS (s : DS) (op : Int) (lo hi : Hf) (t f : Int) : DS × Int :=
  maskedS (branchS (diffS (compareS s op lo t f).1 op (hi.value : Nat) t f).1 21 (hi.value : Nat) (compareS s op lo t f).2 (diffS (compareS s op lo t f).1 op (hi.value : Nat) t f).2).1 hi
    (branchS (diffS (compareS s op lo t f).1 op (hi.value : Nat) t f).1 21 (hi.value : Nat) (compareS s op lo t f).2 (diffS (compareS s op lo t f).1 op (hi.value : Nat) t f).2).2
def testD (s : DS) (op : Int) (lo hi : Hf) (t f : Int) : DS × Int := if hi.ties then compareS s op lo t f else if lo.ties then compareS s op hi t f else bothS s op lo hi t f
def testS (s : DS) (x : Cd) (t f : Int) : DS × Int := if dirK x.cmp then testD s (opK x.cmp) (loH x) (hiH x) t f else testD s (opK x.not.cmp) (loH x) (hiH x) f t
/-- What a draft answers, beside what is to be there instead. -/
def resultN (s : DS) (c : List X4) : G3 := if s.e = 0 then (s.c, ((s.c.length : Nat) : Int), 0) else (c, 0, s.e)
def testN (c : List X4) (x : Cd) (t f : Int) : G3 := if x.right then resultN (testS ⟨c, 0⟩ x t f).1 c else (c, 0, 1)

/-! ### Lengths, whatever happens -/
theorem takeS_len {s : DS} {g : G3} {n : Nat} (h : s.c.length ≤ g.1.length ∧ g.1.length ≤ s.c.length + n) : s.c.length ≤ (takeS s g).c.length ∧ (takeS s g).c.length ≤ s.c.length + n := by
  unfold takeS
  split
  · exact h
  · omega
theorem addS_len (s : DS) (x : X4) : s.c.length ≤ (addS s x).1.c.length ∧ (addS s x).1.c.length ≤ s.c.length + 3 := takeS_len (addN_len s.c x)
theorem branchS_len (s : DS) (op k t f : Int) : s.c.length ≤ (branchS s op k t f).1.c.length ∧ (branchS s op k t f).1.c.length ≤ s.c.length + 3 := takeS_len (branchN_len s.c op k t f)
theorem aheadS_len (s : DS) (x : X4) (l : Int) : s.c.length ≤ (aheadS s x l).1.c.length ∧ (aheadS s x l).1.c.length ≤ s.c.length + 6 := by
  have h1 := takeS_len (jumpN_len s.c l)
  have h2 := addS_len (takeS s (jumpN s.c l)) x
  unfold aheadS
  omega
theorem maskedS_len (s : DS) (h : Hf) (l : Int) : s.c.length ≤ (maskedS s h l).1.c.length ∧ (maskedS s h l).1.c.length ≤ s.c.length + 12 := by
  have h1 := aheadS_len s (ldX h.pos) l
  have h2 := aheadS_len s (andX h.mask) l
  have h3 := aheadS_len (aheadS s (andX h.mask) l).1 (ldX h.pos) (aheadS s (andX h.mask) l).2
  unfold maskedS
  split <;> omega
theorem compareS_len (s : DS) (op : Int) (h : Hf) (t f : Int) : s.c.length ≤ (compareS s op h t f).1.c.length ∧ (compareS s op h t f).1.c.length ≤ s.c.length + 15 := by
  have h1 := branchS_len s op (h.value : Nat) t f
  have h2 := maskedS_len (branchS s op (h.value : Nat) t f).1 h (branchS s op (h.value : Nat) t f).2
  unfold compareS
  omega

/-! ### Drafts without errors -/
def Good (s : DS) : Prop := s.e = 0 ∧ SoundL s.c ∧ ∀ x ∈ s.c, x.ok
/-- What was put at the front. -/
def Front (s : DS) (r : DS × Int) (n : Nat) : Prop := Good r.1 ∧ (∃ p : List X4, r.1.c = p ++ s.c ∧ p.length ≤ n) ∧ r.2 = ((r.1.c.length : Nat) : Int)
theorem Front.len {s : DS} {r : DS × Int} {n : Nat} (h : Front s r n) : s.c.length ≤ r.1.c.length ∧ r.1.c.length ≤ s.c.length + n := by
  obtain ⟨_, ⟨p, hp, hn⟩, _⟩ := h
  rw [hp, List.length_append]
  omega
theorem Front.lab {s : DS} {r : DS × Int} {n : Nat} (h : Front s r n) : isLab r.1.c r.2 = true := by
  rw [isLab_iff, h.2.2]
  have := h.1.2.1.1
  omega
theorem Front.old {s : DS} {r : DS × Int} {n : Nat} (h : Front s r n) {l : Int} (hl : isLab s.c l = true) : isLab r.1.c l = true := lab_more hl h.len.1
theorem Front.run {s : DS} {r : DS × Int} {n : Nat} (h : Front s r n) (hs : Good s) (d : Rec) (st : St) {l : Int} (hl : isLab s.c l = true) : labR r.1.c d st l = labR s.c d st l := by
  obtain ⟨_, ⟨p, hp, _⟩, _⟩ := h
  rw [hp]
  exact labR_app hs.2.1 hs.2.2 p d st hl
theorem Front.trans {s : DS} {r q : DS × Int} {m n : Nat} (h : Front s r m) (k : Front r.1 q n) : Front s q (m + n) := by
  obtain ⟨_, ⟨p, hp, hm⟩, _⟩ := h
  obtain ⟨g, ⟨p', hp', hn⟩, e⟩ := k
  exact ⟨g, ⟨p' ++ p, by rw [hp', hp, List.append_assoc], by rw [List.length_append]; omega⟩, e⟩
theorem Front.more {s : DS} {r : DS × Int} {m n : Nat} (h : Front s r m) (hn : m ≤ n) : Front s r n := by
  obtain ⟨g, ⟨p, hp, hm⟩, e⟩ := h
  exact ⟨g, ⟨p, hp, by omega⟩, e⟩
theorem takeS_ok {s : DS} (hs : s.e = 0) (g : G3) : takeS s g = ⟨g.1, g.2.2⟩ := by unfold takeS; rw [if_pos hs]
theorem takeS_bad {s : DS} (hs : ¬ s.e = 0) (g : G3) : takeS s g = s := by unfold takeS; rw [if_neg hs]
def jop (op : Int) : Prop := op = 21 ∨ op = 37 ∨ op = 53
theorem jop_right {op : Int} (h : jop op) (k : Int) : right op 0 0 k = true ∧ isBranch op = true := by
  rcases h with rfl | rfl | rfl
  all_goals
    refine ⟨?_, by decide⟩
    unfold right Ip.fits
    first
      | rw [show (Ip.byOp 21).isSome = true by decide, show Ip.hasK ((Ip.byOp 21).getD Ip.zeroRow).fmt = true by decide, show Ip.hasJ ((Ip.byOp 21).getD Ip.zeroRow).fmt = true by decide]
      | rw [show (Ip.byOp 37).isSome = true by decide, show Ip.hasK ((Ip.byOp 37).getD Ip.zeroRow).fmt = true by decide, show Ip.hasJ ((Ip.byOp 37).getD Ip.zeroRow).fmt = true by decide]
      | rw [show (Ip.byOp 53).isSome = true by decide, show Ip.hasK ((Ip.byOp 53).getD Ip.zeroRow).fmt = true by decide, show Ip.hasJ ((Ip.byOp 53).getD Ip.zeroRow).fmt = true by decide]
    rfl
theorem right_one {op : Int} (h : op = 32 ∨ op = 84 ∨ op = 6) (k : Int) : right op 0 0 k = true := by
  rcases h with rfl | rfl | rfl
  all_goals
    unfold right Ip.fits
    first
      | rw [show (Ip.byOp 32).isSome = true by decide, show Ip.hasK ((Ip.byOp 32).getD Ip.zeroRow).fmt = true by decide, show Ip.hasJ ((Ip.byOp 32).getD Ip.zeroRow).fmt = false by decide]
      | rw [show (Ip.byOp 84).isSome = true by decide, show Ip.hasK ((Ip.byOp 84).getD Ip.zeroRow).fmt = true by decide, show Ip.hasJ ((Ip.byOp 84).getD Ip.zeroRow).fmt = false by decide]
      | rw [show (Ip.byOp 6).isSome = true by decide, show Ip.hasK ((Ip.byOp 6).getD Ip.zeroRow).fmt = true by decide, show Ip.hasJ ((Ip.byOp 6).getD Ip.zeroRow).fmt = false by decide]
    rfl
theorem plain_one {op : Int} (h : op = 32 ∨ op = 84 ∨ op = 6) (k : Int) : plainX ⟨op, 0, 0, k⟩ = true := by
  have hr : (⟨op, 0, 0, k⟩ : X4).right = true := right_one h k
  unfold plainX
  rw [hr]
  show (true && !(op == 5) && !isBranch op) = true
  rcases h with rfl | rfl | rfl <;> decide
theorem add_good {s : DS} (hs : Good s) (hl : s.c.length ≤ 4000) (x : X4) (hx : x.ok) (hp : plainX x = true) (ho : oneE x s.c.length = 0) : Front s (addS s x) 1 ∧ (addS s x).1.c = x :: s.c ∧ (addS s x).2 = (s.c.length : Int) + 1 := by
  have e : addS s x = (⟨x :: s.c, 0⟩, (s.c.length : Int) + 1) := by
    unfold addS
    rw [takeS_ok hs.1]
    unfold addN
    rw [if_pos hp]
  rw [e]
  refine ⟨⟨⟨rfl, sound_cons hs.2.1 hl ho, ok_cons hx hs.2.2⟩, ⟨[x], rfl, Nat.le_refl _⟩, ?_⟩, rfl, rfl⟩
  simp only [List.length_cons]
  omega
theorem jump_front {s : DS} (hs : Good s) : takeS s (jumpN s.c (s.c.length : Nat)) = s := by
  have hpos := hs.2.1.1
  have hl : isLab s.c ((s.c.length : Nat) : Int) = true := by rw [isLab_iff]; omega
  rw [takeS_ok hs.1]
  unfold jumpN
  rw [if_pos hl, if_pos rfl]
  obtain ⟨c, e⟩ := s
  obtain ⟨rfl, _⟩ := hs
  rfl
/-- An instruction ahead of a label. -/
theorem ahead_good {s : DS} (hs : Good s) (hl : s.c.length ≤ 3900) (x : X4) (hx : x.ok) (hp : plainX x = true) (ho : ∀ n : Int, 1 ≤ n → oneE x n = 0) {l : Int} (hlab : isLab s.c l = true) (h6 : ¬ x.op = 6) (h22 : ¬ x.op = 22) (hg : ∀ st, goesS st x = true) :
    Front s (aheadS s x l) 2 ∧ (l = (s.c.length : Nat) → Front s (aheadS s x l) 1) ∧ ∀ d st, labR (aheadS s x l).1.c d st (aheadS s x l).2 = labR s.c d (stepS st x d) l := by
  obtain ⟨q, hq, hsame, hqf⟩ : ∃ q : DS, q = takeS s (jumpN s.c l) ∧ (l = (s.c.length : Nat) → q = s) ∧ Front s (q, ((q.c.length : Nat) : Int)) 1 ∧ ∀ d st, labR q.c d st (q.c.length : Nat) = labR s.c d st l := by
    refine ⟨_, rfl, fun h => by rw [h, jump_front hs], ?_⟩
    by_cases hf : l = s.c.length
    · subst hf
      rw [jump_front hs]
      exact ⟨⟨hs, ⟨[], rfl, by simp⟩, rfl⟩, fun d st => rfl⟩
    · have b := isLab_iff.1 hlab
      rw [takeS_ok hs.1]
      unfold jumpN
      rw [if_pos hlab, if_neg hf]
      refine ⟨⟨⟨rfl, sound_cons hs.2.1 (by omega) (show oneE (jaTo s.c l) s.c.length = 0 from one_ja (k := (s.c.length : Int) - l) (by omega) (by omega)), ok_cons (ja_ok hlab (by omega)) hs.2.2⟩, ⟨[jaTo s.c l], rfl, Nat.le_refl _⟩, rfl⟩, fun d st => ?_⟩
      have := labR_ja (c := s.c) d st l
      simp only [List.length_cons]
      rw [← this]
      rfl
  have hql := hqf.1.len
  simp only at hql
  obtain ⟨a1, a2, a3⟩ := add_good hqf.1.1 (by simp only; omega) x hx hp (ho ((q.c.length : Nat) : Int) (by have := hqf.1.1.2.1.1; simp only at this; omega))
  unfold aheadS
  rw [← hq]
  refine ⟨hqf.1.trans a1, fun h => by rw [hsame h] at a1 ⊢; exact a1, fun d st => ?_⟩
  rw [a2, a3]
  have h5 : ¬ x.op = 5 ∧ isBranch x.op = false := by
    unfold plainX at hp
    simp only [Bool.and_eq_true, Bool.not_eq_true', beq_eq_false_iff_ne] at hp
    exact ⟨hp.1.2, hp.2⟩
  rw [labR_plain hqf.1.1.2.1 x d st h6 h22 h5.1 h5.2 (hg st), hqf.2]
theorem load_one {k : Nat} (h4 : k % 4 = 0) (h60 : k ≤ 60) (n : Int) (_hn : 1 ≤ n) : oneE (ldX k) n = 0 := by
  have hr : (ldX k).right = true := right_one (.inl rfl) _
  have hb : isBranch 32 = false := by decide
  unfold oneE
  rw [hr]
  have h1 : ((ldX k).k % 4 != 0 || decide (60 < (ldX k).k)) = false := by
    simp only [ldX, Bool.or_eq_false_iff, bne_eq_false_iff_eq]
    exact ⟨by omega, decide_eq_false (by omega)⟩
  rw [h1]
  simp only [ldX, hb]
  rfl
theorem and_one (k : Nat) (n : Int) (_hn : 1 ≤ n) : oneE (andX k) n = 0 := by
  have hr : (andX k).right = true := right_one (.inr (.inl rfl)) _
  have hb : isBranch 84 = false := by decide
  unfold oneE
  rw [hr]
  simp only [andX, hb]
  rfl
theorem ret_one (k : Nat) (n : Int) : oneE ⟨6, 0, 0, (k : Nat)⟩ n = 0 := by
  have hr : (⟨6, 0, 0, (k : Nat)⟩ : X4).right = true := right_one (.inr (.inr rfl)) _
  have hb : isBranch 6 = false := by decide
  unfold oneE
  rw [hr]
  simp only [hb]
  rfl
/-- A load ahead of a label. -/
theorem load_good {s : DS} (hs : Good s) (hl : s.c.length ≤ 3900) {k : Nat} (h4 : k % 4 = 0) (h60 : k ≤ 60) {l : Int} (hlab : isLab s.c l = true) :
    Front s (aheadS s (ldX k) l) 2 ∧ (l = (s.c.length : Nat) → Front s (aheadS s (ldX k) l) 1) ∧ ∀ d st, labR (aheadS s (ldX k) l).1.c d st (aheadS s (ldX k) l).2 = labR s.c d ⟨wordAtD d k, st.x, st.m⟩ l := by
  obtain ⟨h1, h1f, h2⟩ := ahead_good hs hl (ldX k) ⟨by simp only [ldX]; omega, by simp only [ldX]; omega⟩ (plain_one (.inl rfl) _) (load_one h4 h60) hlab (by simp [ldX]) (by simp [ldX]) (fun st => goes_load st _)
  refine ⟨h1, h1f, fun d st => ?_⟩
  rw [h2, show ldX k = ⟨32, 0, 0, (k : Nat)⟩ from rfl, step_load]
theorem word_le {d : Rec} (hd : d.ok) {k : Nat} (h : k = 16 ∨ k = 20 ∨ k = 24 ∨ k = 28 ∨ k = 32 ∨ k = 36 ∨ k = 40 ∨ k = 44 ∨ k = 48 ∨ k = 52 ∨ k = 56 ∨ k = 60) : wordAtD d k ≤ 4294967295 := by
  have h16 : ∀ i, i ≤ 5 → wordAtD d (16 + 8 * i) ≤ 4294967295 ∧ wordAtD d (20 + 8 * i) ≤ 4294967295 := by
    intro i hi
    obtain ⟨w1, w2⟩ := arg_words d i hi
    obtain ⟨_, _, _, a0, a1, a2, a3, a4, a5⟩ := hd
    rw [w1, w2]
    have : (argsD d).getD i 0 < 18446744073709551616 := by
      have hc : i = 0 ∨ i = 1 ∨ i = 2 ∨ i = 3 ∨ i = 4 ∨ i = 5 := by omega
      rcases hc with rfl | rfl | rfl | rfl | rfl | rfl
      · exact a0
      · exact a1
      · exact a2
      · exact a3
      · exact a4
      · exact a5
    omega
  rcases h with rfl | rfl | rfl | rfl | rfl | rfl | rfl | rfl | rfl | rfl | rfl | rfl
  · exact (h16 0 (by omega)).1
  · exact (h16 0 (by omega)).2
  · exact (h16 1 (by omega)).1
  · exact (h16 1 (by omega)).2
  · exact (h16 2 (by omega)).1
  · exact (h16 2 (by omega)).2
  · exact (h16 3 (by omega)).1
  · exact (h16 3 (by omega)).2
  · exact (h16 4 (by omega)).1
  · exact (h16 4 (by omega)).2
  · exact (h16 5 (by omega)).1
  · exact (h16 5 (by omega)).2
/-- A half of an argument. -/
def Hf.fine (h : Hf) : Prop := (∃ i, i ≤ 5 ∧ (h.pos = 16 + 8 * i ∨ h.pos = 20 + 8 * i)) ∧ h.mask ≤ 4294967295 ∧ h.value ≤ 4294967295
theorem and_full {a : Nat} (h : a ≤ 4294967295) : a &&& 4294967295 = a := by
  have := Nat.and_two_pow_sub_one_eq_mod a 32
  rw [show (2 ^ 32 - 1 : Nat) = 4294967295 by decide] at this
  rw [this]
  omega
/-- The bits of a half that count, ahead of the front. -/
theorem masked_good {s : DS} (hs : Good s) (hl : s.c.length ≤ 3890) {h : Hf} (hh : h.fine) {l : Int} (hf : l = (s.c.length : Nat)) :
    Front s (maskedS s h l) 2 ∧ ∀ d st, d.ok → labR (maskedS s h l).1.c d st (maskedS s h l).2 = labR s.c d ⟨wordAtD d h.pos &&& h.mask, st.x, st.m⟩ l := by
  obtain ⟨⟨i, hi, hpos⟩, hm, _⟩ := hh
  have hpos' : h.pos % 4 = 0 ∧ h.pos ≤ 60 := by omega
  have hk : h.pos = 16 ∨ h.pos = 20 ∨ h.pos = 24 ∨ h.pos = 28 ∨ h.pos = 32 ∨ h.pos = 36 ∨ h.pos = 40 ∨ h.pos = 44 ∨ h.pos = 48 ∨ h.pos = 52 ∨ h.pos = 56 ∨ h.pos = 60 := by omega
  have hlab : isLab s.c l = true := by rw [isLab_iff, hf]; have := hs.2.1.1; omega
  unfold maskedS
  split
  · rename_i hmm
    obtain ⟨_, h1, h2⟩ := load_good hs (by omega) hpos'.1 hpos'.2 hlab
    refine ⟨(h1 hf).more (by omega), fun d st hd => ?_⟩
    rw [h2, hmm, and_full (word_le hd hk)]
  · obtain ⟨_, h1f, h2⟩ := ahead_good hs (by omega) (andX h.mask) ⟨by simp only [andX]; omega, by simp only [andX]; omega⟩ (plain_one (.inr (.inl rfl)) _) (and_one _) hlab (by simp [andX]) (by simp [andX]) (fun st => goes_and st _)
    have h1 := h1f hf
    obtain ⟨_, k1, k2⟩ := load_good h1.1 (by have := h1.len; omega) hpos'.1 hpos'.2 h1.lab
    refine ⟨h1.trans (k1 h1.2.2), fun d st hd => ?_⟩
    rw [k2, h2, show andX h.mask = ⟨84, 0, 0, (h.mask : Nat)⟩ from rfl, step_and _ _ _ (word_le hd hk) hm]
theorem branch_good {s : DS} (hs : Good s) (hl : s.c.length ≤ 3900) {op k t f : Int} (hop : jop op) (k0 : 0 ≤ k) (k1 : k ≤ 4294967295) (ht : isLab s.c t = true) (hf : isLab s.c f = true) :
    Front s (branchS s op k t f) 3 ∧ ((s.c.length : Int) - t ≤ 254 → Front s (branchS s op k t f) 2) ∧ ∀ d st, labR (branchS s op k t f).1.c d st (branchS s op k t f).2 = labR s.c d st (if takesS st ⟨op, 0, 0, k⟩ then t else f) := by
  obtain ⟨hr, hb⟩ := jop_right hop k
  have e : branchS s op k t f = (⟨brTo s.c op k t f :: nearC s.c t f, 0⟩, ((nearC s.c t f).length : Int) + 1) := by
    unfold branchS
    rw [takeS_ok hs.1]
    unfold branchN
    rw [hr, hb, ht, hf]
    rfl
  obtain ⟨p, hp⟩ := nearC_end s.c t f
  have hn := nearC_len s.c t f
  have hpl : p.length + s.c.length = (nearC s.c t f).length := by rw [hp, List.length_append]
  have hG : Good ⟨brTo s.c op k t f :: nearC s.c t f, 0⟩ := ⟨rfl, sound_cons (nearC_sound ht hf (by omega) hs.2.1) (by omega) (brTo_one k0 hr hb ht hf), ok_cons ⟨k0, k1⟩ (nearC_ok ht hf (by omega) hs.2.2)⟩
  rw [e]
  refine ⟨⟨hG, ⟨brTo s.c op k t f :: p, by simp only [hp, List.cons_append], by rw [List.length_cons]; omega⟩, by simp only [List.length_cons]; omega⟩, fun hnear => ⟨hG, ⟨brTo s.c op k t f :: p, by simp only [hp, List.cons_append], ?_⟩, by simp only [List.length_cons]; omega⟩, fun d st => labR_branch hs.2.1 hs.2.2 (by omega) d st hb ht hf⟩
  have h1 : (nearN s.c t).1 = s.c := by
    unfold nearN
    rw [if_pos hnear]
  have h2 : (nearC s.c t f).length ≤ s.c.length + 1 := by
    unfold nearC
    rw [h1]
    exact (nearN_len s.c f).2
  rw [List.length_cons]
  omega
theorem compare_good {s : DS} (hs : Good s) (hl : s.c.length ≤ 3880) {op t f : Int} (hop : jop op) {h : Hf} (hh : h.fine) (ht : isLab s.c t = true) (hf : isLab s.c f = true) :
    Front s (compareS s op h t f) 5 ∧ ∀ d st, d.ok → labR (compareS s op h t f).1.c d st (compareS s op h t f).2 = labR s.c d ⟨wordAtD d h.pos &&& h.mask, st.x, st.m⟩ (if takesS ⟨wordAtD d h.pos &&& h.mask, st.x, st.m⟩ ⟨op, 0, 0, (h.value : Nat)⟩ then t else f) := by
  obtain ⟨h1, _, h2⟩ := branch_good hs (by omega) hop (k := (h.value : Nat)) (by omega) (by have := hh.2.2; omega) ht hf
  obtain ⟨k1, k2⟩ := masked_good h1.1 (by have := h1.len; omega) hh h1.2.2
  unfold compareS
  exact ⟨h1.trans k1, fun d st hd => by rw [k2 d st hd, h2]⟩
/-- What the first branch of a test does, where a label is none. -/
theorem branch_bad {s : DS} (hs : s.e = 0) {op k t f : Int} (hop : jop op) (h : (isLab s.c t && isLab s.c f) = false) : (branchS s op k t f).1 = ⟨s.c, 4⟩ := by
  obtain ⟨hr, hb⟩ := jop_right hop k
  unfold branchS
  rw [takeS_ok hs]
  unfold branchN
  rw [hr, hb, h]
  rfl
theorem stuck_add {s : DS} (hs : ¬ s.e = 0) (x : X4) : (addS s x).1 = s := takeS_bad hs _
theorem stuck_ahead {s : DS} (hs : ¬ s.e = 0) (x : X4) (l : Int) : (aheadS s x l).1 = s := by
  unfold aheadS
  rw [takeS_bad hs]
  exact stuck_add hs x
theorem stuck_masked {s : DS} (hs : ¬ s.e = 0) (h : Hf) (l : Int) : (maskedS s h l).1 = s := by
  unfold maskedS
  split
  · exact stuck_ahead hs _ _
  · rw [stuck_ahead (by rw [stuck_ahead hs]; exact hs), stuck_ahead hs]
theorem stuck_branch {s : DS} (hs : ¬ s.e = 0) (op k t f : Int) : (branchS s op k t f).1 = s := takeS_bad hs _
theorem stuck_diff {s : DS} (hs : ¬ s.e = 0) (op k t f : Int) : (diffS s op k t f).1 = s := by
  unfold diffS
  split
  · rfl
  · exact stuck_branch hs _ _ _ _
theorem compare_bad {s : DS} (hs : s.e = 0) {op t f : Int} (hop : jop op) (hf : Hf) (h : (isLab s.c t && isLab s.c f) = false) : (compareS s op hf t f).1 = ⟨s.c, 4⟩ := by
  have hb := branch_bad (k := (hf.value : Nat)) hs hop h
  unfold compareS
  rw [hb]
  exact stuck_masked (show ¬ (4 : Int) = 0 by decide) _ _
theorem both_bad {s : DS} (hs : s.e = 0) {op t f : Int} (hop : jop op) (lo hi : Hf) (h : (isLab s.c t && isLab s.c f) = false) : (bothS s op lo hi t f).1 = ⟨s.c, 4⟩ := by
  have hb := compare_bad hs hop lo h
  have h4 : ¬ (⟨s.c, 4⟩ : DS).e = 0 := by show ¬ (4 : Int) = 0; decide
  have hd := stuck_diff h4 op (hi.value : Nat) t f
  have e1 : (diffS (compareS s op lo t f).1 op (hi.value : Nat) t f).1 = ⟨s.c, 4⟩ := by rw [hb, hd]
  have e2 : ∀ a b, (branchS (diffS (compareS s op lo t f).1 op (hi.value : Nat) t f).1 21 (hi.value : Nat) a b).1 = ⟨s.c, 4⟩ := fun a b => by rw [e1]; exact stuck_branch h4 _ _ _ _
  unfold bothS
  rw [e2]
  exact stuck_masked h4 _ _
theorem testD_bad {s : DS} (hs : s.e = 0) {op t f : Int} (hop : jop op) (lo hi : Hf) (h : (isLab s.c t && isLab s.c f) = false) : (testD s op lo hi t f).1 = ⟨s.c, 4⟩ := by
  unfold testD
  split
  · exact compare_bad hs hop _ h
  split
  · exact compare_bad hs hop _ h
  · exact both_bad hs hop _ _ h
theorem opK_jop (k : Int) : jop (opK k) := by
  unfold opK jop
  split
  · exact .inl rfl
  split
  · exact .inr (.inl rfl)
  · exact .inr (.inr rfl)
theorem testS_bad {s : DS} (hs : s.e = 0) (x : Cd) {t f : Int} (h : (isLab s.c t && isLab s.c f) = false) : (testS s x t f).1 = ⟨s.c, 4⟩ := by
  unfold testS
  split
  · exact testD_bad hs (opK_jop _) _ _ h
  · exact testD_bad hs (opK_jop _) _ _ (by rw [Bool.and_comm]; exact h)
theorem ltest_arg {c : List X4} {x : Cd} {t f : Int} (h : x.right = false) : testN c x t f = (c, 0, 1) := by
  unfold testN
  rw [h]
  rfl
theorem ltest_jump {c : List X4} {x : Cd} {t f : Int} (h : x.right = true) (hl : (isLab c t && isLab c f) = false) : testN c x t f = (c, 0, 4) := by
  unfold testN
  rw [if_pos h, testS_bad rfl x hl]
  rfl

/-! ### What a test does -/
theorem takes_jop (st : St) {op : Int} (hop : jop op) (k : Nat) : takesS st ⟨op, 0, 0, (k : Nat)⟩ = if op = 21 then st.a == k else if op = 37 then decide (k < st.a) else decide (k ≤ st.a) := by
  rcases hop with rfl | rfl | rfl
  · rw [takes_eq]; rfl
  · rw [takes_gt]; rfl
  · rw [takes_ge]; rfl
/-- What two halves say. -/
def saysH (op : Int) (H L a b : Nat) : Bool := if op = 21 then H == a && L == b else if op = 37 then decide (a < H) || (H == a && decide (b < L)) else decide (a < H) || (H == a && decide (b ≤ L))
theorem both_good {s : DS} (hs : Good s) (hl : s.c.length ≤ 3860) {op t f : Int} (hop : jop op) {lo hi : Hf} (hlo : lo.fine) (hhi : hi.fine) (ht : isLab s.c t = true) (hf : isLab s.c f = true) :
    Front s (bothS s op lo hi t f) 12 ∧ ∀ d st, d.ok → ∃ a, labR (bothS s op lo hi t f).1.c d st (bothS s op lo hi t f).2 = labR s.c d ⟨a, st.x, st.m⟩ (if saysH op (wordAtD d hi.pos &&& hi.mask) (wordAtD d lo.pos &&& lo.mask) hi.value lo.value then t else f) := by
  obtain ⟨c1, c2⟩ := compare_good hs (by omega) hop hlo ht hf
  have cl := c1.len
  have hv : (0 : Int) ≤ (hi.value : Nat) ∧ ((hi.value : Nat) : Int) ≤ 4294967295 := by have := hhi.2.2; omega
  obtain ⟨P, hP⟩ : ∃ P, P = compareS s op lo t f := ⟨_, rfl⟩
  rw [← hP] at c1 c2 cl
  -- the records whose more significant halves differ
  obtain ⟨Q, hQ, q1, q2, q3, q4⟩ : ∃ Q, Q = diffS P.1 op (hi.value : Nat) t f ∧ Good Q.1 ∧ (∃ p : List X4, Q.1.c = p ++ P.1.c ∧ p.length ≤ 3) ∧ isLab Q.1.c Q.2 = true ∧
      ∀ d st, labR Q.1.c d st Q.2 = labR s.c d st (if op = 21 then f else if takesS st ⟨op, 0, 0, (hi.value : Nat)⟩ then t else f) := by
    refine ⟨_, rfl, ?_⟩
    unfold diffS
    by_cases h21 : op = 21
    · rw [if_pos h21]
      exact ⟨c1.1, ⟨[], rfl, by simp⟩, c1.old hf, fun d st => by rw [if_pos h21]; exact c1.run hs d st hf⟩
    · rw [if_neg h21]
      obtain ⟨b1, _, b2⟩ := branch_good c1.1 (by omega) hop hv.1 hv.2 (c1.old ht) (c1.old hf)
      refine ⟨b1.1, b1.2.1, b1.lab, fun d st => ?_⟩
      rw [b2, if_neg h21]
      split
      · exact c1.run hs d st ht
      · exact c1.run hs d st hf
  obtain ⟨p, hp, hpn⟩ := q2
  have qP : isLab Q.1.c P.2 = true := lab_more c1.lab (by rw [hp, List.length_append]; omega)
  have hql : P.1.c.length ≤ Q.1.c.length ∧ Q.1.c.length ≤ P.1.c.length + 3 := by rw [hp, List.length_append]; omega
  obtain ⟨_, b1, b2⟩ := branch_good (op := 21) (k := (hi.value : Nat)) q1 (by omega) (.inl rfl) hv.1 hv.2 qP q3
  have b1 := b1 (by rw [c1.2.2]; omega)
  have bl := b1.len
  obtain ⟨m1, m2⟩ := masked_good b1.1 (by omega) hhi b1.2.2
  have eb : bothS s op lo hi t f = maskedS (branchS Q.1 21 (hi.value : Nat) P.2 Q.2).1 hi (branchS Q.1 21 (hi.value : Nat) P.2 Q.2).2 := by rw [hQ, hP]; rfl
  rw [eb]
  have fr : Front s (maskedS (branchS Q.1 21 (hi.value : Nat) P.2 Q.2).1 hi (branchS Q.1 21 (hi.value : Nat) P.2 Q.2).2) 12 := by
    obtain ⟨_, ⟨pc, hpc, hn⟩, _⟩ := c1
    obtain ⟨_, ⟨pb, hpb, hbn⟩, _⟩ := b1
    obtain ⟨gm, ⟨pm, hpm, hmn⟩, em⟩ := m1
    exact ⟨gm, ⟨pm ++ (pb ++ (p ++ pc)), by rw [hpm, hpb, hp, hpc]; simp only [List.append_assoc], by simp only [List.length_append]; omega⟩, em⟩
  refine ⟨fr, fun d st hd => ?_⟩
  have hm := m2 d st hd
  rw [b2] at hm
  obtain ⟨H, hH⟩ : ∃ H, H = wordAtD d hi.pos &&& hi.mask := ⟨_, rfl⟩
  obtain ⟨L, hL⟩ : ∃ L, L = wordAtD d lo.pos &&& lo.mask := ⟨_, rfl⟩
  rw [← hH] at hm ⊢
  rw [← hL]
  rw [takes_eq] at hm
  by_cases he : H = hi.value
  · -- the halves are alike: the other ones decide
    have e1 : ((⟨H, st.x, st.m⟩ : St).a == hi.value) = true := by simpa using he
    rw [e1, if_pos rfl] at hm
    have e2 : labR Q.1.c d ⟨H, st.x, st.m⟩ P.2 = labR P.1.c d ⟨H, st.x, st.m⟩ P.2 := by rw [hp]; exact labR_app c1.1.2.1 c1.1.2.2 p d _ c1.lab
    rw [e2, c2 d _ hd, ← hL, takes_jop _ hop] at hm
    refine ⟨L, ?_⟩
    rw [hm]
    have e3 : (if op = 21 then L == lo.value else if op = 37 then decide (lo.value < L) else decide (lo.value ≤ L)) = saysH op H L hi.value lo.value := by
      unfold saysH
      have e4 : (H == hi.value) = true := by simpa using he
      have e5 : decide (hi.value < H) = false := by simp; omega
      rw [e4, e5]
      simp only [Bool.true_and, Bool.false_or]
    rw [← e3]
  · have e1 : ((⟨H, st.x, st.m⟩ : St).a == hi.value) = false := by simpa using he
    rw [e1, if_neg (by decide), q4, takes_jop _ hop] at hm
    refine ⟨H, ?_⟩
    rw [hm]
    have e4 : (H == hi.value) = false := by simpa using he
    unfold saysH
    rw [e4]
    rcases hop with rfl | rfl | rfl
    · rfl
    · simp
    · have e6 : decide (hi.value ≤ H) = decide (hi.value < H) := by rw [Bool.eq_iff_iff]; simp; omega
      simp [e6]
theorem loH_fine {x : Cd} (hr : x.right = true) : (loH x).fine := by
  have := x.right_iff.1 hr
  exact ⟨⟨x.arg.toNat, by omega, .inl rfl⟩, by show x.mask % 4294967296 ≤ _; omega, by show x.value % 4294967296 ≤ _; omega⟩
theorem hiH_fine {x : Cd} (hr : x.right = true) (hx : x.ok) : (hiH x).fine := by
  have := x.right_iff.1 hr
  obtain ⟨a, b⟩ := hx
  exact ⟨⟨x.arg.toNat, by omega, .inr rfl⟩, by show x.mask / 4294967296 ≤ _; omega, by show x.value / 4294967296 ≤ _; omega⟩
theorem ties_zero {h : Hf} (ht : h.ties = true) (v : Nat) : v &&& h.mask = h.value := by
  unfold Hf.ties at ht
  simp only [Bool.and_eq_true, beq_iff_eq] at ht
  rw [ht.1, ht.2, Nat.and_zero]
theorem testD_good {s : DS} (hs : Good s) (hl : s.c.length ≤ 3860) {op t f : Int} (hop : jop op) {lo hi : Hf} (hlo : lo.fine) (hhi : hi.fine) (ht : isLab s.c t = true) (hf : isLab s.c f = true) :
    Front s (testD s op lo hi t f) 12 ∧ ∀ d st, d.ok → ∃ a, labR (testD s op lo hi t f).1.c d st (testD s op lo hi t f).2 = labR s.c d ⟨a, st.x, st.m⟩ (if saysH op (wordAtD d hi.pos &&& hi.mask) (wordAtD d lo.pos &&& lo.mask) hi.value lo.value then t else f) := by
  unfold testD
  split
  · rename_i hti
    obtain ⟨h1, h2⟩ := compare_good hs (by omega) hop hlo ht hf
    refine ⟨h1.more (by omega), fun d st hd => ⟨wordAtD d lo.pos &&& lo.mask, ?_⟩⟩
    rw [h2 d st hd, takes_jop _ hop]
    have e : wordAtD d hi.pos &&& hi.mask = hi.value := ties_zero hti _
    unfold saysH
    rw [e]
    simp
  split
  · rename_i hti
    obtain ⟨h1, h2⟩ := compare_good hs (by omega) hop hhi ht hf
    refine ⟨h1.more (by omega), fun d st hd => ⟨wordAtD d hi.pos &&& hi.mask, ?_⟩⟩
    rw [h2 d st hd, takes_jop _ hop]
    have e : wordAtD d lo.pos &&& lo.mask = lo.value := ties_zero hti _
    unfold saysH
    rw [e]
    obtain ⟨H, hH⟩ : ∃ H, H = wordAtD d hi.pos &&& hi.mask := ⟨_, rfl⟩
    rw [← hH]
    have e6 : decide (hi.value ≤ H) = (decide (hi.value < H) || H == hi.value) := by rw [Bool.eq_iff_iff]; simp; omega
    rcases hop with rfl | rfl | rfl
    · simp
    · simp
    · simp [e6]
  · exact both_good hs hl hop hlo hhi ht hf
theorem says_dir {x : Cd} (hr : x.right = true) (hd : dirK x.cmp = true) (d : Rec) : saysH (opK x.cmp) (wordAtD d (hiH x).pos &&& (hiH x).mask) (wordAtD d (loH x).pos &&& (loH x).mask) (hiH x).value (loH x).value = x.holds d := by
  rw [holds_parts x d hr]
  show saysH (opK x.cmp) (hiB x d) (loB x d) (x.value / 4294967296) (x.value % 4294967296) = _
  unfold dirK at hd
  simp only [Bool.or_eq_true, beq_iff_eq] at hd
  unfold saysH opK
  rcases hd with (h | h) | h <;> rw [h] <;> rfl
theorem dir_not {x : Cd} (hr : x.right = true) (hd : dirK x.cmp = false) : dirK x.not.cmp = true := by
  have h := x.right_iff.1 hr
  unfold Cd.not
  rw [if_pos hr]
  show dirK (notK x.cmp) = true
  rcases six h.2.2.1 h.2.2.2 with h | h | h | h | h | h <;> rw [h] at hd ⊢ <;> first | rfl | exact absurd hd (by decide)
theorem not_halves {x : Cd} (hr : x.right = true) : loH x.not = loH x ∧ hiH x.not = hiH x := by
  unfold Cd.not
  rw [if_pos hr]
  exact ⟨rfl, rfl⟩
theorem test_good {s : DS} (hs : Good s) (hl : s.c.length ≤ 3860) {x : Cd} (hr : x.right = true) (hx : x.ok) {t f : Int} (ht : isLab s.c t = true) (hf : isLab s.c f = true) :
    Front s (testS s x t f) 12 ∧ ∀ d st, d.ok → ∃ a, labR (testS s x t f).1.c d st (testS s x t f).2 = labR s.c d ⟨a, st.x, st.m⟩ (if x.holds d then t else f) := by
  unfold testS
  split
  · rename_i hdir
    obtain ⟨h1, h2⟩ := testD_good hs hl (opK_jop x.cmp) (loH_fine hr) (hiH_fine hr hx) ht hf
    refine ⟨h1, fun d st hd => ?_⟩
    obtain ⟨a, ha⟩ := h2 d st hd
    rw [says_dir hr hdir d] at ha
    exact ⟨a, ha⟩
  · rename_i hdir
    have hdir : dirK x.cmp = false := by simpa using hdir
    obtain ⟨h1, h2⟩ := testD_good hs hl (opK_jop x.not.cmp) (loH_fine hr) (hiH_fine hr hx) hf ht
    refine ⟨h1, fun d st hd => ?_⟩
    obtain ⟨a, ha⟩ := h2 d st hd
    have e := says_dir (not_right hr) (dir_not hr hdir) d
    rw [(not_halves hr).1, (not_halves hr).2] at e
    rw [e, holds_not hr d] at ha
    refine ⟨a, ?_⟩
    rw [ha]
    cases x.holds d <;> rfl
/-- What Test makes of sound code. -/
theorem ltest_ok {c : List X4} {x : Cd} {t f : Int} (h : x.right = true) (hx : x.ok) (ht : isLab c t = true) (hf : isLab c f = true) (hs : SoundL c) (hok : ∀ y ∈ c, y.ok) (hl : c.length ≤ 500) :
    ∃ p : List X4, testN c x t f = (p ++ c, (((p ++ c).length : Nat) : Int), 0) ∧ p.length ≤ 16 ∧ SoundL (p ++ c) ∧ (∀ y ∈ p ++ c, y.ok) ∧ ∀ (d : Rec) (s : St), d.ok → s.ok → ∃ a : Nat, labR (p ++ c) d s ((p ++ c).length : Nat) = labR c d ⟨a, s.x, s.m⟩ (if x.holds d then t else f) := by
  obtain ⟨⟨g, ⟨p, hp, hn⟩, e⟩, hrun⟩ := test_good (s := ⟨c, 0⟩) ⟨rfl, hs, hok⟩ (by show c.length ≤ _; omega) h hx ht hf
  simp only at hp
  refine ⟨p, ?_, by omega, hp ▸ g.2.1, hp ▸ g.2.2, fun d s hd _ => ?_⟩
  · unfold testN resultN
    rw [if_pos h, if_pos g.1, hp]
  · obtain ⟨a, ha⟩ := hrun d s hd
    rw [e, hp] at ha
    exact ⟨a, ha⟩
end Go.Proofs.YtbekkdhlfkongaaGreatDoor
/-
  slices.Grow and slices.Concat of instructions; code.put.
-/
namespace Go.Proofs.YtbekkdhlfkongaaGreatDoor
open Go.ChangeShapes Go.WideShapes Go.ChangeAt Go.RowKit
set_option maxRecDepth 20000

theorem infoXH : (Tryz.prog.info? 64).map (fun i => (i.zero, i.size, i.bytes)) = some (some (.agg #[.int .i64 0, .int .i64 0, .int .i64 0, .int .u32 0]), 4, 32) := by kernel_rfl
/-- A slice is no longer than there is room. -/
def CapF (v : Value) : Prop := ∃ ao n cap, v = .slice ao n cap ∧ n ≤ cap ∧ cap ≤ 9223372036854775807
theorem CapF.own {w : World} {base : Nat} {e : TypeId} {size : Nat} {v : Value} {n : Nat} {xs : List Value} (h : w.ownsRow base e size v n xs) : CapF v := by
  rcases h.2 with ⟨rfl, h0⟩ | ⟨g, cap, cur, rfl, _, _, hc, hm, _⟩
  · exact ⟨none, 0, 0, rfl, Nat.le_refl _, by omega⟩
  · unfold maxLen at hm
    exact ⟨_, _, _, rfl, hc, hm⟩
theorem CapF.nil : CapF (.slice none 0 0) := ⟨none, 0, 0, rfl, Nat.le_refl _, by omega⟩
/-- Code that lies in a world, in a slice that is well made. -/
def CdAt (w : World) (v : Value) (l : List X4) : Prop := FAt w v l ∧ CapF v
theorem CdAt.below {w w' : World} {v : Value} {l : List X4} (h : CdAt w v l) (hb : Below w.heap.size w w') : CdAt w' v l := ⟨h.1.below hb, h.2⟩
theorem CdAt.own {w : World} {base : Nat} {e : TypeId} {v : Value} {n : Nat} {l : List X4} (h : w.ownsRow base e 4 v n (fcells l)) (hn : n = l.length) : CdAt w v l := ⟨FAt.own h hn, CapF.own h⟩
theorem CdAt.shape {w : World} {v : Value} {l : List X4} (h : CdAt w v l) : ∃ ao cap, v = .slice ao l.length cap := h.1.shape

/-- What is put into one block leaves the code as it is. -/
def Stays (g : Nat) (v : Value) (l : List X4) : Prop := ∀ (W W' : World) (o : Obj), RowPut W W' g o → FAt W v l → FAt W' v l
theorem stays_block {b off n cap g : Nat} {l : List X4} (hb : b ≠ g) : Stays g (.slice (some ⟨b, off, none⟩) n cap) l := by
  intro W W' o hp h
  obtain ⟨ao, cp, e, h⟩ := h
  refine ⟨ao, cp, e, h.imp id ?_⟩
  rintro ⟨b', off', rfl, hl, hc⟩
  cases e
  have hc2 : ∀ p, W'.cell? ⟨b, p, none⟩ = W.cell? ⟨b, p, none⟩ := fun p => by simp only [World.cell?, hp.rest b hb]
  refine ⟨b, off, rfl, by rw [hp.size]; exact hl, fun i hi => ?_⟩
  rw [hc2, hc2, hc2, hc2]
  exact hc i hi
theorem stays_nil {g : Nat} {v : Value} : Stays g v [] := by
  intro W W' o _ h
  obtain ⟨ao, cp, e, _⟩ := h
  exact ⟨ao, cp, e, .inl rfl⟩
theorem stays_at {w : World} {v : Value} {l : List X4} {g : Nat} (h : FAt w v l) (hg : w.heap.size ≤ g) : Stays g v l := by
  obtain ⟨ao, cp, rfl, h⟩ := h
  rcases h with rfl | ⟨b, off, rfl, hl, _⟩
  · exact stays_nil
  · exact stays_block (by omega)
theorem stays_own {w : World} {base : Nat} {e : TypeId} {v : Value} {n : Nat} {l : List X4} (h : w.ownsRow base e 4 v n (fcells l)) (hn : n = l.length) : ∀ g, g < base → Stays g v l := by
  intro g hg
  rcases h.2 with ⟨rfl, h0⟩ | ⟨b, cap, cur, rfl, hb, _⟩
  · obtain rfl : l = [] := List.eq_nil_of_length_eq_zero (by omega)
    exact stays_nil
  · exact stays_block (by omega)
theorem FAt.src_m {w : World} {v : Value} {l : List X4} {n : Nat} (h : FAt w v l) (hn : n = l.length) : SrcAt w 4 v n (fcells l) := by
  rw [hn]
  exact h.src
set_option maxHeartbeats 4000000 in
set_option maxRecDepth 100000 in
theorem hgrow_any (n : Nat) (w : World) (hn : n ≤ 5000) :
    Calls Tryz.prog 158 #[.slice none 0 0, .int .i64 (n : Nat)] w fun e w' => (∃ v, e = .returned v ∧ w'.ownsRow w.heap.size 64 4 v 0 []) ∧ Below w.heap.size w w' := by
  obtain ⟨i0, hi, hz0, hz1, hz2⟩ := info_parts infoXH
  by_cases h0 : n = 0
  · subst h0
    go_enter Tryz.func158, Tryz.ntmps158
    go_wp2_with fail
    go_ret
    exact ⟨⟨_, rfl, rfl, .inl ⟨rfl, rfl⟩⟩, Below.refl _ _⟩
  · have h1 : (0 : Int) < n := by omega
    have hfit : Builtin.nextslicecap (0 + n) 0 * i0.bytes ≤ 281474976710656 := growslice_fits (by omega) (by rw [hz2]; omega)
    have hr : ∀ ty, (Builtin.append_ #[32, 3] ty #[.slice none 0 0, .int .i64 (n : Nat)]).run Tryz.prog w = _ := fun ty =>
      Lib.run_append_grow_zeros w 32 3 ty 64 i0 (.agg #[.int .i64 0, .int .i64 0, .int .i64 0, .int .u32 0]) .i64 .i64 Tryz.underlying32 Tryz.underlying3 hi hz0 none 0 0 [] (run_firstCells_none w.drew i0.size 0 0 0) n (by omega) (by omega) (by omega) (by omega) (by rw [hz2]; omega) hfit
    have hG := grownCap_ge w (0 + n) 0 64
    have hG2 := grownCap_le_maxLen w (0 + n) 0 64 (by unfold maxLen; omega)
    generalize grownCap w (0 + n) 0 64 = G at hr hG hG2
    have hsz : (#[] ++ Builtin.zeroCells (Value.agg #[.int .i64 0, .int .i64 0, .int .i64 0, .int .u32 0]).cells n ++ Builtin.zeroCells (Value.agg #[.int .i64 0, .int .i64 0, .int .i64 0, .int .u32 0]).cells (G - (0 + n))).size = G * 4 := by
      rw [Array.size_append, Array.size_append, size_zeroCells, size_zeroCells]
      simp [Value.cells]
      omega
    have hr' : ∀ ty, (Builtin.append_ #[32, 3] ty #[.slice none 0 0, .int .i64 (n : Nat)]).run Tryz.prog w = .ok (.slice (some ⟨w.heap.size, 0, none⟩) (0 + n) G) (w.drew.alloc (.cells (#[] ++ Builtin.zeroCells (Value.agg #[.int .i64 0, .int .i64 0, .int .i64 0, .int .u32 0]).cells n ++ Builtin.zeroCells (Value.agg #[.int .i64 0, .int .i64 0, .int .i64 0, .int .u32 0]).cells (G - (0 + n))) 64)) := hr
    clear hr hfit
    generalize (#[] ++ Builtin.zeroCells (Value.agg #[.int .i64 0, .int .i64 0, .int .i64 0, .int .u32 0]).cells n ++ Builtin.zeroCells (Value.agg #[.int .i64 0, .int .i64 0, .int .i64 0, .int .u32 0]).cells (G - (0 + n))) = cs at hr' hsz
    rw [Nat.zero_add] at hr' hG
    have HEnd : Hid ((∃ v, (Ending.returned (.slice (some ⟨w.heap.size, 0, none⟩) 0 G)) = .returned v ∧ (w.drew.alloc (.cells cs 64)).ownsRow w.heap.size 64 4 v 0 []) ∧ Below w.heap.size w (w.drew.alloc (.cells cs 64))) := Lib.hid
      ⟨⟨_, rfl, by simp, .inr ⟨w.heap.size, G, cs, rfl, Nat.le_refl _, heap_alloc_new w.drew _, by omega, hG2, hsz, by simp⟩⟩, ba _ (bdN (Below.refl w.heap.size w) 1)⟩
    have hG3 : G ≤ 9223372036854775807 := by unfold maxLen at hG2; omega
    have hG4 : n ≤ G := hG
    clear hsz hG hG2 hi hz0 hz1 hz2
    go_enter Tryz.func158, Tryz.ntmps158
    go_wp2_with (at_builtin; refine Lib.wpList_append_run _ rfl _ _ _ _ rfl _ _ rfl rfl _ _ (hr' _) ?_)
    all_goals (go_ret; exact HEnd.out)

/-- Of two slices, the first so many. -/
def sumN (a b : Nat) : Nat → Nat
  | 0 => 0
  | 1 => a
  | _ => a + b
def catN (k l : List X4) : Nat → List X4
  | 0 => []
  | 1 => k
  | _ => k ++ l
set_option maxHeartbeats 4000000 in
/-- What stands in two slices, one behind the other. -/
theorem hconcat_any (u v : Value) (k l : List X4) (g cap : Nat) (w : World) (hk : FAt w u k) (hl : FAt w v l) (c0 : w.cell? ⟨g, 0, none⟩ = some u) (c1 : w.cell? ⟨g, 1, none⟩ = some v) (hg : g < w.heap.size) (hn : k.length + l.length ≤ 5000) :
    Calls Tryz.prog 138 #[.slice (some ⟨g, 0, none⟩) 2 cap] w fun e w' => (∃ r, e = .returned r ∧ CdAt w' r (k ++ l) ∧ ∀ b, b < w.heap.size → Stays b r (k ++ l)) ∧ Below w.heap.size w w' := by
  obtain ⟨i0, hi, hz0, hz1, hz2⟩ := info_parts infoXH
  obtain ⟨ao, ca, rfl⟩ := hk.shape
  obtain ⟨bo, cb, rfl⟩ := hl.shape
  obtain ⟨m, hm⟩ : ∃ m, m = k.length := ⟨_, rfl⟩
  obtain ⟨n, hnn⟩ : ∃ n, n = l.length := ⟨_, rfl⟩
  rw [← hm, ← hnn] at hn
  rw [← hm] at c0 hk
  rw [← hnn] at c1 hl
  have HK := Lib.hid hk
  have HL := Lib.hid hl
  have HM := Lib.hid hm
  have HN := Lib.hid hnn
  have C0 := Lib.hid c0
  have C1 := Lib.hid c1
  clear hk hl hm hnn
  go_enter Tryz.func138, Tryz.ntmps138
  go_wp2_with fail
  go_loopw [3, 11] (fun z i wr => ∃ r : Nat, r ≤ 2 ∧ i = .int .i64 r ∧ z = .int .i64 (sumN m n r : Nat) ∧ w = wr) (fun _ i _ => 2 - (intOf i).toNat)
  case atStart => exact ⟨0, by omega, rfl, rfl, rfl⟩
  case round =>
    obtain ⟨r, hr, rfl, rfl, rfl⟩ := hrel
    match r, hr with
    | 0, _ =>
      have hs : ((sumN m n 0 : Nat) : Int) = 0 := rfl
      rw [hs]
      clear c1
      go_wp2_with fail
      go_roundw
      case rel => exact ⟨1, by omega, rfl, by show _ = Value.int .i64 ((m : Nat) : Int); go_num, trivial⟩
      case measure => simp [intOf]
    | 1, _ =>
      have hs : ((sumN m n 1 : Nat) : Int) = m := rfl
      rw [hs]
      clear c0
      go_wp2_with fail
      go_roundw
      case rel => exact ⟨2, by omega, rfl, by show _ = Value.int .i64 ((m + n : Nat) : Int); go_num, trivial⟩
      case measure => simp [intOf]
    | 2, _ =>
      have hs : ((sumN m n 2 : Nat) : Int) = ((m + n : Nat) : Int) := rfl
      rw [hs]
      clear c0 c1
      go_wp2_with fail
      refine (hgrow_any (m + n) _ (by omega)).mono ?_
      rintro e w1 ⟨⟨v1, rfl, ho1⟩, hb1⟩
      have HO1 := Lib.hid ho1
      have HB1 := Lib.hid hb1
      clear ho1 hb1 hs
      go_wp2_with fail
      go_loopw [6, 27] (fun u i wr => ∃ r : Nat, r ≤ 2 ∧ i = .int .i64 r ∧ wr.ownsRow w.heap.size 64 4 u (sumN m n r) (fcells (catN k l r)) ∧ Below w.heap.size w wr) (fun _ i _ => 2 - (intOf i).toNat)
      case atStart => exact ⟨0, by omega, rfl, HO1.out, HB1.out⟩
      case round =>
        obtain ⟨r, hr, rfl, ho, hb⟩ := hrel
        have HO := Lib.hid ho
        have HB := Lib.hid hb
        match r, hr with
        | 0, _ =>
          have c0 := (hb.cell (p := ⟨g, 0, none⟩) hg).trans C0.out
          have hsz := hb.size
          clear ho hb
          go_wp2_with (at_builtin; refine wpList_append_src _ rfl _ _ 32 rfl w.heap.size 64 i0 (.agg #[.int .i64 0, .int .i64 0, .int .i64 0, .int .u32 0]) 4 32 Tryz.underlying32 hi hz0 hz1 hz2 rfl (by decide) _ 0 [] rfl HO.out _ m (fcells k) rfl (FAt.src_m (HK.out.below HB.out) HM.out) (fcells_one' k) (by unfold maxLen; omega) (by omega) hsz ?_)
          intro v2 w2 hown hgrow
          have HB2 := Lib.hid (grown_below HB.out HO.out hgrow hsz)
          have HO2 := Lib.hid hown
          clear hown hgrow c0 hsz
          go_wp2_with fail
          go_roundw
          case rel => exact ⟨1, by omega, rfl, HO2.out, HB2.out⟩
          case measure => simp [intOf]
        | 1, _ =>
          have c1 := (hb.cell (p := ⟨g, 1, none⟩) hg).trans C1.out
          have hsz := hb.size
          clear ho hb
          go_wp2_with (at_builtin; refine wpList_append_src _ rfl _ _ 32 rfl w.heap.size 64 i0 (.agg #[.int .i64 0, .int .i64 0, .int .i64 0, .int .u32 0]) 4 32 Tryz.underlying32 hi hz0 hz1 hz2 rfl (by decide) _ m (fcells k) rfl HO.out _ n (fcells l) rfl (FAt.src_m (HL.out.below HB.out) HN.out) (fcells_one' l) (by unfold maxLen; omega) (by omega) hsz ?_)
          intro v2 w2 hown hgrow
          have HB2 := Lib.hid (grown_below HB.out HO.out hgrow hsz)
          have HO2 := Lib.hid hown
          clear hown hgrow c1 hsz
          go_wp2_with fail
          go_roundw
          case rel => exact ⟨2, by omega, rfl, by have h := HO2.out; rw [← fcells_app] at h; exact h, HB2.out⟩
          case measure => simp [intOf]
        | 2, _ =>
          have HE := Lib.hid (CdAt.own (l := k ++ l) ho (by rw [List.length_append, ← HM.out, ← HN.out]; rfl))
          have HS := Lib.hid (stays_own (l := k ++ l) ho (by rw [List.length_append, ← HM.out, ← HN.out]; rfl))
          clear ho hb
          go_wp2_with fail
          go_ret
          exact ⟨⟨_, rfl, HE.out, HS.out⟩, HB.out⟩

/-- What the program's functions answer: code, a label, an error; where the code was made, it lies in no block that was there. -/
def GEnd (B : Nat) (v : Value) (c : List X4) (g : G3) (w' : World) (e : Ending) : Prop := ∃ v', CdAt w' v' g.1 ∧ (∀ b, b < B → Stays b v c → Stays b v' g.1) ∧ e = .returned (.tuple #[v', .int .i64 g.2.1, .int .i64 g.2.2])
theorem gEnd_same {B : Nat} {g : G3} {w' : World} {v : Value} {c : List X4} {l er : Int} (hg : g = (c, l, er)) (h : CdAt w' v c) : GEnd B v c g w' (.returned (.tuple #[v, .int .i64 l, .int .i64 er])) := by
  rw [hg]
  exact ⟨v, h, fun _ _ h => h, rfl⟩
theorem gEnd_new {B : Nat} {g : G3} {w' : World} {v u : Value} {c d : List X4} {l er : Int} (hg : g = (d, l, er)) (h : CdAt w' u d) (hs : ∀ b, b < B → Stays b u d) : GEnd B v c g w' (.returned (.tuple #[u, .int .i64 l, .int .i64 er])) := by
  rw [hg]
  exact ⟨u, h, fun b hb _ => hs b hb, rfl⟩
set_option maxHeartbeats 4000000 in
/-- What code.put answers, where there is room. -/
theorem hput_any (u v : Value) (k l c : List X4) (w : World) (hk : CdAt w u k) (hl : CdAt w v l) (hc : c = k ++ l) (hn : c.length ≤ 4096) :
    Calls Tryz.prog 101 #[v, u] w fun e w' => (∃ r, CdAt w' r c ∧ (∀ b, b < w.heap.size → Stays b r c) ∧ e = .returned (.tuple #[r, .int .i64 (c.length : Nat), .int .i64 0])) ∧ Below w.heap.size w w' := by
  obtain ⟨ao, ca, rfl⟩ := hk.shape
  obtain ⟨bo, cb, rfl⟩ := hl.shape
  have hcl : c.length = k.length + l.length := by rw [hc, List.length_append]
  have HK := Lib.hid hk
  have HL := Lib.hid hl
  have HC := Lib.hid hc
  have HCL := Lib.hid hcl
  have hs : (k.length : Int) + (l.length : Int) = (c.length : Nat) := by omega
  clear hk hl hc hcl
  go_enter Tryz.func101, Tryz.ntmps101
  go_wp2_with fail
  have hb := ba (.cells #[.slice ao k.length ca, .slice bo l.length cb] 32) (Below.refl w.heap.size w)
  refine (hconcat_any _ _ k l w.heap.size _ _ (HK.out.1.below hb) (HL.out.1.below hb) (cell_in (heap_alloc_new w (.cells #[.slice ao k.length ca, .slice bo l.length cb] 32)) 0) (cell_in (heap_alloc_new w (.cells #[.slice ao k.length ca, .slice bo l.length cb] 32)) 1) (by rw [size_alloc]; omega) (by rw [← HCL.out]; omega)).mono ?_
  rintro e w1 ⟨⟨r, rfl, hr, hst⟩, hb1⟩
  rw [← HC.out] at hr hst
  have HB := Lib.hid (below2 hb hb1)
  have HE := Lib.hid hr
  have HS : Hid (∀ b, b < w.heap.size → Stays b r c) := Lib.hid (fun b hbb => hst b (Nat.lt_of_lt_of_le hbb hb.size))
  obtain ⟨ro, rc, rfl⟩ := hr.shape
  clear hb hb1 hr hst
  go_wp2_with fail
  go_ret3
  exact ⟨⟨_, HE.out, HS.out, rfl⟩, HB.out⟩
end Go.Proofs.YtbekkdhlfkongaaGreatDoor
/-
  What Add, Jump and Branch of package code answer.
-/
namespace Go.Proofs.YtbekkdhlfkongaaGreatDoor
open Go.ChangeShapes Go.WideShapes Go.ChangeAt Go.RowKit
set_option maxRecDepth 20000

theorem hdist_any (v : Value) (c : List X4) (l : Int) (w : World) (hF : CdAt w v c) (h0 : -9223372036854775808 ≤ (c.length : Int) - l) (h1 : (c.length : Int) - l ≤ 9223372036854775807) :
    Calls Tryz.prog 102 #[v, .int .i64 l] w fun e w' => e = .returned (.int .i64 ((c.length : Int) - l)) ∧ w = w' := by
  obtain ⟨ao, cap, rfl⟩ := hF.shape
  clear hF
  have hw : IntKind.i64.wrap ((c.length : Int) - l) = (c.length : Int) - l := by rw [IntKind.wrap_i64]; omega
  go_enter Tryz.func102, Tryz.ntmps102
  go_wp2_with fail
  go_ret
  exact ⟨rfl, rfl⟩
theorem hlab_any (v : Value) (c : List X4) (l : Int) (w : World) (hF : CdAt w v c) :
    Calls Tryz.prog 100 #[v, .int .i64 l] w fun e w' => e = .returned (.bool (isLab c l)) ∧ w = w' := by
  obtain ⟨ao, cap, rfl⟩ := hF.shape
  clear hF
  unfold isLab
  have go : ∀ b : Bool, decide (1 ≤ l) = b → Calls Tryz.prog 100 #[.slice ao c.length cap, .int .i64 l] w fun e w' => e = .returned (.bool (b && decide (l ≤ c.length))) ∧ w = w' := by
    intro b h
    cases b
    · go_enter Tryz.func100, Tryz.ntmps100
      go_wp2_with fail
      go_ret
      exact ⟨rfl, rfl⟩
    · go_enter Tryz.func100, Tryz.ntmps100
      go_wp2_with fail
      go_ret
      exact ⟨rfl, rfl⟩
  exact go _ rfl
/-- One instruction, in a slice that was just laid. -/
theorem CdAt.one (w : World) (a b c d : Int) : CdAt (w.alloc (insB a b c d)) (.slice (some ⟨w.heap.size, 0, none⟩) 1 1) [⟨a, b, c, d⟩] :=
  ⟨FAt.lit w [⟨a, b, c, d⟩] 64 1, ⟨_, 1, 1, rfl, Nat.le_refl _, by omega⟩⟩

set_option maxHeartbeats 4000000 in
theorem hadd_any (v : Value) (c : List X4) (op jt jf k : Int) (w : World) (hF : CdAt w v c) (hl : c.length ≤ 4000) (ht : OTab w) :
    Calls Tryz.prog 103 #[v, insV op jt jf k] w fun e w' => GEnd w.heap.size v c (addN c ⟨op, jt, jf, k⟩) w' e ∧ Below w.heap.size w w' := by
  obtain ⟨ao, cap, rfl⟩ := hF.shape
  have HF := Lib.hid hF
  have HG : Hid (addN c ⟨op, jt, jf, k⟩ = if (right op jt jf k && !(op == 5) && !isBranch op) then (⟨op, jt, jf, k⟩ :: c, (c.length : Int) + 1, 0) else (c, 0, 1)) := Lib.hid rfl
  obtain ⟨g, hg⟩ : ∃ g, g = addN c ⟨op, jt, jf, k⟩ := ⟨_, rfl⟩
  rw [← hg] at HG ⊢
  clear hF hg
  obtain ⟨W, hW, X0, HBx⟩ : ∃ W, W = w.alloc (insB op jt jf k) ∧ W.heap[w.heap.size]? = some (insB op jt jf k) ∧ Below w.heap.size w W := ⟨_, rfl, heap_alloc_new _ _, ba _ (Below.refl _ _)⟩
  have HX := Lib.hid X0
  have HB0 := Lib.hid HBx
  clear X0 HBx
  go_enter Tryz.func103, Tryz.ntmps103
  go_upto_region 1 with fail
  rw [← hW]
  clear hW
  obtain ⟨c0, c1, c2, c3⟩ := insX HX.out
  go_wp2_with fail
  refine (right_any op jt jf k _ (ht.below HB0.out)).mono ?_
  rintro e w1 ⟨rfl, hb1⟩
  have HX1 := Lib.hid (kb hb1 HX.out)
  have HB1 := Lib.hid (HB0.out.trans (hb1.mono HB0.out.size))
  clear hb1 c0 c1 c2 c3
  obtain ⟨c0, c1, c2, c3⟩ := insX HX1.out
  have fin : ∀ w', Below w.heap.size w w' → g = (c, 0, 1) → GEnd w.heap.size (.slice ao c.length cap) c g w' (.returned (.tuple #[.slice ao c.length cap, .int .i64 0, .int .i64 1])) ∧ Below w.heap.size w w' := fun w' hb hq => ⟨gEnd_same hq (HF.out.below hb), hb⟩
  have HFin := Lib.hid fin
  clear fin
  cases hr : right op jt jf k
  · have HE := Lib.hid (HFin.out _ HB1.out (by rw [HG.out, hr]; rfl))
    clear hr
    go_wp2_with fail
    go_ret3
    exact HE.out
  cases h5 : (op == 5)
  · go_wp2_with fail
    refine (branch_any op jt jf k _ (ht.below HB1.out)).mono ?_
    rintro e w2 ⟨rfl, hb2⟩
    have HX2 := Lib.hid (kb hb2 HX1.out)
    have HB2 := Lib.hid (HB1.out.trans (hb2.mono HB1.out.size))
    clear hb2 c0 c1 c2 c3
    obtain ⟨c0, c1, c2, c3⟩ := insX HX2.out
    cases hb : isBranch op
    · have HE : Hid (g = (⟨op, jt, jf, k⟩ :: c, (((⟨op, jt, jf, k⟩ :: c).length : Nat) : Int), 0)) := Lib.hid (by rw [HG.out, hr, h5, hb]; rfl)
      clear hr h5 hb
      go_wp2_with fail
      have hbA := ba (insB op jt jf k) (Below.refl w2.heap.size w2)
      refine (hput_any _ _ [⟨op, jt, jf, k⟩] c (⟨op, jt, jf, k⟩ :: c) _ (CdAt.one w2 op jt jf k) (HF.out.below (HB2.out.trans (hbA.mono HB2.out.size))) rfl (by rw [List.length_cons]; omega)).mono ?_
      rintro e w3 ⟨⟨r, hr, hst, rfl⟩, hb3⟩
      have HR := Lib.hid (gEnd_new (B := w.heap.size) (v := .slice ao c.length cap) (c := c) HE.out hr (fun b hb => hst b (Nat.lt_of_lt_of_le hb (Nat.le_trans HB2.out.size hbA.size))))
      have HB3 := Lib.hid (below2 (HB2.out.trans (hbA.mono HB2.out.size)) hb3)
      clear hb3 hr hst hbA
      go_wp2_with fail
      go_ret3
      exact ⟨HR.out, HB3.out⟩
    · have HE := Lib.hid (HFin.out _ HB2.out (by rw [HG.out, hr, h5, hb]; rfl))
      clear hr h5 hb
      go_wp2_with fail
      go_ret3
      exact HE.out
  · have HE := Lib.hid (HFin.out _ HB1.out (by rw [HG.out, hr, h5]; rfl))
    clear hr
    go_wp2_with fail
    go_ret3
    exact HE.out

set_option maxHeartbeats 4000000 in
theorem hjump_any (v : Value) (c : List X4) (q : Int) (w : World) (hF : CdAt w v c) (hl : c.length ≤ 4000) :
    Calls Tryz.prog 61 #[v, .int .i64 q] w fun e w' => GEnd w.heap.size v c (jumpN c q) w' e ∧ Below w.heap.size w w' := by
  obtain ⟨ao, cap, rfl⟩ := hF.shape
  have HF := Lib.hid hF
  have HG : Hid (jumpN c q = if isLab c q then (if q = c.length then (c, q, 0) else (jaTo c q :: c, (c.length : Int) + 1, 0)) else (c, 0, 4)) := Lib.hid rfl
  obtain ⟨g, hg⟩ : ∃ g, g = jumpN c q := ⟨_, rfl⟩
  rw [← hg] at HG ⊢
  clear hF hg
  go_enter Tryz.func61, Tryz.ntmps61
  go_wp2_with fail
  refine (hlab_any _ c q w HF.out).mono ?_
  rintro e w1 ⟨rfl, rfl⟩
  cases hL : isLab c q
  · have HE := Lib.hid (gEnd_same (B := w.heap.size) (g := g) (by rw [HG.out, hL]; rfl) HF.out)
    clear hL
    go_wp2_with fail
    go_ret3
    exact ⟨HE.out, Below.refl _ _⟩
  obtain ⟨q0, q1⟩ := isLab_iff.1 hL
  by_cases hq : q = c.length
  · have HE : Hid (g = (c, ((c.length : Nat) : Int), 0)) := Lib.hid (by rw [HG.out, hL, if_pos hq, hq]; rfl)
    have hq2 : (q == (c.length : Int)) = true := by simpa using hq
    clear hL hq q0 q1
    go_wp2_with fail
    refine (hput_any _ _ [] c c _ ⟨FAt.nil _, CapF.nil⟩ HF.out rfl (by omega)).mono ?_
    rintro e w3 ⟨⟨r, hr, hst, rfl⟩, hb3⟩
    have HR := Lib.hid (gEnd_new (v := .slice ao c.length cap) (c := c) HE.out hr hst)
    have HB3 := Lib.hid hb3
    clear hb3 hr hst
    go_wp2_with fail
    go_ret3
    exact ⟨HR.out, HB3.out⟩
  · have HE : Hid (g = (jaTo c q :: c, (((jaTo c q :: c).length : Nat) : Int), 0)) := Lib.hid (by rw [HG.out, hL, if_neg hq]; rfl)
    have hq2 : (q == (c.length : Int)) = false := by simpa using hq
    have hw : IntKind.u32.wrap ((c.length : Int) - q) = (c.length : Int) - q := by rw [IntKind.wrap_u32]; omega
    clear hL hq
    go_wp2_with fail
    refine (hdist_any _ c q w HF.out (by omega) (by omega)).mono ?_
    rintro e w2 ⟨rfl, rfl⟩
    go_wp2_with fail
    have hbA := ba (insB 5 0 0 ((c.length : Int) - q)) (Below.refl w.heap.size w)
    refine (hput_any _ _ [jaTo c q] c (jaTo c q :: c) _ (CdAt.one w 5 0 0 ((c.length : Int) - q)) (HF.out.below hbA) rfl (by rw [List.length_cons]; omega)).mono ?_
    rintro e w3 ⟨⟨r, hr, hst, rfl⟩, hb3⟩
    have HR := Lib.hid (gEnd_new (B := w.heap.size) (v := .slice ao c.length cap) (c := c) HE.out hr (fun b hb => hst b (Nat.lt_of_lt_of_le hb hbA.size)))
    have HB3 := Lib.hid (below2 hbA hb3)
    clear hb3 hr hst hbA
    go_wp2_with fail
    go_ret3
    exact ⟨HR.out, HB3.out⟩

set_option maxHeartbeats 4000000 in
theorem hnear_any (v : Value) (c : List X4) (q : Int) (w : World) (hF : CdAt w v c) (hl : c.length ≤ 4000) (hL : isLab c q = true) :
    Calls Tryz.prog 137 #[v, .int .i64 q] w fun e w' => GEnd w.heap.size v c ((nearN c q).1, (nearN c q).2, 0) w' e ∧ Below w.heap.size w w' := by
  obtain ⟨ao, cap, rfl⟩ := hF.shape
  have HF := Lib.hid hF
  obtain ⟨q0, q1⟩ := isLab_iff.1 hL
  have HJ := Lib.hid (show jumpN c q = if q = c.length then (c, q, 0) else (jaTo c q :: c, (c.length : Int) + 1, 0) by unfold jumpN; rw [if_pos hL])
  have HN := Lib.hid (nearN_cases c q)
  obtain ⟨g, hg⟩ : ∃ g, g = (((nearN c q).1, (nearN c q).2, 0) : G3) := ⟨_, rfl⟩
  rw [← hg]
  have HGG := Lib.hid hg
  clear hF hg hL
  go_enter Tryz.func137, Tryz.ntmps137
  go_wp2_with fail
  refine (hdist_any _ c q w HF.out (by omega) (by omega)).mono ?_
  rintro e w2 ⟨rfl, rfl⟩
  by_cases hd : (c.length : Int) - q ≤ 254
  · have HE := Lib.hid (gEnd_same (B := w.heap.size) (g := g) (c := c) (l := q) (er := 0) (by
      rw [HGG.out]
      rcases HN.out with ⟨_, h⟩ | ⟨h, _⟩
      · rw [h]
      · omega) HF.out)
    go_wp2_with fail
    go_ret3
    exact ⟨HE.out, Below.refl _ _⟩
  · have HE : Hid (g = (jaTo c q :: c, (c.length : Int) + 1, 0)) := Lib.hid (by
      rw [HGG.out]
      rcases HN.out with ⟨h, _⟩ | ⟨_, h⟩
      · omega
      · rw [h])
    go_wp2_with fail
    refine (hjump_any _ c q w HF.out hl).mono ?_
    rintro e w3 ⟨hr, hb3⟩
    rw [HJ.out, if_neg (by omega), ← HE.out] at hr
    obtain ⟨r, hr, hst, rfl⟩ := hr
    have HR := Lib.hid (show GEnd w.heap.size (.slice ao c.length cap) c g w3 (.returned (.tuple #[r, .int .i64 g.2.1, .int .i64 g.2.2])) from ⟨r, hr, hst, rfl⟩)
    have HB3 := Lib.hid hb3
    obtain ⟨ro, rc, rfl⟩ := hr.shape
    clear hb3 hr hst
    go_wp2_with fail
    go_ret3
    exact ⟨HR.out, HB3.out⟩

theorem hrow_cell {w : World} {g : Nat} {old : Array Value} {t : TypeId} (hg : w.heap[g]? = some (.cells old t)) (i : Nat) (v : Value) : RowPut w (w.setCell ⟨g, i, none⟩ v) g (.cells (old.setIfInBounds i v) t) := by
  have h := rowPut_set hg (old.setIfInBounds i v)
  rwa [← setCell_eq_setRow w _ _ _ _ _ _ hg] at h
theorem hrow_then {w w' w'' : World} {g : Nat} {o o' : Obj} (h : RowPut w w' g o) (h' : RowPut w' w'' g o') : RowPut w w'' g o' :=
  ⟨h'.os.trans h.os, h'.tape.trans h.tape, h'.output.trans h.output, h'.size.trans h.size, h'.row, fun k hk => (h'.rest k hk).trans (h.rest k hk)⟩
theorem hput_jumps {w : World} {g : Nat} {op a b k : Int} (h : w.heap[g]? = some (insB op a b k)) (jt jf : Int) :
    RowPut w ((w.setCell ⟨g, 1, none⟩ (.int .i64 jt)).setCell ⟨g, 2, none⟩ (.int .i64 jf)) g (insB op jt jf k) := by
  have h2 := hrow_cell h 1 (.int .i64 jt)
  have h3 := hrow_cell h2.row 2 (.int .i64 jf)
  exact hrow_then h2 h3

set_option maxHeartbeats 8000000 in
set_option maxRecDepth 100000 in
theorem hbranch_any (v : Value) (c : List X4) (op k t f : Int) (w : World) (hF : CdAt w v c) (hl : c.length ≤ 3900) (ht : OTab w) :
    Calls Tryz.prog 99 #[v, .int .i64 op, .int .u32 k, .int .i64 t, .int .i64 f] w fun e w' => GEnd w.heap.size v c (branchN c op k t f) w' e ∧ Below w.heap.size w w' := by
  obtain ⟨ao, cap, rfl⟩ := hF.shape
  have HF := Lib.hid hF
  have HG : Hid (branchN c op k t f = if right op 0 0 k && isBranch op then (if isLab c t && isLab c f then (brTo c op k t f :: nearC c t f, ((nearC c t f).length : Int) + 1, 0) else (c, 0, 4)) else (c, 0, 1)) := Lib.hid rfl
  obtain ⟨g, hg⟩ : ∃ g, g = branchN c op k t f := ⟨_, rfl⟩
  rw [← hg] at HG ⊢
  clear hF hg
  have fin : ∀ er w', Below w.heap.size w w' → g = (c, 0, er) → GEnd w.heap.size (.slice ao c.length cap) c g w' (.returned (.tuple #[.slice ao c.length cap, .int .i64 0, .int .i64 er])) ∧ Below w.heap.size w w' := fun er w' hb hq => ⟨gEnd_same hq (HF.out.below hb), hb⟩
  have HFin := Lib.hid fin
  clear fin
  have hX0 := heap_alloc_new w (insB op 0 0 k)
  have hB00 := ba (insB op 0 0 k) (Below.refl w.heap.size w)
  go_enter Tryz.func99, Tryz.ntmps99
  go_upto_region 2 with fail
  obtain ⟨W, hW⟩ : ∃ V, V = w.alloc (insB op 0 0 k) := ⟨_, rfl⟩
  rw [← hW] at hX0 hB00 ⊢
  have HX := Lib.hid hX0
  have HB0 := Lib.hid hB00
  clear hW hX0 hB00
  obtain ⟨c0, c1, c2, c3⟩ := insX HX.out
  go_wp2_with fail
  refine (right_any op 0 0 k _ (ht.below HB0.out)).mono ?_
  rintro e w1 ⟨rfl, hb1⟩
  have HX1 := Lib.hid (kb hb1 HX.out)
  have HB1 := Lib.hid (HB0.out.trans (hb1.mono HB0.out.size))
  clear hb1 c0 c1 c2 c3
  obtain ⟨c0, c1, c2, c3⟩ := insX HX1.out
  cases hr : right op 0 0 k
  · have HE := Lib.hid (HFin.out 1 _ HB1.out (by rw [HG.out, hr]; rfl))
    clear hr
    go_wp2_with fail
    go_ret3
    exact HE.out
  go_wp2_with fail
  refine (branch_any op 0 0 k _ (ht.below HB1.out)).mono ?_
  rintro e w2 ⟨rfl, hb2⟩
  have HX2 := Lib.hid (kb hb2 HX1.out)
  have HB2 := Lib.hid (HB1.out.trans (hb2.mono HB1.out.size))
  clear hb2 c0 c1 c2 c3
  obtain ⟨c0, c1, c2, c3⟩ := insX HX2.out
  cases hb : isBranch op
  · have HE := Lib.hid (HFin.out 1 _ HB2.out (by rw [HG.out, hr, hb]; rfl))
    clear hr hb
    go_wp2_with fail
    go_ret3
    exact HE.out
  have HG2 : Hid (g = if isLab c t && isLab c f then (brTo c op k t f :: nearC c t f, ((nearC c t f).length : Int) + 1, 0) else (c, 0, 4)) := Lib.hid (by rw [HG.out, hr, hb]; rfl)
  clear hr hb HG
  go_wp2_with fail
  refine (hlab_any _ c t w2 (HF.out.below HB2.out)).mono ?_
  rintro e w3 ⟨rfl, rfl⟩
  cases hT : isLab c t
  · have HE := Lib.hid (HFin.out 4 _ HB2.out (by rw [HG2.out, hT]; rfl))
    clear hT
    go_wp2_with fail
    go_ret3
    exact HE.out
  go_wp2_with fail
  refine (hlab_any _ c f w2 (HF.out.below HB2.out)).mono ?_
  rintro e w3 ⟨rfl, rfl⟩
  cases hL : isLab c f
  · have HE := Lib.hid (HFin.out 4 _ HB2.out (by rw [HG2.out, hT, hL]; rfl))
    clear hT hL
    go_wp2_with fail
    go_ret3
    exact HE.out
  obtain ⟨n1, n2, n3, n4⟩ := nearC_bd hT hL
  have l1 := nearN_len c t
  have l2 := nearN_len (nearN c t).1 f
  have hf1 := lab_more hL l1.1
  obtain ⟨cc, hcc⟩ : ∃ cc, cc = nearC c t f := ⟨_, rfl⟩
  obtain ⟨c1', hc1⟩ : ∃ a, a = (nearN c t).1 := ⟨_, rfl⟩
  obtain ⟨t1, ht1⟩ : ∃ a, a = (nearN c t).2 := ⟨_, rfl⟩
  have hcc1 : cc = (nearN c1' f).1 := by rw [hcc, hc1]; rfl
  have hbt : brTo c op k t f = brX op k cc t1 (nearN c1' f).2 := by rw [hcc, hc1, ht1]; rfl
  obtain ⟨f1, hf1'⟩ : ∃ a, a = (nearN c1' f).2 := ⟨_, rfl⟩
  rw [← hcc, ← ht1] at n1 n3
  rw [← hcc, ← hc1, ← hf1'] at n2 n4
  rw [← hc1] at l1 l2 hf1
  rw [← hcc1] at l2
  rw [← hf1'] at hbt
  have HE : Hid (g = (brX op k cc t1 f1 :: cc, (((brX op k cc t1 f1 :: cc).length : Nat) : Int), 0)) := Lib.hid (by rw [HG2.out, hT, hL, hbt, ← hcc]; rfl)
  have n1' := isLab_iff.1 n1
  have n2' := isLab_iff.1 n2
  have HT := Lib.hid hT
  have HF1 := Lib.hid hf1
  clear hT hL hbt HG2 n1 n2 hf1 c0 c1 c2 c3
  go_wp2_with fail
  refine (hnear_any _ c t w2 (HF.out.below HB2.out) (by omega) HT.out).mono ?_
  rintro e w3 ⟨⟨v3, hv3, hs3, rfl⟩, hb3⟩
  simp only at hv3 hs3
  rw [← ht1]
  rw [← hc1] at hv3 hs3
  have HV3 := Lib.hid hv3
  have HX3 := Lib.hid (kb hb3 HX2.out)
  have HB3 := Lib.hid (HB2.out.trans (hb3.mono HB2.out.size))
  obtain ⟨vo3, vc3, rfl⟩ := hv3.shape
  have HS3 := Lib.hid (hs3 w.heap.size (lt_of_block HX2.out) (stays_at HF.out.1 (Nat.le_refl _)))
  clear hb3 hv3 hc1 ht1 hs3
  go_wp2_with fail
  refine (hnear_any _ c1' f w3 HV3.out (by omega) HF1.out).mono ?_
  rintro e w4 ⟨⟨v4, hv4, hs4, rfl⟩, hb4⟩
  simp only at hv4 hs4
  rw [← hf1']
  rw [← hcc1] at hv4 hs4
  have HV4 := Lib.hid hv4
  have HX4 := Lib.hid (kb hb4 HX3.out)
  have HB4 := Lib.hid (HB3.out.trans (hb4.mono HB3.out.size))
  obtain ⟨vo4, vc4, rfl⟩ := hv4.shape
  have HS4 := Lib.hid (hs4 w.heap.size (lt_of_block HX3.out) HS3.out)
  clear hb4 hv4 hcc1 hf1' hcc hs4
  go_wp2_with fail
  refine (hdist_any _ cc t1 w4 HV4.out (by omega) (by omega)).mono ?_
  rintro e w5 ⟨rfl, rfl⟩
  go_wp2_with fail
  refine (hdist_any _ cc f1 w4 HV4.out (by omega) (by omega)).mono ?_
  rintro e w5 ⟨rfl, rfl⟩
  have q1 := free_in HX4.out 1
  have q2 := free_in HX4.out 2
  have hlt : w.heap.size < w4.heap.size := lt_of_block HX4.out
  obtain ⟨c0, c1, c2, c3⟩ := insX HX4.out
  go_upto_region 13 with fail
  have hput := hput_jumps HX4.out ((cc.length : Int) - t1) ((cc.length : Int) - f1)
  obtain ⟨W5, hW5⟩ : ∃ V, V = (w4.setCell ⟨w.heap.size, 1, none⟩ (.int .i64 ((cc.length : Int) - t1))).setCell ⟨w.heap.size, 2, none⟩ (.int .i64 ((cc.length : Int) - f1)) := ⟨_, rfl⟩
  rw [← hW5] at hput ⊢
  have HX5 := Lib.hid hput.row
  have HB5 := Lib.hid (hput.below HB4.out (Nat.le_refl _))
  have HV5 : Hid (CdAt W5 (.slice vo4 cc.length vc4) cc) := Lib.hid ⟨HS4.out _ _ _ hput HV4.out.1, HV4.out.2⟩
  clear hW5 hput q1 q2 hlt c0 c1 c2 c3
  obtain ⟨c0, c1, c2, c3⟩ := insX HX5.out
  go_wp2_with fail
  have hbA := ba (insB op ((cc.length : Int) - t1) ((cc.length : Int) - f1) k) (Below.refl W5.heap.size W5)
  refine (hput_any _ _ [brX op k cc t1 f1] cc (brX op k cc t1 f1 :: cc) _ (CdAt.one W5 op ((cc.length : Int) - t1) ((cc.length : Int) - f1) k) (HV5.out.below hbA) rfl (by rw [List.length_cons]; omega)).mono ?_
  rintro e w6 ⟨⟨r, hr, hst, rfl⟩, hb6⟩
  have HR := Lib.hid (gEnd_new (B := w.heap.size) (v := .slice ao c.length cap) (c := c) HE.out hr (fun b hb => hst b (Nat.lt_of_lt_of_le hb (Nat.le_trans HB5.out.size hbA.size))))
  have HB6 := Lib.hid (below2 (HB5.out.trans (hbA.mono HB5.out.size)) hb6)
  clear hb6 hr hst hbA
  go_wp2_with fail
  go_ret3
  exact ⟨HR.out, HB6.out⟩
end Go.Proofs.YtbekkdhlfkongaaGreatDoor
