/-
  The table of the operations as plain data, without any program: each operation's number, word and format; which instructions are right, and their texts.
-/
import Derived.Test.YtmbegncnbjafdaaDoorTxt
import Derived.Laws.Rows
import Derived.Laws.ResultCell
import Derived.Handy
import Derived.Lib.QuietBelow
namespace Ip
open Go

structure Row where
  op : Int
  word : List UInt8
  fmt : Int
deriving DecidableEq

def rows : List Row := [⟨0, [108, 100], 2⟩, ⟨1, [108, 100, 120], 2⟩, ⟨2, [115, 116], 2⟩, ⟨3, [115, 116, 120], 2⟩, ⟨32, [97, 98, 115], 2⟩, ⟨96, [109, 101, 109], 2⟩, ⟨97, [109, 101, 109, 120], 2⟩, ⟨5, [106, 97], 2⟩, ⟨6, [114, 101, 116], 2⟩,
  ⟨4, [97, 100, 100], 3⟩, ⟨20, [115, 117, 98], 3⟩, ⟨36, [109, 117, 108], 3⟩, ⟨52, [100, 105, 118], 3⟩, ⟨68, [111, 114], 3⟩, ⟨84, [97, 110, 100], 3⟩, ⟨100, [108, 115, 104], 3⟩, ⟨116, [114, 115, 104], 3⟩, ⟨164, [120, 111, 114], 3⟩,
  ⟨12, [97, 100, 100, 120], 1⟩, ⟨28, [115, 117, 98, 120], 1⟩, ⟨44, [109, 117, 108, 120], 1⟩, ⟨60, [100, 105, 118, 120], 1⟩, ⟨76, [111, 114, 120], 1⟩, ⟨92, [97, 110, 100, 120], 1⟩, ⟨108, [108, 115, 104, 120], 1⟩, ⟨124, [114, 115, 104, 120], 1⟩, ⟨172, [120, 111, 114, 120], 1⟩,
  ⟨132, [110, 101, 103], 0⟩, ⟨7, [116, 97, 120], 0⟩, ⟨135, [116, 120, 97], 0⟩, ⟨22, [114, 101, 116, 97], 0⟩,
  ⟨21, [106, 101, 113], 5⟩, ⟨37, [106, 103, 116], 5⟩, ⟨53, [106, 103, 101], 5⟩, ⟨69, [106, 115, 101, 116], 5⟩,
  ⟨29, [106, 101, 113, 120], 4⟩, ⟨45, [106, 103, 116, 120], 4⟩, ⟨61, [106, 103, 101, 120], 4⟩, ⟨77, [106, 115, 101, 116, 120], 4⟩]

def Row.str (r : Row) : ByteArray := ⟨r.word.toArray⟩
def Row.val (r : Row) : Value := .agg #[.int .i64 r.op, .string r.str, .int .i64 r.fmt]
/-- The cells of the whole table. -/
def cellsL : List Value := rows.flatMap fun r => [.int .i64 r.op, .string r.str, .int .i64 r.fmt]
def hasK (f : Int) : Bool := f == 2 || f == 3 || f == 5
def hasJ (f : Int) : Bool := f == 4 || f == 5
def byOp (k : Int) : Option Row := rows.find? fun r => r.op == k
def byWord (s : ByteArray) : Option Row := rows.find? fun r => r.word == s.data.toList
def zeroRow : Row := ⟨0, [], 0⟩
def isJ (n : Int) : Bool := decide (0 ≤ n) && decide (n ≤ 255)
/-- Does a format allow these fields? -/
def fits (f jt jf k : Int) : Bool := (hasK f || k == 0) && (if hasJ f then isJ jt && isJ jf else jt == 0 && jf == 0)
theorem row_bd : ∀ r ∈ rows, 0 ≤ r.op ∧ r.op ≤ 172 := by decide
theorem byOp_bd (k : Int) : 0 ≤ ((byOp k).getD zeroRow).op ∧ ((byOp k).getD zeroRow).op ≤ 172 := by
  cases h : byOp k with
  | none => decide
  | some r => exact row_bd r (List.mem_of_find?_eq_some h)
theorem word_len : ∀ r ∈ rows, r.word.length ≤ 5 := by decide
theorem byOp_word (k : Int) : ((byOp k).getD zeroRow).word.length ≤ 5 := by
  cases h : byOp k with
  | none => decide
  | some r => exact word_len r (List.mem_of_find?_eq_some h)
theorem byOp_op {k : Int} {r : Row} (h : byOp k = some r) : r ∈ rows ∧ r.op = k := ⟨List.mem_of_find?_eq_some h, by simpa using List.find?_some h⟩
/-- A row's arithmetic: its kind, whether it is with X, and whether there is any. -/
def aluK (r : Row) : Int := if r.fmt == 3 then r.op else if r.fmt == 1 then r.op - 8 else 0
/-- A number behind a space. -/
def tl (n : Int) : List UInt8 := 32 :: 48 :: 120 :: Wd.hex n.toNat
/-- The text of the fields that a format has. -/
def tail (f jt jf k : Int) : List UInt8 := (if hasK f then tl k else []) ++ (if hasJ f then tl jt ++ tl jf else [])
/-- The row at a place. -/
def rowAt (i : Nat) : Row := rows.getD i zeroRow
def cells : Array Value := cellsL.toArray
theorem rows_len : rows.length = 39 := rfl
theorem find_some {p : Row → Bool} {i : Nat} (hi : i < 39) (h : p (rowAt i) = true) (ha : ∀ j, j < i → p (rowAt j) = false) : rows.find? p = some (rowAt i) := by
  rw [List.find?_eq_some_iff_getElem]
  have e : ∀ j (hj : j < rows.length), rows[j] = rowAt j := fun j hj => by simp [rowAt, List.getD, hj]
  refine ⟨h, i, by rw [rows_len]; exact hi, e i _, fun j hj => ?_⟩
  rw [e j (by rw [rows_len]; omega), ha j hj]
  rfl
theorem find_none {p : Row → Bool} (ha : ∀ j, j < 39 → p (rowAt j) = false) : rows.find? p = none := by
  rw [List.find?_eq_none]
  intro r hr
  obtain ⟨j, hj, rfl⟩ := List.getElem_of_mem hr
  have e : rows[j] = rowAt j := by simp [rowAt, List.getD, hj]
  rw [e, ha j (by rw [rows_len] at hj; exact hj)]
  simp
theorem find_at {p : Row → Bool} {r : Row} (h : rows.find? p = some r) : p r = true ∧ ∃ i, i < 39 ∧ r = rowAt i := by
  refine ⟨List.find?_some h, ?_⟩
  obtain ⟨j, hj, e⟩ := List.getElem_of_mem (List.mem_of_find?_eq_some h)
  exact ⟨j, by rw [rows_len] at hj; exact hj, by rw [← e]; simp [rowAt, List.getD, hj]⟩
end Ip

/-
  The small tests on an operation (package ins): hasK, hasJumps, isJump, fits; behind.
-/
namespace Go.Proofs.YtmbegncnbjafdaaDoor
open Go.ChangeShapes Go.WideShapes Go.ChangeAt Go.RowKit
set_option maxRecDepth 20000

theorem hasK_any (o : Int) (s : ByteArray) (f : Int) (w : World) :
    Calls Tryd.prog 77 #[.agg #[.int .i64 o, .string s, .int .i64 f]] w fun e w' => e = .returned (.bool (Ip.hasK f)) ∧ w.alloc (Obj.cells #[.int .i64 o, .string s, .int .i64 f] 77) = w' := by
  go_enter Tryd.func77, Tryd.ntmps77
  go_wp2
  all_goals go_ret
  all_goals refine ⟨ret1 ?_, ?_⟩
  all_goals simp_all [Ip.hasK]
theorem hasJ_any (o : Int) (s : ByteArray) (f : Int) (w : World) :
    Calls Tryd.prog 65 #[.agg #[.int .i64 o, .string s, .int .i64 f]] w fun e w' => e = .returned (.bool (Ip.hasJ f)) ∧ w.alloc (Obj.cells #[.int .i64 o, .string s, .int .i64 f] 77) = w' := by
  go_enter Tryd.func65, Tryd.ntmps65
  go_wp2
  all_goals go_ret
  all_goals refine ⟨ret1 ?_, ?_⟩
  all_goals simp_all [Ip.hasJ]
theorem isJ_any (n : Int) (w : World) :
    Calls Tryd.prog 98 #[.int .i64 n] w fun e w' => e = .returned (.bool (Ip.isJ n)) ∧ w = w' := by
  go_enter Tryd.func98, Tryd.ntmps98
  go_wp2
  all_goals go_ret
  all_goals refine ⟨ret1 ?_, rfl⟩
  all_goals simp_all [Ip.isJ]
  omega

set_option maxHeartbeats 2000000 in
theorem fits_any (o : Int) (s : ByteArray) (f op jt jf k : Int) (w : World) :
    Calls Tryd.prog 95 #[.agg #[.int .i64 o, .string s, .int .i64 f], .agg #[.int .i64 op, .int .i64 jt, .int .i64 jf, .int .u32 k]] w fun e w' => e = .returned (.bool (Ip.fits f jt jf k)) ∧ Below w.heap.size w w' := by
  have HG : Hid (Ip.fits f jt jf k = ((Ip.hasK f || !(k != 0)) && (if Ip.hasJ f then Ip.isJ jt && Ip.isJ jf else jt == 0 && jf == 0))) := Lib.hid (by simp [Ip.fits, bne])
  have go : ∀ (bK bk bJ bz bi : Bool), Ip.hasK f = bK → (k != 0) = bk → Ip.hasJ f = bJ → (jt == 0) = bz → Ip.isJ jt = bi →
      Calls Tryd.prog 95 #[.agg #[.int .i64 o, .string s, .int .i64 f], .agg #[.int .i64 op, .int .i64 jt, .int .i64 jf, .int .u32 k]] w fun e w' => e = .returned (.bool ((bK || !bk) && (if bJ then bi && Ip.isJ jf else bz && jf == 0))) ∧ Below w.heap.size w w' := by
    clear HG
    intro bK bk bJ bz bi hK hk hJ hz hi
    cases bK <;> cases bk <;> cases bJ <;> cases bz <;> cases bi
    all_goals
      go_enter Tryd.func95, Tryd.ntmps95
      go_wp2_with (first
        | (go_at_call 77; refine (hasK_any o s f _).mono ?_; rintro e w' ⟨rfl, rfl⟩)
        | (go_at_call 65; refine (hasJ_any o s f _).mono ?_; rintro e w' ⟨rfl, rfl⟩)
        | (go_at_call 98; refine (isJ_any _ _).mono ?_; rintro e w' ⟨rfl, rfl⟩))
      go_ret
      refine ⟨ret1 (by simp), ?_⟩
      repeat (first | exact Below.refl _ _ | apply ba)
  refine (go _ _ _ _ _ rfl rfl rfl rfl rfl).mono ?_
  rintro e w' ⟨rfl, hb⟩
  exact ⟨ret1 HG.out.symm, hb⟩

end Go.Proofs.YtmbegncnbjafdaaDoor

/-
  What ins.byOp and ins.byWord answer, in every world that has the table of the operations.
-/
namespace Go.Proofs.YtmbegncnbjafdaaDoor
open Go.ChangeShapes Go.WideShapes Go.ChangeAt Go.RowKit
set_option maxRecDepth 20000

/-- The world has the table of the operations. -/
def OTab (w : World) : Prop := ∃ t fr, w.heap[0]? = some (.cells Ip.cells t fr)
theorem OTab.lt {w : World} (h : OTab w) : 0 < w.heap.size := by
  obtain ⟨t, fr, h⟩ := h
  apply Nat.lt_of_not_le
  intro hle
  have e : w.heap[0]? = none := Array.getElem?_eq_none hle
  rw [e] at h
  cases h
theorem OTab.below {w w' : World} (h : OTab w) (hb : Below w.heap.size w w') : OTab w' := by
  have hl := h.lt
  obtain ⟨t, fr, h⟩ := h
  exact ⟨t, fr, (hb.block _ hl).trans h⟩
theorem OTab.alloc {w : World} (h : OTab w) (o : Obj) : OTab (w.alloc o) := h.below (ba o (Below.refl _ _))

theorem row_at (i : Nat) (hi : i < 39) (W : World) : (Instr.index 92 (.agg Ip.cells) (.int .i64 i)).run Tryd.prog W = .ok (Ip.rowAt i).val W := by
  rcases i with _ | _ | _ | _ | _ | _ | _ | _ | _ | _ | _ | _ | _ | _ | _ | _ | _ | _ | _ | _ | _ | _ | _ | _ | _ | _ | _ | _ | _ | _ | _ | _ | _ | _ | _ | _ | _ | _ | _ | i
  all_goals first | omega | kernel_rfl
theorem size_cells : (Tryd.prog.info? 92).map (·.size) = some Ip.cells.size := by kernel_rfl

set_option maxHeartbeats 1000000 in
theorem byOp_any (k : Int) (w : World) (ht : OTab w) :
    Calls Tryd.prog 43 #[.int .i64 k] w fun e w' => ∃ (r : Ip.Row) (b : Bool), e = .returned (.tuple #[.agg #[.int .i64 r.op, .string r.str, .int .i64 r.fmt], .bool b]) ∧ r = (Ip.byOp k).getD Ip.zeroRow ∧ b = (Ip.byOp k).isSome ∧ Below w.heap.size w w' := by
  have hb0 := ba (Obj.cells #[.int .i64 0, .string ⟨#[]⟩, .int .i64 0] 77) (Below.refl w.heap.size w)
  obtain ⟨t, fr, hg⟩ := ht.alloc (Obj.cells #[.int .i64 0, .string ⟨#[]⟩, .int .i64 0] 77)
  go_enter Tryd.func43, Tryd.ntmps43
  go_wp2_with (refine wpList_load_row rfl 92 _ rfl 0 rfl t _ fr _ hg Tryd.underlying92 rfl size_cells ?_)
  clear hg
  go_loopw [7] (fun i w' => ∃ n : Nat, n ≤ 39 ∧ i = .int .i64 n ∧ (∀ j, j < n → ((Ip.rowAt j).op == k) = false) ∧ Below w.heap.size w w' ∧ w'.heap[w.heap.size]? = some (.cells #[.int .i64 0, .string ⟨#[]⟩, .int .i64 0] 77 (0, 0))) (fun i _ => 39 - (intOf i).toNat)
  case atStart => exact ⟨0, by omega, rfl, fun j hj => by omega, hb0, heap_alloc_new _ _⟩
  case round =>
    obtain ⟨n, hn, rfl, hno, hB, hH⟩ := hrel
    have NO := Lib.hid hno
    have HB := Lib.hid hB
    have HH := Lib.hid hH
    have hsz := lt_of_block hH
    have c0 : wr.cell? ⟨w.heap.size, 0, none⟩ = some (.int .i64 0) := cell_in hH 0
    have c1 : wr.cell? ⟨w.heap.size, 1, none⟩ = some (.string ⟨#[]⟩) := cell_in hH 1
    have c2 : wr.cell? ⟨w.heap.size, 2, none⟩ = some (.int .i64 0) := cell_in hH 2
    have f0 := free_in hH 0
    have f1 := free_in hH 1
    have f2 := free_in hH 2
    clear hno hB hH hb0
    by_cases hlt : n < 39
    · have hix : ∀ W, (Instr.index 92 (.agg Ip.cells) (.int .i64 n)).run Tryd.prog W = .ok (.agg #[.int .i64 (Ip.rowAt n).op, .string (Ip.rowAt n).str, .int .i64 (Ip.rowAt n).fmt]) W := row_at n hlt
      cases hop : ((Ip.rowAt n).op == k)
      · clear c0 c1 c2 f0 f1 f2
        go_wp2
        refine ⟨⟨n + 1, by omega, by go_num, fun j hj => ?_, ba _ HB.out, (Below.heap_alloc _ _ _ hsz).trans HH.out⟩, by simp [intOf]; omega⟩
        by_cases hj' : j < n
        · exact NO.out j hj'
        · obtain rfl : j = n := by omega
          exact hop
      · go_wp2
        (try simp only [Exit.inBlock, Exit.then])
        refine bodyPost_ret (v := .tuple #[.agg #[.int .i64 (Ip.rowAt n).op, .string (Ip.rowAt n).str, .int .i64 (Ip.rowAt n).fmt], .bool true]) ?_ rfl ⟨Ip.rowAt n, true, rfl, ?_, ?_, ?_⟩
        · rw [results_cell_tmp rfl]
          go_simp
        · rw [show Ip.byOp k = some (Ip.rowAt n) from Ip.find_some hlt hop NO.out]
          rfl
        · rw [show Ip.byOp k = some (Ip.rowAt n) from Ip.find_some hlt hop NO.out]
          rfl
        · have hB := HB.out
          go_grown
    · go_wp2
      (try simp only [Exit.inBlock, Exit.then])
      refine bodyPost_ret (v := .tuple #[.agg #[.int .i64 0, .string ⟨#[]⟩, .int .i64 0], .bool false]) ?_ rfl ⟨Ip.zeroRow, false, rfl, ?_, ?_, ?_⟩
      · rw [results_cell_tmp rfl]
        go_simp
      · rw [show Ip.byOp k = none from Ip.find_none (fun j hj => NO.out j (by omega))]
        rfl
      · rw [show Ip.byOp k = none from Ip.find_none (fun j hj => NO.out j (by omega))]
        rfl
      · have hB := HB.out
        go_grown

theorem str_eq (r : Ip.Row) (s : ByteArray) : (r.str.toList == s.toList) = (r.word == s.data.toList) := by
  rw [Go.ByteArray.toList_eq, Go.ByteArray.toList_eq]
  rfl
theorem byWord_some {s : ByteArray} {i : Nat} (hi : i < 39) (h : ((Ip.rowAt i).str.toList == s.toList) = true) (ha : ∀ j, j < i → ((Ip.rowAt j).str.toList == s.toList) = false) : Ip.byWord s = some (Ip.rowAt i) :=
  Ip.find_some hi (by rw [← str_eq]; exact h) (fun j hj => by rw [← str_eq]; exact ha j hj)
theorem byWord_none {s : ByteArray} (ha : ∀ j, j < 39 → ((Ip.rowAt j).str.toList == s.toList) = false) : Ip.byWord s = none :=
  Ip.find_none (fun j hj => by rw [← str_eq]; exact ha j hj)

set_option maxHeartbeats 1000000 in
theorem byWord_any (s : ByteArray) (w : World) (ht : OTab w) :
    Calls Tryd.prog 61 #[.string s] w fun e w' => ∃ (r : Ip.Row) (b : Bool), e = .returned (.tuple #[.agg #[.int .i64 r.op, .string r.str, .int .i64 r.fmt], .bool b]) ∧ r = (Ip.byWord s).getD Ip.zeroRow ∧ b = (Ip.byWord s).isSome ∧ Below w.heap.size w w' := by
  have hb0 := ba (Obj.cells #[.int .i64 0, .string ⟨#[]⟩, .int .i64 0] 77) (Below.refl w.heap.size w)
  obtain ⟨t, fr, hg⟩ := ht.alloc (Obj.cells #[.int .i64 0, .string ⟨#[]⟩, .int .i64 0] 77)
  go_enter Tryd.func61, Tryd.ntmps61
  go_wp2_with (refine wpList_load_row rfl 92 _ rfl 0 rfl t _ fr _ hg Tryd.underlying92 rfl size_cells ?_)
  clear hg
  go_loopw [7] (fun i w' => ∃ n : Nat, n ≤ 39 ∧ i = .int .i64 n ∧ (∀ j, j < n → ((Ip.rowAt j).str.toList == s.toList) = false) ∧ Below w.heap.size w w' ∧ w'.heap[w.heap.size]? = some (.cells #[.int .i64 0, .string ⟨#[]⟩, .int .i64 0] 77 (0, 0))) (fun i _ => 39 - (intOf i).toNat)
  case atStart => exact ⟨0, by omega, rfl, fun j hj => by omega, hb0, heap_alloc_new _ _⟩
  case round =>
    obtain ⟨n, hn, rfl, hno, hB, hH⟩ := hrel
    have NO := Lib.hid hno
    have HB := Lib.hid hB
    have HH := Lib.hid hH
    have hsz := lt_of_block hH
    have c0 : wr.cell? ⟨w.heap.size, 0, none⟩ = some (.int .i64 0) := cell_in hH 0
    have c1 : wr.cell? ⟨w.heap.size, 1, none⟩ = some (.string ⟨#[]⟩) := cell_in hH 1
    have c2 : wr.cell? ⟨w.heap.size, 2, none⟩ = some (.int .i64 0) := cell_in hH 2
    have f0 := free_in hH 0
    have f1 := free_in hH 1
    have f2 := free_in hH 2
    clear hno hB hH hb0
    by_cases hlt : n < 39
    · have hix : ∀ W, (Instr.index 92 (.agg Ip.cells) (.int .i64 n)).run Tryd.prog W = .ok (.agg #[.int .i64 (Ip.rowAt n).op, .string (Ip.rowAt n).str, .int .i64 (Ip.rowAt n).fmt]) W := row_at n hlt
      cases hop : ((Ip.rowAt n).str.toList == s.toList)
      · clear c0 c1 c2 f0 f1 f2
        go_wp2
        refine ⟨⟨n + 1, by omega, by go_num, fun j hj => ?_, ba _ HB.out, (Below.heap_alloc _ _ _ hsz).trans HH.out⟩, by simp [intOf]; omega⟩
        by_cases hj' : j < n
        · exact NO.out j hj'
        · obtain rfl : j = n := by omega
          exact hop
      · go_wp2
        (try simp only [Exit.inBlock, Exit.then])
        refine bodyPost_ret (v := .tuple #[.agg #[.int .i64 (Ip.rowAt n).op, .string (Ip.rowAt n).str, .int .i64 (Ip.rowAt n).fmt], .bool true]) ?_ rfl ⟨Ip.rowAt n, true, rfl, ?_, ?_, ?_⟩
        · rw [results_cell_tmp rfl]
          go_simp
        · rw [show Ip.byWord s = some (Ip.rowAt n) from byWord_some hlt hop NO.out]
          rfl
        · rw [show Ip.byWord s = some (Ip.rowAt n) from byWord_some hlt hop NO.out]
          rfl
        · have hB := HB.out
          go_grown
    · go_wp2
      (try simp only [Exit.inBlock, Exit.then])
      refine bodyPost_ret (v := .tuple #[.agg #[.int .i64 0, .string ⟨#[]⟩, .int .i64 0], .bool false]) ?_ rfl ⟨Ip.zeroRow, false, rfl, ?_, ?_, ?_⟩
      · rw [results_cell_tmp rfl]
        go_simp
      · rw [show Ip.byWord s = none from byWord_none (fun j hj => NO.out j (by omega))]
        rfl
      · rw [show Ip.byWord s = none from byWord_none (fun j hj => NO.out j (by omega))]
        rfl
      · have hB := HB.out
        go_grown
end Go.Proofs.YtmbegncnbjafdaaDoor

/-
  What ins.Right answers, for any instruction, in every world that has the tables.
-/
namespace Go.Proofs.YtmbegncnbjafdaaDoor
open Go.ChangeShapes Go.WideShapes Go.ChangeAt Go.RowKit

/-- An instruction's block. -/
abbrev insB (op jt jf k : Int) : Obj := .cells #[.int .i64 op, .int .i64 jt, .int .i64 jf, .int .u32 k] 24
abbrev insV (op jt jf k : Int) : Value := .agg #[.int .i64 op, .int .i64 jt, .int .i64 jf, .int .u32 k]

/-- Is it right? -/
def right (op jt jf k : Int) : Bool := (Ip.byOp op).isSome && Ip.fits ((Ip.byOp op).getD Ip.zeroRow).fmt jt jf k

theorem right_any (op jt jf k : Int) (w : World) (ht : OTab w) :
    Calls Tryd.prog 85 #[insV op jt jf k] w fun e w' => e = .returned (.bool (right op jt jf k)) ∧ Below w.heap.size w w' := by
  have HG : Hid (right op jt jf k = ((Ip.byOp op).isSome && Ip.fits ((Ip.byOp op).getD Ip.zeroRow).fmt jt jf k)) := Lib.hid rfl
  have hb := ba (insB op jt jf k) (Below.refl w.heap.size w)
  have hH : (w.alloc (insB op jt jf k)).heap[w.heap.size]? = some (insB op jt jf k) := heap_alloc_new _ _
  have ht1 := ht.alloc (insB op jt jf k)
  go_enter Tryd.func85, Tryd.ntmps85
  go_wp2_with fail
  refine (byOp_any op _ ht1).mono ?_
  rintro e w1 ⟨r, b, rfl, hr, hbb, hB⟩
  rw [← hr, ← hbb] at HG
  have hH1 : w1.heap[w.heap.size]? = some (insB op jt jf k) := (hB.block _ (lt_of_block hH)).trans hH
  have hsz := lt_of_block hH1
  have c0 : w1.cell? ⟨w.heap.size, 0, none⟩ = some (.int .i64 op) := cell_in hH1 0
  have c1 : w1.cell? ⟨w.heap.size, 1, none⟩ = some (.int .i64 jt) := cell_in hH1 1
  have c2 : w1.cell? ⟨w.heap.size, 2, none⟩ = some (.int .i64 jf) := cell_in hH1 2
  have c3 : w1.cell? ⟨w.heap.size, 3, none⟩ = some (.int .u32 k) := cell_in hH1 3
  have HB := Lib.hid (hb.trans (hB.mono hb.size))
  clear hr hbb hB hH hH1 hb ht1
  cases b
  · go_wp2_with fail
    go_ret
    exact ⟨ret1 HG.out.symm, ba _ HB.out⟩
  · go_wp2_with fail
    refine (fits_any _ _ _ _ _ _ _ _).mono ?_
    rintro e w2 ⟨rfl, hB2⟩
    go_wp2_with fail
    go_ret
    refine ⟨ret1 HG.out.symm, ?_⟩
    have h := ba (.cells #[.int .i64 r.op, .string r.str, .int .i64 r.fmt] 77) HB.out
    exact h.trans (hB2.mono h.size)
end Go.Proofs.YtmbegncnbjafdaaDoor

/-
  What ins.Branch and Ends answer, for any instruction, in every world that has the tables.
-/
namespace Go.Proofs.YtmbegncnbjafdaaDoor
open Go.ChangeShapes Go.WideShapes Go.ChangeAt Go.RowKit

theorem ends_any (op jt jf k : Int) (w : World) :
    Calls Tryd.prog 47 #[insV op jt jf k] w fun e w' => e = .returned (.bool (op == 6 || op == 22)) ∧ Below w.heap.size w w' := by
  have hb := ba (insB op jt jf k) (Below.refl w.heap.size w)
  have go : ∀ b : Bool, (op == 6) = b → Calls Tryd.prog 47 #[insV op jt jf k] w fun e w' => e = .returned (.bool (b || op == 22)) ∧ Below w.heap.size w w' := by
    intro b h
    cases b
    · go_enter Tryd.func47, Tryd.ntmps47
      go_wp2
      go_ret
      exact ⟨rfl, hb⟩
    · go_enter Tryd.func47, Tryd.ntmps47
      go_wp2
      go_ret
      exact ⟨rfl, hb⟩
  exact go _ rfl

def isBranch (op : Int) : Bool := (Ip.byOp op).isSome && Ip.hasJ ((Ip.byOp op).getD Ip.zeroRow).fmt
theorem branch_any (op jt jf k : Int) (w : World) (ht : OTab w) :
    Calls Tryd.prog 48 #[insV op jt jf k] w fun e w' => e = .returned (.bool (isBranch op)) ∧ Below w.heap.size w w' := by
  have HG : Hid (isBranch op = ((Ip.byOp op).isSome && Ip.hasJ ((Ip.byOp op).getD Ip.zeroRow).fmt)) := Lib.hid rfl
  have hb := ba (insB op jt jf k) (Below.refl w.heap.size w)
  have hH : (w.alloc (insB op jt jf k)).heap[w.heap.size]? = some (insB op jt jf k) := heap_alloc_new _ _
  have ht1 := ht.alloc (insB op jt jf k)
  go_enter Tryd.func48, Tryd.ntmps48
  go_wp2_with fail
  refine (byOp_any op _ ht1).mono ?_
  rintro e w1 ⟨r, b, rfl, hr, hbb, hB⟩
  rw [← hr, ← hbb] at HG
  have hH1 : w1.heap[w.heap.size]? = some (insB op jt jf k) := (hB.block _ (lt_of_block hH)).trans hH
  have hsz := lt_of_block hH1
  have HB := Lib.hid (hb.trans (hB.mono hb.size))
  clear hr hbb hB hH hH1 hb ht1
  cases b
  · go_wp2_with fail
    go_ret
    exact ⟨ret1 HG.out.symm, ba _ HB.out⟩
  · go_wp2_with fail
    refine (hasJ_any _ _ _ _).mono ?_
    rintro e w2 ⟨rfl, rfl⟩
    go_wp2_with fail
    go_ret
    exact ⟨ret1 HG.out.symm, ba _ (ba _ HB.out)⟩
end Go.Proofs.YtmbegncnbjafdaaDoor

/-
  What ins.Alu answers, for any instruction, in every world that has the tables.
-/
namespace Go.Proofs.YtmbegncnbjafdaaDoor
open Go.ChangeShapes Go.WideShapes Go.ChangeAt Go.RowKit

theorem ret3i {a a' : Int} {b b' c c' : Bool} (h : a = a') (hb : b = b') (hc : c = c') : Ending.returned (.tuple #[.int .i64 a, .bool b, .bool c]) = .returned (.tuple #[.int .i64 a', .bool b', .bool c']) := by rw [h, hb, hc]

theorem alu_any (op jt jf k : Int) (w : World) (ht : OTab w) :
    Calls Tryd.prog 26 #[insV op jt jf k] w fun e w' => ∃ (r : Ip.Row) (b : Bool), r = (Ip.byOp op).getD Ip.zeroRow ∧ b = (Ip.byOp op).isSome ∧
      e = .returned (.tuple #[.int .i64 (if b then Ip.aluK r else 0), .bool (b && r.fmt == 1), .bool (b && (r.fmt == 3 || r.fmt == 1))]) ∧ Below w.heap.size w w' := by
  have hb := ba (insB op jt jf k) (Below.refl w.heap.size w)
  have hH : (w.alloc (insB op jt jf k)).heap[w.heap.size]? = some (insB op jt jf k) := heap_alloc_new _ _
  have ht1 := ht.alloc (insB op jt jf k)
  have hbd := Ip.byOp_bd op
  go_enter Tryd.func26, Tryd.ntmps26
  go_wp2_with fail
  refine (byOp_any op _ ht1).mono ?_
  rintro e w1 ⟨r, b, rfl, hr, hbb, hB⟩
  rw [← hr] at hbd
  obtain ⟨hd0, hd1⟩ := hbd
  refine have HR : Hid (r = _) := Lib.hid hr; ?_
  have HBB := Lib.hid hbb
  have hH1 : w1.heap[w.heap.size]? = some (insB op jt jf k) := (hB.block _ (lt_of_block hH)).trans hH
  have hsz := lt_of_block hH1
  have HB := Lib.hid (hb.trans (hB.mono hb.size))
  clear hr hbb hB hH hH1 hb ht1
  cases b
  · go_wp2_with fail
    go_ret3
    exact ⟨r, false, HR.out, HBB.out, ret3i rfl rfl rfl, ba _ HB.out⟩
  · cases h3 : (r.fmt == 3)
    · cases h1 : (r.fmt == 1)
      · go_wp2_with fail
        go_ret3
        exact ⟨r, true, HR.out, HBB.out, ret3i (by simp only [Ip.aluK, h3, h1]; rfl) (by rw [h1]; rfl) (by rw [h3, h1]; rfl), ba _ HB.out⟩
      · go_wp2_with fail
        go_ret3
        exact ⟨r, true, HR.out, HBB.out, ret3i (by simp only [Ip.aluK, h3, h1]; rfl) (by rw [h1]; rfl) (by rw [h3, h1]; rfl), ba _ HB.out⟩
    · have h1 : (r.fmt == 1) = false := by
        have h : r.fmt = 3 := by simpa using h3
        rw [h]; rfl
      go_wp2_with fail
      go_ret3
      exact ⟨r, true, HR.out, HBB.out, ret3i (by simp only [Ip.aluK, h3]; rfl) (by rw [h1]; rfl) (by rw [h3]; rfl), ba _ HB.out⟩
end Go.Proofs.YtmbegncnbjafdaaDoor
