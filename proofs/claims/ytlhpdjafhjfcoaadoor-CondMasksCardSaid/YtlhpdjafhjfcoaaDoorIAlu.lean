/-
  The table of the operations as plain data, without any program: each operation's number, word and format; which instructions are right, and their texts.
-/
import Derived.Test.YtlhpdjafhjfcoaaDoorTxt
import Derived.Laws.Rows
import Derived.Laws.ResultCell
import Derived.Handy
import Derived.Lib.QuietBelow
namespace Ip
open Go

structure Row where
  op : Int
  word : List UInt8
  fmt : Int
deriving DecidableEq

def rows : List Row := [⟨0, [108, 100], 2⟩, ⟨1, [108, 100, 120], 2⟩, ⟨2, [115, 116], 2⟩, ⟨3, [115, 116, 120], 2⟩, ⟨32, [97, 98, 115], 2⟩, ⟨96, [109, 101, 109], 2⟩, ⟨97, [109, 101, 109, 120], 2⟩, ⟨5, [106, 97], 2⟩, ⟨6, [114, 101, 116], 2⟩,
  ⟨4, [97, 100, 100], 3⟩, ⟨20, [115, 117, 98], 3⟩, ⟨36, [109, 117, 108], 3⟩, ⟨52, [100, 105, 118], 3⟩, ⟨68, [111, 114], 3⟩, ⟨84, [97, 110, 100], 3⟩, ⟨100, [108, 115, 104], 3⟩, ⟨116, [114, 115, 104], 3⟩, ⟨164, [120, 111, 114], 3⟩,
  ⟨12, [97, 100, 100, 120], 1⟩, ⟨28, [115, 117, 98, 120], 1⟩, ⟨44, [109, 117, 108, 120], 1⟩, ⟨60, [100, 105, 118, 120], 1⟩, ⟨76, [111, 114, 120], 1⟩, ⟨92, [97, 110, 100, 120], 1⟩, ⟨108, [108, 115, 104, 120], 1⟩, ⟨124, [114, 115, 104, 120], 1⟩, ⟨172, [120, 111, 114, 120], 1⟩,
  ⟨132, [110, 101, 103], 0⟩, ⟨7, [116, 97, 120], 0⟩, ⟨135, [116, 120, 97], 0⟩, ⟨22, [114, 101, 116, 97], 0⟩,
  ⟨21, [106, 101, 113], 5⟩, ⟨37, [106, 103, 116], 5⟩, ⟨53, [106, 103, 101], 5⟩, ⟨69, [106, 115, 101, 116], 5⟩,
  ⟨29, [106, 101, 113, 120], 4⟩, ⟨45, [106, 103, 116, 120], 4⟩, ⟨61, [106, 103, 101, 120], 4⟩, ⟨77, [106, 115, 101, 116, 120], 4⟩]

def Row.str (r : Row) : ByteArray := ⟨r.word.toArray⟩
def Row.val (r : Row) : Value := .agg #[.int .i64 r.op, .string r.str, .int .i64 r.fmt]
/-- The cells of the whole table. -/
def cellsL : List Value := rows.flatMap fun r => [.int .i64 r.op, .string r.str, .int .i64 r.fmt]
def hasK (f : Int) : Bool := f == 2 || f == 3 || f == 5
def hasJ (f : Int) : Bool := f == 4 || f == 5
def byOp (k : Int) : Option Row := rows.find? fun r => r.op == k
def byWord (s : ByteArray) : Option Row := rows.find? fun r => r.word == s.data.toList
def zeroRow : Row := ⟨0, [], 0⟩
def isJ (n : Int) : Bool := decide (0 ≤ n) && decide (n ≤ 255)
/-- Does a format allow these fields? -/
def fits (f jt jf k : Int) : Bool := (hasK f || k == 0) && (if hasJ f then isJ jt && isJ jf else jt == 0 && jf == 0)
theorem row_bd : ∀ r ∈ rows, 0 ≤ r.op ∧ r.op ≤ 172 := by decide
theorem byOp_bd (k : Int) : 0 ≤ ((byOp k).getD zeroRow).op ∧ ((byOp k).getD zeroRow).op ≤ 172 := by
  cases h : byOp k with
  | none => decide
  | some r => exact row_bd r (List.mem_of_find?_eq_some h)
theorem word_len : ∀ r ∈ rows, r.word.length ≤ 5 := by decide
theorem byOp_word (k : Int) : ((byOp k).getD zeroRow).word.length ≤ 5 := by
  cases h : byOp k with
  | none => decide
  | some r => exact word_len r (List.mem_of_find?_eq_some h)
theorem byOp_op {k : Int} {r : Row} (h : byOp k = some r) : r ∈ rows ∧ r.op = k := ⟨List.mem_of_find?_eq_some h, by simpa using List.find?_some h⟩
/-- A row's arithmetic: its kind, whether it is with X, and whether there is any. -/
def aluK (r : Row) : Int := if r.fmt == 3 then r.op else if r.fmt == 1 then r.op - 8 else 0
/-- A number behind a space. -/
def tl (n : Int) : List UInt8 := 32 :: 48 :: 120 :: Wd.hex n.toNat
/-- The text of the fields that a format has. -/
def tail (f jt jf k : Int) : List UInt8 := (if hasK f then tl k else []) ++ (if hasJ f then tl jt ++ tl jf else [])
/-- The row at a place. -/
def rowAt (i : Nat) : Row := rows.getD i zeroRow
def cells : Array Value := cellsL.toArray
theorem rows_len : rows.length = 39 := rfl
theorem find_some {p : Row → Bool} {i : Nat} (hi : i < 39) (h : p (rowAt i) = true) (ha : ∀ j, j < i → p (rowAt j) = false) : rows.find? p = some (rowAt i) := by
  rw [List.find?_eq_some_iff_getElem]
  have e : ∀ j (hj : j < rows.length), rows[j] = rowAt j := fun j hj => by simp [rowAt, List.getD, hj]
  refine ⟨h, i, by rw [rows_len]; exact hi, e i _, fun j hj => ?_⟩
  rw [e j (by rw [rows_len]; omega), ha j hj]
  rfl
theorem find_none {p : Row → Bool} (ha : ∀ j, j < 39 → p (rowAt j) = false) : rows.find? p = none := by
  rw [List.find?_eq_none]
  intro r hr
  obtain ⟨j, hj, rfl⟩ := List.getElem_of_mem hr
  have e : rows[j] = rowAt j := by simp [rowAt, List.getD, hj]
  rw [e, ha j (by rw [rows_len] at hj; exact hj)]
  simp
theorem find_at {p : Row → Bool} {r : Row} (h : rows.find? p = some r) : p r = true ∧ ∃ i, i < 39 ∧ r = rowAt i := by
  refine ⟨List.find?_some h, ?_⟩
  obtain ⟨j, hj, e⟩ := List.getElem_of_mem (List.mem_of_find?_eq_some h)
  exact ⟨j, by rw [rows_len] at hj; exact hj, by rw [← e]; simp [rowAt, List.getD, hj]⟩
end Ip

/-
  The small tests on an operation (package ins): hasK, hasJumps, isJump, fits; behind.
-/
namespace Go.Proofs.YtlhpdjafhjfcoaaDoor
open Go.ChangeShapes Go.WideShapes Go.ChangeAt Go.RowKit
set_option maxRecDepth 20000

end Go.Proofs.YtlhpdjafhjfcoaaDoor

/-
  What ins.byOp and ins.byWord answer, in every world that has the table of the operations.
-/
namespace Go.Proofs.YtlhpdjafhjfcoaaDoor
open Go.ChangeShapes Go.WideShapes Go.ChangeAt Go.RowKit
set_option maxRecDepth 20000

theorem str_eq (r : Ip.Row) (s : ByteArray) : (r.str.toList == s.toList) = (r.word == s.data.toList) := by
  rw [Go.ByteArray.toList_eq, Go.ByteArray.toList_eq]
  rfl
theorem byWord_some {s : ByteArray} {i : Nat} (hi : i < 39) (h : ((Ip.rowAt i).str.toList == s.toList) = true) (ha : ∀ j, j < i → ((Ip.rowAt j).str.toList == s.toList) = false) : Ip.byWord s = some (Ip.rowAt i) :=
  Ip.find_some hi (by rw [← str_eq]; exact h) (fun j hj => by rw [← str_eq]; exact ha j hj)
theorem byWord_none {s : ByteArray} (ha : ∀ j, j < 39 → ((Ip.rowAt j).str.toList == s.toList) = false) : Ip.byWord s = none :=
  Ip.find_none (fun j hj => by rw [← str_eq]; exact ha j hj)

end Go.Proofs.YtlhpdjafhjfcoaaDoor

/-
  What ins.Right answers, for any instruction, in every world that has the tables.
-/
namespace Go.Proofs.YtlhpdjafhjfcoaaDoor
open Go.ChangeShapes Go.WideShapes Go.ChangeAt Go.RowKit

abbrev insV (op jt jf k : Int) : Value := .agg #[.int .i64 op, .int .i64 jt, .int .i64 jf, .int .u32 k]

/-- Is it right? -/
def right (op jt jf k : Int) : Bool := (Ip.byOp op).isSome && Ip.fits ((Ip.byOp op).getD Ip.zeroRow).fmt jt jf k

end Go.Proofs.YtlhpdjafhjfcoaaDoor

/-
  What ins.Branch and Ends answer, for any instruction, in every world that has the tables.
-/
namespace Go.Proofs.YtlhpdjafhjfcoaaDoor
open Go.ChangeShapes Go.WideShapes Go.ChangeAt Go.RowKit

def isBranch (op : Int) : Bool := (Ip.byOp op).isSome && Ip.hasJ ((Ip.byOp op).getD Ip.zeroRow).fmt
end Go.Proofs.YtlhpdjafhjfcoaaDoor

/-
  What ins.Alu answers, for any instruction, in every world that has the tables.
-/
namespace Go.Proofs.YtlhpdjafhjfcoaaDoor
open Go.ChangeShapes Go.WideShapes Go.ChangeAt Go.RowKit

theorem ret3i {a a' : Int} {b b' c c' : Bool} (h : a = a') (hb : b = b') (hc : c = c') : Ending.returned (.tuple #[.int .i64 a, .bool b, .bool c]) = .returned (.tuple #[.int .i64 a', .bool b', .bool c']) := by rw [h, hb, hc]

end Go.Proofs.YtlhpdjafhjfcoaaDoor
