/-
  What ins.Print answers, for any instruction, in every world that has the tables: its text, or the empty text and ErrArg.
-/
import Derived.Test.YtlhpdjafhjfcoaaDoorIAlu
namespace Go.Proofs.YtlhpdjafhjfcoaaDoor
open Go.ChangeShapes Go.WideShapes Go.ChangeAt Go.RowKit
set_option maxRecDepth 20000

theorem tl_nat (n : Nat) : Ip.tl (n : Int) = 32 :: 48 :: 120 :: Wd.hex n := by simp [Ip.tl]

theorem row_of {op : Int} {r r' : Ip.Row} {b : Bool} (hr : Ip.byOp op = some r) (h1 : r' = (Ip.byOp op).getD Ip.zeroRow) (h2 : b = (Ip.byOp op).isSome) : r' = r ∧ b = true := by
  rw [hr] at h1 h2
  exact ⟨h1, h2⟩
theorem retS {s s' : ByteArray} {c : Int} (h : s = s') : Ending.returned (.tuple #[.string s, .int .i64 c]) = .returned (.tuple #[.string s', .int .i64 c]) := by rw [h]
theorem str_join (r : Ip.Row) (l : List UInt8) : r.str ++ (⟨l.toArray⟩ : ByteArray) = ⟨(r.word ++ l).toArray⟩ := Wd.joined _ _

/-- An instruction's text. -/
def text (op jt jf k : Int) : List UInt8 := ((Ip.byOp op).getD Ip.zeroRow).word ++ Ip.tail ((Ip.byOp op).getD Ip.zeroRow).fmt jt jf k
end Go.Proofs.YtlhpdjafhjfcoaaDoor
