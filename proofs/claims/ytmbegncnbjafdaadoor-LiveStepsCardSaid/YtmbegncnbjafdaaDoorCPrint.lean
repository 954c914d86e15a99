/-
  What codec.Encode answers, for any filter that lies in a world.
-/
import Derived.Test.YtmbegncnbjafdaaDoorCFault
import Derived.Test.YtmbegncnbjafdaaDoorITexts
import Derived.Test.YtmbegncnbjafdaaDoorSCut
namespace Go.Proofs.YtmbegncnbjafdaaDoor
open Go.ChangeShapes Go.WideShapes Go.ChangeAt Go.RowKit
set_option maxRecDepth 20000

/-- The bytes of an instruction, and of a filter. -/
def encX (x : X4) : List UInt8 := lowBytes x.op.toNat 2 ++ lowBytes x.jt.toNat 1 ++ lowBytes x.jf.toNat 1 ++ lowBytes x.k.toNat 4
def encL (l : List X4) : List UInt8 := if ferr l = 0 then l.flatMap encX else []
theorem encX_len (x : X4) : (encX x).length = 8 := by simp [encX, lowBytes_len]
theorem enc_len (l : List X4) : (l.flatMap encX).length = 8 * l.length := by
  induction l with
  | nil => rfl
  | cons x l ih => rw [List.flatMap_cons, List.length_append, encX_len, ih, List.length_cons]; omega
theorem enc_snoc {l : List X4} {n : Nat} (h : n < l.length) : (l.take (n + 1)).flatMap encX = (l.take n).flatMap encX ++ encX l[n] := by
  rw [List.take_succ_eq_append_getElem h, List.flatMap_append]
  simp
theorem ferr_zero {l : List X4} (h : ferr l = 0) : l.length ≤ 4096 ∧ l.all X4.right = true := by
  unfold ferr at h
  by_cases h1 : 4096 < l.length
  · rw [if_pos h1] at h; cases h
  · rw [if_neg h1] at h
    by_cases h2 : l.all X4.right = true
    · exact ⟨by omega, h2⟩
    · rw [if_neg h2] at h; cases h
theorem ferr_of {l : List X4} (h1 : l.length ≤ 4096) (h2 : l.all X4.right = true) : ferr l = 0 := by
  unfold ferr
  rw [if_neg (by omega), if_pos h2]
theorem encL_ok {l : List X4} (h : ferr l = 0) : encL l = l.flatMap encX := by unfold encL; rw [if_pos h]
theorem encL_bad {l : List X4} (h : ferr l ≠ 0) : encL l = [] := by unfold encL; rw [if_neg h]
/-- A right instruction's four numbers. -/
theorem right_nats {x : X4} (h : x.right = true) (hk : x.ok) : ∃ o a b c : Nat, x = ⟨o, a, b, c⟩ ∧ o ≤ 172 ∧ a ≤ 255 ∧ b ≤ 255 ∧ c ≤ 4294967295 := by
  obtain ⟨op, jt, jf, k⟩ := x
  obtain ⟨r, a, b, c, hr, rfl, rfl, rfl, rfl, hf⟩ := right_row h hk.1 hk.2
  have h1 := Ip.row_bd r hr
  have h2 := fine_bd hf
  refine ⟨r.op.toNat, a, b, c, ?_, by omega, h2.1, h2.2, hf.2⟩
  rw [Int.toNat_of_nonneg h1.1]
def EncEnd (l : List X4) (w : World) (e : Ending) (w' : World) : Prop := ∃ u, e = .returned (.tuple #[u, .int .i64 (ferr l)]) ∧ BAt w' u (encL l) ∧ Below w.heap.size w w'
theorem encEnd {l : List X4} {w w' : World} {u : Value} {n : Int} (hn : ferr l = n) (hF : BAt w' u (encL l)) (hB : Below w.heap.size w w') : EncEnd l w (.returned (.tuple #[u, .int .i64 n])) w' := ⟨u, by rw [hn], hF, hB⟩
theorem insB_other (op jt jf k : Int) : ∀ c fz, insB op jt jf k ≠ .cells c 5 fz := by
  intro c fz h
  injection h with _ h2
  revert h2
  decide

end Go.Proofs.YtmbegncnbjafdaaDoor

/-
  What codec.Print answers, for any filter that lies in a world.
-/
namespace Go.Proofs.YtmbegncnbjafdaaDoor
open Go.ChangeShapes Go.WideShapes Go.ChangeAt Go.RowKit
set_option maxRecDepth 20000

/-- The text of an instruction with its line's end, and of a filter. -/
def lineX (x : X4) : List UInt8 := text x.op x.jt x.jf x.k ++ [10]
def textL (l : List X4) : List UInt8 := if ferr l = 0 then l.flatMap lineX else []
theorem textL_ok {l : List X4} (h : ferr l = 0) : textL l = l.flatMap lineX := by unfold textL; rw [if_pos h]
theorem textL_bad {l : List X4} (h : ferr l ≠ 0) : textL l = [] := by unfold textL; rw [if_neg h]
theorem line_snoc {l : List X4} {n : Nat} (h : n < l.length) : (l.take (n + 1)).flatMap lineX = (l.take n).flatMap lineX ++ lineX l[n] := by
  rw [List.take_succ_eq_append_getElem h, List.flatMap_append]
  simp
/-- A right instruction is a row's. -/
theorem right_is {x : X4} (h : x.right = true) (hk : x.ok) : ∃ (r : Ip.Row) (a b c : Nat), r ∈ Ip.rows ∧ Ip.Fine r.fmt a b c ∧ x = ⟨r.op, a, b, c⟩ := by
  obtain ⟨op, jt, jf, k⟩ := x
  obtain ⟨r, a, b, c, hr, rfl, rfl, rfl, rfl, hf⟩ := right_row h hk.1 hk.2
  exact ⟨r, a, b, c, hr, hf, rfl⟩
theorem lineX_row {r : Ip.Row} {a b c : Nat} (hr : r ∈ Ip.rows) : lineX ⟨r.op, a, b, c⟩ = (itxt r a b c).data.toList ++ [10] := by
  unfold lineX
  rw [itxt_list]
  simp only
  rw [text_of hr]
theorem lines_le {l : List X4} (hr : l.all X4.right = true) (hk : ∀ x ∈ l, x.ok) : (l.flatMap lineX).length ≤ 63 * l.length := by
  induction l with
  | nil => simp
  | cons x l ih =>
    rw [List.all_cons, Bool.and_eq_true] at hr
    obtain ⟨r, a, b, c, hr', hf, rfl⟩ := right_is hr.1 (hk _ (List.mem_cons_self))
    have h1 := ih hr.2 (fun y hy => hk y (List.mem_cons_of_mem _ hy))
    have h2 := itxt_size hr' hf
    have h3 : (itxt r a b c).data.toList.length = (itxt r a b c).size := Array.length_toList
    rw [List.flatMap_cons, List.length_append, lineX_row hr', List.length_append, show ([10] : List UInt8).length = 1 from rfl, List.length_cons]
    omega
def PrintEnd (l : List X4) (w : World) (e : Ending) (w' : World) : Prop := e = .returned (.tuple #[.string ⟨(textL l).toArray⟩, .int .i64 (ferr l)]) ∧ Below w.heap.size w w'
theorem printEnd {l : List X4} {w w' : World} {s : List UInt8} {n : Int} (hn : ferr l = n) (hs : textL l = s) (hB : Below w.heap.size w w') : PrintEnd l w (.returned (.tuple #[.string ⟨s.toArray⟩, .int .i64 n])) w' := ⟨by rw [hn, hs], hB⟩

end Go.Proofs.YtmbegncnbjafdaaDoor
