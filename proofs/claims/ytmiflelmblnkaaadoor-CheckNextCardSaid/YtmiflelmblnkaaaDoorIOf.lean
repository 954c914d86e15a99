/-
  What Print and Parse answer at one another's texts; and at the texts of the examples.
-/
import Derived.Test.YtmiflelmblnkaaaDoorIParse
import Derived.Test.YtmiflelmblnkaaaDoorIPrint
namespace Go.Proofs.YtmiflelmblnkaaaDoor
open Go.ChangeShapes Go.WideShapes Go.ChangeAt Go.RowKit
set_option maxRecDepth 20000

/-- A text that is an instruction's is read as it. -/
theorem iparse_of {r : Ip.Row} {jt jf k : Nat} (hr : r ∈ Ip.rows) (hf : Ip.Fine r.fmt jt jf k) (s : ByteArray) (hs : s.data.toList = Ip.join (Ip.partsOf r jt jf k)) (hz : s.size ≤ 4611686018427387904) (w : World) (ht : OTab w) :
    Calls Tryd.prog 37 #[.string s] w fun e w' => e = .returned (.tuple #[.agg #[.int .i64 r.op, .int .i64 jt, .int .i64 jf, .int .u32 k], .int .i64 0]) ∧ Below w.heap.size w w' := by
  refine (iparse_any s w hz ht).mono ?_
  rintro e w' ⟨he, hb⟩
  refine ⟨?_, hb⟩
  rcases he with ⟨r', jt', jf', k', hr', hf', hs', rfl⟩ | ⟨h, _⟩
  · obtain ⟨rfl, rfl, rfl, rfl⟩ := Ip.join_inj hr hr' hf hf' (hs.symm.trans hs')
    rfl
  · exact absurd hs (h r jt jf k hr hf)

theorem hex5 : Ip.tx 5 = [48, 120, 53] := by unfold Ip.tx; rw [Wd.hex_lt (by omega)]; rfl
theorem hex1 : Ip.tx 1 = [48, 120, 49] := by unfold Ip.tx; rw [Wd.hex_lt (by omega)]; rfl
theorem hex0 : Ip.tx 0 = [48, 120, 48] := by unfold Ip.tx; rw [Wd.hex_lt (by omega)]; rfl
theorem know_jeq : ([106, 101, 113, 32, 48, 120, 53, 32, 48, 120, 49, 32, 48, 120, 48] : List UInt8) = Ip.join (Ip.partsOf ⟨21, [106, 101, 113], 5⟩ 1 0 5) := by
  show _ = Ip.join [[106, 101, 113], Ip.tx 5, Ip.tx 1, Ip.tx 0]
  rw [hex5, hex1, hex0]
  rfl
theorem know_ret : text 6 0 0 2147418112 = [114, 101, 116, 32, 48, 120, 55, 102, 102, 102, 48, 48, 48, 48] := by
  show [114, 101, 116] ++ ((32 :: 48 :: 120 :: Wd.hex 2147418112) ++ []) = _
  rw [Wd.hex_ge (by omega), Wd.hex_ge (by omega), Wd.hex_ge (by omega), Wd.hex_ge (by omega), Wd.hex_ge (by omega), Wd.hex_ge (by omega), Wd.hex_ge (by omega), Wd.hex_lt (by omega)]
  rfl

theorem know_parse (w : World) (ht : OTab w) : Calls Tryd.prog 37 #[.string ⟨#[106, 101, 113, 32, 48, 120, 53, 32, 48, 120, 49, 32, 48, 120, 48]⟩] w fun e w' => e = .returned (.tuple #[.agg #[.int .i64 21, .int .i64 1, .int .i64 0, .int .u32 5], .int .i64 0]) ∧ Below w.heap.size w w' :=
  iparse_of (r := ⟨21, [106, 101, 113], 5⟩) (jt := 1) (jf := 0) (k := 5) (by decide) ⟨by decide, by decide⟩ _ know_jeq (by decide) _ ht
theorem know_print (w : World) (hT : Tab w) (ht : OTab w) : Calls Tryd.prog 33 #[.agg #[.int .i64 6, .int .i64 0, .int .i64 0, .int .u32 2147418112]] w fun e w' => e = .returned (.tuple #[.string ⟨#[114, 101, 116, 32, 48, 120, 55, 102, 102, 102, 48, 48, 48, 48]⟩, .int .i64 0]) ∧ Below w.heap.size w w' := by
  have h := print_good 6 0 0 2147418112 w ht hT (by decide) (by decide) (by decide)
  rw [know_ret] at h
  exact h
end Go.Proofs.YtmiflelmblnkaaaDoor
