/-
  What Print and Parse answer at one another's texts; and at the texts of the examples.
-/
import Derived.Test.YtlhpdjafhjfcoaaDoorIParse
import Derived.Test.YtlhpdjafhjfcoaaDoorIPrint
namespace Go.Proofs.YtlhpdjafhjfcoaaDoor
open Go.ChangeShapes Go.WideShapes Go.ChangeAt Go.RowKit
set_option maxRecDepth 20000

theorem hex5 : Ip.tx 5 = [48, 120, 53] := by unfold Ip.tx; rw [Wd.hex_lt (by omega)]; rfl
theorem hex1 : Ip.tx 1 = [48, 120, 49] := by unfold Ip.tx; rw [Wd.hex_lt (by omega)]; rfl
theorem hex0 : Ip.tx 0 = [48, 120, 48] := by unfold Ip.tx; rw [Wd.hex_lt (by omega)]; rfl
theorem know_jeq : ([106, 101, 113, 32, 48, 120, 53, 32, 48, 120, 49, 32, 48, 120, 48] : List UInt8) = Ip.join (Ip.partsOf ⟨21, [106, 101, 113], 5⟩ 1 0 5) := by
  show _ = Ip.join [[106, 101, 113], Ip.tx 5, Ip.tx 1, Ip.tx 0]
  rw [hex5, hex1, hex0]
  rfl
theorem know_ret : text 6 0 0 2147418112 = [114, 101, 116, 32, 48, 120, 55, 102, 102, 102, 48, 48, 48, 48] := by
  show [114, 101, 116] ++ ((32 :: 48 :: 120 :: Wd.hex 2147418112) ++ []) = _
  rw [Wd.hex_ge (by omega), Wd.hex_ge (by omega), Wd.hex_ge (by omega), Wd.hex_ge (by omega), Wd.hex_ge (by omega), Wd.hex_ge (by omega), Wd.hex_ge (by omega), Wd.hex_lt (by omega)]
  rfl

end Go.Proofs.YtlhpdjafhjfcoaaDoor

/-
  Right instructions and their texts: what Print and Parse answer, said over the rows of the table.
-/
namespace Go.Proofs.YtlhpdjafhjfcoaaDoor
open Go.ChangeShapes Go.WideShapes Go.ChangeAt Go.RowKit

theorem right_row {op jt jf k : Int} (h : right op jt jf k = true) (hk0 : 0 ≤ k) (hk : k ≤ 4294967295) : ∃ (r : Ip.Row) (a b c : Nat), r ∈ Ip.rows ∧ op = r.op ∧ jt = a ∧ jf = b ∧ k = c ∧ Ip.Fine r.fmt a b c := by
  unfold right at h
  cases hr : Ip.byOp op with
  | none => rw [hr] at h; cases h
  | some r =>
    rw [hr] at h
    have hf : Ip.fits r.fmt jt jf k = true := by simpa using h
    obtain ⟨hm, ho⟩ := Ip.byOp_op hr
    have hj : 0 ≤ jt ∧ 0 ≤ jf := by
      cases hJ : Ip.hasJ r.fmt
      · unfold Ip.fits at hf
        rw [hJ] at hf
        simp at hf
        omega
      · have := Ip.fits_J hf hJ
        omega
    obtain ⟨a, rfl⟩ := Int.eq_ofNat_of_zero_le hj.1
    obtain ⟨b, rfl⟩ := Int.eq_ofNat_of_zero_le hj.2
    obtain ⟨c, rfl⟩ := Int.eq_ofNat_of_zero_le hk0
    exact ⟨r, a, b, c, hm, ho.symm, rfl, rfl, rfl, hf, by omega⟩
theorem right_of {r : Ip.Row} {a b c : Nat} (hr : r ∈ Ip.rows) (hf : Ip.Fine r.fmt a b c) : right r.op a b c = true := by
  unfold right
  rw [Ip.byOp_row hr]
  exact hf.1
theorem text_of {r : Ip.Row} {a b c : Nat} (hr : r ∈ Ip.rows) : text r.op a b c = Ip.join (Ip.partsOf r a b c) := by
  unfold text
  rw [Ip.byOp_row hr, Ip.parts_join]
  rfl
theorem fine_bd {f : Int} {a b c : Nat} (h : Ip.Fine f a b c) : a ≤ 255 ∧ b ≤ 255 := by
  cases hJ : Ip.hasJ f
  · have := Ip.fine_J h hJ
    omega
  · have := Ip.fits_J h.1 hJ
    omega
theorem join_len {r : Ip.Row} {a b c : Nat} (hr : r ∈ Ip.rows) (hf : Ip.Fine r.fmt a b c) : (Ip.join (Ip.partsOf r a b c)).length ≤ 62 := by
  have h5 := Ip.word_len r hr
  have hb := fine_bd hf
  have h1 := Wd.hex_len16 a (by omega)
  have h2 := Wd.hex_len16 b (by omega)
  have h3 := Wd.hex_len16 c (by have := hf.2; omega)
  rw [Ip.parts_join]
  unfold Ip.tail
  rw [Ip.tl_tx, Ip.tl_tx, Ip.tl_tx]
  cases Ip.hasK r.fmt <;> cases Ip.hasJ r.fmt <;> simp [Ip.tx] <;> omega
/-- The text of a row's instruction. -/
def itxt (r : Ip.Row) (a b c : Nat) : ByteArray := ⟨(Ip.join (Ip.partsOf r a b c)).toArray⟩
theorem itxt_list (r : Ip.Row) (a b c : Nat) : (itxt r a b c).data.toList = Ip.join (Ip.partsOf r a b c) := by simp [itxt]
theorem itxt_size {r : Ip.Row} {a b c : Nat} (hr : r ∈ Ip.rows) (hf : Ip.Fine r.fmt a b c) : (itxt r a b c).size ≤ 62 := join_len hr hf
theorem itxt_inj {r r' : Ip.Row} {a b c a' b' c' : Nat} (hr : r ∈ Ip.rows) (hr' : r' ∈ Ip.rows) (h : Ip.Fine r.fmt a b c) (h' : Ip.Fine r'.fmt a' b' c') (e : itxt r a b c = itxt r' a' b' c') : r = r' ∧ a = a' ∧ b = b' ∧ c = c' :=
  Ip.join_inj hr hr' h h' (by rw [← itxt_list, ← itxt_list, e])
end Go.Proofs.YtlhpdjafhjfcoaaDoor
