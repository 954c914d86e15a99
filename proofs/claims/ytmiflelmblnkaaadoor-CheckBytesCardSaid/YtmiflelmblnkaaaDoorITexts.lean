/-
  Right instructions and their texts: what Print and Parse answer, said over the rows of the table.
-/
import Derived.Test.YtmiflelmblnkaaaDoorIOf
namespace Go.Proofs.YtmiflelmblnkaaaDoor
open Go.ChangeShapes Go.WideShapes Go.ChangeAt Go.RowKit

theorem right_row {op jt jf k : Int} (h : right op jt jf k = true) (hk0 : 0 ≤ k) (hk : k ≤ 4294967295) : ∃ (r : Ip.Row) (a b c : Nat), r ∈ Ip.rows ∧ op = r.op ∧ jt = a ∧ jf = b ∧ k = c ∧ Ip.Fine r.fmt a b c := by
  unfold right at h
  cases hr : Ip.byOp op with
  | none => rw [hr] at h; cases h
  | some r =>
    rw [hr] at h
    have hf : Ip.fits r.fmt jt jf k = true := by simpa using h
    obtain ⟨hm, ho⟩ := Ip.byOp_op hr
    have hj : 0 ≤ jt ∧ 0 ≤ jf := by
      cases hJ : Ip.hasJ r.fmt
      · unfold Ip.fits at hf
        rw [hJ] at hf
        simp at hf
        omega
      · have := Ip.fits_J hf hJ
        omega
    obtain ⟨a, rfl⟩ := Int.eq_ofNat_of_zero_le hj.1
    obtain ⟨b, rfl⟩ := Int.eq_ofNat_of_zero_le hj.2
    obtain ⟨c, rfl⟩ := Int.eq_ofNat_of_zero_le hk0
    exact ⟨r, a, b, c, hm, ho.symm, rfl, rfl, rfl, hf, by omega⟩
theorem right_of {r : Ip.Row} {a b c : Nat} (hr : r ∈ Ip.rows) (hf : Ip.Fine r.fmt a b c) : right r.op a b c = true := by
  unfold right
  rw [Ip.byOp_row hr]
  exact hf.1
theorem text_of {r : Ip.Row} {a b c : Nat} (hr : r ∈ Ip.rows) : text r.op a b c = Ip.join (Ip.partsOf r a b c) := by
  unfold text
  rw [Ip.byOp_row hr, Ip.parts_join]
  rfl
theorem fine_bd {f : Int} {a b c : Nat} (h : Ip.Fine f a b c) : a ≤ 255 ∧ b ≤ 255 := by
  cases hJ : Ip.hasJ f
  · have := Ip.fine_J h hJ
    omega
  · have := Ip.fits_J h.1 hJ
    omega
theorem join_len {r : Ip.Row} {a b c : Nat} (hr : r ∈ Ip.rows) (hf : Ip.Fine r.fmt a b c) : (Ip.join (Ip.partsOf r a b c)).length ≤ 62 := by
  have h5 := Ip.word_len r hr
  have hb := fine_bd hf
  have h1 := Wd.hex_len16 a (by omega)
  have h2 := Wd.hex_len16 b (by omega)
  have h3 := Wd.hex_len16 c (by have := hf.2; omega)
  rw [Ip.parts_join]
  unfold Ip.tail
  rw [Ip.tl_tx, Ip.tl_tx, Ip.tl_tx]
  cases Ip.hasK r.fmt <;> cases Ip.hasJ r.fmt <;> simp [Ip.tx] <;> omega
/-- The text of a row's instruction. -/
def itxt (r : Ip.Row) (a b c : Nat) : ByteArray := ⟨(Ip.join (Ip.partsOf r a b c)).toArray⟩
theorem itxt_list (r : Ip.Row) (a b c : Nat) : (itxt r a b c).data.toList = Ip.join (Ip.partsOf r a b c) := by simp [itxt]
theorem itxt_size {r : Ip.Row} {a b c : Nat} (hr : r ∈ Ip.rows) (hf : Ip.Fine r.fmt a b c) : (itxt r a b c).size ≤ 62 := join_len hr hf
theorem print_row {r : Ip.Row} {a b c : Nat} (hr : r ∈ Ip.rows) (hf : Ip.Fine r.fmt a b c) (w : World) (ht : OTab w) (hT : Tab w) :
    Calls Tryd.prog 33 #[insV r.op a b c] w fun e w' => e = .returned (.tuple #[.string (itxt r a b c), .int .i64 0]) ∧ Below w.heap.size w w' := by
  have h := print_good r.op a b c w ht hT (by omega) (by have := hf.2; omega) (right_of hr hf)
  rw [text_of hr] at h
  exact h
theorem parse_row {r : Ip.Row} {a b c : Nat} (hr : r ∈ Ip.rows) (hf : Ip.Fine r.fmt a b c) (w : World) (ht : OTab w) :
    Calls Tryd.prog 37 #[.string (itxt r a b c)] w fun e w' => e = .returned (.tuple #[insV r.op a b c, .int .i64 0]) ∧ Below w.heap.size w w' :=
  iparse_of hr hf _ (itxt_list r a b c) (by have := itxt_size hr hf; omega) w ht
/-- What Print answers, both ways at once. -/
theorem print_any (op jt jf k : Int) (w : World) (ht : OTab w) (hT : Tab w) (hk0 : 0 ≤ k) (hk : k ≤ 4294967295) :
    Calls Tryd.prog 33 #[insV op jt jf k] w fun e w' => ((∃ (r : Ip.Row) (a b c : Nat), r ∈ Ip.rows ∧ Ip.Fine r.fmt a b c ∧ op = r.op ∧ jt = a ∧ jf = b ∧ k = c ∧ e = .returned (.tuple #[.string (itxt r a b c), .int .i64 0])) ∨ (right op jt jf k = false ∧ e = .returned (.tuple #[.string ⟨#[]⟩, .int .i64 1]))) ∧ Below w.heap.size w w' := by
  cases h : right op jt jf k
  · refine (print_bad op jt jf k w ht h).mono ?_
    rintro e w' ⟨rfl, hb⟩
    exact ⟨.inr ⟨rfl, rfl⟩, hb⟩
  · obtain ⟨r, a, b, c, hr, rfl, rfl, rfl, rfl, hf⟩ := right_row h hk0 hk
    refine (print_row hr hf w ht hT).mono ?_
    rintro e w' ⟨rfl, hb⟩
    exact ⟨.inl ⟨r, a, b, c, hr, hf, rfl, rfl, rfl, rfl, rfl⟩, hb⟩
theorem itxt_inj {r r' : Ip.Row} {a b c a' b' c' : Nat} (hr : r ∈ Ip.rows) (hr' : r' ∈ Ip.rows) (h : Ip.Fine r.fmt a b c) (h' : Ip.Fine r'.fmt a' b' c') (e : itxt r a b c = itxt r' a' b' c') : r = r' ∧ a = a' ∧ b = b' ∧ c = c' :=
  Ip.join_inj hr hr' h h' (by rw [← itxt_list, ← itxt_list, e])
end Go.Proofs.YtmiflelmblnkaaaDoor
