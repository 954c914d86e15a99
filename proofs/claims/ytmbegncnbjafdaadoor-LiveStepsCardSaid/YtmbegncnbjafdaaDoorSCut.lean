/-
  What strings.Builder's WriteString and String do in this program: a builder that lies in a world grows by a text, and gives its text.
-/
import Derived.Test.YtmbegncnbjafdaaDoorBytes
import Derived.Test.YtmbegncnbjafdaaDoorIRead
import Derived.Shelf.Strings.Builder1
import Derived.Lib.Hide
import Derived.Shelf.Strings.Search1
import Derived.Lib.IndexLaws
import Derived.BigQuiet
namespace Go.Proofs.YtmbegncnbjafdaaDoor
open Go.ChangeShapes Go.WideShapes Go.ChangeAt Go.RowKit
set_option maxRecDepth 100000

theorem strCells_eq (s : ByteArray) : Lib.strCells s = Lib.byteCells s.data.toList := by
  simp [Lib.strCells, Lib.byteCells]

end Go.Proofs.YtmbegncnbjafdaaDoor

/-
  What strings.Cut answers at a mark of one byte: the parts ahead of and behind its first place.
-/
namespace Go.Proofs.YtmbegncnbjafdaaDoor
open Go.ChangeShapes Go.WideShapes Go.ChangeAt Go.RowKit
set_option maxRecDepth 100000

def ren217 : Go.Shelf.Ren := ⟨fun | 217 => 89 | 266 => 96 | n => n, fun | 9 => 9 | 5 => 5 | 3 => 3 | n => n, fun | n => n⟩
theorem lays217 : Go.Proofs.Lays.n217 Tryd.prog ren217 := {
  mixed := by kernel_rfl
  f217 := Tryd.func89.trans (congrArg some (by kernel_rfl))
  f266 := Tryd.func96.trans (congrArg some (by kernel_rfl))
  t3 := Tryd.underlying3
  a3 := Tryd.isAgg3
  z3 := Tryd.sizeOf3
  v3 := Tryd.zeroValue3
  t5 := Tryd.underlying5
  a5 := Tryd.isAgg5
  z5 := Tryd.sizeOf5
  v5 := Tryd.zeroValue5
  t9 := Tryd.underlying9
  a9 := Tryd.isAgg9
  z9 := Tryd.sizeOf9
  v9 := Tryd.zeroValue9 }
theorem sIndexByte (s : ByteArray) (c : Int) (w : World) :
    Calls Tryd.prog 89 #[.string s, .int .u8 c] w fun e w' => e = .returned (.int .i64 (Lib.indexByte s.data.toList c.toNat.toUInt8)) ∧ w' = w := Any.stringslite_IndexByte lays217 s c w
theorem retInt {a b : Int} (h : a = b) : Ending.returned (.int .i64 b) = .returned (.int .i64 a) := by rw [h]
theorem u8_back (c : UInt8) : ((c.toNat : Int).toNat).toUInt8 = c := by simp

theorem sIndex_any (s : ByteArray) (c : UInt8) (w : World) :
    Calls Tryd.prog 74 #[.string s, .string ⟨#[c]⟩] w fun e w' => e = .returned (.int .i64 (Lib.indexByte s.data.toList c)) ∧ w = w' := by
  cases h : ([c] == s.toList)
  · go_enter Tryd.func74, Tryd.ntmps74
    go_wp2_with fail
    refine (sIndexByte s _ w).mono ?_
    rintro e w' ⟨rfl, rfl⟩
    rw [u8_back]
    go_wp2_with fail
    go_ret
    exact ⟨rfl, rfl⟩
  · have HE : Hid (Lib.indexByte s.data.toList c = 0) := Lib.hid (by
      have e : s.data.toList = [c] := by rw [← Go.ByteArray.toList_eq]; exact (beq_iff_eq.1 h).symm
      rw [e]
      simp [Lib.indexByte])
    go_enter Tryd.func74, Tryd.ntmps74
    go_wp2_with fail
    go_ret
    exact ⟨retInt HE.out, rfl⟩

/-- What comes of a cut. -/
def SCutEnd (s : ByteArray) (c : UInt8) (w : World) (e : Ending) (w' : World) : Prop :=
  (((∀ x ∈ s.data.toList, x ≠ c) ∧ e = .returned (.tuple #[.string s, .string ⟨#[]⟩, .bool false])) ∨
    ∃ p q : List UInt8, s.data.toList = p ++ c :: q ∧ (∀ x ∈ p, x ≠ c) ∧ e = .returned (.tuple #[.string ⟨p.toArray⟩, .string ⟨q.toArray⟩, .bool true])) ∧ ∃ n, w' = w.drewN n
theorem index_cases (l : List UInt8) (c : UInt8) : (Lib.indexByte l c = -1 ∧ ∀ x ∈ l, x ≠ c) ∨ ∃ o : Nat, o < l.length ∧ Lib.indexByte l c = o ∧ l = l.take o ++ c :: l.drop (o + 1) ∧ ∀ x ∈ l.take o, x ≠ c := by
  have hge := Lib.indexByte_ge l c
  by_cases h : Lib.indexByte l c = -1
  · refine .inl ⟨h, fun x hx e => ?_⟩
    obtain ⟨k, hk⟩ := List.getElem?_of_mem hx
    exact Lib.indexByte_none h k (by rw [hk, e])
  · obtain ⟨o, ho⟩ := Int.eq_ofNat_of_zero_le (show 0 ≤ Lib.indexByte l c by omega)
    obtain ⟨h1, h2⟩ := Lib.indexByte_some ho
    have hl : o < l.length := (List.getElem?_eq_some_iff.1 h1).1
    refine .inr ⟨o, hl, ho, ?_, fun x hx e => ?_⟩
    · have h3 : l[o] = c := by rw [List.getElem?_eq_getElem hl] at h1; exact Option.some.inj h1
      rw [← h3, ← List.drop_eq_getElem_cons hl, List.take_append_drop]
    · obtain ⟨k, hk⟩ := List.getElem?_of_mem hx
      rw [List.getElem?_take] at hk
      split at hk
      · rename_i hko
        exact h2 k hko (by rw [hk, e])
      · cases hk
theorem take_str (s : ByteArray) (o : Nat) : s.extract 0 o = ⟨(s.data.toList.take o).toArray⟩ := by
  apply ByteArray.ext
  apply Array.ext'
  simp [List.extract_eq_take_drop]
theorem drop_str (s : ByteArray) (o : Nat) : s.extract o s.size = ⟨(s.data.toList.drop o).toArray⟩ := by
  apply ByteArray.ext
  apply Array.ext'
  simp [List.extract_eq_take_drop]
  apply List.take_of_length_le
  rw [List.length_drop, Array.length_toList]
  exact Nat.le_refl _

set_option maxHeartbeats 1000000 in
theorem liteCut_any (s : ByteArray) (c : UInt8) (w : World) (hs : s.size ≤ 4611686018427387904) :
    Calls Tryd.prog 59 #[.string s, .string ⟨#[c]⟩] w (SCutEnd s c w) := by
  rcases index_cases s.data.toList c with ⟨h1, h2⟩ | ⟨o, h0, h1, h2, h3⟩
  · have H2 := Lib.hid h2
    have H1 := Lib.hid h1
    clear h2 h1
    go_enter Tryd.func59, Tryd.ntmps59
    go_wp2_with fail
    refine (sIndex_any s c w).mono ?_
    rintro e w' ⟨rfl, rfl⟩
    rw [H1.out]
    go_wp2_with fail
    go_ret3
    exact ⟨.inl ⟨H2.out, rfl⟩, 0, rfl⟩
  · have H1 := Lib.hid h1
    have hlt : o < s.size := h0
    have HEnd : Hid (∀ n, SCutEnd s c w (.returned (.tuple #[.string (s.extract 0 o), .string (s.extract (o + 1) s.size), .bool true])) (w.drewN n)) := Lib.hid (fun n => ⟨.inr ⟨_, _, h2, h3, by rw [take_str, drop_str]⟩, n, rfl⟩)
    clear h2 h3 h1 h0
    go_enter Tryd.func59, Tryd.ntmps59
    go_wp2_with fail
    refine (sIndex_any s c w).mono ?_
    rintro e w' ⟨rfl, rfl⟩
    rw [H1.out]
    have c1 : (0 : Int) ≤ ↑o := by omega
    have c2 : (o : Int) ≤ ↑s.size := by omega
    have c3 : (0 : Int) ≤ ↑o + 1 := by omega
    have c4 : (o + 1 : Int) ≤ ↑s.size := by omega
    go_wp2_with fail
    go_quiet (fail)
    go_wp2_with fail
    go_ret3
    exact HEnd.out _
theorem strCut_any (s : ByteArray) (c : UInt8) (w : World) (hs : s.size ≤ 4611686018427387904) :
    Calls Tryd.prog 44 #[.string s, .string ⟨#[c]⟩] w (SCutEnd s c w) := by
  go_enter Tryd.func44, Tryd.ntmps44
  go_wp2_with fail
  refine (liteCut_any s c w hs).mono ?_
  rintro e w' ⟨he, n, rfl⟩
  rcases he with ⟨h1, rfl⟩ | ⟨p, q, h1, h2, rfl⟩
  · have H1 := Lib.hid h1
    clear h1
    go_wp2_with fail
    go_ret3
    exact ⟨.inl ⟨H1.out, rfl⟩, n, rfl⟩
  · have H1 := Lib.hid h1
    have H2 := Lib.hid h2
    clear h1 h2
    go_wp2_with fail
    go_ret3
    exact ⟨.inr ⟨p, q, H1.out, H2.out, rfl⟩, n, rfl⟩
end Go.Proofs.YtmbegncnbjafdaaDoor
