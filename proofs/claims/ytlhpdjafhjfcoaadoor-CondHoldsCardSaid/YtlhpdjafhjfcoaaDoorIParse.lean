/-
  What ins.Parse answers, for any text, in every world that has the table of the operations: the instruction whose text it is, or ErrForm.
-/
import Derived.Test.YtlhpdjafhjfcoaaDoorIReadW
import Derived.Test.YtlhpdjafhjfcoaaDoorAluP
import Derived.Test.YtlhpdjafhjfcoaaDoorIAlu
import Derived.Deep.RegionHeld3
namespace Go.Proofs.YtlhpdjafhjfcoaaDoor
open Go.ChangeShapes Go.WideShapes Go.ChangeAt Go.RowKit
set_option maxRecDepth 20000

/-- What comes of reading a text. -/
def IParseEnd (s : ByteArray) (e : Ending) : Prop :=
  (∃ (r : Ip.Row) (jt jf k : Nat), r ∈ Ip.rows ∧ Ip.Fine r.fmt jt jf k ∧ s.data.toList = Ip.join (Ip.partsOf r jt jf k) ∧ e = .returned (.tuple #[.agg #[.int .i64 r.op, .int .i64 jt, .int .i64 jf, .int .u32 k], .int .i64 0])) ∨
  ((∀ (r : Ip.Row) (jt jf k : Nat), r ∈ Ip.rows → Ip.Fine r.fmt jt jf k → s.data.toList ≠ Ip.join (Ip.partsOf r jt jf k)) ∧ e = .returned (.tuple #[.agg #[.int .i64 0, .int .i64 0, .int .i64 0, .int .u32 0], .int .i64 2]))
theorem cut_ne (s : ByteArray) : ∃ x l, Ip.sp 4 [] s.data.toList = x :: l := by
  cases h : Ip.sp 4 [] s.data.toList with
  | nil => exact absurd h (Ip.sp_ne _ _ _)
  | cons x l => exact ⟨x, l, rfl⟩
theorem iparse_word {s : ByteArray} {x : List UInt8} {l : List (List UInt8)} (h : Ip.sp 4 [] s.data.toList = x :: l) (hn : Ip.byWord ⟨x.toArray⟩ = none) :
    IParseEnd s (.returned (.tuple #[.agg #[.int .i64 0, .int .i64 0, .int .i64 0, .int .u32 0], .int .i64 2])) := by
  refine .inr ⟨fun r jt jf k hr hf e => ?_, rfl⟩
  rw [e, Ip.parts_cut hr] at h
  have hx : r.word = x := (List.cons.inj h).1
  rw [Ip.byWord_row hr (s := ⟨x.toArray⟩) (by simpa using hx.symm)] at hn
  cases hn
theorem iparse_read {s : ByteArray} {x : List UInt8} {l : List (List UInt8)} {r : Ip.Row} {e : Ending} (h : Ip.sp 4 [] s.data.toList = x :: l) (hr : Ip.byWord ⟨x.toArray⟩ = some r) (he : ReadEnd r l e) :
    (∃ jt jf k : Nat, e = .returned (.tuple #[.agg #[.int .i64 r.op, .int .i64 jt, .int .i64 jf, .int .u32 k], .bool true]) ∧ IParseEnd s (.returned (.tuple #[.agg #[.int .i64 r.op, .int .i64 jt, .int .i64 jf, .int .u32 k], .int .i64 0]))) ∨
    (e = .returned (.tuple #[.agg #[.int .i64 0, .int .i64 0, .int .i64 0, .int .u32 0], .bool false]) ∧ IParseEnd s (.returned (.tuple #[.agg #[.int .i64 0, .int .i64 0, .int .i64 0, .int .u32 0], .int .i64 2]))) := by
  obtain ⟨hm, hw⟩ := Ip.byWord_word hr
  have hw' : r.word = x := by simpa using hw
  rcases he with ⟨jt, jf, k, hf, hl, rfl⟩ | ⟨hno, rfl⟩
  · refine .inl ⟨jt, jf, k, rfl, .inl ⟨r, jt, jf, k, hm, hf, ?_, rfl⟩⟩
    have hj := Ip.join_sp s.data.toList 4 []
    rw [h] at hj
    rw [List.nil_append] at hj
    rw [← hj, Ip.partsOf, hw', hl]
  · refine .inr ⟨rfl, .inr ⟨fun r' jt jf k hr' hf e => ?_, rfl⟩⟩
    rw [e, Ip.parts_cut hr'] at h
    have hx := List.cons.inj h
    obtain rfl := Ip.word_inj r hm r' hr' (hw'.trans hx.1.symm)
    exact hno jt jf k hf hx.2.symm

theorem iparse_got {s : ByteArray} {x : List UInt8} {l : List (List UInt8)} {r : Ip.Row} {op jt jf k : Int} {b : Bool} (h : Ip.sp 4 [] s.data.toList = x :: l) (hr : Ip.byWord ⟨x.toArray⟩ = some r)
    (he : ReadEnd r l (.returned (.tuple #[.agg #[.int .i64 op, .int .i64 jt, .int .i64 jf, .int .u32 k], .bool b]))) :
    (b = true ∧ IParseEnd s (.returned (.tuple #[.agg #[.int .i64 op, .int .i64 jt, .int .i64 jf, .int .u32 k], .int .i64 0]))) ∨
    (b = false ∧ IParseEnd s (.returned (.tuple #[.agg #[.int .i64 0, .int .i64 0, .int .i64 0, .int .u32 0], .int .i64 2]))) := by
  rcases iparse_read h hr he with ⟨jt', jf', k', h1, h2⟩ | ⟨h1, h2⟩
  · simp at h1
    obtain ⟨⟨rfl, rfl, rfl, rfl⟩, rfl⟩ := h1
    exact .inl ⟨rfl, h2⟩
  · simp at h1
    exact .inr ⟨h1.2, h2⟩
/-- The fields' slice, in every world that has grown. -/
theorem strs_of {w1 W : World} {g c : Nat} {l : List (List UInt8)} (hB : Below w1.heap.size w1 W) (hg : g < w1.heap.size) (hln : l.length + 1 ≤ c) (hq : ∀ i (h : i < l.length), w1.cell? ⟨g, 1 + i, none⟩ = some (.string ⟨l[i].toArray⟩)) :
    Strs W (.slice (some ⟨g, 1, none⟩) l.length (c - 1)) l :=
  .inr ⟨g, 1, c - 1, rfl, by omega, Nat.lt_of_lt_of_le hg hB.size, fun i h => (hB.cell (p := ⟨g, 1 + i, none⟩) hg).trans (hq i h)⟩

theorem slice_tail (g c n : Nat) (h : n + 1 ≤ c) : ∃ v, (∀ W, (Instr.slice 52 (.slice (some ⟨g, 0, none⟩) (n + 1) c) (some (.int .i64 1)) none none).run Tryd.prog W = .ok v W) ∧ ((n = 0 ∧ ∃ a cc, v = .slice a 0 cc) ∨ v = .slice (some ⟨g, 1, none⟩) n (c - 1)) := by
  by_cases hc1 : c = 1
  · subst hc1
    obtain rfl : n = 0 := by omega
    refine ⟨.slice (some ⟨g, 0, none⟩) 0 0, fun W => ?_, .inl ⟨rfl, _, _, rfl⟩⟩
    go_simp
  · refine ⟨_, fun W => ?_, .inr rfl⟩
    go_simp
    intro hh
    omega
end Go.Proofs.YtlhpdjafhjfcoaaDoor
