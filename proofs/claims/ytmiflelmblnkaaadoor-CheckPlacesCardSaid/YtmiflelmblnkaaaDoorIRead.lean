/-
  What operation.read answers: the instruction whose fields have these texts, or none.
-/
import Derived.Test.YtmiflelmblnkaaaDoorICut
namespace Ip
open Go
/-- A number's text. -/
def tx (n : Nat) : List UInt8 := 48 :: 120 :: Wd.hex n
theorem tx_inj {m n : Nat} (h : tx m = tx n) : m = n := by
  unfold tx at h
  simp only [List.cons.injEq, true_and] at h
  exact Wd.hex_inj h
/-- The texts of the fields that a format has. -/
def fieldsOf (f : Int) (jt jf k : Nat) : List (List UInt8) := (if hasK f then [tx k] else []) ++ (if hasJ f then [tx jt, tx jf] else [])
/-- What the fields of an instruction must be. -/
def Fine (f : Int) (jt jf k : Nat) : Prop := fits f jt jf k = true ∧ k ≤ 4294967295
theorem fields_len (f : Int) (jt jf k : Nat) : (fieldsOf f jt jf k).length = (lims f).length := by
  unfold fieldsOf lims
  cases hasK f <;> cases hasJ f <;> rfl
theorem fits_J {f jt jf k : Int} (h : fits f jt jf k = true) (hJ : hasJ f = true) : (0 ≤ jt ∧ jt ≤ 255) ∧ (0 ≤ jf ∧ jf ≤ 255) := by
  unfold fits isJ at h
  rw [hJ] at h
  simp at h
  exact h.2
theorem fields_at {f : Int} {jt jf k : Nat} (h : Fine f jt jf k) (j : Nat) (hj : j < (fieldsOf f jt jf k).length) : ∃ m, (fieldsOf f jt jf k)[j] = tx m ∧ m ≤ (lims f).getD j 0 := by
  obtain ⟨h1, h2⟩ := h
  cases hJ : hasJ f
  · cases hK : hasK f
    · simp [fieldsOf, hK, hJ] at hj
    · have hj0 : j = 0 := by simpa [fieldsOf, hK, hJ] using hj
      subst hj0
      refine ⟨k, by simp [fieldsOf, hK, hJ], ?_⟩
      simpa [lims, hK, hJ] using h2
  · have h3 := fits_J h1 hJ
    cases hK : hasK f
    · have hj2 : j < 2 := by simpa [fieldsOf, hK, hJ] using hj
      rcases j with _ | _ | j
      · refine ⟨jt, by simp [fieldsOf, hK, hJ], ?_⟩
        simp [lims, hK, hJ]
        omega
      · refine ⟨jf, by simp [fieldsOf, hK, hJ], ?_⟩
        simp [lims, hK, hJ]
        omega
      · omega
    · have hj2 : j < 3 := by simpa [fieldsOf, hK, hJ] using hj
      rcases j with _ | _ | _ | j
      · refine ⟨k, by simp [fieldsOf, hK, hJ], ?_⟩
        simpa [lims, hK, hJ] using h2
      · refine ⟨jt, by simp [fieldsOf, hK, hJ], ?_⟩
        simp [lims, hK, hJ]
        omega
      · refine ⟨jf, by simp [fieldsOf, hK, hJ], ?_⟩
        simp [lims, hK, hJ]
        omega
      · omega
/-- The numbers that were read, as far as they go. -/
def Got (f : Int) (fs : List (List UInt8)) (k : Nat) (ns : List Nat) : Prop :=
  ns.length = k ∧ fs.take k = ns.map tx ∧ ∀ i (h : i < ns.length), ns[i] ≤ (lims f).getD i 0
theorem Got.start (f : Int) (fs : List (List UInt8)) : Got f fs 0 [] := ⟨rfl, by simp, fun i h => by simp at h⟩
theorem Got.next {f : Int} {fs : List (List UInt8)} {k : Nat} {ns : List Nat} (h : Got f fs k ns) (hk : k < fs.length) {n : Nat} (hn : fs[k] = tx n) (hl : n ≤ (lims f).getD k 0) : Got f fs (k + 1) (ns ++ [n]) := by
  obtain ⟨h1, h2, h3⟩ := h
  refine ⟨by simp [h1], ?_, fun i hi => ?_⟩
  · rw [List.take_succ_eq_append_getElem hk, h2, hn]
    simp
  · by_cases hi' : i < ns.length
    · rw [List.getElem_append_left hi']
      exact h3 i hi'
    · obtain rfl : i = k := by simp at hi; omega
      rw [List.getElem_append_right (by omega)]
      simpa using hl
end Ip
namespace Go.Proofs.YtmiflelmblnkaaaDoor
open Go.ChangeShapes Go.WideShapes Go.ChangeAt Go.RowKit

/-- A slice of texts that lie in old memory. -/
def Strs (w : World) (v : Value) (fs : List (List UInt8)) : Prop :=
  (fs = [] ∧ ∃ a c, v = .slice a 0 c) ∨ ∃ g off c, v = .slice (some ⟨g, off, none⟩) fs.length c ∧ fs.length ≤ c ∧ g < w.heap.size ∧ ∀ i (h : i < fs.length), w.cell? ⟨g, off + i, none⟩ = some (.string ⟨fs[i].toArray⟩)
theorem Strs.shape {w : World} {v : Value} {fs : List (List UInt8)} (h : Strs w v fs) : ∃ a c, v = .slice a fs.length c := by
  rcases h with ⟨rfl, a, c, rfl⟩ | ⟨g, off, c, rfl, _⟩
  · exact ⟨a, c, rfl⟩
  · exact ⟨_, _, rfl⟩
/-- What comes of reading fields. -/
def ReadEnd (r : Ip.Row) (fs : List (List UInt8)) (e : Ending) : Prop :=
  (∃ jt jf k : Nat, Ip.Fine r.fmt jt jf k ∧ fs = Ip.fieldsOf r.fmt jt jf k ∧ e = .returned (.tuple #[.agg #[.int .i64 r.op, .int .i64 jt, .int .i64 jf, .int .u32 k], .bool true])) ∨
  ((∀ jt jf k : Nat, Ip.Fine r.fmt jt jf k → fs ≠ Ip.fieldsOf r.fmt jt jf k) ∧ e = .returned (.tuple #[.agg #[.int .i64 0, .int .i64 0, .int .i64 0, .int .u32 0], .bool false]))
theorem read_len {r : Ip.Row} {fs : List (List UInt8)} (h : fs.length ≠ (Ip.lims r.fmt).length) : ReadEnd r fs (.returned (.tuple #[.agg #[.int .i64 0, .int .i64 0, .int .i64 0, .int .u32 0], .bool false])) :=
  .inr ⟨fun jt jf k _ e => h (by rw [e, Ip.fields_len]), rfl⟩
theorem read_bad {r : Ip.Row} {fs : List (List UInt8)} {j : Nat} (hj : j < fs.length) (h : ∀ m, fs[j] = Ip.tx m → (Ip.lims r.fmt).getD j 0 < m) : ReadEnd r fs (.returned (.tuple #[.agg #[.int .i64 0, .int .i64 0, .int .i64 0, .int .u32 0], .bool false])) :=
  .inr ⟨fun jt jf k hf e => by
    subst e
    obtain ⟨m, h1, h2⟩ := Ip.fields_at hf j hj
    have := h m h1
    omega, rfl⟩

theorem got_all {f : Int} {fs : List (List UInt8)} {ns : List Nat} {k : Nat} (h : Ip.Got f fs k ns) (hk : k = fs.length) (hl : fs.length = (Ip.lims f).length) : ns.length = (Ip.lims f).length ∧ fs = ns.map Ip.tx ∧ ∀ i, i < ns.length → ns.getD i 0 ≤ (Ip.lims f).getD i 0 := by
  obtain ⟨h1, h2, h3⟩ := h
  subst hk
  rw [List.take_length] at h2
  refine ⟨by omega, h2, fun i hi => ?_⟩
  have := h3 i hi
  simpa [List.getD, hi] using this
theorem read_FF {r : Ip.Row} {fs : List (List UInt8)} {ns : List Nat} {k : Nat} (h : Ip.Got r.fmt fs k ns) (hk : k = fs.length) (hl : fs.length = (Ip.lims r.fmt).length) (hK : Ip.hasK r.fmt = false) (hJ : Ip.hasJ r.fmt = false) :
    ReadEnd r fs (.returned (.tuple #[.agg #[.int .i64 r.op, .int .i64 0, .int .i64 0, .int .u32 0], .bool true])) := by
  obtain ⟨h1, h2, h3⟩ := got_all h hk hl
  have e : Ip.lims r.fmt = [] := by unfold Ip.lims; rw [hK, hJ]; rfl
  rw [e] at h1
  obtain rfl : ns = [] := List.length_eq_zero_iff.1 h1
  exact .inl ⟨0, 0, 0, ⟨by simp [Ip.fits, hJ], by omega⟩, by rw [h2]; simp [Ip.fieldsOf, hK, hJ], rfl⟩
theorem read_TF {r : Ip.Row} {fs : List (List UInt8)} {ns : List Nat} {k : Nat} (h : Ip.Got r.fmt fs k ns) (hk : k = fs.length) (hl : fs.length = (Ip.lims r.fmt).length) (hK : Ip.hasK r.fmt = true) (hJ : Ip.hasJ r.fmt = false) :
    ∃ c : Nat, ns = [c] ∧ c ≤ 4294967295 ∧ ReadEnd r fs (.returned (.tuple #[.agg #[.int .i64 r.op, .int .i64 0, .int .i64 0, .int .u32 c], .bool true])) := by
  obtain ⟨h1, h2, h3⟩ := got_all h hk hl
  have e : Ip.lims r.fmt = [4294967295] := by unfold Ip.lims; rw [hK, hJ]; rfl
  rw [e] at h1 h3
  match ns, h1 with
  | [c], _ =>
    have hc : c ≤ 4294967295 := h3 0 (by simp)
    exact ⟨c, rfl, hc, .inl ⟨0, 0, c, ⟨by simp [Ip.fits, hJ, hK], hc⟩, by rw [h2]; simp [Ip.fieldsOf, hK, hJ], rfl⟩⟩
theorem read_FT {r : Ip.Row} {fs : List (List UInt8)} {ns : List Nat} {k : Nat} (h : Ip.Got r.fmt fs k ns) (hk : k = fs.length) (hl : fs.length = (Ip.lims r.fmt).length) (hK : Ip.hasK r.fmt = false) (hJ : Ip.hasJ r.fmt = true) :
    ∃ a b : Nat, ns = [a, b] ∧ a ≤ 255 ∧ b ≤ 255 ∧ ReadEnd r fs (.returned (.tuple #[.agg #[.int .i64 r.op, .int .i64 a, .int .i64 b, .int .u32 0], .bool true])) := by
  obtain ⟨h1, h2, h3⟩ := got_all h hk hl
  have e : Ip.lims r.fmt = [255, 255] := by unfold Ip.lims; rw [hK, hJ]; rfl
  rw [e] at h1 h3
  match ns, h1 with
  | [a, b], _ =>
    have ha : a ≤ 255 := h3 0 (by simp)
    have hb : b ≤ 255 := h3 1 (by simp)
    exact ⟨a, b, rfl, ha, hb, .inl ⟨a, b, 0, ⟨by simp [Ip.fits, Ip.isJ, hJ, hK]; omega, by omega⟩, by rw [h2]; simp [Ip.fieldsOf, hK, hJ], rfl⟩⟩
theorem read_TT {r : Ip.Row} {fs : List (List UInt8)} {ns : List Nat} {k : Nat} (h : Ip.Got r.fmt fs k ns) (hk : k = fs.length) (hl : fs.length = (Ip.lims r.fmt).length) (hK : Ip.hasK r.fmt = true) (hJ : Ip.hasJ r.fmt = true) :
    ∃ c a b : Nat, ns = [c, a, b] ∧ c ≤ 4294967295 ∧ a ≤ 255 ∧ b ≤ 255 ∧ ReadEnd r fs (.returned (.tuple #[.agg #[.int .i64 r.op, .int .i64 a, .int .i64 b, .int .u32 c], .bool true])) := by
  obtain ⟨h1, h2, h3⟩ := got_all h hk hl
  have e : Ip.lims r.fmt = [4294967295, 255, 255] := by unfold Ip.lims; rw [hK, hJ]; rfl
  rw [e] at h1 h3
  match ns, h1 with
  | [c, a, b], _ =>
    have hc : c ≤ 4294967295 := h3 0 (by simp)
    have ha : a ≤ 255 := h3 1 (by simp)
    have hb : b ≤ 255 := h3 2 (by simp)
    exact ⟨c, a, b, rfl, hc, ha, hb, .inl ⟨a, b, c, ⟨by simp [Ip.fits, Ip.isJ, hJ, hK]; omega, hc⟩, by rw [h2]; simp [Ip.fieldsOf, hK, hJ], rfl⟩⟩
end Go.Proofs.YtmiflelmblnkaaaDoor
