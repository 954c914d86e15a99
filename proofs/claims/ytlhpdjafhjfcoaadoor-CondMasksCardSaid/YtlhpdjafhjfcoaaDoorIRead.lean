/-
  Rows of texts and numbers that the calls of package ins make: what ins.limits and ins.cut answer.
-/
import Derived.Test.YtlhpdjafhjfcoaaDoorIAlu
import Derived.Lib.OthersKept
namespace Ip
open Go
/-- The largest numbers of the fields that a format has. -/
def lims (f : Int) : List Nat := (if hasK f then [4294967295] else []) ++ (if hasJ f then [255, 255] else [])
theorem lims_len (f : Int) : (lims f).length ≤ 3 := by unfold lims; split <;> split <;> simp
end Ip
namespace Go.Proofs.YtlhpdjafhjfcoaaDoor
open Go.ChangeShapes Go.WideShapes Go.ChangeAt Go.RowKit

/-- Numbers as cells. -/
abbrev nums (l : List Nat) : List Value := l.map fun (n : Nat) => Value.int .u64 (n : Int)
theorem nums_one (l : List Nat) : ∀ u ∈ nums l, u.oneCell' = true := by
  intro u hu
  obtain ⟨n, _, rfl⟩ := List.mem_map.1 hu
  rfl
theorem info64 : (Tryd.prog.info? 22).map (fun i => (i.zero, i.size, i.bytes)) = some (some (.int .u64 0), 1, 8) := by kernel_rfl
theorem infoS : (Tryd.prog.info? 9).map (fun i => (i.zero, i.size, i.bytes)) = some (some (.string ⟨#[]⟩), 1, 16) := by kernel_rfl
/-- What comes of limits. -/
def LimEnd (f : Int) (w : World) (e : Ending) (w' : World) : Prop := ∃ v, e = .returned v ∧ w'.ownsRow w.heap.size 22 1 v (Ip.lims f).length (nums (Ip.lims f)) ∧ Below w.heap.size w w'
theorem limEnd {f : Int} {w w' : World} {v : Value} {l : List Nat} (h : Ip.lims f = l) (ho : w'.ownsRow w.heap.size 22 1 v l.length (nums l)) (hb : Below w.heap.size w w') : LimEnd f w (.returned v) w' := by
  subst h
  exact ⟨v, rfl, ho, hb⟩

end Go.Proofs.YtlhpdjafhjfcoaaDoor

/-
  A text, parted at its spaces, as plain lists: at most so many parts are cut off; and what a rune's bytes are.
-/
namespace Ip
open Go

/-- The parts between spaces: at most m are cut off, the rest stays whole. -/
def sp : Nat → List UInt8 → List UInt8 → List (List UInt8)
  | _, cur, [] => [cur]
  | 0, cur, c :: l => [cur ++ c :: l]
  | m + 1, cur, c :: l => if c = 32 then cur :: sp m [] l else sp (m + 1) (cur ++ [c]) l
theorem sp_nil (m : Nat) (cur : List UInt8) : sp m cur [] = [cur] := by cases m <;> rfl
theorem sp_zero (cur l : List UInt8) : sp 0 cur l = [cur ++ l] := by cases l <;> simp [sp]
theorem sp_space (m : Nat) (cur l : List UInt8) : sp (m + 1) cur (32 :: l) = cur :: sp m [] l := by simp [sp]
theorem sp_skip (m : Nat) : ∀ (a cur l : List UInt8), (∀ c ∈ a, c ≠ 32) → sp m cur (a ++ l) = sp m (cur ++ a) l := by
  intro a
  induction a with
  | nil => intro cur l _; simp
  | cons c a ih =>
    intro cur l h
    cases m with
    | zero => rw [sp_zero, sp_zero]; simp
    | succ m =>
      have hc : c ≠ 32 := h c (List.mem_cons_self)
      rw [List.cons_append, sp, if_neg hc, ih (cur ++ [c]) l (fun d hd => h d (List.mem_cons_of_mem _ hd))]
      simp
/-- A piece of a text. -/
def piece (L : List UInt8) (a b : Nat) : List UInt8 := (L.take b).drop a
theorem piece_grow (L : List UInt8) (a p n : Nat) (h : a ≤ p) (hp : p ≤ L.length) : piece L a p ++ (L.drop p).take n = piece L a (p + n) := by
  unfold piece
  rw [List.take_add, List.drop_append_of_le_length (by simp; omega)]
theorem piece_none (L : List UInt8) (a : Nat) : piece L a a = [] := by
  unfold piece
  apply List.drop_eq_nil_of_le
  simp
  omega
theorem piece_end (L : List UInt8) (a p : Nat) (h : a ≤ p) (hp : p ≤ L.length) : piece L a p ++ L.drop p = L.drop a := by
  have e := piece_grow L a p (L.length - p) h hp
  rw [List.take_of_length_le (by simp)] at e
  rw [e, show p + (L.length - p) = L.length by omega]
  unfold piece
  rw [List.take_length]
theorem extract_piece (s : ByteArray) (a b : Nat) : s.extract a b = ⟨(piece s.data.toList a b).toArray⟩ := by
  apply ByteArray.ext
  apply Array.ext'
  unfold piece
  simp [ByteArray.data_extract, List.extract_eq_take_drop, List.drop_take]

/-- How far a text is cut: these parts, and where the next one begins. -/
def Cutting (L : List UInt8) (p start : Nat) (ps : List (List UInt8)) : Prop :=
  p ≤ L.length ∧ start ≤ p ∧ ps.length ≤ 4 ∧ sp 4 [] L = ps ++ sp (4 - ps.length) (piece L start p) (L.drop p)
theorem Cutting.start (L : List UInt8) : Cutting L 0 0 [] := ⟨by omega, by omega, by simp, by simp [piece]⟩
theorem Cutting.skip {L : List UInt8} {p start : Nat} {ps : List (List UInt8)} (h : Cutting L p start ps) (n : Nat) (hn : p + n ≤ L.length) (hc : ∀ c ∈ (L.drop p).take n, c ≠ 32) : Cutting L (p + n) start ps := by
  obtain ⟨h1, h2, h3, h4⟩ := h
  refine ⟨hn, by omega, h3, ?_⟩
  rw [h4]
  have e : L.drop p = (L.drop p).take n ++ L.drop (p + n) := by rw [← List.drop_drop, List.take_append_drop]
  rw [e, sp_skip _ _ _ _ hc, piece_grow L start p n h2 h1]
theorem Cutting.cut {L : List UInt8} {p start : Nat} {ps : List (List UInt8)} (h : Cutting L p start ps) (hp : p < L.length) (hc : L[p] = 32) (hl : ps.length ≠ 4) : Cutting L (p + 1) (p + 1) (ps ++ [piece L start p]) := by
  obtain ⟨h1, h2, h3, h4⟩ := h
  refine ⟨hp, by omega, by simp; omega, ?_⟩
  rw [h4, List.drop_eq_getElem_cons hp, hc, show 4 - ps.length = (4 - (ps.length + 1)) + 1 by omega, sp_space, piece_none]
  simp
theorem Cutting.full {L : List UInt8} {p start : Nat} {ps : List (List UInt8)} (h : Cutting L p start ps) (hl : ps.length = 4) : sp 4 [] L = ps ++ [piece L start L.length] := by
  obtain ⟨h1, h2, h3, h4⟩ := h
  rw [h4, hl, Nat.sub_self, sp_zero, piece_end L start p h2 h1]
  unfold piece
  rw [List.take_length]
theorem Cutting.done {L : List UInt8} {p start : Nat} {ps : List (List UInt8)} (h : Cutting L p start ps) (hp : L.length ≤ p) : sp 4 [] L = ps ++ [piece L start L.length] := by
  obtain ⟨h1, h2, h3, h4⟩ := h
  obtain rfl : p = L.length := by omega
  rw [h4, List.drop_length, sp_nil]

/-- What a rune beyond ASCII takes: bytes within the text, none of them a space. -/
theorem decode_span (s : ByteArray) (pos : Nat) (h : pos < s.size) (ha : 128 ≤ (s[pos]'h).toNat) :
    pos + (Utf8.decode s pos).2 ≤ s.size ∧ ∀ j, j < (Utf8.decode s pos).2 → 128 ≤ (s.get! (pos + j)).toNat := by
  have e0 : s.get! (pos + 0) = s[pos]'h := by
    show s.get! pos = _
    simp [ByteArray.get!, getElem!_pos, h]
    rfl
  have hn : ¬ (s.get! (pos + 0)).toNat < 128 := by rw [e0]; omega
  simp only [Utf8.decode, hn, if_false]
  repeat' split
  all_goals simp_all
  all_goals first
    | omega
    | (refine ⟨by omega, fun j hj => ?_⟩
       rcases j with _ | _ | _ | _ | j
       all_goals first
         | omega
         | (simp_all; done)
         | (simp_all; omega))
end Ip

/-
  What operation.read answers: the instruction whose fields have these texts, or none.
-/
namespace Ip
open Go
/-- A number's text. -/
def tx (n : Nat) : List UInt8 := 48 :: 120 :: Wd.hex n
theorem tx_inj {m n : Nat} (h : tx m = tx n) : m = n := by
  unfold tx at h
  simp only [List.cons.injEq, true_and] at h
  exact Wd.hex_inj h
/-- The texts of the fields that a format has. -/
def fieldsOf (f : Int) (jt jf k : Nat) : List (List UInt8) := (if hasK f then [tx k] else []) ++ (if hasJ f then [tx jt, tx jf] else [])
/-- What the fields of an instruction must be. -/
def Fine (f : Int) (jt jf k : Nat) : Prop := fits f jt jf k = true ∧ k ≤ 4294967295
theorem fields_len (f : Int) (jt jf k : Nat) : (fieldsOf f jt jf k).length = (lims f).length := by
  unfold fieldsOf lims
  cases hasK f <;> cases hasJ f <;> rfl
theorem fits_J {f jt jf k : Int} (h : fits f jt jf k = true) (hJ : hasJ f = true) : (0 ≤ jt ∧ jt ≤ 255) ∧ (0 ≤ jf ∧ jf ≤ 255) := by
  unfold fits isJ at h
  rw [hJ] at h
  simp at h
  exact h.2
theorem fields_at {f : Int} {jt jf k : Nat} (h : Fine f jt jf k) (j : Nat) (hj : j < (fieldsOf f jt jf k).length) : ∃ m, (fieldsOf f jt jf k)[j] = tx m ∧ m ≤ (lims f).getD j 0 := by
  obtain ⟨h1, h2⟩ := h
  cases hJ : hasJ f
  · cases hK : hasK f
    · simp [fieldsOf, hK, hJ] at hj
    · have hj0 : j = 0 := by simpa [fieldsOf, hK, hJ] using hj
      subst hj0
      refine ⟨k, by simp [fieldsOf, hK, hJ], ?_⟩
      simpa [lims, hK, hJ] using h2
  · have h3 := fits_J h1 hJ
    cases hK : hasK f
    · have hj2 : j < 2 := by simpa [fieldsOf, hK, hJ] using hj
      rcases j with _ | _ | j
      · refine ⟨jt, by simp [fieldsOf, hK, hJ], ?_⟩
        simp [lims, hK, hJ]
        omega
      · refine ⟨jf, by simp [fieldsOf, hK, hJ], ?_⟩
        simp [lims, hK, hJ]
        omega
      · omega
    · have hj2 : j < 3 := by simpa [fieldsOf, hK, hJ] using hj
      rcases j with _ | _ | _ | j
      · refine ⟨k, by simp [fieldsOf, hK, hJ], ?_⟩
        simpa [lims, hK, hJ] using h2
      · refine ⟨jt, by simp [fieldsOf, hK, hJ], ?_⟩
        simp [lims, hK, hJ]
        omega
      · refine ⟨jf, by simp [fieldsOf, hK, hJ], ?_⟩
        simp [lims, hK, hJ]
        omega
      · omega
/-- The numbers that were read, as far as they go. -/
def Got (f : Int) (fs : List (List UInt8)) (k : Nat) (ns : List Nat) : Prop :=
  ns.length = k ∧ fs.take k = ns.map tx ∧ ∀ i (h : i < ns.length), ns[i] ≤ (lims f).getD i 0
theorem Got.start (f : Int) (fs : List (List UInt8)) : Got f fs 0 [] := ⟨rfl, by simp, fun i h => by simp at h⟩
theorem Got.next {f : Int} {fs : List (List UInt8)} {k : Nat} {ns : List Nat} (h : Got f fs k ns) (hk : k < fs.length) {n : Nat} (hn : fs[k] = tx n) (hl : n ≤ (lims f).getD k 0) : Got f fs (k + 1) (ns ++ [n]) := by
  obtain ⟨h1, h2, h3⟩ := h
  refine ⟨by simp [h1], ?_, fun i hi => ?_⟩
  · rw [List.take_succ_eq_append_getElem hk, h2, hn]
    simp
  · by_cases hi' : i < ns.length
    · rw [List.getElem_append_left hi']
      exact h3 i hi'
    · obtain rfl : i = k := by simp at hi; omega
      rw [List.getElem_append_right (by omega)]
      simpa using hl
end Ip
namespace Go.Proofs.YtlhpdjafhjfcoaaDoor
open Go.ChangeShapes Go.WideShapes Go.ChangeAt Go.RowKit

/-- A slice of texts that lie in old memory. -/
def Strs (w : World) (v : Value) (fs : List (List UInt8)) : Prop :=
  (fs = [] ∧ ∃ a c, v = .slice a 0 c) ∨ ∃ g off c, v = .slice (some ⟨g, off, none⟩) fs.length c ∧ fs.length ≤ c ∧ g < w.heap.size ∧ ∀ i (h : i < fs.length), w.cell? ⟨g, off + i, none⟩ = some (.string ⟨fs[i].toArray⟩)
theorem Strs.shape {w : World} {v : Value} {fs : List (List UInt8)} (h : Strs w v fs) : ∃ a c, v = .slice a fs.length c := by
  rcases h with ⟨rfl, a, c, rfl⟩ | ⟨g, off, c, rfl, _⟩
  · exact ⟨a, c, rfl⟩
  · exact ⟨_, _, rfl⟩
/-- What comes of reading fields. -/
def ReadEnd (r : Ip.Row) (fs : List (List UInt8)) (e : Ending) : Prop :=
  (∃ jt jf k : Nat, Ip.Fine r.fmt jt jf k ∧ fs = Ip.fieldsOf r.fmt jt jf k ∧ e = .returned (.tuple #[.agg #[.int .i64 r.op, .int .i64 jt, .int .i64 jf, .int .u32 k], .bool true])) ∨
  ((∀ jt jf k : Nat, Ip.Fine r.fmt jt jf k → fs ≠ Ip.fieldsOf r.fmt jt jf k) ∧ e = .returned (.tuple #[.agg #[.int .i64 0, .int .i64 0, .int .i64 0, .int .u32 0], .bool false]))
theorem read_len {r : Ip.Row} {fs : List (List UInt8)} (h : fs.length ≠ (Ip.lims r.fmt).length) : ReadEnd r fs (.returned (.tuple #[.agg #[.int .i64 0, .int .i64 0, .int .i64 0, .int .u32 0], .bool false])) :=
  .inr ⟨fun jt jf k _ e => h (by rw [e, Ip.fields_len]), rfl⟩
theorem read_bad {r : Ip.Row} {fs : List (List UInt8)} {j : Nat} (hj : j < fs.length) (h : ∀ m, fs[j] = Ip.tx m → (Ip.lims r.fmt).getD j 0 < m) : ReadEnd r fs (.returned (.tuple #[.agg #[.int .i64 0, .int .i64 0, .int .i64 0, .int .u32 0], .bool false])) :=
  .inr ⟨fun jt jf k hf e => by
    subst e
    obtain ⟨m, h1, h2⟩ := Ip.fields_at hf j hj
    have := h m h1
    omega, rfl⟩

theorem got_all {f : Int} {fs : List (List UInt8)} {ns : List Nat} {k : Nat} (h : Ip.Got f fs k ns) (hk : k = fs.length) (hl : fs.length = (Ip.lims f).length) : ns.length = (Ip.lims f).length ∧ fs = ns.map Ip.tx ∧ ∀ i, i < ns.length → ns.getD i 0 ≤ (Ip.lims f).getD i 0 := by
  obtain ⟨h1, h2, h3⟩ := h
  subst hk
  rw [List.take_length] at h2
  refine ⟨by omega, h2, fun i hi => ?_⟩
  have := h3 i hi
  simpa [List.getD, hi] using this
theorem read_FF {r : Ip.Row} {fs : List (List UInt8)} {ns : List Nat} {k : Nat} (h : Ip.Got r.fmt fs k ns) (hk : k = fs.length) (hl : fs.length = (Ip.lims r.fmt).length) (hK : Ip.hasK r.fmt = false) (hJ : Ip.hasJ r.fmt = false) :
    ReadEnd r fs (.returned (.tuple #[.agg #[.int .i64 r.op, .int .i64 0, .int .i64 0, .int .u32 0], .bool true])) := by
  obtain ⟨h1, h2, h3⟩ := got_all h hk hl
  have e : Ip.lims r.fmt = [] := by unfold Ip.lims; rw [hK, hJ]; rfl
  rw [e] at h1
  obtain rfl : ns = [] := List.length_eq_zero_iff.1 h1
  exact .inl ⟨0, 0, 0, ⟨by simp [Ip.fits, hJ], by omega⟩, by rw [h2]; simp [Ip.fieldsOf, hK, hJ], rfl⟩
theorem read_TF {r : Ip.Row} {fs : List (List UInt8)} {ns : List Nat} {k : Nat} (h : Ip.Got r.fmt fs k ns) (hk : k = fs.length) (hl : fs.length = (Ip.lims r.fmt).length) (hK : Ip.hasK r.fmt = true) (hJ : Ip.hasJ r.fmt = false) :
    ∃ c : Nat, ns = [c] ∧ c ≤ 4294967295 ∧ ReadEnd r fs (.returned (.tuple #[.agg #[.int .i64 r.op, .int .i64 0, .int .i64 0, .int .u32 c], .bool true])) := by
  obtain ⟨h1, h2, h3⟩ := got_all h hk hl
  have e : Ip.lims r.fmt = [4294967295] := by unfold Ip.lims; rw [hK, hJ]; rfl
  rw [e] at h1 h3
  match ns, h1 with
  | [c], _ =>
    have hc : c ≤ 4294967295 := h3 0 (by simp)
    exact ⟨c, rfl, hc, .inl ⟨0, 0, c, ⟨by simp [Ip.fits, hJ, hK], hc⟩, by rw [h2]; simp [Ip.fieldsOf, hK, hJ], rfl⟩⟩
theorem read_FT {r : Ip.Row} {fs : List (List UInt8)} {ns : List Nat} {k : Nat} (h : Ip.Got r.fmt fs k ns) (hk : k = fs.length) (hl : fs.length = (Ip.lims r.fmt).length) (hK : Ip.hasK r.fmt = false) (hJ : Ip.hasJ r.fmt = true) :
    ∃ a b : Nat, ns = [a, b] ∧ a ≤ 255 ∧ b ≤ 255 ∧ ReadEnd r fs (.returned (.tuple #[.agg #[.int .i64 r.op, .int .i64 a, .int .i64 b, .int .u32 0], .bool true])) := by
  obtain ⟨h1, h2, h3⟩ := got_all h hk hl
  have e : Ip.lims r.fmt = [255, 255] := by unfold Ip.lims; rw [hK, hJ]; rfl
  rw [e] at h1 h3
  match ns, h1 with
  | [a, b], _ =>
    have ha : a ≤ 255 := h3 0 (by simp)
    have hb : b ≤ 255 := h3 1 (by simp)
    exact ⟨a, b, rfl, ha, hb, .inl ⟨a, b, 0, ⟨by simp [Ip.fits, Ip.isJ, hJ, hK]; omega, by omega⟩, by rw [h2]; simp [Ip.fieldsOf, hK, hJ], rfl⟩⟩
theorem read_TT {r : Ip.Row} {fs : List (List UInt8)} {ns : List Nat} {k : Nat} (h : Ip.Got r.fmt fs k ns) (hk : k = fs.length) (hl : fs.length = (Ip.lims r.fmt).length) (hK : Ip.hasK r.fmt = true) (hJ : Ip.hasJ r.fmt = true) :
    ∃ c a b : Nat, ns = [c, a, b] ∧ c ≤ 4294967295 ∧ a ≤ 255 ∧ b ≤ 255 ∧ ReadEnd r fs (.returned (.tuple #[.agg #[.int .i64 r.op, .int .i64 a, .int .i64 b, .int .u32 c], .bool true])) := by
  obtain ⟨h1, h2, h3⟩ := got_all h hk hl
  have e : Ip.lims r.fmt = [4294967295, 255, 255] := by unfold Ip.lims; rw [hK, hJ]; rfl
  rw [e] at h1 h3
  match ns, h1 with
  | [c, a, b], _ =>
    have hc : c ≤ 4294967295 := h3 0 (by simp)
    have ha : a ≤ 255 := h3 1 (by simp)
    have hb : b ≤ 255 := h3 2 (by simp)
    exact ⟨c, a, b, rfl, hc, ha, hb, .inl ⟨a, b, c, ⟨by simp [Ip.fits, Ip.isJ, hJ, hK]; omega, hc⟩, by rw [h2]; simp [Ip.fieldsOf, hK, hJ], rfl⟩⟩
end Go.Proofs.YtlhpdjafhjfcoaaDoor
