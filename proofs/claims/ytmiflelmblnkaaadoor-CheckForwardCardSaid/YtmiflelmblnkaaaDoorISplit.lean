/-
  A text, parted at its spaces, as plain lists: at most so many parts are cut off; and what a rune's bytes are.
-/
import Derived.Test.YtmiflelmblnkaaaDoorIPlain
import Derived.Lib.OthersKept
namespace Ip
open Go

/-- The parts between spaces: at most m are cut off, the rest stays whole. -/
def sp : Nat → List UInt8 → List UInt8 → List (List UInt8)
  | _, cur, [] => [cur]
  | 0, cur, c :: l => [cur ++ c :: l]
  | m + 1, cur, c :: l => if c = 32 then cur :: sp m [] l else sp (m + 1) (cur ++ [c]) l
theorem sp_nil (m : Nat) (cur : List UInt8) : sp m cur [] = [cur] := by cases m <;> rfl
theorem sp_zero (cur l : List UInt8) : sp 0 cur l = [cur ++ l] := by cases l <;> simp [sp]
theorem sp_space (m : Nat) (cur l : List UInt8) : sp (m + 1) cur (32 :: l) = cur :: sp m [] l := by simp [sp]
theorem sp_skip (m : Nat) : ∀ (a cur l : List UInt8), (∀ c ∈ a, c ≠ 32) → sp m cur (a ++ l) = sp m (cur ++ a) l := by
  intro a
  induction a with
  | nil => intro cur l _; simp
  | cons c a ih =>
    intro cur l h
    cases m with
    | zero => rw [sp_zero, sp_zero]; simp
    | succ m =>
      have hc : c ≠ 32 := h c (List.mem_cons_self)
      rw [List.cons_append, sp, if_neg hc, ih (cur ++ [c]) l (fun d hd => h d (List.mem_cons_of_mem _ hd))]
      simp
/-- A piece of a text. -/
def piece (L : List UInt8) (a b : Nat) : List UInt8 := (L.take b).drop a
theorem piece_grow (L : List UInt8) (a p n : Nat) (h : a ≤ p) (hp : p ≤ L.length) : piece L a p ++ (L.drop p).take n = piece L a (p + n) := by
  unfold piece
  rw [List.take_add, List.drop_append_of_le_length (by simp; omega)]
theorem piece_none (L : List UInt8) (a : Nat) : piece L a a = [] := by
  unfold piece
  apply List.drop_eq_nil_of_le
  simp
  omega
theorem piece_end (L : List UInt8) (a p : Nat) (h : a ≤ p) (hp : p ≤ L.length) : piece L a p ++ L.drop p = L.drop a := by
  have e := piece_grow L a p (L.length - p) h hp
  rw [List.take_of_length_le (by simp)] at e
  rw [e, show p + (L.length - p) = L.length by omega]
  unfold piece
  rw [List.take_length]
theorem extract_piece (s : ByteArray) (a b : Nat) : s.extract a b = ⟨(piece s.data.toList a b).toArray⟩ := by
  apply ByteArray.ext
  apply Array.ext'
  unfold piece
  simp [ByteArray.data_extract, List.extract_eq_take_drop, List.drop_take]

/-- How far a text is cut: these parts, and where the next one begins. -/
def Cutting (L : List UInt8) (p start : Nat) (ps : List (List UInt8)) : Prop :=
  p ≤ L.length ∧ start ≤ p ∧ ps.length ≤ 4 ∧ sp 4 [] L = ps ++ sp (4 - ps.length) (piece L start p) (L.drop p)
theorem Cutting.start (L : List UInt8) : Cutting L 0 0 [] := ⟨by omega, by omega, by simp, by simp [piece]⟩
theorem Cutting.skip {L : List UInt8} {p start : Nat} {ps : List (List UInt8)} (h : Cutting L p start ps) (n : Nat) (hn : p + n ≤ L.length) (hc : ∀ c ∈ (L.drop p).take n, c ≠ 32) : Cutting L (p + n) start ps := by
  obtain ⟨h1, h2, h3, h4⟩ := h
  refine ⟨hn, by omega, h3, ?_⟩
  rw [h4]
  have e : L.drop p = (L.drop p).take n ++ L.drop (p + n) := by rw [← List.drop_drop, List.take_append_drop]
  rw [e, sp_skip _ _ _ _ hc, piece_grow L start p n h2 h1]
theorem Cutting.cut {L : List UInt8} {p start : Nat} {ps : List (List UInt8)} (h : Cutting L p start ps) (hp : p < L.length) (hc : L[p] = 32) (hl : ps.length ≠ 4) : Cutting L (p + 1) (p + 1) (ps ++ [piece L start p]) := by
  obtain ⟨h1, h2, h3, h4⟩ := h
  refine ⟨hp, by omega, by simp; omega, ?_⟩
  rw [h4, List.drop_eq_getElem_cons hp, hc, show 4 - ps.length = (4 - (ps.length + 1)) + 1 by omega, sp_space, piece_none]
  simp
theorem Cutting.full {L : List UInt8} {p start : Nat} {ps : List (List UInt8)} (h : Cutting L p start ps) (hl : ps.length = 4) : sp 4 [] L = ps ++ [piece L start L.length] := by
  obtain ⟨h1, h2, h3, h4⟩ := h
  rw [h4, hl, Nat.sub_self, sp_zero, piece_end L start p h2 h1]
  unfold piece
  rw [List.take_length]
theorem Cutting.done {L : List UInt8} {p start : Nat} {ps : List (List UInt8)} (h : Cutting L p start ps) (hp : L.length ≤ p) : sp 4 [] L = ps ++ [piece L start L.length] := by
  obtain ⟨h1, h2, h3, h4⟩ := h
  obtain rfl : p = L.length := by omega
  rw [h4, List.drop_length, sp_nil]

/-- What a rune beyond ASCII takes: bytes within the text, none of them a space. -/
theorem decode_span (s : ByteArray) (pos : Nat) (h : pos < s.size) (ha : 128 ≤ (s[pos]'h).toNat) :
    pos + (Utf8.decode s pos).2 ≤ s.size ∧ ∀ j, j < (Utf8.decode s pos).2 → 128 ≤ (s.get! (pos + j)).toNat := by
  have e0 : s.get! (pos + 0) = s[pos]'h := by
    show s.get! pos = _
    simp [ByteArray.get!, getElem!_pos, h]
    rfl
  have hn : ¬ (s.get! (pos + 0)).toNat < 128 := by rw [e0]; omega
  simp only [Utf8.decode, hn, if_false]
  repeat' split
  all_goals simp_all
  all_goals first
    | omega
    | (refine ⟨by omega, fun j hj => ?_⟩
       rcases j with _ | _ | _ | _ | j
       all_goals first
         | omega
         | (simp_all; done)
         | (simp_all; omega))
end Ip
