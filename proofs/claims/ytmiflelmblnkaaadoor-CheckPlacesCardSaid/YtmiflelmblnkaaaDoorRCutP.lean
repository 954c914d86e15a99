/-
  A text parted at every byte that is a mark, plainly.
-/
import Derived.Test.YtmiflelmblnkaaaDoorICutW
import Derived.Test.YtmiflelmblnkaaaDoorIJoin
namespace Ip
open Go
/-- All parts of a text between marks. -/
def cutAll (m : UInt8) : List UInt8 → List UInt8 → List (List UInt8)
  | cur, [] => [cur]
  | cur, c :: l => if c = m then cur :: cutAll m [] l else cutAll m (cur ++ [c]) l
theorem cutAll_skip (m : UInt8) : ∀ (a cur l : List UInt8), (∀ c ∈ a, c ≠ m) → cutAll m cur (a ++ l) = cutAll m (cur ++ a) l := by
  intro a
  induction a with
  | nil => intro cur l _; simp
  | cons c a ih =>
    intro cur l h
    rw [List.cons_append, cutAll, if_neg (h c List.mem_cons_self), ih (cur ++ [c]) l (fun d hd => h d (List.mem_cons_of_mem _ hd))]
    simp
theorem cutAll_join : ∀ (ps : List (List UInt8)), ps ≠ [] → (∀ p ∈ ps, ∀ c ∈ p, c ≠ 32) → cutAll 32 [] (join ps) = ps
  | [], h, _ => absurd rfl h
  | [x], _, h => by
    have e := cutAll_skip 32 x [] [] (h x (by simp))
    rw [List.append_nil] at e
    show cutAll 32 [] x = _
    rw [e, cutAll]
    simp
  | x :: y :: l, _, h => by
    show cutAll 32 [] (x ++ 32 :: join (y :: l)) = _
    rw [cutAll_skip 32 x [] _ (h x (by simp)), cutAll, if_pos rfl, cutAll_join (y :: l) (by simp) (fun p hp => h p (List.mem_cons_of_mem _ hp))]
    simp
theorem cutAll_ne (m : UInt8) (l : List UInt8) : ∀ cur, cutAll m cur l ≠ [] := by
  induction l with
  | nil => intro cur; simp [cutAll]
  | cons c l ih => intro cur; rw [cutAll]; split <;> simp_all
theorem join_cutAll (l : List UInt8) : ∀ cur, join (cutAll 32 cur l) = cur ++ l := by
  induction l with
  | nil => intro cur; simp [cutAll, join]
  | cons c l ih =>
    intro cur
    rw [cutAll]
    split
    · rename_i h
      have e := ih []
      cases hs : cutAll 32 [] l with
      | nil => exact absurd hs (cutAll_ne 32 l [])
      | cons y t =>
        rw [hs] at e
        show cur ++ 32 :: join (y :: t) = _
        rw [e, h]
        simp
    · rw [ih]; simp
theorem cutAll_mem (m : UInt8) (l : List UInt8) : ∀ cur, ∀ y ∈ cutAll m cur l, y.length ≤ cur.length + l.length := by
  induction l with
  | nil => intro cur y hy; simp [cutAll] at hy; subst hy; simp
  | cons c l ih =>
    intro cur y hy
    rw [cutAll] at hy
    split at hy
    · rcases List.mem_cons.1 hy with rfl | hy
      · simp
      · have := ih [] y hy
        simp at this ⊢
        omega
    · have := ih (cur ++ [c]) y hy
      simp at this ⊢
      omega
theorem cutAll_len (m : UInt8) (l : List UInt8) : ∀ cur, (cutAll m cur l).length ≤ l.length + 1 := by
  induction l with
  | nil => intro cur; simp [cutAll]
  | cons c l ih =>
    intro cur
    rw [cutAll]
    split
    · have := ih []
      simp
      omega
    · have := ih (cur ++ [c])
      simp
      omega
/-- How far a text is parted. -/
def Parting (m : UInt8) (L : List UInt8) (p : Nat) (ps : List (List UInt8)) (cur : List UInt8) : Prop :=
  p ≤ L.length ∧ ps.length ≤ p ∧ cur.length ≤ p ∧ cutAll m [] L = ps ++ cutAll m cur (L.drop p)
theorem Parting.start (m : UInt8) (L : List UInt8) : Parting m L 0 [] [] := ⟨by omega, by simp, by simp, by simp⟩
theorem Parting.cut {m : UInt8} {L : List UInt8} {p : Nat} {ps : List (List UInt8)} {cur : List UInt8} (h : Parting m L p ps cur) (hp : p < L.length) (hc : L[p] = m) : Parting m L (p + 1) (ps ++ [cur]) [] := by
  obtain ⟨h1, h2, h3, h4⟩ := h
  refine ⟨hp, by simp; omega, by simp, ?_⟩
  rw [h4, List.drop_eq_getElem_cons hp, cutAll, if_pos hc]
  simp
theorem Parting.go {m : UInt8} {L : List UInt8} {p : Nat} {ps : List (List UInt8)} {cur : List UInt8} (h : Parting m L p ps cur) (hp : p < L.length) (hc : L[p] ≠ m) : Parting m L (p + 1) ps (cur ++ [L[p]]) := by
  obtain ⟨h1, h2, h3, h4⟩ := h
  refine ⟨hp, by omega, by simp; omega, ?_⟩
  rw [h4, List.drop_eq_getElem_cons hp, cutAll, if_neg hc]
theorem Parting.done {m : UInt8} {L : List UInt8} {p : Nat} {ps : List (List UInt8)} {cur : List UInt8} (h : Parting m L p ps cur) (hp : L.length ≤ p) : cutAll m [] L = ps ++ [cur] := by
  obtain ⟨h1, h2, h3, h4⟩ := h
  rw [h4, List.drop_eq_nil_of_le hp, cutAll]
end Ip
