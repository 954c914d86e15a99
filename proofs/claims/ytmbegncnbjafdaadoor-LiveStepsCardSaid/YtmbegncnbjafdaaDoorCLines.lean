/-
  A text parted at every byte that is a mark, plainly.
-/
import Derived.Test.YtmbegncnbjafdaaDoorICutW
import Derived.Test.YtmbegncnbjafdaaDoorAluP
import Derived.Test.YtmbegncnbjafdaaDoorCPrint
namespace Ip
open Go
/-- All parts of a text between marks. -/
def cutAll (m : UInt8) : List UInt8 → List UInt8 → List (List UInt8)
  | cur, [] => [cur]
  | cur, c :: l => if c = m then cur :: cutAll m [] l else cutAll m (cur ++ [c]) l
theorem cutAll_skip (m : UInt8) : ∀ (a cur l : List UInt8), (∀ c ∈ a, c ≠ m) → cutAll m cur (a ++ l) = cutAll m (cur ++ a) l := by
  intro a
  induction a with
  | nil => intro cur l _; simp
  | cons c a ih =>
    intro cur l h
    rw [List.cons_append, cutAll, if_neg (h c List.mem_cons_self), ih (cur ++ [c]) l (fun d hd => h d (List.mem_cons_of_mem _ hd))]
    simp
theorem cutAll_join : ∀ (ps : List (List UInt8)), ps ≠ [] → (∀ p ∈ ps, ∀ c ∈ p, c ≠ 32) → cutAll 32 [] (join ps) = ps
  | [], h, _ => absurd rfl h
  | [x], _, h => by
    have e := cutAll_skip 32 x [] [] (h x (by simp))
    rw [List.append_nil] at e
    show cutAll 32 [] x = _
    rw [e, cutAll]
    simp
  | x :: y :: l, _, h => by
    show cutAll 32 [] (x ++ 32 :: join (y :: l)) = _
    rw [cutAll_skip 32 x [] _ (h x (by simp)), cutAll, if_pos rfl, cutAll_join (y :: l) (by simp) (fun p hp => h p (List.mem_cons_of_mem _ hp))]
    simp
theorem cutAll_ne (m : UInt8) (l : List UInt8) : ∀ cur, cutAll m cur l ≠ [] := by
  induction l with
  | nil => intro cur; simp [cutAll]
  | cons c l ih => intro cur; rw [cutAll]; split <;> simp_all
theorem join_cutAll (l : List UInt8) : ∀ cur, join (cutAll 32 cur l) = cur ++ l := by
  induction l with
  | nil => intro cur; simp [cutAll, join]
  | cons c l ih =>
    intro cur
    rw [cutAll]
    split
    · rename_i h
      have e := ih []
      cases hs : cutAll 32 [] l with
      | nil => exact absurd hs (cutAll_ne 32 l [])
      | cons y t =>
        rw [hs] at e
        show cur ++ 32 :: join (y :: t) = _
        rw [e, h]
        simp
    · rw [ih]; simp
theorem cutAll_mem (m : UInt8) (l : List UInt8) : ∀ cur, ∀ y ∈ cutAll m cur l, y.length ≤ cur.length + l.length := by
  induction l with
  | nil => intro cur y hy; simp [cutAll] at hy; subst hy; simp
  | cons c l ih =>
    intro cur y hy
    rw [cutAll] at hy
    split at hy
    · rcases List.mem_cons.1 hy with rfl | hy
      · simp
      · have := ih [] y hy
        simp at this ⊢
        omega
    · have := ih (cur ++ [c]) y hy
      simp at this ⊢
      omega
theorem cutAll_len (m : UInt8) (l : List UInt8) : ∀ cur, (cutAll m cur l).length ≤ l.length + 1 := by
  induction l with
  | nil => intro cur; simp [cutAll]
  | cons c l ih =>
    intro cur
    rw [cutAll]
    split
    · have := ih []
      simp
      omega
    · have := ih (cur ++ [c])
      simp
      omega
/-- How far a text is parted. -/
def Parting (m : UInt8) (L : List UInt8) (p : Nat) (ps : List (List UInt8)) (cur : List UInt8) : Prop :=
  p ≤ L.length ∧ ps.length ≤ p ∧ cur.length ≤ p ∧ cutAll m [] L = ps ++ cutAll m cur (L.drop p)
theorem Parting.start (m : UInt8) (L : List UInt8) : Parting m L 0 [] [] := ⟨by omega, by simp, by simp, by simp⟩
theorem Parting.cut {m : UInt8} {L : List UInt8} {p : Nat} {ps : List (List UInt8)} {cur : List UInt8} (h : Parting m L p ps cur) (hp : p < L.length) (hc : L[p] = m) : Parting m L (p + 1) (ps ++ [cur]) [] := by
  obtain ⟨h1, h2, h3, h4⟩ := h
  refine ⟨hp, by simp; omega, by simp, ?_⟩
  rw [h4, List.drop_eq_getElem_cons hp, cutAll, if_pos hc]
  simp
theorem Parting.go {m : UInt8} {L : List UInt8} {p : Nat} {ps : List (List UInt8)} {cur : List UInt8} (h : Parting m L p ps cur) (hp : p < L.length) (hc : L[p] ≠ m) : Parting m L (p + 1) ps (cur ++ [L[p]]) := by
  obtain ⟨h1, h2, h3, h4⟩ := h
  refine ⟨hp, by omega, by simp; omega, ?_⟩
  rw [h4, List.drop_eq_getElem_cons hp, cutAll, if_neg hc]
theorem Parting.done {m : UInt8} {L : List UInt8} {p : Nat} {ps : List (List UInt8)} {cur : List UInt8} (h : Parting m L p ps cur) (hp : L.length ≤ p) : cutAll m [] L = ps ++ [cur] := by
  obtain ⟨h1, h2, h3, h4⟩ := h
  rw [h4, List.drop_eq_nil_of_le hp, cutAll]
end Ip

/-
  Texts of filters, line by line, as plain lists: what a filter's text is read as.
-/
namespace Go.Proofs.YtmbegncnbjafdaaDoor
open Go.ChangeShapes Go.WideShapes Go.ChangeAt Go.RowKit

/-- This line is this instruction's. -/
def IsIns (p : List UInt8) (x : X4) : Prop := x.right = true ∧ x.ok ∧ p = text x.op x.jt x.jf x.k
theorem isIns_row {r : Ip.Row} {a b c : Nat} (hr : r ∈ Ip.rows) (hf : Ip.Fine r.fmt a b c) {p : List UInt8} (hp : p = Ip.join (Ip.partsOf r a b c)) : IsIns p ⟨r.op, a, b, c⟩ :=
  ⟨right_of hr hf, by have := hf.2; unfold X4.ok; simp only; omega, by rw [hp, text_of hr]⟩
theorem isIns_is {p : List UInt8} {x : X4} (h : IsIns p x) : ∃ (r : Ip.Row) (a b c : Nat), r ∈ Ip.rows ∧ Ip.Fine r.fmt a b c ∧ x = ⟨r.op, a, b, c⟩ ∧ p = Ip.join (Ip.partsOf r a b c) := by
  obtain ⟨h1, h2, h3⟩ := h
  obtain ⟨r, a, b, c, hr, hf, rfl⟩ := right_is h1 h2
  exact ⟨r, a, b, c, hr, hf, rfl, by rw [h3, text_of hr]⟩
theorem isIns_one {p : List UInt8} {x y : X4} (h : IsIns p x) (h' : IsIns p y) : x = y := by
  obtain ⟨r, a, b, c, hr, hf, rfl, hp⟩ := isIns_is h
  obtain ⟨r', a', b', c', hr', hf', rfl, hp'⟩ := isIns_is h'
  obtain ⟨rfl, rfl, rfl, rfl⟩ := Ip.join_inj hr hr' hf hf' (hp.symm.trans hp')
  rfl
open Classical in
/-- The instruction of a line, if it is one's. -/
noncomputable def insOf (p : List UInt8) : Option X4 := if h : ∃ x, IsIns p x then some (Classical.choose h) else none
theorem insOf_some {p : List UInt8} {x : X4} (h : IsIns p x) : insOf p = some x := by
  have hex : ∃ x, IsIns p x := ⟨x, h⟩
  unfold insOf
  rw [dif_pos hex]
  exact congrArg some (isIns_one (Classical.choose_spec hex) h)
theorem insOf_none {p : List UInt8} (h : ∀ x, ¬ IsIns p x) : insOf p = none := by
  unfold insOf
  rw [dif_neg (fun ⟨x, hx⟩ => h x hx)]
theorem insOf_is {p : List UInt8} {x : X4} (h : insOf p = some x) : IsIns p x := by
  unfold insOf at h
  by_cases hex : ∃ x, IsIns p x
  · rw [dif_pos hex] at h
    rw [← Option.some.inj h]
    exact Classical.choose_spec hex
  · rw [dif_neg hex] at h
    cases h
theorem insOf_row {r : Ip.Row} {a b c : Nat} (hr : r ∈ Ip.rows) (hf : Ip.Fine r.fmt a b c) {p : List UInt8} (hp : p = Ip.join (Ip.partsOf r a b c)) : insOf p = some ⟨r.op, a, b, c⟩ := insOf_some (isIns_row hr hf hp)
theorem insOf_no {p : List UInt8} (h : ∀ (r : Ip.Row) (a b c : Nat), r ∈ Ip.rows → Ip.Fine r.fmt a b c → p ≠ Ip.join (Ip.partsOf r a b c)) : insOf p = none :=
  insOf_none fun x hx => by
    obtain ⟨r, a, b, c, hr, hf, _, hp⟩ := isIns_is hx
    exact h r a b c hr hf hp

/-- What is read of lines, behind what was read: the filter, the line, the error. -/
noncomputable def rd : List X4 → List (List UInt8) → List X4 × Nat × Int
  | acc, [] => (acc, 0, 0)
  | acc, p :: rest => if rest = [] ∧ p = [] then (acc, 0, 0) else if 4096 ≤ acc.length then ([], acc.length, 3) else
    match insOf p with
    | none => ([], acc.length, 2)
    | some x => if rest = [] then ([], acc.length, 2) else rd (acc ++ [x]) rest
theorem rd_end (acc : List X4) : rd acc [[]] = (acc, 0, 0) := by simp [rd]
theorem rd_full {acc : List X4} {p : List UInt8} {rest : List (List UInt8)} (h : ¬ (rest = [] ∧ p = [])) (hl : 4096 ≤ acc.length) : rd acc (p :: rest) = ([], acc.length, 3) := by
  rw [rd, if_neg h, if_pos hl]
theorem rd_last {acc : List X4} {p : List UInt8} (h : p ≠ []) (hl : acc.length < 4096) : rd acc [p] = ([], acc.length, 2) := by
  rw [rd, if_neg (by simp [h]), if_neg (by omega)]
  split
  · rfl
  · rw [if_pos rfl]
theorem rd_bad {acc : List X4} {p : List UInt8} {rest : List (List UInt8)} (h : ¬ (rest = [] ∧ p = [])) (hl : acc.length < 4096) (hi : insOf p = none) : rd acc (p :: rest) = ([], acc.length, 2) := by
  rw [rd, if_neg h, if_neg (by omega), hi]
theorem rd_next {acc : List X4} {p : List UInt8} {rest : List (List UInt8)} {x : X4} (hr : rest ≠ []) (hl : acc.length < 4096) (hi : insOf p = some x) : rd acc (p :: rest) = rd (acc ++ [x]) rest := by
  rw [rd, if_neg (fun h => hr h.1), if_neg (by omega), hi]
  exact if_neg hr
/-- A text's lines, and what is read of it. -/
abbrev linesOf (s : List UInt8) : List (List UInt8) := Ip.cutAll 10 [] s
noncomputable def rdL (s : List UInt8) : List X4 × Nat × Int := rd [] (linesOf s)
theorem lines_cut {p q : List UInt8} (h : ∀ x ∈ p, x ≠ 10) : linesOf (p ++ 10 :: q) = p :: linesOf q := by
  unfold linesOf
  rw [Ip.cutAll_skip 10 p [] _ h, Ip.cutAll, if_pos rfl, List.nil_append]
theorem lines_one {p : List UInt8} (h : ∀ x ∈ p, x ≠ 10) : linesOf p = [p] := by
  unfold linesOf
  have e := Ip.cutAll_skip 10 p [] [] h
  rw [List.append_nil] at e
  rw [e, Ip.cutAll, List.nil_append]
theorem lines_ne (s : List UInt8) : linesOf s ≠ [] := Ip.cutAll_ne 10 s []
/-- Lines, put together. -/
def joinL : List (List UInt8) → List UInt8
  | [] => []
  | [p] => p
  | p :: q :: l => p ++ 10 :: joinL (q :: l)
theorem joinL_cut (l : List UInt8) : ∀ cur, joinL (Ip.cutAll 10 cur l) = cur ++ l := by
  induction l with
  | nil => intro cur; simp [Ip.cutAll, joinL]
  | cons c l ih =>
    intro cur
    rw [Ip.cutAll]
    split
    · rename_i h
      have e := ih []
      cases hs : Ip.cutAll 10 [] l with
      | nil => exact absurd hs (Ip.cutAll_ne 10 l [])
      | cons y t =>
        rw [hs] at e
        show cur ++ 10 :: joinL (y :: t) = _
        rw [e, h]
        simp
    · rw [ih]; simp
theorem text_no10 {r : Ip.Row} {a b c : Nat} (hr : r ∈ Ip.rows) : ∀ x ∈ Ip.join (Ip.partsOf r a b c), x ≠ 10 := by
  have hw : ∀ r ∈ Ip.rows, ∀ x ∈ r.word, x ≠ 10 := by decide
  have hx : ∀ n : Int, ∀ x ∈ Ip.tl n, x ≠ 10 := by
    intro n x hx
    unfold Ip.tl at hx
    rcases List.mem_cons.1 hx with rfl | hx
    · decide
    rcases List.mem_cons.1 hx with rfl | hx
    · decide
    rcases List.mem_cons.1 hx with rfl | hx
    · decide
    obtain ⟨d, hd, rfl⟩ := Wd.hex_mem _ _ hx
    intro e
    have e2 := congrArg UInt8.toNat e
    by_cases h10 : d < 10
    · rw [Wd.hexB_lo d h10] at e2
      simp at e2
      omega
    · rw [Wd.hexB_hi d (by omega) hd] at e2
      simp at e2
      omega
  rw [Ip.parts_join]
  intro x hm
  rcases List.mem_append.1 hm with h | h
  · exact hw r hr x h
  · unfold Ip.tail at h
    rcases List.mem_append.1 h with h | h
    · split at h
      · exact hx _ x h
      · cases h
    · split at h
      · rcases List.mem_append.1 h with h | h
        · exact hx _ x h
        · exact hx _ x h
      · cases h
/-- A filter's lines are read as the filter. -/
theorem rd_lines : ∀ (l acc : List X4), l.all X4.right = true → (∀ x ∈ l, x.ok) → acc.length + l.length ≤ 4096 → rd acc (linesOf (l.flatMap lineX)) = (acc ++ l, 0, 0)
  | [], acc, _, _, _ => by rw [List.flatMap_nil, lines_one (by simp), rd_end, List.append_nil]
  | x :: l, acc, hr, hk, hl => by
    rw [List.all_cons, Bool.and_eq_true] at hr
    obtain ⟨r, a, b, c, hr', hf, rfl⟩ := right_is hr.1 (hk _ List.mem_cons_self)
    have e : lineX ⟨r.op, a, b, c⟩ = Ip.join (Ip.partsOf r a b c) ++ [10] := by rw [lineX_row hr', itxt_list]
    rw [List.length_cons] at hl
    rw [List.flatMap_cons, e, List.append_assoc, List.singleton_append, lines_cut (text_no10 hr'), rd_next (lines_ne _) (by omega) (insOf_row hr' hf rfl),
      rd_lines l _ hr.2 (fun y hy => hk y (List.mem_cons_of_mem _ hy)) (by rw [List.length_append]; simp; omega)]
    simp
/-- What was read has just that text. -/
theorem rd_back : ∀ (ps : List (List UInt8)) (acc xs : List X4) (i : Nat), rd acc ps = (xs, i, 0) → ps ≠ [] → ∃ ys, xs = acc ++ ys ∧ i = 0 ∧ ys.all X4.right = true ∧ (∀ y ∈ ys, y.ok) ∧ ys.flatMap lineX = joinL ps ∧ (acc.length ≤ 4096 → xs.length ≤ 4096)
  | [], _, _, _, _, h => absurd rfl h
  | p :: rest, acc, xs, i, h, _ => by
    by_cases h0 : rest = [] ∧ p = []
    · rw [rd, if_pos h0] at h
      obtain ⟨rfl, rfl⟩ := h0
      simp only [Prod.mk.injEq] at h
      obtain ⟨rfl, rfl, _⟩ := h
      exact ⟨[], by simp, rfl, rfl, by simp, rfl, fun h => h⟩
    · rw [rd, if_neg h0] at h
      split at h
      · simp at h
      · rename_i hl
        cases hi : insOf p with
        | none => rw [hi] at h; simp at h
        | some x =>
          rw [hi] at h
          simp only at h
          split at h
          · simp at h
          · rename_i hr
            obtain ⟨ys, h1, h2, h3, h4, h5, h6⟩ := rd_back rest (acc ++ [x]) xs i h hr
            obtain ⟨i1, i2, i3⟩ := insOf_is hi
            refine ⟨x :: ys, by rw [h1]; simp, h2, by rw [List.all_cons, i1, h3]; rfl, ?_, ?_, fun _ => h6 (by rw [List.length_append]; simp; omega)⟩
            · intro y hy
              rcases List.mem_cons.1 hy with rfl | hy
              · exact i2
              · exact h4 y hy
            · rw [List.flatMap_cons, h5]
              cases rest with
              | nil => exact absurd rfl hr
              | cons q t =>
                show text x.op x.jt x.jf x.k ++ [10] ++ joinL (q :: t) = p ++ 10 :: joinL (q :: t)
                rw [i3]
                simp
/-- What was not read is none. -/
theorem rd_err : ∀ (ps : List (List UInt8)) (acc xs : List X4) (i : Nat) (n : Int), rd acc ps = (xs, i, n) → n ≠ 0 → xs = []
  | [], _, _, _, _, h, hn => by
    rw [rd] at h
    simp only [Prod.mk.injEq] at h
    exact absurd h.2.2.symm hn
  | p :: rest, acc, xs, i, n, h, hn => by
    by_cases h0 : rest = [] ∧ p = []
    · rw [rd, if_pos h0] at h
      simp only [Prod.mk.injEq] at h
      exact absurd h.2.2.symm hn
    · rw [rd, if_neg h0] at h
      split at h
      · simp only [Prod.mk.injEq] at h
        exact h.1.symm
      · cases hi : insOf p with
        | none => rw [hi] at h; simp only [Prod.mk.injEq] at h; exact h.1.symm
        | some x =>
          rw [hi] at h
          simp only at h
          split at h
          · simp only [Prod.mk.injEq] at h
            exact h.1.symm
          · exact rd_err rest _ _ _ _ h hn
end Go.Proofs.YtmbegncnbjafdaaDoor
