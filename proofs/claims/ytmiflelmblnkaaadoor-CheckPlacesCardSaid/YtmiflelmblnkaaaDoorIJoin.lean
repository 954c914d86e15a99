/-
  An instruction's text as its parts with spaces between them: parts are cut as they were joined; unlike instructions have unlike texts. Plain lists, without any program.
-/
import Derived.Test.YtmiflelmblnkaaaDoorISplit
import Derived.Test.YtmiflelmblnkaaaDoorIRead
namespace Ip
open Go

/-- Parts with a space between each two. -/
def join : List (List UInt8) → List UInt8
  | [] => []
  | [x] => x
  | x :: y :: l => x ++ 32 :: join (y :: l)
theorem sp_ne (m : Nat) (l cur : List UInt8) : sp m cur l ≠ [] := by
  induction l generalizing m cur with
  | nil => rw [sp_nil]; simp
  | cons c l ih =>
    cases m with
    | zero => rw [sp_zero]; simp
    | succ m =>
      rw [sp]
      split
      · simp
      · exact ih (m + 1) (cur ++ [c])
theorem join_sp (l : List UInt8) : ∀ (m : Nat) (cur : List UInt8), join (sp m cur l) = cur ++ l := by
  induction l with
  | nil => intro m cur; rw [sp_nil]; simp [join]
  | cons c l ih =>
    intro m cur
    cases m with
    | zero => rw [sp_zero]; simp [join]
    | succ m =>
      rw [sp]
      split
      · rename_i h
        have e := ih m []
        cases hs : sp m [] l with
        | nil => exact absurd hs (sp_ne m l [])
        | cons y t =>
          rw [hs] at e
          show cur ++ 32 :: join (y :: t) = _
          rw [e, h]
          simp
      · rw [ih]; simp
theorem sp_join : ∀ (ps : List (List UInt8)) (m : Nat), ps ≠ [] → (∀ p ∈ ps, ∀ c ∈ p, c ≠ 32) → ps.length ≤ m + 1 → sp m [] (join ps) = ps
  | [], _, h, _, _ => absurd rfl h
  | [x], m, _, h, _ => by
    have e := sp_skip m x [] [] (h x (by simp))
    rw [List.append_nil] at e
    show sp m [] x = _
    rw [e, sp_nil]
    simp
  | x :: y :: l, 0, _, _, hl => by simp at hl
  | x :: y :: l, m + 1, _, h, hl => by
    show sp (m + 1) [] (x ++ 32 :: join (y :: l)) = _
    rw [sp_skip (m + 1) x [] _ (h x (by simp)), sp_space, sp_join (y :: l) m (by simp) (fun p hp => h p (List.mem_cons_of_mem _ hp)) (by simp at hl ⊢; omega)]
    simp

theorem sp_len (l : List UInt8) : ∀ (m : Nat) (cur : List UInt8), (sp m cur l).length ≤ m + 1 := by
  induction l with
  | nil => intro m cur; rw [sp_nil]; simp
  | cons c l ih =>
    intro m cur
    cases m with
    | zero => rw [sp_zero]; simp
    | succ m =>
      rw [sp]
      split
      · have := ih m []
        simp
        omega
      · exact ih (m + 1) (cur ++ [c])
theorem sp_mem (l : List UInt8) : ∀ (m : Nat) (cur : List UInt8), ∀ y ∈ sp m cur l, y.length ≤ cur.length + l.length := by
  induction l with
  | nil => intro m cur y hy; rw [sp_nil] at hy; simp at hy; subst hy; simp
  | cons c l ih =>
    intro m cur y hy
    cases m with
    | zero => rw [sp_zero] at hy; simp at hy; subst hy; simp
    | succ m =>
      rw [sp] at hy
      split at hy
      · rcases List.mem_cons.1 hy with rfl | hy
        · simp
        · have := ih m [] y hy
          simp at this ⊢
          omega
      · have := ih (m + 1) (cur ++ [c]) y hy
        simp at this ⊢
        omega
theorem tx_space (n : Nat) : ∀ c ∈ tx n, c ≠ 32 := by
  intro c hc e
  subst e
  have hc2 : (32 : UInt8) ∈ Wd.hex n := by
    have h : (32 : UInt8) ∈ (48 :: 120 :: Wd.hex n) := hc
    simpa using h
  obtain ⟨d, hd, h⟩ := Wd.hex_mem n 32 hc2
  have h2 : (32 : Nat) = (Wd.hexB d).toNat := congrArg UInt8.toNat h
  by_cases h10 : d < 10
  · rw [Wd.hexB_lo d h10] at h2
    omega
  · rw [Wd.hexB_hi d (by omega) hd] at h2
    omega
theorem word_space : ∀ r ∈ rows, ∀ c ∈ r.word, c ≠ 32 := by decide
theorem word_inj : ∀ r ∈ rows, ∀ r' ∈ rows, r.word = r'.word → r = r' := by decide
theorem op_inj : ∀ r ∈ rows, ∀ r' ∈ rows, r.op = r'.op → r = r' := by decide
/-- The parts of an instruction's text. -/
def partsOf (r : Row) (jt jf k : Nat) : List (List UInt8) := r.word :: fieldsOf r.fmt jt jf k
theorem parts_len (r : Row) (jt jf k : Nat) : (partsOf r jt jf k).length ≤ 4 := by
  unfold partsOf fieldsOf
  cases hasK r.fmt <;> cases hasJ r.fmt <;> simp
theorem parts_space {r : Row} (hr : r ∈ rows) (jt jf k : Nat) : ∀ p ∈ partsOf r jt jf k, ∀ c ∈ p, c ≠ 32 := by
  intro p hp
  unfold partsOf at hp
  rcases List.mem_cons.1 hp with rfl | hp
  · exact word_space r hr
  · unfold fieldsOf at hp
    have h : p = tx k ∨ p = tx jt ∨ p = tx jf := by
      rcases List.mem_append.1 hp with h | h
      · split at h
        · exact .inl (by simpa using h)
        · simp at h
      · split at h
        · exact .inr (by simpa using h)
        · simp at h
    rcases h with rfl | rfl | rfl <;> exact tx_space _
theorem parts_cut {r : Row} (hr : r ∈ rows) (jt jf k : Nat) : sp 4 [] (join (partsOf r jt jf k)) = partsOf r jt jf k :=
  sp_join _ 4 (by simp [partsOf]) (parts_space hr jt jf k) (by have := parts_len r jt jf k; omega)
theorem tl_tx (n : Nat) : tl (n : Int) = 32 :: tx n := by simp [tl, tx]
theorem parts_join (r : Row) (jt jf k : Nat) : join (partsOf r jt jf k) = r.word ++ tail r.fmt jt jf k := by
  unfold partsOf fieldsOf tail
  rw [tl_tx, tl_tx, tl_tx]
  cases hasK r.fmt <;> cases hasJ r.fmt <;> simp [join]
theorem fine_K {f : Int} {jt jf k : Nat} (h : Fine f jt jf k) (hK : hasK f = false) : k = 0 := by
  have h1 := h.1
  unfold fits at h1
  rw [hK] at h1
  simp at h1
  omega
theorem fine_J {f : Int} {jt jf k : Nat} (h : Fine f jt jf k) (hJ : hasJ f = false) : jt = 0 ∧ jf = 0 := by
  have h1 := h.1
  unfold fits at h1
  rw [hJ] at h1
  simp at h1
  omega
theorem parts_inj {r r' : Row} (hr : r ∈ rows) (hr' : r' ∈ rows) {a b c a' b' c' : Nat} (h : Fine r.fmt a b c) (h' : Fine r'.fmt a' b' c') (e : partsOf r a b c = partsOf r' a' b' c') : r = r' ∧ a = a' ∧ b = b' ∧ c = c' := by
  unfold partsOf at e
  rw [List.cons.injEq] at e
  obtain rfl := word_inj r hr r' hr' e.1
  refine ⟨rfl, ?_⟩
  have e2 := e.2
  unfold fieldsOf at e2
  cases hK : hasK r.fmt
  · have k1 := fine_K h hK
    have k2 := fine_K h' hK
    cases hJ : hasJ r.fmt
    · have j1 := fine_J h hJ
      have j2 := fine_J h' hJ
      omega
    · rw [hK, hJ] at e2
      simp at e2
      have := tx_inj e2.1
      have := tx_inj e2.2
      omega
  · cases hJ : hasJ r.fmt
    · have j1 := fine_J h hJ
      have j2 := fine_J h' hJ
      rw [hK, hJ] at e2
      simp at e2
      have := tx_inj e2
      omega
    · rw [hK, hJ] at e2
      simp at e2
      have := tx_inj e2.1
      have := tx_inj e2.2.1
      have := tx_inj e2.2.2
      omega
theorem join_inj {r r' : Row} (hr : r ∈ rows) (hr' : r' ∈ rows) {a b c a' b' c' : Nat} (h : Fine r.fmt a b c) (h' : Fine r'.fmt a' b' c') (e : join (partsOf r a b c) = join (partsOf r' a' b' c')) : r = r' ∧ a = a' ∧ b = b' ∧ c = c' := by
  refine parts_inj hr hr' h h' ?_
  rw [← parts_cut hr, e, parts_cut hr']
theorem byOp_row {r : Row} (hr : r ∈ rows) : byOp r.op = some r := by
  unfold byOp
  cases h : rows.find? fun x => x.op == r.op with
  | none =>
    have := List.find?_eq_none.1 h r hr
    simp at this
  | some x =>
    have h1 := List.find?_some h
    rw [op_inj x (List.mem_of_find?_eq_some h) r hr (by simpa using h1)]
theorem byWord_row {r : Row} (hr : r ∈ rows) {s : ByteArray} (hs : s.data.toList = r.word) : byWord s = some r := by
  unfold byWord
  cases h : rows.find? fun x => x.word == s.data.toList with
  | none =>
    have := List.find?_eq_none.1 h r hr
    simp [hs] at this
  | some x =>
    have h1 := List.find?_some h
    rw [word_inj x (List.mem_of_find?_eq_some h) r hr (by rw [← hs]; simpa using h1)]
theorem byWord_word {r : Row} {s : ByteArray} (h : byWord s = some r) : r ∈ rows ∧ r.word = s.data.toList := ⟨List.mem_of_find?_eq_some h, by simpa using List.find?_some h⟩
end Ip
