/-
  An instruction's text as its parts with spaces between them: parts are cut as they were joined; unlike instructions have unlike texts. Plain lists, without any program.
-/
import Derived.Test.YtlhpdjafhjfcoaaDoorIRead
namespace Ip
open Go

/-- Parts with a space between each two. -/
def join : List (List UInt8) → List UInt8
  | [] => []
  | [x] => x
  | x :: y :: l => x ++ 32 :: join (y :: l)
theorem sp_ne (m : Nat) (l cur : List UInt8) : sp m cur l ≠ [] := by
  induction l generalizing m cur with
  | nil => rw [sp_nil]; simp
  | cons c l ih =>
    cases m with
    | zero => rw [sp_zero]; simp
    | succ m =>
      rw [sp]
      split
      · simp
      · exact ih (m + 1) (cur ++ [c])
theorem join_sp (l : List UInt8) : ∀ (m : Nat) (cur : List UInt8), join (sp m cur l) = cur ++ l := by
  induction l with
  | nil => intro m cur; rw [sp_nil]; simp [join]
  | cons c l ih =>
    intro m cur
    cases m with
    | zero => rw [sp_zero]; simp [join]
    | succ m =>
      rw [sp]
      split
      · rename_i h
        have e := ih m []
        cases hs : sp m [] l with
        | nil => exact absurd hs (sp_ne m l [])
        | cons y t =>
          rw [hs] at e
          show cur ++ 32 :: join (y :: t) = _
          rw [e, h]
          simp
      · rw [ih]; simp
theorem sp_join : ∀ (ps : List (List UInt8)) (m : Nat), ps ≠ [] → (∀ p ∈ ps, ∀ c ∈ p, c ≠ 32) → ps.length ≤ m + 1 → sp m [] (join ps) = ps
  | [], _, h, _, _ => absurd rfl h
  | [x], m, _, h, _ => by
    have e := sp_skip m x [] [] (h x (by simp))
    rw [List.append_nil] at e
    show sp m [] x = _
    rw [e, sp_nil]
    simp
  | x :: y :: l, 0, _, _, hl => by simp at hl
  | x :: y :: l, m + 1, _, h, hl => by
    show sp (m + 1) [] (x ++ 32 :: join (y :: l)) = _
    rw [sp_skip (m + 1) x [] _ (h x (by simp)), sp_space, sp_join (y :: l) m (by simp) (fun p hp => h p (List.mem_cons_of_mem _ hp)) (by simp at hl ⊢; omega)]
    simp

theorem sp_len (l : List UInt8) : ∀ (m : Nat) (cur : List UInt8), (sp m cur l).length ≤ m + 1 := by
  induction l with
  | nil => intro m cur; rw [sp_nil]; simp
  | cons c l ih =>
    intro m cur
    cases m with
    | zero => rw [sp_zero]; simp
    | succ m =>
      rw [sp]
      split
      · have := ih m []
        simp
        omega
      · exact ih (m + 1) (cur ++ [c])
theorem sp_mem (l : List UInt8) : ∀ (m : Nat) (cur : List UInt8), ∀ y ∈ sp m cur l, y.length ≤ cur.length + l.length := by
  induction l with
  | nil => intro m cur y hy; rw [sp_nil] at hy; simp at hy; subst hy; simp
  | cons c l ih =>
    intro m cur y hy
    cases m with
    | zero => rw [sp_zero] at hy; simp at hy; subst hy; simp
    | succ m =>
      rw [sp] at hy
      split at hy
      · rcases List.mem_cons.1 hy with rfl | hy
        · simp
        · have := ih m [] y hy
          simp at this ⊢
          omega
      · have := ih (m + 1) (cur ++ [c]) y hy
        simp at this ⊢
        omega
theorem tx_space (n : Nat) : ∀ c ∈ tx n, c ≠ 32 := by
  intro c hc e
  subst e
  have hc2 : (32 : UInt8) ∈ Wd.hex n := by
    have h : (32 : UInt8) ∈ (48 :: 120 :: Wd.hex n) := hc
    simpa using h
  obtain ⟨d, hd, h⟩ := Wd.hex_mem n 32 hc2
  have h2 : (32 : Nat) = (Wd.hexB d).toNat := congrArg UInt8.toNat h
  by_cases h10 : d < 10
  · rw [Wd.hexB_lo d h10] at h2
    omega
  · rw [Wd.hexB_hi d (by omega) hd] at h2
    omega
theorem word_space : ∀ r ∈ rows, ∀ c ∈ r.word, c ≠ 32 := by decide
theorem word_inj : ∀ r ∈ rows, ∀ r' ∈ rows, r.word = r'.word → r = r' := by decide
theorem op_inj : ∀ r ∈ rows, ∀ r' ∈ rows, r.op = r'.op → r = r' := by decide
/-- The parts of an instruction's text. -/
def partsOf (r : Row) (jt jf k : Nat) : List (List UInt8) := r.word :: fieldsOf r.fmt jt jf k
theorem parts_len (r : Row) (jt jf k : Nat) : (partsOf r jt jf k).length ≤ 4 := by
  unfold partsOf fieldsOf
  cases hasK r.fmt <;> cases hasJ r.fmt <;> simp
theorem parts_space {r : Row} (hr : r ∈ rows) (jt jf k : Nat) : ∀ p ∈ partsOf r jt jf k, ∀ c ∈ p, c ≠ 32 := by
  intro p hp
  unfold partsOf at hp
  rcases List.mem_cons.1 hp with rfl | hp
  · exact word_space r hr
  · unfold fieldsOf at hp
    have h : p = tx k ∨ p = tx jt ∨ p = tx jf := by
      rcases List.mem_append.1 hp with h | h
      · split at h
        · exact .inl (by simpa using h)
        · simp at h
      · split at h
        · exact .inr (by simpa using h)
        · simp at h
    rcases h with rfl | rfl | rfl <;> exact tx_space _
theorem parts_cut {r : Row} (hr : r ∈ rows) (jt jf k : Nat) : sp 4 [] (join (partsOf r jt jf k)) = partsOf r jt jf k :=
  sp_join _ 4 (by simp [partsOf]) (parts_space hr jt jf k) (by have := parts_len r jt jf k; omega)
theorem tl_tx (n : Nat) : tl (n : Int) = 32 :: tx n := by simp [tl, tx]
theorem parts_join (r : Row) (jt jf k : Nat) : join (partsOf r jt jf k) = r.word ++ tail r.fmt jt jf k := by
  unfold partsOf fieldsOf tail
  rw [tl_tx, tl_tx, tl_tx]
  cases hasK r.fmt <;> cases hasJ r.fmt <;> simp [join]
theorem fine_K {f : Int} {jt jf k : Nat} (h : Fine f jt jf k) (hK : hasK f = false) : k = 0 := by
  have h1 := h.1
  unfold fits at h1
  rw [hK] at h1
  simp at h1
  omega
theorem fine_J {f : Int} {jt jf k : Nat} (h : Fine f jt jf k) (hJ : hasJ f = false) : jt = 0 ∧ jf = 0 := by
  have h1 := h.1
  unfold fits at h1
  rw [hJ] at h1
  simp at h1
  omega
theorem parts_inj {r r' : Row} (hr : r ∈ rows) (hr' : r' ∈ rows) {a b c a' b' c' : Nat} (h : Fine r.fmt a b c) (h' : Fine r'.fmt a' b' c') (e : partsOf r a b c = partsOf r' a' b' c') : r = r' ∧ a = a' ∧ b = b' ∧ c = c' := by
  unfold partsOf at e
  rw [List.cons.injEq] at e
  obtain rfl := word_inj r hr r' hr' e.1
  refine ⟨rfl, ?_⟩
  have e2 := e.2
  unfold fieldsOf at e2
  cases hK : hasK r.fmt
  · have k1 := fine_K h hK
    have k2 := fine_K h' hK
    cases hJ : hasJ r.fmt
    · have j1 := fine_J h hJ
      have j2 := fine_J h' hJ
      omega
    · rw [hK, hJ] at e2
      simp at e2
      have := tx_inj e2.1
      have := tx_inj e2.2
      omega
  · cases hJ : hasJ r.fmt
    · have j1 := fine_J h hJ
      have j2 := fine_J h' hJ
      rw [hK, hJ] at e2
      simp at e2
      have := tx_inj e2
      omega
    · rw [hK, hJ] at e2
      simp at e2
      have := tx_inj e2.1
      have := tx_inj e2.2.1
      have := tx_inj e2.2.2
      omega
theorem join_inj {r r' : Row} (hr : r ∈ rows) (hr' : r' ∈ rows) {a b c a' b' c' : Nat} (h : Fine r.fmt a b c) (h' : Fine r'.fmt a' b' c') (e : join (partsOf r a b c) = join (partsOf r' a' b' c')) : r = r' ∧ a = a' ∧ b = b' ∧ c = c' := by
  refine parts_inj hr hr' h h' ?_
  rw [← parts_cut hr, e, parts_cut hr']
theorem byOp_row {r : Row} (hr : r ∈ rows) : byOp r.op = some r := by
  unfold byOp
  cases h : rows.find? fun x => x.op == r.op with
  | none =>
    have := List.find?_eq_none.1 h r hr
    simp at this
  | some x =>
    have h1 := List.find?_some h
    rw [op_inj x (List.mem_of_find?_eq_some h) r hr (by simpa using h1)]
theorem byWord_row {r : Row} (hr : r ∈ rows) {s : ByteArray} (hs : s.data.toList = r.word) : byWord s = some r := by
  unfold byWord
  cases h : rows.find? fun x => x.word == s.data.toList with
  | none =>
    have := List.find?_eq_none.1 h r hr
    simp [hs] at this
  | some x =>
    have h1 := List.find?_some h
    rw [word_inj x (List.mem_of_find?_eq_some h) r hr (by rw [← hs]; simpa using h1)]
theorem byWord_word {r : Row} {s : ByteArray} (h : byWord s = some r) : r ∈ rows ∧ r.word = s.data.toList := ⟨List.mem_of_find?_eq_some h, by simpa using List.find?_some h⟩
end Ip

/-
  The document's own table of instructions (package hurdleref02), as plain lists, and how it stands to the program's table.
-/
namespace Ip
open Go

/-- The operations in the document's order, and their words. -/
def refOps : List Int := [0, 1, 2, 3, 4, 20, 36, 52, 68, 84, 100, 116, 164, 12, 28, 44, 60, 76, 92, 108, 124, 172, 132, 7, 135, 32, 96, 97, 5, 6, 22, 21, 37, 53, 69, 29, 45, 61, 77]
def refWords : List (List UInt8) := [[108, 100], [108, 100, 120], [115, 116], [115, 116, 120], [97, 100, 100], [115, 117, 98], [109, 117, 108], [100, 105, 118], [111, 114], [97, 110, 100], [108, 115, 104], [114, 115, 104], [120, 111, 114], [97, 100, 100, 120], [115, 117, 98, 120], [109, 117, 108, 120], [100, 105, 118, 120], [111, 114, 120], [97, 110, 100, 120], [108, 115, 104, 120], [114, 115, 104, 120], [120, 111, 114, 120], [110, 101, 103], [116, 97, 120], [116, 120, 97], [97, 98, 115], [109, 101, 109], [109, 101, 109, 120], [106, 97], [114, 101, 116], [114, 101, 116, 97], [106, 101, 113], [106, 103, 116], [106, 103, 101], [106, 115, 101, 116], [106, 101, 113, 120], [106, 103, 116, 120], [106, 103, 101, 120], [106, 115, 101, 116, 120]]
/-- The place of an operation; below 0: it is none. -/
def plc (k : Int) : Int := match refOps.findIdx? (· == k) with
  | some i => (i : Int)
  | none => -1
def plainB (i : Int) : Bool := (decide (13 ≤ i) && decide (i ≤ 24)) || (i == 30) || decide (35 ≤ i)
def branchB (i : Int) : Bool := decide (31 ≤ i)
/-- The program's row at a place of the document's. -/
def refRow (i : Nat) : Row := (byOp (refOps.getD i 0)).getD zeroRow
theorem ref_all : ∀ i, i < 39 → (byOp (refOps.getD i 0)).isSome = true ∧ (refRow i).op = refOps.getD i 0 ∧ (refRow i).word = refWords.getD i [] ∧ hasK (refRow i).fmt = !plainB i ∧ hasJ (refRow i).fmt = branchB i ∧ ((refRow i).fmt == 3) = (decide (4 ≤ i) && decide (i ≤ 12)) ∧ ((refRow i).fmt == 1) = (decide (13 ≤ i) && decide (i ≤ 21)) := by decide
theorem ref_only : ∀ r ∈ rows, refOps.contains r.op = true := by decide
theorem refOps_nodup : refOps.Nodup := by decide
theorem plc_at {i : Nat} (hi : i < 39) {k : Int} (h : (refOps.getD i 0 == k) = true) (ha : ∀ j, j < i → (refOps.getD j 0 == k) = false) : plc k = i := by
  have e : refOps.findIdx? (· == k) = some i := by
    rw [List.findIdx?_eq_some_iff_getElem]
    have hl : refOps.length = 39 := rfl
    refine ⟨by omega, ?_, fun j hj => ?_⟩
    · simpa [List.getD, hl, hi] using h
    · have := ha j hj
      simpa [List.getD, hl, show j < 39 by omega] using this
  unfold plc
  rw [e]
theorem plc_none {k : Int} (ha : ∀ j, j < 39 → (refOps.getD j 0 == k) = false) : plc k = -1 := by
  have e : refOps.findIdx? (· == k) = none := by
    rw [List.findIdx?_eq_none_iff]
    intro x hx
    obtain ⟨j, hj, rfl⟩ := List.getElem_of_mem hx
    have hl : refOps.length = 39 := rfl
    have := ha j (by omega)
    simpa [List.getD, hl, show j < 39 by omega] using this
  unfold plc
  rw [e]
/-- By an operation: a place with its row, or neither. -/
theorem plc_cases (k : Int) : (∃ i : Nat, i < 39 ∧ plc k = i ∧ k = refOps.getD i 0 ∧ byOp k = some (refRow i) ∧ refRow i ∈ rows) ∨ (plc k = -1 ∧ byOp k = none) := by
  cases h : refOps.findIdx? (· == k) with
  | some i =>
    rw [List.findIdx?_eq_some_iff_getElem] at h
    obtain ⟨hi, h1, h2⟩ := h
    have hl : refOps.length = 39 := rfl
    have hi' : i < 39 := by omega
    have hk : refOps.getD i 0 = k := by simpa [List.getD, hl, hi'] using h1
    refine .inl ⟨i, hi', ?_, hk.symm, ?_, ?_⟩
    · apply plc_at hi' (by simpa using hk)
      intro j hj
      have := h2 j hj
      simpa [List.getD, hl, show j < 39 by omega] using this
    · have h3 := (ref_all i hi').1
      rw [hk] at h3
      unfold refRow
      rw [hk]
      cases hb : byOp k with
      | none => rw [hb] at h3; cases h3
      | some r => rfl
    · have h3 := (ref_all i hi').1
      unfold refRow
      cases hb : byOp (refOps.getD i 0) with
      | none => rw [hb] at h3; cases h3
      | some r => exact (byOp_op hb).1
  | none =>
    refine .inr ⟨by unfold plc; rw [h], ?_⟩
    rw [List.findIdx?_eq_none_iff] at h
    cases hb : byOp k with
    | none => rfl
    | some r =>
      obtain ⟨hr, rfl⟩ := byOp_op hb
      have h1 := ref_only r hr
      have h2 := h r.op (by simpa using h1)
      simp at h2
end Ip

/-
  The arithmetic of an operation, plainly.
-/
namespace Go.Proofs.YtlhpdjafhjfcoaaDoor
open Go.ChangeShapes Go.WideShapes Go.ChangeAt Go.RowKit

/-- The arithmetic of an operation: its kind, whether it is with X, and whether there is any. -/
def aluV (op : Int) : Int := if (Ip.byOp op).isSome then Ip.aluK ((Ip.byOp op).getD Ip.zeroRow) else 0
def aluX (op : Int) : Bool := (Ip.byOp op).isSome && ((Ip.byOp op).getD Ip.zeroRow).fmt == 1
def aluB (op : Int) : Bool := (Ip.byOp op).isSome && (((Ip.byOp op).getD Ip.zeroRow).fmt == 3 || ((Ip.byOp op).getD Ip.zeroRow).fmt == 1)
theorem alu_at {op : Int} {i : Nat} (hi : i < 39) (hq : op = Ip.refOps.getD i 0) (hb : Ip.byOp op = some (Ip.refRow i)) :
    (4 ≤ i → i ≤ 12 → aluV op = op ∧ aluX op = false ∧ aluB op = true) ∧ (13 ≤ i → i ≤ 21 → aluV op = op - 8 ∧ aluX op = true ∧ aluB op = true) ∧ ((i < 4 ∨ 21 < i) → aluV op = 0 ∧ aluX op = false ∧ aluB op = false) := by
  obtain ⟨_, h2, _, _, _, h6, h7⟩ := Ip.ref_all i hi
  rw [← hq] at h2
  unfold aluV aluX aluB Ip.aluK
  rw [hb]
  simp only [Option.isSome_some, Option.getD_some, Bool.true_and, if_true, h6, h7, h2]
  refine ⟨fun h h' => ?_, fun h h' => ?_, fun h => ?_⟩
  · simp [h, h', show ¬ 13 ≤ i by omega]
  · simp [h, h', show ¬ i ≤ 12 by omega]
  · rcases h with h | h
    · simp [show ¬ 4 ≤ i by omega, show ¬ 13 ≤ i by omega]
    · simp [show ¬ i ≤ 12 by omega, show ¬ i ≤ 21 by omega]
theorem alu_none {op : Int} (hb : Ip.byOp op = none) : aluV op = 0 ∧ aluX op = false ∧ aluB op = false := by
  unfold aluV aluX aluB
  rw [hb]
  exact ⟨rfl, rfl, rfl⟩
end Go.Proofs.YtlhpdjafhjfcoaaDoor
