/-
  Filters as plain lists, and filters and bytes as they lie in a world.
-/
import Derived.Test.YtlhpdjafhjfcoaaDoorBytes
import Derived.Test.YtlhpdjafhjfcoaaDoorIAlu
import Derived.Test.YtlhpdjafhjfcoaaDoorIRead
namespace Go.Proofs.YtlhpdjafhjfcoaaDoor
open Go.ChangeShapes Go.WideShapes Go.ChangeAt Go.RowKit

/-- An instruction, plainly. -/
structure X4 where
  op : Int
  jt : Int
  jf : Int
  k : Int
deriving DecidableEq
/-- Its four cells. -/
abbrev X4.cells (x : X4) : List Value := [.int .i64 x.op, .int .i64 x.jt, .int .i64 x.jf, .int .u32 x.k]
abbrev X4.val (x : X4) : Value := insV x.op x.jt x.jf x.k
def X4.right (x : X4) : Bool := Go.Proofs.YtlhpdjafhjfcoaaDoor.right x.op x.jt x.jf x.k
/-- Its number fits 32 bits. -/
def X4.ok (x : X4) : Prop := 0 ≤ x.k ∧ x.k ≤ 4294967295
/-- A filter's error. -/
def ferr (l : List X4) : Int := if 4096 < l.length then 3 else if l.all X4.right then 0 else 1
/-- The cells of a filter. -/
def fcells (l : List X4) : List Value := l.flatMap X4.cells
theorem fcells_len (l : List X4) : (fcells l).length = l.length * 4 := by
  induction l with
  | nil => rfl
  | cons x l ih => simp [fcells, List.flatMap_cons] at ih ⊢; omega
theorem fcells_app (l m : List X4) : fcells (l ++ m) = fcells l ++ fcells m := by simp [fcells]
theorem fcells_one (x : X4) : fcells [x] = x.cells := by simp [fcells]
theorem fcells_at (l : List X4) (i : Nat) (h : i < l.length) : ∀ j, j < 4 → (fcells l)[i * 4 + j]? = (l[i]).cells[j]? := by
  induction l generalizing i with
  | nil => simp at h
  | cons x l ih =>
    intro j hj
    have e : fcells (x :: l) = x.cells ++ fcells l := by simp [fcells]
    rw [e]
    cases i with
    | zero =>
      rw [List.getElem?_append_left (by simp; omega)]
      simp
    | succ i =>
      rw [List.getElem?_append_right (by simp; omega)]
      simp only [List.getElem_cons_succ]
      rw [← ih i (by simpa using h) j hj]
      congr 1
      simp
      omega
theorem fcells_one' (l : List X4) : ∀ u ∈ fcells l, u.oneCell' = true := by
  intro u hu
  simp only [fcells, List.mem_flatMap] at hu
  obtain ⟨x, _, hx⟩ := hu
  simp [X4.cells] at hx
  rcases hx with rfl | rfl | rfl | rfl <;> rfl

/-- A filter that lies in a world. -/
def FAt (w : World) (v : Value) (l : List X4) : Prop :=
  ∃ ao cap, v = .slice ao l.length cap ∧ (l = [] ∨ ∃ b off, ao = some ⟨b, off, none⟩ ∧ b < w.heap.size ∧ ∀ i (h : i < l.length),
    w.cell? ⟨b, off + i * 4, none⟩ = some (.int .i64 (l[i]).op) ∧ w.cell? ⟨b, off + i * 4 + 1, none⟩ = some (.int .i64 (l[i]).jt) ∧ w.cell? ⟨b, off + i * 4 + 2, none⟩ = some (.int .i64 (l[i]).jf) ∧ w.cell? ⟨b, off + i * 4 + 3, none⟩ = some (.int .u32 (l[i]).k))
/-- The four cells of one instruction, in a world that has grown. -/
def C4 (w : World) (b o : Nat) (x : X4) : Prop := w.cell? ⟨b, o, none⟩ = some (.int .i64 x.op) ∧ w.cell? ⟨b, o + 1, none⟩ = some (.int .i64 x.jt) ∧ w.cell? ⟨b, o + 2, none⟩ = some (.int .i64 x.jf) ∧ w.cell? ⟨b, o + 3, none⟩ = some (.int .u32 x.k)
theorem FAt.nil (w : World) : FAt w (.slice none 0 0) [] := ⟨none, 0, rfl, .inl rfl⟩
theorem FAt.below {w w' : World} {v : Value} {l : List X4} (h : FAt w v l) (hb : Below w.heap.size w w') : FAt w' v l := by
  obtain ⟨ao, cap, rfl, h⟩ := h
  refine ⟨ao, cap, rfl, h.imp id ?_⟩
  rintro ⟨b, off, rfl, hl, hc⟩
  refine ⟨b, off, rfl, Nat.lt_of_lt_of_le hl hb.size, fun i hi => ?_⟩
  obtain ⟨c0, c1, c2, c3⟩ := hc i hi
  exact ⟨(hb.cell (p := ⟨b, _, none⟩) hl).trans c0, (hb.cell (p := ⟨b, _, none⟩) hl).trans c1, (hb.cell (p := ⟨b, _, none⟩) hl).trans c2, (hb.cell (p := ⟨b, _, none⟩) hl).trans c3⟩
theorem FAt.of_cells {w : World} {b off cap : Nat} {l : List X4} (hb : l ≠ [] → b < w.heap.size) (h : ∀ i u, (fcells l)[i]? = some u → w.cell? ⟨b, off + i, none⟩ = some u) : FAt w (.slice (some ⟨b, off, none⟩) l.length cap) l := by
  refine ⟨_, _, rfl, ?_⟩
  by_cases h0 : l = []
  · exact .inl h0
  · refine .inr ⟨b, off, rfl, hb h0, fun i hi => ⟨?_, ?_, ?_, ?_⟩⟩
    · have := fcells_at l i hi 0 (by omega)
      exact h _ _ this
    · have := fcells_at l i hi 1 (by omega)
      rw [Nat.add_assoc]
      exact h _ _ this
    · have := fcells_at l i hi 2 (by omega)
      rw [Nat.add_assoc]
      exact h _ _ this
    · have := fcells_at l i hi 3 (by omega)
      rw [Nat.add_assoc]
      exact h _ _ this
theorem FAt.own {w : World} {base : Nat} {e : TypeId} {v : Value} {n : Nat} {l : List X4} (h : w.ownsRow base e 4 v n (fcells l)) (hn : n = l.length) : FAt w v l := by
  subst hn
  rcases h.2 with ⟨rfl, h0⟩ | ⟨g, cap, cur, rfl, _, hg, _, _, _, ht⟩
  · obtain rfl := List.length_eq_zero_iff.1 h0
    exact FAt.nil w
  · refine FAt.of_cells (fun _ => lt_of_block hg) fun i u hu => ?_
    rw [Nat.zero_add, cell_in hg i, ← Array.getElem?_toList]
    have hi := (List.getElem?_eq_some_iff.1 hu).1
    rw [fcells_len] at hi
    rw [← ht, List.getElem?_take, if_pos (by omega)] at hu
    exact hu

theorem all_take_all {l : List X4} {n : Nat} (hn : n = l.length) (h : (l.take n).all X4.right = true) : l.all X4.right = true := by
  subst hn
  simpa using h
theorem all_take_succ {l : List X4} {n : Nat} (hn : n < l.length) (h : (l.take n).all X4.right = true) (hr : (l[n]).right = true) : (l.take (n + 1)).all X4.right = true := by
  rw [List.take_succ_eq_append_getElem hn, List.all_append, h]
  simpa using hr
theorem ferr_bad {l : List X4} {n : Nat} (hl : l.length ≤ 4096) (hn : n < l.length) (hr : (l[n]).right = false) : ferr l = 1 := by
  unfold ferr
  rw [if_neg (by omega), if_neg]
  intro h
  rw [List.all_eq_true] at h
  have := h _ (List.getElem_mem hn)
  rw [hr] at this
  cases this
theorem ferr_good {l : List X4} {n : Nat} (hl : l.length ≤ 4096) (hn : n = l.length) (h : (l.take n).all X4.right = true) : ferr l = 0 := by
  unfold ferr
  rw [if_neg (by omega), if_pos (all_take_all hn h)]
theorem ferr_full {l : List X4} (hl : 4096 < l.length) : ferr l = 3 := by unfold ferr; rw [if_pos hl]
end Go.Proofs.YtlhpdjafhjfcoaaDoor
