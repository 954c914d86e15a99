/-
  What the laws' texts use, joined.
-/
import Derived.Test.YtkfhmcpdodnbhaaProg
import Derived.WalkKit
import Derived.ProofKit
import Derived.Lib.Hide
import Derived.Laws.Rows
import Derived.Laws.ResultCell
import Derived.Laws.Entries
import Derived.Handy
import Derived.OwnWalk
import Derived.Laws.OwnMore
import Derived.Deep.Draws
import Derived.Laws.IdiomStrings
import Derived.Lib.BufferRead
import Derived.Maps.OwnSet
import Derived.Laws.Tables
import Derived.Deep.DeepCutAuto
import Derived.DeepKeys
import Derived.Laws.StructEq
import Derived.Deep.RegionHeld3
import Derived.BigRegion
import Derived.BigQuiet
import Derived.Deep.OwnRows
/-
  What is the same for every stage: worlds that have only grown, blocks and rows of a call's own, small words on endings.
-/
namespace Go.Proofs.Ytkfhmcpdodnbhaa
open Go.ChangeShapes Go.WideShapes Go.ChangeAt Go.RowKit

theorem ret1 {c c' : Bool} (h : c = c') : Ending.returned (.bool c) = .returned (.bool c') := by rw [h]
/-- A new block more. -/
theorem ba {w v : World} (o : Obj) (h : Below w.heap.size w v) : Below w.heap.size w (v.alloc o) := h.alloc h.size o
/-- A struct's block: what its cells hold. -/
theorem cell_in {w : World} {g : Nat} {cs : Array Value} {t : TypeId} {fr : Nat × Nat} (h : w.heap[g]? = some (.cells cs t fr)) (i : Nat) : w.cell? ⟨g, i, none⟩ = cs[i]? := cell_of_row w g i cs t fr h
theorem free_in {w : World} {g : Nat} {cs : Array Value} {t : TypeId} (h : w.heap[g]? = some (.cells cs t (0, 0))) (i : Nat) : w.frozen? ⟨g, i, none⟩ = false := by simp [World.frozen?, h]
theorem size_alloc (w : World) (o : Obj) : (w.alloc o).heap.size = w.heap.size + 1 := by
  show (w.heap.push o).size = _
  simp
/-- A law on append: the world that it leaves, below the base. -/
theorem grown_below {B : Nat} {w0 w w' : World} {e : TypeId} {size : Nat} {v : Value} {n : Nat} {xs : List Value} (h : Below B w0 w) (ho : w.ownsRow B e size v n xs) (hg : w.grownBy w' v.ownBlock) (hB : B ≤ w.heap.size) : Below B w0 w' :=
  h.grown hg hB fun k hk => (ho.lt k hk).1
theorem news_at {w : World} {g : Nat} {cs : Array Value} {t : TypeId} {fr : Nat × Nat} (h : w.heap[g]? = some (.cells cs t fr)) : ∀ j u, cs.toList[j]? = some u → w.cell? ((⟨g, 0, none⟩ : Addr).add j) = some u := by
  intro j u hu
  rw [show (⟨g, 0, none⟩ : Addr).add j = ⟨g, j, none⟩ by unfold Addr.add; split <;> simp_all, cell_in h]
  simpa using hu
theorem new_at (w : World) (cs : Array Value) (t : TypeId) : ∀ j u, cs.toList[j]? = some u → (w.alloc (.cells cs t)).cell? ((⟨w.heap.size, 0, none⟩ : Addr).add j) = some u := news_at (heap_alloc_new w (.cells cs t))
theorem own_shape {w : World} {base : Nat} {e : TypeId} {size : Nat} {v : Value} {n : Nat} {xs : List Value} (h : w.ownsRow base e size v n xs) : ∃ a c, v = .slice a n c := by
  rcases h.2 with ⟨rfl, rfl⟩ | ⟨g, cap, _, rfl, _⟩
  · exact ⟨_, _, rfl⟩
  · exact ⟨_, _, rfl⟩
theorem own_cells {w : World} {base : Nat} {e : TypeId} {v : Value} {n : Nat} {xs : List Value} (h : w.ownsRow base e 1 v n xs) (hn : 0 < n) :
    ∃ g c, v = .slice (some ⟨g, 0, none⟩) n c ∧ base ≤ g ∧ g < w.heap.size ∧ n ≤ c ∧ ∀ i u, xs[i]? = some u → w.cell? ⟨g, i, none⟩ = some u := by
  have hh := h
  rcases h.2 with ⟨_, h0⟩ | ⟨g, cap, cur, rfl, hg, hb, hc, _⟩
  · omega
  · refine ⟨g, cap, rfl, hg, lt_of_block hb, hc, fun i u hu => ?_⟩
    have hi : i < n * 1 := by have h1 := h.1; have := (List.getElem?_eq_some_iff.1 hu).1; omega
    rw [hh.cellAt i hi]
    exact hu
theorem below2 {a b c : World} (h : Below a.heap.size a b) (k : Below b.heap.size b c) : Below a.heap.size a c := h.trans (k.mono h.size)
theorem bdN {B : Nat} {a w : World} (h : Below B a w) (n : Nat) : Below B a (w.drewN n) := ⟨h.os, h.tape, h.output, h.size, h.block⟩
theorem retB {a b : Bool} (h : a = b) : Ending.returned (.bool b) = .returned (.bool a) := by rw [h]
theorem pick_list {α : Type} {Q : Nat → α → Prop} : ∀ n : Nat, (∀ i, i < n → ∃ x, Q i x) → ∃ l : List α, l.length = n ∧ ∀ i (h : i < l.length), Q i l[i]
  | 0, _ => ⟨[], rfl, fun i h => by simp at h⟩
  | n + 1, h => by
    obtain ⟨l, hl, hq⟩ := pick_list n (fun i hi => h i (by omega))
    obtain ⟨x, hx⟩ := h n (by omega)
    refine ⟨l ++ [x], by simp [hl], fun i hi => ?_⟩
    by_cases hin : i < l.length
    · rw [List.getElem_append_left hin]
      exact hq i hin
    · have hi' : i = l.length := by simp at hi; omega
      subst hi'
      simp
      rw [hl]
      exact hx
end Go.Proofs.Ytkfhmcpdodnbhaa

/-
  Bytes that lie in a world; numbers as bytes; append(own, src...) where src is anything that lies in the world (nil among them); string(b).
-/
namespace Go.Proofs.Ytkfhmcpdodnbhaa
open Go.ChangeShapes Go.WideShapes Go.ChangeAt Go.RowKit
set_option maxRecDepth 20000

/-- Bytes that lie in a world. -/
def BAt (w : World) (v : Value) (l : List UInt8) : Prop :=
  ∃ ao cap, v = .slice ao l.length cap ∧ l.length ≤ cap ∧ cap ≤ 9223372036854775807 ∧ (l = [] ∨ ∃ b off, ao = some ⟨b, off, none⟩ ∧ b < w.heap.size ∧ ∀ i (h : i < l.length), w.cell? ⟨b, off + i, none⟩ = some (.int .u8 ((l[i]).toNat : Int)))
abbrev bcells (l : List UInt8) : List Value := l.map fun b => Value.int .u8 (b.toNat : Int)
theorem BAt.nil (w : World) : BAt w (.slice none 0 0) [] := ⟨none, 0, rfl, Nat.le_refl _, by omega, .inl rfl⟩
theorem BAt.below {w w' : World} {v : Value} {l : List UInt8} (h : BAt w v l) (hb : Below w.heap.size w w') : BAt w' v l := by
  obtain ⟨ao, cap, rfl, hcap, hm, h⟩ := h
  refine ⟨ao, cap, rfl, hcap, hm, h.imp id ?_⟩
  rintro ⟨b, off, rfl, hl, hc⟩
  exact ⟨b, off, rfl, Nat.lt_of_lt_of_le hl hb.size, fun i hi => (hb.cell (p := ⟨b, _, none⟩) hl).trans (hc i hi)⟩
theorem BAt.own {w : World} {base : Nat} {e : TypeId} {v : Value} {n : Nat} {l : List UInt8} (h : w.ownsRow base e 1 v n (bcells l)) (hn : n = l.length) : BAt w v l := by
  subst hn
  rcases h.2 with ⟨rfl, h0⟩ | ⟨g, cap, cur, rfl, _, hg, hc, hm, _, ht⟩
  · obtain rfl := List.length_eq_zero_iff.1 h0
    exact BAt.nil w
  · unfold maxLen at hm
    refine ⟨_, _, rfl, hc, hm, .inr ⟨g, 0, rfl, lt_of_block hg, fun i hi => ?_⟩⟩
    rw [Nat.zero_add, cell_in hg i, ← Array.getElem?_toList]
    have hu : (bcells l)[i]? = some (.int .u8 ((l[i]).toNat : Int)) := by simp [hi]
    rw [← ht, List.getElem?_take, if_pos (by omega)] at hu
    exact hu
theorem BAt.lit (w : World) (l : List UInt8) (t : TypeId) (hm : l.length ≤ 9223372036854775807) : BAt (w.alloc (.cells (bcells l).toArray t)) (.slice (some ⟨w.heap.size, 0, none⟩) l.length l.length) l :=
  ⟨_, _, rfl, Nat.le_refl _, hm, .inr ⟨_, 0, rfl, by rw [size_alloc]; omega, fun i hi => by
    rw [Nat.zero_add, cell_in (heap_alloc_new w (.cells (bcells l).toArray t)) i]
    simp [hi]⟩⟩
/-- A slice whose elements have these cells. -/
def SrcAt (w : World) (size : Nat) (x : Value) (m : Nat) (news : List Value) : Prop :=
  ∃ ao c, x = .slice ao m c ∧ news.length = m * size ∧ (ao = none → m = 0) ∧ ∀ ad, ao = some ad → ∀ j u, news[j]? = some u → w.cell? (ad.add j) = some u
theorem SrcAt.below {w w' : World} {size m : Nat} {x : Value} {news : List Value} (h : SrcAt w size x m news) (hk : ∀ p : Addr, w.cell? p ≠ none → w'.cell? p = w.cell? p) : SrcAt w' size x m news := by
  obtain ⟨ao, c, rfl, h1, h2, h3⟩ := h
  refine ⟨ao, c, rfl, h1, h2, fun ad had j u hu => ?_⟩
  have e := h3 ad had j u hu
  rw [hk _ (by rw [e]; simp)]
  exact e
section
variable {P : Program} (w : World)
theorem run_append_nothing (base : Nat) (t ty e : TypeId) (i : TypeInfo) (size : Nat) (ht : P.underlying t = some (.slice e)) (hi : P.info? e = some i) (v : Value) (n : Nat) (xs : List Value) (hown : w.ownsRow base e size v n xs) (c : Nat) :
    (Builtin.append_ #[t, t] ty #[v, .slice none 0 c]).run P w = .ok v w := by
  rcases hown.2 with ⟨rfl, rfl⟩ | ⟨g, cap, cur, rfl, _, _, hnc, _⟩
  · simp [Builtin.append_, run_underlying ht, sizeOf, typeInfo, hi, Builtin.lenOf, Builtin.firstCells]
  · simp [Builtin.append_, run_underlying ht, sizeOf, typeInfo, hi, Builtin.lenOf, Builtin.firstCells, hnc, storeCells]
theorem step_append_src {ops : Array Oper} {o : Oper} {a : Act} {K : Act → World → Prop} {Q : Exit → Act → World → Prop} {E : Prop} (hgd : o.guard = none) (s x : Operand) (t : TypeId)
    (ho : o.op = .call { callee := .builtin .append, args := #[s, x], argTypes := #[t, t] })
    (base : Nat) (e : TypeId) (i : TypeInfo) (z : Value) (size bytes : Nat) (ht : P.underlying t = some (.slice e)) (hi : P.info? e = some i) (hz : i.zero = some z)
    (hsize : i.size = size) (hby : i.bytes = bytes) (hzs : z.cells.size = size) (hsz : 0 < size)
    (v : Value) (n : Nat) (xs : List Value) (hs : a.eval s = v) (hown : w.ownsRow base e size v n xs)
    (xv : Value) (m : Nat) (news : List Value) (hx : a.eval x = xv) (hsrc : SrcAt w size xv m news) (h1 : ∀ u ∈ news, u.oneCell' = true)
    (h63 : n + m ≤ maxLen) (hbytes : (n + m) * bytes ≤ 140737488355328) (hbase : base ≤ w.heap.size)
    (h : ∀ v' w', w'.ownsRow base e size v' (n + m) (xs ++ news) → w.grownBy w' v.ownBlock → K (a.put o.dst v') w') :
    if Region.wanted o (yielded ops a.tmps) = true then Oper.wp P o a w K Q else E := by
  have hw : Region.wanted o (yielded ops a.tmps) = true := by simp [Region.wanted, hgd]
  rw [if_pos hw]
  obtain ⟨ao, c, rfl, hl, h0, hc⟩ := hsrc
  cases ao with
  | some ad => exact wp_append_own w s x t ho base e i z size bytes ht hi hz hsize hby hzs hsz v n xs hs hown ad m c news hx hl (hc ad rfl) h1 h63 hbytes hbase fun v' w' h2 h3 _ => h v' w' h2 h3
  | none =>
    obtain rfl := h0 rfl
    obtain rfl : news = [] := List.eq_nil_of_length_eq_zero (by simpa using hl)
    have hrun := run_append_nothing (P := P) w base t o.type e i size ht hi v n xs hown c
    unfold Oper.wp
    simp [execOp, ho, resolve, invoke, builtin, hs, hx, hrun, Result.andThen]
    exact h v w (by simpa using hown) (World.grownBy.refl w _)
end
end Go.Proofs.Ytkfhmcpdodnbhaa

namespace Go
end Go
/-
  States, as they lie in a world; what run.cell and run.withCell answer.
-/
namespace Go.Proofs.Ytkfhmcpdodnbhaa
open Go.ChangeShapes Go.WideShapes Go.ChangeAt Go.RowKit
set_option maxRecDepth 20000

/-- A state. -/
structure St where
  a : Nat
  x : Nat
  m : List Nat
deriving DecidableEq
def St.ok (s : St) : Prop := s.a ≤ 4294967295 ∧ s.x ≤ 4294967295 ∧ s.m.length = 16 ∧ ∀ v ∈ s.m, v ≤ 4294967295
/-- What is in a cell; 0, if there is none. -/
def mAt (m : List Nat) (i : Nat) : Nat := m.getD i 0
theorem mAt_out {m : List Nat} {k : Nat} (h : m.length ≤ k) : mAt m k = 0 := by
  unfold mAt
  rw [List.getD_eq_getElem?_getD, List.getElem?_eq_none h]
  rfl
theorem mAt_set {m : List Nat} (k v i : Nat) (hk : k < m.length) : mAt (m.set k v) i = if i = k then v else mAt m i := by
  unfold mAt
  rw [List.getD_eq_getElem?_getD, List.getD_eq_getElem?_getD]
  by_cases h : i = k
  · subst h
    rw [if_pos rfl, List.getElem?_set_self hk]
    rfl
  · rw [if_neg h, List.getElem?_set_ne (by omega)]
/-! ### Rows of a call's own: one that has been written -/
/-- 'w' is written in one row alone, which then holds 'o'. -/
structure RowPut (w w' : World) (g : Nat) (o : Obj) : Prop where
  os : w'.os = w.os
  tape : w'.tape = w.tape
  output : w'.output = w.output
  size : w'.heap.size = w.heap.size
  row : w'.heap[g]? = some o
  rest : ∀ k, k ≠ g → w'.heap[k]? = w.heap[k]?
theorem RowPut.below {w w' a : World} {g B : Nat} {o : Obj} (h : RowPut w w' g o) (hb : Below B a w) (hg : B ≤ g) : Below B a w' :=
  ⟨h.os.trans hb.os, h.tape.trans hb.tape, h.output.trans hb.output, by rw [h.size]; exact hb.size, fun k hk => (h.rest k (by omega)).trans (hb.block k hk)⟩
theorem RowPut.keep {w w' : World} {g k : Nat} {o o' : Obj} (h : RowPut w w' g o) (hk : k ≠ g) (ho : w.heap[k]? = some o') : w'.heap[k]? = some o' := (h.rest k hk).trans ho
theorem rowPut_set {w : World} {g : Nat} {old : Array Value} {t : TypeId} (hg : w.heap[g]? = some (.cells old t)) (cs : Array Value) : RowPut w (w.setRow g cs) g (.cells cs t) :=
  ⟨rfl, rfl, rfl, by unfold World.setRow; simp, setRow_heap w g old cs t (0, 0) hg, fun k hk => setRow_other w g k cs hk⟩
section
variable {ops : Array Oper} {rest : List Oper} {o : Oper} {a : Act} {w : World} {Q : Exit → Act → World → Prop}
end
theorem ka {w : World} {g : Nat} {o : Obj} (o' : Obj) (h : w.heap[g]? = some o) : (w.alloc o').heap[g]? = some o := (Below.heap_alloc w o' g (lt_of_block h)).trans h

theorem kb {w w' : World} {g : Nat} {o : Obj} (hb : Below w.heap.size w w') (h : w.heap[g]? = some o) : w'.heap[g]? = some o := (hb.block _ (lt_of_block h)).trans h
/-- Blocks that a call lays at its head. -/
theorem box2 (w : World) (A B : Obj) : ∃ W, W = (w.alloc A).alloc B ∧ W.heap[w.heap.size]? = some A ∧ W.heap[w.heap.size + 1]? = some B ∧ Below w.heap.size w W :=
  ⟨_, rfl, ka _ (heap_alloc_new _ _), by have h := heap_alloc_new (w.alloc A) B; rw [size_alloc] at h; exact h, ba _ (ba _ (Below.refl _ _))⟩
theorem box3 (w : World) (A B C : Obj) : ∃ W, W = ((w.alloc A).alloc B).alloc C ∧ W.heap[w.heap.size]? = some A ∧ W.heap[w.heap.size + 1]? = some B ∧ W.heap[w.heap.size + 2]? = some C ∧ Below w.heap.size w W := by
  obtain ⟨W, hW, h0, h1, hb⟩ := box2 w A B
  refine ⟨_, rfl, ?_, ?_, ?_, ?_⟩
  · rw [← hW]; exact ka _ h0
  · rw [← hW]; exact ka _ h1
  · have h := heap_alloc_new ((w.alloc A).alloc B) C
    rw [size_alloc, size_alloc] at h
    exact h
  · rw [← hW]; exact ba _ hb
theorem box4 (w : World) (A B C D : Obj) : ∃ W, W = (((w.alloc A).alloc B).alloc C).alloc D ∧ W.heap[w.heap.size]? = some A ∧ W.heap[w.heap.size + 1]? = some B ∧ W.heap[w.heap.size + 2]? = some C ∧ W.heap[w.heap.size + 3]? = some D ∧ Below w.heap.size w W := by
  obtain ⟨W, hW, h0, h1, h2, hb⟩ := box3 w A B C
  refine ⟨_, rfl, ?_, ?_, ?_, ?_, ?_⟩
  · rw [← hW]; exact ka _ h0
  · rw [← hW]; exact ka _ h1
  · rw [← hW]; exact ka _ h2
  · have h := heap_alloc_new (((w.alloc A).alloc B).alloc C) D
    rw [size_alloc, size_alloc, size_alloc] at h
    exact h
  · rw [← hW]; exact ba _ hb

end Go.Proofs.Ytkfhmcpdodnbhaa
/-
  Linear forms and assignments, as they lie in a world; what the document answers (plain).
-/
namespace Go.Proofs.Ytkfhmcpdodnbhaa
open Go.ChangeShapes Go.WideShapes Go.ChangeAt Go.RowKit
set_option maxRecDepth 20000

/-! ### Numbers in a row -/
def ucells (l : List Nat) : List Value := l.map fun (n : Nat) => Value.int .u32 (n : Int)
/-- Numbers as cells (not to be opened by a walk). -/
def numsC (l : List Nat) : Array Value := (ucells l).toArray
theorem ucells_len (l : List Nat) : (ucells l).length = l.length := by simp [ucells]
theorem numsC_size (l : List Nat) : (numsC l).size = l.length := by simp [numsC, ucells]
theorem mAt_get {l : List Nat} {i : Nat} (h : i < l.length) : mAt l i = l[i] := by
  unfold mAt
  rw [List.getD_eq_getElem?_getD, List.getElem?_eq_getElem h]
  rfl
theorem numsC_at {l : List Nat} {i : Nat} (h : i < l.length) : (numsC l)[i]? = some (.int .u32 (mAt l i : Nat)) := by
  simp [numsC, ucells, mAt_get h, h]
theorem numsC_set (l : List Nat) (i v : Nat) : (numsC l).setIfInBounds i (.int .u32 (v : Int)) = numsC (l.set i v) := by
  simp [numsC, ucells, List.map_set]
theorem numsC_one (l : List Nat) : (numsC l).all (·.oneCell') = true := by
  simp [numsC, ucells, Value.oneCell']
theorem mAt_in {l : List Nat} {B : Nat} (h : ∀ n ∈ l, n < B) (hB : 0 < B) (i : Nat) : mAt l i < B := by
  by_cases hi : i < l.length
  · rw [mAt_get hi]
    exact h _ (List.getElem_mem hi)
  · rw [mAt_out (by omega)]
    exact hB
theorem ext_mAt {l l' : List Nat} (hl : l.length = l'.length) (h : ∀ i, i < l.length → mAt l i = mAt l' i) : l = l' := by
  refine List.ext_getElem hl fun i h1 h2 => ?_
  have := h i h1
  rwa [mAt_get h1, mAt_get h2] at this
/-- The first numbers of a row that is given by its numbers. -/
def segA (A : Nat → Nat) (k : Nat) : List Nat := (List.range k).map A
theorem segA_len (A : Nat → Nat) (k : Nat) : (segA A k).length = k := by simp [segA]
theorem segA_succ (A : Nat → Nat) (k : Nat) : segA A (k + 1) = segA A k ++ [A k] := by simp [segA, List.range_succ]
theorem segA_at {A : Nat → Nat} {k i : Nat} (h : i < k) : mAt (segA A k) i = A i := by
  rw [mAt_get (by rw [segA_len]; exact h)]
  simp [segA]
theorem ucells_app (a b : List Nat) : ucells (a ++ b) = ucells a ++ ucells b := by simp [ucells]

/-! ### Forms -/
/-- A form: its constant, then its 34 coefficients. -/
def FOk (f : List Nat) : Prop := f.length = 35 ∧ ∀ n ∈ f, n < 4294967296
/-- An assignment: 34 numbers. -/
def VOk (v : List Nat) : Prop := v.length = 34 ∧ ∀ n ∈ v, n < 4294967296
theorem FOk.lt {f : List Nat} (h : FOk f) (i : Nat) : mAt f i < 4294967296 := mAt_in h.2 (by omega) i
theorem VOk.lt {f : List Nat} (h : VOk f) (i : Nat) : mAt f i < 4294967296 := mAt_in h.2 (by omega) i
def formOf (A : Nat → Nat) : List Nat := segA A 35
theorem formOf_ok {A : Nat → Nat} (h : ∀ i, i < 35 → A i < 4294967296) : FOk (formOf A) := by
  refine ⟨by simp [formOf, segA], fun n hn => ?_⟩
  obtain ⟨i, hi, rfl⟩ := List.mem_map.1 hn
  exact h i (List.mem_range.1 hi)
theorem formOf_at {A : Nat → Nat} {i : Nat} (h : i < 35) : mAt (formOf A) i = A i := segA_at h
theorem form_ext {f g : List Nat} (hf : f.length = 35) (hg : g.length = 35) (h : ∀ i, i < 35 → mAt f i = mAt g i) : f = g := ext_mAt (by omega) (fun i hi => h i (by omega))
def constF (c : Nat) : List Nat := formOf fun i => if i = 0 then c else 0
def varF (n : Nat) : List Nat := formOf fun i => if i = n + 1 then 1 else 0
def sumF (f : List Nat) (a : Nat) (g : List Nat) (b : Nat) : List Nat := formOf fun i => (mAt f i * a + mAt g i * b) % 4294967296
def addF (f g : List Nat) : List Nat := formOf fun i => (mAt f i + mAt g i) % 4294967296
def subF (f g : List Nat) : List Nat := formOf fun i => (mAt f i + (4294967296 - mAt g i)) % 4294967296
def mulF (f : List Nat) (k : Nat) : List Nat := formOf fun i => mAt f i * k % 4294967296
/-- The value of the constant and the first variables. -/
def valN (f v : List Nat) : Nat → Nat
  | 0 => mAt f 0
  | n + 1 => (valN f v n + mAt f (n + 1) * mAt v n % 4294967296) % 4294967296
def evalF (f v : List Nat) : Nat := valN f v 34
/-- How many of the first variables count. -/
def cntN (f : List Nat) : Nat → Nat
  | 0 => 0
  | n + 1 => cntN f n + if 0 < mAt f (n + 1) then 1 else 0
def zeros : List Nat := List.replicate 34 0
/-- The first place, from i on, where the coefficients differ; 34, if there is none. -/
def diffN (f g : List Nat) (i : Nat) : Nat → Nat
  | 0 => 34
  | n + 1 => if mAt f (i + 1) = mAt g (i + 1) then diffN f g (i + 1) n else i
def apartF (f g : List Nat) : List Nat × Bool :=
  if f = g then (zeros, false) else if mAt f 0 = mAt g 0 then (zeros.set (diffN f g 0 34) 1, true) else (zeros, true)
def constantF (f : List Nat) : Nat × Bool := if cntN f 34 = 0 then (mAt f 0, true) else (0, false)
/-- The first variable, from i on, that the form is; none, if there is none. -/
def singN (f : List Nat) (i : Nat) : Nat → Option Nat
  | 0 => none
  | n + 1 => if f = varF i then some i else singN f (i + 1) n
def singleF (f : List Nat) : Option Nat := singN f 0 34

theorem constF_ok {c : Nat} (h : c < 4294967296) : FOk (constF c) := formOf_ok fun i _ => by split <;> omega
theorem varF_ok (n : Nat) : FOk (varF n) := formOf_ok fun i _ => by split <;> omega
theorem sumF_ok (f : List Nat) (a : Nat) (g : List Nat) (b : Nat) : FOk (sumF f a g b) := formOf_ok fun _ _ => Nat.mod_lt _ (by omega)
theorem addF_ok (f g : List Nat) : FOk (addF f g) := formOf_ok fun _ _ => Nat.mod_lt _ (by omega)
theorem subF_ok (f g : List Nat) : FOk (subF f g) := formOf_ok fun _ _ => Nat.mod_lt _ (by omega)
theorem mulF_ok (f : List Nat) (k : Nat) : FOk (mulF f k) := formOf_ok fun _ _ => Nat.mod_lt _ (by omega)
theorem valN_lt {f : List Nat} (hf : FOk f) (v : List Nat) : ∀ n, valN f v n < 4294967296
  | 0 => hf.lt 0
  | _ + 1 => Nat.mod_lt _ (by omega)
theorem zeros_ok : VOk zeros := ⟨by simp [zeros], fun n hn => by rw [List.eq_of_mem_replicate hn]; omega⟩
theorem zeros_at (i : Nat) : mAt zeros i = 0 := by
  by_cases h : i < 34
  · rw [mAt_get (by simp [zeros]; exact h)]
    exact List.getElem_replicate _
  · exact mAt_out (by simp [zeros]; omega)
theorem zset_ok (i : Nat) : VOk (zeros.set i 1) := ⟨by simp [zeros], fun n hn => by
  rcases List.mem_or_eq_of_mem_set hn with h | h
  · exact zeros_ok.2 n h
  · omega⟩
theorem apartF_ok (f g : List Nat) : VOk (apartF f g).1 := by
  unfold apartF
  split
  · exact zeros_ok
  · split
    · exact zset_ok _
    · exact zeros_ok

/-! ### Sums -/
theorem add_val {f g v : List Nat} : ∀ n, n ≤ 34 → valN (addF f g) v n = (valN f v n + valN g v n) % 4294967296
  | 0, _ => formOf_at (by omega)
  | n + 1, h => by
    simp only [valN]
    rw [add_val n (by omega), addF, formOf_at (by omega)]
    have e : (mAt f (n + 1) + mAt g (n + 1)) % 4294967296 * mAt v n % 4294967296 = (mAt f (n + 1) * mAt v n + mAt g (n + 1) * mAt v n) % 4294967296 := by
      rw [Nat.mod_mul_mod, Nat.add_mul]
    rw [e]
    omega
theorem mul_val {f v : List Nat} (k : Nat) : ∀ n, n ≤ 34 → valN (mulF f k) v n = valN f v n * k % 4294967296
  | 0, _ => formOf_at (by omega)
  | n + 1, h => by
    simp only [valN]
    rw [mul_val k n (by omega), mulF, formOf_at (by omega)]
    have e : mAt f (n + 1) * k % 4294967296 * mAt v n % 4294967296 = mAt f (n + 1) * mAt v n * k % 4294967296 := by
      rw [Nat.mod_mul_mod, Nat.mul_right_comm]
    rw [e, Nat.mod_mul_mod (valN f v n + mAt f (n + 1) * mAt v n % 4294967296), Nat.add_mul, Nat.add_mod (valN f v n * k), Nat.mod_mul_mod]
theorem sub_add {f g : List Nat} (hf : FOk f) (hg : FOk g) : addF (subF f g) g = f := by
  refine form_ext (addF_ok _ _).1 hf.1 fun i hi => ?_
  rw [addF, formOf_at hi, subF, formOf_at hi]
  have := hf.lt i
  have := hg.lt i
  omega
theorem add_sub {f g : List Nat} (hf : FOk f) (hg : FOk g) : subF (addF f g) g = f := by
  refine form_ext (subF_ok _ _).1 hf.1 fun i hi => ?_
  rw [subF, formOf_at hi, addF, formOf_at hi]
  have := hf.lt i
  have := hg.lt i
  omega
theorem eval_add (f g v : List Nat) : evalF (addF f g) v = (evalF f v + evalF g v) % 4294967296 := add_val 34 (by omega)
theorem eval_mul (f v : List Nat) (k : Nat) : evalF (mulF f k) v = evalF f v * k % 4294967296 := mul_val k 34 (by omega)
theorem eval_lt {f : List Nat} (hf : FOk f) (v : List Nat) : evalF f v < 4294967296 := valN_lt hf v 34
theorem eval_sub {f g : List Nat} (hf : FOk f) (hg : FOk g) (v : List Nat) : evalF (subF f g) v = (evalF f v + (4294967296 - evalF g v)) % 4294967296 := by
  have e := eval_add (subF f g) g v
  rw [sub_add hf hg] at e
  have := eval_lt hf v
  have := eval_lt hg v
  have := eval_lt (subF_ok f g) v
  omega
theorem add_comm' (f g : List Nat) : addF f g = addF g f := by
  refine form_ext (addF_ok _ _).1 (addF_ok _ _).1 fun i hi => ?_
  rw [addF, formOf_at hi, addF, formOf_at hi, Nat.add_comm]
theorem add_assoc' (f g h : List Nat) : addF (addF f g) h = addF f (addF g h) := by
  refine form_ext (addF_ok _ _).1 (addF_ok _ _).1 fun i hi => ?_
  simp only [addF, formOf_at hi]
  omega
theorem mul_zero' (f : List Nat) : mulF f 0 = constF 0 := by
  refine form_ext (mulF_ok _ _).1 (constF_ok (by omega)).1 fun i hi => ?_
  rw [mulF, formOf_at hi, constF, formOf_at hi]
  simp
theorem mul_one' {f : List Nat} (hf : FOk f) : mulF f 1 = f := by
  refine form_ext (mulF_ok _ _).1 hf.1 fun i hi => ?_
  rw [mulF, formOf_at hi, Nat.mul_one, Nat.mod_eq_of_lt (hf.lt i)]
theorem mul_add' (f g : List Nat) (k : Nat) : mulF (addF f g) k = addF (mulF f k) (mulF g k) := by
  refine form_ext (mulF_ok _ _).1 (addF_ok _ _).1 fun i hi => ?_
  simp only [mulF, addF, formOf_at hi]
  rw [Nat.mod_mul_mod, Nat.add_mul, ← Nat.add_mod]
theorem sum_add (f g : List Nat) : sumF f 1 g 1 = addF f g := by
  refine form_ext (sumF_ok _ _ _ _).1 (addF_ok _ _).1 fun i hi => ?_
  simp only [sumF, addF, formOf_at hi, Nat.mul_one]
theorem sum_sub {f g : List Nat} (hg : FOk g) : sumF f 1 g 4294967295 = subF f g := by
  refine form_ext (sumF_ok _ _ _ _).1 (subF_ok _ _).1 fun i hi => ?_
  simp only [sumF, subF, formOf_at hi, Nat.mul_one]
  have := hg.lt i
  omega
theorem sum_mul (f g : List Nat) (k : Nat) : sumF f k g 0 = mulF f k := by
  refine form_ext (sumF_ok _ _ _ _).1 (mulF_ok _ _).1 fun i hi => ?_
  simp only [sumF, mulF, formOf_at hi, Nat.mul_zero, Nat.add_zero]

/-! ### What tells two forms apart -/
theorem val_zeros {f : List Nat} (hf : FOk f) : ∀ n, valN f zeros n = mAt f 0
  | 0 => rfl
  | n + 1 => by
    simp only [valN]
    rw [val_zeros hf n, zeros_at]
    have := hf.lt 0
    simp
    omega
theorem val_one {f : List Nat} (hf : FOk f) {d : Nat} (hd : d < 34) : ∀ n, valN f (zeros.set d 1) n = if d < n then (mAt f 0 + mAt f (d + 1)) % 4294967296 else mAt f 0
  | 0 => rfl
  | n + 1 => by
    simp only [valN]
    rw [val_one hf hd n, mAt_set d 1 n (by simp [zeros]; exact hd), zeros_at]
    have h0 := hf.lt 0
    have h1 := hf.lt (d + 1)
    by_cases h : n = d
    · subst h
      rw [if_pos rfl, if_neg (by omega), if_pos (by omega)]
      omega
    · rw [if_neg h]
      by_cases h2 : d < n
      · rw [if_pos h2, if_pos (by omega)]
        omega
      · rw [if_neg h2, if_neg (by omega)]
        omega
theorem diff_lt {f g : List Nat} : ∀ n i, i + n = 34 → (∃ j, i ≤ j ∧ j < 34 ∧ ¬ mAt f (j + 1) = mAt g (j + 1)) → diffN f g i n < 34 ∧ ¬ mAt f (diffN f g i n + 1) = mAt g (diffN f g i n + 1)
  | 0, i, hi, ⟨j, h1, h2, _⟩ => by omega
  | n + 1, i, hi, ⟨j, h1, h2, h3⟩ => by
    unfold diffN
    by_cases h : mAt f (i + 1) = mAt g (i + 1)
    · rw [if_pos h]
      exact diff_lt n (i + 1) (by omega) ⟨j, by rcases Nat.lt_or_eq_of_le h1 with h4 | rfl; exact h4; exact absurd h h3, h2, h3⟩
    · rw [if_neg h]
      exact ⟨by omega, h⟩
theorem diff_is {f g : List Nat} (hf : FOk f) (hg : FOk g) (hne : ¬ f = g) (h0 : mAt f 0 = mAt g 0) : diffN f g 0 34 < 34 ∧ ¬ mAt f (diffN f g 0 34 + 1) = mAt g (diffN f g 0 34 + 1) := by
  refine diff_lt 34 0 rfl ?_
  refine Classical.byContradiction fun hn => hne (form_ext hf.1 hg.1 fun i hi => ?_)
  match i with
  | 0 => exact h0
  | j + 1 => exact Classical.byContradiction fun h => hn ⟨j, by omega, by omega, h⟩
theorem diff_least {f g : List Nat} : ∀ n i, i + n = 34 → ∀ j, i ≤ j → j < diffN f g i n → mAt f (j + 1) = mAt g (j + 1)
  | 0, i, hi, j, h1, h2 => by simp only [diffN] at h2; exact absurd h2 (by omega)
  | n + 1, i, hi, j, h1, h2 => by
    unfold diffN at h2
    by_cases h : mAt f (i + 1) = mAt g (i + 1)
    · rw [if_pos h] at h2
      rcases Nat.lt_or_eq_of_le h1 with h4 | rfl
      · exact diff_least n (i + 1) (by omega) j h4 h2
      · exact h
    · rw [if_neg h] at h2
      omega
theorem apart_snd (f g : List Nat) : (apartF f g).2 = !decide (f = g) := by
  unfold apartF
  split
  · rename_i h; simp [h]
  · rename_i h; split <;> simp [h]
/-- What tells two forms apart does. -/
theorem apart_tells {f g : List Nat} (hf : FOk f) (hg : FOk g) (hne : ¬ f = g) : ¬ evalF f (apartF f g).1 = evalF g (apartF f g).1 := by
  unfold apartF evalF
  rw [if_neg hne]
  by_cases h0 : mAt f 0 = mAt g 0
  · rw [if_pos h0]
    obtain ⟨hd, hx⟩ := diff_is hf hg hne h0
    simp only [val_one hf hd, val_one hg hd, if_pos hd]
    have := hf.lt (diffN f g 0 34 + 1)
    have := hg.lt (diffN f g 0 34 + 1)
    have := hf.lt 0
    omega
  · rw [if_neg h0]
    simp only [val_zeros hf, val_zeros hg]
    exact h0

/-! ### Numbers and variables -/
theorem var_inj {i j : Nat} (hi : i < 34) (h : varF i = varF j) : i = j := by
  have e : mAt (varF i) (i + 1) = mAt (varF j) (i + 1) := by rw [h]
  rw [varF, varF, formOf_at (by omega), formOf_at (by omega), if_pos rfl] at e
  split at e
  · omega
  · omega
theorem sing_is {f : List Nat} : ∀ n i, i + n = 34 → ∀ m, singN f i n = some m → m < 34 ∧ f = varF m
  | 0, i, hi, m, h => by simp [singN] at h
  | n + 1, i, hi, m, h => by
    unfold singN at h
    split at h
    · rename_i hv
      obtain rfl := Option.some.inj h
      exact ⟨by omega, hv⟩
    · exact sing_is n (i + 1) (by omega) m h
theorem sing_none {f : List Nat} : ∀ n i, i + n = 34 → singN f i n = none → ∀ m, i ≤ m → m < 34 → ¬ f = varF m
  | 0, i, hi, _, m, h1, h2 => by omega
  | n + 1, i, hi, h, m, h1, h2 => by
    unfold singN at h
    split at h
    · exact absurd h (by simp)
    · rename_i hv
      rcases Nat.lt_or_eq_of_le h1 with h3 | rfl
      · exact sing_none n (i + 1) (by omega) h m h3 h2
      · exact hv
theorem single_some {f : List Nat} {m : Nat} (hm : m < 34) (h : f = varF m) : singleF f = some m := by
  cases e : singleF f with
  | none => exact absurd h (sing_none 34 0 rfl e m (by omega) hm)
  | some k =>
    obtain ⟨hk, h2⟩ := sing_is 34 0 rfl k e
    rw [var_inj hk (h2 ▸ h)]
theorem single_none {f : List Nat} (h : ∀ m, m < 34 → ¬ f = varF m) : singleF f = none := by
  cases e : singleF f with
  | none => rfl
  | some k =>
    obtain ⟨hk, h2⟩ := sing_is 34 0 rfl k e
    exact absurd h2 (h k hk)
end Go.Proofs.Ytkfhmcpdodnbhaa
/-
  Forms and assignments in a world: whole loads and stores, one number's store; rows of numbers; what == answers; forms as arguments.
-/
namespace Go.Proofs.Ytkfhmcpdodnbhaa
open Go.ChangeShapes Go.WideShapes Go.ChangeAt Go.RowKit
set_option maxRecDepth 100000

abbrev formV (f : List Nat) : Value := .agg (numsC f)
abbrev formB (f : List Nat) : Obj := .cells (numsC f) 25
abbrev rowB (v : List Nat) : Obj := .cells (numsC v) 23
theorem infoF : (Try.prog.info? 25).map (·.size) = some 35 := by kernel_rfl
theorem infoV : (Try.prog.info? 23).map (·.size) = some 34 := by kernel_rfl
theorem infoN : (Try.prog.info? 22).map (fun i => (i.zero, i.size, i.bytes)) = some (some (.int .u32 0), 1, 4) := by kernel_rfl
section
variable {ops : Array Oper} {rest : List Oper} {o : Oper} {a : Act} {w : World} {Q : Exit → Act → World → Prop}
/-- A whole form is read. -/
theorem ld_form {g : Nat} {f : List Nat} {x : Operand} (hG : w.heap[g]? = some (formB f)) (hf : f.length = 35) (hgd : o.guard = none) (ho : o.op = .load 25 x) (hx : a.eval x = .pointer (some ⟨g, 0, none⟩))
    (h : wpList Try.prog ops Q rest (a.put o.dst (formV f)) w) : wpList Try.prog ops Q (o :: rest) a w :=
  wpList_load_row hgd 25 x ho g hx 25 (numsC f) (0, 0) _ hG Try.underlying25 rfl (by rw [numsC_size, hf]; exact infoF) h
/-- A whole form is written. -/
theorem st_form {g : Nat} {f : List Nat} {old : Array Value} {x y : Operand} (hG : w.heap[g]? = some (.cells old 25)) (hold : old.size = 35) (hf : f.length = 35) (hgd : o.guard = none) (ho : o.op = .store 25 x y) (hx : a.eval x = .pointer (some ⟨g, 0, none⟩)) (hy : a.eval y = formV f)
    (h : ∀ w', RowPut w w' g (formB f) → wpList Try.prog ops Q rest (a.put o.dst undef) w') : wpList Try.prog ops Q (o :: rest) a w :=
  wpList_store_row hgd 25 x y ho g (numsC f) hx hy 25 old hG (by rw [numsC_size, hf]; exact infoF) (by rw [numsC_size, hf]; exact hold) (numsC_one f) (h _ (rowPut_set hG _))
/-- A whole assignment is written. -/
theorem st_row {g : Nat} {v : List Nat} {old : Array Value} {x y : Operand} (hG : w.heap[g]? = some (.cells old 23)) (hold : old.size = 34) (hv : v.length = 34) (hgd : o.guard = none) (ho : o.op = .store 23 x y) (hx : a.eval x = .pointer (some ⟨g, 0, none⟩)) (hy : a.eval y = formV v)
    (h : ∀ w', RowPut w w' g (rowB v) → wpList Try.prog ops Q rest (a.put o.dst undef) w') : wpList Try.prog ops Q (o :: rest) a w :=
  wpList_store_row hgd 23 x y ho g (numsC v) hx hy 23 old hG (by rw [numsC_size, hv]; exact infoV) (by rw [numsC_size, hv]; exact hold) (numsC_one v) (h _ (rowPut_set hG _))
/-- One number of a row is written. -/
theorem st_num {g i n : Nat} {l : List Nat} {t : TypeId} {x y : Operand} (hG : w.heap[g]? = some (.cells (numsC l) t)) (hi : i < l.length) (hgd : o.guard = none) (ho : o.op = .store 22 x y) (hx : a.eval x = .pointer (some ⟨g, i, none⟩)) (hy : a.eval y = .int .u32 (n : Int))
    (h : ∀ w', RowPut w w' g (.cells (numsC (l.set i n)) t) → wpList Try.prog ops Q rest (a.put o.dst undef) w') : wpList Try.prog ops Q (o :: rest) a w := by
  have hu : w.cell? ⟨g, i, none⟩ = some (.int .u32 (mAt l i : Nat)) := by rw [cell_in hG, numsC_at hi]
  have hf : w.frozen? ⟨g, i, none⟩ = false := free_in hG i
  have hsc : w.setCell ⟨g, i, none⟩ (.int .u32 (n : Int)) = w.setRow g (numsC (l.set i n)) := by rw [setCell_eq_setRow w g i _ _ _ _ hG, numsC_set]
  have hk := h _ (rowPut_set hG (numsC (l.set i n)))
  rw [← hsc] at hk
  refine wpList_plain hgd fun K hK => ?_
  unfold Oper.wp execOp
  have hz : (sizeOf 22).run Try.prog w = .ok 1 w := by kernel_rfl
  simp [ho, hx, hy, Instr.storeAt, Instr.sureAddr, Sem.run_bind, storeVar, hz, Value.cells, storeCells, Result.andThen]
  have hadd : (⟨g, i, none⟩ : Addr).add 0 = ⟨g, i, none⟩ := by unfold Addr.add; split <;> simp_all
  rw [hadd, run_store _ _ _ _ _ rfl, hu]
  simp only [hf, Bool.false_eq_true, if_false]
  exact hK _ _ hk
end
/-- A result that is a form in a cell. -/
theorem results_form {fn : Func} {p : Tmp} (h : fn.results = #[.cell p 25]) {tmps : Array Value} {w : World} {g : Nat} {f : List Nat} (hf : f.length = 35)
    (hp : tmps.getD p undef = .pointer (some ⟨g, 0, none⟩)) (hG : w.heap[g]? = some (formB f)) : (results fn tmps).run Try.prog w = .ok (formV f) w :=
  results_cell_row h tmps w g 25 (numsC f) (0, 0) _ hp hG Try.underlying25 rfl (by rw [numsC_size, hf]; exact infoF)
theorem zform : (#[.int .u32 0, .int .u32 0, .int .u32 0, .int .u32 0, .int .u32 0, .int .u32 0, .int .u32 0, .int .u32 0, .int .u32 0, .int .u32 0, .int .u32 0, .int .u32 0, .int .u32 0, .int .u32 0, .int .u32 0, .int .u32 0, .int .u32 0, .int .u32 0, .int .u32 0, .int .u32 0, .int .u32 0, .int .u32 0, .int .u32 0, .int .u32 0, .int .u32 0, .int .u32 0, .int .u32 0, .int .u32 0, .int .u32 0, .int .u32 0, .int .u32 0, .int .u32 0, .int .u32 0, .int .u32 0, .int .u32 0] : Array Value) = numsC (constF 0) := rfl
theorem zrow : (#[.int .u32 0, .int .u32 0, .int .u32 0, .int .u32 0, .int .u32 0, .int .u32 0, .int .u32 0, .int .u32 0, .int .u32 0, .int .u32 0, .int .u32 0, .int .u32 0, .int .u32 0, .int .u32 0, .int .u32 0, .int .u32 0, .int .u32 0, .int .u32 0, .int .u32 0, .int .u32 0, .int .u32 0, .int .u32 0, .int .u32 0, .int .u32 0, .int .u32 0, .int .u32 0, .int .u32 0, .int .u32 0, .int .u32 0, .int .u32 0, .int .u32 0, .int .u32 0, .int .u32 0, .int .u32 0] : Array Value) = numsC zeros := rfl

/-! ### Rows of numbers; the document's forms -/
/-- A slice of n numbers that lies in a world. -/
def UAt (w : World) (u : Value) (n : Nat) (A : Nat → Nat) : Prop :=
  ∃ b o cap, u = .slice (some ⟨b, o, none⟩) n cap ∧ b < w.heap.size ∧ ∀ i, i < n → w.cell? ⟨b, o + i, none⟩ = some (.int .u32 (A i : Nat))
theorem UAt.below {w w' : World} {u : Value} {n : Nat} {A : Nat → Nat} (h : UAt w u n A) (hb : Below w.heap.size w w') : UAt w' u n A := by
  obtain ⟨b, o, cap, rfl, hl, hc⟩ := h
  exact ⟨b, o, cap, rfl, Nat.lt_of_lt_of_le hl hb.size, fun i hi => (hb.cell (p := ⟨b, _, none⟩) hl).trans (hc i hi)⟩
theorem UAt.congr {w : World} {u : Value} {n : Nat} {A B : Nat → Nat} (h : UAt w u n A) (e : ∀ i, i < n → A i = B i) : UAt w u n B := by
  obtain ⟨b, o, cap, rfl, hl, hc⟩ := h
  exact ⟨b, o, cap, rfl, hl, fun i hi => by rw [hc i hi, e i hi]⟩
theorem UAt.own {w : World} {base : Nat} {e : TypeId} {v : Value} {n : Nat} {A : Nat → Nat} (h : w.ownsRow base e 1 v n (ucells (segA A n))) (hn : 0 < n) : UAt w v n A := by
  obtain ⟨g, c, rfl, _, hl, _, hc⟩ := own_cells h hn
  refine ⟨g, 0, c, rfl, hl, fun i hi => ?_⟩
  rw [Nat.zero_add]
  refine hc i _ ?_
  simp [ucells, segA, hi]
/-- A form of the document's, as it lies in a world. -/
def RF (w : World) (v : Value) (f : List Nat) : Prop := ∃ u, v = .agg #[.int .u32 (mAt f 0 : Nat), u] ∧ UAt w u 34 fun i => mAt f (i + 1)
theorem RF.below {w w' : World} {v : Value} {f : List Nat} (h : RF w v f) (hb : Below w.heap.size w w') : RF w' v f := by
  obtain ⟨u, rfl, hu⟩ := h
  exact ⟨u, rfl, hu.below hb⟩
theorem RF.congr {w : World} {v : Value} {f g : List Nat} (h : RF w v f) (e : ∀ i, i < 35 → mAt f i = mAt g i) : RF w v g := by
  obtain ⟨u, rfl, hu⟩ := h
  exact ⟨u, by rw [e 0 (by omega)], hu.congr fun i hi => e (i + 1) (by omega)⟩

/-! ### What == answers -/
theorem keyF : Try.prog.keyTypeAt 5 25 = true := by kernel_rfl
theorem cellsF : Try.prog.cellsOf 25 = 35 := by kernel_rfl
theorem cellsV : Try.prog.cellsOf 23 = 34 := by kernel_rfl
theorem cellsN : Try.prog.cellsOf 22 = 1 := by kernel_rfl
def litsF (l : List Nat) : List Lit := l.map fun (n : Nat) => Lit.int .u32 (n : Int)
theorem take_one {α : Type} {l : List α} {i : Nat} (h : i < l.length) : List.take 1 (List.drop i l) = [l[i]] := by
  rw [List.drop_eq_getElem_cons h]
  rfl
theorem litsF_inj : ∀ {l l' : List Nat}, litsF l = litsF l' → l = l'
  | [], [], _ => rfl
  | [], _ :: _, h => by simp [litsF] at h
  | _ :: _, [], h => by simp [litsF] at h
  | a :: l, b :: l', h => by
    simp only [litsF, List.map_cons, List.cons.injEq, Lit.int.injEq, true_and] at h
    rw [litsF_inj (l := l) (l' := l') h.2, Int.ofNat_inj.1 h.1]
theorem mapM_some {α β : Type} {F : α → Option β} {G : α → β} : ∀ l : List α, (∀ x ∈ l, F x = some (G x)) → l.mapM F = some (l.map G)
  | [], _ => rfl
  | a :: l, h => by
    rw [List.mapM_cons, h a (List.mem_cons_self ..), mapM_some l fun x hx => h x (List.mem_cons_of_mem _ hx)]
    rfl
theorem one_wf {n : Nat} (h : n < 4294967296) : (Lit.int .u32 (n : Int)).wf = true := by
  simp [Lit.wf, IntKind.min, IntKind.max, IntKind.signed, IntKind.bits]
  omega
theorem keyN (k : Nat) {n : Nat} (h : n < 4294967296) : Try.prog.keyLits (k + 1) 22 [.int .u32 n] = some [.int .u32 n] := by
  simp only [Program.keyLits, Try.underlying22, one_wf h, and_self, if_true]
theorem keyV (k : Nat) {l : List Nat} (h : VOk l) : Try.prog.keyLits (k + 2) 23 (ucells l) = some (litsF l) := by
  unfold Program.keyLits
  rw [Try.underlying23]
  simp only [cellsV, cellsN, ucells_len, h.1, if_true, Nat.mul_one]
  rw [mapM_some (G := fun i => [Lit.int .u32 (mAt l i : Nat)]) (List.range 34) (fun i hi => by
    have hi := List.mem_range.1 hi
    have e : List.take 1 (List.drop i (ucells l)) = [Value.int .u32 (mAt l i : Nat)] := by
      rw [take_one (by rw [ucells_len, h.1]; exact hi)]
      simp [ucells, mAt_get (show i < l.length by rw [h.1]; exact hi)]
    rw [e, keyN k (h.lt i)])]
  rw [Option.map_some, ← h.1]
  congr 1
  have e : ∀ l : List Nat, ((List.range l.length).map fun i => mAt l i) = l := fun l => List.ext_getElem (by simp) fun i h1 h2 => by simp [mAt_get h2]
  have e2 : ∀ m : List Nat, (m.map fun i => [Lit.int .u32 (mAt l i : Nat)]).flatten = m.map fun i => Lit.int .u32 (mAt l i : Nat) := fun m => by induction m with
    | nil => rfl
    | cons a m ih => simp [ih]
  rw [e2]
  conv => rhs; rw [← e l]
  simp [litsF]
theorem keyFm {f : List Nat} (h : FOk f) : Try.prog.keyLits 8 25 (formV f).cells.toList = some (litsF f) := by
  obtain ⟨hl, hx⟩ := h
  match f, hl with
  | c :: l, hl =>
    have hl : l.length = 34 := by simpa using hl
    have hv : VOk l := ⟨hl, fun n hn => hx n (List.mem_cons_of_mem _ hn)⟩
    show Try.prog.keyLits 8 25 (.int .u32 c :: ucells l) = _
    unfold Program.keyLits
    rw [Try.underlying25]
    have e : List.take 34 (ucells l) = ucells l := List.take_of_length_le (by rw [ucells_len, hl]; omega)
    simp [cellsF, cellsV, cellsN, ucells_len, hl, keyN 6 (hx c (List.mem_cons_self ..)), e, keyV 5 hv, litsF]
theorem eqIn_form {f g : List Nat} (hf : FOk f) (hg : FOk g) (w : World) : (Op.equalIn 10000 25 (formV f) (formV g)).run Try.prog w = .ok (decide (f = g)) w := by
  obtain ⟨r, hr, hiff⟩ := run_equalIn_deep (P := Try.prog) 9995 5 25 keyF w 8 8 (formV f) (formV g) (litsF f) (litsF g) (by simp [Value.formed, numsC_size, hf.1, cellsF]) (by simp [Value.formed, numsC_size, hg.1, cellsF]) (keyFm hf) (keyFm hg)
  rw [hr]
  congr 1
  apply Bool.eq_iff_iff.2
  rw [hiff, decide_eq_true_iff]
  exact ⟨litsF_inj, fun h => by rw [h]⟩

/-! ### Arguments -/
section
variable {H : Type} {enc : TypeId × Value → H} {W : World} {base : Nat} {v : Value} {d : DataW H} {p : List MemPlace}
theorem onec {n : Nat} {c : Value} {y : DataW H × List MemPlace} (h : DataW.trod enc Try.prog W 0 (fun _ => true) true n 22 [c] = some y) : ∃ k : Nat, c = .int .u32 k ∧ k < 4294967296 := by
  obtain ⟨z, e, _, w⟩ := DataW.trod_int Try.underlying22 h
  simp only [List.cons.injEq, and_true] at e
  have b := bounds_u32 w
  refine ⟨z.toNat, ?_, by omega⟩
  rw [e]
  congr 1
  omega
theorem row_of {fuel : Nat} {cs : List Value} {x : DataW H × List MemPlace} (h : DataW.trod enc Try.prog W 0 (fun _ => true) true fuel 23 cs = some x) : ∃ l, cs = ucells l ∧ VOk l := by
  obtain ⟨xs, m, _, _, hcs, hxl, hxx⟩ := DataW.trod_array Try.underlying23 h
  rw [cellsV] at hcs
  rw [cellsN] at hxx
  obtain ⟨l, hl, hq⟩ := pick_list (Q := fun i (k : Nat) => cs[i]? = some (.int .u32 k) ∧ k < 4294967296) 34 fun i hi => by
    have h1 := hxx i hi
    rw [List.getElem?_eq_getElem (by omega), Nat.mul_one, take_one (by omega)] at h1
    obtain ⟨k, hk, hb⟩ := onec h1
    exact ⟨k, by rw [List.getElem?_eq_getElem (by omega), hk], hb⟩
  refine ⟨l, List.ext_getElem? fun i => ?_, hl, fun n hn => ?_⟩
  · by_cases hi : i < 34
    · rw [(hq i (by omega)).1]
      simp [ucells, hl, hi]
    · rw [List.getElem?_eq_none (by omega), List.getElem?_eq_none (by rw [ucells_len]; omega)]
  · obtain ⟨i, hi, rfl⟩ := List.getElem_of_mem hn
    exact (hq i hi).2
theorem open_asg (hval : Value.okWide Try.prog W .any base 23 v) (h : DataW.Trod enc Try.prog W 0 (fun _ => true) true 23 v d p) : ∃ l, v = formV l ∧ VOk l := by
  simp only [Value.okWide, Try.underlying23] at hval
  obtain ⟨cs, rfl, _, _⟩ := hval
  obtain ⟨fuel, hf⟩ := h
  obtain ⟨l, hl, hv⟩ := row_of (cs := cs.toList) hf
  refine ⟨l, ?_, hv⟩
  show Value.agg cs = .agg (ucells l).toArray
  rw [← hl]
theorem open_form (hval : Value.okWide Try.prog W .any base 25 v) (h : DataW.Trod enc Try.prog W 0 (fun _ => true) true 25 v d p) : ∃ f, v = formV f ∧ FOk f := by
  obtain ⟨cs, rfl, hsz⟩ := okWide_struct Try.underlying25 hval
  rw [cellsF] at hsz
  obtain ⟨fuel, hf⟩ := h
  obtain ⟨ys, n, _, _, _, hyl, hff⟩ := DataW.trod_struct Try.underlying25 hf
  have hlen : cs.toList.length = 35 := by simpa using hsz
  have hy2 : ys.length = 2 := hyl
  match hcs : cs.toList, hlen, ys, hy2 with
  | c :: t, hl, [y0, y1], _ =>
    have h0 := hff 0 _ rfl
    have h1 := hff 1 _ rfl
    change DataW.trod enc Try.prog W 0 (fun _ => true) true n 22 (List.take (Try.prog.cellsOf 22) (List.drop 0 cs.toList)) = some y0 at h0
    change DataW.trod enc Try.prog W 0 (fun _ => true) true n 23 (List.take (Try.prog.cellsOf 23) (List.drop 1 cs.toList)) = some y1 at h1
    rw [hcs] at h0 h1
    simp only [cellsN, cellsV, List.drop_zero, List.drop_succ_cons, List.take_succ_cons, List.take_zero] at h0 h1
    rw [List.take_of_length_le (by simp at hl; omega)] at h1
    obtain ⟨k, rfl, hk⟩ := onec h0
    obtain ⟨l, hl2, hv⟩ := row_of h1
    refine ⟨k :: l, ?_, by simp [hv.1], fun z hz => ?_⟩
    · have e : cs = (Value.int .u32 (k : Int) :: ucells l).toArray := by
        rw [← hl2, ← hcs]
      rw [e]
      rfl
    · rcases List.mem_cons.1 hz with rfl | hz
      · exact hk
      · exact hv.2 z hz
end
end Go.Proofs.Ytkfhmcpdodnbhaa
/-
  Package hurdleref14: the document's forms.
-/
namespace Go.Proofs.Ytkfhmcpdodnbhaa
open Go.ChangeShapes Go.WideShapes Go.ChangeAt Go.RowKit
set_option maxRecDepth 100000

/-- A variable that is a form of the document's. -/
abbrev rfB (c : Nat) (u : Value) : Obj := .cells #[.int .u32 (c : Int), u] 32
theorem infoR : (Try.prog.info? 32).map (·.size) = some 2 := by kernel_rfl
section
variable {ops : Array Oper} {rest : List Oper} {o : Oper} {a : Act} {w : World} {Q : Exit → Act → World → Prop}
theorem ld_rf {g c : Nat} {u : Value} {x : Operand} (hG : w.heap[g]? = some (rfB c u)) (hgd : o.guard = none) (ho : o.op = .load 32 x) (hx : a.eval x = .pointer (some ⟨g, 0, none⟩))
    (h : wpList Try.prog ops Q rest (a.put o.dst (.agg #[.int .u32 (c : Int), u])) w) : wpList Try.prog ops Q (o :: rest) a w :=
  wpList_load_row hgd 32 x ho g hx 32 #[.int .u32 (c : Int), u] (0, 0) _ hG Try.underlying32 rfl infoR h
theorem st_rf {g c : Nat} {u : Value} {old : Array Value} {x y : Operand} (hG : w.heap[g]? = some (.cells old 32)) (hold : old.size = 2) (hu : u.oneCell' = true) (hgd : o.guard = none) (ho : o.op = .store 32 x y) (hx : a.eval x = .pointer (some ⟨g, 0, none⟩)) (hy : a.eval y = .agg #[.int .u32 (c : Int), u])
    (h : ∀ w', RowPut w w' g (rfB c u) → wpList Try.prog ops Q rest (a.put o.dst undef) w') : wpList Try.prog ops Q (o :: rest) a w :=
  wpList_store_row hgd 32 x y ho g #[.int .u32 (c : Int), u] hx hy 32 old hG infoR hold (by have e : (Value.int .u32 (c : Int)).oneCell' = true := rfl; simp [e, hu]) (h _ (rowPut_set hG _))
end
theorem results_rf {fn : Func} {p : Tmp} (h : fn.results = #[.cell p 32]) {tmps : Array Value} {w : World} {g c : Nat} {u : Value}
    (hp : tmps.getD p undef = .pointer (some ⟨g, 0, none⟩)) (hG : w.heap[g]? = some (rfB c u)) : (results fn tmps).run Try.prog w = .ok (.agg #[.int .u32 (c : Int), u]) w :=
  results_cell_row h tmps w g 32 #[.int .u32 (c : Int), u] (0, 0) _ hp hG Try.underlying32 rfl infoR
theorem mk34 (W : World) : (Instr.makeSlice 30 (.int .i64 34) (.int .i64 34)).run Try.prog W = .ok (.slice (some ⟨W.heap.size, 0, none⟩) 34 34) (W.alloc (.cells (numsC zeros) 22)) := by
  have h := run_make_row' (P := Try.prog) 30 22 (.int .u32 0) 4 Try.underlying30 infoN rfl .i64 .i64 34 (by omega) (by omega) W
  have e : madeCells #[Value.int .u32 0] 34 = numsC zeros := Array.toList_inj.1 (by rw [toList_madeCells_one]; rfl)
  rw [e] at h
  exact h
theorem UAt.block {w : World} {g n cap : Nat} {l : List Nat} {t : TypeId} {fr : Nat × Nat} {A : Nat → Nat} (h : w.heap[g]? = some (.cells (numsC l) t fr)) (hn : l.length = n) (hA : ∀ i, i < n → mAt l i = A i) : UAt w (.slice (some ⟨g, 0, none⟩) n cap) n A :=
  ⟨g, 0, cap, rfl, lt_of_block h, fun i hi => by rw [Nat.zero_add, cell_in h, numsC_at (by omega), hA i hi]⟩
theorem rnew_at (c : Nat) (w : World) :
    Calls Try.prog 18 #[.int .u32 c] w fun e w' => ∃ g, e = .returned (.agg #[.int .u32 c, .slice (some ⟨g, 0, none⟩) 34 34]) ∧ w.heap.size ≤ g ∧ w'.heap[g]? = some (.cells (numsC zeros) 22) ∧ Below w.heap.size w w' := by
  have hmk := mk34
  obtain ⟨W, hW, h0, h1, hb⟩ := box2 w (.cells #[.int .u32 0, .slice none 0 0] 32) (.cells (numsC zeros) 22)
  have HX := Lib.hid h0
  have HR := Lib.hid h1
  have HB := Lib.hid hb
  obtain ⟨Q, hQ⟩ : ∃ Q, Q = bodyPost Try.prog Try.f18 (fun e w' => ∃ g, e = .returned (.agg #[.int .u32 c, .slice (some ⟨g, 0, none⟩) 34 34]) ∧ w.heap.size ≤ g ∧ w'.heap[g]? = some (.cells (numsC zeros) 22) ∧ Below w.heap.size w w') := ⟨_, rfl⟩
  have HQ0 := Lib.hid hQ
  go_enter Try.func18, Try.ntmps18
  rw [← hQ]
  clear hQ h0 h1 hb
  go_wp2_with (rw [← hW]; refine st_rf HX.out rfl rfl rfl rfl rfl rfl ?_; intro W2 hp2; have HP2 := Lib.hid hp2; clear hp2)
  (try simp only [Exit.inBlock, Exit.then])
  rw [HQ0.out]
  exact bodyPost_ret (results_rf rfl rfl HP2.out.row) rfl ⟨_, rfl, Nat.le_succ _, HP2.out.keep (by omega) HR.out, HP2.out.below HB.out (Nat.le_refl _)⟩
theorem rvar_any (n : Nat) (hn : n < 34) (w : World) :
    Calls Try.prog 12 #[.int .i64 n] w fun e w' => ∃ v, e = .returned v ∧ RF w' v (varF n) ∧ Below w.heap.size w w' := by
  have hx := heap_alloc_new w (.cells #[.int .u32 0, .slice none 0 0] 32)
  have HX := Lib.hid hx
  have HB := Lib.hid (ba (.cells #[.int .u32 0, .slice none 0 0] 32) (Below.refl w.heap.size w))
  obtain ⟨Q, hQ⟩ : ∃ Q, Q = bodyPost Try.prog Try.f12 (fun e w' => ∃ v, e = .returned v ∧ RF w' v (varF n) ∧ Below w.heap.size w w') := ⟨_, rfl⟩
  have HQ0 := Lib.hid hQ
  go_enter Try.func12, Try.ntmps12
  rw [← hQ]
  clear hQ hx
  go_wp2_with fail
  refine (rnew_at 0 _).mono ?_
  rintro e w1 ⟨g, rfl, hg, hG, hb⟩
  have hs1 : w.heap.size < w1.heap.size := lt_of_block (kb hb HX.out)
  have hgl := lt_of_block hG
  rw [size_alloc] at hg
  have HX1 := Lib.hid (ka (rfB 0 (.slice (some ⟨g, 0, none⟩) 34 34)) (kb hb HX.out))
  have HG1 := Lib.hid (ka (rfB 0 (.slice (some ⟨g, 0, none⟩) 34 34)) hG)
  have HY1 := Lib.hid (heap_alloc_new w1 (rfB 0 (.slice (some ⟨g, 0, none⟩) 34 34)))
  have HB1 := Lib.hid (ba (rfB 0 (.slice (some ⟨g, 0, none⟩) 34 34)) (below2 HB.out hb))
  clear hb hG
  go_wp2_with (first
    | (refine st_num (n := 1) HG1.out (by simp [zeros]; exact hn) rfl rfl rfl rfl ?_; intro W2 hp2; have HP2 := Lib.hid hp2; clear hp2)
    | (refine ld_rf (HP2.out.keep (by omega) HY1.out) rfl rfl rfl ?_)
    | (refine st_rf (HP2.out.keep (by omega) HX1.out) rfl rfl rfl rfl rfl rfl ?_; intro W3 hp3; have HP3 := Lib.hid hp3; clear hp3))
  (try simp only [Exit.inBlock, Exit.then])
  rw [HQ0.out]
  have hR := HP3.out.keep (by omega) HP2.out.row
  refine bodyPost_ret (results_rf rfl rfl HP3.out.row) rfl ⟨_, rfl, ⟨_, by rw [varF, formOf_at (by omega)]; rfl, UAt.block hR (by simp [zeros]) fun i hi => ?_⟩, HP3.out.below (HP2.out.below HB1.out (by omega)) (Nat.le_refl _)⟩
  rw [mAt_set n 1 i (by simp [zeros]; exact hn), zeros_at, varF, formOf_at (by omega)]
  by_cases h : i = n
  · rw [if_pos h, if_pos (by omega)]
  · rw [if_neg h, if_neg (by omega)]
theorem rnew_any (c : Nat) (w : World) :
    Calls Try.prog 18 #[.int .u32 c] w fun e w' => ∃ v, e = .returned v ∧ RF w' v (constF c) ∧ Below w.heap.size w w' :=
  (rnew_at c w).mono fun e w' ⟨g, he, _, hG, hb⟩ => ⟨_, he, ⟨_, by rw [constF, formOf_at (by omega)]; rfl, UAt.block hG (by simp [zeros]) fun i hi => by rw [zeros_at, constF, formOf_at (by omega)]; rfl⟩, hb⟩
/-- What lies in a form's variable, in each later world. -/
theorem rf_cells {w W : World} {F c b o cap : Nat} {A : Nat → Nat} (hF : W.heap[F]? = some (rfB c (.slice (some ⟨b, o, none⟩) 34 cap))) (hb : b < w.heap.size) (hc : ∀ i, i < 34 → w.cell? ⟨b, o + i, none⟩ = some (.int .u32 (A i : Nat))) (hB : Below w.heap.size w W) :
    ∀ wr, Below W.heap.size W wr → wr.cell? ⟨F, 0, none⟩ = some (.int .u32 (c : Int)) ∧ wr.cell? ⟨F, 1, none⟩ = some (.slice (some ⟨b, o, none⟩) 34 cap) ∧ ∀ i, i < 34 → wr.cell? ⟨b, o + i, none⟩ = some (.int .u32 (A i : Nat)) := fun _ h =>
  ⟨(cell_in (kb h hF) 0).trans rfl, (cell_in (kb h hF) 1).trans rfl, fun i hi => ((h.cell (p := ⟨b, o + i, none⟩) (Nat.lt_of_lt_of_le hb hB.size)).trans (hB.cell (p := ⟨b, o + i, none⟩) hb)).trans (hc i hi)⟩
theorem rsame_any (v1 v2 : Value) (f g : List Nat) (w : World) (h1 : RF w v1 f) (h2 : RF w v2 g) (hf : f.length = 35) (hg : g.length = 35) :
    Calls Try.prog 10 #[v1, v2] w fun e w' => e = .returned (.bool (decide (f = g))) ∧ Below w.heap.size w w' := by
  obtain ⟨_, rfl, b1, o1, cap1, rfl, hl1, hc1⟩ := h1
  obtain ⟨_, rfl, b2, o2, cap2, rfl, hl2, hc2⟩ := h2
  obtain ⟨W, hW, h0, h1, hb⟩ := box2 w (rfB (mAt f 0) (.slice (some ⟨b1, o1, none⟩) 34 cap1)) (rfB (mAt g 0) (.slice (some ⟨b2, o2, none⟩) 34 cap2))
  have HC1 := Lib.hid (rf_cells h0 hl1 hc1 hb)
  have HC2 := Lib.hid (rf_cells h1 hl2 hc2 hb)
  have HB := Lib.hid hb
  clear hl1 hc1 hl2 hc2 h0 h1 hb
  go_enter Try.func10, Try.ntmps10
  go_upto_region 1 with fail
  rw [← hW]
  clear hW
  go_wp2_with fail
  go_loopw [5] (fun i wr => ∃ k : Nat, k ≤ 34 ∧ i = .int .i64 k ∧ (∀ j, j < k → mAt f (j + 1) = mAt g (j + 1)) ∧ Below W.heap.size W wr) (fun i _ => 34 - (intOf i).toNat)
  case atStart => exact ⟨0, by omega, rfl, fun j hj => by omega, Below.refl _ _⟩
  case round =>
    obtain ⟨k, hk, rfl, hA, hB⟩ := hrel
    have HA := Lib.hid hA
    have HBr := Lib.hid hB
    obtain ⟨x0, x1, x2⟩ := HC1.out wr hB
    obtain ⟨y0, y1, y2⟩ := HC2.out wr hB
    clear hA hB
    by_cases hlt : k < 34
    · have x3 := x2 k hlt
      have y3 := y2 k hlt
      obtain ⟨X, hX⟩ : ∃ X, X = mAt f (k + 1) := ⟨_, rfl⟩
      obtain ⟨Y, hY⟩ : ∃ Y, Y = mAt g (k + 1) := ⟨_, rfl⟩
      rw [← hX] at x3
      rw [← hY] at y3
      have HX := Lib.hid hX
      have HY := Lib.hid hY
      clear x0 x2 y0 y2 hX hY
      by_cases hxy : X = Y
      · have e1 : ((X : Int) == (Y : Int)) = true := by simp [hxy]
        have HXY := Lib.hid hxy
        clear hxy
        go_wp2_with (go_quiet (fail))
        go_roundw
        case rel => exact ⟨k + 1, by omega, by go_num, fun j hj => by
          rcases Nat.lt_or_eq_of_le (Nat.le_of_lt_succ hj) with h | rfl
          · exact HA.out j h
          · rw [← HX.out, ← HY.out, HXY.out], bdN HBr.out _⟩
        case measure => simp [intOf]; omega
      · have e1 : ((X : Int) == (Y : Int)) = false := by simp; omega
        have HXY := Lib.hid hxy
        clear hxy
        go_wp2_with (go_quiet (fail))
        go_ret
        refine ⟨retB (decide_eq_false fun h => HXY.out (by rw [HX.out, HY.out, h])), below2 HB.out (bdN HBr.out _)⟩
    · obtain rfl : k = 34 := by omega
      clear x1 x2 y1 y2
      go_wp2_with fail
      go_ret
      refine ⟨ret1 ?_, below2 HB.out HBr.out⟩
      apply Bool.eq_iff_iff.2
      rw [decide_eq_true_iff, beq_iff_eq]
      exact ⟨fun h => form_ext hf hg fun i hi => match i, hi with
        | 0, _ => by omega
        | j + 1, hj => HA.out j (by omega), fun h => by rw [h]⟩
theorem reval_any (v1 v2 : Value) (f v : List Nat) (w : World) (h1 : RF w v1 f) (h2 : UAt w v2 34 (mAt v)) (hf : FOk f) (hv : VOk v) :
    Calls Try.prog 24 #[v1, v2] w fun e w' => e = .returned (.int .u32 (evalF f v : Nat)) ∧ Below w.heap.size w w' := by
  obtain ⟨_, rfl, b1, o1, cap1, rfl, hl1, hc1⟩ := h1
  obtain ⟨b2, o2, cap2, rfl, hl2, hc2⟩ := h2
  have h0 := heap_alloc_new w (rfB (mAt f 0) (.slice (some ⟨b1, o1, none⟩) 34 cap1))
  have hb := ba (rfB (mAt f 0) (.slice (some ⟨b1, o1, none⟩) 34 cap1)) (Below.refl w.heap.size w)
  obtain ⟨W, hW⟩ : ∃ W, W = w.alloc (rfB (mAt f 0) (.slice (some ⟨b1, o1, none⟩) 34 cap1)) := ⟨_, rfl⟩
  rw [← hW] at h0 hb
  have HC1 := Lib.hid (rf_cells h0 hl1 hc1 hb)
  have HC2 : Hid (∀ wr : World, Below W.heap.size W wr → ∀ i, i < 34 → wr.cell? ⟨b2, o2 + i, none⟩ = some (.int .u32 (mAt v i : Nat))) := Lib.hid fun _ h i hi => ((h.cell (p := ⟨b2, o2 + i, none⟩) (Nat.lt_of_lt_of_le hl2 hb.size)).trans (hb.cell (p := ⟨b2, o2 + i, none⟩) hl2)).trans (hc2 i hi)
  have HB := Lib.hid hb
  have HF := Lib.hid hf
  have HV := Lib.hid hv
  have f0 := hf.lt 0
  obtain ⟨x0, x1, x2⟩ := HC1.out W (Below.refl _ _)
  clear hl1 hc1 hl2 hc2 h0 hb hf hv x1 x2
  go_enter Try.func24, Try.ntmps24
  go_upto_region 1 with fail
  rw [← hW]
  clear hW
  obtain ⟨C, hC⟩ : ∃ C, C = mAt f 0 := ⟨_, rfl⟩
  rw [← hC] at x0 f0 ⊢
  have q0 : IntKind.u64.wrap (C : Int) = (C : Int) := by rw [IntKind.wrap_u64]; omega
  go_wp2_with fail
  clear x0 q0 f0 hC
  go_loopw [5, 6] (fun n i wr => ∃ k : Nat, k ≤ 34 ∧ i = .int .i64 k ∧ n = .int .u64 (valN f v k : Nat) ∧ Below W.heap.size W wr) (fun _ i _ => 34 - (intOf i).toNat)
  case atStart => exact ⟨0, by omega, rfl, rfl, Below.refl _ _⟩
  case round =>
    obtain ⟨k, hk, rfl, rfl, hB⟩ := hrel
    have HBr := Lib.hid hB
    obtain ⟨x0, x1, x2⟩ := HC1.out wr hB
    have y2 := HC2.out wr hB
    clear hB
    by_cases hlt : k < 34
    · have x3 := x2 k hlt
      have y3 := y2 k hlt
      have lX := HF.out.lt (k + 1)
      have lY := HV.out.lt k
      have lN := valN_lt HF.out v k
      have HN : Hid (valN f v (k + 1) = (valN f v k + mAt f (k + 1) * mAt v k % 4294967296) % 4294967296) := Lib.hid rfl
      obtain ⟨X, hX⟩ : ∃ X, X = mAt f (k + 1) := ⟨_, rfl⟩
      obtain ⟨Y, hY⟩ : ∃ Y, Y = mAt v k := ⟨_, rfl⟩
      obtain ⟨N, hN⟩ : ∃ N, N = valN f v k := ⟨_, rfl⟩
      rw [← hX] at x3 lX HN
      rw [← hY] at y3 lY HN
      rw [← hN] at lN HN ⊢
      have hXY : X * Y < 18446744073709551616 := by
        have := Nat.mul_le_mul (Nat.le_of_lt_succ (show X < 4294967295 + 1 from lX)) (Nat.le_of_lt_succ (show Y < 4294967295 + 1 from lY))
        omega
      have q1 : IntKind.u64.wrap (X : Int) = (X : Int) := by rw [IntKind.wrap_u64]; omega
      have q2 : IntKind.u64.wrap (Y : Int) = (Y : Int) := by rw [IntKind.wrap_u64]; omega
      clear x0 x2 y2 hX hY hN
      go_wp2_with (go_quiet (fail))
      go_roundw
      case rel =>
        refine ⟨k + 1, by omega, by go_num, ?_, bdN HBr.out _⟩
        rw [HN.out]
        congr 1
      case measure => simp [intOf]; omega
    · obtain rfl : k = 34 := by omega
      have lN := valN_lt HF.out v 34
      have HN : Hid (valN f v 34 = evalF f v) := Lib.hid rfl
      obtain ⟨N, hN⟩ : ∃ N, N = valN f v 34 := ⟨_, rfl⟩
      rw [← hN] at lN HN ⊢
      clear x1 x2 y2 hN x0
      go_wp2_with fail
      go_ret
      refine ⟨?_, below2 HB.out HBr.out⟩
      show Ending.returned (.int .u32 (N : Int)) = _
      rw [HN.out]
theorem rcounts_any (v1 : Value) (f : List Nat) (w : World) (h1 : RF w v1 f) :
    Calls Try.prog 22 #[v1] w fun e w' => e = .returned (.int .i64 (cntN f 34 : Nat)) ∧ Below w.heap.size w w' := by
  obtain ⟨_, rfl, b1, o1, cap1, rfl, hl1, hc1⟩ := h1
  have h0 := heap_alloc_new w (rfB (mAt f 0) (.slice (some ⟨b1, o1, none⟩) 34 cap1))
  have hb := ba (rfB (mAt f 0) (.slice (some ⟨b1, o1, none⟩) 34 cap1)) (Below.refl w.heap.size w)
  obtain ⟨W, hW⟩ : ∃ W, W = w.alloc (rfB (mAt f 0) (.slice (some ⟨b1, o1, none⟩) 34 cap1)) := ⟨_, rfl⟩
  rw [← hW] at h0 hb
  have HC1 := Lib.hid (rf_cells h0 hl1 hc1 hb)
  have HB := Lib.hid hb
  clear hl1 hc1 h0 hb
  go_enter Try.func22, Try.ntmps22
  go_upto_region 1 with fail
  rw [← hW]
  clear hW
  go_wp2_with fail
  go_loopw [3, 4] (fun n i wr => ∃ k m : Nat, k ≤ 34 ∧ m ≤ k ∧ m = cntN f k ∧ i = .int .i64 k ∧ n = .int .i64 m ∧ Below W.heap.size W wr) (fun _ i _ => 34 - (intOf i).toNat)
  case atStart => exact ⟨0, 0, by omega, by omega, rfl, rfl, rfl, Below.refl _ _⟩
  case round =>
    obtain ⟨k, m, hk, hmk, hm, rfl, rfl, hB⟩ := hrel
    have HM := Lib.hid hm
    have HBr := Lib.hid hB
    obtain ⟨x0, x1, x2⟩ := HC1.out wr hB
    clear hB hm
    by_cases hlt : k < 34
    · have x3 := x2 k hlt
      have HN : Hid (cntN f (k + 1) = cntN f k + if 0 < mAt f (k + 1) then 1 else 0) := Lib.hid rfl
      obtain ⟨X, hX⟩ : ∃ X, X = mAt f (k + 1) := ⟨_, rfl⟩
      rw [← hX] at x3 HN
      clear x0 x2 hX
      by_cases hp : 0 < X
      · go_wp2_with fail
        go_roundw
        case rel => exact ⟨k + 1, m + 1, by omega, by omega, by rw [HN.out, HM.out, if_pos hp], by go_num, by go_num, HBr.out⟩
        case measure => simp [intOf]; omega
      · go_wp2_with fail
        go_roundw
        case rel => exact ⟨k + 1, m, by omega, by omega, by rw [HN.out, HM.out, if_neg hp, Nat.add_zero], by go_num, rfl, HBr.out⟩
        case measure => simp [intOf]; omega
    · obtain rfl : k = 34 := by omega
      clear x1 x2 x0
      go_wp2_with fail
      go_ret
      exact ⟨by rw [HM.out]; rfl, below2 HB.out HBr.out⟩
theorem rapart_any (v1 v2 : Value) (f g : List Nat) (w : World) (h1 : RF w v1 f) (h2 : RF w v2 g) (hf : FOk f) (hg : FOk g) :
    Calls Try.prog 27 #[v1, v2] w fun e w' => ∃ u, e = .returned (.tuple #[u, .bool (apartF f g).2]) ∧ UAt w' u 34 (mAt (apartF f g).1) ∧ Below w.heap.size w w' := by
  have H1 := Lib.hid h1
  have H2 := Lib.hid h2
  obtain ⟨_, rfl, b1, o1, cap1, rfl, hl1, hc1⟩ := h1
  obtain ⟨_, rfl, b2, o2, cap2, rfl, hl2, hc2⟩ := h2
  obtain ⟨W, hW, h0, h1, h2, hb⟩ := box3 w (rfB (mAt f 0) (.slice (some ⟨b1, o1, none⟩) 34 cap1)) (rfB (mAt g 0) (.slice (some ⟨b2, o2, none⟩) 34 cap2)) (.cells (numsC zeros) 22)
  have HX1 := Lib.hid h0
  have HX2 := Lib.hid h1
  have HR := Lib.hid h2
  have HC1 := Lib.hid (rf_cells h0 hl1 hc1 hb)
  have HC2 := Lib.hid (rf_cells h1 hl2 hc2 hb)
  have HB := Lib.hid hb
  have hmk := mk34
  clear hl1 hc1 hl2 hc2 h0 h1 h2 hb
  go_enter Try.func27, Try.ntmps27
  go_upto_region 2 with fail
  rw [← hW]
  clear hW hmk
  go_wp2_with (first | (refine ld_rf HX1.out rfl rfl rfl ?_) | (refine ld_rf HX2.out rfl rfl rfl ?_))
  refine (rsame_any _ _ f g _ (H1.out.below HB.out) (H2.out.below HB.out) hf.1 hg.1).mono ?_
  rintro e w1 ⟨rfl, hb1⟩
  have HX11 := Lib.hid (kb hb1 HX1.out)
  have HX21 := Lib.hid (kb hb1 HX2.out)
  have HR1 := Lib.hid (kb hb1 HR.out)
  have HB1 := Lib.hid (below2 HB.out hb1)
  have HW1 := Lib.hid hb1
  clear hb1
  by_cases hfg : f = g
  · rw [decide_eq_true hfg]
    have HA : Hid (apartF f g = (zeros, false)) := Lib.hid (by unfold apartF; rw [if_pos hfg])
    clear hfg
    go_wp2_with fail
    go_ret2
    rw [HA.out]
    exact ⟨_, rfl, UAt.block HR1.out (by simp [zeros]) (fun i _ => rfl), HB1.out⟩
  · rw [decide_eq_false hfg]
    by_cases h0 : mAt f 0 = mAt g 0
    · have HA : Hid (apartF f g = (zeros.set (diffN f g 0 34) 1, true)) := Lib.hid (by unfold apartF; rw [if_neg hfg, if_pos h0])
      obtain ⟨hd, hne⟩ := diff_is hf hg hfg h0
      have HL := Lib.hid (diff_least (f := f) (g := g) 34 0 rfl)
      obtain ⟨d, hdd⟩ : ∃ d, d = diffN f g 0 34 := ⟨_, rfl⟩
      rw [← hdd] at hd hne HL HA
      have HNE := Lib.hid hne
      have e0 : ((mAt f 0 : Int) == (mAt g 0 : Int)) = true := by simp [h0]
      clear hdd hne hfg h0
      go_wp2_with fail
      go_loopw [7] (fun i wr => ∃ k : Nat, k ≤ d ∧ i = .int .i64 k ∧ Below w1.heap.size w1 wr) (fun i _ => 34 - (intOf i).toNat)
      case atStart => exact ⟨0, by omega, rfl, Below.refl _ _⟩
      case round =>
        obtain ⟨k, hk, rfl, hB⟩ := hrel
        obtain ⟨x0, x1, x2⟩ := HC1.out wr (below2 HW1.out hB)
        obtain ⟨y0, y1, y2⟩ := HC2.out wr (below2 HW1.out hB)
        have x3 := x2 k (by omega)
        have y3 := y2 k (by omega)
        have HE := Lib.hid (HL.out k (by omega))
        have HBr := Lib.hid hB
        have HRr := Lib.hid (kb hB HR1.out)
        have hk34 : k < 34 := by omega
        obtain ⟨X, hX⟩ : ∃ X, X = mAt f (k + 1) := ⟨_, rfl⟩
        obtain ⟨Y, hY⟩ : ∃ Y, Y = mAt g (k + 1) := ⟨_, rfl⟩
        rw [← hX] at x3
        rw [← hY] at y3
        by_cases hlt : k < d
        · have e1 : ((X : Int) == (Y : Int)) = true := by simp [hX, hY, HE.out hlt]
          clear x2 y2 hX hY hB
          go_wp2_with (go_quiet (fail))
          go_roundw
          case rel => exact ⟨k + 1, by omega, by go_num, bdN HBr.out _⟩
          case measure => simp [intOf]; omega
        · obtain rfl : k = d := by omega
          have e1 : ((X : Int) == (Y : Int)) = false := by
            have := HNE.out
            simp [hX, hY]
            omega
          clear x2 y2 hX hY hB hlt
          go_wp2_with (first | go_quiet (fail) | (refine st_num (n := 1) (l := zeros) (t := 22) HRr.out (by simp [zeros]; exact hk34) rfl rfl rfl rfl ?_; intro W2 hp2; have HP2 := Lib.hid hp2; clear hp2))
          go_ret2
          rw [HA.out]
          exact ⟨_, rfl, UAt.block HP2.out.row (by simp [zeros]) (fun i _ => rfl), HP2.out.below (below2 HB1.out (bdN HBr.out _)) (by omega)⟩
    · have HA : Hid (apartF f g = (zeros, true)) := Lib.hid (by unfold apartF; rw [if_neg hfg, if_neg h0])
      have e0 : ((mAt f 0 : Int) == (mAt g 0 : Int)) = false := by simp; omega
      clear hfg h0
      go_wp2_with fail
      go_loopw [7] (fun i wr => i = .int .i64 0 ∧ Below w1.heap.size w1 wr) (fun _ _ => 0)
      case atStart => exact ⟨rfl, Below.refl _ _⟩
      case round =>
        obtain ⟨rfl, hB⟩ := hrel
        obtain ⟨x0, x1, x2⟩ := HC1.out wr (below2 HW1.out hB)
        obtain ⟨y0, y1, y2⟩ := HC2.out wr (below2 HW1.out hB)
        have HBr := Lib.hid hB
        have HRr := Lib.hid (kb hB HR1.out)
        clear x2 y2 hB
        go_wp2_with (go_quiet (fail))
        go_ret2
        rw [HA.out]
        exact ⟨_, rfl, UAt.block HRr.out (by simp [zeros]) (fun i _ => rfl), below2 HB1.out (bdN HBr.out _)⟩
theorem src_new (w : World) (v : Value) (t : TypeId) : SrcAt (w.alloc (.cells #[v] t)) 1 (.slice (some ⟨w.heap.size, 0, none⟩) 1 1) 1 [v] :=
  ⟨some ⟨w.heap.size, 0, none⟩, 1, rfl, rfl, (fun h => by simp at h), fun ad had j u hu => by
    obtain rfl := Option.some.inj had
    exact new_at w #[v] t j u hu⟩
theorem cast_mod (n : Nat) : ((n % 4294967296 : Nat) : Int) = (n : Int) % 4294967296 := by omega
theorem wrap_mul (x y : Nat) : IntKind.u32.wrap ((x : Int) * (y : Int)) = ((x * y % 4294967296 : Nat) : Int) := by rw [IntKind.wrap_u32, cast_mod, Int.natCast_mul]
theorem wrap_add (x y : Nat) : IntKind.u32.wrap ((x : Int) + (y : Int)) = (((x + y) % 4294967296 : Nat) : Int) := by rw [IntKind.wrap_u32, cast_mod, Int.natCast_add]
theorem one_int (z : Int) : ∀ u ∈ [Value.int .u32 z], u.oneCell' = true := by simp [Value.oneCell']
theorem rf_put {w : World} {g c : Nat} {u v : Value} (h : w.heap[g]? = some (rfB c u)) : RowPut w (w.setCell ⟨g, 1, none⟩ v) g (rfB c v) := by
  rw [setCell_eq_setRow w g 1 _ _ _ _ h]
  exact rowPut_set h _
theorem rp_cell {w w' : World} {g : Nat} {o : Obj} (h : RowPut w w' g o) {p : Addr} (hne : p.block ≠ g) : w'.cell? p = w.cell? p := by
  unfold World.cell?
  rw [h.rest _ hne]
theorem ownsRow_put {w w' : World} {base : Nat} {e : TypeId} {size : Nat} {v : Value} {n : Nat} {xs : List Value} {g : Nat} {o : Obj} (h : w.ownsRow base e size v n xs) (hp : RowPut w w' g o) (hg : g < base) : w'.ownsRow base e size v n xs := by
  obtain ⟨h1, h2⟩ := h
  refine ⟨h1, h2.imp id ?_⟩
  rintro ⟨q, cap, cur, hv, hq, hh, r⟩
  exact ⟨q, cap, cur, hv, hq, (hp.rest q (by omega)).trans hh, r⟩
/-- A form that is being made: its variable, its row so far. -/
structure Made (w0 w : World) (B O : Nat) (c : Nat) (A : Nat → Nat) (k : Nat) (u : Value) : Prop where
  block : w.heap[O]? = some (rfB c u)
  row : w.ownsRow B 22 1 u k (ucells (segA A k))
  below : Below w0.heap.size w0 w
section
variable {md : Region.Mode} {ops : Array Oper} {Q : Exit → Act → World → Prop} {S : World → Prop}
theorem jheld_take {i : Nat} {oi : Oper} {v : Value} (q : Option Tmp) {fuel : Nat} {listed : Array Bool} {a : Act} {w : World} (hi : ops[i]? = some oi) (hq : oi.dst = q)
    (hs : Region.noSelect ops = true) (hf : Region.free md ops listed i = true) (hr : (Region.ready md ops listed).contains i = true)
    (hQ : ∀ c a w, Q (.panic c) (a.put oi.dst v) w → Q (.panic c) a w) (hy : YieldsIf Try.prog ops S oi v a) (hS : S w)
    (h : wpAnyH Try.prog md ops Q S fuel (listed.setIfInBounds i true) (a.put q v) w) : wpAnyH Try.prog md ops Q S (fuel + 1) listed a w :=
  wpAnyH_take hi hs hf hr hQ hy hS (by rw [hq]; exact h)
end
set_option maxHeartbeats 8000000 in
theorem rsum_any (v1 v2 : Value) (f g : List Nat) (a b : Nat) (w : World) (h1 : RF w v1 f) (h2 : RF w v2 g) (_ha : a < 4294967296) (_hb : b < 4294967296) :
    Calls Try.prog 14 #[v1, .int .u32 a, v2, .int .u32 b] w fun e w' => ∃ v, e = .returned v ∧ RF w' v (sumF f a g b) ∧ Below w.heap.size w w' := by
  obtain ⟨i0, hi, hz0, hz1, hz2⟩ := info_parts infoN
  obtain ⟨_, rfl, b1, o1, cap1, rfl, hl1, hc1⟩ := h1
  obtain ⟨_, rfl, b2, o2, cap2, rfl, hl2, hc2⟩ := h2
  obtain ⟨W, hW, h0, h1, h2, h3, hb⟩ := box4 w (rfB (mAt f 0) (.slice (some ⟨b1, o1, none⟩) 34 cap1)) (rfB (mAt g 0) (.slice (some ⟨b2, o2, none⟩) 34 cap2)) (.cells #[.int .u32 0, .slice none 0 0] 32) (.cells #[.int .u32 (((mAt f 0 : Nat) * (a : Nat) + (mAt g 0 : Nat) * (b : Nat) : Int) % 4294967296), .slice none 0 0] 32)
  have he : (((mAt f 0 : Nat) * (a : Nat) + (mAt g 0 : Nat) * (b : Nat) : Int) % 4294967296) = ((mAt (sumF f a g b) 0 : Nat) : Int) := by
    rw [sumF, formOf_at (by omega), cast_mod, Int.natCast_add, Int.natCast_mul, Int.natCast_mul]
  rw [he] at h3
  have h2 : W.heap[w.heap.size + 1 + 1]? = some (.cells #[.int .u32 0, .slice none 0 0] 32) := h2
  have h3 : W.heap[w.heap.size + 1 + 1 + 1]? = some (rfB (mAt (sumF f a g b) 0) (.slice none 0 0)) := h3
  have HX1 := Lib.hid h0
  have HX2 := Lib.hid h1
  have HR := Lib.hid h2
  have HO := Lib.hid h3
  have HB := Lib.hid hb
  have hsz : w.heap.size + 1 + 1 + 1 < W.heap.size := lt_of_block h3
  have HL := Lib.hid (And.intro hl1 hl2)
  have HC1 := Lib.hid hc1
  have HC2 := Lib.hid hc2
  clear h0 h1 h2 h3 hb he hl1 hl2 hc1 hc2
  go_enter Try.func14, Try.ntmps14
  go_upto_region 2 with fail
  rw [← hW]
  clear hW
  go_wp2_with fail
  obtain ⟨A, hA⟩ : ∃ A : Nat → Nat, ∀ i, A i = mAt (sumF f a g b) (i + 1) := ⟨_, fun _ => rfl⟩
  go_loopw [10] (fun i wr => ∃ (k : Nat) (u : Value), k ≤ 34 ∧ i = .int .i64 k ∧ wr.heap[w.heap.size]? = some (rfB (mAt f 0) (.slice (some ⟨b1, o1, none⟩) 34 cap1)) ∧ wr.heap[w.heap.size + 1]? = some (rfB (mAt g 0) (.slice (some ⟨b2, o2, none⟩) 34 cap2)) ∧ wr.heap[w.heap.size + 1 + 1]? = some (.cells #[.int .u32 0, .slice none 0 0] 32) ∧ W.heap.size ≤ wr.heap.size ∧ Made w wr W.heap.size (w.heap.size + 1 + 1 + 1) (mAt (sumF f a g b) 0) A k u) (fun i _ => 34 - (intOf i).toNat)
  case atStart => exact ⟨0, _, by omega, rfl, HX1.out, HX2.out, HR.out, Nat.le_refl _, ⟨HO.out, by simpa [segA, ucells] using World.ownsRow_nil _ _ _ _, HB.out⟩⟩
  case round =>
    clear HX1 HX2 HR HO HB
    obtain ⟨k, u, hk, rfl, g1, g2, g3, hsr, hM⟩ := hrel
    have HX1 := Lib.hid g1
    have HX2 := Lib.hid g2
    have HR := Lib.hid g3
    have HM := Lib.hid hM
    by_cases hlt : k < 34
    · have xO : wr.cell? ⟨w.heap.size + 1 + 1 + 1, 1, none⟩ = some u := cell_in hM.block 1
      have x1 : wr.cell? ⟨w.heap.size, 1, none⟩ = some (.slice (some ⟨b1, o1, none⟩) 34 cap1) := cell_in g1 1
      have y1 : wr.cell? ⟨w.heap.size + 1, 1, none⟩ = some (.slice (some ⟨b2, o2, none⟩) 34 cap2) := cell_in g2 1
      have x3 := (hM.below.cell (p := ⟨b1, o1 + k, none⟩) HL.out.1).trans (HC1.out k hlt)
      have y3 := (hM.below.cell (p := ⟨b2, o2 + k, none⟩) HL.out.2).trans (HC2.out k hlt)
      have HZ : Hid (A k = (mAt f (k + 1) * a + mAt g (k + 1) * b) % 4294967296) := Lib.hid (by rw [hA, sumF, formOf_at (by omega)])
      obtain ⟨X, hX⟩ : ∃ X, X = mAt f (k + 1) := ⟨_, rfl⟩
      obtain ⟨Y, hY⟩ : ∃ Y, Y = mAt g (k + 1) := ⟨_, rfl⟩
      rw [← hX] at x3 HZ
      rw [← hY] at y3 HZ
      obtain ⟨P, hP⟩ : ∃ P, P = X * a % 4294967296 := ⟨_, rfl⟩
      obtain ⟨R, hR⟩ : ∃ R, R = Y * b % 4294967296 := ⟨_, rfl⟩
      have q1 : IntKind.u32.wrap ((X : Int) * (a : Int)) = (P : Int) := by rw [wrap_mul, hP]
      have q2 : IntKind.u32.wrap ((Y : Int) * (b : Int)) = (R : Int) := by rw [wrap_mul, hR]
      have q3 : IntKind.u32.wrap ((P : Int) + (R : Int)) = ((A k : Nat) : Int) := by
        rw [wrap_add, HZ.out, hP, hR, ← Nat.add_mod]
      obtain ⟨Z, hZ⟩ : ∃ Z, Z = A k := ⟨_, rfl⟩
      rw [← hZ] at q3
      have HZ2 := Lib.hid hZ
      clear g1 g2 g3 hM hX hY hP hR hZ HZ
      have sF : w.heap.size < W.heap.size := by omega
      have sG : w.heap.size + 1 < W.heap.size := by omega
      have sB1 : b1 < W.heap.size := by have := HL.out.1; omega
      have sB2 : b2 < W.heap.size := by have := HL.out.2; omega
      go_upto_region 5 with fail
      refine wp_region_held_drew (S := fun V => V.cell? ⟨w.heap.size, 1, none⟩ = some (.slice (some ⟨b1, o1, none⟩) 34 cap1) ∧ V.cell? ⟨b1, o1 + k, none⟩ = some (.int .u32 X) ∧ V.cell? ⟨w.heap.size + 1, 1, none⟩ = some (.slice (some ⟨b2, o2, none⟩) 34 cap2) ∧ V.cell? ⟨b2, o2 + k, none⟩ = some (.int .u32 Y)) (by kernel_rfl) ⟨x1, x3, y1, y3⟩ (fun hHeld => ?_)
      refine jheld_take (i := 0) (v := .pointer (some ⟨w.heap.size + 1 + 1 + 1, 1, none⟩)) (some 25) rfl rfl (by kernel_rfl) (by kernel_rfl) (by kernel_rfl) (fun _ _ _ h => h) (.inl ⟨by rfl, fun V hV => by go_simp⟩) hHeld ?_
      simp only [Act.put, List.setIfInBounds_toArray, List.set_cons_zero, List.set_cons_succ]
      refine jheld_take (i := 2) (v := .pointer (some ⟨w.heap.size, 1, none⟩)) (some 27) rfl rfl (by kernel_rfl) (by kernel_rfl) (by kernel_rfl) (fun _ _ _ h => h) (.inl ⟨by rfl, fun V hV => by go_simp⟩) hHeld ?_
      simp only [Act.put, List.setIfInBounds_toArray, List.set_cons_zero, List.set_cons_succ]
      refine jheld_take (i := 3) (v := .slice (some ⟨b1, o1, none⟩) 34 cap1) (some 28) rfl rfl (by kernel_rfl) (by kernel_rfl) (by kernel_rfl) (fun _ _ _ h => h) (.inl ⟨by rfl, fun V hV => by obtain ⟨s0, _, _, _⟩ := hV; go_simp⟩) hHeld ?_
      simp only [Act.put, List.setIfInBounds_toArray, List.set_cons_zero, List.set_cons_succ]
      refine jheld_take (i := 4) (v := .int .i64 (k : Int)) (some 29) rfl rfl (by kernel_rfl) (by kernel_rfl) (by kernel_rfl) (fun _ _ _ h => h) (.inl ⟨by rfl, fun V hV => by go_simp⟩) hHeld ?_
      simp only [Act.put, List.setIfInBounds_toArray, List.set_cons_zero, List.set_cons_succ]
      refine jheld_take (i := 5) (v := .pointer (some ⟨b1, o1 + k, none⟩)) (some 30) rfl rfl (by kernel_rfl) (by kernel_rfl) (by kernel_rfl) (fun _ _ _ h => h) (.inl ⟨by rfl, fun V hV => by go_simp⟩) hHeld ?_
      simp only [Act.put, List.setIfInBounds_toArray, List.set_cons_zero, List.set_cons_succ]
      refine jheld_take (i := 6) (v := .int .u32 (X : Int)) (some 31) rfl rfl (by kernel_rfl) (by kernel_rfl) (by kernel_rfl) (fun _ _ _ h => h) (.inl ⟨by rfl, fun V hV => by obtain ⟨_, s1, _, _⟩ := hV; go_simp⟩) hHeld ?_
      simp only [Act.put, List.setIfInBounds_toArray, List.set_cons_zero, List.set_cons_succ]
      refine jheld_take (i := 7) (v := .int .u32 (a : Int)) (some 32) rfl rfl (by kernel_rfl) (by kernel_rfl) (by kernel_rfl) (fun _ _ _ h => h) (.inl ⟨by rfl, fun V hV => by go_simp⟩) hHeld ?_
      simp only [Act.put, List.setIfInBounds_toArray, List.set_cons_zero, List.set_cons_succ]
      refine jheld_take (i := 8) (v := .int .u32 (P : Int)) (some 33) rfl rfl (by kernel_rfl) (by kernel_rfl) (by kernel_rfl) (fun _ _ _ h => h) (.inl ⟨by rfl, fun V hV => by go_simp⟩) hHeld ?_
      simp only [Act.put, List.setIfInBounds_toArray, List.set_cons_zero, List.set_cons_succ]
      refine jheld_take (i := 9) (v := .pointer (some ⟨w.heap.size + 1, 1, none⟩)) (some 34) rfl rfl (by kernel_rfl) (by kernel_rfl) (by kernel_rfl) (fun _ _ _ h => h) (.inl ⟨by rfl, fun V hV => by go_simp⟩) hHeld ?_
      simp only [Act.put, List.setIfInBounds_toArray, List.set_cons_zero, List.set_cons_succ]
      refine jheld_take (i := 10) (v := .slice (some ⟨b2, o2, none⟩) 34 cap2) (some 35) rfl rfl (by kernel_rfl) (by kernel_rfl) (by kernel_rfl) (fun _ _ _ h => h) (.inl ⟨by rfl, fun V hV => by obtain ⟨_, _, s2, _⟩ := hV; go_simp⟩) hHeld ?_
      simp only [Act.put, List.setIfInBounds_toArray, List.set_cons_zero, List.set_cons_succ]
      refine jheld_take (i := 11) (v := .int .i64 (k : Int)) (some 36) rfl rfl (by kernel_rfl) (by kernel_rfl) (by kernel_rfl) (fun _ _ _ h => h) (.inl ⟨by rfl, fun V hV => by go_simp⟩) hHeld ?_
      simp only [Act.put, List.setIfInBounds_toArray, List.set_cons_zero, List.set_cons_succ]
      refine jheld_take (i := 12) (v := .pointer (some ⟨b2, o2 + k, none⟩)) (some 37) rfl rfl (by kernel_rfl) (by kernel_rfl) (by kernel_rfl) (fun _ _ _ h => h) (.inl ⟨by rfl, fun V hV => by go_simp⟩) hHeld ?_
      simp only [Act.put, List.setIfInBounds_toArray, List.set_cons_zero, List.set_cons_succ]
      refine jheld_take (i := 13) (v := .int .u32 (Y : Int)) (some 38) rfl rfl (by kernel_rfl) (by kernel_rfl) (by kernel_rfl) (fun _ _ _ h => h) (.inl ⟨by rfl, fun V hV => by obtain ⟨_, _, _, s3⟩ := hV; go_simp⟩) hHeld ?_
      simp only [Act.put, List.setIfInBounds_toArray, List.set_cons_zero, List.set_cons_succ]
      refine jheld_take (i := 14) (v := .int .u32 (b : Int)) (some 39) rfl rfl (by kernel_rfl) (by kernel_rfl) (by kernel_rfl) (fun _ _ _ h => h) (.inl ⟨by rfl, fun V hV => by go_simp⟩) hHeld ?_
      simp only [Act.put, List.setIfInBounds_toArray, List.set_cons_zero, List.set_cons_succ]
      refine jheld_take (i := 15) (v := .int .u32 (R : Int)) (some 40) rfl rfl (by kernel_rfl) (by kernel_rfl) (by kernel_rfl) (fun _ _ _ h => h) (.inl ⟨by rfl, fun V hV => by go_simp⟩) hHeld ?_
      simp only [Act.put, List.setIfInBounds_toArray, List.set_cons_zero, List.set_cons_succ]
      refine jheld_take (i := 16) (v := .int .u32 (Z : Int)) (some 41) rfl rfl (by kernel_rfl) (by kernel_rfl) (by kernel_rfl) (fun _ _ _ h => h) (.inl ⟨by rfl, fun V hV => by go_simp⟩) hHeld ?_
      simp only [Act.put, List.setIfInBounds_toArray, List.set_cons_zero, List.set_cons_succ]
      have hV := ka (.cells #[.int .u32 (Z : Int)] 22) HM.out.block
      have xO2 : (wr.alloc (.cells #[.int .u32 (Z : Int)] 22)).cell? ⟨w.heap.size + 1 + 1 + 1, 1, none⟩ = some u := cell_in hV 1
      have hbV : Below W.heap.size wr (wr.alloc (.cells #[.int .u32 (Z : Int)] 22)).drew := ((Below.refl W.heap.size wr).alloc hsr _).drew
      have HS1 := Lib.hid (And.intro ((hbV.cell (p := ⟨w.heap.size, 1, none⟩) sF).trans x1) (And.intro ((hbV.cell (p := ⟨b1, o1 + k, none⟩) sB1).trans x3) (And.intro ((hbV.cell (p := ⟨w.heap.size + 1, 1, none⟩) sG).trans y1) ((hbV.cell (p := ⟨b2, o2 + k, none⟩) sB2).trans y3))))
      have HVB := Lib.hid hbV
      have hVs : W.heap.size ≤ (wr.alloc (.cells #[.int .u32 (Z : Int)] 22)).drew.heap.size := Nat.le_trans hsr hbV.size
      clear hV hbV
      refine wpAnyH_ready (rs := [1, 17]) (by kernel_rfl) (by simp) ?_
      refine AllReadyH.cons rfl (fun K hK => ?_) (AllReadyH.cons rfl (fun K hK => ?_) AllReadyH.nil)
      · go_simp
        refine hK.out _ _ hHeld (fun hHeld => ?_)
        clear hK K
        refine wpAnyH_ready (rs := [17]) (by kernel_rfl) (by simp) ?_
        refine AllReadyH.cons rfl (fun K hK => ?_) AllReadyH.nil
        go_simp
        refine hK.out _ _ HS1.out (fun hHeld => ?_)
        clear hK K
        refine wpAnyH_ready (rs := [18]) (by kernel_rfl) (by simp) ?_
        refine AllReadyH.cons rfl (fun K hK => ?_) AllReadyH.nil
        refine step_append_src _ (by rfl) _ _ 30 (by rfl) W.heap.size 22 i0 (.int .u32 0) 1 4 Try.underlying30 hi hz0 hz1 hz2 (by rfl) (by decide) u k (ucells (segA A k)) (by rfl) (HM.out.row.alloc _).drew _ 1 [.int .u32 (Z : Int)] (by rfl) (src_new _ _ _) (one_int _) (by unfold maxLen; omega) (by omega) hVs ?_
        intro u13 w13 hO13 hg13
        have hB13 := grown_below HVB.out (HM.out.row.alloc (.cells #[.int .u32 (Z : Int)] 22)).drew hg13 hVs
        obtain ⟨ao13, cap13, hu13⟩ := own_shape hO13
        subst hu13
        have HXO := Lib.hid ((hB13.block _ hsz).trans HM.out.block)
        have aO : w13.cell? ⟨w.heap.size + 1 + 1 + 1, 1, none⟩ = some u := cell_in HXO.out 1
        have hfO := free_in HXO.out 1
        have HS2 := Lib.hid (And.intro ((hB13.cell (p := ⟨w.heap.size, 1, none⟩) sF).trans x1) (And.intro ((hB13.cell (p := ⟨b1, o1 + k, none⟩) sB1).trans x3) (And.intro ((hB13.cell (p := ⟨w.heap.size + 1, 1, none⟩) sG).trans y1) ((hB13.cell (p := ⟨b2, o2 + k, none⟩) sB2).trans y3))))
        refine hK.out _ _ HS2.out (fun hHeld => ?_)
        clear hK K hHeld
        refine wpAnyH_ready (rs := [19]) (by kernel_rfl) (by simp) ?_
        refine AllReadyH.cons rfl (fun K hK => ?_) AllReadyH.nil
        go_simp
        refine hK.out _ _ HS2.out (fun hHeld => ?_)
        clear hK K hHeld
        refine wpAnyH_ready (rs := [20]) (by kernel_rfl) (by simp) ?_
        refine AllReadyH.cons rfl (fun K hK => ?_) AllReadyH.nil
        go_simp
        have hp := rf_put (v := .slice ao13 (k + 1) cap13) HXO.out
        have hO3 := ownsRow_setCell_below (a := ⟨w.heap.size + 1 + 1 + 1, 1, none⟩) hO13 hsz (.slice ao13 (k + 1) cap13)
        obtain ⟨V3, hV3⟩ : ∃ V3, V3 = w13.setCell ⟨w.heap.size + 1 + 1 + 1, 1, none⟩ (.slice ao13 (k + 1) cap13) := ⟨_, rfl⟩
        rw [← hV3] at hp hO3 ⊢
        have HO3 : Hid (V3.ownsRow W.heap.size 22 1 (.slice ao13 (k + 1) cap13) (k + 1) (ucells (segA A (k + 1)))) := Lib.hid (by
          rw [segA_succ, ucells_app, ← HZ2.out]
          exact hO3)
        have HP3 := Lib.hid hp
        have HM3 := Lib.hid (hp.below (HM.out.below.trans (hB13.mono (by omega))) (by omega))
        have HX13 := Lib.hid (hp.keep (by omega) ((hB13.block _ sF).trans HX1.out))
        have HX23 := Lib.hid (hp.keep (by omega) ((hB13.block _ sG).trans HX2.out))
        have HR3 := Lib.hid (hp.keep (by omega) ((hB13.block _ (show w.heap.size + 1 + 1 < W.heap.size by omega)).trans HR.out))
        have hs3 : W.heap.size ≤ V3.heap.size := by rw [hp.size]; exact Nat.le_trans hsr hB13.size
        have hl1 := HL.out.1
        have hl2 := HL.out.2
        refine hK.out _ _ (And.intro ((rp_cell hp (by first | (simp; done) | (simp; omega))).trans HS2.out.1) (And.intro ((rp_cell hp (by first | (simp; done) | (simp; omega))).trans HS2.out.2.1) (And.intro ((rp_cell hp (by first | (simp; done) | (simp; omega))).trans HS2.out.2.2.1) ((rp_cell hp (by first | (simp; done) | (simp; omega))).trans HS2.out.2.2.2)))) (fun hHeld => ?_)
        clear hK K hHeld hp hO3 hV3 hO13 hg13 hB13 aO hfO x1 x3 y1 y3 xO xO2
        refine wpAnyH_done (by kernel_rfl) ?_ _
        go_wp2_with fail
        go_roundw
        case rel => exact ⟨k + 1, _, by omega, by go_num, HX13.out, HX23.out, HR3.out, hs3, ⟨HP3.out.row, HO3.out, HM3.out⟩⟩
        case measure => simp [intOf]; omega
      · go_simp
        refine hK.out _ _ HS1.out (fun hHeld => ?_)
        clear hK K
        refine wpAnyH_ready (rs := [1]) (by kernel_rfl) (by simp) ?_
        refine AllReadyH.cons rfl (fun K hK => ?_) AllReadyH.nil
        go_simp
        refine hK.out _ _ HS1.out (fun hHeld => ?_)
        clear hK K
        refine wpAnyH_ready (rs := [18]) (by kernel_rfl) (by simp) ?_
        refine AllReadyH.cons rfl (fun K hK => ?_) AllReadyH.nil
        refine step_append_src _ (by rfl) _ _ 30 (by rfl) W.heap.size 22 i0 (.int .u32 0) 1 4 Try.underlying30 hi hz0 hz1 hz2 (by rfl) (by decide) u k (ucells (segA A k)) (by rfl) (HM.out.row.alloc _).drew _ 1 [.int .u32 (Z : Int)] (by rfl) (src_new _ _ _) (one_int _) (by unfold maxLen; omega) (by omega) hVs ?_
        intro u13 w13 hO13 hg13
        have hB13 := grown_below HVB.out (HM.out.row.alloc (.cells #[.int .u32 (Z : Int)] 22)).drew hg13 hVs
        obtain ⟨ao13, cap13, hu13⟩ := own_shape hO13
        subst hu13
        have HXO := Lib.hid ((hB13.block _ hsz).trans HM.out.block)
        have aO : w13.cell? ⟨w.heap.size + 1 + 1 + 1, 1, none⟩ = some u := cell_in HXO.out 1
        have hfO := free_in HXO.out 1
        have HS2 := Lib.hid (And.intro ((hB13.cell (p := ⟨w.heap.size, 1, none⟩) sF).trans x1) (And.intro ((hB13.cell (p := ⟨b1, o1 + k, none⟩) sB1).trans x3) (And.intro ((hB13.cell (p := ⟨w.heap.size + 1, 1, none⟩) sG).trans y1) ((hB13.cell (p := ⟨b2, o2 + k, none⟩) sB2).trans y3))))
        refine hK.out _ _ HS2.out (fun hHeld => ?_)
        clear hK K hHeld
        refine wpAnyH_ready (rs := [19]) (by kernel_rfl) (by simp) ?_
        refine AllReadyH.cons rfl (fun K hK => ?_) AllReadyH.nil
        go_simp
        refine hK.out _ _ HS2.out (fun hHeld => ?_)
        clear hK K hHeld
        refine wpAnyH_ready (rs := [20]) (by kernel_rfl) (by simp) ?_
        refine AllReadyH.cons rfl (fun K hK => ?_) AllReadyH.nil
        go_simp
        have hp := rf_put (v := .slice ao13 (k + 1) cap13) HXO.out
        have hO3 := ownsRow_setCell_below (a := ⟨w.heap.size + 1 + 1 + 1, 1, none⟩) hO13 hsz (.slice ao13 (k + 1) cap13)
        obtain ⟨V3, hV3⟩ : ∃ V3, V3 = w13.setCell ⟨w.heap.size + 1 + 1 + 1, 1, none⟩ (.slice ao13 (k + 1) cap13) := ⟨_, rfl⟩
        rw [← hV3] at hp hO3 ⊢
        have HO3 : Hid (V3.ownsRow W.heap.size 22 1 (.slice ao13 (k + 1) cap13) (k + 1) (ucells (segA A (k + 1)))) := Lib.hid (by
          rw [segA_succ, ucells_app, ← HZ2.out]
          exact hO3)
        have HP3 := Lib.hid hp
        have HM3 := Lib.hid (hp.below (HM.out.below.trans (hB13.mono (by omega))) (by omega))
        have HX13 := Lib.hid (hp.keep (by omega) ((hB13.block _ sF).trans HX1.out))
        have HX23 := Lib.hid (hp.keep (by omega) ((hB13.block _ sG).trans HX2.out))
        have HR3 := Lib.hid (hp.keep (by omega) ((hB13.block _ (show w.heap.size + 1 + 1 < W.heap.size by omega)).trans HR.out))
        have hs3 : W.heap.size ≤ V3.heap.size := by rw [hp.size]; exact Nat.le_trans hsr hB13.size
        have hl1 := HL.out.1
        have hl2 := HL.out.2
        refine hK.out _ _ (And.intro ((rp_cell hp (by first | (simp; done) | (simp; omega))).trans HS2.out.1) (And.intro ((rp_cell hp (by first | (simp; done) | (simp; omega))).trans HS2.out.2.1) (And.intro ((rp_cell hp (by first | (simp; done) | (simp; omega))).trans HS2.out.2.2.1) ((rp_cell hp (by first | (simp; done) | (simp; omega))).trans HS2.out.2.2.2)))) (fun hHeld => ?_)
        clear hK K hHeld hp hO3 hV3 hO13 hg13 hB13 aO hfO x1 x3 y1 y3 xO xO2
        refine wpAnyH_done (by kernel_rfl) ?_ _
        go_wp2_with fail
        go_roundw
        case rel => exact ⟨k + 1, _, by omega, by go_num, HX13.out, HX23.out, HR3.out, hs3, ⟨HP3.out.row, HO3.out, HM3.out⟩⟩
        case measure => simp [intOf]; omega
    · obtain rfl : k = 34 := by omega
      go_wp2_with (first
        | (refine ld_rf HM.out.block rfl rfl rfl ?_)
        | (refine st_rf HR.out rfl (by obtain ⟨a, c, h⟩ := own_shape HM.out.row; rw [h]; rfl) rfl rfl rfl rfl ?_; intro W2 hp2; have HP2 := Lib.hid hp2; clear hp2))
      (try simp only [Exit.inBlock, Exit.then])
      refine bodyPost_ret (results_rf rfl rfl HP2.out.row) rfl ⟨_, rfl, ⟨_, rfl, ?_⟩, HP2.out.below HM.out.below (by omega)⟩
      exact (UAt.own (ownsRow_put HM.out.row HP2.out (by omega)) (by omega)).congr fun i _ => hA i
end Go.Proofs.Ytkfhmcpdodnbhaa
