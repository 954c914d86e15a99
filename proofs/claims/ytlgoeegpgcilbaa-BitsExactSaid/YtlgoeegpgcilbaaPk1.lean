/-
  What the laws' texts use, joined.
-/
import Derived.Test.YtlgoeegpgcilbaaProg
import Derived.WalkKit
import Derived.Laws.BitsAllLaws
import Derived.ProofKit
import Derived.Lib.Hide
import Derived.Laws.Rows
import Derived.Laws.ResultCell
import Derived.Laws.Entries
import Derived.Handy
import Derived.OwnWalk
import Derived.Laws.OwnMore
import Derived.Deep.Draws
import Derived.Laws.IdiomStrings
import Derived.Lib.BufferRead
import Derived.Maps.OwnSet
import Derived.Laws.Tables
import Derived.Deep.DeepCutAuto
import Derived.DeepKeys
import Derived.Laws.StructEq
import Derived.Deep.RegionHeld3
import Derived.BigRegion
import Derived.BigQuiet
import Derived.Test.YtlgoeegpgcilbaaRows
import Derived.OpenShut
import Derived.Carry
import Derived.Deep.DeepHandedRow
import Derived.Lib.SmallJoins
import Derived.Deep.OwnRows
/-
  Masks: what is so of numbers, as the bits of a number.
-/
namespace Go.Proofs.Ytlgoeegpgcilbaa
open Go.RowKit

/-- A mask's number. -/
def maskN (P : Nat → Bool) : Nat → Nat
  | 0 => 0
  | n + 1 => maskN P n + (if P n then 2 ^ n else 0)
theorem maskN_lt (P : Nat → Bool) : ∀ n, maskN P n < 2 ^ n
  | 0 => by simp [maskN]
  | n + 1 => by
    have := maskN_lt P n
    rw [maskN, Nat.pow_succ]
    split <;> omega
theorem maskN_bit (P : Nat → Bool) : ∀ n i, i < n → (maskN P n).testBit i = P i
  | 0, _, h => by omega
  | n + 1, i, h => by
    have hlt := maskN_lt P n
    rw [maskN]
    by_cases hi : i = n
    · subst hi
      cases hP : P i
      · rw [if_neg (by decide), Nat.add_zero]
        exact Nat.testBit_lt_two_pow hlt
      · rw [if_pos rfl, Nat.add_comm, Nat.testBit_two_pow_add_eq, Nat.testBit_lt_two_pow hlt]
        rfl
    · cases hP : P n
      · rw [if_neg (by decide), Nat.add_zero]
        exact maskN_bit P n i (by omega)
      · rw [if_pos rfl, Nat.add_comm, Nat.testBit_two_pow_add_gt (by omega)]
        exact maskN_bit P n i (by omega)
theorem maskN_congr {P Q : Nat → Bool} : ∀ n, (∀ i, i < n → P i = Q i) → maskN P n = maskN Q n
  | 0, _ => rfl
  | n + 1, h => by rw [maskN, maskN, maskN_congr n fun i hi => h i (by omega), h n (by omega)]
theorem maskN_test (P : Nat → Bool) (n i : Nat) : (maskN P n).testBit i = (decide (i < n) && P i) := by
  by_cases h : i < n
  · rw [maskN_bit P n i h, decide_eq_true h, Bool.true_and]
  · rw [decide_eq_false h, Bool.false_and]
    exact Nat.testBit_lt_two_pow (Nat.lt_of_lt_of_le (maskN_lt P n) (Nat.pow_le_pow_right (by omega) (by omega)))
end Go.Proofs.Ytlgoeegpgcilbaa
/-
  What is the same for every stage: worlds that have only grown, blocks and rows of a call's own, small words on endings.
-/
namespace Go.Proofs.Ytlgoeegpgcilbaa
open Go.ChangeShapes Go.WideShapes Go.ChangeAt Go.RowKit

/-- A new block more. -/
theorem ba {w v : World} (o : Obj) (h : Below w.heap.size w v) : Below w.heap.size w (v.alloc o) := h.alloc h.size o
/-- A struct's block: what its cells hold. -/
theorem cell_in {w : World} {g : Nat} {cs : Array Value} {t : TypeId} {fr : Nat × Nat} (h : w.heap[g]? = some (.cells cs t fr)) (i : Nat) : w.cell? ⟨g, i, none⟩ = cs[i]? := cell_of_row w g i cs t fr h
theorem free_in {w : World} {g : Nat} {cs : Array Value} {t : TypeId} (h : w.heap[g]? = some (.cells cs t (0, 0))) (i : Nat) : w.frozen? ⟨g, i, none⟩ = false := by simp [World.frozen?, h]
theorem size_alloc (w : World) (o : Obj) : (w.alloc o).heap.size = w.heap.size + 1 := by
  show (w.heap.push o).size = _
  simp
/-- A law on append: the world that it leaves, below the base. -/
theorem grown_below {B : Nat} {w0 w w' : World} {e : TypeId} {size : Nat} {v : Value} {n : Nat} {xs : List Value} (h : Below B w0 w) (ho : w.ownsRow B e size v n xs) (hg : w.grownBy w' v.ownBlock) (hB : B ≤ w.heap.size) : Below B w0 w' :=
  h.grown hg hB fun k hk => (ho.lt k hk).1
theorem news_at {w : World} {g : Nat} {cs : Array Value} {t : TypeId} {fr : Nat × Nat} (h : w.heap[g]? = some (.cells cs t fr)) : ∀ j u, cs.toList[j]? = some u → w.cell? ((⟨g, 0, none⟩ : Addr).add j) = some u := by
  intro j u hu
  rw [show (⟨g, 0, none⟩ : Addr).add j = ⟨g, j, none⟩ by unfold Addr.add; split <;> simp_all, cell_in h]
  simpa using hu
theorem new_at (w : World) (cs : Array Value) (t : TypeId) : ∀ j u, cs.toList[j]? = some u → (w.alloc (.cells cs t)).cell? ((⟨w.heap.size, 0, none⟩ : Addr).add j) = some u := news_at (heap_alloc_new w (.cells cs t))
theorem own_below {w w' : World} {base : Nat} {e : TypeId} {size : Nat} {v : Value} {n : Nat} {xs : List Value} (h : w.ownsRow base e size v n xs) (hb : Below w.heap.size w w') : w'.ownsRow base e size v n xs := by
  obtain ⟨h1, h2⟩ := h
  refine ⟨h1, h2.imp id ?_⟩
  rintro ⟨g, cap, cur, hv, hg, hh, r⟩
  exact ⟨g, cap, cur, hv, hg, (hb.block g (lt_of_block hh)).trans hh, r⟩
theorem own_shape {w : World} {base : Nat} {e : TypeId} {size : Nat} {v : Value} {n : Nat} {xs : List Value} (h : w.ownsRow base e size v n xs) : ∃ a c, v = .slice a n c := by
  rcases h.2 with ⟨rfl, rfl⟩ | ⟨g, cap, _, rfl, _⟩
  · exact ⟨_, _, rfl⟩
  · exact ⟨_, _, rfl⟩
theorem own_cells {w : World} {base : Nat} {e : TypeId} {v : Value} {n : Nat} {xs : List Value} (h : w.ownsRow base e 1 v n xs) (hn : 0 < n) :
    ∃ g c, v = .slice (some ⟨g, 0, none⟩) n c ∧ base ≤ g ∧ g < w.heap.size ∧ n ≤ c ∧ ∀ i u, xs[i]? = some u → w.cell? ⟨g, i, none⟩ = some u := by
  have hh := h
  rcases h.2 with ⟨_, h0⟩ | ⟨g, cap, cur, rfl, hg, hb, hc, _⟩
  · omega
  · refine ⟨g, cap, rfl, hg, lt_of_block hb, hc, fun i u hu => ?_⟩
    have hi : i < n * 1 := by have h1 := h.1; have := (List.getElem?_eq_some_iff.1 hu).1; omega
    rw [hh.cellAt i hi]
    exact hu
theorem below2 {a b c : World} (h : Below a.heap.size a b) (k : Below b.heap.size b c) : Below a.heap.size a c := h.trans (k.mono h.size)
theorem bdN {B : Nat} {a w : World} (h : Below B a w) (n : Nat) : Below B a (w.drewN n) := ⟨h.os, h.tape, h.output, h.size, h.block⟩
theorem retB {a b : Bool} (h : a = b) : Ending.returned (.bool b) = .returned (.bool a) := by rw [h]
theorem pick_list {α : Type} {Q : Nat → α → Prop} : ∀ n : Nat, (∀ i, i < n → ∃ x, Q i x) → ∃ l : List α, l.length = n ∧ ∀ i (h : i < l.length), Q i l[i]
  | 0, _ => ⟨[], rfl, fun i h => by simp at h⟩
  | n + 1, h => by
    obtain ⟨l, hl, hq⟩ := pick_list n (fun i hi => h i (by omega))
    obtain ⟨x, hx⟩ := h n (by omega)
    refine ⟨l ++ [x], by simp [hl], fun i hi => ?_⟩
    by_cases hin : i < l.length
    · rw [List.getElem_append_left hin]
      exact hq i hin
    · have hi' : i = l.length := by simp at hi; omega
      subst hi'
      simp
      rw [hl]
      exact hx
end Go.Proofs.Ytlgoeegpgcilbaa

/-
  Bytes that lie in a world; numbers as bytes; append(own, src...) where src is anything that lies in the world (nil among them); string(b).
-/
namespace Go.Proofs.Ytlgoeegpgcilbaa
open Go.ChangeShapes Go.WideShapes Go.ChangeAt Go.RowKit
set_option maxRecDepth 20000

/-- Bytes that lie in a world. -/
def BAt (w : World) (v : Value) (l : List UInt8) : Prop :=
  ∃ ao cap, v = .slice ao l.length cap ∧ l.length ≤ cap ∧ cap ≤ 9223372036854775807 ∧ (l = [] ∨ ∃ b off, ao = some ⟨b, off, none⟩ ∧ b < w.heap.size ∧ ∀ i (h : i < l.length), w.cell? ⟨b, off + i, none⟩ = some (.int .u8 ((l[i]).toNat : Int)))
abbrev bcells (l : List UInt8) : List Value := l.map fun b => Value.int .u8 (b.toNat : Int)
theorem BAt.nil (w : World) : BAt w (.slice none 0 0) [] := ⟨none, 0, rfl, Nat.le_refl _, by omega, .inl rfl⟩
theorem BAt.below {w w' : World} {v : Value} {l : List UInt8} (h : BAt w v l) (hb : Below w.heap.size w w') : BAt w' v l := by
  obtain ⟨ao, cap, rfl, hcap, hm, h⟩ := h
  refine ⟨ao, cap, rfl, hcap, hm, h.imp id ?_⟩
  rintro ⟨b, off, rfl, hl, hc⟩
  exact ⟨b, off, rfl, Nat.lt_of_lt_of_le hl hb.size, fun i hi => (hb.cell (p := ⟨b, _, none⟩) hl).trans (hc i hi)⟩
theorem BAt.own {w : World} {base : Nat} {e : TypeId} {v : Value} {n : Nat} {l : List UInt8} (h : w.ownsRow base e 1 v n (bcells l)) (hn : n = l.length) : BAt w v l := by
  subst hn
  rcases h.2 with ⟨rfl, h0⟩ | ⟨g, cap, cur, rfl, _, hg, hc, hm, _, ht⟩
  · obtain rfl := List.length_eq_zero_iff.1 h0
    exact BAt.nil w
  · unfold maxLen at hm
    refine ⟨_, _, rfl, hc, hm, .inr ⟨g, 0, rfl, lt_of_block hg, fun i hi => ?_⟩⟩
    rw [Nat.zero_add, cell_in hg i, ← Array.getElem?_toList]
    have hu : (bcells l)[i]? = some (.int .u8 ((l[i]).toNat : Int)) := by simp [hi]
    rw [← ht, List.getElem?_take, if_pos (by omega)] at hu
    exact hu
theorem BAt.lit (w : World) (l : List UInt8) (t : TypeId) (hm : l.length ≤ 9223372036854775807) : BAt (w.alloc (.cells (bcells l).toArray t)) (.slice (some ⟨w.heap.size, 0, none⟩) l.length l.length) l :=
  ⟨_, _, rfl, Nat.le_refl _, hm, .inr ⟨_, 0, rfl, by rw [size_alloc]; omega, fun i hi => by
    rw [Nat.zero_add, cell_in (heap_alloc_new w (.cells (bcells l).toArray t)) i]
    simp [hi]⟩⟩
/-- Bytes in a world that only drew, or grew. -/
theorem BAt.shape {w : World} {v : Value} {l : List UInt8} (h : BAt w v l) : ∃ ao cap, v = .slice ao l.length cap := by
  obtain ⟨ao, cap, rfl, _⟩ := h
  exact ⟨ao, cap, rfl⟩
/-- A slice whose elements have these cells. -/
def SrcAt (w : World) (size : Nat) (x : Value) (m : Nat) (news : List Value) : Prop :=
  ∃ ao c, x = .slice ao m c ∧ news.length = m * size ∧ (ao = none → m = 0) ∧ ∀ ad, ao = some ad → ∀ j u, news[j]? = some u → w.cell? (ad.add j) = some u
theorem SrcAt.below {w w' : World} {size m : Nat} {x : Value} {news : List Value} (h : SrcAt w size x m news) (hk : ∀ p : Addr, w.cell? p ≠ none → w'.cell? p = w.cell? p) : SrcAt w' size x m news := by
  obtain ⟨ao, c, rfl, h1, h2, h3⟩ := h
  refine ⟨ao, c, rfl, h1, h2, fun ad had j u hu => ?_⟩
  have e := h3 ad had j u hu
  rw [hk _ (by rw [e]; simp)]
  exact e
section
variable {P : Program} (w : World)
theorem run_append_nothing (base : Nat) (t ty e : TypeId) (i : TypeInfo) (size : Nat) (ht : P.underlying t = some (.slice e)) (hi : P.info? e = some i) (v : Value) (n : Nat) (xs : List Value) (hown : w.ownsRow base e size v n xs) (c : Nat) :
    (Builtin.append_ #[t, t] ty #[v, .slice none 0 c]).run P w = .ok v w := by
  rcases hown.2 with ⟨rfl, rfl⟩ | ⟨g, cap, cur, rfl, _, _, hnc, _⟩
  · simp [Builtin.append_, run_underlying ht, sizeOf, typeInfo, hi, Builtin.lenOf, Builtin.firstCells]
  · simp [Builtin.append_, run_underlying ht, sizeOf, typeInfo, hi, Builtin.lenOf, Builtin.firstCells, hnc, storeCells]
theorem wpList_append_src {ops : Array Oper} {rest : List Oper} {o : Oper} {a : Act} {Q : Exit → Act → World → Prop} (hgd : o.guard = none) (s x : Operand) (t : TypeId)
    (ho : o.op = .call { callee := .builtin .append, args := #[s, x], argTypes := #[t, t] })
    (base : Nat) (e : TypeId) (i : TypeInfo) (z : Value) (size bytes : Nat) (ht : P.underlying t = some (.slice e)) (hi : P.info? e = some i) (hz : i.zero = some z)
    (hsize : i.size = size) (hby : i.bytes = bytes) (hzs : z.cells.size = size) (hsz : 0 < size)
    (v : Value) (n : Nat) (xs : List Value) (hs : a.eval s = v) (hown : w.ownsRow base e size v n xs)
    (xv : Value) (m : Nat) (news : List Value) (hx : a.eval x = xv) (hsrc : SrcAt w size xv m news) (h1 : ∀ u ∈ news, u.oneCell' = true)
    (h63 : n + m ≤ maxLen) (hbytes : (n + m) * bytes ≤ 140737488355328) (hbase : base ≤ w.heap.size)
    (h : ∀ v' w', w'.ownsRow base e size v' (n + m) (xs ++ news) → w.grownBy w' v.ownBlock → wpList P ops Q rest (a.put o.dst v') w') : wpList P ops Q (o :: rest) a w := by
  obtain ⟨ao, c, rfl, hl, h0, hc⟩ := hsrc
  cases ao with
  | some ad => exact wpList_append_own w hgd s x t ho base e i z size bytes ht hi hz hsize hby hzs hsz v n xs hs hown ad m c news hx hl (hc ad rfl) h1 h63 hbytes hbase fun v' w' h2 h3 _ => h v' w' h2 h3
  | none =>
    obtain rfl := h0 rfl
    obtain rfl : news = [] := List.eq_nil_of_length_eq_zero (by simpa using hl)
    refine wpList_plain hgd fun K hK => ?_
    have hrun := run_append_nothing (P := P) w base t o.type e i size ht hi v n xs hown c
    unfold Oper.wp
    simp [execOp, ho, resolve, invoke, builtin, hs, hx, hrun, Result.andThen]
    exact hK _ _ (h v w (by simpa using hown) (World.grownBy.refl w _))
theorem step_append_src {ops : Array Oper} {o : Oper} {a : Act} {K : Act → World → Prop} {Q : Exit → Act → World → Prop} {E : Prop} (hgd : o.guard = none) (s x : Operand) (t : TypeId)
    (ho : o.op = .call { callee := .builtin .append, args := #[s, x], argTypes := #[t, t] })
    (base : Nat) (e : TypeId) (i : TypeInfo) (z : Value) (size bytes : Nat) (ht : P.underlying t = some (.slice e)) (hi : P.info? e = some i) (hz : i.zero = some z)
    (hsize : i.size = size) (hby : i.bytes = bytes) (hzs : z.cells.size = size) (hsz : 0 < size)
    (v : Value) (n : Nat) (xs : List Value) (hs : a.eval s = v) (hown : w.ownsRow base e size v n xs)
    (xv : Value) (m : Nat) (news : List Value) (hx : a.eval x = xv) (hsrc : SrcAt w size xv m news) (h1 : ∀ u ∈ news, u.oneCell' = true)
    (h63 : n + m ≤ maxLen) (hbytes : (n + m) * bytes ≤ 140737488355328) (hbase : base ≤ w.heap.size)
    (h : ∀ v' w', w'.ownsRow base e size v' (n + m) (xs ++ news) → w.grownBy w' v.ownBlock → K (a.put o.dst v') w') :
    if Region.wanted o (yielded ops a.tmps) = true then Oper.wp P o a w K Q else E := by
  have hw : Region.wanted o (yielded ops a.tmps) = true := by simp [Region.wanted, hgd]
  rw [if_pos hw]
  obtain ⟨ao, c, rfl, hl, h0, hc⟩ := hsrc
  cases ao with
  | some ad => exact wp_append_own w s x t ho base e i z size bytes ht hi hz hsize hby hzs hsz v n xs hs hown ad m c news hx hl (hc ad rfl) h1 h63 hbytes hbase fun v' w' h2 h3 _ => h v' w' h2 h3
  | none =>
    obtain rfl := h0 rfl
    obtain rfl : news = [] := List.eq_nil_of_length_eq_zero (by simpa using hl)
    have hrun := run_append_nothing (P := P) w base t o.type e i size ht hi v n xs hown c
    unfold Oper.wp
    simp [execOp, ho, resolve, invoke, builtin, hs, hx, hrun, Result.andThen]
    exact h v w (by simpa using hown) (World.grownBy.refl w _)
end
end Go.Proofs.Ytlgoeegpgcilbaa

namespace Go
end Go
/-
  States, as they lie in a world; what run.cell and run.withCell answer.
-/
namespace Go.Proofs.Ytlgoeegpgcilbaa
open Go.ChangeShapes Go.WideShapes Go.ChangeAt Go.RowKit
set_option maxRecDepth 20000

/-- A state. -/
structure St where
  a : Nat
  x : Nat
  m : List Nat
deriving DecidableEq
def St.ok (s : St) : Prop := s.a ≤ 4294967295 ∧ s.x ≤ 4294967295 ∧ s.m.length = 16 ∧ ∀ v ∈ s.m, v ≤ 4294967295
/-- What is in a cell; 0, if there is none. -/
def mAt (m : List Nat) (i : Nat) : Nat := m.getD i 0
theorem mAt_out {m : List Nat} {k : Nat} (h : m.length ≤ k) : mAt m k = 0 := by
  unfold mAt
  rw [List.getD_eq_getElem?_getD, List.getElem?_eq_none h]
  rfl
theorem mAt_set {m : List Nat} (k v i : Nat) (hk : k < m.length) : mAt (m.set k v) i = if i = k then v else mAt m i := by
  unfold mAt
  rw [List.getD_eq_getElem?_getD, List.getD_eq_getElem?_getD]
  by_cases h : i = k
  · subst h
    rw [if_pos rfl, List.getElem?_set_self hk]
    rfl
  · rw [if_neg h, List.getElem?_set_ne (by omega)]
/-! ### Rows of a call's own: one that has been written -/
/-- 'w' is written in one row alone, which then holds 'o'. -/
structure RowPut (w w' : World) (g : Nat) (o : Obj) : Prop where
  os : w'.os = w.os
  tape : w'.tape = w.tape
  output : w'.output = w.output
  size : w'.heap.size = w.heap.size
  row : w'.heap[g]? = some o
  rest : ∀ k, k ≠ g → w'.heap[k]? = w.heap[k]?
theorem RowPut.below {w w' a : World} {g B : Nat} {o : Obj} (h : RowPut w w' g o) (hb : Below B a w) (hg : B ≤ g) : Below B a w' :=
  ⟨h.os.trans hb.os, h.tape.trans hb.tape, h.output.trans hb.output, by rw [h.size]; exact hb.size, fun k hk => (h.rest k (by omega)).trans (hb.block k hk)⟩
theorem RowPut.keep {w w' : World} {g k : Nat} {o o' : Obj} (h : RowPut w w' g o) (hk : k ≠ g) (ho : w.heap[k]? = some o') : w'.heap[k]? = some o' := (h.rest k hk).trans ho
theorem rowPut_set {w : World} {g : Nat} {old : Array Value} {t : TypeId} (hg : w.heap[g]? = some (.cells old t)) (cs : Array Value) : RowPut w (w.setRow g cs) g (.cells cs t) :=
  ⟨rfl, rfl, rfl, by unfold World.setRow; simp, setRow_heap w g old cs t (0, 0) hg, fun k hk => setRow_other w g k cs hk⟩
section
variable {ops : Array Oper} {rest : List Oper} {o : Oper} {a : Act} {w : World} {Q : Exit → Act → World → Prop}
end
theorem ka {w : World} {g : Nat} {o : Obj} (o' : Obj) (h : w.heap[g]? = some o) : (w.alloc o').heap[g]? = some o := (Below.heap_alloc w o' g (lt_of_block h)).trans h

theorem kb {w w' : World} {g : Nat} {o : Obj} (hb : Below w.heap.size w w') (h : w.heap[g]? = some o) : w'.heap[g]? = some o := (hb.block _ (lt_of_block h)).trans h
/-- Blocks that a call lays at its head. -/
theorem box2 (w : World) (A B : Obj) : ∃ W, W = (w.alloc A).alloc B ∧ W.heap[w.heap.size]? = some A ∧ W.heap[w.heap.size + 1]? = some B ∧ Below w.heap.size w W :=
  ⟨_, rfl, ka _ (heap_alloc_new _ _), by have h := heap_alloc_new (w.alloc A) B; rw [size_alloc] at h; exact h, ba _ (ba _ (Below.refl _ _))⟩
theorem box3 (w : World) (A B C : Obj) : ∃ W, W = ((w.alloc A).alloc B).alloc C ∧ W.heap[w.heap.size]? = some A ∧ W.heap[w.heap.size + 1]? = some B ∧ W.heap[w.heap.size + 2]? = some C ∧ Below w.heap.size w W := by
  obtain ⟨W, hW, h0, h1, hb⟩ := box2 w A B
  refine ⟨_, rfl, ?_, ?_, ?_, ?_⟩
  · rw [← hW]; exact ka _ h0
  · rw [← hW]; exact ka _ h1
  · have h := heap_alloc_new ((w.alloc A).alloc B) C
    rw [size_alloc, size_alloc] at h
    exact h
  · rw [← hW]; exact ba _ hb
theorem box4 (w : World) (A B C D : Obj) : ∃ W, W = (((w.alloc A).alloc B).alloc C).alloc D ∧ W.heap[w.heap.size]? = some A ∧ W.heap[w.heap.size + 1]? = some B ∧ W.heap[w.heap.size + 2]? = some C ∧ W.heap[w.heap.size + 3]? = some D ∧ Below w.heap.size w W := by
  obtain ⟨W, hW, h0, h1, h2, hb⟩ := box3 w A B C
  refine ⟨_, rfl, ?_, ?_, ?_, ?_, ?_⟩
  · rw [← hW]; exact ka _ h0
  · rw [← hW]; exact ka _ h1
  · rw [← hW]; exact ka _ h2
  · have h := heap_alloc_new (((w.alloc A).alloc B).alloc C) D
    rw [size_alloc, size_alloc, size_alloc] at h
    exact h
  · rw [← hW]; exact ba _ hb

end Go.Proofs.Ytlgoeegpgcilbaa
/-
  Forms bit by bit (plain): values, which variables count, that forms that are right and have the same values are the same, what is done with two forms.
-/
namespace Go.Proofs.Ytlgoeegpgcilbaa
namespace Bf
set_option maxRecDepth 20000

structure BF where
  vs : List Nat
  tb : List Nat
deriving DecidableEq
/-- The number of the table's word for bit i. -/
def idxF (vs : List Nat) (v : Nat → Nat) (i : Nat) : Nat := maskN (fun j => (v (mAt vs j)).testBit i) vs.length
def valF (f : BF) (v : Nat → Nat) : Nat := maskN (fun i => (mAt f.tb (idxF f.vs v i)).testBit i) 32
/-- A list that rises. -/
def Rise (l : List Nat) : Prop := ∀ j k, j < k → k < l.length → mAt l j < mAt l k
structure Fine (f : BF) : Prop where
  rise : Rise f.vs
  small : ∀ j, j < f.vs.length → mAt f.vs j < 34
  most : f.vs.length ≤ 4
  size : f.tb.length = 2 ^ f.vs.length
  words : ∀ n, mAt f.tb n < 4294967296
def Counts (f : BF) (j : Nat) : Prop := ∃ n, n < 2 ^ f.vs.length ∧ mAt f.tb n ≠ mAt f.tb (n ^^^ 2 ^ j)
structure Valid (f : BF) : Prop extends Fine f where
  counts : ∀ j, j < f.vs.length → Counts f j

theorem Rise.inj {l : List Nat} (h : Rise l) {j k : Nat} (hj : j < l.length) (hk : k < l.length) (e : mAt l j = mAt l k) : j = k := by
  rcases Nat.lt_trichotomy j k with c | c | c
  · have := h j k c hk; omega
  · exact c
  · have := h k j c hj; omega
theorem mAt_of_mem {l : List Nat} {x : Nat} (h : x ∈ l) : ∃ j, j < l.length ∧ mAt l j = x := by
  obtain ⟨j, hj, rfl⟩ := List.getElem_of_mem h
  exact ⟨j, hj, mAt_get' hj⟩
where
  mAt_get' {l : List Nat} {i : Nat} (h : i < l.length) : mAt l i = l[i] := by
    unfold mAt
    rw [List.getD_eq_getElem?_getD, List.getElem?_eq_getElem h]
    rfl
theorem mem_mAt {l : List Nat} {j : Nat} (h : j < l.length) : mAt l j ∈ l := by
  rw [mAt_of_mem.mAt_get' h]
  exact List.getElem_mem h

/-! ### Assignments by a number -/
def asgF (vs : List Nat) (n : Nat) (x : Nat) : Nat := if (List.range vs.length).any (fun j => mAt vs j == x && n.testBit j) then 4294967295 else 0
theorem asg_at {vs : List Nat} (h : Rise vs) (n : Nat) {j : Nat} (hj : j < vs.length) : asgF vs n (mAt vs j) = if n.testBit j then 4294967295 else 0 := by
  unfold asgF
  congr 1
  apply propext
  rw [List.any_eq_true]
  constructor
  · rintro ⟨k, hk, hb⟩
    have hk := List.mem_range.1 hk
    simp only [Bool.and_eq_true, beq_iff_eq] at hb
    rw [← h.inj hk hj hb.1]
    exact hb.2
  · intro hb
    exact ⟨j, List.mem_range.2 hj, by simp [hb]⟩
theorem asg_out {vs : List Nat} (n : Nat) {x : Nat} (hx : x ∉ vs) : asgF vs n x = 0 := by
  unfold asgF
  rw [if_neg]
  rw [List.any_eq_true]
  rintro ⟨k, hk, hb⟩
  simp only [Bool.and_eq_true, beq_iff_eq] at hb
  exact hx (hb.1 ▸ mem_mAt (List.mem_range.1 hk))
theorem ones_bit {i : Nat} (h : i < 32) : (4294967295 : Nat).testBit i = true := by
  have e : (4294967295 : Nat) = 2 ^ 32 - 1 := by decide
  rw [e, Nat.testBit_two_pow_sub_one, decide_eq_true h]
theorem asg_bit {vs : List Nat} (h : Rise vs) (n : Nat) {j i : Nat} (hj : j < vs.length) (hi : i < 32) : (asgF vs n (mAt vs j)).testBit i = n.testBit j := by
  rw [asg_at h n hj]
  cases n.testBit j
  · simp
  · rw [if_pos rfl, ones_bit hi]
theorem idx_lt (vs : List Nat) (v : Nat → Nat) (i : Nat) : idxF vs v i < 2 ^ vs.length := maskN_lt _ _
theorem idx_bit (vs : List Nat) (v : Nat → Nat) (i j : Nat) : (idxF vs v i).testBit j = (decide (j < vs.length) && (v (mAt vs j)).testBit i) := maskN_test _ _ _
theorem idx_asg {vs : List Nat} (h : Rise vs) {n : Nat} (hn : n < 2 ^ vs.length) {i : Nat} (hi : i < 32) : idxF vs (asgF vs n) i = n := by
  apply Nat.eq_of_testBit_eq
  intro j
  rw [idx_bit]
  by_cases hj : j < vs.length
  · rw [decide_eq_true hj, Bool.true_and, asg_bit h n hj hi]
  · rw [decide_eq_false hj, Bool.false_and, Nat.testBit_lt_two_pow (Nat.lt_of_lt_of_le hn (Nat.pow_le_pow_right (by omega) (by omega)))]
theorem val_bit (f : BF) (v : Nat → Nat) (i : Nat) : (valF f v).testBit i = (decide (i < 32) && (mAt f.tb (idxF f.vs v i)).testBit i) := maskN_test _ _ _
theorem val_lt (f : BF) (v : Nat → Nat) : valF f v < 4294967296 := maskN_lt _ 32
theorem idx_congr {vs : List Nat} {v v' : Nat → Nat} {i : Nat} (h : ∀ j, j < vs.length → (v (mAt vs j)).testBit i = (v' (mAt vs j)).testBit i) : idxF vs v i = idxF vs v' i := maskN_congr _ h
theorem val_congr {f : BF} {v v' : Nat → Nat} (h : ∀ j, j < f.vs.length → v (mAt f.vs j) = v' (mAt f.vs j)) : valF f v = valF f v' := by
  apply Nat.eq_of_testBit_eq
  intro i
  rw [val_bit, val_bit, idx_congr fun j hj => by rw [h j hj]]
theorem val_asg {f : BF} (h : Fine f) {n : Nat} (hn : n < 2 ^ f.vs.length) : valF f (asgF f.vs n) = mAt f.tb n := by
  apply Nat.eq_of_testBit_eq
  intro i
  rw [val_bit]
  by_cases hi : i < 32
  · rw [decide_eq_true hi, Bool.true_and, idx_asg h.rise hn hi]
  · rw [decide_eq_false hi, Bool.false_and, Nat.testBit_lt_two_pow (Nat.lt_of_lt_of_le (h.words n) (show 2 ^ 32 ≤ 2 ^ i from Nat.pow_le_pow_right (by omega) (by omega)))]

/-! ### Forms that are right and have the same values -/
theorem turn_lt {n j k : Nat} (hn : n < 2 ^ k) (hj : j < k) : n ^^^ 2 ^ j < 2 ^ k := Nat.xor_lt_two_pow hn (Nat.pow_lt_pow_right (by omega) hj)
theorem turn_bit (n j k : Nat) : (n ^^^ 2 ^ j).testBit k = (n.testBit k != decide (j = k)) := by
  rw [Nat.testBit_xor, Nat.testBit_two_pow]
theorem vars_sub {f g : BF} (hf : Valid f) (h : ∀ v, valF f v = valF g v) {j : Nat} (hj : j < f.vs.length) : mAt f.vs j ∈ g.vs := by
  refine Classical.byContradiction fun hx => ?_
  obtain ⟨n, hn, hne⟩ := hf.counts j hj
  refine hne ?_
  rw [← val_asg hf.toFine hn, ← val_asg hf.toFine (turn_lt hn hj), h, h]
  refine val_congr fun k hk => ?_
  by_cases hy : mAt g.vs k ∈ f.vs
  · obtain ⟨m, hm, he⟩ := mAt_of_mem hy
    rw [← he, asg_at hf.rise _ hm, asg_at hf.rise _ hm, turn_bit]
    have : ¬ j = m := fun e => hx (by rw [e, he]; exact mem_mAt hk)
    rw [decide_eq_false this, Bool.bne_false]
  · rw [asg_out _ hy, asg_out _ hy]
theorem rise_tail {a : Nat} {l : List Nat} (h : Rise (a :: l)) : Rise l := fun j k hjk hk => h (j + 1) (k + 1) (by omega) (by simp; omega)
theorem rise_head {a : Nat} {l : List Nat} (h : Rise (a :: l)) {x : Nat} (hx : x ∈ l) : a < x := by
  obtain ⟨j, hj, rfl⟩ := mAt_of_mem hx
  exact h 0 (j + 1) (by omega) (by simp; omega)
theorem rise_eq : ∀ {l m : List Nat}, Rise l → Rise m → (∀ x, x ∈ l ↔ x ∈ m) → l = m
  | [], [], _, _, _ => rfl
  | [], b :: m, _, _, h => by have := (h b).2 (List.mem_cons_self ..); simp at this
  | a :: l, [], _, _, h => by have := (h a).1 (List.mem_cons_self ..); simp at this
  | a :: l, b :: m, hl, hm, h => by
    have e : a = b := by
      rcases List.mem_cons.1 ((h a).1 (List.mem_cons_self ..)) with e | ha
      · exact e
      · rcases List.mem_cons.1 ((h b).2 (List.mem_cons_self ..)) with e | hb
        · exact e.symm
        · have := rise_head hm ha
          have := rise_head hl hb
          omega
    subst e
    refine congrArg (a :: ·) (rise_eq (rise_tail hl) (rise_tail hm) fun x => ⟨fun hx => ?_, fun hx => ?_⟩)
    · rcases List.mem_cons.1 ((h x).1 (List.mem_cons_of_mem _ hx)) with e | hx2
      · have := rise_head hl hx; omega
      · exact hx2
    · rcases List.mem_cons.1 ((h x).2 (List.mem_cons_of_mem _ hx)) with e | hx2
      · have := rise_head hm hx; omega
      · exact hx2
theorem ext_list {l l' : List Nat} (hl : l.length = l'.length) (h : ∀ i, i < l.length → mAt l i = mAt l' i) : l = l' := by
  refine List.ext_getElem hl fun i h1 h2 => ?_
  have := h i h1
  rwa [mAt_of_mem.mAt_get' h1, mAt_of_mem.mAt_get' h2] at this
/-- P15.4. -/
theorem unique {f g : BF} (hf : Valid f) (hg : Valid g) (h : ∀ v, valF f v = valF g v) : f = g := by
  have e : f.vs = g.vs := rise_eq hf.rise hg.rise fun x => ⟨fun hx => by
    obtain ⟨j, hj, rfl⟩ := mAt_of_mem hx
    exact vars_sub hf h hj, fun hx => by
    obtain ⟨j, hj, rfl⟩ := mAt_of_mem hx
    exact vars_sub hg (fun v => (h v).symm) hj⟩
  obtain ⟨fv, ft⟩ := f
  obtain ⟨gv, gt⟩ := g
  have e : fv = gv := e
  subst e
  have ht : ft = gt := ext_list (hf.size.trans hg.size.symm) fun n hn => by
    have hn : n < 2 ^ fv.length := hf.size ▸ hn
    have h1 := val_asg hf.toFine hn
    have h2 := val_asg hg.toFine hn
    rw [h] at h1
    exact h1.symm.trans h2
  rw [ht]

/-! ### A form over more variables -/
/-- The variables of both. -/
def bothF (a b : List Nat) : List Nat := (List.range 34).filter fun x => a.contains x || b.contains x
theorem both_mem {a b : List Nat} {x : Nat} : x ∈ bothF a b ↔ x < 34 ∧ (x ∈ a ∨ x ∈ b) := by
  unfold bothF
  rw [List.mem_filter, List.mem_range, Bool.or_eq_true, List.contains_iff_mem, List.contains_iff_mem]
theorem rise_of {l : List Nat} (h : l.Pairwise (· < ·)) : Rise l := fun j k hjk hk => by
  rw [mAt_of_mem.mAt_get' (Nat.lt_trans hjk hk), mAt_of_mem.mAt_get' hk]
  exact List.pairwise_iff_getElem.1 h j k _ _ hjk
theorem both_rise (a b : List Nat) : Rise (bothF a b) := rise_of (List.Pairwise.filter _ List.pairwise_lt_range)
theorem asg_over {U : List Nat} (hU : Rise U) (v : Nat → Nat) {x i : Nat} (hx : x ∈ U) (hi : i < 32) : (asgF U (idxF U v i) x).testBit i = (v x).testBit i := by
  obtain ⟨j, hj, rfl⟩ := mAt_of_mem hx
  rw [asg_bit hU _ hj hi, idx_bit, decide_eq_true hj, Bool.true_and]
theorem val_over {U : List Nat} (hU : Rise U) {f : BF} (hs : ∀ j, j < f.vs.length → mAt f.vs j ∈ U) (v : Nat → Nat) {i : Nat} (hi : i < 32) :
    (valF f (asgF U (idxF U v i))).testBit i = (valF f v).testBit i := by
  rw [val_bit, val_bit, idx_congr fun j hj => asg_over hU v (hs j hj) hi]
/-- Where no number tells two forms apart, nothing does. -/
theorem alike_all {U : List Nat} (hU : Rise U) {f g : BF} (hf : ∀ j, j < f.vs.length → mAt f.vs j ∈ U) (hg : ∀ j, j < g.vs.length → mAt g.vs j ∈ U)
    (h : ∀ n, n < 2 ^ U.length → valF f (asgF U n) = valF g (asgF U n)) (v : Nat → Nat) : valF f v = valF g v := by
  apply Nat.eq_of_testBit_eq
  intro i
  by_cases hi : i < 32
  · rw [← val_over hU hf v hi, ← val_over hU hg v hi, h _ (idx_lt U v i)]
  · rw [val_bit, val_bit, decide_eq_false hi, Bool.false_and, Bool.false_and]
end Bf
end Go.Proofs.Ytlgoeegpgcilbaa
/-
  What is done with two forms (plain): a variable that does not count is left out; the form that is right.
-/
namespace Go.Proofs.Ytlgoeegpgcilbaa
namespace Bf
set_option maxRecDepth 20000

/-- A number with a 0 put in as its bit j. -/
def ins (j m : Nat) : Nat := m % 2 ^ j + m / 2 ^ j * 2 ^ (j + 1)
theorem ins_bit (j m k : Nat) : (ins j m).testBit k = if k < j then m.testBit k else if k = j then false else m.testBit (k - 1) := by
  have h1 : m % 2 ^ j < 2 ^ (j + 1) := Nat.lt_of_lt_of_le (Nat.mod_lt _ (Nat.two_pow_pos j)) (Nat.pow_le_pow_right (by omega) (by omega))
  unfold ins
  rw [Nat.add_comm, Nat.mul_comm, Nat.testBit_two_pow_mul_add _ h1]
  by_cases hk : k < j
  · rw [if_pos (by omega), if_pos hk, Nat.testBit_mod_two_pow, decide_eq_true hk, Bool.true_and]
  · rw [if_neg hk]
    by_cases e : k = j
    · rw [if_pos e, if_pos (by omega), Nat.testBit_mod_two_pow, decide_eq_false hk, Bool.false_and]
    · rw [if_neg e, if_neg (by omega), Nat.testBit_div_two_pow]
      congr 1
      omega
/-- A list without its element j. -/
theorem erase_at (l : List Nat) (j k : Nat) : mAt (l.eraseIdx j) k = if k < j then mAt l k else mAt l (k + 1) := by
  unfold mAt
  rw [List.getD_eq_getElem?_getD, List.getElem?_eraseIdx]
  split
  · rw [List.getD_eq_getElem?_getD]
  · rw [List.getD_eq_getElem?_getD]
/-- A form without its variable j. -/
def dropF (f : BF) (j : Nat) : BF := ⟨f.vs.eraseIdx j, (List.range (2 ^ (f.vs.length - 1))).map fun m => mAt f.tb (ins j m)⟩
theorem drop_len {f : BF} {j : Nat} (hj : j < f.vs.length) : (dropF f j).vs.length = f.vs.length - 1 := List.length_eraseIdx_of_lt hj
theorem drop_tb {f : BF} {j m : Nat} (hm : m < 2 ^ (f.vs.length - 1)) : mAt (dropF f j).tb m = mAt f.tb (ins j m) := by
  rw [mAt_of_mem.mAt_get' (by simp [dropF]; exact hm)]
  simp [dropF]
theorem drop_idx {f : BF} {j : Nat} (hj : j < f.vs.length) (v : Nat → Nat) (i : Nat) :
    ins j (idxF (dropF f j).vs v i) = if (v (mAt f.vs j)).testBit i then idxF f.vs v i ^^^ 2 ^ j else idxF f.vs v i := by
  apply Nat.eq_of_testBit_eq
  intro k
  rw [ins_bit]
  have hl := drop_len hj
  have key : ∀ k, k ≠ j → (if k < j then (idxF (dropF f j).vs v i).testBit k else (idxF (dropF f j).vs v i).testBit (k - 1)) = (idxF f.vs v i).testBit k := by
    intro k hk
    by_cases h : k < j
    · rw [if_pos h, idx_bit, idx_bit, hl]
      show (decide (k < f.vs.length - 1) && (v (mAt (f.vs.eraseIdx j) k)).testBit i) = _
      rw [erase_at, if_pos h, decide_eq_true (show k < f.vs.length - 1 by omega), decide_eq_true (show k < f.vs.length by omega)]
    · rw [if_neg h, idx_bit, idx_bit, hl]
      show (decide (k - 1 < f.vs.length - 1) && (v (mAt (f.vs.eraseIdx j) (k - 1))).testBit i) = _
      rw [erase_at, if_neg (by omega), show k - 1 + 1 = k by omega]
      by_cases hh : k < f.vs.length
      · rw [decide_eq_true (show k - 1 < f.vs.length - 1 by omega), decide_eq_true hh]
      · rw [decide_eq_false (show ¬ k - 1 < f.vs.length - 1 by omega), decide_eq_false hh]
  have hjb : (idxF f.vs v i).testBit j = (v (mAt f.vs j)).testBit i := by rw [idx_bit, decide_eq_true hj, Bool.true_and]
  by_cases e : k = j
  · subst e
    rw [if_neg (by omega), if_pos rfl]
    cases hb : (v (mAt f.vs k)).testBit i
    · rw [if_neg (by decide), hjb, hb]
    · rw [if_pos rfl, turn_bit, hjb, hb, decide_eq_true rfl]
      rfl
  · have hkk := key k e
    have hs : (if k < j then (idxF (dropF f j).vs v i).testBit k else if k = j then false else (idxF (dropF f j).vs v i).testBit (k - 1)) = (idxF f.vs v i).testBit k := by
      rw [← hkk]
      by_cases h : k < j
      · rw [if_pos h, if_pos h]
      · rw [if_neg h, if_neg h, if_neg e]
    rw [hs]
    cases (v (mAt f.vs j)).testBit i
    · rw [if_neg (by decide)]
    · rw [if_pos rfl, turn_bit, decide_eq_false (fun h => e h.symm), Bool.bne_false]
theorem alike {f : BF} {j n : Nat} (hc : ¬ Counts f j) (hn : n < 2 ^ f.vs.length) : mAt f.tb (n ^^^ 2 ^ j) = mAt f.tb n :=
  Classical.byContradiction fun h => hc ⟨n, hn, fun e => h e.symm⟩
theorem drop_val {f : BF} {j : Nat} (hj : j < f.vs.length) (hc : ¬ Counts f j) (v : Nat → Nat) : valF (dropF f j) v = valF f v := by
  apply Nat.eq_of_testBit_eq
  intro i
  have hm : idxF (dropF f j).vs v i < 2 ^ (f.vs.length - 1) := by rw [← drop_len hj]; exact idx_lt _ _ _
  rw [val_bit, val_bit, drop_tb hm, drop_idx hj]
  cases (v (mAt f.vs j)).testBit i
  · rw [if_neg (by decide)]
  · rw [if_pos rfl, alike hc (idx_lt _ _ _)]
theorem drop_fine {f : BF} {j : Nat} (hf : Fine f) (hj : j < f.vs.length) : Fine (dropF f j) := by
  have hl := drop_len (f := f) hj
  refine ⟨fun a b hab hb => ?_, fun k hk => ?_, by rw [hl]; have := hf.most; omega, by rw [hl]; simp [dropF], fun n => ?_⟩
  · rw [hl] at hb
    show mAt (f.vs.eraseIdx j) a < mAt (f.vs.eraseIdx j) b
    rw [erase_at, erase_at]
    split
    · split
      · exact hf.rise _ _ hab (by omega)
      · exact hf.rise _ _ (by omega) (by omega)
    · split
      · exact hf.rise _ _ (by omega) (by omega)
      · exact hf.rise _ _ (by omega) (by omega)
  · rw [hl] at hk
    show mAt (f.vs.eraseIdx j) k < 34
    rw [erase_at]
    split
    · exact hf.small _ (by omega)
    · exact hf.small _ (by omega)
  · by_cases h : n < 2 ^ (f.vs.length - 1)
    · rw [drop_tb h]
      exact hf.words _
    · rw [mAt_out (by simp [dropF]; omega)]
      omega
/-- The part of a number without its bit j. -/
def del (j n : Nat) : Nat := n % 2 ^ j + n / 2 ^ (j + 1) * 2 ^ j
theorem del_bit (j n k : Nat) : (del j n).testBit k = if k < j then n.testBit k else n.testBit (k + 1) := by
  unfold del
  rw [Nat.add_comm, Nat.mul_comm, Nat.testBit_two_pow_mul_add _ (Nat.mod_lt _ (Nat.two_pow_pos j))]
  by_cases hk : k < j
  · rw [if_pos hk, if_pos hk, Nat.testBit_mod_two_pow, decide_eq_true hk, Bool.true_and]
  · rw [if_neg hk, if_neg hk, Nat.testBit_div_two_pow]
    congr 1
    omega
theorem del_lt {j n l : Nat} (hn : n < 2 ^ (l + 1)) (hj : j ≤ l) : del j n < 2 ^ l := by
  refine Nat.lt_pow_two_of_testBit _ fun k hk => ?_
  rw [del_bit, if_neg (by omega)]
  exact Nat.testBit_lt_two_pow (Nat.lt_of_lt_of_le hn (Nat.pow_le_pow_right (by omega) (by omega)))
theorem ins_del (j n : Nat) : ins j (del j n) = if n.testBit j then n ^^^ 2 ^ j else n := by
  apply Nat.eq_of_testBit_eq
  intro k
  rw [ins_bit, del_bit]
  have hr : (if n.testBit j = true then n ^^^ 2 ^ j else n).testBit k = if k = j then false else n.testBit k := by
    by_cases e : k = j
    · subst e
      rw [if_pos rfl]
      cases h : n.testBit k
      · rw [if_neg (by decide), h]
      · rw [if_pos rfl, turn_bit, h, decide_eq_true rfl]
        rfl
    · rw [if_neg e]
      cases n.testBit j
      · rw [if_neg (by decide)]
      · rw [if_pos rfl, turn_bit, decide_eq_false (fun h => e h.symm), Bool.bne_false]
  rw [hr]
  by_cases h : k < j
  · rw [if_pos h, if_pos h, if_neg (by omega)]
  · rw [if_neg h]
    by_cases e : k = j
    · rw [if_pos e, if_pos e]
    · rw [if_neg e, if_neg e, del_bit, if_neg (by omega), show k - 1 + 1 = k by omega]
theorem ins_turn (j m k : Nat) (h : j ≤ k) : ins j (m ^^^ 2 ^ k) = ins j m ^^^ 2 ^ (k + 1) := by
  apply Nat.eq_of_testBit_eq
  intro a
  rw [ins_bit, turn_bit, turn_bit, turn_bit, ins_bit]
  by_cases h1 : a < j
  · rw [if_pos h1, if_pos h1, decide_eq_false (show ¬ k = a by omega), decide_eq_false (show ¬ k + 1 = a by omega)]
  · rw [if_neg h1, if_neg h1]
    by_cases h2 : a = j
    · rw [if_pos h2, if_pos h2, decide_eq_false (show ¬ k + 1 = a by omega)]
      rfl
    · rw [if_neg h2, if_neg h2]
      congr 1
      by_cases h3 : k + 1 = a
      · rw [decide_eq_true h3, decide_eq_true (show k = a - 1 by omega)]
      · rw [decide_eq_false h3, decide_eq_false (show ¬ k = a - 1 by omega)]
/-- A variable behind the one that is left out counts as it did. -/
theorem drop_counts {f : BF} {j k : Nat} (hj : j < f.vs.length) (hc : ¬ Counts f j) (hjk : j ≤ k) (hk : k + 1 < f.vs.length) (h : Counts f (k + 1)) : Counts (dropF f j) k := by
  obtain ⟨n, hn, hne⟩ := h
  have hl := drop_len (f := f) hj
  obtain ⟨l, hll⟩ : ∃ l, f.vs.length = l + 1 := ⟨f.vs.length - 1, by omega⟩
  have hd : del j n < 2 ^ (f.vs.length - 1) := by
    rw [hll] at hn ⊢
    exact del_lt hn (by omega)
  have hd2 : del j n ^^^ 2 ^ k < 2 ^ (f.vs.length - 1) := turn_lt hd (by omega)
  have hin : ∀ n, n < 2 ^ f.vs.length → mAt f.tb (ins j (del j n)) = mAt f.tb n := fun n hn => by
    rw [ins_del]
    cases n.testBit j
    · rw [if_neg (by decide)]
    · rw [if_pos rfl, alike hc hn]
  refine ⟨del j n, by rw [hl]; exact hd, ?_⟩
  rw [drop_tb hd, drop_tb hd2, ins_turn j _ k hjk, hin n hn]
  have ht : mAt f.tb (ins j (del j n) ^^^ 2 ^ (k + 1)) = mAt f.tb (n ^^^ 2 ^ (k + 1)) := by
    rw [ins_del]
    cases n.testBit j
    · rw [if_neg (by decide)]
    · rw [if_pos rfl, show n ^^^ 2 ^ j ^^^ 2 ^ (k + 1) = n ^^^ 2 ^ (k + 1) ^^^ 2 ^ j by rw [Nat.xor_assoc, Nat.xor_comm (2 ^ j), ← Nat.xor_assoc], alike hc (turn_lt hn hk)]
  rw [ht]
  exact hne

/-! ### Until all variables count -/
open Classical in
/-- The variables below j are looked at, the last one first. -/
noncomputable def shrinkF (f : BF) : Nat → BF
  | 0 => f
  | j + 1 => shrinkF (if Counts f j then f else dropF f j) j
theorem shrink_is : ∀ (j : Nat) (f : BF), Fine f → j ≤ f.vs.length → (∀ k, j ≤ k → k < f.vs.length → Counts f k) → Valid (shrinkF f j) ∧ ∀ v, valF (shrinkF f j) v = valF f v
  | 0, f, hf, _, hc => ⟨⟨hf, fun k hk => hc k (by omega) hk⟩, fun _ => rfl⟩
  | j + 1, f, hf, hj, hc => by
    unfold shrinkF
    by_cases h : Counts f j
    · rw [if_pos h]
      exact shrink_is j f hf (by omega) fun k hk hkl => by
        rcases Nat.lt_or_eq_of_le hk with h2 | rfl
        · exact hc k h2 hkl
        · exact h
    · rw [if_neg h]
      have hl := drop_len (f := f) (show j < f.vs.length by omega)
      obtain ⟨h1, h2⟩ := shrink_is j (dropF f j) (drop_fine hf (by omega)) (by omega) fun k hk hkl => drop_counts (by omega) h hk (by omega) (hc (k + 1) (by omega) (by omega))
      exact ⟨h1, fun v => (h2 v).trans (drop_val (by omega) h v)⟩

/-! ### What is done -/
def opK (k : Int) (a b : Nat) : Nat := if k = 68 then a ||| b else if k = 84 then a &&& b else a ^^^ b
def isK (k : Int) : Prop := k = 68 ∨ k = 84 ∨ k = 164
theorem op_bit (k : Int) (a b i : Nat) : (opK k a b).testBit i = if k = 68 then (a.testBit i || b.testBit i) else if k = 84 then (a.testBit i && b.testBit i) else (a.testBit i ^^ b.testBit i) := by
  unfold opK
  split
  · rw [Nat.testBit_or]
  · split
    · rw [Nat.testBit_and]
    · rw [Nat.testBit_xor]
theorem op_lt {k : Int} {a b : Nat} (ha : a < 4294967296) (hb : b < 4294967296) : opK k a b < 4294967296 := by
  unfold opK
  split
  · exact Nat.or_lt_two_pow (n := 32) ha hb
  · split
    · exact Nat.and_lt_two_pow (n := 32) a hb
    · exact Nat.xor_lt_two_pow (n := 32) ha hb
/-- The form over the variables of both. -/
def wideF (k : Int) (f g : BF) : BF := ⟨bothF f.vs g.vs, (List.range (2 ^ (bothF f.vs g.vs).length)).map fun n => opK k (valF f (asgF (bothF f.vs g.vs) n)) (valF g (asgF (bothF f.vs g.vs) n))⟩
theorem wide_tb {k : Int} {f g : BF} {n : Nat} (hn : n < 2 ^ (bothF f.vs g.vs).length) : mAt (wideF k f g).tb n = opK k (valF f (asgF (bothF f.vs g.vs) n)) (valF g (asgF (bothF f.vs g.vs) n)) := by
  rw [mAt_of_mem.mAt_get' (by simp [wideF]; exact hn)]
  simp [wideF]
theorem wide_fine {k : Int} {f g : BF} (h4 : (bothF f.vs g.vs).length ≤ 4) : Fine (wideF k f g) := by
  refine ⟨both_rise _ _, fun j hj => (both_mem.1 (mem_mAt hj)).1, h4, by simp [wideF], fun n => ?_⟩
  by_cases h : n < 2 ^ (bothF f.vs g.vs).length
  · rw [wide_tb h]
    exact op_lt (val_lt _ _) (val_lt _ _)
  · rw [mAt_out (by simp [wideF]; omega)]
    omega
theorem sub_left {f g : BF} (hf : Fine f) : ∀ j, j < f.vs.length → mAt f.vs j ∈ bothF f.vs g.vs := fun j hj => both_mem.2 ⟨hf.small j hj, .inl (mem_mAt hj)⟩
theorem sub_right {f g : BF} (hg : Fine g) : ∀ j, j < g.vs.length → mAt g.vs j ∈ bothF f.vs g.vs := fun j hj => both_mem.2 ⟨hg.small j hj, .inr (mem_mAt hj)⟩
theorem wide_val {k : Int} {f g : BF} (hf : Fine f) (hg : Fine g) (v : Nat → Nat) : valF (wideF k f g) v = opK k (valF f v) (valF g v) := by
  apply Nat.eq_of_testBit_eq
  intro i
  rw [val_bit, op_bit]
  by_cases hi : i < 32
  · rw [decide_eq_true hi, Bool.true_and]
    show (mAt (wideF k f g).tb (idxF (bothF f.vs g.vs) v i)).testBit i = _
    rw [wide_tb (idx_lt _ _ _), op_bit, val_over (both_rise _ _) (sub_left hf) v hi, val_over (both_rise _ _) (sub_right hg) v hi]
  · rw [decide_eq_false hi, Bool.false_and, val_bit, val_bit, decide_eq_false hi, Bool.false_and, Bool.false_and]
    simp
/-- P15.2: the form that is right. -/
noncomputable def doF (k : Int) (f g : BF) : BF := shrinkF (wideF k f g) (bothF f.vs g.vs).length
theorem do_is {k : Int} {f g : BF} (hf : Fine f) (hg : Fine g) (h4 : (bothF f.vs g.vs).length ≤ 4) : Valid (doF k f g) ∧ ∀ v, valF (doF k f g) v = opK k (valF f v) (valF g v) := by
  obtain ⟨h1, h2⟩ := shrink_is (bothF f.vs g.vs).length (wideF k f g) (wide_fine h4) (Nat.le_refl _) fun j h1 h2 => absurd h2 (Nat.not_lt.2 h1)
  exact ⟨h1, fun v => (h2 v).trans (wide_val hf hg v)⟩
theorem both_comm (a b : List Nat) : bothF a b = bothF b a := by
  unfold bothF
  congr 1
  funext x
  rw [Bool.or_comm]
theorem op_comm (k : Int) (a b : Nat) : opK k a b = opK k b a := by
  unfold opK
  split
  · exact Nat.or_comm a b
  · split
    · exact Nat.and_comm a b
    · exact Nat.xor_comm a b
theorem do_comm {k : Int} {f g : BF} (hf : Fine f) (hg : Fine g) (h4 : (bothF f.vs g.vs).length ≤ 4) : doF k f g = doF k g f := by
  have h1 := do_is (k := k) hf hg h4
  have h2 := do_is (k := k) hg hf (by rw [both_comm]; exact h4)
  exact unique h1.1 h2.1 fun v => by rw [h1.2, h2.2, op_comm]
theorem both_self {l : List Nat} (h : Rise l) (hs : ∀ j, j < l.length → mAt l j < 34) : bothF l l = l :=
  rise_eq (both_rise _ _) h fun x => ⟨fun hx => by rcases (both_mem.1 hx).2 with h | h <;> exact h, fun hx => by
    obtain ⟨j, hj, rfl⟩ := mAt_of_mem hx
    exact both_mem.2 ⟨hs j hj, .inl hx⟩⟩
def constB (c : Nat) : BF := ⟨[], [c]⟩
theorem const_valid {c : Nat} (hc : c < 4294967296) : Valid (constB c) := by
  refine ⟨⟨fun j k _ hk => by simp [constB] at hk, fun j hj => by simp [constB] at hj, by simp [constB], rfl, fun n => ?_⟩, fun j hj => by simp [constB] at hj⟩
  match n with
  | 0 => exact hc
  | n + 1 =>
    rw [mAt_out (by simp [constB])]
    omega
theorem const_val {c : Nat} (hc : c < 4294967296) (v : Nat → Nat) : valF (constB c) v = c :=
  (val_congr (v' := asgF [] 0) fun j hj => by simp [constB] at hj).trans (val_asg (const_valid hc).toFine (n := 0) (by simp [constB]))
/-- P15.5. -/
theorem do_self {f : BF} (hf : Valid f) : doF 68 f f = f ∧ doF 84 f f = f ∧ doF 164 f f = constB 0 := by
  have e := both_self hf.rise hf.small
  have h4 : (bothF f.vs f.vs).length ≤ 4 := by rw [e]; exact hf.most
  refine ⟨?_, ?_, ?_⟩
  · have h := do_is (k := 68) hf.toFine hf.toFine h4
    exact unique h.1 hf fun v => by rw [h.2]; simp [opK]
  · have h := do_is (k := 84) hf.toFine hf.toFine h4
    exact unique h.1 hf fun v => by rw [h.2]; simp [opK]
  · have h := do_is (k := 164) hf.toFine hf.toFine h4
    exact unique h.1 (const_valid (by omega)) fun v => by rw [h.2, const_val (by omega)]; simp [opK]
/-- P15.4: forms that are right and unlike are told apart by a number. -/
theorem told {f g : BF} (hf : Valid f) (hg : Valid g) (hne : ¬ f = g) : ∃ n, n < 2 ^ (bothF f.vs g.vs).length ∧ ¬ valF f (asgF (bothF f.vs g.vs) n) = valF g (asgF (bothF f.vs g.vs) n) :=
  Classical.byContradiction fun h => hne (unique hf hg (alike_all (both_rise _ _) (sub_left hf.toFine) (sub_right hg.toFine) fun n hn => Classical.byContradiction fun h2 => h ⟨n, hn, h2⟩))
end Bf
end Go.Proofs.Ytlgoeegpgcilbaa
/-
  Linear forms and assignments, as they lie in a world; what the document answers (plain).
-/
namespace Go.Proofs.Ytlgoeegpgcilbaa
open Go.ChangeShapes Go.WideShapes Go.ChangeAt Go.RowKit
set_option maxRecDepth 20000

/-! ### Numbers in a row -/
def ucells (l : List Nat) : List Value := l.map fun (n : Nat) => Value.int .u32 (n : Int)
/-- Numbers as cells (not to be opened by a walk). -/
def numsC (l : List Nat) : Array Value := (ucells l).toArray
theorem ucells_len (l : List Nat) : (ucells l).length = l.length := by simp [ucells]
theorem numsC_size (l : List Nat) : (numsC l).size = l.length := by simp [numsC, ucells]
theorem mAt_get {l : List Nat} {i : Nat} (h : i < l.length) : mAt l i = l[i] := by
  unfold mAt
  rw [List.getD_eq_getElem?_getD, List.getElem?_eq_getElem h]
  rfl
theorem numsC_at {l : List Nat} {i : Nat} (h : i < l.length) : (numsC l)[i]? = some (.int .u32 (mAt l i : Nat)) := by
  simp [numsC, ucells, mAt_get h, h]
theorem numsC_set (l : List Nat) (i v : Nat) : (numsC l).setIfInBounds i (.int .u32 (v : Int)) = numsC (l.set i v) := by
  simp [numsC, ucells, List.map_set]
theorem numsC_one (l : List Nat) : (numsC l).all (·.oneCell') = true := by
  simp [numsC, ucells, Value.oneCell']
theorem mAt_in {l : List Nat} {B : Nat} (h : ∀ n ∈ l, n < B) (hB : 0 < B) (i : Nat) : mAt l i < B := by
  by_cases hi : i < l.length
  · rw [mAt_get hi]
    exact h _ (List.getElem_mem hi)
  · rw [mAt_out (by omega)]
    exact hB
theorem ext_mAt {l l' : List Nat} (hl : l.length = l'.length) (h : ∀ i, i < l.length → mAt l i = mAt l' i) : l = l' := by
  refine List.ext_getElem hl fun i h1 h2 => ?_
  have := h i h1
  rwa [mAt_get h1, mAt_get h2] at this
/-- The first numbers of a row that is given by its numbers. -/
def segA (A : Nat → Nat) (k : Nat) : List Nat := (List.range k).map A
theorem segA_len (A : Nat → Nat) (k : Nat) : (segA A k).length = k := by simp [segA]
theorem segA_succ (A : Nat → Nat) (k : Nat) : segA A (k + 1) = segA A k ++ [A k] := by simp [segA, List.range_succ]
theorem segA_at {A : Nat → Nat} {k i : Nat} (h : i < k) : mAt (segA A k) i = A i := by
  rw [mAt_get (by rw [segA_len]; exact h)]
  simp [segA]
theorem ucells_app (a b : List Nat) : ucells (a ++ b) = ucells a ++ ucells b := by simp [ucells]

/-! ### Forms -/
/-- A form: its constant, then its 34 coefficients. -/
def FOk (f : List Nat) : Prop := f.length = 35 ∧ ∀ n ∈ f, n < 4294967296
/-- An assignment: 34 numbers. -/
def VOk (v : List Nat) : Prop := v.length = 34 ∧ ∀ n ∈ v, n < 4294967296
theorem FOk.lt {f : List Nat} (h : FOk f) (i : Nat) : mAt f i < 4294967296 := mAt_in h.2 (by omega) i
theorem VOk.lt {f : List Nat} (h : VOk f) (i : Nat) : mAt f i < 4294967296 := mAt_in h.2 (by omega) i
def formOf (A : Nat → Nat) : List Nat := segA A 35
theorem formOf_ok {A : Nat → Nat} (h : ∀ i, i < 35 → A i < 4294967296) : FOk (formOf A) := by
  refine ⟨by simp [formOf, segA], fun n hn => ?_⟩
  obtain ⟨i, hi, rfl⟩ := List.mem_map.1 hn
  exact h i (List.mem_range.1 hi)
theorem formOf_at {A : Nat → Nat} {i : Nat} (h : i < 35) : mAt (formOf A) i = A i := segA_at h
theorem form_ext {f g : List Nat} (hf : f.length = 35) (hg : g.length = 35) (h : ∀ i, i < 35 → mAt f i = mAt g i) : f = g := ext_mAt (by omega) (fun i hi => h i (by omega))
def constF (c : Nat) : List Nat := formOf fun i => if i = 0 then c else 0
def varF (n : Nat) : List Nat := formOf fun i => if i = n + 1 then 1 else 0
def zeros : List Nat := List.replicate 34 0
theorem constF_ok {c : Nat} (h : c < 4294967296) : FOk (constF c) := formOf_ok fun i _ => by split <;> omega
theorem varF_ok (n : Nat) : FOk (varF n) := formOf_ok fun i _ => by split <;> omega
theorem zeros_ok : VOk zeros := ⟨by simp [zeros], fun n hn => by rw [List.eq_of_mem_replicate hn]; omega⟩
theorem zeros_at (i : Nat) : mAt zeros i = 0 := by
  by_cases h : i < 34
  · rw [mAt_get (by simp [zeros]; exact h)]
    exact List.getElem_replicate _
  · exact mAt_out (by simp [zeros]; omega)
/-! ### Sums -/
/-! ### What tells two forms apart -/
/-! ### Numbers and variables -/
end Go.Proofs.Ytlgoeegpgcilbaa
/-
  Forms and assignments in a world: whole loads and stores, one number's store; rows of numbers; what == answers; forms as arguments.
-/
namespace Go.Proofs.Ytlgoeegpgcilbaa
open Go.ChangeShapes Go.WideShapes Go.ChangeAt Go.RowKit
set_option maxRecDepth 100000

abbrev formV (f : List Nat) : Value := .agg (numsC f)
abbrev formB (f : List Nat) : Obj := .cells (numsC f) 57
abbrev rowB (v : List Nat) : Obj := .cells (numsC v) 27
theorem infoF : (Try.prog.info? 57).map (·.size) = some 35 := by kernel_rfl
theorem infoV : (Try.prog.info? 27).map (·.size) = some 34 := by kernel_rfl
theorem infoN : (Try.prog.info? 26).map (fun i => (i.zero, i.size, i.bytes)) = some (some (.int .u32 0), 1, 4) := by kernel_rfl
section
variable {ops : Array Oper} {rest : List Oper} {o : Oper} {a : Act} {w : World} {Q : Exit → Act → World → Prop}
/-- A whole form is read. -/
theorem ld_form {g : Nat} {f : List Nat} {x : Operand} (hG : w.heap[g]? = some (formB f)) (hf : f.length = 35) (hgd : o.guard = none) (ho : o.op = .load 57 x) (hx : a.eval x = .pointer (some ⟨g, 0, none⟩))
    (h : wpList Try.prog ops Q rest (a.put o.dst (formV f)) w) : wpList Try.prog ops Q (o :: rest) a w :=
  wpList_load_row hgd 57 x ho g hx 57 (numsC f) (0, 0) _ hG Try.underlying57 rfl (by rw [numsC_size, hf]; exact infoF) h
/-- A whole form is written. -/
theorem st_form {g : Nat} {f : List Nat} {old : Array Value} {x y : Operand} (hG : w.heap[g]? = some (.cells old 57)) (hold : old.size = 35) (hf : f.length = 35) (hgd : o.guard = none) (ho : o.op = .store 57 x y) (hx : a.eval x = .pointer (some ⟨g, 0, none⟩)) (hy : a.eval y = formV f)
    (h : ∀ w', RowPut w w' g (formB f) → wpList Try.prog ops Q rest (a.put o.dst undef) w') : wpList Try.prog ops Q (o :: rest) a w :=
  wpList_store_row hgd 57 x y ho g (numsC f) hx hy 57 old hG (by rw [numsC_size, hf]; exact infoF) (by rw [numsC_size, hf]; exact hold) (numsC_one f) (h _ (rowPut_set hG _))
/-- A whole assignment is read. -/
theorem ld_row {g : Nat} {v : List Nat} {x : Operand} (hG : w.heap[g]? = some (rowB v)) (hv : v.length = 34) (hgd : o.guard = none) (ho : o.op = .load 27 x) (hx : a.eval x = .pointer (some ⟨g, 0, none⟩))
    (h : wpList Try.prog ops Q rest (a.put o.dst (formV v)) w) : wpList Try.prog ops Q (o :: rest) a w :=
  wpList_load_row hgd 27 x ho g hx 27 (numsC v) (0, 0) _ hG Try.underlying27 rfl (by rw [numsC_size, hv]; exact infoV) h
/-- A whole assignment is written. -/
theorem st_row {g : Nat} {v : List Nat} {old : Array Value} {x y : Operand} (hG : w.heap[g]? = some (.cells old 27)) (hold : old.size = 34) (hv : v.length = 34) (hgd : o.guard = none) (ho : o.op = .store 27 x y) (hx : a.eval x = .pointer (some ⟨g, 0, none⟩)) (hy : a.eval y = formV v)
    (h : ∀ w', RowPut w w' g (rowB v) → wpList Try.prog ops Q rest (a.put o.dst undef) w') : wpList Try.prog ops Q (o :: rest) a w :=
  wpList_store_row hgd 27 x y ho g (numsC v) hx hy 27 old hG (by rw [numsC_size, hv]; exact infoV) (by rw [numsC_size, hv]; exact hold) (numsC_one v) (h _ (rowPut_set hG _))
/-- One number of a row is written. -/
theorem st_num {g i n : Nat} {l : List Nat} {t : TypeId} {x y : Operand} (hG : w.heap[g]? = some (.cells (numsC l) t)) (hi : i < l.length) (hgd : o.guard = none) (ho : o.op = .store 26 x y) (hx : a.eval x = .pointer (some ⟨g, i, none⟩)) (hy : a.eval y = .int .u32 (n : Int))
    (h : ∀ w', RowPut w w' g (.cells (numsC (l.set i n)) t) → wpList Try.prog ops Q rest (a.put o.dst undef) w') : wpList Try.prog ops Q (o :: rest) a w := by
  have hu : w.cell? ⟨g, i, none⟩ = some (.int .u32 (mAt l i : Nat)) := by rw [cell_in hG, numsC_at hi]
  have hf : w.frozen? ⟨g, i, none⟩ = false := free_in hG i
  have hsc : w.setCell ⟨g, i, none⟩ (.int .u32 (n : Int)) = w.setRow g (numsC (l.set i n)) := by rw [setCell_eq_setRow w g i _ _ _ _ hG, numsC_set]
  have hk := h _ (rowPut_set hG (numsC (l.set i n)))
  rw [← hsc] at hk
  refine wpList_plain hgd fun K hK => ?_
  unfold Oper.wp execOp
  have hz : (sizeOf 26).run Try.prog w = .ok 1 w := by kernel_rfl
  simp [ho, hx, hy, Instr.storeAt, Instr.sureAddr, Sem.run_bind, storeVar, hz, Value.cells, storeCells, Result.andThen]
  have hadd : (⟨g, i, none⟩ : Addr).add 0 = ⟨g, i, none⟩ := by unfold Addr.add; split <;> simp_all
  rw [hadd, run_store _ _ _ _ _ rfl, hu]
  simp only [hf, Bool.false_eq_true, if_false]
  exact hK _ _ hk
end
theorem zform : (#[.int .u32 0, .int .u32 0, .int .u32 0, .int .u32 0, .int .u32 0, .int .u32 0, .int .u32 0, .int .u32 0, .int .u32 0, .int .u32 0, .int .u32 0, .int .u32 0, .int .u32 0, .int .u32 0, .int .u32 0, .int .u32 0, .int .u32 0, .int .u32 0, .int .u32 0, .int .u32 0, .int .u32 0, .int .u32 0, .int .u32 0, .int .u32 0, .int .u32 0, .int .u32 0, .int .u32 0, .int .u32 0, .int .u32 0, .int .u32 0, .int .u32 0, .int .u32 0, .int .u32 0, .int .u32 0, .int .u32 0] : Array Value) = numsC (constF 0) := rfl
theorem zrow : (#[.int .u32 0, .int .u32 0, .int .u32 0, .int .u32 0, .int .u32 0, .int .u32 0, .int .u32 0, .int .u32 0, .int .u32 0, .int .u32 0, .int .u32 0, .int .u32 0, .int .u32 0, .int .u32 0, .int .u32 0, .int .u32 0, .int .u32 0, .int .u32 0, .int .u32 0, .int .u32 0, .int .u32 0, .int .u32 0, .int .u32 0, .int .u32 0, .int .u32 0, .int .u32 0, .int .u32 0, .int .u32 0, .int .u32 0, .int .u32 0, .int .u32 0, .int .u32 0, .int .u32 0, .int .u32 0] : Array Value) = numsC zeros := rfl

/-! ### Rows of numbers; the document's forms -/
/-- A slice of n numbers that lies in a world. -/
def UAt (w : World) (u : Value) (n : Nat) (A : Nat → Nat) : Prop :=
  ∃ b o cap, u = .slice (some ⟨b, o, none⟩) n cap ∧ b < w.heap.size ∧ ∀ i, i < n → w.cell? ⟨b, o + i, none⟩ = some (.int .u32 (A i : Nat))
theorem UAt.below {w w' : World} {u : Value} {n : Nat} {A : Nat → Nat} (h : UAt w u n A) (hb : Below w.heap.size w w') : UAt w' u n A := by
  obtain ⟨b, o, cap, rfl, hl, hc⟩ := h
  exact ⟨b, o, cap, rfl, Nat.lt_of_lt_of_le hl hb.size, fun i hi => (hb.cell (p := ⟨b, _, none⟩) hl).trans (hc i hi)⟩
theorem UAt.congr {w : World} {u : Value} {n : Nat} {A B : Nat → Nat} (h : UAt w u n A) (e : ∀ i, i < n → A i = B i) : UAt w u n B := by
  obtain ⟨b, o, cap, rfl, hl, hc⟩ := h
  exact ⟨b, o, cap, rfl, hl, fun i hi => by rw [hc i hi, e i hi]⟩
theorem UAt.own {w : World} {base : Nat} {e : TypeId} {v : Value} {n : Nat} {A : Nat → Nat} (h : w.ownsRow base e 1 v n (ucells (segA A n))) (hn : 0 < n) : UAt w v n A := by
  obtain ⟨g, c, rfl, _, hl, _, hc⟩ := own_cells h hn
  refine ⟨g, 0, c, rfl, hl, fun i hi => ?_⟩
  rw [Nat.zero_add]
  refine hc i _ ?_
  simp [ucells, segA, hi]
/-- A form of the document's, as it lies in a world. -/
def RF (w : World) (v : Value) (f : List Nat) : Prop := ∃ u, v = .agg #[.int .u32 (mAt f 0 : Nat), u] ∧ UAt w u 34 fun i => mAt f (i + 1)
theorem RF.below {w w' : World} {v : Value} {f : List Nat} (h : RF w v f) (hb : Below w.heap.size w w') : RF w' v f := by
  obtain ⟨u, rfl, hu⟩ := h
  exact ⟨u, rfl, hu.below hb⟩
theorem RF.congr {w : World} {v : Value} {f g : List Nat} (h : RF w v f) (e : ∀ i, i < 35 → mAt f i = mAt g i) : RF w v g := by
  obtain ⟨u, rfl, hu⟩ := h
  exact ⟨u, by rw [e 0 (by omega)], hu.congr fun i hi => e (i + 1) (by omega)⟩

/-! ### What == answers -/
theorem cellsV : Try.prog.cellsOf 27 = 34 := by kernel_rfl
theorem cellsN : Try.prog.cellsOf 26 = 1 := by kernel_rfl
theorem take_one {α : Type} {l : List α} {i : Nat} (h : i < l.length) : List.take 1 (List.drop i l) = [l[i]] := by
  rw [List.drop_eq_getElem_cons h]
  rfl
/-! ### Arguments -/
section
variable {H : Type} {enc : TypeId × Value → H} {W : World} {base : Nat} {v : Value} {d : DataW H} {p : List MemPlace}
theorem onec {n : Nat} {c : Value} {y : DataW H × List MemPlace} (h : DataW.trod enc Try.prog W 0 (fun _ => true) true n 26 [c] = some y) : ∃ k : Nat, c = .int .u32 k ∧ k < 4294967296 := by
  obtain ⟨z, e, _, w⟩ := DataW.trod_int Try.underlying26 h
  simp only [List.cons.injEq, and_true] at e
  have b := bounds_u32 w
  refine ⟨z.toNat, ?_, by omega⟩
  rw [e]
  congr 1
  omega
theorem vrow_of {fuel : Nat} {cs : List Value} {x : DataW H × List MemPlace} (h : DataW.trod enc Try.prog W 0 (fun _ => true) true fuel 27 cs = some x) : ∃ l, cs = ucells l ∧ VOk l := by
  obtain ⟨xs, m, _, _, hcs, hxl, hxx⟩ := DataW.trod_array Try.underlying27 h
  rw [cellsV] at hcs
  rw [cellsN] at hxx
  obtain ⟨l, hl, hq⟩ := pick_list (Q := fun i (k : Nat) => cs[i]? = some (.int .u32 k) ∧ k < 4294967296) 34 fun i hi => by
    have h1 := hxx i hi
    rw [List.getElem?_eq_getElem (by omega), Nat.mul_one, take_one (by omega)] at h1
    obtain ⟨k, hk, hb⟩ := onec h1
    exact ⟨k, by rw [List.getElem?_eq_getElem (by omega), hk], hb⟩
  refine ⟨l, List.ext_getElem? fun i => ?_, hl, fun n hn => ?_⟩
  · by_cases hi : i < 34
    · rw [(hq i (by omega)).1]
      simp [ucells, hl, hi]
    · rw [List.getElem?_eq_none (by omega), List.getElem?_eq_none (by rw [ucells_len]; omega)]
  · obtain ⟨i, hi, rfl⟩ := List.getElem_of_mem hn
    exact (hq i hi).2
theorem open_asg (hval : Value.okWide Try.prog W .any base 27 v) (h : DataW.Trod enc Try.prog W 0 (fun _ => true) true 27 v d p) : ∃ l, v = formV l ∧ VOk l := by
  simp only [Value.okWide, Try.underlying27] at hval
  obtain ⟨cs, rfl, _, _⟩ := hval
  obtain ⟨fuel, hf⟩ := h
  obtain ⟨l, hl, hv⟩ := vrow_of (cs := cs.toList) hf
  refine ⟨l, ?_, hv⟩
  show Value.agg cs = .agg (ucells l).toArray
  rw [← hl]
end
end Go.Proofs.Ytlgoeegpgcilbaa
/-
  What is the same for every law: what is owed once the call is known to return true and to leave all that was there as it was.
-/
namespace Go.Proofs.Ytlgoeegpgcilbaa
open Go.ChangeShapes Go.WideShapes Go.ChangeAt Go.RowKit

section
variable {H : Type} {enc : TypeId × Value → H} {P : Program}
/-- Arguments read in a world that has only grown as they read before. -/
theorem args_stay (hl : laidOutB P = true) {W W' : World} (hb : Below W.heap.size W W') :
    ∀ (ts : List TypeId) (vs : List Value) (ds : List (DataW H)) (ps : List MemPlace), (∀ t ∈ ts, P.readableRec t = true ∧ t < P.types.size) → (∀ x ∈ ps, x.block < W.heap.size) →
      DataW.TrodAll enc P W 0 (fun _ => true) true ts vs ds ps → DataW.TrodAll enc P W' 0 (fun b => decide (b < W.heap.size)) true ts vs ds ps
  | [], _, _, _, _, _, h => by
    obtain ⟨rfl, rfl, rfl⟩ := trodAll_nil h
    exact trodAll_mk0
  | t :: ts, _, _, _, hts, hlt, h => by
    obtain ⟨v, vs, d, ds, p, q, rfl, rfl, rfl, h1, h2⟩ := trodAll_cons h
    have ht := hts t (List.mem_cons_self)
    exact trodAll_cons_mk (Below.trod hl ht.1 ht.2 h1 hb (fun x hx => hlt x (List.mem_append_left _ hx)))
      (args_stay hl hb ts vs ds q (fun u hu => hts u (List.mem_cons_of_mem _ hu)) (fun x hx => hlt x (List.mem_append_right _ hx)) h2)

/-- What a law owes behind its call: true was returned, and nothing below the heap's old size has changed. -/
theorem law_post {f : Func} {s : ChangeSpec} {tb : TypeId} (hl : laidOutB P = true) (hts : ∀ t ∈ f.params.toList, P.readableRec t = true ∧ t < P.types.size) (hrt : f.resultTypes = #[tb]) (htb : P.underlying tb = some .bool)
    (hv : s.vars = []) (hfn : ∀ ds : List (DataW H), ds.length = f.params.toList.length → s.fn H ds = { results := [.lit (.bool true)], args := ds })
    {W W' : World} {args : Array Value} {ds gs : List (DataW H)} {before : List MemPlace} (hW : DataW.Whole enc P f.params.toList s.vars false W args.toList ds gs before) (hB : Below W.heap.size W W') :
    s.post enc P f false true false false W args (.bool true) W' := by
  have hlt : ∀ x ∈ before, x.block < W.heap.size := fun x hx => by simpa using hW.lt x hx
  have hW' := hW
  obtain ⟨p, q, hA, hV, rfl, _, _⟩ := hW
  rw [hv] at hV
  obtain ⟨rfl, rfl⟩ := trodVars_none hV
  have hlen : ds.length = f.params.toList.length := by
    have aux : ∀ (ts : List TypeId) (vs : List Value) (ds : List (DataW H)) (ps : List MemPlace), DataW.TrodAll enc P W 0 (fun _ => true) true ts vs ds ps → ds.length = ts.length := by
      intro ts
      induction ts with
      | nil => intro vs ds ps h; obtain ⟨_, rfl, _⟩ := trodAll_nil h; rfl
      | cons t ts ih =>
        intro vs ds ps h
        obtain ⟨v, vs, d, ds, p, q, _, rfl, _, _, h2⟩ := trodAll_cons h
        simp [ih vs ds q h2]
    exact aux _ _ _ _ hA
  have e := hfn ds hlen
  refine ⟨ds, [], _, [], p, [], hW', ?_, ?_, ?_, ?_, fun h => by cases h⟩
  · rw [List.append_nil, e, hrt]
    exact trodAll_cons_mk (shut_bool htb _) trodAll_mk0
  · rw [List.append_nil, e]
    exact args_stay hl hB _ _ _ _ hts (fun x hx => hlt x (List.mem_append_left _ hx)) hA
  · rw [List.append_nil, e, hv]
    exact rfl
  · exact hB.frame _
end

theorem own : ownKnob Try.prog.godebug = none := by kernel_rfl
theorem laidOut : laidOutB Try.prog = true := by kernel_rfl

end Go.Proofs.Ytlgoeegpgcilbaa

/-
  An argument that is bytes: what the row's reading of it gives of the world's cells.
-/
namespace Go.Proofs.Ytlgoeegpgcilbaa
open Go.ChangeShapes Go.WideShapes Go.ChangeAt Go.RowKit Go.Deep
set_option maxRecDepth 100000

section
variable {H : Type} {enc : TypeId × Value → H} {W : World} {base : Nat} {v : Value} {d : DataW H} {p : List MemPlace}
end
end Go.Proofs.Ytlgoeegpgcilbaa
/-
  Rows of whole numbers that lie in a world; forms bit by bit as arguments.
-/
namespace Go.Proofs.Ytlgoeegpgcilbaa
open Go.ChangeShapes Go.WideShapes Go.ChangeAt Go.RowKit Go.Deep
set_option maxRecDepth 100000

/-- Whole numbers that lie in a world. -/
def NRow (k : IntKind) (w : World) (u : Value) (l : List Int) : Prop :=
  ∃ ao cap, u = .slice ao l.length cap ∧ (l = [] ∨ ∃ b off, ao = some ⟨b, off, none⟩ ∧ b < w.heap.size ∧ ∀ i (h : i < l.length), w.cell? ⟨b, off + i, none⟩ = some (.int k l[i]))
theorem NRow.below {k : IntKind} {w w' : World} {u : Value} {l : List Int} (h : NRow k w u l) (hb : Below w.heap.size w w') : NRow k w' u l := by
  obtain ⟨ao, cap, rfl, h⟩ := h
  refine ⟨ao, cap, rfl, h.imp id ?_⟩
  rintro ⟨b, off, rfl, hl, hc⟩
  exact ⟨b, off, rfl, Nat.lt_of_lt_of_le hl hb.size, fun i hi => (hb.cell (p := ⟨b, _, none⟩) hl).trans (hc i hi)⟩
theorem NRow.shape {k : IntKind} {w : World} {u : Value} {l : List Int} (h : NRow k w u l) : ∃ ao cap, u = .slice ao l.length cap := by
  obtain ⟨ao, cap, rfl, _⟩ := h
  exact ⟨ao, cap, rfl⟩
theorem NRow.nil (k : IntKind) (w : World) : NRow k w (.slice none 0 0) [] := ⟨none, 0, rfl, .inl rfl⟩
/-- Its cells, where it has one, in each later world. -/
theorem NRow.at {k : IntKind} {w : World} {ao : Option Addr} {n cap : Nat} {l : List Int} (h : NRow k w (.slice ao n cap) l) (hn : 0 < l.length) : n = l.length ∧ ∃ b off, ao = some ⟨b, off, none⟩ ∧ b < w.heap.size ∧ ∀ i (h : i < l.length), w.cell? ⟨b, off + i, none⟩ = some (.int k l[i]) := by
  obtain ⟨ao', cap', he, h⟩ := h
  simp only [Value.slice.injEq] at he
  obtain ⟨rfl, rfl, rfl⟩ := he
  rcases h with rfl | h
  · simp at hn
  · exact ⟨rfl, h⟩
def natsI (t : List Nat) : List Int := t.map fun (n : Nat) => (n : Int)
theorem natsI_len (t : List Nat) : (natsI t).length = t.length := by simp [natsI]
theorem natsI_at {t : List Nat} {i : Nat} (h : i < (natsI t).length) : (natsI t)[i] = ((mAt t i : Nat) : Int) := by
  simp [natsI, mAt_get (show i < t.length by rw [natsI_len] at h; exact h)]
/-- A form bit by bit, as it lies in a world. -/
def GF (w : World) (v : Value) (l : List Int) (t : List Nat) : Prop := ∃ s1 s2, v = .agg #[s1, s2] ∧ NRow .i64 w s1 l ∧ NRow .u32 w s2 (natsI t)
theorem GF.below {w w' : World} {v : Value} {l : List Int} {t : List Nat} (h : GF w v l t) (hb : Below w.heap.size w w') : GF w' v l t := by
  obtain ⟨s1, s2, rfl, h1, h2⟩ := h
  exact ⟨s1, s2, rfl, h1.below hb, h2.below hb⟩

/-! ### Arguments -/
section
variable {H : Type} {enc : TypeId × Value → H} {W : World} {base : Nat} {v : Value} {d : DataW H} {p : List MemPlace}
theorem ints_at {k : IntKind} {t e : TypeId} {fuel : Nat} {c : Value} {x : DataW H × List MemPlace} (ht : Try.prog.underlying t = some (.slice e)) (he : Try.prog.underlying e = some (.int k)) (hc : Try.prog.cellsOf e = 1)
    (h : DataW.trod enc Try.prog W 0 (fun _ => true) true fuel t [c] = some x) : ∃ l : List Int, NRow k W c l ∧ l.length ≤ 9223372036854775807 ∧ ∀ n ∈ l, (Lit.int k n).wf = true := by
  rcases open_ints ht he hc h with ⟨hcs, _⟩ | ⟨a, len, cap, zs, hcs, _, hl, hm, hz, _, hcell, hwz⟩
  · simp only [List.cons.injEq, and_true] at hcs
    subst hcs
    exact ⟨[], NRow.nil k W, by simp, by simp⟩
  · simp only [List.cons.injEq, and_true] at hcs
    subst hcs
    simp only [if_true] at hz
    unfold maxLen at hm
    have hlen : (zs.take len).length = len := by simp; omega
    refine ⟨zs.take len, ⟨some a, cap, by rw [hlen], ?_⟩, by omega, fun n hn => hwz n (List.mem_of_mem_take hn)⟩
    by_cases h0 : len = 0
    · left
      subst h0
      simp
    · obtain ⟨ab, ao, spot⟩ := a
      have hc0 := hcell 0 (by omega)
      have hspot : spot = none := by simpa [Addr.add] using World.cell?_spot hc0
      subst hspot
      rw [Addr.add_lit] at hc0
      refine .inr ⟨ab, ao, rfl, block_lt_of_cell hc0, fun j hj => ?_⟩
      rw [hlen] at hj
      have hcj := hcell j (by omega)
      rw [Addr.add_lit] at hcj
      rw [hcj]
      congr 2
      rw [List.getElem_take, List.getD_eq_getElem?_getD, List.getElem?_eq_getElem (show j < zs.length by omega)]
      rfl
theorem cellsI64 : Try.prog.cellsOf 3 = 1 := by kernel_rfl
theorem cellsSI : Try.prog.cellsOf 22 = 1 := by kernel_rfl
theorem cellsSU : Try.prog.cellsOf 23 = 1 := by kernel_rfl
theorem cellsBF : Try.prog.cellsOf 25 = 2 := by kernel_rfl
theorem cellsU32g : Try.prog.cellsOf 26 = 1 := by kernel_rfl
theorem nats_of {l : List Int} (h : ∀ n ∈ l, (Lit.int .u32 n).wf = true) : ∃ t : List Nat, l = natsI t ∧ ∀ n ∈ t, n < 4294967296 := by
  refine ⟨l.map Int.toNat, ?_, fun n hn => ?_⟩
  · refine List.ext_getElem (by simp [natsI]) fun i h1 h2 => ?_
    have hb := bounds_u32 (h l[i] (List.getElem_mem h1))
    simp [natsI]
    omega
  · obtain ⟨z, hz, rfl⟩ := List.mem_map.1 hn
    have hb := bounds_u32 (h z hz)
    omega
theorem open_bform (hval : Value.okWide Try.prog W .any base 25 v) (h : DataW.Trod enc Try.prog W 0 (fun _ => true) true 25 v d p) :
    ∃ (l : List Int) (t : List Nat), GF W v l t ∧ l.length ≤ 9223372036854775807 ∧ t.length ≤ 9223372036854775807 ∧ (∀ n ∈ l, -9223372036854775808 ≤ n ∧ n ≤ 9223372036854775807) ∧ ∀ n ∈ t, n < 4294967296 := by
  obtain ⟨cs, rfl, hsz⟩ := okWide_struct Try.underlying25 hval
  rw [cellsBF] at hsz
  obtain ⟨fuel, hf⟩ := h
  obtain ⟨ys, n, _, _, _, hyl, hff⟩ := DataW.trod_struct Try.underlying25 hf
  have hlen : cs.toList.length = 2 := by simpa using hsz
  have hy2 : ys.length = 2 := hyl
  match hcs : cs.toList, hlen, ys, hy2 with
  | [c0, c1], _, [y0, y1], _ =>
    have h0 := hff 0 _ rfl
    have h1 := hff 1 _ rfl
    change DataW.trod enc Try.prog W 0 (fun _ => true) true n 22 (List.take (Try.prog.cellsOf 22) (List.drop 0 cs.toList)) = some y0 at h0
    change DataW.trod enc Try.prog W 0 (fun _ => true) true n 23 (List.take (Try.prog.cellsOf 23) (List.drop 1 cs.toList)) = some y1 at h1
    rw [hcs] at h0 h1
    simp only [cellsSI, cellsSU, List.drop_zero, List.drop_succ_cons, List.take_succ_cons, List.take_zero] at h0 h1
    obtain ⟨l, hl, hll, hlw⟩ := ints_at Try.underlying22 Try.underlying3 cellsI64 h0
    obtain ⟨m, hm, hml, hmw⟩ := ints_at Try.underlying23 Try.underlying26 cellsU32g h1
    obtain ⟨t, rfl, ht⟩ := nats_of hmw
    refine ⟨l, t, ⟨c0, c1, ?_, hl, hm⟩, hll, by rw [natsI_len] at hml; exact hml, fun z hz => bounds_i64 (hlw z hz), ht⟩
    have e : cs = #[c0, c1] := by rw [← hcs]
    rw [e]
end

/-! ### Rows of a call's own -/
theorem infoJ : (Try.prog.info? 3).map (fun i => (i.zero, i.size, i.bytes)) = some (some (.int .i64 0), 1, 8) := by kernel_rfl
def zcells (l : List Int) : List Value := l.map fun z => Value.int .i64 z
theorem zcells_app (a b : List Int) : zcells (a ++ b) = zcells a ++ zcells b := by simp [zcells]
theorem natsI_app (a b : List Nat) : natsI (a ++ b) = natsI a ++ natsI b := by simp [natsI]
theorem NRow.own {w : World} {base : Nat} {e : TypeId} {v : Value} {n : Nat} {l : List Int} (h : w.ownsRow base e 1 v n (zcells l)) (hn : n = l.length) : NRow .i64 w v l := by
  subst hn
  rcases Nat.eq_zero_or_pos l.length with h0 | h0
  · obtain ⟨a, c, rfl⟩ := own_shape h
    exact ⟨a, c, rfl, .inl (List.eq_nil_of_length_eq_zero h0)⟩
  · obtain ⟨g, c, rfl, _, hl, _, hc⟩ := own_cells h h0
    refine ⟨_, c, rfl, .inr ⟨g, 0, rfl, hl, fun i hi => ?_⟩⟩
    rw [Nat.zero_add]
    refine hc i _ ?_
    simp [zcells, hi]
theorem own_cell1 {w : World} {base : Nat} {e : TypeId} {size n : Nat} {v : Value} {xs : List Value} (h : w.ownsRow base e size v n xs) : v.oneCell' = true := by
  obtain ⟨a, c, rfl⟩ := own_shape h
  rfl
theorem own_apart2 {w : World} {base base' : Nat} {e e' : TypeId} {s s' : Nat} {v v' : Value} {n n' : Nat} {xs xs' : List Value} (h : w.ownsRow base e s v n xs) (h' : w.ownsRow base' e' s' v' n' xs') (hne : e ≠ e') : v'.ownBlock = none ∨ v'.ownBlock ≠ v.ownBlock := by
  rcases h'.2 with ⟨rfl, _⟩ | ⟨g', cap', cur', rfl, _, hh', _⟩
  · exact .inl rfl
  · rcases h.2 with ⟨rfl, _⟩ | ⟨g, cap, cur, rfl, _, hh, _⟩
    · right; simp [Value.ownBlock]
    · right
      intro e1
      have e2 : g' = g := by simpa [Value.ownBlock] using e1
      subst e2
      rw [hh] at hh'
      injection hh' with h1
      injection h1 with _ h2
      exact hne h2
/-- Whole numbers that lie in a world, in a block from B on. -/
def NRowB (B : Nat) (k : IntKind) (w : World) (u : Value) (l : List Int) : Prop :=
  ∃ ao cap, u = .slice ao l.length cap ∧ (l = [] ∨ ∃ b off, ao = some ⟨b, off, none⟩ ∧ b < w.heap.size ∧ B ≤ b ∧ ∀ i (h : i < l.length), w.cell? ⟨b, off + i, none⟩ = some (.int k l[i]))
theorem NRowB.row {B : Nat} {k : IntKind} {w : World} {u : Value} {l : List Int} (h : NRowB B k w u l) : NRow k w u l := by
  obtain ⟨ao, cap, rfl, h⟩ := h
  exact ⟨ao, cap, rfl, h.imp id fun ⟨b, off, e, hl, _, hc⟩ => ⟨b, off, e, hl, hc⟩⟩
theorem NRowB.own {w : World} {base : Nat} {e : TypeId} {v : Value} {n : Nat} {l : List Int} (h : w.ownsRow base e 1 v n (zcells l)) (hn : n = l.length) : NRowB base .i64 w v l := by
  subst hn
  rcases Nat.eq_zero_or_pos l.length with h0 | h0
  · obtain ⟨a, c, rfl⟩ := own_shape h
    exact ⟨a, c, rfl, .inl (List.eq_nil_of_length_eq_zero h0)⟩
  · obtain ⟨g, c, rfl, hg, hl, _, hc⟩ := own_cells h h0
    refine ⟨_, c, rfl, .inr ⟨g, 0, rfl, hl, hg, fun i hi => ?_⟩⟩
    rw [Nat.zero_add]
    refine hc i _ ?_
    simp [zcells, hi]
theorem NRowB.ownU {w : World} {base : Nat} {e : TypeId} {v : Value} {n : Nat} {t : List Nat} (h : w.ownsRow base e 1 v n (ucells t)) (hn : n = t.length) : NRowB base .u32 w v (natsI t) := by
  subst hn
  rcases Nat.eq_zero_or_pos t.length with h0 | h0
  · obtain ⟨a, c, rfl⟩ := own_shape h
    have e := List.eq_nil_of_length_eq_zero h0
    subst e
    exact ⟨a, c, rfl, .inl rfl⟩
  · obtain ⟨g, c, rfl, hg, hl, _, hc⟩ := own_cells h h0
    refine ⟨_, c, by rw [natsI_len], .inr ⟨g, 0, rfl, hl, hg, fun i hi => ?_⟩⟩
    rw [natsI_at hi, Nat.zero_add]
    refine hc i _ ?_
    have hi : i < t.length := by rw [natsI_len] at hi; exact hi
    simp [ucells, hi, mAt_get hi]
theorem NRowB.mono {B B' : Nat} {k : IntKind} {w : World} {u : Value} {l : List Int} (h : NRowB B k w u l) (hb : B' ≤ B) : NRowB B' k w u l := by
  obtain ⟨ao, cap, rfl, h⟩ := h
  exact ⟨ao, cap, rfl, h.imp id fun ⟨b, off, e, hl, hB, hc⟩ => ⟨b, off, e, hl, Nat.le_trans hb hB, hc⟩⟩
end Go.Proofs.Ytlgoeegpgcilbaa
/-
  Package hurdleref15: powers of two, bits, values, assignments.
-/
namespace Go.Proofs.Ytlgoeegpgcilbaa
open Go.ChangeShapes Go.WideShapes Go.ChangeAt Go.RowKit
set_option maxRecDepth 100000

theorem gsize_any (n : Nat) (hn : n ≤ 32) (w : World) :
    Calls Try.prog 31 #[.int .i64 n] w fun e w' => e = .returned (.int .i64 ((2 ^ n : Nat) : Int)) ∧ w' = w := by
  go_enter Try.func31, Try.ntmps31
  go_wp2_with fail
  go_loopw [3, 4] (fun p i wr => ∃ k P : Nat, k ≤ n ∧ P = 2 ^ k ∧ p = .int .i64 P ∧ i = .int .i64 k ∧ wr = w) (fun _ i _ => n - (intOf i).toNat)
  case atStart => exact ⟨0, 1, by omega, rfl, rfl, rfl, rfl⟩
  case round =>
    obtain ⟨k, P, hk, hP, rfl, rfl, rfl⟩ := hrel
    have HP := Lib.hid hP
    have lP : P ≤ 4294967296 := by
      have h := Nat.pow_le_pow_right (n := 2) (show 0 < 2 by omega) (show k ≤ 32 by omega)
      rw [hP]
      exact h
    clear hP
    by_cases hlt : k < n
    · go_wp2_with fail
      go_roundw
      case rel => exact ⟨k + 1, P * 2, by omega, by rw [HP.out, Nat.pow_succ], by go_num, by go_num, trivial⟩
      case measure => simp [intOf]; omega
    · obtain rfl : k = n := by omega
      go_wp2_with fail
      go_ret
      exact ⟨by rw [HP.out]; rfl, rfl⟩
/-- Turned: what the document's sum or difference is. -/
theorem turn_is : ∀ n, n < 16 → ∀ j, j < 4 → (if n / 2 ^ j % 2 = 1 then n - 2 ^ j else n + 2 ^ j) = n ^^^ 2 ^ j := by decide +kernel
theorem turn_16 : ∀ n, n < 16 → ∀ j, j < 4 → n / 2 ^ j % 2 = 1 → 2 ^ j ≤ n := by decide +kernel
theorem gturned_any (n j : Nat) (hn : n < 16) (hj : j < 4) (w : World) :
    Calls Try.prog 32 #[.int .i64 n, .int .i64 j] w fun e w' => e = .returned (.int .i64 ((n ^^^ 2 ^ j : Nat) : Int)) ∧ w' = w := by
  have HT := Lib.hid (turn_is n hn j hj)
  have HG := Lib.hid (turn_16 n hn j hj)
  have HC := Lib.hid (gsize_any j (by omega))
  have l1 : 2 ^ j ≤ 8 := Nat.pow_le_pow_right (n := 2) (by omega) (show j ≤ 3 by omega)
  have l0 : 0 < 2 ^ j := Nat.two_pow_pos j
  generalize n ^^^ 2 ^ j = R at *
  generalize 2 ^ j = P at *
  have d1 : ¬ (P : Int) = 0 := by omega
  obtain ⟨D, hD⟩ : ∃ D, D = n / P := ⟨_, rfl⟩
  have lD : D ≤ n := by rw [hD]; exact Nat.div_le_self n P
  have d2 : (n : Int) / (P : Int) = (D : Int) := by rw [hD]; rfl
  rw [← hD] at HT HG
  clear hD
  go_enter Try.func32, Try.ntmps32
  go_wp2_with fail
  refine (HC.out _).mono ?_
  rintro e w1 ⟨rfl, rfl⟩
  by_cases h : D % 2 = 1
  · have e1 : ((D : Int) % 2 == 1) = true := by simp; omega
    have hle := HG.out h
    have HR : Hid (n - P = R) := Lib.hid (by have := HT.out; rw [if_pos h] at this; exact this)
    clear HT HG
    go_wp2_with fail
    refine (HC.out _).mono ?_
    rintro e w1 ⟨rfl, rfl⟩
    go_wp2_with fail
    go_ret
    refine ⟨?_, rfl⟩
    show Ending.returned (.int .i64 ((n : Int) - (P : Int))) = _
    rw [← HR.out, Int.ofNat_sub hle]
  · have e1 : ((D : Int) % 2 == 1) = false := by simp; omega
    have HR : Hid (n + P = R) := Lib.hid (by have := HT.out; rw [if_neg h] at this; exact this)
    clear HT HG
    go_wp2_with fail
    refine (HC.out _).mono ?_
    rintro e w1 ⟨rfl, rfl⟩
    go_wp2_with fail
    go_ret
    refine ⟨?_, rfl⟩
    show Ending.returned (.int .i64 ((n : Int) + (P : Int))) = _
    rw [← HR.out, Int.natCast_add]
theorem gbit_any (x i : Nat) (hx : x < 4294967296) (hi : i < 32) (w : World) :
    Calls Try.prog 35 #[.int .u32 x, .int .i64 i] w fun e w' => e = .returned (.int .i64 ((x / 2 ^ i % 2 : Nat) : Int)) ∧ w' = w := by
  have HC := Lib.hid (gsize_any i (by omega))
  have l1 : 2 ^ i ≤ 4294967296 := Nat.pow_le_pow_right (n := 2) (by omega) (show i ≤ 32 by omega)
  have l0 : 0 < 2 ^ i := Nat.two_pow_pos i
  generalize 2 ^ i = P at *
  have d1 : ¬ (P : Int) = 0 := by omega
  obtain ⟨D, hD⟩ : ∃ D, D = x / P := ⟨_, rfl⟩
  have lD : D ≤ x := by rw [hD]; exact Nat.div_le_self x P
  have d2 : (x : Int) / (P : Int) = (D : Int) := by rw [hD]; rfl
  rw [← hD]
  clear hD
  have d3 : IntKind.u64.wrap (D : Int) = (D : Int) := by rw [IntKind.wrap_u64]; omega
  have d4 : (D : Int).tmod 2 = ((D % 2 : Nat) : Int) := by rw [Int.tmod_eq_emod_of_nonneg (by omega)]; rfl
  go_enter Try.func35, Try.ntmps35
  go_wp2_with fail
  refine (HC.out _).mono ?_
  rintro e w1 ⟨rfl, rfl⟩
  go_wp2_with fail
  go_ret
  exact ⟨rfl, rfl⟩
/-! ### Values -/
/-- The number of a table's word, of the variables below j. -/
theorem Bf.idx_part' (l : List Nat) (v : Nat → Nat) (i j : Nat) : maskN (fun j => (v (mAt l j)).testBit i) (j + 1) = maskN (fun j => (v (mAt l j)).testBit i) j + 2 ^ j * (v (mAt l j) / 2 ^ i % 2) := by
  rw [maskN]
  congr 1
  rw [Nat.testBit_eq_decide_div_mod_eq]
  rcases Nat.mod_two_eq_zero_or_one (v (mAt l j) / 2 ^ i) with h | h
  · rw [h]; simp
  · rw [h]; simp
theorem Bf.val_part' (t : List Nat) (I : Nat → Nat) (i : Nat) : maskN (fun i => (mAt t (I i)).testBit i) (i + 1) = maskN (fun i => (mAt t (I i)).testBit i) i + 2 ^ i * (mAt t (I i) / 2 ^ i % 2) := by
  rw [maskN]
  congr 1
  rw [Nat.testBit_eq_decide_div_mod_eq]
  rcases Nat.mod_two_eq_zero_or_one (mAt t (I i) / 2 ^ i) with h | h
  · rw [h]; simp
  · rw [h]; simp
end Go.Proofs.Ytlgoeegpgcilbaa
/-
  Package hurdleref15: Eval, Assign.
-/
namespace Go.Proofs.Ytlgoeegpgcilbaa
open Go.ChangeShapes Go.WideShapes Go.ChangeAt Go.RowKit
set_option maxRecDepth 100000

theorem wrap_fit {z : Int} (h : -9223372036854775808 ≤ z ∧ z ≤ 9223372036854775807) : IntKind.i64.wrap z = z := IntWalk.i64_in _ h
theorem bit_le (x i : Nat) : x / 2 ^ i % 2 ≤ 1 := by have := Nat.mod_lt (x / 2 ^ i) (show 0 < 2 by omega); omega
set_option maxHeartbeats 4000000 in
theorem geval_any (v1 v2 : Value) (f : Bf.BF) (V : Nat → Nat) (w : World) (h1 : GF w v1 (natsI f.vs) f.tb) (h2 : UAt w v2 34 V) (hf : Bf.Fine f) (hV : ∀ i, i < 34 → V i < 4294967296) :
    Calls Try.prog 19 #[v1, v2] w fun e w' => e = .returned (.int .u32 (Bf.valF f V : Nat)) ∧ Below w.heap.size w w' := by
  obtain ⟨_, _, rfl, hs1, hs2⟩ := h1
  obtain ⟨ao1, cap1, rfl⟩ := hs1.shape
  obtain ⟨ao2, cap2, rfl⟩ := hs2.shape
  have htp : 0 < (natsI f.tb).length := by rw [natsI_len, hf.size]; exact Nat.two_pow_pos _
  obtain ⟨_, b2, o2, rfl, hb2, hc2⟩ := hs2.at htp
  obtain ⟨bv, ov, capv, rfl, hbv, hcv⟩ := h2
  have h1 : Hid (0 < (natsI f.vs).length → ∃ b off, ao1 = some ⟨b, off, none⟩ ∧ b < w.heap.size ∧ ∀ i (h : i < (natsI f.vs).length), w.cell? ⟨b, off + i, none⟩ = some (.int .i64 (natsI f.vs)[i])) := Lib.hid (fun h => (hs1.at h).2)
  have HF := Lib.hid hf
  have HV := Lib.hid hV
  have HC2 : Hid (∀ i, i < f.tb.length → w.cell? ⟨b2, o2 + i, none⟩ = some (.int .u32 (mAt f.tb i : Nat))) := Lib.hid (fun i hi => (hc2 i (by rw [natsI_len]; exact hi)).trans (by rw [natsI_at]))
  have HCV := Lib.hid hcv
  have HC1 : Hid (0 < f.vs.length → ∃ b off, ao1 = some ⟨b, off, none⟩ ∧ b < w.heap.size ∧ ∀ i, i < f.vs.length → w.cell? ⟨b, off + i, none⟩ = some (.int .i64 (mAt f.vs i : Nat))) := Lib.hid (fun h => by
    obtain ⟨b, off, e, hb, hc⟩ := h1.out (by rw [natsI_len]; exact h)
    exact ⟨b, off, e, hb, fun i hi => (hc i (by rw [natsI_len]; exact hi)).trans (by rw [natsI_at])⟩)
  rw [natsI_len, natsI_len]
  clear h1 hs1 hs2 hc2 hcv htp hf hV
  obtain ⟨L, hL⟩ : ∃ L, L = f.vs.length := ⟨_, rfl⟩
  obtain ⟨T, hT⟩ : ∃ T, T = f.tb.length := ⟨_, rfl⟩
  have HT : Hid (T = 2 ^ L) := Lib.hid (by rw [hT, hL]; exact HF.out.size)
  have HL4 : L ≤ 4 := by rw [hL]; exact HF.out.most
  rw [← hL] at HC1 ⊢
  rw [← hT] at HC2 ⊢
  have HL := Lib.hid hL
  clear hL hT
  have h0 := heap_alloc_new w (.cells #[.slice ao1 L cap1, .slice (some ⟨b2, o2, none⟩) T cap2] 37)
  have hb := ba (.cells #[.slice ao1 L cap1, .slice (some ⟨b2, o2, none⟩) T cap2] 37) (Below.refl w.heap.size w)
  obtain ⟨W, hW⟩ : ∃ W, W = w.alloc (.cells #[.slice ao1 L cap1, .slice (some ⟨b2, o2, none⟩) T cap2] 37) := ⟨_, rfl⟩
  rw [← hW] at h0 hb
  have HX := Lib.hid h0
  have HB := Lib.hid hb
  have hsW := hb.size
  clear h0 hb
  go_enter Try.func19, Try.ntmps19
  go_upto_region 1 with fail
  rw [← hW]
  clear hW
  go_wp2_with fail
  go_loopw [5, 6] (fun o i wr => ∃ k O : Nat, k ≤ 32 ∧ O = maskN (fun i => (mAt f.tb (Bf.idxF f.vs V i)).testBit i) k ∧ i = .int .i64 k ∧ o = .int .u64 O ∧ Below W.heap.size W wr) (fun _ i _ => 32 - (intOf i).toNat)
  case atStart => exact ⟨0, 0, by omega, rfl, rfl, rfl, Below.refl _ _⟩
  case round =>
    obtain ⟨k, O, hk, hO, rfl, rfl, hB⟩ := hrel
    have HO := Lib.hid hO
    have HBr := Lib.hid hB
    have lO : O < 4294967296 := by
      have h := maskN_lt (fun i => (mAt f.tb (Bf.idxF f.vs V i)).testBit i) k
      have h2 := Nat.pow_le_pow_right (n := 2) (show 0 < 2 by omega) hk
      rw [hO]
      exact Nat.lt_of_lt_of_le h h2
    clear hO hB
    by_cases hlt : k < 32
    · go_wp2_with fail
      go_loopw [7, 8] (fun n j wx => ∃ m N : Nat, m ≤ L ∧ N = maskN (fun j => (V (mAt f.vs j)).testBit k) m ∧ j = .int .i64 m ∧ n = .int .i64 N ∧ Below W.heap.size W wx) (fun _ j _ => L - (intOf j).toNat)
      case atStart => exact ⟨0, 0, by omega, rfl, rfl, rfl, HBr.out⟩
      case round =>
        obtain ⟨m, N, hm, hN, rfl, rfl, hBx⟩ := hrel
        have HN := Lib.hid hN
        have HBx := Lib.hid hBx
        have x0 : _ := (cell_in (kb hBx HX.out) 0).trans rfl
        have x1 : _ := (cell_in (kb hBx HX.out) 1).trans rfl
        have lN : N < 16 := by
          have h := maskN_lt (fun j => (V (mAt f.vs j)).testBit k) m
          have h2 := Nat.pow_le_pow_right (n := 2) (show 0 < 2 by omega) (show m ≤ 4 by omega)
          rw [hN]
          exact Nat.lt_of_lt_of_le h h2
        clear hN
        by_cases hlm : m < L
        · obtain ⟨b1, o1, rfl, hb1, hc1⟩ := HC1.out (by omega)
          have x2 := ((hBx.cell (p := ⟨b1, o1 + m, none⟩) (Nat.lt_of_lt_of_le hb1 hsW)).trans (HB.out.cell (p := ⟨b1, o1 + m, none⟩) hb1)).trans (hc1 m hlm)
          have lx := HF.out.small m (by rw [← HL.out]; exact hlm)
          have x3 := ((hBx.cell (p := ⟨bv, ov + mAt f.vs m, none⟩) (Nat.lt_of_lt_of_le hbv hsW)).trans (HB.out.cell (p := ⟨bv, ov + mAt f.vs m, none⟩) hbv)).trans (HCV.out _ lx)
          have lV := HV.out _ lx
          have HNx := Lib.hid (Bf.idx_part' f.vs V k m)
          have HSz := Lib.hid (gsize_any m (by omega))
          have HBt := Lib.hid (gbit_any (V (mAt f.vs m)) k lV hlt)
          have lB := bit_le (V (mAt f.vs m)) k
          have lP := Nat.pow_le_pow_right (n := 2) (show 0 < 2 by omega) (show m ≤ 3 by omega)
          clear hc1
          obtain ⟨X, hX⟩ : ∃ X, X = mAt f.vs m := ⟨_, rfl⟩
          rw [← hX] at x2 x3 lx HBt lB HNx lV
          generalize V X / 2 ^ k % 2 = Bt at *
          generalize V X = Y at *
          generalize 2 ^ m = P at *
          have lQ : P * Bt ≤ 8 := by
            have := Nat.mul_le_mul lP lB
            omega
          have q1 : IntKind.i64.wrap ((P : Int) * (Bt : Int)) = ((P * Bt : Nat) : Int) := by rw [wrap_fit (by rw [← Int.natCast_mul]; omega), Int.natCast_mul]
          generalize P * Bt = Q at *
          have q2 : IntKind.i64.wrap ((N : Int) + (Q : Int)) = ((N + Q : Nat) : Int) := by rw [wrap_fit (by omega), Int.natCast_add]
          clear hX
          go_wp2_with (go_quiet (first | (go_at_call 31; refine Calls.quiet_of_same (HSz.out _)) | (go_at_call 35; refine Calls.quiet_of_same (HBt.out _))))
          go_roundw
          case rel => exact ⟨m + 1, N + Q, by omega, by rw [HNx.out, HN.out], by go_num, rfl, bdN HBx.out _⟩
          case measure => simp [intOf]; omega
        · obtain rfl : m = L := by omega
          have HNi : Hid (N = Bf.idxF f.vs V k) := Lib.hid (by rw [HN.out, HL.out]; rfl)
          have lN2 : N < T := by rw [HNi.out, HT.out, HL.out]; exact Bf.idx_lt _ _ _
          have x2 := ((hBx.cell (p := ⟨b2, o2 + N, none⟩) (Nat.lt_of_lt_of_le hb2 hsW)).trans (HB.out.cell (p := ⟨b2, o2 + N, none⟩) hb2)).trans (HC2.out N lN2)
          have lV := HF.out.words N
          have HOx := Lib.hid (Bf.val_part' f.tb (Bf.idxF f.vs V) k)
          have HSz := Lib.hid (gsize_any k (by omega))
          have HBt := Lib.hid (gbit_any (mAt f.tb N) k lV hlt)
          have lB := bit_le (mAt f.tb N) k
          have lP := Nat.pow_le_pow_right (n := 2) (show 0 < 2 by omega) (show k ≤ 31 by omega)
          rw [← HNi.out] at HOx
          generalize mAt f.tb N / 2 ^ k % 2 = Bt at *
          generalize mAt f.tb N = Y at *
          generalize 2 ^ k = P at *
          have lQ : P * Bt ≤ 2147483648 := by
            have := Nat.mul_le_mul lP lB
            omega
          have q1 : IntKind.i64.wrap ((P : Int) * (Bt : Int)) = ((P * Bt : Nat) : Int) := by rw [wrap_fit (by rw [← Int.natCast_mul]; omega), Int.natCast_mul]
          generalize P * Bt = Q at *
          have q2 : IntKind.u64.wrap (Q : Int) = (Q : Int) := by rw [IntKind.wrap_u64]; omega
          have q3 : IntKind.u64.wrap ((O : Int) + (Q : Int)) = ((O + Q : Nat) : Int) := by rw [IntKind.wrap_u64]; omega
          clear hBx
          go_wp2_with (go_quiet (first | (go_at_call 31; refine Calls.quiet_of_same (HSz.out _)) | (go_at_call 35; refine Calls.quiet_of_same (HBt.out _))))
          go_roundw
          case rel => exact ⟨k + 1, O + Q, by omega, by rw [HOx.out, HO.out], by go_num, rfl, bdN HBx.out _⟩
          case measure => simp [intOf]; omega
    · obtain rfl : k = 32 := by omega
      go_wp2_with fail
      go_ret
      refine ⟨?_, below2 HB.out HBr.out⟩
      show Ending.returned (.int .u32 (O : Int)) = _
      rw [HO.out]
      rfl
end Go.Proofs.Ytlgoeegpgcilbaa
/-
  Package hurdleref14: the document's forms.
-/
namespace Go.Proofs.Ytlgoeegpgcilbaa
open Go.ChangeShapes Go.WideShapes Go.ChangeAt Go.RowKit
set_option maxRecDepth 100000

section
variable {ops : Array Oper} {rest : List Oper} {o : Oper} {a : Act} {w : World} {Q : Exit → Act → World → Prop}
end
theorem mk34 (W : World) : (Instr.makeSlice 23 (.int .i64 34) (.int .i64 34)).run Try.prog W = .ok (.slice (some ⟨W.heap.size, 0, none⟩) 34 34) (W.alloc (.cells (numsC zeros) 26)) := by
  have h := run_make_row' (P := Try.prog) 23 26 (.int .u32 0) 4 Try.underlying23 infoN rfl .i64 .i64 34 (by omega) (by omega) W
  have e : madeCells #[Value.int .u32 0] 34 = numsC zeros := Array.toList_inj.1 (by rw [toList_madeCells_one]; rfl)
  rw [e] at h
  exact h
theorem UAt.block {w : World} {g n cap : Nat} {l : List Nat} {t : TypeId} {fr : Nat × Nat} {A : Nat → Nat} (h : w.heap[g]? = some (.cells (numsC l) t fr)) (hn : l.length = n) (hA : ∀ i, i < n → mAt l i = A i) : UAt w (.slice (some ⟨g, 0, none⟩) n cap) n A :=
  ⟨g, 0, cap, rfl, lt_of_block h, fun i hi => by rw [Nat.zero_add, cell_in h, numsC_at (by omega), hA i hi]⟩
theorem src_new (w : World) (v : Value) (t : TypeId) : SrcAt (w.alloc (.cells #[v] t)) 1 (.slice (some ⟨w.heap.size, 0, none⟩) 1 1) 1 [v] :=
  ⟨some ⟨w.heap.size, 0, none⟩, 1, rfl, rfl, (fun h => by simp at h), fun ad had j u hu => by
    obtain rfl := Option.some.inj had
    exact new_at w #[v] t j u hu⟩
theorem one_int (z : Int) : ∀ u ∈ [Value.int .u32 z], u.oneCell' = true := by simp [Value.oneCell']
theorem rp_cell {w w' : World} {g : Nat} {o : Obj} (h : RowPut w w' g o) {p : Addr} (hne : p.block ≠ g) : w'.cell? p = w.cell? p := by
  unfold World.cell?
  rw [h.rest _ hne]
theorem ownsRow_put {w w' : World} {base : Nat} {e : TypeId} {size : Nat} {v : Value} {n : Nat} {xs : List Value} {g : Nat} {o : Obj} (h : w.ownsRow base e size v n xs) (hp : RowPut w w' g o) (hg : g < base) : w'.ownsRow base e size v n xs := by
  obtain ⟨h1, h2⟩ := h
  refine ⟨h1, h2.imp id ?_⟩
  rintro ⟨q, cap, cur, hv, hq, hh, r⟩
  exact ⟨q, cap, cur, hv, hq, (hp.rest q (by omega)).trans hh, r⟩
section
variable {md : Region.Mode} {ops : Array Oper} {Q : Exit → Act → World → Prop} {S : World → Prop}
theorem jheld_take {i : Nat} {oi : Oper} {v : Value} (q : Option Tmp) {fuel : Nat} {listed : Array Bool} {a : Act} {w : World} (hi : ops[i]? = some oi) (hq : oi.dst = q)
    (hs : Region.noSelect ops = true) (hf : Region.free md ops listed i = true) (hr : (Region.ready md ops listed).contains i = true)
    (hQ : ∀ c a w, Q (.panic c) (a.put oi.dst v) w → Q (.panic c) a w) (hy : YieldsIf Try.prog ops S oi v a) (hS : S w)
    (h : wpAnyH Try.prog md ops Q S fuel (listed.setIfInBounds i true) (a.put q v) w) : wpAnyH Try.prog md ops Q S (fuel + 1) listed a w :=
  wpAnyH_take hi hs hf hr hQ hy hS (by rw [hq]; exact h)
end
end Go.Proofs.Ytlgoeegpgcilbaa
/-
  Package hurdleref15: Assign, Both.
-/
namespace Go.Proofs.Ytlgoeegpgcilbaa
open Go.ChangeShapes Go.WideShapes Go.ChangeAt Go.RowKit
set_option maxRecDepth 100000

/-! ### Assignments -/
def asgK (vs : List Nat) (n k x : Nat) : Nat := if (List.range k).any (fun j => mAt vs j == x && n.testBit j) then 4294967295 else 0
theorem asgK_all (vs : List Nat) (n x : Nat) : asgK vs n vs.length x = Bf.asgF vs n x := rfl
theorem asgK_off {vs : List Nat} {n k : Nat} (h : n.testBit k = false) (x : Nat) : asgK vs n (k + 1) x = asgK vs n k x := by
  unfold asgK
  rw [List.range_succ, List.any_append]
  simp [h]
theorem asgK_on {vs : List Nat} {n k : Nat} (h : n.testBit k = true) (x : Nat) : asgK vs n (k + 1) x = if x = mAt vs k then 4294967295 else asgK vs n k x := by
  unfold asgK
  rw [List.range_succ, List.any_append]
  by_cases e : x = mAt vs k
  · subst e
    simp [h]
  · have e' : (mAt vs k == x) = false := by simp; exact fun h => e h.symm
    simp [h, e, e']
theorem nrow_at {w : World} {u : Value} {vs : List Nat} {ao : Option Addr} {n cap : Nat} (h : NRow .i64 w u (natsI vs)) (hu : u = .slice ao n cap) : n = vs.length ∧ (0 < vs.length → ∃ b off, ao = some ⟨b, off, none⟩ ∧ b < w.heap.size ∧ ∀ i, i < vs.length → w.cell? ⟨b, off + i, none⟩ = some (.int .i64 (mAt vs i : Nat))) := by
  subst hu
  obtain ⟨ao', cap', he⟩ := h.shape
  simp only [Value.slice.injEq] at he
  obtain ⟨rfl, rfl, rfl⟩ := he
  refine ⟨natsI_len vs, fun hp => ?_⟩
  obtain ⟨_, b, off, e, hb, hc⟩ := h.at (by rw [natsI_len]; exact hp)
  exact ⟨b, off, e, hb, fun i hi => (hc i (by rw [natsI_len]; exact hi)).trans (by rw [natsI_at])⟩
set_option maxHeartbeats 1000000 in
theorem gassign_any (u : Value) (vs : List Nat) (n : Nat) (w : World) (h : NRow .i64 w u (natsI vs)) (hl : vs.length ≤ 8) (hs : ∀ j, j < vs.length → mAt vs j < 34) (hn : n < 256) :
    Calls Try.prog 41 #[u, .int .i64 n] w fun e w' => ∃ u', e = .returned u' ∧ UAt w' u' 34 (Bf.asgF vs n) ∧ Below w.heap.size w w' := by
  obtain ⟨ao, cap, hu⟩ := h.shape
  have hr := (nrow_at h hu).2
  subst hu
  rw [natsI_len]
  have HC := Lib.hid hr
  have HS := Lib.hid hs
  obtain ⟨L, hL⟩ : ∃ L, L = vs.length := ⟨_, rfl⟩
  rw [← hL] at hl HC HS ⊢
  have HL := Lib.hid hL
  have hmk := mk34
  have h0 := heap_alloc_new w (.cells (numsC zeros) 26)
  have hb := ba (.cells (numsC zeros) 26) (Below.refl w.heap.size w)
  obtain ⟨W, hW⟩ : ∃ W, W = w.alloc (.cells (numsC zeros) 26) := ⟨_, rfl⟩
  rw [← hW] at h0 hb
  have HG := Lib.hid h0
  have HB := Lib.hid hb
  clear h hr hs hL h0 hb
  go_enter Try.func41, Try.ntmps41
  go_upto_region 2 with fail
  rw [← hW]
  clear hW hmk
  go_wp2_with fail
  go_loopw [6] (fun i wr => ∃ (k : Nat) (l : List Nat), k ≤ L ∧ i = .int .i64 k ∧ wr.heap[w.heap.size]? = some (.cells (numsC l) 26) ∧ l.length = 34 ∧ (∀ x, mAt l x = asgK vs n k x ∨ 34 ≤ x) ∧ Below w.heap.size w wr) (fun i _ => L - (intOf i).toNat)
  case atStart => exact ⟨0, zeros, by omega, rfl, HG.out, by simp [zeros], fun x => .inl (zeros_at x), HB.out⟩
  case round =>
    obtain ⟨k, l, hk, rfl, hG, hll, hA, hB⟩ := hrel
    have HGr := Lib.hid hG
    have HA := Lib.hid hA
    have HBr := Lib.hid hB
    clear hG hA
    by_cases hlt : k < L
    · obtain ⟨b, off, rfl, hb, hc⟩ := HC.out (by omega)
      have x2 := (hB.cell (p := ⟨b, off + k, none⟩) hb).trans (hc k hlt)
      have lx := HS.out k hlt
      have HT := Lib.hid (Nat.testBit_eq_decide_div_mod_eq (x := n) (i := k))
      have HSz := Lib.hid (gsize_any k (by omega))
      have l0 := Nat.two_pow_pos k
      have HON := Lib.hid (fun h => asgK_on (vs := vs) (n := n) (k := k) h)
      have HOFF := Lib.hid (fun h => asgK_off (vs := vs) (n := n) (k := k) h)
      obtain ⟨X, hX⟩ : ∃ X, X = mAt vs k := ⟨_, rfl⟩
      rw [← hX] at x2 lx HON
      have lP : 2 ^ k ≤ 128 := Nat.pow_le_pow_right (n := 2) (by omega) (show k ≤ 7 by omega)
      generalize 2 ^ k = P at *
      have d1 : ¬ (P : Int) = 0 := by omega
      obtain ⟨D, hD⟩ : ∃ D, D = n / P := ⟨_, rfl⟩
      have lD : D ≤ n := by rw [hD]; exact Nat.div_le_self n P
      have d2 : (n : Int) / (P : Int) = (D : Int) := by rw [hD]; rfl
      rw [← hD] at HT
      clear hD hX hB hc
      go_wp2_with fail
      refine (HSz.out _).mono ?_
      rintro e w1 ⟨rfl, rfl⟩
      by_cases hd : D % 2 = 1
      · have e1 : ((D : Int) % 2 == 1) = true := by simp; omega
        have hbit := HT.out.trans (decide_eq_true hd)
        clear HT HSz hd
        go_wp2_with (refine st_num (n := 4294967295) (t := 26) HGr.out (by omega) rfl rfl rfl rfl ?_; intro W2 hp2; have HP2 := Lib.hid hp2; clear hp2)
        go_roundw
        case rel => exact ⟨k + 1, l.set X 4294967295, by omega, by go_num, HP2.out.row, by simp [hll], fun x => by
          rw [HON.out hbit, mAt_set X 4294967295 x (by omega)]
          by_cases hx : x = X
          · rw [if_pos hx, if_pos hx]; exact .inl rfl
          · rw [if_neg hx, if_neg hx]; exact HA.out x, HP2.out.below HBr.out (Nat.le_refl _)⟩
        case measure => simp [intOf]; omega
      · have e1 : ((D : Int) % 2 == 1) = false := by simp; omega
        have hbit := HT.out.trans (decide_eq_false hd)
        clear HT HSz hd
        go_wp2_with fail
        go_roundw
        case rel => exact ⟨k + 1, l, by omega, by go_num, HGr.out, hll, fun x => by rw [HOFF.out hbit]; exact HA.out x, HBr.out⟩
        case measure => simp [intOf]; omega
    · obtain rfl : k = L := by omega
      go_wp2_with fail
      go_ret
      exact ⟨_, rfl, UAt.block HGr.out hll (fun i hi => by rcases HA.out i with h | h; rw [h, HL.out, asgK_all]; omega), HBr.out⟩
/-! ### The variables of both -/
def bothK (a b : List Nat) (k : Nat) : List Nat := (List.range k).filter fun x => a.contains x || b.contains x
theorem bothK_len (a b : List Nat) (k : Nat) : (bothK a b k).length ≤ k := Nat.le_trans (List.length_filter_le _ _) (by simp)
theorem bothK_in {a b : List Nat} {k : Nat} (h : (a.contains k || b.contains k) = true) : bothK a b (k + 1) = bothK a b k ++ [k] := by
  unfold bothK
  rw [List.range_succ, List.filter_append]
  congr 1
  exact List.filter_cons_of_pos h
theorem bothK_out {a b : List Nat} {k : Nat} (h : (a.contains k || b.contains k) = false) : bothK a b (k + 1) = bothK a b k := by
  unfold bothK
  rw [List.range_succ, List.filter_append, List.filter_cons_of_neg (by rw [h]; decide)]
  simp
def anyK (l : List Nat) (x m : Nat) : Bool := (List.range m).any fun j => mAt l j == x
theorem anyK_next (l : List Nat) (x m : Nat) : anyK l x (m + 1) = (anyK l x m || mAt l m == x) := by
  unfold anyK
  rw [List.range_succ, List.any_append]
  simp
theorem anyK_all (l : List Nat) (x : Nat) : anyK l x l.length = l.contains x := by
  unfold anyK
  apply Bool.eq_iff_iff.2
  rw [List.any_eq_true, List.contains_iff_mem]
  constructor
  · rintro ⟨j, hj, e⟩
    rw [← (beq_iff_eq.1 e)]
    exact Bf.mem_mAt (List.mem_range.1 hj)
  · intro h
    obtain ⟨j, hj, e⟩ := Bf.mAt_of_mem h
    exact ⟨j, List.mem_range.2 hj, beq_iff_eq.2 e⟩
set_option maxHeartbeats 4000000 in
theorem gboth_any (v1 v2 : Value) (a b : List Nat) (t1 t2 : List Nat) (w : World) (h1 : GF w v1 (natsI a) t1) (h2 : GF w v2 (natsI b) t2) (ha : a.length ≤ 4) (hb : b.length ≤ 4) :
    Calls Try.prog 40 #[v1, v2] w fun e w' => ∃ u, e = .returned u ∧ NRow .i64 w' u (natsI (Bf.bothF a b)) ∧ Below w.heap.size w w' := by
  obtain ⟨i0, hi, hz0, hz1, hz2⟩ := info_parts infoJ
  obtain ⟨_, _, rfl, hs1, hs2⟩ := h1
  obtain ⟨_, _, rfl, hs3, hs4⟩ := h2
  obtain ⟨ao1, cap1, rfl⟩ := hs1.shape
  obtain ⟨ao2, cap2, rfl⟩ := hs2.shape
  obtain ⟨ao3, cap3, rfl⟩ := hs3.shape
  obtain ⟨ao4, cap4, rfl⟩ := hs4.shape
  have HC1 := Lib.hid (nrow_at hs1 rfl).2
  have HC3 := Lib.hid (nrow_at hs3 rfl).2
  rw [natsI_len, natsI_len, natsI_len, natsI_len]
  obtain ⟨La, hLa⟩ : ∃ La, La = a.length := ⟨_, rfl⟩
  obtain ⟨Lb, hLb⟩ : ∃ Lb, Lb = b.length := ⟨_, rfl⟩
  rw [← hLa] at ha HC1 ⊢
  rw [← hLb] at hb HC3 ⊢
  have HLa := Lib.hid hLa
  have HLb := Lib.hid hLb
  obtain ⟨W, hW, x0, x1, hB⟩ := box2 w (.cells #[.slice ao1 La cap1, .slice ao2 t1.length cap2] 37) (.cells #[.slice ao3 Lb cap3, .slice ao4 t2.length cap4] 37)
  have HX1 := Lib.hid x0
  have HX2 := Lib.hid x1
  have HB := Lib.hid hB
  have hsW := hB.size
  clear hs1 hs2 hs3 hs4 hLa hLb x0 x1 hB
  go_enter Try.func40, Try.ntmps40
  go_upto_region 1 with fail
  rw [← hW]
  clear hW
  go_wp2_with fail
  go_loopw [5, 6] (fun u i wr => ∃ k : Nat, k ≤ 34 ∧ i = .int .i64 k ∧ wr.ownsRow W.heap.size 3 1 u (bothK a b k).length (zcells (natsI (bothK a b k))) ∧ Below W.heap.size W wr) (fun _ i _ => 34 - (intOf i).toNat)
  case atStart => exact ⟨0, by omega, rfl, by simpa [bothK, natsI, zcells] using World.ownsRow_nil _ _ _ _, Below.refl _ _⟩
  case round =>
    obtain ⟨k, hk, rfl, hO, hBr⟩ := hrel
    have HO := Lib.hid hO
    have HBr := Lib.hid hBr
    have lK := bothK_len a b k
    clear hO
    by_cases hlt : k < 34
    · have y1 := (cell_in (kb hBr HX1.out) 0).trans rfl
      have y2 := (cell_in (kb hBr HX2.out) 0).trans rfl
      have hsz := hBr.size
      go_wp2_with fail
      go_loopw [7, 8] (fun q j wx => ∃ (m : Nat) (B : Bool), m ≤ La ∧ j = .int .i64 m ∧ q = .bool B ∧ B = anyK a k m ∧ wx = wr) (fun _ j _ => La - (intOf j).toNat)
      case atStart => exact ⟨0, false, by omega, rfl, rfl, rfl, rfl⟩
      case round =>
        obtain ⟨m, B, hm, rfl, rfl, hBv, rfl⟩ := hrel
        have HBv := Lib.hid hBv
        clear hBv
        by_cases hlm : m < La
        · obtain ⟨bb, oo, rfl, hb1, hc1⟩ := HC1.out (by omega)
          have x2 := ((hBr.cell (p := ⟨bb, oo + m, none⟩) (Nat.lt_of_lt_of_le hb1 hsW)).trans (HB.out.cell (p := ⟨bb, oo + m, none⟩) hb1)).trans (hc1 m hlm)
          have HN := Lib.hid (anyK_next a k m)
          generalize mAt a m = X at *
          clear hc1
          cases B
          · go_wp2_with fail
            go_roundw
            case rel => exact ⟨m + 1, _, by omega, by go_num, rfl, by rw [HN.out, ← HBv.out, Bool.false_or]; apply Bool.eq_iff_iff.2; rw [beq_iff_eq, beq_iff_eq]; omega, trivial⟩
            case measure => simp [intOf]; omega
          · go_wp2_with fail
            go_roundw
            case rel => exact ⟨m + 1, _, by omega, by go_num, rfl, by rw [HN.out, ← HBv.out, Bool.true_or], trivial⟩
            case measure => simp [intOf]; omega
        · obtain rfl : m = La := by omega
          have HBa : Hid (B = a.contains k) := Lib.hid (by rw [HBv.out, HLa.out, anyK_all])
          clear HBv
          go_wp2_with fail
          go_loopw [7, 9] (fun q j wy => ∃ (m : Nat) (C : Bool), m ≤ Lb ∧ j = .int .i64 m ∧ q = .bool C ∧ C = (B || anyK b k m) ∧ wy = wr) (fun _ j _ => Lb - (intOf j).toNat)
          case atStart => exact ⟨0, B, by omega, rfl, rfl, by simp [anyK], rfl⟩
          case round =>
            obtain ⟨m2, C, hm2, rfl, rfl, hCv, rfl⟩ := hrel
            have HCv := Lib.hid hCv
            clear hCv
            by_cases hlm : m2 < Lb
            · obtain ⟨bb, oo, rfl, hb1, hc1⟩ := HC3.out (by omega)
              have x2 := ((hBr.cell (p := ⟨bb, oo + m2, none⟩) (Nat.lt_of_lt_of_le hb1 hsW)).trans (HB.out.cell (p := ⟨bb, oo + m2, none⟩) hb1)).trans (hc1 m2 hlm)
              have HN := Lib.hid (anyK_next b k m2)
              generalize mAt b m2 = X at *
              clear hc1
              cases C
              · go_wp2_with fail
                go_roundw
                case rel => exact ⟨m2 + 1, _, by omega, by go_num, rfl, by rw [HN.out, ← Bool.or_assoc, ← HCv.out, Bool.false_or]; apply Bool.eq_iff_iff.2; rw [beq_iff_eq, beq_iff_eq]; omega, trivial⟩
                case measure => simp [intOf]; omega
              · go_wp2_with fail
                go_roundw
                case rel => exact ⟨m2 + 1, _, by omega, by go_num, rfl, by rw [HN.out, ← Bool.or_assoc, ← HCv.out, Bool.true_or], trivial⟩
                case measure => simp [intOf]; omega
            · obtain rfl : m2 = Lb := by omega
              have HCa : Hid (C = (a.contains k || b.contains k)) := Lib.hid (by rw [HCv.out, HBa.out, HLb.out, anyK_all])
              clear HCv HBa
              cases C
              · have HK := Lib.hid (bothK_out HCa.out.symm)
                go_wp2_with fail
                go_roundw
                case rel => exact ⟨k + 1, by omega, by go_num, by rw [HK.out]; exact HO.out, HBr.out⟩
                case measure => simp [intOf]; omega
              · have HK := Lib.hid (bothK_in HCa.out.symm)
                clear hBr
                go_wp2_with (at_builtin; refine wpList_append_own _ rfl _ _ 22 rfl W.heap.size 3 i0 (.int .i64 0) 1 8 Try.underlying22 hi hz0 hz1 hz2 rfl (by decide) _ _ _ rfl (HO.out.alloc _) ⟨_, 0, none⟩ 1 1 [.int .i64 (k : Int)] rfl rfl (new_at _ #[.int .i64 (k : Int)] 3) (by simp [Value.oneCell']) (by unfold maxLen; omega) (by omega) (by rw [size_alloc]; omega) ?_)
                intro v3 w3 hown3 hgrow3 _
                have HB3 := Lib.hid (grown_below (HBr.out.alloc hsz (.cells #[.int .i64 (k : Int)] 3)) (HO.out.alloc _) hgrow3 (by rw [size_alloc]; omega))
                have HO3 : Hid (w3.ownsRow W.heap.size 3 1 v3 (bothK a b (k + 1)).length (zcells (natsI (bothK a b (k + 1))))) := Lib.hid (by
                  rw [HK.out, natsI_app, zcells_app, List.length_append]
                  exact hown3)
                clear hown3 hgrow3 HO HBr y1 y2
                go_wp2_with fail
                go_roundw
                case rel => exact ⟨k + 1, by omega, by go_num, HO3.out, HB3.out⟩
                case measure => simp [intOf]; omega
    · obtain rfl : k = 34 := by omega
      clear hBr
      go_wp2_with fail
      go_ret
      exact ⟨_, rfl, NRow.own HO.out (by rw [natsI_len]; rfl), below2 HB.out HBr.out⟩
end Go.Proofs.Ytlgoeegpgcilbaa
