/-
  What the laws' texts use, joined.
-/
import Derived.Test.YtbekkdhlfkongaaGreatDoorProg
import Derived.WalkKit
import Derived.ProofKit
import Derived.Lib.Hide
import Derived.Laws.Rows
import Derived.Laws.ResultCell
import Derived.Laws.Entries
import Derived.Handy
import Derived.OwnWalk
import Derived.Laws.OwnMore
import Derived.Deep.Draws
import Derived.Laws.IdiomStrings
import Derived.Lib.BufferRead
import Derived.Maps.OwnSet
import Derived.Laws.BitsAllLaws
import Derived.RowKit
import Derived.Lib.QuietBelow
import Derived.Lib.OthersKept
/-
  What is the same for every stage: worlds that have only grown, blocks and rows of a call's own, small words on endings.
-/
namespace Go.Proofs.YtbekkdhlfkongaaGreatDoor
open Go.ChangeShapes Go.WideShapes Go.ChangeAt Go.RowKit

theorem ret1 {c c' : Bool} (h : c = c') : Ending.returned (.bool c) = .returned (.bool c') := by rw [h]
/-- A new block more. -/
theorem ba {w v : World} (o : Obj) (h : Below w.heap.size w v) : Below w.heap.size w (v.alloc o) := h.alloc h.size o
/-- A struct's block: what its cells hold. -/
theorem cell_in {w : World} {g : Nat} {cs : Array Value} {t : TypeId} {fr : Nat × Nat} (h : w.heap[g]? = some (.cells cs t fr)) (i : Nat) : w.cell? ⟨g, i, none⟩ = cs[i]? := cell_of_row w g i cs t fr h
theorem free_in {w : World} {g : Nat} {cs : Array Value} {t : TypeId} (h : w.heap[g]? = some (.cells cs t (0, 0))) (i : Nat) : w.frozen? ⟨g, i, none⟩ = false := by simp [World.frozen?, h]
theorem size_alloc (w : World) (o : Obj) : (w.alloc o).heap.size = w.heap.size + 1 := by
  show (w.heap.push o).size = _
  simp
/-- A law on append: the world that it leaves, below the base. -/
theorem grown_below {B : Nat} {w0 w w' : World} {e : TypeId} {size : Nat} {v : Value} {n : Nat} {xs : List Value} (h : Below B w0 w) (ho : w.ownsRow B e size v n xs) (hg : w.grownBy w' v.ownBlock) (hB : B ≤ w.heap.size) : Below B w0 w' :=
  h.grown hg hB fun k hk => (ho.lt k hk).1
theorem news_at {w : World} {g : Nat} {cs : Array Value} {t : TypeId} {fr : Nat × Nat} (h : w.heap[g]? = some (.cells cs t fr)) : ∀ j u, cs.toList[j]? = some u → w.cell? ((⟨g, 0, none⟩ : Addr).add j) = some u := by
  intro j u hu
  rw [show (⟨g, 0, none⟩ : Addr).add j = ⟨g, j, none⟩ by unfold Addr.add; split <;> simp_all, cell_in h]
  simpa using hu
theorem new_at (w : World) (cs : Array Value) (t : TypeId) : ∀ j u, cs.toList[j]? = some u → (w.alloc (.cells cs t)).cell? ((⟨w.heap.size, 0, none⟩ : Addr).add j) = some u := news_at (heap_alloc_new w (.cells cs t))
theorem own_below {w w' : World} {base : Nat} {e : TypeId} {size : Nat} {v : Value} {n : Nat} {xs : List Value} (h : w.ownsRow base e size v n xs) (hb : Below w.heap.size w w') : w'.ownsRow base e size v n xs := by
  obtain ⟨h1, h2⟩ := h
  refine ⟨h1, h2.imp id ?_⟩
  rintro ⟨g, cap, cur, hv, hg, hh, r⟩
  exact ⟨g, cap, cur, hv, hg, (hb.block g (lt_of_block hh)).trans hh, r⟩
theorem own_shape {w : World} {base : Nat} {e : TypeId} {size : Nat} {v : Value} {n : Nat} {xs : List Value} (h : w.ownsRow base e size v n xs) : ∃ a c, v = .slice a n c := by
  rcases h.2 with ⟨rfl, rfl⟩ | ⟨g, cap, _, rfl, _⟩
  · exact ⟨_, _, rfl⟩
  · exact ⟨_, _, rfl⟩
theorem own_cells {w : World} {base : Nat} {e : TypeId} {v : Value} {n : Nat} {xs : List Value} (h : w.ownsRow base e 1 v n xs) (hn : 0 < n) :
    ∃ g c, v = .slice (some ⟨g, 0, none⟩) n c ∧ base ≤ g ∧ g < w.heap.size ∧ n ≤ c ∧ ∀ i u, xs[i]? = some u → w.cell? ⟨g, i, none⟩ = some u := by
  have hh := h
  rcases h.2 with ⟨_, h0⟩ | ⟨g, cap, cur, rfl, hg, hb, hc, _⟩
  · omega
  · refine ⟨g, cap, rfl, hg, lt_of_block hb, hc, fun i u hu => ?_⟩
    have hi : i < n * 1 := by have h1 := h.1; have := (List.getElem?_eq_some_iff.1 hu).1; omega
    rw [hh.cellAt i hi]
    exact hu
theorem below2 {a b c : World} (h : Below a.heap.size a b) (k : Below b.heap.size b c) : Below a.heap.size a c := h.trans (k.mono h.size)
theorem bdN {B : Nat} {a w : World} (h : Below B a w) (n : Nat) : Below B a (w.drewN n) := ⟨h.os, h.tape, h.output, h.size, h.block⟩
theorem retI {a b : Int} (h : a = b) : Ending.returned (.int .i64 b) = .returned (.int .i64 a) := by rw [h]
theorem retB {a b : Bool} (h : a = b) : Ending.returned (.bool b) = .returned (.bool a) := by rw [h]
theorem own_mono {w : World} {base base' : Nat} {e : TypeId} {size : Nat} {v : Value} {n : Nat} {xs : List Value} (h : w.ownsRow base e size v n xs) (hb : base' ≤ base) : w.ownsRow base' e size v n xs :=
  ⟨h.1, h.2.imp id fun ⟨g, cap, cur, a, b, c⟩ => ⟨g, cap, cur, a, Nat.le_trans hb b, c⟩⟩
theorem add_plain (b off j : Nat) : (⟨b, off, none⟩ : Addr).add j = ⟨b, off + j, none⟩ := Addr.add_lit b off j
theorem own_empty (w : World) (base : Nat) (e : TypeId) (size : Nat) (hb : base ≤ w.heap.size) : (w.alloc (.cells #[] e)).ownsRow base e size (.slice (some ⟨w.heap.size, 0, none⟩) 0 0) 0 [] :=
  World.ownsRow_made w #[] 0 hb (by unfold maxLen; omega) (by simp)
theorem pick_list {α : Type} {Q : Nat → α → Prop} : ∀ n : Nat, (∀ i, i < n → ∃ x, Q i x) → ∃ l : List α, l.length = n ∧ ∀ i (h : i < l.length), Q i l[i]
  | 0, _ => ⟨[], rfl, fun i h => by simp at h⟩
  | n + 1, h => by
    obtain ⟨l, hl, hq⟩ := pick_list n (fun i hi => h i (by omega))
    obtain ⟨x, hx⟩ := h n (by omega)
    refine ⟨l ++ [x], by simp [hl], fun i hi => ?_⟩
    by_cases hin : i < l.length
    · rw [List.getElem_append_left hin]
      exact hq i hin
    · have hi' : i = l.length := by simp at hi; omega
      subst hi'
      simp
      rw [hl]
      exact hx
end Go.Proofs.YtbekkdhlfkongaaGreatDoor

/-
  Bytes that lie in a world; numbers as bytes; append(own, src...) where src is anything that lies in the world (nil among them); string(b).
-/
namespace Go.Proofs.YtbekkdhlfkongaaGreatDoor
open Go.ChangeShapes Go.WideShapes Go.ChangeAt Go.RowKit
set_option maxRecDepth 20000

theorem info8 : (Tryz.prog.info? 5).map (fun i => (i.zero, i.size, i.bytes)) = some (some (.int .u8 0), 1, 1) := by kernel_rfl
/-- Bytes that lie in a world. -/
def BAt (w : World) (v : Value) (l : List UInt8) : Prop :=
  ∃ ao cap, v = .slice ao l.length cap ∧ l.length ≤ cap ∧ cap ≤ 9223372036854775807 ∧ (l = [] ∨ ∃ b off, ao = some ⟨b, off, none⟩ ∧ b < w.heap.size ∧ ∀ i (h : i < l.length), w.cell? ⟨b, off + i, none⟩ = some (.int .u8 ((l[i]).toNat : Int)))
abbrev bcells (l : List UInt8) : List Value := l.map fun b => Value.int .u8 (b.toNat : Int)
theorem bcells_one (l : List UInt8) : ∀ u ∈ bcells l, u.oneCell' = true := by
  intro u hu
  obtain ⟨b, _, rfl⟩ := List.mem_map.1 hu
  rfl
theorem BAt.nil (w : World) : BAt w (.slice none 0 0) [] := ⟨none, 0, rfl, Nat.le_refl _, by omega, .inl rfl⟩
theorem BAt.below {w w' : World} {v : Value} {l : List UInt8} (h : BAt w v l) (hb : Below w.heap.size w w') : BAt w' v l := by
  obtain ⟨ao, cap, rfl, hcap, hm, h⟩ := h
  refine ⟨ao, cap, rfl, hcap, hm, h.imp id ?_⟩
  rintro ⟨b, off, rfl, hl, hc⟩
  exact ⟨b, off, rfl, Nat.lt_of_lt_of_le hl hb.size, fun i hi => (hb.cell (p := ⟨b, _, none⟩) hl).trans (hc i hi)⟩
theorem BAt.own {w : World} {base : Nat} {e : TypeId} {v : Value} {n : Nat} {l : List UInt8} (h : w.ownsRow base e 1 v n (bcells l)) (hn : n = l.length) : BAt w v l := by
  subst hn
  rcases h.2 with ⟨rfl, h0⟩ | ⟨g, cap, cur, rfl, _, hg, hc, hm, _, ht⟩
  · obtain rfl := List.length_eq_zero_iff.1 h0
    exact BAt.nil w
  · unfold maxLen at hm
    refine ⟨_, _, rfl, hc, hm, .inr ⟨g, 0, rfl, lt_of_block hg, fun i hi => ?_⟩⟩
    rw [Nat.zero_add, cell_in hg i, ← Array.getElem?_toList]
    have hu : (bcells l)[i]? = some (.int .u8 ((l[i]).toNat : Int)) := by simp [hi]
    rw [← ht, List.getElem?_take, if_pos (by omega)] at hu
    exact hu
/-- Byte i of a number. -/
def byteAt (N i : Nat) : UInt8 := UInt8.ofNat (N / 2 ^ (8 * i))
theorem byteAt_val (N i : Nat) : ((byteAt N i).toNat : Int) = ((N / 2 ^ (8 * i) % 256 : Nat) : Int) := by simp [byteAt]
def lowBytes (N sz : Nat) : List UInt8 := (List.range sz).map (byteAt N)
theorem lowBytes_succ (N k : Nat) : lowBytes N (k + 1) = lowBytes N k ++ [byteAt N k] := by simp [lowBytes, List.range_succ]
theorem lowBytes_len (N k : Nat) : (lowBytes N k).length = k := by simp [lowBytes]
theorem bcells_app (a b : List UInt8) : bcells (a ++ b) = bcells a ++ bcells b := by simp
theorem bcells_last (N k : Nat) : bcells [byteAt N k] = [.int .u8 ((N : Int) / 2 ^ (8 * k) % 256)] := by
  simp only [List.map_cons, List.map_nil, byteAt_val]
  simp
/-- The number of the first so many bytes from a place on. -/
def numAt (l : List UInt8) (o : Nat) : Nat → Nat
  | 0 => 0
  | sz + 1 => numAt l o sz + (l.getD (o + sz) 0).toNat * 2 ^ (8 * sz)
theorem numAt_lt (l : List UInt8) (o sz : Nat) : numAt l o sz < 2 ^ (8 * sz) := by
  induction sz with
  | zero => simp [numAt]
  | succ n ih =>
    have h := UInt8.toNat_lt (l.getD (o + n) 0)
    have e : 2 ^ (8 * (n + 1)) = 256 * 2 ^ (8 * n) := by rw [Nat.mul_succ, Nat.pow_add]; omega
    rw [e]
    simp only [numAt]
    have : (l.getD (o + n) 0).toNat * 2 ^ (8 * n) ≤ 255 * 2 ^ (8 * n) := Nat.mul_le_mul_right _ (by omega)
    omega
theorem numAt_front (P B : List UInt8) (o sz : Nat) : numAt (P ++ B) (P.length + o) sz = numAt B o sz := by
  induction sz with
  | zero => rfl
  | succ n ih =>
    simp only [numAt, ih]
    congr 3
    rw [List.getD_eq_getElem?_getD, List.getD_eq_getElem?_getD, List.getElem?_append_right (by omega)]
    congr 2
    omega
theorem numAt_behind (E S : List UInt8) (o sz : Nat) (h : o + sz ≤ E.length) : numAt (E ++ S) o sz = numAt E o sz := by
  induction sz with
  | zero => rfl
  | succ n ih =>
    simp only [numAt, ih (by omega)]
    congr 3
    rw [List.getD_eq_getElem?_getD, List.getD_eq_getElem?_getD, List.getElem?_append_left (by omega)]
theorem BAt.lit (w : World) (l : List UInt8) (t : TypeId) (hm : l.length ≤ 9223372036854775807) : BAt (w.alloc (.cells (bcells l).toArray t)) (.slice (some ⟨w.heap.size, 0, none⟩) l.length l.length) l :=
  ⟨_, _, rfl, Nat.le_refl _, hm, .inr ⟨_, 0, rfl, by rw [size_alloc]; omega, fun i hi => by
    rw [Nat.zero_add, cell_in (heap_alloc_new w (.cells (bcells l).toArray t)) i]
    simp [hi]⟩⟩
/-- Bytes in a world that only drew, or grew. -/
theorem BAt.shape {w : World} {v : Value} {l : List UInt8} (h : BAt w v l) : ∃ ao cap, v = .slice ao l.length cap := by
  obtain ⟨ao, cap, rfl, _⟩ := h
  exact ⟨ao, cap, rfl⟩
/-- A slice whose elements have these cells. -/
def SrcAt (w : World) (size : Nat) (x : Value) (m : Nat) (news : List Value) : Prop :=
  ∃ ao c, x = .slice ao m c ∧ news.length = m * size ∧ (ao = none → m = 0) ∧ ∀ ad, ao = some ad → ∀ j u, news[j]? = some u → w.cell? (ad.add j) = some u
theorem BAt.src {w : World} {v : Value} {l : List UInt8} (h : BAt w v l) : SrcAt w 1 v l.length (bcells l) := by
  obtain ⟨ao, cap, rfl, _, _, h⟩ := h
  refine ⟨ao, cap, rfl, by simp, fun h0 => ?_, fun ad had j u hu => ?_⟩
  · rcases h with rfl | ⟨b, off, rfl, _⟩
    · rfl
    · cases h0
  · rcases h with rfl | ⟨b, off, rfl, _, hc⟩
    · simp at hu
    · cases had
      have hj : j < l.length := by simpa using (List.getElem?_eq_some_iff.1 hu).1
      rw [add_plain, hc j hj]
      simp [hj] at hu
      rw [hu]
theorem SrcAt.below {w w' : World} {size m : Nat} {x : Value} {news : List Value} (h : SrcAt w size x m news) (hk : ∀ p : Addr, w.cell? p ≠ none → w'.cell? p = w.cell? p) : SrcAt w' size x m news := by
  obtain ⟨ao, c, rfl, h1, h2, h3⟩ := h
  refine ⟨ao, c, rfl, h1, h2, fun ad had j u hu => ?_⟩
  have e := h3 ad had j u hu
  rw [hk _ (by rw [e]; simp)]
  exact e
section
variable {P : Program} (w : World)
theorem run_append_nothing (base : Nat) (t ty e : TypeId) (i : TypeInfo) (size : Nat) (ht : P.underlying t = some (.slice e)) (hi : P.info? e = some i) (v : Value) (n : Nat) (xs : List Value) (hown : w.ownsRow base e size v n xs) (c : Nat) :
    (Builtin.append_ #[t, t] ty #[v, .slice none 0 c]).run P w = .ok v w := by
  rcases hown.2 with ⟨rfl, rfl⟩ | ⟨g, cap, cur, rfl, _, _, hnc, _⟩
  · simp [Builtin.append_, run_underlying ht, sizeOf, typeInfo, hi, Builtin.lenOf, Builtin.firstCells]
  · simp [Builtin.append_, run_underlying ht, sizeOf, typeInfo, hi, Builtin.lenOf, Builtin.firstCells, hnc, storeCells]
theorem wpList_append_src {ops : Array Oper} {rest : List Oper} {o : Oper} {a : Act} {Q : Exit → Act → World → Prop} (hgd : o.guard = none) (s x : Operand) (t : TypeId)
    (ho : o.op = .call { callee := .builtin .append, args := #[s, x], argTypes := #[t, t] })
    (base : Nat) (e : TypeId) (i : TypeInfo) (z : Value) (size bytes : Nat) (ht : P.underlying t = some (.slice e)) (hi : P.info? e = some i) (hz : i.zero = some z)
    (hsize : i.size = size) (hby : i.bytes = bytes) (hzs : z.cells.size = size) (hsz : 0 < size)
    (v : Value) (n : Nat) (xs : List Value) (hs : a.eval s = v) (hown : w.ownsRow base e size v n xs)
    (xv : Value) (m : Nat) (news : List Value) (hx : a.eval x = xv) (hsrc : SrcAt w size xv m news) (h1 : ∀ u ∈ news, u.oneCell' = true)
    (h63 : n + m ≤ maxLen) (hbytes : (n + m) * bytes ≤ 140737488355328) (hbase : base ≤ w.heap.size)
    (h : ∀ v' w', w'.ownsRow base e size v' (n + m) (xs ++ news) → w.grownBy w' v.ownBlock → wpList P ops Q rest (a.put o.dst v') w') : wpList P ops Q (o :: rest) a w := by
  obtain ⟨ao, c, rfl, hl, h0, hc⟩ := hsrc
  cases ao with
  | some ad => exact wpList_append_own w hgd s x t ho base e i z size bytes ht hi hz hsize hby hzs hsz v n xs hs hown ad m c news hx hl (hc ad rfl) h1 h63 hbytes hbase fun v' w' h2 h3 _ => h v' w' h2 h3
  | none =>
    obtain rfl := h0 rfl
    obtain rfl : news = [] := List.eq_nil_of_length_eq_zero (by simpa using hl)
    refine wpList_plain hgd fun K hK => ?_
    have hrun := run_append_nothing (P := P) w base t o.type e i size ht hi v n xs hown c
    unfold Oper.wp
    simp [execOp, ho, resolve, invoke, builtin, hs, hx, hrun, Result.andThen]
    exact hK _ _ (h v w (by simpa using hown) (World.grownBy.refl w _))
theorem step_append_src {ops : Array Oper} {o : Oper} {a : Act} {K : Act → World → Prop} {Q : Exit → Act → World → Prop} {E : Prop} (hgd : o.guard = none) (s x : Operand) (t : TypeId)
    (ho : o.op = .call { callee := .builtin .append, args := #[s, x], argTypes := #[t, t] })
    (base : Nat) (e : TypeId) (i : TypeInfo) (z : Value) (size bytes : Nat) (ht : P.underlying t = some (.slice e)) (hi : P.info? e = some i) (hz : i.zero = some z)
    (hsize : i.size = size) (hby : i.bytes = bytes) (hzs : z.cells.size = size) (hsz : 0 < size)
    (v : Value) (n : Nat) (xs : List Value) (hs : a.eval s = v) (hown : w.ownsRow base e size v n xs)
    (xv : Value) (m : Nat) (news : List Value) (hx : a.eval x = xv) (hsrc : SrcAt w size xv m news) (h1 : ∀ u ∈ news, u.oneCell' = true)
    (h63 : n + m ≤ maxLen) (hbytes : (n + m) * bytes ≤ 140737488355328) (hbase : base ≤ w.heap.size)
    (h : ∀ v' w', w'.ownsRow base e size v' (n + m) (xs ++ news) → w.grownBy w' v.ownBlock → K (a.put o.dst v') w') :
    if Region.wanted o (yielded ops a.tmps) = true then Oper.wp P o a w K Q else E := by
  have hw : Region.wanted o (yielded ops a.tmps) = true := by simp [Region.wanted, hgd]
  rw [if_pos hw]
  obtain ⟨ao, c, rfl, hl, h0, hc⟩ := hsrc
  cases ao with
  | some ad => exact wp_append_own w s x t ho base e i z size bytes ht hi hz hsize hby hzs hsz v n xs hs hown ad m c news hx hl (hc ad rfl) h1 h63 hbytes hbase fun v' w' h2 h3 _ => h v' w' h2 h3
  | none =>
    obtain rfl := h0 rfl
    obtain rfl : news = [] := List.eq_nil_of_length_eq_zero (by simpa using hl)
    have hrun := run_append_nothing (P := P) w base t o.type e i size ht hi v n xs hown c
    unfold Oper.wp
    simp [execOp, ho, resolve, invoke, builtin, hs, hx, hrun, Result.andThen]
    exact h v w (by simpa using hown) (World.grownBy.refl w _)
end
end Go.Proofs.YtbekkdhlfkongaaGreatDoor

namespace Go
/-- An entry of a map's literal, at the operation (as 'wpList_mapUpdate_own' has it of an assignment). -/
theorem wpList_insert_own {H : Type} {P : Program} (w : World) {ops : Array Oper} {rest : List Oper} {o : Oper} {a : Act} {Q : Exit → Act → World → Prop}
    (hg : o.guard = none) (m x v : Operand) (t : TypeId) (hop : o.op = Op.insert t m x v)
    (k e : TypeId) (K : Maps.Keyed P k) (ht : P.underlying t = some (.map k e)) (R : Value → Option (DataW H × List MemPlace)) (b n : Nat) (D : DataW H)
    (hm : a.eval m = .map (some b)) (hown : w.ownsMap P k R b n D) (hn : n < maxLen) (key val : Value) (kl : Lit) (hx : a.eval x = key) (hv : a.eval v = val) (hkey : keyOf P k key = some kl)
    (d : DataW H) (ps : List MemPlace) (hval : R val = some (d, ps))
    (hK : ∀ w', w'.ownsMap P k R b (n + 1) (D.put kl d) → w.grownBy w' (some b) → wpList P ops Q rest (a.put o.dst undef) w') :
    wpList P ops Q (o :: rest) a w := by
  refine wpList_plain hg fun K' hK' => ?_
  obtain ⟨w', hrun, r1, r2⟩ := hown.update K ht hn hkey hval
  unfold Oper.wp
  simp [execOp, hop, hm, hx, hv, hrun, Result.andThen]
  exact hK' _ _ (hK w' r1 r2)
end Go
/-
  Plain facts on numbers and texts, without any program: 32-bit arithmetic as Int functions, hexadecimal digits as lists of bytes.
-/
namespace Wd
open Go

/-- What comes of a kind of arithmetic, as a number. -/
def doV (k a b : Int) : Int :=
  if k = 4 then (a + b) % 4294967296
  else if k = 20 then (a - b) % 4294967296
  else if k = 36 then a * b % 4294967296
  else if k = 52 then (if b = 0 then 0 else a / b)
  else if k = 68 then bits .or .u32 a b
  else if k = 84 then bits .and .u32 a b
  else if k = 100 then a * 2 ^ (b % 32).toNat % 4294967296
  else if k = 116 then a / 2 ^ (b % 32).toNat
  else if k = 164 then bits .xor .u32 a b
  else 0
/-- Whether something comes of it. -/
def doB (k b : Int) : Bool :=
  decide (k = 4) || decide (k = 20) || decide (k = 36) || (decide (k = 52) && !decide (b = 0)) || decide (k = 68) || decide (k = 84) || decide (k = 100) || decide (k = 116) || decide (k = 164)

theorem doV_sub (a b : Int) : doV 20 a b = (a - b) % 4294967296 := rfl
theorem doV_div (a b : Int) (h : b ≠ 0) : doV 52 a b = a / b := by show (if b = 0 then 0 else a / b) = _; rw [if_neg h]
theorem doV_and (a b : Int) : doV 84 a b = bits .and .u32 a b := rfl
theorem doV_lsh (a b : Int) : doV 100 a b = a * 2 ^ (b % 32).toNat % 4294967296 := rfl
theorem doV_rsh (a b : Int) : doV 116 a b = a / 2 ^ (b % 32).toNat := rfl
theorem and31 (b : Int) (h0 : 0 ≤ b) (h1 : b ≤ 4294967295) : bits .and .u32 b 31 = b % 32 := by
  have h := u32_and b 31 h0 (by omega) (by omega) (by omega)
  rw [h]
  have e : (31 : Int).toNat = 31 := rfl
  rw [e, nat_mask5]
  omega

/-- A bound for what bits make of two numbers of 32 bits. -/
theorem bits_bd (op : BinOp) (a b : Int) : 0 ≤ bits op .u32 a b ∧ bits op .u32 a b ≤ 4294967295 := by
  unfold bits
  rw [IntKind.wrap_u32']
  omega

theorem pow32 (m : Nat) (h : m < 32) : (1 : Int) ≤ 2 ^ m ∧ (2 : Int) ^ m ≤ 2147483648 := by
  have h1 : (2 : Nat) ^ m ≤ 2 ^ 31 := Nat.pow_le_pow_right (by omega) (by omega)
  have h2 : 0 < (2 : Nat) ^ m := Nat.pow_pos (by omega)
  have e : ((2 ^ m : Nat) : Int) = (2 : Int) ^ m := by simp
  omega

theorem doV_bd (k a b : Int) (h0 : 0 ≤ a) (h1 : a ≤ 4294967295) (h2 : 0 ≤ b) : 0 ≤ doV k a b ∧ doV k a b ≤ 4294967295 := by
  unfold doV
  split; · omega
  split; · omega
  split; · omega
  split
  · split
    · omega
    · exact ⟨Int.ediv_nonneg h0 h2, Int.le_trans (Int.ediv_le_self _ h0) h1⟩
  split; · exact bits_bd _ _ _
  split; · exact bits_bd _ _ _
  split; · omega
  split
  · have := (pow32 (b % 32).toNat (by omega)).1
    exact ⟨Int.ediv_nonneg h0 (by omega), Int.le_trans (Int.ediv_le_self _ h0) h1⟩
  split; · exact bits_bd _ _ _
  omega

/-- A digit's byte. -/
def hexB (d : Nat) : UInt8 := if d < 10 then UInt8.ofNat (48 + d) else UInt8.ofNat (87 + d)

theorem hexB_lo (d : Nat) (h : d < 10) : (hexB d).toNat = 48 + d := by
  unfold hexB; rw [if_pos h]; simp; omega
theorem hexB_hi (d : Nat) (h : 10 ≤ d) (h2 : d < 16) : (hexB d).toNat = 87 + d := by
  unfold hexB; rw [if_neg (by omega)]; simp; omega

/-- The hexadecimal digits of a number. -/
def hex (n : Nat) : List UInt8 := if _h : n < 16 then [hexB n] else hex (n / 16) ++ [hexB (n % 16)]
termination_by n
decreasing_by omega

theorem hex_lt {n : Nat} (h : n < 16) : hex n = [hexB n] := by rw [hex, dif_pos h]
theorem hex_ge {n : Nat} (h : 16 ≤ n) : hex n = hex (n / 16) ++ [hexB (n % 16)] := by rw [hex, dif_neg (by omega)]

theorem hex_len : ∀ (k n : Nat), n < 16 ^ (k + 1) → 1 ≤ (hex n).length ∧ (hex n).length ≤ k + 1
  | 0, n, h => by rw [hex_lt (by simpa using h)]; simp
  | k + 1, n, h => by
    by_cases hn : n < 16
    · rw [hex_lt hn]; simp
    · rw [hex_ge (by omega)]
      have := hex_len k (n / 16) (by rw [Nat.pow_succ] at h; omega)
      simp
      omega
theorem hex_len16 (n : Nat) (h : n < 18446744073709551616) : 1 ≤ (hex n).length ∧ (hex n).length ≤ 16 := hex_len 15 n h
theorem joined (l m : List UInt8) : (⟨l.toArray⟩ : ByteArray) ++ (⟨m.toArray⟩ : ByteArray) = ⟨(l ++ m).toArray⟩ := by
  apply ByteArray.ext
  simp

theorem pow16_le (k : Nat) (h : k ≤ 65) : 16 ^ (k - 49) ≤ 18446744073709551616 :=
  Nat.le_trans (Nat.pow_le_pow_right (by omega) (show k - 49 ≤ 16 by omega)) (Nat.le_of_eq (by decide))
theorem pow16_step {x m : Nat} (hx : x < 16 ^ (m + 1 - 49)) (hge : 16 ≤ x) : 50 ≤ m ∧ x / 16 < 16 ^ (m - 49) := by
  have h49 : 50 ≤ m := by
    apply Nat.lt_of_not_le
    intro hm
    have h1 : 16 ^ (m + 1 - 49) ≤ 16 ^ 1 := Nat.pow_le_pow_right (by omega) (by omega)
    omega
  refine ⟨h49, ?_⟩
  rw [show m + 1 - 49 = (m - 49) + 1 by omega, Nat.pow_succ] at hx
  omega
theorem and15 (x : Nat) (h : x < 18446744073709551616) : bits .and .u64 (x : Int) 15 = ((x % 16 : Nat) : Int) := by
  have e := u64_and_nat x 15 h (by omega)
  rw [nat_mask4] at e
  exact e

/-! ### Digits as numbers -/
/-- What a digit's byte counts. -/
def dig (c : UInt8) : Nat := if c.toNat < 97 then c.toNat - 48 else c.toNat - 87
def val (l : List UInt8) : Nat := l.foldl (fun a c => a * 16 + dig c) 0
theorem dig_hexB (d : Nat) (h : d < 16) : dig (hexB d) = d := by
  unfold dig
  by_cases hd : d < 10
  · rw [hexB_lo d hd]; split <;> omega
  · rw [hexB_hi d (by omega) h]; split <;> omega
theorem val_snoc (l : List UInt8) (c : UInt8) : val (l ++ [c]) = val l * 16 + dig c := by simp [val]
theorem val_hex (n : Nat) : val (hex n) = n := by
  induction n using Nat.strongRecOn with
  | ind n ih =>
    by_cases h : n < 16
    · rw [hex_lt h]; simp [val, dig_hexB n h]
    · rw [hex_ge (by omega), val_snoc, ih (n / 16) (by omega), dig_hexB _ (by omega)]; omega
theorem hex_inj {m n : Nat} (h : hex m = hex n) : m = n := by rw [← val_hex m, h, val_hex]
theorem hex_ne (n : Nat) : hex n ≠ [] := by
  intro h
  by_cases hn : n < 16
  · rw [hex_lt hn] at h; cases h
  · rw [hex_ge (by omega)] at h; simp at h
theorem hex_mem (n : Nat) : ∀ c ∈ hex n, ∃ d, d < 16 ∧ c = hexB d := by
  induction n using Nat.strongRecOn with
  | ind n ih =>
    intro c hc
    by_cases h : n < 16
    · rw [hex_lt h] at hc; exact ⟨n, h, by simpa using hc⟩
    · rw [hex_ge (by omega)] at hc
      rcases List.mem_append.1 hc with hc | hc
      · exact ih (n / 16) (by omega) c hc
      · exact ⟨n % 16, by omega, by simpa using hc⟩
/-- What stands ahead in a number's digits are a smaller number's digits: not 0's, and that number times 16 is no more. -/
theorem hex_front (m : Nat) : ∀ (p q : List UInt8), p ≠ [] → q ≠ [] → hex m = p ++ q → ∃ n, p = hex n ∧ 1 ≤ n ∧ n * 16 ≤ m := by
  induction m using Nat.strongRecOn with
  | ind m ih =>
    intro p q hp hq h
    by_cases hm : m < 16
    · rw [hex_lt hm] at h
      have hl := congrArg List.length h
      have h1 := List.length_pos_iff.2 hp
      have h2 := List.length_pos_iff.2 hq
      simp at hl
      omega
    · rw [hex_ge (by omega)] at h
      rcases List.eq_nil_or_concat q with e | ⟨q', c, e⟩
      · exact absurd e hq
      · rw [List.concat_eq_append] at e
        rw [e, ← List.append_assoc] at h
        have hh := (List.append_inj' h rfl).1
        by_cases hq' : q' = []
        · rw [hq', List.append_nil] at hh
          exact ⟨m / 16, hh.symm, by omega, by omega⟩
        · obtain ⟨n, h1, h2, h3⟩ := ih (m / 16) (by omega) p q' hp hq' hh
          exact ⟨n, h1, h2, by omega⟩
/-- A number's text: 0x, then its digits. -/
def txt (n : Nat) : ByteArray := ⟨(48 :: 120 :: hex n).toArray⟩
/-- How far a text is read: the first p bytes are those of 0x and of the digits of n (of none, and n is 0, where p is at most 2). -/
def Read (l : List UInt8) (p n : Nat) : Prop :=
  n < 18446744073709551616 ∧ ((p ≤ 2 ∧ n = 0 ∧ l.take p = [48, 120].take p) ∨ (2 < p ∧ l.take p = 48 :: 120 :: hex n))
theorem Read.start (l : List UInt8) : Read l 0 0 := ⟨by omega, .inl ⟨by omega, rfl, by simp⟩⟩
/-- A text that is read up to its end is a number's. -/
theorem Read.done {l : List UInt8} {p n : Nat} (h : Read l p n) (hp : l.length ≤ p) (h3 : 3 ≤ l.length) : l = 48 :: 120 :: hex n := by
  rcases h.2 with ⟨h1, _, _⟩ | ⟨_, h2⟩
  · omega
  · rwa [List.take_of_length_le hp] at h2
/-- If the text is a number's: the byte that is read next .. -/
theorem Read.next {m : Nat} {p n : Nat} (h : Read (48 :: 120 :: hex m) p n) (hm : m < 18446744073709551616) (hl : p < (48 :: 120 :: hex m).length) :
    (p < 2 → [48, 120][p]? = some (48 :: 120 :: hex m)[p]) ∧ (2 ≤ p → ∃ d, d < 16 ∧ (48 :: 120 :: hex m)[p] = hexB d) ∧ (2 < p → n ≠ 0) ∧ n ≤ 1152921504606846975 := by
  refine ⟨fun hp => ?_, fun hp => ?_, ?_⟩
  · rcases p with _ | _ | p
    · rfl
    · rfl
    · omega
  · obtain ⟨q, rfl⟩ : ∃ q, p = q + 2 := ⟨p - 2, by omega⟩
    exact hex_mem m _ (List.getElem_mem _)
  · rcases h.2 with ⟨h1, h2, _⟩ | ⟨h1, h2⟩
    · exact ⟨fun hp => by omega, by omega⟩
    · obtain ⟨q, rfl⟩ : ∃ q, p = q + 2 := ⟨p - 2, by omega⟩
      have e : (hex m).take q = hex n := by simpa using h2
      have hq : (hex m).drop q ≠ [] := by
        intro hh
        have := congrArg List.length hh
        simp at this hl
        omega
      obtain ⟨k, hk, h1, h3⟩ := hex_front m (hex n) ((hex m).drop q) (hex_ne n) hq (by rw [← e]; exact (List.take_append_drop q (hex m)).symm)
      obtain rfl := hex_inj hk
      exact ⟨fun _ => by omega, by omega⟩

end Wd

/-
  What word.Text answers, for any number of 64 bits, in every world that has the table of math/bits: 0x and the number's hexadecimal digits; nothing that was there is changed.
-/
namespace Go.Proofs.YtbekkdhlfkongaaGreatDoor
open Go.ChangeShapes Go.WideShapes Go.ChangeAt Go.RowKit

/-- The one place of the table that is read: that of 16. -/
def Tab (w : World) : Prop := w.cell? ⟨3, 15, none⟩ = some (.int .u8 4) ∧ 3 < w.heap.size
theorem Tab.below {w w' : World} (h : Tab w) (hb : Below w.heap.size w w') : Tab w' :=
  ⟨(hb.cell (p := ⟨3, 15, none⟩) h.2).trans h.1, Nat.lt_of_lt_of_le h.2 hb.size⟩

theorem tz64 (w : World) (ht : Tab w) :
    Calls Tryz.prog 187 #[.int .u64 16] w fun e w' => e = .returned (.int .i64 4) ∧ w = w' := by
  have hc := ht.1
  have he : IntKind.u64.wrap (bits BinOp.and IntKind.u64 16 (IntKind.u64.wrap (-16)) * 285870213051353865) / 288230376151711744 = 15 := by decide
  clear ht
  go_enter Tryz.func187, Tryz.ntmps187
  go_wp2
  go_ret
  exact ⟨rfl, rfl⟩
theorem tz (w : World) (ht : Tab w) :
    Calls Tryz.prog 184 #[.int .u64 16] w fun e w' => e = .returned (.int .i64 4) ∧ w = w' := by
  go_enter Tryz.func184, Tryz.ntmps184
  go_wp2_with (go_at_call 187; refine (tz64 _ ht).mono ?_; rintro e w' ⟨rfl, rfl⟩)
  go_ret
  exact ⟨rfl, rfl⟩
theorem pow2 (w : World) :
    Calls Tryz.prog 183 #[.int .i64 16] w fun e w' => e = .returned (.bool true) ∧ w = w' := by
  have he : (bits BinOp.and IntKind.i64 16 15 == 0) = true := by decide
  go_enter Tryz.func183, Tryz.ntmps183
  go_wp2
  go_ret
  exact ⟨rfl, rfl⟩

/-- What the array of 65 bytes in block g holds from place i on. -/
structure Buf (g : Nat) (w : World) (i : Nat) (suf : List UInt8) : Prop where
  cells : ∀ j, j < 65 → ∃ v : Int, w.cell? ⟨g, j, none⟩ = some (.int .u8 v)
  free : ∀ j, w.frozen? ⟨g, j, none⟩ = false
  has : ∀ j (h : j < suf.length), w.cell? ⟨g, i + j, none⟩ = some (.int .u8 (suf[j].toNat : Int))

theorem Buf.put {g : Nat} {w : World} {i : Nat} {suf : List UInt8} (h : Buf g w (i + 1) suf) (hi : i < 65) (c : UInt8) : Buf g (w.setCell ⟨g, i, none⟩ (.int .u8 (c.toNat : Int))) i (c :: suf) := by
  obtain ⟨v, hv⟩ := h.cells i hi
  refine ⟨fun j hj => ?_, fun j => ?_, fun j hj => ?_⟩
  · by_cases e : j = i
    · subst e; exact ⟨_, World.cell?_setCell_same _ _ _ hv⟩
    · rw [World.cell?_setCell_other _ _ _ _ (by simp)]; exact h.cells j hj
  · rw [World.frozen?_setCell]; exact h.free j
  · cases j with
    | zero => exact World.cell?_setCell_same _ _ _ hv
    | succ j =>
      rw [World.cell?_setCell_other _ _ _ _ (by simp), show i + (j + 1) = i + 1 + j by omega]
      exact h.has j (by simpa using hj)

/-- The cells of a new array of 65 bytes. -/
def zs65 : Array Value := Array.replicate 65 (.int .u8 0)
theorem zs65_at (i : Nat) (h : i < 65) : zs65[i]? = some (.int .u8 0) := by simp [zs65, h]
theorem zs65_ne : zs65 ≠ #[] := by
  intro h
  have e := zs65_at 0 (by omega)
  rw [h] at e
  simp at e
theorem zv65 (w : World) : (zeroValue 231).run Tryz.prog w = .ok (.agg zs65) w := by
  have h : (Tryz.prog.info? 231).map (·.zero) = some (some (.agg zs65)) := by kernel_rfl
  cases hi : Tryz.prog.info? 231 with
  | none => rw [hi] at h; cases h
  | some i =>
    rw [hi] at h
    have h2 : i.zero = some (.agg zs65) := by simpa using h
    simp [zeroValue, typeInfo, hi, h2]
theorem Buf.new (w : World) : Buf w.heap.size (w.alloc (.cells zs65 231)) 65 [] := by
  refine ⟨fun j hj => ⟨0, ?_⟩, fun j => ?_, fun j hj => ?_⟩
  · rw [World.cell?_alloc_new]; exact zs65_at j hj
  · exact World.frozen?_alloc_new _ _ _ _
  · simp at hj

/-- What strconv's table of digits has at place d. -/
theorem digs_at (d : Nat) (h : d < 16) (h' : d < (⟨#[48, 49, 50, 51, 52, 53, 54, 55, 56, 57, 97, 98, 99, 100, 101, 102, 103, 104, 105, 106, 107, 108, 109, 110, 111, 112, 113, 114, 115, 116, 117, 118, 119, 120, 121, 122]⟩ : ByteArray).size) :
    (⟨#[48, 49, 50, 51, 52, 53, 54, 55, 56, 57, 97, 98, 99, 100, 101, 102, 103, 104, 105, 106, 107, 108, 109, 110, 111, 112, 113, 114, 115, 116, 117, 118, 119, 120, 121, 122]⟩ : ByteArray)[d]'h' = Wd.hexB d := by
  rcases d with _ | _ | _ | _ | _ | _ | _ | _ | _ | _ | _ | _ | _ | _ | _ | _ | d
  all_goals first | rfl | omega

set_option maxHeartbeats 1000000 in
set_option maxRecDepth 100000 in
theorem bits16 (n : Nat) (w : World) (hn : n < 18446744073709551616) (ht : Tab w) :
    Calls Tryz.prog 174 #[.slice none 0 0, .int .u64 n, .int .i64 16, .bool false, .bool false] w fun e w' =>
      e = .returned (.tuple #[.slice none 0 0, .string ⟨(Wd.hex n).toArray⟩]) ∧ Below w.heap.size w w' := by
  have hz := zv65
  have hne := zs65_ne
  have hb0 : Below w.heap.size w (w.alloc (.cells zs65 231)) := (Below.refl _ _).alloc (Nat.le_refl _) _
  have ht0 := ht.below hb0
  go_enter Tryz.func174, Tryz.ntmps174
  go_wp2_with (first
    | (go_at_call 183; refine (pow2 _).mono ?_; rintro e w' ⟨rfl, rfl⟩)
    | (go_at_call 184; refine (tz _ ht0).mono ?_; rintro e w' ⟨rfl, rfl⟩))
  clear ht ht0 hz hne
  go_loopw [1, 13] (fun u i w' => ∃ (x k : Nat) (suf : List UInt8), u = .int .u64 x ∧ i = .int .i64 k ∧ 50 ≤ k ∧ k ≤ 65 ∧ x < 16 ^ (k - 49) ∧ suf.length = 65 - k ∧ Wd.hex n = Wd.hex x ++ suf ∧ Buf w.heap.size w' k suf ∧ Below w.heap.size w w') (fun u _ _ => (intOf u).toNat)
  case atStart => exact ⟨n, 65, [], rfl, rfl, by omega, by omega, by simpa using hn, rfl, by simp, Buf.new w, hb0⟩
  case round =>
    obtain ⟨x, k, suf, rfl, rfl, hk0, hk1, hx, hl, he, hB, hW⟩ := hrel
    obtain ⟨m, rfl⟩ : ∃ m, k = m + 1 := ⟨k - 1, by omega⟩
    have hx64 : x < 18446744073709551616 := Nat.lt_of_lt_of_le hx (Wd.pow16_le _ hk1)
    obtain ⟨v, hc⟩ := hB.cells m (by omega)
    have hf := hB.free m
    have HB := Lib.hid hB
    have HW := Lib.hid hW
    have HE := Lib.hid he
    have HL := Lib.hid hl
    have HX := Lib.hid hx
    clear hB hW he hl hx hb0
    by_cases hge : 16 ≤ x
    · have hand : bits .and .u64 (x : Int) 15 = ((x % 16 : Nat) : Int) := Wd.and15 x hx64
      have hm16 : x % 16 < 16 := by omega
      go_wp2
      obtain ⟨h50, hx'⟩ := Wd.pow16_step HX.out hge
      rw [digs_at (x % 16) hm16]
      refine ⟨⟨x / 16, m, Wd.hexB (x % 16) :: suf, by go_num, rfl, h50, by omega, hx', by simp [HL.out]; omega, ?_, HB.out.put (by omega) _, HW.out.setCell (Nat.le_refl _) _⟩, by simp [intOf]; omega⟩
      rw [HE.out, Wd.hex_ge hge]
      simp
    · have hlt : x < 16 := by omega
      have hsl : ∀ W, (Instr.sliceAt 231 (.pointer (some ⟨w.heap.size, 0, none⟩)) (some (.int .i64 (m : Int))) none none).run Tryz.prog W = .ok (.slice (some ⟨w.heap.size, m, none⟩) (65 - m) (65 - m)) W := fun W => by
        rw [run_sliceAt_array_l W 231 ⟨w.heap.size, 0, none⟩ Tryz.underlying231 .i64 (m : Int) (by omega) (by show (m : Int) ≤ 65; omega)]
        go_simp
        omega
      have hcv := run_convert_bytes_back (P := Tryz.prog) (wr.setCell ⟨w.heap.size, m, none⟩ (.int .u8 ((Wd.hexB x).toNat : Int))) 48 9 5 ⟨w.heap.size, m, none⟩ (65 - m) (Wd.hexB x :: suf) Tryz.underlying48 Tryz.underlying5 Tryz.underlying9 (fun j hj => by rw [show (⟨w.heap.size, m, none⟩ : Addr).add j = ⟨w.heap.size, m + j, none⟩ by simp [Addr.add]]; exact (HB.out.put (by omega) _).has j hj)
      rw [show (Wd.hexB x :: suf).length = 65 - m by simp [HL.out]; omega, ← digs_at x hlt (by show x < 36; omega)] at hcv
      clear HL HX
      go_wp2
      go_ret2
      refine ⟨?_, HW.out.setCell (Nat.le_refl _) _⟩
      rw [HE.out, Wd.hex_lt hlt, ← digs_at x hlt (by show x < 36; omega)]
      rfl

theorem fmt_i (n : Nat) (w : World) (hn : n < 18446744073709551616) (ht : Tab w) :
    Calls Tryz.prog 159 #[.int .u64 n, .int .i64 16] w fun e w' => e = .returned (.string ⟨(Wd.hex n).toArray⟩) ∧ Below w.heap.size w w' := by
  go_enter Tryz.func159, Tryz.ntmps159
  go_wp2_with (go_at_call 174; refine (bits16 n _ hn ht).mono ?_; rintro e w' ⟨rfl, hb⟩)
  go_ret
  exact ⟨rfl, hb⟩
theorem fmt_o (n : Nat) (w : World) (hn : n < 18446744073709551616) (ht : Tab w) :
    Calls Tryz.prog 152 #[.int .u64 n, .int .i64 16] w fun e w' => e = .returned (.string ⟨(Wd.hex n).toArray⟩) ∧ Below w.heap.size w w' := by
  go_enter Tryz.func152, Tryz.ntmps152
  go_wp2_with (go_at_call 159; refine (fmt_i n _ hn ht).mono ?_; rintro e w' ⟨rfl, hb⟩)
  go_ret
  exact ⟨rfl, hb⟩

/-- word.Text. -/
theorem text_any (n : Nat) (w : World) (hn : n < 18446744073709551616) (ht : Tab w) :
    Calls Tryz.prog 130 #[.int .u64 n] w fun e w' => e = .returned (.string (Wd.txt n)) ∧ Below w.heap.size w w' := by
  have hl := Wd.hex_len16 n hn
  go_enter Tryz.func130, Tryz.ntmps130
  go_wp2_with (go_at_call 152; refine (fmt_o n _ hn ht).mono ?_; rintro e w' ⟨rfl, hb⟩)
  go_ret
  exact ⟨congrArg (fun s => Ending.returned (.string s)) (Wd.joined [48, 120] (Wd.hex n)), hb⟩
end Go.Proofs.YtbekkdhlfkongaaGreatDoor

/-
  What word.Parse answers, for any text of at most 2^62 bytes, in every world: the number whose text it is, and OK; or 0 and ErrForm, if it is no number's text. Nothing that was there is changed.
-/
namespace Go.Proofs.YtbekkdhlfkongaaGreatDoor
open Go.ChangeShapes Go.WideShapes Go.ChangeAt Go.RowKit

end Go.Proofs.YtbekkdhlfkongaaGreatDoor

/-
  A number's text is read as the number (word.Parse at word.Text's answers), in every world.
-/
namespace Go.Proofs.YtbekkdhlfkongaaGreatDoor
open Go.ChangeShapes Go.WideShapes Go.ChangeAt Go.RowKit

end Go.Proofs.YtbekkdhlfkongaaGreatDoor
/-
  The table of the operations as plain data, without any program: each operation's number, word and format; which instructions are right, and their texts.
-/
namespace Ip
open Go

structure Row where
  op : Int
  word : List UInt8
  fmt : Int
deriving DecidableEq

def rows : List Row := [⟨0, [108, 100], 2⟩, ⟨1, [108, 100, 120], 2⟩, ⟨2, [115, 116], 2⟩, ⟨3, [115, 116, 120], 2⟩, ⟨32, [97, 98, 115], 2⟩, ⟨96, [109, 101, 109], 2⟩, ⟨97, [109, 101, 109, 120], 2⟩, ⟨5, [106, 97], 2⟩, ⟨6, [114, 101, 116], 2⟩,
  ⟨4, [97, 100, 100], 3⟩, ⟨20, [115, 117, 98], 3⟩, ⟨36, [109, 117, 108], 3⟩, ⟨52, [100, 105, 118], 3⟩, ⟨68, [111, 114], 3⟩, ⟨84, [97, 110, 100], 3⟩, ⟨100, [108, 115, 104], 3⟩, ⟨116, [114, 115, 104], 3⟩, ⟨164, [120, 111, 114], 3⟩,
  ⟨12, [97, 100, 100, 120], 1⟩, ⟨28, [115, 117, 98, 120], 1⟩, ⟨44, [109, 117, 108, 120], 1⟩, ⟨60, [100, 105, 118, 120], 1⟩, ⟨76, [111, 114, 120], 1⟩, ⟨92, [97, 110, 100, 120], 1⟩, ⟨108, [108, 115, 104, 120], 1⟩, ⟨124, [114, 115, 104, 120], 1⟩, ⟨172, [120, 111, 114, 120], 1⟩,
  ⟨132, [110, 101, 103], 0⟩, ⟨7, [116, 97, 120], 0⟩, ⟨135, [116, 120, 97], 0⟩, ⟨22, [114, 101, 116, 97], 0⟩,
  ⟨21, [106, 101, 113], 5⟩, ⟨37, [106, 103, 116], 5⟩, ⟨53, [106, 103, 101], 5⟩, ⟨69, [106, 115, 101, 116], 5⟩,
  ⟨29, [106, 101, 113, 120], 4⟩, ⟨45, [106, 103, 116, 120], 4⟩, ⟨61, [106, 103, 101, 120], 4⟩, ⟨77, [106, 115, 101, 116, 120], 4⟩]

def Row.str (r : Row) : ByteArray := ⟨r.word.toArray⟩
def Row.val (r : Row) : Value := .agg #[.int .i64 r.op, .string r.str, .int .i64 r.fmt]
/-- The cells of the whole table. -/
def cellsL : List Value := rows.flatMap fun r => [.int .i64 r.op, .string r.str, .int .i64 r.fmt]
def hasK (f : Int) : Bool := f == 2 || f == 3 || f == 5
def hasJ (f : Int) : Bool := f == 4 || f == 5
def byOp (k : Int) : Option Row := rows.find? fun r => r.op == k
def zeroRow : Row := ⟨0, [], 0⟩
def isJ (n : Int) : Bool := decide (0 ≤ n) && decide (n ≤ 255)
/-- Does a format allow these fields? -/
def fits (f jt jf k : Int) : Bool := (hasK f || k == 0) && (if hasJ f then isJ jt && isJ jf else jt == 0 && jf == 0)
theorem row_bd : ∀ r ∈ rows, 0 ≤ r.op ∧ r.op ≤ 172 := by decide
theorem byOp_bd (k : Int) : 0 ≤ ((byOp k).getD zeroRow).op ∧ ((byOp k).getD zeroRow).op ≤ 172 := by
  cases h : byOp k with
  | none => decide
  | some r => exact row_bd r (List.mem_of_find?_eq_some h)
theorem byOp_op {k : Int} {r : Row} (h : byOp k = some r) : r ∈ rows ∧ r.op = k := ⟨List.mem_of_find?_eq_some h, by simpa using List.find?_some h⟩
/-- A row's arithmetic: its kind, whether it is with X, and whether there is any. -/
def aluK (r : Row) : Int := if r.fmt == 3 then r.op else if r.fmt == 1 then r.op - 8 else 0
/-- A number behind a space. -/
def tl (n : Int) : List UInt8 := 32 :: 48 :: 120 :: Wd.hex n.toNat
/-- The text of the fields that a format has. -/
def tail (f jt jf k : Int) : List UInt8 := (if hasK f then tl k else []) ++ (if hasJ f then tl jt ++ tl jf else [])
/-- The row at a place. -/
def rowAt (i : Nat) : Row := rows.getD i zeroRow
def cells : Array Value := cellsL.toArray
theorem rows_len : rows.length = 39 := rfl
theorem find_some {p : Row → Bool} {i : Nat} (hi : i < 39) (h : p (rowAt i) = true) (ha : ∀ j, j < i → p (rowAt j) = false) : rows.find? p = some (rowAt i) := by
  rw [List.find?_eq_some_iff_getElem]
  have e : ∀ j (hj : j < rows.length), rows[j] = rowAt j := fun j hj => by simp [rowAt, List.getD, hj]
  refine ⟨h, i, by rw [rows_len]; exact hi, e i _, fun j hj => ?_⟩
  rw [e j (by rw [rows_len]; omega), ha j hj]
  rfl
theorem find_none {p : Row → Bool} (ha : ∀ j, j < 39 → p (rowAt j) = false) : rows.find? p = none := by
  rw [List.find?_eq_none]
  intro r hr
  obtain ⟨j, hj, rfl⟩ := List.getElem_of_mem hr
  have e : rows[j] = rowAt j := by simp [rowAt, List.getD, hj]
  rw [e, ha j (by rw [rows_len] at hj; exact hj)]
  simp
end Ip

/-
  The small tests on an operation (package ins): hasK, hasJumps, isJump, fits; behind.
-/
namespace Go.Proofs.YtbekkdhlfkongaaGreatDoor
open Go.ChangeShapes Go.WideShapes Go.ChangeAt Go.RowKit
set_option maxRecDepth 20000

theorem hasK_any (o : Int) (s : ByteArray) (f : Int) (w : World) :
    Calls Tryz.prog 111 #[.agg #[.int .i64 o, .string s, .int .i64 f]] w fun e w' => e = .returned (.bool (Ip.hasK f)) ∧ w.alloc (Obj.cells #[.int .i64 o, .string s, .int .i64 f] 127) = w' := by
  go_enter Tryz.func111, Tryz.ntmps111
  go_wp2
  all_goals go_ret
  all_goals refine ⟨ret1 ?_, ?_⟩
  all_goals simp_all [Ip.hasK]
theorem hasJ_any (o : Int) (s : ByteArray) (f : Int) (w : World) :
    Calls Tryz.prog 109 #[.agg #[.int .i64 o, .string s, .int .i64 f]] w fun e w' => e = .returned (.bool (Ip.hasJ f)) ∧ w.alloc (Obj.cells #[.int .i64 o, .string s, .int .i64 f] 127) = w' := by
  go_enter Tryz.func109, Tryz.ntmps109
  go_wp2
  all_goals go_ret
  all_goals refine ⟨ret1 ?_, ?_⟩
  all_goals simp_all [Ip.hasJ]
theorem isJ_any (n : Int) (w : World) :
    Calls Tryz.prog 112 #[.int .i64 n] w fun e w' => e = .returned (.bool (Ip.isJ n)) ∧ w = w' := by
  go_enter Tryz.func112, Tryz.ntmps112
  go_wp2
  all_goals go_ret
  all_goals refine ⟨ret1 ?_, rfl⟩
  all_goals simp_all [Ip.isJ]
  omega

set_option maxHeartbeats 2000000 in
theorem fits_any (o : Int) (s : ByteArray) (f op jt jf k : Int) (w : World) :
    Calls Tryz.prog 76 #[.agg #[.int .i64 o, .string s, .int .i64 f], .agg #[.int .i64 op, .int .i64 jt, .int .i64 jf, .int .u32 k]] w fun e w' => e = .returned (.bool (Ip.fits f jt jf k)) ∧ Below w.heap.size w w' := by
  have HG : Hid (Ip.fits f jt jf k = ((Ip.hasK f || !(k != 0)) && (if Ip.hasJ f then Ip.isJ jt && Ip.isJ jf else jt == 0 && jf == 0))) := Lib.hid (by simp [Ip.fits, bne])
  have go : ∀ (bK bk bJ bz bi : Bool), Ip.hasK f = bK → (k != 0) = bk → Ip.hasJ f = bJ → (jt == 0) = bz → Ip.isJ jt = bi →
      Calls Tryz.prog 76 #[.agg #[.int .i64 o, .string s, .int .i64 f], .agg #[.int .i64 op, .int .i64 jt, .int .i64 jf, .int .u32 k]] w fun e w' => e = .returned (.bool ((bK || !bk) && (if bJ then bi && Ip.isJ jf else bz && jf == 0))) ∧ Below w.heap.size w w' := by
    clear HG
    intro bK bk bJ bz bi hK hk hJ hz hi
    cases bK <;> cases bk <;> cases bJ <;> cases bz <;> cases bi
    all_goals
      go_enter Tryz.func76, Tryz.ntmps76
      go_wp2_with (first
        | (go_at_call 111; refine (hasK_any o s f _).mono ?_; rintro e w' ⟨rfl, rfl⟩)
        | (go_at_call 109; refine (hasJ_any o s f _).mono ?_; rintro e w' ⟨rfl, rfl⟩)
        | (go_at_call 112; refine (isJ_any _ _).mono ?_; rintro e w' ⟨rfl, rfl⟩))
      go_ret
      refine ⟨ret1 (by simp), ?_⟩
      repeat (first | exact Below.refl _ _ | apply ba)
  refine (go _ _ _ _ _ rfl rfl rfl rfl rfl).mono ?_
  rintro e w' ⟨rfl, hb⟩
  exact ⟨ret1 HG.out.symm, hb⟩

end Go.Proofs.YtbekkdhlfkongaaGreatDoor

/-
  What ins.byOp and ins.byWord answer, in every world that has the table of the operations.
-/
namespace Go.Proofs.YtbekkdhlfkongaaGreatDoor
open Go.ChangeShapes Go.WideShapes Go.ChangeAt Go.RowKit
set_option maxRecDepth 20000

/-- The world has the table of the operations. -/
def OTab (w : World) : Prop := ∃ t fr, w.heap[0]? = some (.cells Ip.cells t fr)
theorem OTab.lt {w : World} (h : OTab w) : 0 < w.heap.size := by
  obtain ⟨t, fr, h⟩ := h
  apply Nat.lt_of_not_le
  intro hle
  have e : w.heap[0]? = none := Array.getElem?_eq_none hle
  rw [e] at h
  cases h
theorem OTab.below {w w' : World} (h : OTab w) (hb : Below w.heap.size w w') : OTab w' := by
  have hl := h.lt
  obtain ⟨t, fr, h⟩ := h
  exact ⟨t, fr, (hb.block _ hl).trans h⟩
theorem OTab.alloc {w : World} (h : OTab w) (o : Obj) : OTab (w.alloc o) := h.below (ba o (Below.refl _ _))

theorem row_at (i : Nat) (hi : i < 39) (W : World) : (Instr.index 167 (.agg Ip.cells) (.int .i64 i)).run Tryz.prog W = .ok (Ip.rowAt i).val W := by
  rcases i with _ | _ | _ | _ | _ | _ | _ | _ | _ | _ | _ | _ | _ | _ | _ | _ | _ | _ | _ | _ | _ | _ | _ | _ | _ | _ | _ | _ | _ | _ | _ | _ | _ | _ | _ | _ | _ | _ | _ | i
  all_goals first | omega | kernel_rfl
theorem size_cells : (Tryz.prog.info? 167).map (·.size) = some Ip.cells.size := by kernel_rfl

set_option maxHeartbeats 1000000 in
theorem byOp_any (k : Int) (w : World) (ht : OTab w) :
    Calls Tryz.prog 75 #[.int .i64 k] w fun e w' => ∃ (r : Ip.Row) (b : Bool), e = .returned (.tuple #[.agg #[.int .i64 r.op, .string r.str, .int .i64 r.fmt], .bool b]) ∧ r = (Ip.byOp k).getD Ip.zeroRow ∧ b = (Ip.byOp k).isSome ∧ Below w.heap.size w w' := by
  have hb0 := ba (Obj.cells #[.int .i64 0, .string ⟨#[]⟩, .int .i64 0] 127) (Below.refl w.heap.size w)
  obtain ⟨t, fr, hg⟩ := ht.alloc (Obj.cells #[.int .i64 0, .string ⟨#[]⟩, .int .i64 0] 127)
  go_enter Tryz.func75, Tryz.ntmps75
  go_wp2_with (refine wpList_load_row rfl 167 _ rfl 0 rfl t _ fr _ hg Tryz.underlying167 rfl size_cells ?_)
  clear hg
  go_loopw [7] (fun i w' => ∃ n : Nat, n ≤ 39 ∧ i = .int .i64 n ∧ (∀ j, j < n → ((Ip.rowAt j).op == k) = false) ∧ Below w.heap.size w w' ∧ w'.heap[w.heap.size]? = some (.cells #[.int .i64 0, .string ⟨#[]⟩, .int .i64 0] 127 (0, 0))) (fun i _ => 39 - (intOf i).toNat)
  case atStart => exact ⟨0, by omega, rfl, fun j hj => by omega, hb0, heap_alloc_new _ _⟩
  case round =>
    obtain ⟨n, hn, rfl, hno, hB, hH⟩ := hrel
    have NO := Lib.hid hno
    have HB := Lib.hid hB
    have HH := Lib.hid hH
    have hsz := lt_of_block hH
    have c0 : wr.cell? ⟨w.heap.size, 0, none⟩ = some (.int .i64 0) := cell_in hH 0
    have c1 : wr.cell? ⟨w.heap.size, 1, none⟩ = some (.string ⟨#[]⟩) := cell_in hH 1
    have c2 : wr.cell? ⟨w.heap.size, 2, none⟩ = some (.int .i64 0) := cell_in hH 2
    have f0 := free_in hH 0
    have f1 := free_in hH 1
    have f2 := free_in hH 2
    clear hno hB hH hb0
    by_cases hlt : n < 39
    · have hix : ∀ W, (Instr.index 167 (.agg Ip.cells) (.int .i64 n)).run Tryz.prog W = .ok (.agg #[.int .i64 (Ip.rowAt n).op, .string (Ip.rowAt n).str, .int .i64 (Ip.rowAt n).fmt]) W := row_at n hlt
      cases hop : ((Ip.rowAt n).op == k)
      · clear c0 c1 c2 f0 f1 f2
        go_wp2
        refine ⟨⟨n + 1, by omega, by go_num, fun j hj => ?_, ba _ HB.out, (Below.heap_alloc _ _ _ hsz).trans HH.out⟩, by simp [intOf]; omega⟩
        by_cases hj' : j < n
        · exact NO.out j hj'
        · obtain rfl : j = n := by omega
          exact hop
      · go_wp2
        (try simp only [Exit.inBlock, Exit.then])
        refine bodyPost_ret (v := .tuple #[.agg #[.int .i64 (Ip.rowAt n).op, .string (Ip.rowAt n).str, .int .i64 (Ip.rowAt n).fmt], .bool true]) ?_ rfl ⟨Ip.rowAt n, true, rfl, ?_, ?_, ?_⟩
        · rw [results_cell_tmp rfl]
          go_simp
        · rw [show Ip.byOp k = some (Ip.rowAt n) from Ip.find_some hlt hop NO.out]
          rfl
        · rw [show Ip.byOp k = some (Ip.rowAt n) from Ip.find_some hlt hop NO.out]
          rfl
        · have hB := HB.out
          go_grown
    · go_wp2
      (try simp only [Exit.inBlock, Exit.then])
      refine bodyPost_ret (v := .tuple #[.agg #[.int .i64 0, .string ⟨#[]⟩, .int .i64 0], .bool false]) ?_ rfl ⟨Ip.zeroRow, false, rfl, ?_, ?_, ?_⟩
      · rw [results_cell_tmp rfl]
        go_simp
      · rw [show Ip.byOp k = none from Ip.find_none (fun j hj => NO.out j (by omega))]
        rfl
      · rw [show Ip.byOp k = none from Ip.find_none (fun j hj => NO.out j (by omega))]
        rfl
      · have hB := HB.out
        go_grown

end Go.Proofs.YtbekkdhlfkongaaGreatDoor

/-
  What ins.Right answers, for any instruction, in every world that has the tables.
-/
namespace Go.Proofs.YtbekkdhlfkongaaGreatDoor
open Go.ChangeShapes Go.WideShapes Go.ChangeAt Go.RowKit

/-- An instruction's block. -/
abbrev insB (op jt jf k : Int) : Obj := .cells #[.int .i64 op, .int .i64 jt, .int .i64 jf, .int .u32 k] 64
abbrev insV (op jt jf k : Int) : Value := .agg #[.int .i64 op, .int .i64 jt, .int .i64 jf, .int .u32 k]

/-- Is it right? -/
def right (op jt jf k : Int) : Bool := (Ip.byOp op).isSome && Ip.fits ((Ip.byOp op).getD Ip.zeroRow).fmt jt jf k

theorem right_any (op jt jf k : Int) (w : World) (ht : OTab w) :
    Calls Tryz.prog 43 #[insV op jt jf k] w fun e w' => e = .returned (.bool (right op jt jf k)) ∧ Below w.heap.size w w' := by
  have HG : Hid (right op jt jf k = ((Ip.byOp op).isSome && Ip.fits ((Ip.byOp op).getD Ip.zeroRow).fmt jt jf k)) := Lib.hid rfl
  have hb := ba (insB op jt jf k) (Below.refl w.heap.size w)
  have hH : (w.alloc (insB op jt jf k)).heap[w.heap.size]? = some (insB op jt jf k) := heap_alloc_new _ _
  have ht1 := ht.alloc (insB op jt jf k)
  go_enter Tryz.func43, Tryz.ntmps43
  go_wp2_with fail
  refine (byOp_any op _ ht1).mono ?_
  rintro e w1 ⟨r, b, rfl, hr, hbb, hB⟩
  rw [← hr, ← hbb] at HG
  have hH1 : w1.heap[w.heap.size]? = some (insB op jt jf k) := (hB.block _ (lt_of_block hH)).trans hH
  have hsz := lt_of_block hH1
  have c0 : w1.cell? ⟨w.heap.size, 0, none⟩ = some (.int .i64 op) := cell_in hH1 0
  have c1 : w1.cell? ⟨w.heap.size, 1, none⟩ = some (.int .i64 jt) := cell_in hH1 1
  have c2 : w1.cell? ⟨w.heap.size, 2, none⟩ = some (.int .i64 jf) := cell_in hH1 2
  have c3 : w1.cell? ⟨w.heap.size, 3, none⟩ = some (.int .u32 k) := cell_in hH1 3
  have HB := Lib.hid (hb.trans (hB.mono hb.size))
  clear hr hbb hB hH hH1 hb ht1
  cases b
  · go_wp2_with fail
    go_ret
    exact ⟨ret1 HG.out.symm, ba _ HB.out⟩
  · go_wp2_with fail
    refine (fits_any _ _ _ _ _ _ _ _).mono ?_
    rintro e w2 ⟨rfl, hB2⟩
    go_wp2_with fail
    go_ret
    refine ⟨ret1 HG.out.symm, ?_⟩
    have h := ba (.cells #[.int .i64 r.op, .string r.str, .int .i64 r.fmt] 127) HB.out
    exact h.trans (hB2.mono h.size)
end Go.Proofs.YtbekkdhlfkongaaGreatDoor

/-
  What ins.Branch and Ends answer, for any instruction, in every world that has the tables.
-/
namespace Go.Proofs.YtbekkdhlfkongaaGreatDoor
open Go.ChangeShapes Go.WideShapes Go.ChangeAt Go.RowKit

theorem ends_any (op jt jf k : Int) (w : World) :
    Calls Tryz.prog 79 #[insV op jt jf k] w fun e w' => e = .returned (.bool (op == 6 || op == 22)) ∧ Below w.heap.size w w' := by
  have hb := ba (insB op jt jf k) (Below.refl w.heap.size w)
  have go : ∀ b : Bool, (op == 6) = b → Calls Tryz.prog 79 #[insV op jt jf k] w fun e w' => e = .returned (.bool (b || op == 22)) ∧ Below w.heap.size w w' := by
    intro b h
    cases b
    · go_enter Tryz.func79, Tryz.ntmps79
      go_wp2
      go_ret
      exact ⟨rfl, hb⟩
    · go_enter Tryz.func79, Tryz.ntmps79
      go_wp2
      go_ret
      exact ⟨rfl, hb⟩
  exact go _ rfl

def isBranch (op : Int) : Bool := (Ip.byOp op).isSome && Ip.hasJ ((Ip.byOp op).getD Ip.zeroRow).fmt
theorem branch_any (op jt jf k : Int) (w : World) (ht : OTab w) :
    Calls Tryz.prog 69 #[insV op jt jf k] w fun e w' => e = .returned (.bool (isBranch op)) ∧ Below w.heap.size w w' := by
  have HG : Hid (isBranch op = ((Ip.byOp op).isSome && Ip.hasJ ((Ip.byOp op).getD Ip.zeroRow).fmt)) := Lib.hid rfl
  have hb := ba (insB op jt jf k) (Below.refl w.heap.size w)
  have hH : (w.alloc (insB op jt jf k)).heap[w.heap.size]? = some (insB op jt jf k) := heap_alloc_new _ _
  have ht1 := ht.alloc (insB op jt jf k)
  go_enter Tryz.func69, Tryz.ntmps69
  go_wp2_with fail
  refine (byOp_any op _ ht1).mono ?_
  rintro e w1 ⟨r, b, rfl, hr, hbb, hB⟩
  rw [← hr, ← hbb] at HG
  have hH1 : w1.heap[w.heap.size]? = some (insB op jt jf k) := (hB.block _ (lt_of_block hH)).trans hH
  have hsz := lt_of_block hH1
  have HB := Lib.hid (hb.trans (hB.mono hb.size))
  clear hr hbb hB hH hH1 hb ht1
  cases b
  · go_wp2_with fail
    go_ret
    exact ⟨ret1 HG.out.symm, ba _ HB.out⟩
  · go_wp2_with fail
    refine (hasJ_any _ _ _ _).mono ?_
    rintro e w2 ⟨rfl, rfl⟩
    go_wp2_with fail
    go_ret
    exact ⟨ret1 HG.out.symm, ba _ (ba _ HB.out)⟩
end Go.Proofs.YtbekkdhlfkongaaGreatDoor

/-
  What ins.Alu answers, for any instruction, in every world that has the tables.
-/
namespace Go.Proofs.YtbekkdhlfkongaaGreatDoor
open Go.ChangeShapes Go.WideShapes Go.ChangeAt Go.RowKit

theorem ret3i {a a' : Int} {b b' c c' : Bool} (h : a = a') (hb : b = b') (hc : c = c') : Ending.returned (.tuple #[.int .i64 a, .bool b, .bool c]) = .returned (.tuple #[.int .i64 a', .bool b', .bool c']) := by rw [h, hb, hc]

theorem alu_any (op jt jf k : Int) (w : World) (ht : OTab w) :
    Calls Tryz.prog 107 #[insV op jt jf k] w fun e w' => ∃ (r : Ip.Row) (b : Bool), r = (Ip.byOp op).getD Ip.zeroRow ∧ b = (Ip.byOp op).isSome ∧
      e = .returned (.tuple #[.int .i64 (if b then Ip.aluK r else 0), .bool (b && r.fmt == 1), .bool (b && (r.fmt == 3 || r.fmt == 1))]) ∧ Below w.heap.size w w' := by
  have hb := ba (insB op jt jf k) (Below.refl w.heap.size w)
  have hH : (w.alloc (insB op jt jf k)).heap[w.heap.size]? = some (insB op jt jf k) := heap_alloc_new _ _
  have ht1 := ht.alloc (insB op jt jf k)
  have hbd := Ip.byOp_bd op
  go_enter Tryz.func107, Tryz.ntmps107
  go_wp2_with fail
  refine (byOp_any op _ ht1).mono ?_
  rintro e w1 ⟨r, b, rfl, hr, hbb, hB⟩
  rw [← hr] at hbd
  obtain ⟨hd0, hd1⟩ := hbd
  refine have HR : Hid (r = _) := Lib.hid hr; ?_
  have HBB := Lib.hid hbb
  have hH1 : w1.heap[w.heap.size]? = some (insB op jt jf k) := (hB.block _ (lt_of_block hH)).trans hH
  have hsz := lt_of_block hH1
  have HB := Lib.hid (hb.trans (hB.mono hb.size))
  clear hr hbb hB hH hH1 hb ht1
  cases b
  · go_wp2_with fail
    go_ret3
    exact ⟨r, false, HR.out, HBB.out, ret3i rfl rfl rfl, ba _ HB.out⟩
  · cases h3 : (r.fmt == 3)
    · cases h1 : (r.fmt == 1)
      · go_wp2_with fail
        go_ret3
        exact ⟨r, true, HR.out, HBB.out, ret3i (by simp only [Ip.aluK, h3, h1]; rfl) (by rw [h1]; rfl) (by rw [h3, h1]; rfl), ba _ HB.out⟩
      · go_wp2_with fail
        go_ret3
        exact ⟨r, true, HR.out, HBB.out, ret3i (by simp only [Ip.aluK, h3, h1]; rfl) (by rw [h1]; rfl) (by rw [h3, h1]; rfl), ba _ HB.out⟩
    · have h1 : (r.fmt == 1) = false := by
        have h : r.fmt = 3 := by simpa using h3
        rw [h]; rfl
      go_wp2_with fail
      go_ret3
      exact ⟨r, true, HR.out, HBB.out, ret3i (by simp only [Ip.aluK, h3]; rfl) (by rw [h1]; rfl) (by rw [h3]; rfl), ba _ HB.out⟩
end Go.Proofs.YtbekkdhlfkongaaGreatDoor
/-
  Rows of texts and numbers that the calls of package ins make: what ins.limits and ins.cut answer.
-/
namespace Ip
open Go
/-- The largest numbers of the fields that a format has. -/
def lims (f : Int) : List Nat := (if hasK f then [4294967295] else []) ++ (if hasJ f then [255, 255] else [])
end Ip
namespace Go.Proofs.YtbekkdhlfkongaaGreatDoor
open Go.ChangeShapes Go.WideShapes Go.ChangeAt Go.RowKit

end Go.Proofs.YtbekkdhlfkongaaGreatDoor

/-
  A text, parted at its spaces, as plain lists: at most so many parts are cut off; and what a rune's bytes are.
-/
namespace Ip
open Go

/-- The parts between spaces: at most m are cut off, the rest stays whole. -/
def sp : Nat → List UInt8 → List UInt8 → List (List UInt8)
  | _, cur, [] => [cur]
  | 0, cur, c :: l => [cur ++ c :: l]
  | m + 1, cur, c :: l => if c = 32 then cur :: sp m [] l else sp (m + 1) (cur ++ [c]) l
theorem sp_nil (m : Nat) (cur : List UInt8) : sp m cur [] = [cur] := by cases m <;> rfl
theorem sp_zero (cur l : List UInt8) : sp 0 cur l = [cur ++ l] := by cases l <;> simp [sp]
theorem sp_skip (m : Nat) : ∀ (a cur l : List UInt8), (∀ c ∈ a, c ≠ 32) → sp m cur (a ++ l) = sp m (cur ++ a) l := by
  intro a
  induction a with
  | nil => intro cur l _; simp
  | cons c a ih =>
    intro cur l h
    cases m with
    | zero => rw [sp_zero, sp_zero]; simp
    | succ m =>
      have hc : c ≠ 32 := h c (List.mem_cons_self)
      rw [List.cons_append, sp, if_neg hc, ih (cur ++ [c]) l (fun d hd => h d (List.mem_cons_of_mem _ hd))]
      simp
/-- A piece of a text. -/
def piece (L : List UInt8) (a b : Nat) : List UInt8 := (L.take b).drop a
theorem piece_grow (L : List UInt8) (a p n : Nat) (h : a ≤ p) (hp : p ≤ L.length) : piece L a p ++ (L.drop p).take n = piece L a (p + n) := by
  unfold piece
  rw [List.take_add, List.drop_append_of_le_length (by simp; omega)]
/-- How far a text is cut: these parts, and where the next one begins. -/
def Cutting (L : List UInt8) (p start : Nat) (ps : List (List UInt8)) : Prop :=
  p ≤ L.length ∧ start ≤ p ∧ ps.length ≤ 4 ∧ sp 4 [] L = ps ++ sp (4 - ps.length) (piece L start p) (L.drop p)
theorem Cutting.start (L : List UInt8) : Cutting L 0 0 [] := ⟨by omega, by omega, by simp, by simp [piece]⟩
theorem Cutting.skip {L : List UInt8} {p start : Nat} {ps : List (List UInt8)} (h : Cutting L p start ps) (n : Nat) (hn : p + n ≤ L.length) (hc : ∀ c ∈ (L.drop p).take n, c ≠ 32) : Cutting L (p + n) start ps := by
  obtain ⟨h1, h2, h3, h4⟩ := h
  refine ⟨hn, by omega, h3, ?_⟩
  rw [h4]
  have e : L.drop p = (L.drop p).take n ++ L.drop (p + n) := by rw [← List.drop_drop, List.take_append_drop]
  rw [e, sp_skip _ _ _ _ hc, piece_grow L start p n h2 h1]
theorem Cutting.done {L : List UInt8} {p start : Nat} {ps : List (List UInt8)} (h : Cutting L p start ps) (hp : L.length ≤ p) : sp 4 [] L = ps ++ [piece L start L.length] := by
  obtain ⟨h1, h2, h3, h4⟩ := h
  obtain rfl : p = L.length := by omega
  rw [h4, List.drop_length, sp_nil]

end Ip

/-
  What operation.read answers: the instruction whose fields have these texts, or none.
-/
namespace Ip
open Go
/-- A number's text. -/
def tx (n : Nat) : List UInt8 := 48 :: 120 :: Wd.hex n
/-- What the fields of an instruction must be. -/
def Fine (f : Int) (jt jf k : Nat) : Prop := fits f jt jf k = true ∧ k ≤ 4294967295
theorem fits_J {f jt jf k : Int} (h : fits f jt jf k = true) (hJ : hasJ f = true) : (0 ≤ jt ∧ jt ≤ 255) ∧ (0 ≤ jf ∧ jf ≤ 255) := by
  unfold fits isJ at h
  rw [hJ] at h
  simp at h
  exact h.2
/-- The numbers that were read, as far as they go. -/
def Got (f : Int) (fs : List (List UInt8)) (k : Nat) (ns : List Nat) : Prop :=
  ns.length = k ∧ fs.take k = ns.map tx ∧ ∀ i (h : i < ns.length), ns[i] ≤ (lims f).getD i 0
theorem Got.start (f : Int) (fs : List (List UInt8)) : Got f fs 0 [] := ⟨rfl, by simp, fun i h => by simp at h⟩
theorem Got.next {f : Int} {fs : List (List UInt8)} {k : Nat} {ns : List Nat} (h : Got f fs k ns) (hk : k < fs.length) {n : Nat} (hn : fs[k] = tx n) (hl : n ≤ (lims f).getD k 0) : Got f fs (k + 1) (ns ++ [n]) := by
  obtain ⟨h1, h2, h3⟩ := h
  refine ⟨by simp [h1], ?_, fun i hi => ?_⟩
  · rw [List.take_succ_eq_append_getElem hk, h2, hn]
    simp
  · by_cases hi' : i < ns.length
    · rw [List.getElem_append_left hi']
      exact h3 i hi'
    · obtain rfl : i = k := by simp at hi; omega
      rw [List.getElem_append_right (by omega)]
      simpa using hl
end Ip
namespace Go.Proofs.YtbekkdhlfkongaaGreatDoor
open Go.ChangeShapes Go.WideShapes Go.ChangeAt Go.RowKit

/-- A slice of texts that lie in old memory. -/
def Strs (w : World) (v : Value) (fs : List (List UInt8)) : Prop :=
  (fs = [] ∧ ∃ a c, v = .slice a 0 c) ∨ ∃ g off c, v = .slice (some ⟨g, off, none⟩) fs.length c ∧ fs.length ≤ c ∧ g < w.heap.size ∧ ∀ i (h : i < fs.length), w.cell? ⟨g, off + i, none⟩ = some (.string ⟨fs[i].toArray⟩)
theorem Strs.shape {w : World} {v : Value} {fs : List (List UInt8)} (h : Strs w v fs) : ∃ a c, v = .slice a fs.length c := by
  rcases h with ⟨rfl, a, c, rfl⟩ | ⟨g, off, c, rfl, _⟩
  · exact ⟨a, c, rfl⟩
  · exact ⟨_, _, rfl⟩
end Go.Proofs.YtbekkdhlfkongaaGreatDoor
/-
  Filters as plain lists, and filters and bytes as they lie in a world.
-/
namespace Go.Proofs.YtbekkdhlfkongaaGreatDoor
open Go.ChangeShapes Go.WideShapes Go.ChangeAt Go.RowKit

/-- An instruction, plainly. -/
structure X4 where
  op : Int
  jt : Int
  jf : Int
  k : Int
deriving DecidableEq
/-- Its four cells. -/
abbrev X4.cells (x : X4) : List Value := [.int .i64 x.op, .int .i64 x.jt, .int .i64 x.jf, .int .u32 x.k]
abbrev X4.val (x : X4) : Value := insV x.op x.jt x.jf x.k
def X4.right (x : X4) : Bool := Go.Proofs.YtbekkdhlfkongaaGreatDoor.right x.op x.jt x.jf x.k
/-- Its number fits 32 bits. -/
def X4.ok (x : X4) : Prop := 0 ≤ x.k ∧ x.k ≤ 4294967295
/-- A filter's error. -/
def ferr (l : List X4) : Int := if 4096 < l.length then 3 else if l.all X4.right then 0 else 1
/-- The cells of a filter. -/
def fcells (l : List X4) : List Value := l.flatMap X4.cells
theorem fcells_len (l : List X4) : (fcells l).length = l.length * 4 := by
  induction l with
  | nil => rfl
  | cons x l ih => simp [fcells, List.flatMap_cons] at ih ⊢; omega
theorem fcells_app (l m : List X4) : fcells (l ++ m) = fcells l ++ fcells m := by simp [fcells]
theorem fcells_one (x : X4) : fcells [x] = x.cells := by simp [fcells]
theorem fcells_at (l : List X4) (i : Nat) (h : i < l.length) : ∀ j, j < 4 → (fcells l)[i * 4 + j]? = (l[i]).cells[j]? := by
  induction l generalizing i with
  | nil => simp at h
  | cons x l ih =>
    intro j hj
    have e : fcells (x :: l) = x.cells ++ fcells l := by simp [fcells]
    rw [e]
    cases i with
    | zero =>
      rw [List.getElem?_append_left (by simp; omega)]
      simp
    | succ i =>
      rw [List.getElem?_append_right (by simp; omega)]
      simp only [List.getElem_cons_succ]
      rw [← ih i (by simpa using h) j hj]
      congr 1
      simp
      omega
theorem fcells_one' (l : List X4) : ∀ u ∈ fcells l, u.oneCell' = true := by
  intro u hu
  simp only [fcells, List.mem_flatMap] at hu
  obtain ⟨x, _, hx⟩ := hu
  simp [X4.cells] at hx
  rcases hx with rfl | rfl | rfl | rfl <;> rfl

/-- A filter that lies in a world. -/
def FAt (w : World) (v : Value) (l : List X4) : Prop :=
  ∃ ao cap, v = .slice ao l.length cap ∧ (l = [] ∨ ∃ b off, ao = some ⟨b, off, none⟩ ∧ b < w.heap.size ∧ ∀ i (h : i < l.length),
    w.cell? ⟨b, off + i * 4, none⟩ = some (.int .i64 (l[i]).op) ∧ w.cell? ⟨b, off + i * 4 + 1, none⟩ = some (.int .i64 (l[i]).jt) ∧ w.cell? ⟨b, off + i * 4 + 2, none⟩ = some (.int .i64 (l[i]).jf) ∧ w.cell? ⟨b, off + i * 4 + 3, none⟩ = some (.int .u32 (l[i]).k))
/-- The four cells of one instruction, in a world that has grown. -/
def C4 (w : World) (b o : Nat) (x : X4) : Prop := w.cell? ⟨b, o, none⟩ = some (.int .i64 x.op) ∧ w.cell? ⟨b, o + 1, none⟩ = some (.int .i64 x.jt) ∧ w.cell? ⟨b, o + 2, none⟩ = some (.int .i64 x.jf) ∧ w.cell? ⟨b, o + 3, none⟩ = some (.int .u32 x.k)
theorem FAt.nil (w : World) : FAt w (.slice none 0 0) [] := ⟨none, 0, rfl, .inl rfl⟩
theorem FAt.below {w w' : World} {v : Value} {l : List X4} (h : FAt w v l) (hb : Below w.heap.size w w') : FAt w' v l := by
  obtain ⟨ao, cap, rfl, h⟩ := h
  refine ⟨ao, cap, rfl, h.imp id ?_⟩
  rintro ⟨b, off, rfl, hl, hc⟩
  refine ⟨b, off, rfl, Nat.lt_of_lt_of_le hl hb.size, fun i hi => ?_⟩
  obtain ⟨c0, c1, c2, c3⟩ := hc i hi
  exact ⟨(hb.cell (p := ⟨b, _, none⟩) hl).trans c0, (hb.cell (p := ⟨b, _, none⟩) hl).trans c1, (hb.cell (p := ⟨b, _, none⟩) hl).trans c2, (hb.cell (p := ⟨b, _, none⟩) hl).trans c3⟩
theorem FAt.of_cells {w : World} {b off cap : Nat} {l : List X4} (hb : l ≠ [] → b < w.heap.size) (h : ∀ i u, (fcells l)[i]? = some u → w.cell? ⟨b, off + i, none⟩ = some u) : FAt w (.slice (some ⟨b, off, none⟩) l.length cap) l := by
  refine ⟨_, _, rfl, ?_⟩
  by_cases h0 : l = []
  · exact .inl h0
  · refine .inr ⟨b, off, rfl, hb h0, fun i hi => ⟨?_, ?_, ?_, ?_⟩⟩
    · have := fcells_at l i hi 0 (by omega)
      exact h _ _ this
    · have := fcells_at l i hi 1 (by omega)
      rw [Nat.add_assoc]
      exact h _ _ this
    · have := fcells_at l i hi 2 (by omega)
      rw [Nat.add_assoc]
      exact h _ _ this
    · have := fcells_at l i hi 3 (by omega)
      rw [Nat.add_assoc]
      exact h _ _ this
theorem FAt.own {w : World} {base : Nat} {e : TypeId} {v : Value} {n : Nat} {l : List X4} (h : w.ownsRow base e 4 v n (fcells l)) (hn : n = l.length) : FAt w v l := by
  subst hn
  rcases h.2 with ⟨rfl, h0⟩ | ⟨g, cap, cur, rfl, _, hg, _, _, _, ht⟩
  · obtain rfl := List.length_eq_zero_iff.1 h0
    exact FAt.nil w
  · refine FAt.of_cells (fun _ => lt_of_block hg) fun i u hu => ?_
    rw [Nat.zero_add, cell_in hg i, ← Array.getElem?_toList]
    have hi := (List.getElem?_eq_some_iff.1 hu).1
    rw [fcells_len] at hi
    rw [← ht, List.getElem?_take, if_pos (by omega)] at hu
    exact hu

theorem all_take_all {l : List X4} {n : Nat} (hn : n = l.length) (h : (l.take n).all X4.right = true) : l.all X4.right = true := by
  subst hn
  simpa using h
theorem all_take_succ {l : List X4} {n : Nat} (hn : n < l.length) (h : (l.take n).all X4.right = true) (hr : (l[n]).right = true) : (l.take (n + 1)).all X4.right = true := by
  rw [List.take_succ_eq_append_getElem hn, List.all_append, h]
  simpa using hr
theorem ferr_bad {l : List X4} {n : Nat} (hl : l.length ≤ 4096) (hn : n < l.length) (hr : (l[n]).right = false) : ferr l = 1 := by
  unfold ferr
  rw [if_neg (by omega), if_neg]
  intro h
  rw [List.all_eq_true] at h
  have := h _ (List.getElem_mem hn)
  rw [hr] at this
  cases this
theorem ferr_good {l : List X4} {n : Nat} (hl : l.length ≤ 4096) (hn : n = l.length) (h : (l.take n).all X4.right = true) : ferr l = 0 := by
  unfold ferr
  rw [if_neg (by omega), if_pos (all_take_all hn h)]
theorem ferr_full {l : List X4} (hl : 4096 < l.length) : ferr l = 3 := by unfold ferr; rw [if_pos hl]
end Go.Proofs.YtbekkdhlfkongaaGreatDoor
/-
  Which filters are sound, plainly: the error of one instruction, of a filter, and where a run may go.
-/
namespace Go.Proofs.YtbekkdhlfkongaaGreatDoor
open Go.RowKit

def endsE (x : X4) : Bool := x.op == 6 || x.op == 22
/-- The error of an instruction that so many follow. -/
def oneE (x : X4) (left : Int) : Int :=
  if !x.right then 1
  else if x.op == 32 && (x.k % 4 != 0 || decide (60 < x.k)) then 6
  else if (x.op == 2 || x.op == 3 || x.op == 96 || x.op == 97) && decide (15 < x.k) then 7
  else if x.op == 52 && x.k == 0 then 8
  else if (x.op == 100 || x.op == 116) && decide (31 < x.k) then 1
  else if x.op == 5 && decide (left ≤ x.k) then 4
  else if isBranch x.op && (decide (left ≤ x.jt) || decide (left ≤ x.jf)) then 4
  else 0
def zeroX : X4 := ⟨0, 0, 0, 0⟩
/-- The error at a place of a filter. -/
def badAt (l : List X4) (i : Nat) : Int := oneE (l.getD i zeroX) ((l.length : Int) - 1 - i)
/-- All places ahead of one are right. -/
def goodTo (l : List X4) (n : Nat) : Prop := ∀ i, i < n → badAt l i = 0
def lastX (l : List X4) : X4 := l.getD (l.length - 1) zeroX
/-- What comes of a filter: the place, and the error. -/
def CheckIs (l : List X4) (p e : Int) : Prop :=
  (l.length = 0 ∧ p = 0 ∧ e = 5) ∨ (4096 < l.length ∧ p = 0 ∧ e = 3) ∨
  (0 < l.length ∧ l.length ≤ 4096 ∧ ∃ i : Nat, i < l.length ∧ goodTo l i ∧ badAt l i ≠ 0 ∧ p = i ∧ e = badAt l i) ∨
  (0 < l.length ∧ l.length ≤ 4096 ∧ goodTo l l.length ∧ endsE (lastX l) = false ∧ p = (l.length : Int) - 1 ∧ e = 5) ∨
  (0 < l.length ∧ l.length ≤ 4096 ∧ goodTo l l.length ∧ endsE (lastX l) = true ∧ p = 0 ∧ e = 0)
/-- A sound filter. -/
def SoundL (l : List X4) : Prop := 0 < l.length ∧ l.length ≤ 4096 ∧ goodTo l l.length ∧ endsE (lastX l) = true
theorem sound_iff {l : List X4} {p e : Int} (h : CheckIs l p e) : e = 0 ↔ SoundL l := by
  unfold SoundL
  rcases h with ⟨a, rfl, rfl⟩ | ⟨a, rfl, rfl⟩ | ⟨a, b, i, hi, hg, hb, rfl, rfl⟩ | ⟨a, b, hg, he, rfl, rfl⟩ | ⟨a, b, hg, he, rfl, rfl⟩
  · constructor
    · intro h; omega
    · intro h; omega
  · constructor
    · intro h; omega
    · intro h; omega
  · constructor
    · intro h; exact absurd h hb
    · intro h; exact absurd (h.2.2.1 i hi) hb
  · constructor
    · intro h; omega
    · intro h; rw [he] at h; cases h.2.2.2
  · exact ⟨fun _ => ⟨a, b, hg, he⟩, fun _ => rfl⟩
/-- Nothing hangs on the filter but how many follow. -/
theorem one_right {x : X4} {n : Int} (h : oneE x n = 0) : x.right = true := by
  unfold oneE at h
  cases hr : x.right
  · rw [hr] at h; simp at h
  · rfl
end Go.Proofs.YtbekkdhlfkongaaGreatDoor

/-
  The conditions of package check, one by one: what readsWord, hasCell, hasDivisor, hasShift, jumpsInside and branchesInside answer.
-/
namespace Go.Proofs.YtbekkdhlfkongaaGreatDoor
open Go.ChangeShapes Go.WideShapes Go.ChangeAt Go.RowKit
set_option maxRecDepth 20000

theorem hasCell_any (op jt jf k n : Int) (w : World) :
    Calls Tryz.prog 115 #[insV op jt jf k, .int .i64 n] w fun e w' => e = .returned (.bool (decide (k < 16))) ∧ Below w.heap.size w w' := by
  have hb := ba (insB op jt jf k) (Below.refl w.heap.size w)
  go_enter Tryz.func115, Tryz.ntmps115
  go_wp2
  go_ret
  exact ⟨rfl, hb⟩
theorem hasShift_any (op jt jf k n : Int) (w : World) :
    Calls Tryz.prog 117 #[insV op jt jf k, .int .i64 n] w fun e w' => e = .returned (.bool (decide (k < 32))) ∧ Below w.heap.size w w' := by
  have hb := ba (insB op jt jf k) (Below.refl w.heap.size w)
  go_enter Tryz.func117, Tryz.ntmps117
  go_wp2
  go_ret
  exact ⟨rfl, hb⟩
theorem hasDivisor_any (op jt jf k n : Int) (w : World) :
    Calls Tryz.prog 116 #[insV op jt jf k, .int .i64 n] w fun e w' => e = .returned (.bool (k != 0)) ∧ Below w.heap.size w w' := by
  have hb := ba (insB op jt jf k) (Below.refl w.heap.size w)
  go_enter Tryz.func116, Tryz.ntmps116
  go_wp2
  go_ret
  exact ⟨rfl, hb⟩
theorem jumpsInside_any (op jt jf k n : Int) (hk : 0 ≤ k) (hk' : k ≤ 4294967295) (hn : 0 ≤ n) (hn' : n ≤ 9223372036854775807) (w : World) :
    Calls Tryz.prog 118 #[insV op jt jf k, .int .i64 n] w fun e w' => e = .returned (.bool (decide (k < n))) ∧ Below w.heap.size w w' := by
  have hb := ba (insB op jt jf k) (Below.refl w.heap.size w)
  have h1 : IntKind.u64.wrap k = k := by rw [IntKind.wrap_u64]; omega
  have h2 : IntKind.u64.wrap n = n := by rw [IntKind.wrap_u64]; omega
  go_enter Tryz.func118, Tryz.ntmps118
  go_wp2
  go_ret
  exact ⟨rfl, hb⟩
theorem readsWord_any (op jt jf k n : Int) (w : World) :
    Calls Tryz.prog 114 #[insV op jt jf k, .int .i64 n] w fun e w' => e = .returned (.bool (k.tmod 4 == 0 && decide (k < 64))) ∧ Below w.heap.size w w' := by
  have hb := ba (insB op jt jf k) (Below.refl w.heap.size w)
  go_enter Tryz.func114, Tryz.ntmps114
  go_wp2
  all_goals go_ret
  · rename_i h
    exact ⟨ret1 (by rw [h]; rfl), hb⟩
  · rename_i h
    exact ⟨ret1 (by rw [show (k.tmod 4 == 0) = false by simpa using h]; rfl), hb⟩
theorem branchesInside_any (op jt jf k n : Int) (w : World) :
    Calls Tryz.prog 119 #[insV op jt jf k, .int .i64 n] w fun e w' => e = .returned (.bool (decide (jt < n) && decide (jf < n))) ∧ Below w.heap.size w w' := by
  have hb := ba (insB op jt jf k) (Below.refl w.heap.size w)
  have go : ∀ b : Bool, decide (jt < n) = b → Calls Tryz.prog 119 #[insV op jt jf k, .int .i64 n] w fun e w' => e = .returned (.bool (b && decide (jf < n))) ∧ Below w.heap.size w w' := by
    intro b h
    cases b
    · go_enter Tryz.func119, Tryz.ntmps119
      go_wp2
      go_ret
      exact ⟨rfl, hb⟩
    · go_enter Tryz.func119, Tryz.ntmps119
      go_wp2
      go_ret
      exact ⟨rfl, hb⟩
  exact go _ rfl
end Go.Proofs.YtbekkdhlfkongaaGreatDoor

/-
  Conditions as function values: what unless makes, and what comes of calling it.
-/
namespace Go.Proofs.YtbekkdhlfkongaaGreatDoor
open Go.ChangeShapes Go.WideShapes Go.ChangeAt Go.RowKit
set_option maxRecDepth 20000

/-- The conditions by number: whether they hold, which function tells it, and their errors. -/
def holdsB (c : Nat) (jt jf k n : Int) : Bool := match c with
  | 1 => k.tmod 4 == 0 && decide (k < 64)
  | 2 => decide (k < 16)
  | 3 => k != 0
  | 4 => decide (k < 32)
  | 5 => decide (k < n)
  | _ => decide (jt < n) && decide (jf < n)
def fnB (c : Nat) : Nat := match c with
  | 1 => 114
  | 2 => 115
  | 3 => 116
  | 4 => 117
  | 5 => 118
  | _ => 119
def errB (c : Nat) : Int := match c with
  | 1 => 6
  | 2 => 7
  | 3 => 8
  | 4 => 1
  | _ => 4
theorem holds_any (c : Nat) (op jt jf k n : Int) (hk : 0 ≤ k) (hk' : k ≤ 4294967295) (hn : 0 ≤ n) (hn' : n ≤ 9223372036854775807) (w : World) :
    Calls Tryz.prog (fnB c) #[insV op jt jf k, .int .i64 n] w fun e w' => e = .returned (.bool (holdsB c jt jf k n)) ∧ Below w.heap.size w w' := by
  unfold fnB holdsB
  split
  · exact readsWord_any op jt jf k n w
  · exact hasCell_any op jt jf k n w
  · exact hasDivisor_any op jt jf k n w
  · exact hasShift_any op jt jf k n w
  · exact jumpsInside_any op jt jf k n hk hk' hn hn' w
  · exact branchesInside_any op jt jf k n w

/-- A condition that was made: a function value with two captured variables. -/
def CondAt (w : World) (v : Value) (c : Nat) : Prop :=
  ∃ a b : Nat, v = .func (.func 142) #[] #[.pointer (some ⟨a, 0, none⟩), .pointer (some ⟨b, 0, none⟩)] ∧ w.cell? ⟨a, 0, none⟩ = some (.func (.func (fnB c)) #[] #[]) ∧ w.cell? ⟨b, 0, none⟩ = some (.int .i64 (errB c)) ∧ a < w.heap.size ∧ b < w.heap.size
theorem CondAt.below {w w' : World} {v : Value} {c : Nat} (h : CondAt w v c) (hb : Below w.heap.size w w') : CondAt w' v c := by
  obtain ⟨a, b, rfl, ha, hb', la, lb⟩ := h
  exact ⟨a, b, rfl, (hb.cell (p := ⟨a, _, none⟩) la).trans ha, (hb.cell (p := ⟨b, _, none⟩) lb).trans hb', Nat.lt_of_lt_of_le la hb.size, Nat.lt_of_lt_of_le lb hb.size⟩
def UnlessEnd (c : Nat) (w : World) (e : Ending) (w' : World) : Prop := ∃ v, e = .returned v ∧ CondAt w' v c ∧ Below w.heap.size w w'
theorem unless_any (c : Nat) (w : World) :
    Calls Tryz.prog 113 #[.func (.func (fnB c)) #[] #[], .int .i64 (errB c)] w (UnlessEnd c w) := by
  have hmf : ∀ (fn : Fn) (first cap : Array Value) (w : World), (Instr.makeFunc fn first cap).run Tryz.prog w = .ok (.func fn first cap) w := fun _ _ _ _ => rfl
  have hend : ∀ g ev, fnB c = g → errB c = ev → UnlessEnd c w (.returned (Value.func (.func 142) #[] #[.pointer (some ⟨w.heap.size, 0, none⟩), .pointer (some ⟨w.heap.size + 1, 0, none⟩)])) ((w.alloc (.cells #[.func (.func g) #[] #[]] 171)).alloc (.cells #[.int .i64 ev] 33)) := by
    rintro _ _ rfl rfl
    refine ⟨_, rfl, ⟨w.heap.size, w.heap.size + 1, rfl, ?_, ?_, ?_, ?_⟩, ba _ (ba _ (Below.refl _ _))⟩
    · have h1 := ba (.cells #[.int .i64 (errB c)] 33) (Below.refl (w.alloc (.cells #[.func (.func (fnB c)) #[] #[]] 171)).heap.size (w.alloc (.cells #[.func (.func (fnB c)) #[] #[]] 171)))
      exact (h1.cell (p := ⟨w.heap.size, 0, none⟩) (by rw [size_alloc]; exact Nat.lt_succ_self _)).trans (cell_in (heap_alloc_new w (.cells #[.func (.func (fnB c)) #[] #[]] 171)) 0)
    · have h2 := cell_in (heap_alloc_new (w.alloc (.cells #[.func (.func (fnB c)) #[] #[]] 171)) (.cells #[.int .i64 (errB c)] 33)) 0
      rw [size_alloc] at h2
      exact h2
    · rw [size_alloc, size_alloc]; omega
    · rw [size_alloc, size_alloc]; omega
  generalize hf : fnB c = g
  have HF := Lib.hid hf
  clear hf
  generalize he : errB c = ev
  have HE := Lib.hid he
  clear he
  go_enter Tryz.func113, Tryz.ntmps113
  go_wp2
  go_ret
  exact hend _ _ HF.out HE.out
theorem unless1_readsWord (q : Bool) (ev : Int) (op jt jf k n : Int) (HC : ∀ w, Calls Tryz.prog 114 #[insV op jt jf k, .int .i64 n] w fun e w' => e = .returned (.bool q) ∧ Below w.heap.size w w') (w : World) (a b : Nat) (ha : w.cell? ⟨a, 0, none⟩ = some (.func (.func 114) #[] #[])) (hb : w.cell? ⟨b, 0, none⟩ = some (.int .i64 ev)) (la : a < w.heap.size) (lb : b < w.heap.size) :
    Calls Tryz.prog 142 #[insV op jt jf k, .int .i64 n, .pointer (some ⟨a, 0, none⟩), .pointer (some ⟨b, 0, none⟩)] w fun e w' => e = .returned (.int .i64 (if q then 0 else ev)) ∧ Below w.heap.size w w' := by
  have HB0 := Lib.hid (ba (insB op jt jf k) (Below.refl w.heap.size w))
  have ha1 := (HB0.out.cell (p := ⟨a, 0, none⟩) la).trans ha
  have HG := Lib.hid hb
  clear ha hb
  go_enter Tryz.func142, Tryz.ntmps142
  go_wp2_with fail
  refine (HC _).mono ?_
  rintro e w1 ⟨rfl, hb1⟩
  have HB1 := Lib.hid (HB0.out.trans (hb1.mono HB0.out.size))
  have hb2 := (HB1.out.cell (p := ⟨b, 0, none⟩) lb).trans HG.out
  clear hb1 ha1
  cases q
  · go_wp2_with fail
    go_ret
    exact ⟨rfl, HB1.out⟩
  · go_wp2_with fail
    go_ret
    exact ⟨rfl, HB1.out⟩
theorem unless1_hasCell (q : Bool) (ev : Int) (op jt jf k n : Int) (HC : ∀ w, Calls Tryz.prog 115 #[insV op jt jf k, .int .i64 n] w fun e w' => e = .returned (.bool q) ∧ Below w.heap.size w w') (w : World) (a b : Nat) (ha : w.cell? ⟨a, 0, none⟩ = some (.func (.func 115) #[] #[])) (hb : w.cell? ⟨b, 0, none⟩ = some (.int .i64 ev)) (la : a < w.heap.size) (lb : b < w.heap.size) :
    Calls Tryz.prog 142 #[insV op jt jf k, .int .i64 n, .pointer (some ⟨a, 0, none⟩), .pointer (some ⟨b, 0, none⟩)] w fun e w' => e = .returned (.int .i64 (if q then 0 else ev)) ∧ Below w.heap.size w w' := by
  have HB0 := Lib.hid (ba (insB op jt jf k) (Below.refl w.heap.size w))
  have ha1 := (HB0.out.cell (p := ⟨a, 0, none⟩) la).trans ha
  have HG := Lib.hid hb
  clear ha hb
  go_enter Tryz.func142, Tryz.ntmps142
  go_wp2_with fail
  refine (HC _).mono ?_
  rintro e w1 ⟨rfl, hb1⟩
  have HB1 := Lib.hid (HB0.out.trans (hb1.mono HB0.out.size))
  have hb2 := (HB1.out.cell (p := ⟨b, 0, none⟩) lb).trans HG.out
  clear hb1 ha1
  cases q
  · go_wp2_with fail
    go_ret
    exact ⟨rfl, HB1.out⟩
  · go_wp2_with fail
    go_ret
    exact ⟨rfl, HB1.out⟩
theorem unless1_hasDivisor (q : Bool) (ev : Int) (op jt jf k n : Int) (HC : ∀ w, Calls Tryz.prog 116 #[insV op jt jf k, .int .i64 n] w fun e w' => e = .returned (.bool q) ∧ Below w.heap.size w w') (w : World) (a b : Nat) (ha : w.cell? ⟨a, 0, none⟩ = some (.func (.func 116) #[] #[])) (hb : w.cell? ⟨b, 0, none⟩ = some (.int .i64 ev)) (la : a < w.heap.size) (lb : b < w.heap.size) :
    Calls Tryz.prog 142 #[insV op jt jf k, .int .i64 n, .pointer (some ⟨a, 0, none⟩), .pointer (some ⟨b, 0, none⟩)] w fun e w' => e = .returned (.int .i64 (if q then 0 else ev)) ∧ Below w.heap.size w w' := by
  have HB0 := Lib.hid (ba (insB op jt jf k) (Below.refl w.heap.size w))
  have ha1 := (HB0.out.cell (p := ⟨a, 0, none⟩) la).trans ha
  have HG := Lib.hid hb
  clear ha hb
  go_enter Tryz.func142, Tryz.ntmps142
  go_wp2_with fail
  refine (HC _).mono ?_
  rintro e w1 ⟨rfl, hb1⟩
  have HB1 := Lib.hid (HB0.out.trans (hb1.mono HB0.out.size))
  have hb2 := (HB1.out.cell (p := ⟨b, 0, none⟩) lb).trans HG.out
  clear hb1 ha1
  cases q
  · go_wp2_with fail
    go_ret
    exact ⟨rfl, HB1.out⟩
  · go_wp2_with fail
    go_ret
    exact ⟨rfl, HB1.out⟩
theorem unless1_hasShift (q : Bool) (ev : Int) (op jt jf k n : Int) (HC : ∀ w, Calls Tryz.prog 117 #[insV op jt jf k, .int .i64 n] w fun e w' => e = .returned (.bool q) ∧ Below w.heap.size w w') (w : World) (a b : Nat) (ha : w.cell? ⟨a, 0, none⟩ = some (.func (.func 117) #[] #[])) (hb : w.cell? ⟨b, 0, none⟩ = some (.int .i64 ev)) (la : a < w.heap.size) (lb : b < w.heap.size) :
    Calls Tryz.prog 142 #[insV op jt jf k, .int .i64 n, .pointer (some ⟨a, 0, none⟩), .pointer (some ⟨b, 0, none⟩)] w fun e w' => e = .returned (.int .i64 (if q then 0 else ev)) ∧ Below w.heap.size w w' := by
  have HB0 := Lib.hid (ba (insB op jt jf k) (Below.refl w.heap.size w))
  have ha1 := (HB0.out.cell (p := ⟨a, 0, none⟩) la).trans ha
  have HG := Lib.hid hb
  clear ha hb
  go_enter Tryz.func142, Tryz.ntmps142
  go_wp2_with fail
  refine (HC _).mono ?_
  rintro e w1 ⟨rfl, hb1⟩
  have HB1 := Lib.hid (HB0.out.trans (hb1.mono HB0.out.size))
  have hb2 := (HB1.out.cell (p := ⟨b, 0, none⟩) lb).trans HG.out
  clear hb1 ha1
  cases q
  · go_wp2_with fail
    go_ret
    exact ⟨rfl, HB1.out⟩
  · go_wp2_with fail
    go_ret
    exact ⟨rfl, HB1.out⟩
theorem unless1_jumpsInside (q : Bool) (ev : Int) (op jt jf k n : Int) (HC : ∀ w, Calls Tryz.prog 118 #[insV op jt jf k, .int .i64 n] w fun e w' => e = .returned (.bool q) ∧ Below w.heap.size w w') (w : World) (a b : Nat) (ha : w.cell? ⟨a, 0, none⟩ = some (.func (.func 118) #[] #[])) (hb : w.cell? ⟨b, 0, none⟩ = some (.int .i64 ev)) (la : a < w.heap.size) (lb : b < w.heap.size) :
    Calls Tryz.prog 142 #[insV op jt jf k, .int .i64 n, .pointer (some ⟨a, 0, none⟩), .pointer (some ⟨b, 0, none⟩)] w fun e w' => e = .returned (.int .i64 (if q then 0 else ev)) ∧ Below w.heap.size w w' := by
  have HB0 := Lib.hid (ba (insB op jt jf k) (Below.refl w.heap.size w))
  have ha1 := (HB0.out.cell (p := ⟨a, 0, none⟩) la).trans ha
  have HG := Lib.hid hb
  clear ha hb
  go_enter Tryz.func142, Tryz.ntmps142
  go_wp2_with fail
  refine (HC _).mono ?_
  rintro e w1 ⟨rfl, hb1⟩
  have HB1 := Lib.hid (HB0.out.trans (hb1.mono HB0.out.size))
  have hb2 := (HB1.out.cell (p := ⟨b, 0, none⟩) lb).trans HG.out
  clear hb1 ha1
  cases q
  · go_wp2_with fail
    go_ret
    exact ⟨rfl, HB1.out⟩
  · go_wp2_with fail
    go_ret
    exact ⟨rfl, HB1.out⟩
theorem unless1_branchesInside (q : Bool) (ev : Int) (op jt jf k n : Int) (HC : ∀ w, Calls Tryz.prog 119 #[insV op jt jf k, .int .i64 n] w fun e w' => e = .returned (.bool q) ∧ Below w.heap.size w w') (w : World) (a b : Nat) (ha : w.cell? ⟨a, 0, none⟩ = some (.func (.func 119) #[] #[])) (hb : w.cell? ⟨b, 0, none⟩ = some (.int .i64 ev)) (la : a < w.heap.size) (lb : b < w.heap.size) :
    Calls Tryz.prog 142 #[insV op jt jf k, .int .i64 n, .pointer (some ⟨a, 0, none⟩), .pointer (some ⟨b, 0, none⟩)] w fun e w' => e = .returned (.int .i64 (if q then 0 else ev)) ∧ Below w.heap.size w w' := by
  have HB0 := Lib.hid (ba (insB op jt jf k) (Below.refl w.heap.size w))
  have ha1 := (HB0.out.cell (p := ⟨a, 0, none⟩) la).trans ha
  have HG := Lib.hid hb
  clear ha hb
  go_enter Tryz.func142, Tryz.ntmps142
  go_wp2_with fail
  refine (HC _).mono ?_
  rintro e w1 ⟨rfl, hb1⟩
  have HB1 := Lib.hid (HB0.out.trans (hb1.mono HB0.out.size))
  have hb2 := (HB1.out.cell (p := ⟨b, 0, none⟩) lb).trans HG.out
  clear hb1 ha1
  cases q
  · go_wp2_with fail
    go_ret
    exact ⟨rfl, HB1.out⟩
  · go_wp2_with fail
    go_ret
    exact ⟨rfl, HB1.out⟩
theorem unless1_any (c : Nat) (op jt jf k n : Int) (hk : 0 ≤ k) (hk' : k ≤ 4294967295) (hn : 0 ≤ n) (hn' : n ≤ 9223372036854775807) (w : World) (a b : Nat) (ha : w.cell? ⟨a, 0, none⟩ = some (.func (.func (fnB c)) #[] #[])) (hb : w.cell? ⟨b, 0, none⟩ = some (.int .i64 (errB c))) (la : a < w.heap.size) (lb : b < w.heap.size) :
    Calls Tryz.prog 142 #[insV op jt jf k, .int .i64 n, .pointer (some ⟨a, 0, none⟩), .pointer (some ⟨b, 0, none⟩)] w fun e w' => e = .returned (.int .i64 (if holdsB c jt jf k n then 0 else errB c)) ∧ Below w.heap.size w w' := by
  have HC := holds_any c op jt jf k n hk hk' hn hn'
  generalize holdsB c jt jf k n = q at *
  generalize errB c = ev at *
  unfold fnB at HC ha
  split at HC
  · exact unless1_readsWord q ev op jt jf k n HC w a b ha hb la lb
  · exact unless1_hasCell q ev op jt jf k n HC w a b ha hb la lb
  · exact unless1_hasDivisor q ev op jt jf k n HC w a b ha hb la lb
  · exact unless1_hasShift q ev op jt jf k n HC w a b ha hb la lb
  · exact unless1_jumpsInside q ev op jt jf k n HC w a b ha hb la lb
  · rename_i h1 h2 h3 h4 h5
    have ha' : w.cell? ⟨a, 0, none⟩ = some (.func (.func 119) #[] #[]) := by
      rw [ha]
      split <;> first | contradiction | rfl
    exact unless1_branchesInside q ev op jt jf k n HC w a b ha' hb la lb
end Go.Proofs.YtbekkdhlfkongaaGreatDoor
/-
  An instruction's text as its parts with spaces between them: parts are cut as they were joined; unlike instructions have unlike texts. Plain lists, without any program.
-/
namespace Ip
open Go

theorem fine_J {f : Int} {jt jf k : Nat} (h : Fine f jt jf k) (hJ : hasJ f = false) : jt = 0 ∧ jf = 0 := by
  have h1 := h.1
  unfold fits at h1
  rw [hJ] at h1
  simp at h1
  omega
end Ip

/-
  The document's own table of instructions (package hurdleref02), as plain lists, and how it stands to the program's table.
-/
namespace Ip
open Go

/-- The operations in the document's order, and their words. -/
def refOps : List Int := [0, 1, 2, 3, 4, 20, 36, 52, 68, 84, 100, 116, 164, 12, 28, 44, 60, 76, 92, 108, 124, 172, 132, 7, 135, 32, 96, 97, 5, 6, 22, 21, 37, 53, 69, 29, 45, 61, 77]
def refWords : List (List UInt8) := [[108, 100], [108, 100, 120], [115, 116], [115, 116, 120], [97, 100, 100], [115, 117, 98], [109, 117, 108], [100, 105, 118], [111, 114], [97, 110, 100], [108, 115, 104], [114, 115, 104], [120, 111, 114], [97, 100, 100, 120], [115, 117, 98, 120], [109, 117, 108, 120], [100, 105, 118, 120], [111, 114, 120], [97, 110, 100, 120], [108, 115, 104, 120], [114, 115, 104, 120], [120, 111, 114, 120], [110, 101, 103], [116, 97, 120], [116, 120, 97], [97, 98, 115], [109, 101, 109], [109, 101, 109, 120], [106, 97], [114, 101, 116], [114, 101, 116, 97], [106, 101, 113], [106, 103, 116], [106, 103, 101], [106, 115, 101, 116], [106, 101, 113, 120], [106, 103, 116, 120], [106, 103, 101, 120], [106, 115, 101, 116, 120]]
/-- The place of an operation; below 0: it is none. -/
def plc (k : Int) : Int := match refOps.findIdx? (· == k) with
  | some i => (i : Int)
  | none => -1
def plainB (i : Int) : Bool := (decide (13 ≤ i) && decide (i ≤ 24)) || (i == 30) || decide (35 ≤ i)
def branchB (i : Int) : Bool := decide (31 ≤ i)
/-- The program's row at a place of the document's. -/
def refRow (i : Nat) : Row := (byOp (refOps.getD i 0)).getD zeroRow
theorem ref_all : ∀ i, i < 39 → (byOp (refOps.getD i 0)).isSome = true ∧ (refRow i).op = refOps.getD i 0 ∧ (refRow i).word = refWords.getD i [] ∧ hasK (refRow i).fmt = !plainB i ∧ hasJ (refRow i).fmt = branchB i ∧ ((refRow i).fmt == 3) = (decide (4 ≤ i) && decide (i ≤ 12)) ∧ ((refRow i).fmt == 1) = (decide (13 ≤ i) && decide (i ≤ 21)) := by decide
theorem ref_only : ∀ r ∈ rows, refOps.contains r.op = true := by decide
theorem plc_at {i : Nat} (hi : i < 39) {k : Int} (h : (refOps.getD i 0 == k) = true) (ha : ∀ j, j < i → (refOps.getD j 0 == k) = false) : plc k = i := by
  have e : refOps.findIdx? (· == k) = some i := by
    rw [List.findIdx?_eq_some_iff_getElem]
    have hl : refOps.length = 39 := rfl
    refine ⟨by omega, ?_, fun j hj => ?_⟩
    · simpa [List.getD, hl, hi] using h
    · have := ha j hj
      simpa [List.getD, hl, show j < 39 by omega] using this
  unfold plc
  rw [e]
theorem plc_none {k : Int} (ha : ∀ j, j < 39 → (refOps.getD j 0 == k) = false) : plc k = -1 := by
  have e : refOps.findIdx? (· == k) = none := by
    rw [List.findIdx?_eq_none_iff]
    intro x hx
    obtain ⟨j, hj, rfl⟩ := List.getElem_of_mem hx
    have hl : refOps.length = 39 := rfl
    have := ha j (by omega)
    simpa [List.getD, hl, show j < 39 by omega] using this
  unfold plc
  rw [e]
/-- By an operation: a place with its row, or neither. -/
theorem plc_cases (k : Int) : (∃ i : Nat, i < 39 ∧ plc k = i ∧ k = refOps.getD i 0 ∧ byOp k = some (refRow i) ∧ refRow i ∈ rows) ∨ (plc k = -1 ∧ byOp k = none) := by
  cases h : refOps.findIdx? (· == k) with
  | some i =>
    rw [List.findIdx?_eq_some_iff_getElem] at h
    obtain ⟨hi, h1, h2⟩ := h
    have hl : refOps.length = 39 := rfl
    have hi' : i < 39 := by omega
    have hk : refOps.getD i 0 = k := by simpa [List.getD, hl, hi'] using h1
    refine .inl ⟨i, hi', ?_, hk.symm, ?_, ?_⟩
    · apply plc_at hi' (by simpa using hk)
      intro j hj
      have := h2 j hj
      simpa [List.getD, hl, show j < 39 by omega] using this
    · have h3 := (ref_all i hi').1
      rw [hk] at h3
      unfold refRow
      rw [hk]
      cases hb : byOp k with
      | none => rw [hb] at h3; cases h3
      | some r => rfl
    · have h3 := (ref_all i hi').1
      unfold refRow
      cases hb : byOp (refOps.getD i 0) with
      | none => rw [hb] at h3; cases h3
      | some r => exact (byOp_op hb).1
  | none =>
    refine .inr ⟨by unfold plc; rw [h], ?_⟩
    rw [List.findIdx?_eq_none_iff] at h
    cases hb : byOp k with
    | none => rfl
    | some r =>
      obtain ⟨hr, rfl⟩ := byOp_op hb
      have h1 := ref_only r hr
      have h2 := h r.op (by simpa using h1)
      simp at h2
end Ip

/-
  The arithmetic of an operation, plainly.
-/
namespace Go.Proofs.YtbekkdhlfkongaaGreatDoor
open Go.ChangeShapes Go.WideShapes Go.ChangeAt Go.RowKit

/-- The arithmetic of an operation: its kind, whether it is with X, and whether there is any. -/
def aluV (op : Int) : Int := if (Ip.byOp op).isSome then Ip.aluK ((Ip.byOp op).getD Ip.zeroRow) else 0
def aluX (op : Int) : Bool := (Ip.byOp op).isSome && ((Ip.byOp op).getD Ip.zeroRow).fmt == 1
def aluB (op : Int) : Bool := (Ip.byOp op).isSome && (((Ip.byOp op).getD Ip.zeroRow).fmt == 3 || ((Ip.byOp op).getD Ip.zeroRow).fmt == 1)
theorem alu_at {op : Int} {i : Nat} (hi : i < 39) (hq : op = Ip.refOps.getD i 0) (hb : Ip.byOp op = some (Ip.refRow i)) :
    (4 ≤ i → i ≤ 12 → aluV op = op ∧ aluX op = false ∧ aluB op = true) ∧ (13 ≤ i → i ≤ 21 → aluV op = op - 8 ∧ aluX op = true ∧ aluB op = true) ∧ ((i < 4 ∨ 21 < i) → aluV op = 0 ∧ aluX op = false ∧ aluB op = false) := by
  obtain ⟨_, h2, _, _, _, h6, h7⟩ := Ip.ref_all i hi
  rw [← hq] at h2
  unfold aluV aluX aluB Ip.aluK
  rw [hb]
  simp only [Option.isSome_some, Option.getD_some, Bool.true_and, if_true, h6, h7, h2]
  refine ⟨fun h h' => ?_, fun h h' => ?_, fun h => ?_⟩
  · simp [h, h', show ¬ 13 ≤ i by omega]
  · simp [h, h', show ¬ i ≤ 12 by omega]
  · rcases h with h | h
    · simp [show ¬ 4 ≤ i by omega, show ¬ 13 ≤ i by omega]
    · simp [show ¬ i ≤ 12 by omega, show ¬ i ≤ 21 by omega]
theorem alu_none {op : Int} (hb : Ip.byOp op = none) : aluV op = 0 ∧ aluX op = false ∧ aluB op = false := by
  unfold aluV aluX aluB
  rw [hb]
  exact ⟨rfl, rfl, rfl⟩
end Go.Proofs.YtbekkdhlfkongaaGreatDoor
