/-
  What the laws' texts use, joined.
-/
import Derived.Test.YtmbgcfikpndamaaDoorProg
import Derived.WalkKit
import Derived.ProofKit
import Derived.Lib.Hide
import Derived.Laws.Rows
import Derived.Laws.ResultCell
import Derived.Laws.Entries
import Derived.Handy
import Derived.OwnWalk
import Derived.Laws.OwnMore
import Derived.Deep.Draws
import Derived.Laws.IdiomStrings
import Derived.Lib.BufferRead
import Derived.Maps.OwnSet
import Derived.Laws.BitsAllLaws
import Derived.RowKit
import Derived.Lib.QuietBelow
import Derived.Lib.OthersKept
import Derived.BigQuiet
import Derived.Laws.Tables
import Derived.Deep.DeepCutAuto
/-
  What is the same for every stage: worlds that have only grown, blocks and rows of a call's own, small words on endings.
-/
namespace Go.Proofs.YtmbgcfikpndamaaDoor
open Go.ChangeShapes Go.WideShapes Go.ChangeAt Go.RowKit

theorem ret1 {c c' : Bool} (h : c = c') : Ending.returned (.bool c) = .returned (.bool c') := by rw [h]
/-- A new block more. -/
theorem ba {w v : World} (o : Obj) (h : Below w.heap.size w v) : Below w.heap.size w (v.alloc o) := h.alloc h.size o
/-- A struct's block: what its cells hold. -/
theorem cell_in {w : World} {g : Nat} {cs : Array Value} {t : TypeId} {fr : Nat × Nat} (h : w.heap[g]? = some (.cells cs t fr)) (i : Nat) : w.cell? ⟨g, i, none⟩ = cs[i]? := cell_of_row w g i cs t fr h
theorem free_in {w : World} {g : Nat} {cs : Array Value} {t : TypeId} (h : w.heap[g]? = some (.cells cs t (0, 0))) (i : Nat) : w.frozen? ⟨g, i, none⟩ = false := by simp [World.frozen?, h]
theorem size_alloc (w : World) (o : Obj) : (w.alloc o).heap.size = w.heap.size + 1 := by
  show (w.heap.push o).size = _
  simp
/-- A law on append: the world that it leaves, below the base. -/
theorem grown_below {B : Nat} {w0 w w' : World} {e : TypeId} {size : Nat} {v : Value} {n : Nat} {xs : List Value} (h : Below B w0 w) (ho : w.ownsRow B e size v n xs) (hg : w.grownBy w' v.ownBlock) (hB : B ≤ w.heap.size) : Below B w0 w' :=
  h.grown hg hB fun k hk => (ho.lt k hk).1
theorem news_at {w : World} {g : Nat} {cs : Array Value} {t : TypeId} {fr : Nat × Nat} (h : w.heap[g]? = some (.cells cs t fr)) : ∀ j u, cs.toList[j]? = some u → w.cell? ((⟨g, 0, none⟩ : Addr).add j) = some u := by
  intro j u hu
  rw [show (⟨g, 0, none⟩ : Addr).add j = ⟨g, j, none⟩ by unfold Addr.add; split <;> simp_all, cell_in h]
  simpa using hu
theorem new_at (w : World) (cs : Array Value) (t : TypeId) : ∀ j u, cs.toList[j]? = some u → (w.alloc (.cells cs t)).cell? ((⟨w.heap.size, 0, none⟩ : Addr).add j) = some u := news_at (heap_alloc_new w (.cells cs t))
theorem own_below {w w' : World} {base : Nat} {e : TypeId} {size : Nat} {v : Value} {n : Nat} {xs : List Value} (h : w.ownsRow base e size v n xs) (hb : Below w.heap.size w w') : w'.ownsRow base e size v n xs := by
  obtain ⟨h1, h2⟩ := h
  refine ⟨h1, h2.imp id ?_⟩
  rintro ⟨g, cap, cur, hv, hg, hh, r⟩
  exact ⟨g, cap, cur, hv, hg, (hb.block g (lt_of_block hh)).trans hh, r⟩
theorem below2 {a b c : World} (h : Below a.heap.size a b) (k : Below b.heap.size b c) : Below a.heap.size a c := h.trans (k.mono h.size)
theorem bdN {B : Nat} {a w : World} (h : Below B a w) (n : Nat) : Below B a (w.drewN n) := ⟨h.os, h.tape, h.output, h.size, h.block⟩
theorem retI {a b : Int} (h : a = b) : Ending.returned (.int .i64 b) = .returned (.int .i64 a) := by rw [h]
theorem retB {a b : Bool} (h : a = b) : Ending.returned (.bool b) = .returned (.bool a) := by rw [h]
theorem own_mono {w : World} {base base' : Nat} {e : TypeId} {size : Nat} {v : Value} {n : Nat} {xs : List Value} (h : w.ownsRow base e size v n xs) (hb : base' ≤ base) : w.ownsRow base' e size v n xs :=
  ⟨h.1, h.2.imp id fun ⟨g, cap, cur, a, b, c⟩ => ⟨g, cap, cur, a, Nat.le_trans hb b, c⟩⟩
theorem add_plain (b off j : Nat) : (⟨b, off, none⟩ : Addr).add j = ⟨b, off + j, none⟩ := Addr.add_lit b off j
theorem pick_list {α : Type} {Q : Nat → α → Prop} : ∀ n : Nat, (∀ i, i < n → ∃ x, Q i x) → ∃ l : List α, l.length = n ∧ ∀ i (h : i < l.length), Q i l[i]
  | 0, _ => ⟨[], rfl, fun i h => by simp at h⟩
  | n + 1, h => by
    obtain ⟨l, hl, hq⟩ := pick_list n (fun i hi => h i (by omega))
    obtain ⟨x, hx⟩ := h n (by omega)
    refine ⟨l ++ [x], by simp [hl], fun i hi => ?_⟩
    by_cases hin : i < l.length
    · rw [List.getElem_append_left hin]
      exact hq i hin
    · have hi' : i = l.length := by simp at hi; omega
      subst hi'
      simp
      rw [hl]
      exact hx
end Go.Proofs.YtmbgcfikpndamaaDoor

/-
  Bytes that lie in a world; numbers as bytes; append(own, src...) where src is anything that lies in the world (nil among them); string(b).
-/
namespace Go.Proofs.YtmbgcfikpndamaaDoor
open Go.ChangeShapes Go.WideShapes Go.ChangeAt Go.RowKit
set_option maxRecDepth 20000

theorem info8 : (Tryd.prog.info? 5).map (fun i => (i.zero, i.size, i.bytes)) = some (some (.int .u8 0), 1, 1) := by kernel_rfl
/-- Bytes that lie in a world. -/
def BAt (w : World) (v : Value) (l : List UInt8) : Prop :=
  ∃ ao cap, v = .slice ao l.length cap ∧ l.length ≤ cap ∧ cap ≤ 9223372036854775807 ∧ (l = [] ∨ ∃ b off, ao = some ⟨b, off, none⟩ ∧ b < w.heap.size ∧ ∀ i (h : i < l.length), w.cell? ⟨b, off + i, none⟩ = some (.int .u8 ((l[i]).toNat : Int)))
abbrev bcells (l : List UInt8) : List Value := l.map fun b => Value.int .u8 (b.toNat : Int)
theorem bcells_one (l : List UInt8) : ∀ u ∈ bcells l, u.oneCell' = true := by
  intro u hu
  obtain ⟨b, _, rfl⟩ := List.mem_map.1 hu
  rfl
theorem BAt.nil (w : World) : BAt w (.slice none 0 0) [] := ⟨none, 0, rfl, Nat.le_refl _, by omega, .inl rfl⟩
theorem BAt.below {w w' : World} {v : Value} {l : List UInt8} (h : BAt w v l) (hb : Below w.heap.size w w') : BAt w' v l := by
  obtain ⟨ao, cap, rfl, hcap, hm, h⟩ := h
  refine ⟨ao, cap, rfl, hcap, hm, h.imp id ?_⟩
  rintro ⟨b, off, rfl, hl, hc⟩
  exact ⟨b, off, rfl, Nat.lt_of_lt_of_le hl hb.size, fun i hi => (hb.cell (p := ⟨b, _, none⟩) hl).trans (hc i hi)⟩
theorem BAt.own {w : World} {base : Nat} {e : TypeId} {v : Value} {n : Nat} {l : List UInt8} (h : w.ownsRow base e 1 v n (bcells l)) (hn : n = l.length) : BAt w v l := by
  subst hn
  rcases h.2 with ⟨rfl, h0⟩ | ⟨g, cap, cur, rfl, _, hg, hc, hm, _, ht⟩
  · obtain rfl := List.length_eq_zero_iff.1 h0
    exact BAt.nil w
  · unfold maxLen at hm
    refine ⟨_, _, rfl, hc, hm, .inr ⟨g, 0, rfl, lt_of_block hg, fun i hi => ?_⟩⟩
    rw [Nat.zero_add, cell_in hg i, ← Array.getElem?_toList]
    have hu : (bcells l)[i]? = some (.int .u8 ((l[i]).toNat : Int)) := by simp [hi]
    rw [← ht, List.getElem?_take, if_pos (by omega)] at hu
    exact hu
/-- Byte i of a number. -/
def byteAt (N i : Nat) : UInt8 := UInt8.ofNat (N / 2 ^ (8 * i))
theorem byteAt_val (N i : Nat) : ((byteAt N i).toNat : Int) = ((N / 2 ^ (8 * i) % 256 : Nat) : Int) := by simp [byteAt]
def lowBytes (N sz : Nat) : List UInt8 := (List.range sz).map (byteAt N)
theorem lowBytes_succ (N k : Nat) : lowBytes N (k + 1) = lowBytes N k ++ [byteAt N k] := by simp [lowBytes, List.range_succ]
theorem lowBytes_len (N k : Nat) : (lowBytes N k).length = k := by simp [lowBytes]
theorem bcells_app (a b : List UInt8) : bcells (a ++ b) = bcells a ++ bcells b := by simp
/-- The number of the first so many bytes from a place on. -/
def numAt (l : List UInt8) (o : Nat) : Nat → Nat
  | 0 => 0
  | sz + 1 => numAt l o sz + (l.getD (o + sz) 0).toNat * 2 ^ (8 * sz)
theorem numAt_lt (l : List UInt8) (o sz : Nat) : numAt l o sz < 2 ^ (8 * sz) := by
  induction sz with
  | zero => simp [numAt]
  | succ n ih =>
    have h := UInt8.toNat_lt (l.getD (o + n) 0)
    have e : 2 ^ (8 * (n + 1)) = 256 * 2 ^ (8 * n) := by rw [Nat.mul_succ, Nat.pow_add]; omega
    rw [e]
    simp only [numAt]
    have : (l.getD (o + n) 0).toNat * 2 ^ (8 * n) ≤ 255 * 2 ^ (8 * n) := Nat.mul_le_mul_right _ (by omega)
    omega
theorem numAt_front (P B : List UInt8) (o sz : Nat) : numAt (P ++ B) (P.length + o) sz = numAt B o sz := by
  induction sz with
  | zero => rfl
  | succ n ih =>
    simp only [numAt, ih]
    congr 3
    rw [List.getD_eq_getElem?_getD, List.getD_eq_getElem?_getD, List.getElem?_append_right (by omega)]
    congr 2
    omega
theorem numAt_behind (E S : List UInt8) (o sz : Nat) (h : o + sz ≤ E.length) : numAt (E ++ S) o sz = numAt E o sz := by
  induction sz with
  | zero => rfl
  | succ n ih =>
    simp only [numAt, ih (by omega)]
    congr 3
    rw [List.getD_eq_getElem?_getD, List.getD_eq_getElem?_getD, List.getElem?_append_left (by omega)]
theorem BAt.lit (w : World) (l : List UInt8) (t : TypeId) (hm : l.length ≤ 9223372036854775807) : BAt (w.alloc (.cells (bcells l).toArray t)) (.slice (some ⟨w.heap.size, 0, none⟩) l.length l.length) l :=
  ⟨_, _, rfl, Nat.le_refl _, hm, .inr ⟨_, 0, rfl, by rw [size_alloc]; omega, fun i hi => by
    rw [Nat.zero_add, cell_in (heap_alloc_new w (.cells (bcells l).toArray t)) i]
    simp [hi]⟩⟩
/-- Bytes in a world that only drew, or grew. -/
theorem BAt.shape {w : World} {v : Value} {l : List UInt8} (h : BAt w v l) : ∃ ao cap, v = .slice ao l.length cap := by
  obtain ⟨ao, cap, rfl, _⟩ := h
  exact ⟨ao, cap, rfl⟩
/-- A slice whose elements have these cells. -/
def SrcAt (w : World) (size : Nat) (x : Value) (m : Nat) (news : List Value) : Prop :=
  ∃ ao c, x = .slice ao m c ∧ news.length = m * size ∧ (ao = none → m = 0) ∧ ∀ ad, ao = some ad → ∀ j u, news[j]? = some u → w.cell? (ad.add j) = some u
theorem BAt.src {w : World} {v : Value} {l : List UInt8} (h : BAt w v l) : SrcAt w 1 v l.length (bcells l) := by
  obtain ⟨ao, cap, rfl, _, _, h⟩ := h
  refine ⟨ao, cap, rfl, by simp, fun h0 => ?_, fun ad had j u hu => ?_⟩
  · rcases h with rfl | ⟨b, off, rfl, _⟩
    · rfl
    · cases h0
  · rcases h with rfl | ⟨b, off, rfl, _, hc⟩
    · simp at hu
    · cases had
      have hj : j < l.length := by simpa using (List.getElem?_eq_some_iff.1 hu).1
      rw [add_plain, hc j hj]
      simp [hj] at hu
      rw [hu]
theorem SrcAt.below {w w' : World} {size m : Nat} {x : Value} {news : List Value} (h : SrcAt w size x m news) (hk : ∀ p : Addr, w.cell? p ≠ none → w'.cell? p = w.cell? p) : SrcAt w' size x m news := by
  obtain ⟨ao, c, rfl, h1, h2, h3⟩ := h
  refine ⟨ao, c, rfl, h1, h2, fun ad had j u hu => ?_⟩
  have e := h3 ad had j u hu
  rw [hk _ (by rw [e]; simp)]
  exact e
section
variable {P : Program} (w : World)
theorem run_append_nothing (base : Nat) (t ty e : TypeId) (i : TypeInfo) (size : Nat) (ht : P.underlying t = some (.slice e)) (hi : P.info? e = some i) (v : Value) (n : Nat) (xs : List Value) (hown : w.ownsRow base e size v n xs) (c : Nat) :
    (Builtin.append_ #[t, t] ty #[v, .slice none 0 c]).run P w = .ok v w := by
  rcases hown.2 with ⟨rfl, rfl⟩ | ⟨g, cap, cur, rfl, _, _, hnc, _⟩
  · simp [Builtin.append_, run_underlying ht, sizeOf, typeInfo, hi, Builtin.lenOf, Builtin.firstCells]
  · simp [Builtin.append_, run_underlying ht, sizeOf, typeInfo, hi, Builtin.lenOf, Builtin.firstCells, hnc, storeCells]
theorem wpList_append_src {ops : Array Oper} {rest : List Oper} {o : Oper} {a : Act} {Q : Exit → Act → World → Prop} (hgd : o.guard = none) (s x : Operand) (t : TypeId)
    (ho : o.op = .call { callee := .builtin .append, args := #[s, x], argTypes := #[t, t] })
    (base : Nat) (e : TypeId) (i : TypeInfo) (z : Value) (size bytes : Nat) (ht : P.underlying t = some (.slice e)) (hi : P.info? e = some i) (hz : i.zero = some z)
    (hsize : i.size = size) (hby : i.bytes = bytes) (hzs : z.cells.size = size) (hsz : 0 < size)
    (v : Value) (n : Nat) (xs : List Value) (hs : a.eval s = v) (hown : w.ownsRow base e size v n xs)
    (xv : Value) (m : Nat) (news : List Value) (hx : a.eval x = xv) (hsrc : SrcAt w size xv m news) (h1 : ∀ u ∈ news, u.oneCell' = true)
    (h63 : n + m ≤ maxLen) (hbytes : (n + m) * bytes ≤ 140737488355328) (hbase : base ≤ w.heap.size)
    (h : ∀ v' w', w'.ownsRow base e size v' (n + m) (xs ++ news) → w.grownBy w' v.ownBlock → wpList P ops Q rest (a.put o.dst v') w') : wpList P ops Q (o :: rest) a w := by
  obtain ⟨ao, c, rfl, hl, h0, hc⟩ := hsrc
  cases ao with
  | some ad => exact wpList_append_own w hgd s x t ho base e i z size bytes ht hi hz hsize hby hzs hsz v n xs hs hown ad m c news hx hl (hc ad rfl) h1 h63 hbytes hbase fun v' w' h2 h3 _ => h v' w' h2 h3
  | none =>
    obtain rfl := h0 rfl
    obtain rfl : news = [] := List.eq_nil_of_length_eq_zero (by simpa using hl)
    refine wpList_plain hgd fun K hK => ?_
    have hrun := run_append_nothing (P := P) w base t o.type e i size ht hi v n xs hown c
    unfold Oper.wp
    simp [execOp, ho, resolve, invoke, builtin, hs, hx, hrun, Result.andThen]
    exact hK _ _ (h v w (by simpa using hown) (World.grownBy.refl w _))
theorem step_append_src {ops : Array Oper} {o : Oper} {a : Act} {K : Act → World → Prop} {Q : Exit → Act → World → Prop} {E : Prop} (hgd : o.guard = none) (s x : Operand) (t : TypeId)
    (ho : o.op = .call { callee := .builtin .append, args := #[s, x], argTypes := #[t, t] })
    (base : Nat) (e : TypeId) (i : TypeInfo) (z : Value) (size bytes : Nat) (ht : P.underlying t = some (.slice e)) (hi : P.info? e = some i) (hz : i.zero = some z)
    (hsize : i.size = size) (hby : i.bytes = bytes) (hzs : z.cells.size = size) (hsz : 0 < size)
    (v : Value) (n : Nat) (xs : List Value) (hs : a.eval s = v) (hown : w.ownsRow base e size v n xs)
    (xv : Value) (m : Nat) (news : List Value) (hx : a.eval x = xv) (hsrc : SrcAt w size xv m news) (h1 : ∀ u ∈ news, u.oneCell' = true)
    (h63 : n + m ≤ maxLen) (hbytes : (n + m) * bytes ≤ 140737488355328) (hbase : base ≤ w.heap.size)
    (h : ∀ v' w', w'.ownsRow base e size v' (n + m) (xs ++ news) → w.grownBy w' v.ownBlock → K (a.put o.dst v') w') :
    if Region.wanted o (yielded ops a.tmps) = true then Oper.wp P o a w K Q else E := by
  have hw : Region.wanted o (yielded ops a.tmps) = true := by simp [Region.wanted, hgd]
  rw [if_pos hw]
  obtain ⟨ao, c, rfl, hl, h0, hc⟩ := hsrc
  cases ao with
  | some ad => exact wp_append_own w s x t ho base e i z size bytes ht hi hz hsize hby hzs hsz v n xs hs hown ad m c news hx hl (hc ad rfl) h1 h63 hbytes hbase fun v' w' h2 h3 _ => h v' w' h2 h3
  | none =>
    obtain rfl := h0 rfl
    obtain rfl : news = [] := List.eq_nil_of_length_eq_zero (by simpa using hl)
    have hrun := run_append_nothing (P := P) w base t o.type e i size ht hi v n xs hown c
    unfold Oper.wp
    simp [execOp, ho, resolve, invoke, builtin, hs, hx, hrun, Result.andThen]
    exact h v w (by simpa using hown) (World.grownBy.refl w _)
end
end Go.Proofs.YtmbgcfikpndamaaDoor

namespace Go
/-- An entry of a map's literal, at the operation (as 'wpList_mapUpdate_own' has it of an assignment). -/
theorem wpList_insert_own {H : Type} {P : Program} (w : World) {ops : Array Oper} {rest : List Oper} {o : Oper} {a : Act} {Q : Exit → Act → World → Prop}
    (hg : o.guard = none) (m x v : Operand) (t : TypeId) (hop : o.op = Op.insert t m x v)
    (k e : TypeId) (K : Maps.Keyed P k) (ht : P.underlying t = some (.map k e)) (R : Value → Option (DataW H × List MemPlace)) (b n : Nat) (D : DataW H)
    (hm : a.eval m = .map (some b)) (hown : w.ownsMap P k R b n D) (hn : n < maxLen) (key val : Value) (kl : Lit) (hx : a.eval x = key) (hv : a.eval v = val) (hkey : keyOf P k key = some kl)
    (d : DataW H) (ps : List MemPlace) (hval : R val = some (d, ps))
    (hK : ∀ w', w'.ownsMap P k R b (n + 1) (D.put kl d) → w.grownBy w' (some b) → wpList P ops Q rest (a.put o.dst undef) w') :
    wpList P ops Q (o :: rest) a w := by
  refine wpList_plain hg fun K' hK' => ?_
  obtain ⟨w', hrun, r1, r2⟩ := hown.update K ht hn hkey hval
  unfold Oper.wp
  simp [execOp, hop, hm, hx, hv, hrun, Result.andThen]
  exact hK' _ _ (hK w' r1 r2)
end Go
/-
  Plain facts on numbers and texts, without any program: 32-bit arithmetic as Int functions, hexadecimal digits as lists of bytes.
-/
namespace Wd
open Go

/-- What comes of a kind of arithmetic, as a number. -/
def doV (k a b : Int) : Int :=
  if k = 4 then (a + b) % 4294967296
  else if k = 20 then (a - b) % 4294967296
  else if k = 36 then a * b % 4294967296
  else if k = 52 then (if b = 0 then 0 else a / b)
  else if k = 68 then bits .or .u32 a b
  else if k = 84 then bits .and .u32 a b
  else if k = 100 then a * 2 ^ (b % 32).toNat % 4294967296
  else if k = 116 then a / 2 ^ (b % 32).toNat
  else if k = 164 then bits .xor .u32 a b
  else 0
/-- Whether something comes of it. -/
def doB (k b : Int) : Bool :=
  decide (k = 4) || decide (k = 20) || decide (k = 36) || (decide (k = 52) && !decide (b = 0)) || decide (k = 68) || decide (k = 84) || decide (k = 100) || decide (k = 116) || decide (k = 164)

theorem doV_sub (a b : Int) : doV 20 a b = (a - b) % 4294967296 := rfl
theorem doV_div (a b : Int) (h : b ≠ 0) : doV 52 a b = a / b := by show (if b = 0 then 0 else a / b) = _; rw [if_neg h]
theorem doV_lsh (a b : Int) : doV 100 a b = a * 2 ^ (b % 32).toNat % 4294967296 := rfl
theorem doV_rsh (a b : Int) : doV 116 a b = a / 2 ^ (b % 32).toNat := rfl
/-- A bound for what bits make of two numbers of 32 bits. -/
theorem bits_bd (op : BinOp) (a b : Int) : 0 ≤ bits op .u32 a b ∧ bits op .u32 a b ≤ 4294967295 := by
  unfold bits
  rw [IntKind.wrap_u32']
  omega

theorem pow32 (m : Nat) (h : m < 32) : (1 : Int) ≤ 2 ^ m ∧ (2 : Int) ^ m ≤ 2147483648 := by
  have h1 : (2 : Nat) ^ m ≤ 2 ^ 31 := Nat.pow_le_pow_right (by omega) (by omega)
  have h2 : 0 < (2 : Nat) ^ m := Nat.pow_pos (by omega)
  have e : ((2 ^ m : Nat) : Int) = (2 : Int) ^ m := by simp
  omega

theorem doV_bd (k a b : Int) (h0 : 0 ≤ a) (h1 : a ≤ 4294967295) (h2 : 0 ≤ b) : 0 ≤ doV k a b ∧ doV k a b ≤ 4294967295 := by
  unfold doV
  split; · omega
  split; · omega
  split; · omega
  split
  · split
    · omega
    · exact ⟨Int.ediv_nonneg h0 h2, Int.le_trans (Int.ediv_le_self _ h0) h1⟩
  split; · exact bits_bd _ _ _
  split; · exact bits_bd _ _ _
  split; · omega
  split
  · have := (pow32 (b % 32).toNat (by omega)).1
    exact ⟨Int.ediv_nonneg h0 (by omega), Int.le_trans (Int.ediv_le_self _ h0) h1⟩
  split; · exact bits_bd _ _ _
  omega

/-! ### Digits as numbers -/
/-- What a digit's byte counts. -/
def dig (c : UInt8) : Nat := if c.toNat < 97 then c.toNat - 48 else c.toNat - 87
def val (l : List UInt8) : Nat := l.foldl (fun a c => a * 16 + dig c) 0
end Wd

/-
  What word.Text answers, for any number of 64 bits, in every world that has the table of math/bits: 0x and the number's hexadecimal digits; nothing that was there is changed.
-/
namespace Go.Proofs.YtmbgcfikpndamaaDoor
open Go.ChangeShapes Go.WideShapes Go.ChangeAt Go.RowKit

/-- What the array of 65 bytes in block g holds from place i on. -/
structure Buf (g : Nat) (w : World) (i : Nat) (suf : List UInt8) : Prop where
  cells : ∀ j, j < 65 → ∃ v : Int, w.cell? ⟨g, j, none⟩ = some (.int .u8 v)
  free : ∀ j, w.frozen? ⟨g, j, none⟩ = false
  has : ∀ j (h : j < suf.length), w.cell? ⟨g, i + j, none⟩ = some (.int .u8 (suf[j].toNat : Int))

theorem Buf.put {g : Nat} {w : World} {i : Nat} {suf : List UInt8} (h : Buf g w (i + 1) suf) (hi : i < 65) (c : UInt8) : Buf g (w.setCell ⟨g, i, none⟩ (.int .u8 (c.toNat : Int))) i (c :: suf) := by
  obtain ⟨v, hv⟩ := h.cells i hi
  refine ⟨fun j hj => ?_, fun j => ?_, fun j hj => ?_⟩
  · by_cases e : j = i
    · subst e; exact ⟨_, World.cell?_setCell_same _ _ _ hv⟩
    · rw [World.cell?_setCell_other _ _ _ _ (by simp)]; exact h.cells j hj
  · rw [World.frozen?_setCell]; exact h.free j
  · cases j with
    | zero => exact World.cell?_setCell_same _ _ _ hv
    | succ j =>
      rw [World.cell?_setCell_other _ _ _ _ (by simp), show i + (j + 1) = i + 1 + j by omega]
      exact h.has j (by simpa using hj)

end Go.Proofs.YtmbgcfikpndamaaDoor

/-
  What word.Parse answers, for any text of at most 2^62 bytes, in every world: the number whose text it is, and OK; or 0 and ErrForm, if it is no number's text. Nothing that was there is changed.
-/
namespace Go.Proofs.YtmbgcfikpndamaaDoor
open Go.ChangeShapes Go.WideShapes Go.ChangeAt Go.RowKit

end Go.Proofs.YtmbgcfikpndamaaDoor

/-
  A number's text is read as the number (word.Parse at word.Text's answers), in every world.
-/
namespace Go.Proofs.YtmbgcfikpndamaaDoor
open Go.ChangeShapes Go.WideShapes Go.ChangeAt Go.RowKit

end Go.Proofs.YtmbgcfikpndamaaDoor
/-
  The table of the operations as plain data, without any program: each operation's number, word and format; which instructions are right, and their texts.
-/
namespace Ip
open Go

structure Row where
  op : Int
  word : List UInt8
  fmt : Int
deriving DecidableEq

def rows : List Row := [⟨0, [108, 100], 2⟩, ⟨1, [108, 100, 120], 2⟩, ⟨2, [115, 116], 2⟩, ⟨3, [115, 116, 120], 2⟩, ⟨32, [97, 98, 115], 2⟩, ⟨96, [109, 101, 109], 2⟩, ⟨97, [109, 101, 109, 120], 2⟩, ⟨5, [106, 97], 2⟩, ⟨6, [114, 101, 116], 2⟩,
  ⟨4, [97, 100, 100], 3⟩, ⟨20, [115, 117, 98], 3⟩, ⟨36, [109, 117, 108], 3⟩, ⟨52, [100, 105, 118], 3⟩, ⟨68, [111, 114], 3⟩, ⟨84, [97, 110, 100], 3⟩, ⟨100, [108, 115, 104], 3⟩, ⟨116, [114, 115, 104], 3⟩, ⟨164, [120, 111, 114], 3⟩,
  ⟨12, [97, 100, 100, 120], 1⟩, ⟨28, [115, 117, 98, 120], 1⟩, ⟨44, [109, 117, 108, 120], 1⟩, ⟨60, [100, 105, 118, 120], 1⟩, ⟨76, [111, 114, 120], 1⟩, ⟨92, [97, 110, 100, 120], 1⟩, ⟨108, [108, 115, 104, 120], 1⟩, ⟨124, [114, 115, 104, 120], 1⟩, ⟨172, [120, 111, 114, 120], 1⟩,
  ⟨132, [110, 101, 103], 0⟩, ⟨7, [116, 97, 120], 0⟩, ⟨135, [116, 120, 97], 0⟩, ⟨22, [114, 101, 116, 97], 0⟩,
  ⟨21, [106, 101, 113], 5⟩, ⟨37, [106, 103, 116], 5⟩, ⟨53, [106, 103, 101], 5⟩, ⟨69, [106, 115, 101, 116], 5⟩,
  ⟨29, [106, 101, 113, 120], 4⟩, ⟨45, [106, 103, 116, 120], 4⟩, ⟨61, [106, 103, 101, 120], 4⟩, ⟨77, [106, 115, 101, 116, 120], 4⟩]

def Row.str (r : Row) : ByteArray := ⟨r.word.toArray⟩
def Row.val (r : Row) : Value := .agg #[.int .i64 r.op, .string r.str, .int .i64 r.fmt]
/-- The cells of the whole table. -/
def cellsL : List Value := rows.flatMap fun r => [.int .i64 r.op, .string r.str, .int .i64 r.fmt]
def hasK (f : Int) : Bool := f == 2 || f == 3 || f == 5
def hasJ (f : Int) : Bool := f == 4 || f == 5
def byOp (k : Int) : Option Row := rows.find? fun r => r.op == k
def zeroRow : Row := ⟨0, [], 0⟩
def isJ (n : Int) : Bool := decide (0 ≤ n) && decide (n ≤ 255)
/-- Does a format allow these fields? -/
def fits (f jt jf k : Int) : Bool := (hasK f || k == 0) && (if hasJ f then isJ jt && isJ jf else jt == 0 && jf == 0)
theorem row_bd : ∀ r ∈ rows, 0 ≤ r.op ∧ r.op ≤ 172 := by decide
theorem byOp_bd (k : Int) : 0 ≤ ((byOp k).getD zeroRow).op ∧ ((byOp k).getD zeroRow).op ≤ 172 := by
  cases h : byOp k with
  | none => decide
  | some r => exact row_bd r (List.mem_of_find?_eq_some h)
theorem byOp_op {k : Int} {r : Row} (h : byOp k = some r) : r ∈ rows ∧ r.op = k := ⟨List.mem_of_find?_eq_some h, by simpa using List.find?_some h⟩
/-- A row's arithmetic: its kind, whether it is with X, and whether there is any. -/
def aluK (r : Row) : Int := if r.fmt == 3 then r.op else if r.fmt == 1 then r.op - 8 else 0
/-- The row at a place. -/
def rowAt (i : Nat) : Row := rows.getD i zeroRow
def cells : Array Value := cellsL.toArray
theorem rows_len : rows.length = 39 := rfl
theorem find_some {p : Row → Bool} {i : Nat} (hi : i < 39) (h : p (rowAt i) = true) (ha : ∀ j, j < i → p (rowAt j) = false) : rows.find? p = some (rowAt i) := by
  rw [List.find?_eq_some_iff_getElem]
  have e : ∀ j (hj : j < rows.length), rows[j] = rowAt j := fun j hj => by simp [rowAt, List.getD, hj]
  refine ⟨h, i, by rw [rows_len]; exact hi, e i _, fun j hj => ?_⟩
  rw [e j (by rw [rows_len]; omega), ha j hj]
  rfl
theorem find_none {p : Row → Bool} (ha : ∀ j, j < 39 → p (rowAt j) = false) : rows.find? p = none := by
  rw [List.find?_eq_none]
  intro r hr
  obtain ⟨j, hj, rfl⟩ := List.getElem_of_mem hr
  have e : rows[j] = rowAt j := by simp [rowAt, List.getD, hj]
  rw [e, ha j (by rw [rows_len] at hj; exact hj)]
  simp
end Ip

/-
  The small tests on an operation (package ins): hasK, hasJumps, isJump, fits; behind.
-/
namespace Go.Proofs.YtmbgcfikpndamaaDoor
open Go.ChangeShapes Go.WideShapes Go.ChangeAt Go.RowKit
set_option maxRecDepth 20000

theorem hasK_any (o : Int) (s : ByteArray) (f : Int) (w : World) :
    Calls Tryd.prog 54 #[.agg #[.int .i64 o, .string s, .int .i64 f]] w fun e w' => e = .returned (.bool (Ip.hasK f)) ∧ w.alloc (Obj.cells #[.int .i64 o, .string s, .int .i64 f] 73) = w' := by
  go_enter Tryd.func54, Tryd.ntmps54
  go_wp2
  all_goals go_ret
  all_goals refine ⟨ret1 ?_, ?_⟩
  all_goals simp_all [Ip.hasK]
theorem hasJ_any (o : Int) (s : ByteArray) (f : Int) (w : World) :
    Calls Tryd.prog 38 #[.agg #[.int .i64 o, .string s, .int .i64 f]] w fun e w' => e = .returned (.bool (Ip.hasJ f)) ∧ w.alloc (Obj.cells #[.int .i64 o, .string s, .int .i64 f] 73) = w' := by
  go_enter Tryd.func38, Tryd.ntmps38
  go_wp2
  all_goals go_ret
  all_goals refine ⟨ret1 ?_, ?_⟩
  all_goals simp_all [Ip.hasJ]
theorem isJ_any (n : Int) (w : World) :
    Calls Tryd.prog 55 #[.int .i64 n] w fun e w' => e = .returned (.bool (Ip.isJ n)) ∧ w = w' := by
  go_enter Tryd.func55, Tryd.ntmps55
  go_wp2
  all_goals go_ret
  all_goals refine ⟨ret1 ?_, rfl⟩
  all_goals simp_all [Ip.isJ]
  omega

set_option maxHeartbeats 2000000 in
theorem fits_any (o : Int) (s : ByteArray) (f op jt jf k : Int) (w : World) :
    Calls Tryd.prog 40 #[.agg #[.int .i64 o, .string s, .int .i64 f], .agg #[.int .i64 op, .int .i64 jt, .int .i64 jf, .int .u32 k]] w fun e w' => e = .returned (.bool (Ip.fits f jt jf k)) ∧ Below w.heap.size w w' := by
  have HG : Hid (Ip.fits f jt jf k = ((Ip.hasK f || !(k != 0)) && (if Ip.hasJ f then Ip.isJ jt && Ip.isJ jf else jt == 0 && jf == 0))) := Lib.hid (by simp [Ip.fits, bne])
  have go : ∀ (bK bk bJ bz bi : Bool), Ip.hasK f = bK → (k != 0) = bk → Ip.hasJ f = bJ → (jt == 0) = bz → Ip.isJ jt = bi →
      Calls Tryd.prog 40 #[.agg #[.int .i64 o, .string s, .int .i64 f], .agg #[.int .i64 op, .int .i64 jt, .int .i64 jf, .int .u32 k]] w fun e w' => e = .returned (.bool ((bK || !bk) && (if bJ then bi && Ip.isJ jf else bz && jf == 0))) ∧ Below w.heap.size w w' := by
    clear HG
    intro bK bk bJ bz bi hK hk hJ hz hi
    cases bK <;> cases bk <;> cases bJ <;> cases bz <;> cases bi
    all_goals
      go_enter Tryd.func40, Tryd.ntmps40
      go_wp2_with (first
        | (go_at_call 54; refine (hasK_any o s f _).mono ?_; rintro e w' ⟨rfl, rfl⟩)
        | (go_at_call 38; refine (hasJ_any o s f _).mono ?_; rintro e w' ⟨rfl, rfl⟩)
        | (go_at_call 55; refine (isJ_any _ _).mono ?_; rintro e w' ⟨rfl, rfl⟩))
      go_ret
      refine ⟨ret1 (by simp), ?_⟩
      repeat (first | exact Below.refl _ _ | apply ba)
  refine (go _ _ _ _ _ rfl rfl rfl rfl rfl).mono ?_
  rintro e w' ⟨rfl, hb⟩
  exact ⟨ret1 HG.out.symm, hb⟩

end Go.Proofs.YtmbgcfikpndamaaDoor

/-
  What ins.byOp and ins.byWord answer, in every world that has the table of the operations.
-/
namespace Go.Proofs.YtmbgcfikpndamaaDoor
open Go.ChangeShapes Go.WideShapes Go.ChangeAt Go.RowKit
set_option maxRecDepth 20000

/-- The world has the table of the operations. -/
def OTab (w : World) : Prop := ∃ t fr, w.heap[0]? = some (.cells Ip.cells t fr)
theorem OTab.lt {w : World} (h : OTab w) : 0 < w.heap.size := by
  obtain ⟨t, fr, h⟩ := h
  apply Nat.lt_of_not_le
  intro hle
  have e : w.heap[0]? = none := Array.getElem?_eq_none hle
  rw [e] at h
  cases h
theorem OTab.below {w w' : World} (h : OTab w) (hb : Below w.heap.size w w') : OTab w' := by
  have hl := h.lt
  obtain ⟨t, fr, h⟩ := h
  exact ⟨t, fr, (hb.block _ hl).trans h⟩
theorem OTab.alloc {w : World} (h : OTab w) (o : Obj) : OTab (w.alloc o) := h.below (ba o (Below.refl _ _))

theorem row_at (i : Nat) (hi : i < 39) (W : World) : (Instr.index 89 (.agg Ip.cells) (.int .i64 i)).run Tryd.prog W = .ok (Ip.rowAt i).val W := by
  rcases i with _ | _ | _ | _ | _ | _ | _ | _ | _ | _ | _ | _ | _ | _ | _ | _ | _ | _ | _ | _ | _ | _ | _ | _ | _ | _ | _ | _ | _ | _ | _ | _ | _ | _ | _ | _ | _ | _ | _ | i
  all_goals first | omega | kernel_rfl
theorem size_cells : (Tryd.prog.info? 89).map (·.size) = some Ip.cells.size := by kernel_rfl

set_option maxHeartbeats 1000000 in
theorem byOp_any (k : Int) (w : World) (ht : OTab w) :
    Calls Tryd.prog 37 #[.int .i64 k] w fun e w' => ∃ (r : Ip.Row) (b : Bool), e = .returned (.tuple #[.agg #[.int .i64 r.op, .string r.str, .int .i64 r.fmt], .bool b]) ∧ r = (Ip.byOp k).getD Ip.zeroRow ∧ b = (Ip.byOp k).isSome ∧ Below w.heap.size w w' := by
  have hb0 := ba (Obj.cells #[.int .i64 0, .string ⟨#[]⟩, .int .i64 0] 73) (Below.refl w.heap.size w)
  obtain ⟨t, fr, hg⟩ := ht.alloc (Obj.cells #[.int .i64 0, .string ⟨#[]⟩, .int .i64 0] 73)
  go_enter Tryd.func37, Tryd.ntmps37
  go_wp2_with (refine wpList_load_row rfl 89 _ rfl 0 rfl t _ fr _ hg Tryd.underlying89 rfl size_cells ?_)
  clear hg
  go_loopw [7] (fun i w' => ∃ n : Nat, n ≤ 39 ∧ i = .int .i64 n ∧ (∀ j, j < n → ((Ip.rowAt j).op == k) = false) ∧ Below w.heap.size w w' ∧ w'.heap[w.heap.size]? = some (.cells #[.int .i64 0, .string ⟨#[]⟩, .int .i64 0] 73 (0, 0))) (fun i _ => 39 - (intOf i).toNat)
  case atStart => exact ⟨0, by omega, rfl, fun j hj => by omega, hb0, heap_alloc_new _ _⟩
  case round =>
    obtain ⟨n, hn, rfl, hno, hB, hH⟩ := hrel
    have NO := Lib.hid hno
    have HB := Lib.hid hB
    have HH := Lib.hid hH
    have hsz := lt_of_block hH
    have c0 : wr.cell? ⟨w.heap.size, 0, none⟩ = some (.int .i64 0) := cell_in hH 0
    have c1 : wr.cell? ⟨w.heap.size, 1, none⟩ = some (.string ⟨#[]⟩) := cell_in hH 1
    have c2 : wr.cell? ⟨w.heap.size, 2, none⟩ = some (.int .i64 0) := cell_in hH 2
    have f0 := free_in hH 0
    have f1 := free_in hH 1
    have f2 := free_in hH 2
    clear hno hB hH hb0
    by_cases hlt : n < 39
    · have hix : ∀ W, (Instr.index 89 (.agg Ip.cells) (.int .i64 n)).run Tryd.prog W = .ok (.agg #[.int .i64 (Ip.rowAt n).op, .string (Ip.rowAt n).str, .int .i64 (Ip.rowAt n).fmt]) W := row_at n hlt
      cases hop : ((Ip.rowAt n).op == k)
      · clear c0 c1 c2 f0 f1 f2
        go_wp2
        refine ⟨⟨n + 1, by omega, by go_num, fun j hj => ?_, ba _ HB.out, (Below.heap_alloc _ _ _ hsz).trans HH.out⟩, by simp [intOf]; omega⟩
        by_cases hj' : j < n
        · exact NO.out j hj'
        · obtain rfl : j = n := by omega
          exact hop
      · go_wp2
        (try simp only [Exit.inBlock, Exit.then])
        refine bodyPost_ret (v := .tuple #[.agg #[.int .i64 (Ip.rowAt n).op, .string (Ip.rowAt n).str, .int .i64 (Ip.rowAt n).fmt], .bool true]) ?_ rfl ⟨Ip.rowAt n, true, rfl, ?_, ?_, ?_⟩
        · rw [results_cell_tmp rfl]
          go_simp
        · rw [show Ip.byOp k = some (Ip.rowAt n) from Ip.find_some hlt hop NO.out]
          rfl
        · rw [show Ip.byOp k = some (Ip.rowAt n) from Ip.find_some hlt hop NO.out]
          rfl
        · have hB := HB.out
          go_grown
    · go_wp2
      (try simp only [Exit.inBlock, Exit.then])
      refine bodyPost_ret (v := .tuple #[.agg #[.int .i64 0, .string ⟨#[]⟩, .int .i64 0], .bool false]) ?_ rfl ⟨Ip.zeroRow, false, rfl, ?_, ?_, ?_⟩
      · rw [results_cell_tmp rfl]
        go_simp
      · rw [show Ip.byOp k = none from Ip.find_none (fun j hj => NO.out j (by omega))]
        rfl
      · rw [show Ip.byOp k = none from Ip.find_none (fun j hj => NO.out j (by omega))]
        rfl
      · have hB := HB.out
        go_grown

end Go.Proofs.YtmbgcfikpndamaaDoor

/-
  What ins.Right answers, for any instruction, in every world that has the tables.
-/
namespace Go.Proofs.YtmbgcfikpndamaaDoor
open Go.ChangeShapes Go.WideShapes Go.ChangeAt Go.RowKit

/-- An instruction's block. -/
abbrev insB (op jt jf k : Int) : Obj := .cells #[.int .i64 op, .int .i64 jt, .int .i64 jf, .int .u32 k] 30
abbrev insV (op jt jf k : Int) : Value := .agg #[.int .i64 op, .int .i64 jt, .int .i64 jf, .int .u32 k]

/-- Is it right? -/
def right (op jt jf k : Int) : Bool := (Ip.byOp op).isSome && Ip.fits ((Ip.byOp op).getD Ip.zeroRow).fmt jt jf k

theorem right_any (op jt jf k : Int) (w : World) (ht : OTab w) :
    Calls Tryd.prog 29 #[insV op jt jf k] w fun e w' => e = .returned (.bool (right op jt jf k)) ∧ Below w.heap.size w w' := by
  have HG : Hid (right op jt jf k = ((Ip.byOp op).isSome && Ip.fits ((Ip.byOp op).getD Ip.zeroRow).fmt jt jf k)) := Lib.hid rfl
  have hb := ba (insB op jt jf k) (Below.refl w.heap.size w)
  have hH : (w.alloc (insB op jt jf k)).heap[w.heap.size]? = some (insB op jt jf k) := heap_alloc_new _ _
  have ht1 := ht.alloc (insB op jt jf k)
  go_enter Tryd.func29, Tryd.ntmps29
  go_wp2_with fail
  refine (byOp_any op _ ht1).mono ?_
  rintro e w1 ⟨r, b, rfl, hr, hbb, hB⟩
  rw [← hr, ← hbb] at HG
  have hH1 : w1.heap[w.heap.size]? = some (insB op jt jf k) := (hB.block _ (lt_of_block hH)).trans hH
  have hsz := lt_of_block hH1
  have c0 : w1.cell? ⟨w.heap.size, 0, none⟩ = some (.int .i64 op) := cell_in hH1 0
  have c1 : w1.cell? ⟨w.heap.size, 1, none⟩ = some (.int .i64 jt) := cell_in hH1 1
  have c2 : w1.cell? ⟨w.heap.size, 2, none⟩ = some (.int .i64 jf) := cell_in hH1 2
  have c3 : w1.cell? ⟨w.heap.size, 3, none⟩ = some (.int .u32 k) := cell_in hH1 3
  have HB := Lib.hid (hb.trans (hB.mono hb.size))
  clear hr hbb hB hH hH1 hb ht1
  cases b
  · go_wp2_with fail
    go_ret
    exact ⟨ret1 HG.out.symm, ba _ HB.out⟩
  · go_wp2_with fail
    refine (fits_any _ _ _ _ _ _ _ _).mono ?_
    rintro e w2 ⟨rfl, hB2⟩
    go_wp2_with fail
    go_ret
    refine ⟨ret1 HG.out.symm, ?_⟩
    have h := ba (.cells #[.int .i64 r.op, .string r.str, .int .i64 r.fmt] 73) HB.out
    exact h.trans (hB2.mono h.size)
end Go.Proofs.YtmbgcfikpndamaaDoor

/-
  What ins.Branch and Ends answer, for any instruction, in every world that has the tables.
-/
namespace Go.Proofs.YtmbgcfikpndamaaDoor
open Go.ChangeShapes Go.WideShapes Go.ChangeAt Go.RowKit

theorem ends_any (op jt jf k : Int) (w : World) :
    Calls Tryd.prog 47 #[insV op jt jf k] w fun e w' => e = .returned (.bool (op == 6 || op == 22)) ∧ Below w.heap.size w w' := by
  have hb := ba (insB op jt jf k) (Below.refl w.heap.size w)
  have go : ∀ b : Bool, (op == 6) = b → Calls Tryd.prog 47 #[insV op jt jf k] w fun e w' => e = .returned (.bool (b || op == 22)) ∧ Below w.heap.size w w' := by
    intro b h
    cases b
    · go_enter Tryd.func47, Tryd.ntmps47
      go_wp2
      go_ret
      exact ⟨rfl, hb⟩
    · go_enter Tryd.func47, Tryd.ntmps47
      go_wp2
      go_ret
      exact ⟨rfl, hb⟩
  exact go _ rfl

def isBranch (op : Int) : Bool := (Ip.byOp op).isSome && Ip.hasJ ((Ip.byOp op).getD Ip.zeroRow).fmt
theorem branch_any (op jt jf k : Int) (w : World) (ht : OTab w) :
    Calls Tryd.prog 23 #[insV op jt jf k] w fun e w' => e = .returned (.bool (isBranch op)) ∧ Below w.heap.size w w' := by
  have HG : Hid (isBranch op = ((Ip.byOp op).isSome && Ip.hasJ ((Ip.byOp op).getD Ip.zeroRow).fmt)) := Lib.hid rfl
  have hb := ba (insB op jt jf k) (Below.refl w.heap.size w)
  have hH : (w.alloc (insB op jt jf k)).heap[w.heap.size]? = some (insB op jt jf k) := heap_alloc_new _ _
  have ht1 := ht.alloc (insB op jt jf k)
  go_enter Tryd.func23, Tryd.ntmps23
  go_wp2_with fail
  refine (byOp_any op _ ht1).mono ?_
  rintro e w1 ⟨r, b, rfl, hr, hbb, hB⟩
  rw [← hr, ← hbb] at HG
  have hH1 : w1.heap[w.heap.size]? = some (insB op jt jf k) := (hB.block _ (lt_of_block hH)).trans hH
  have hsz := lt_of_block hH1
  have HB := Lib.hid (hb.trans (hB.mono hb.size))
  clear hr hbb hB hH hH1 hb ht1
  cases b
  · go_wp2_with fail
    go_ret
    exact ⟨ret1 HG.out.symm, ba _ HB.out⟩
  · go_wp2_with fail
    refine (hasJ_any _ _ _ _).mono ?_
    rintro e w2 ⟨rfl, rfl⟩
    go_wp2_with fail
    go_ret
    exact ⟨ret1 HG.out.symm, ba _ (ba _ HB.out)⟩
end Go.Proofs.YtmbgcfikpndamaaDoor

/-
  What ins.Alu answers, for any instruction, in every world that has the tables.
-/
namespace Go.Proofs.YtmbgcfikpndamaaDoor
open Go.ChangeShapes Go.WideShapes Go.ChangeAt Go.RowKit

end Go.Proofs.YtmbgcfikpndamaaDoor
/-
  Rows of texts and numbers that the calls of package ins make: what ins.limits and ins.cut answer.
-/
namespace Ip
open Go
end Ip
namespace Go.Proofs.YtmbgcfikpndamaaDoor
open Go.ChangeShapes Go.WideShapes Go.ChangeAt Go.RowKit

end Go.Proofs.YtmbgcfikpndamaaDoor

/-
  A text, parted at its spaces, as plain lists: at most so many parts are cut off; and what a rune's bytes are.
-/
namespace Ip
open Go

end Ip

/-
  What operation.read answers: the instruction whose fields have these texts, or none.
-/
namespace Ip
open Go
end Ip
namespace Go.Proofs.YtmbgcfikpndamaaDoor
open Go.ChangeShapes Go.WideShapes Go.ChangeAt Go.RowKit

/-- A slice of texts that lie in old memory. -/
def Strs (w : World) (v : Value) (fs : List (List UInt8)) : Prop :=
  (fs = [] ∧ ∃ a c, v = .slice a 0 c) ∨ ∃ g off c, v = .slice (some ⟨g, off, none⟩) fs.length c ∧ fs.length ≤ c ∧ g < w.heap.size ∧ ∀ i (h : i < fs.length), w.cell? ⟨g, off + i, none⟩ = some (.string ⟨fs[i].toArray⟩)
theorem Strs.shape {w : World} {v : Value} {fs : List (List UInt8)} (h : Strs w v fs) : ∃ a c, v = .slice a fs.length c := by
  rcases h with ⟨rfl, a, c, rfl⟩ | ⟨g, off, c, rfl, _⟩
  · exact ⟨a, c, rfl⟩
  · exact ⟨_, _, rfl⟩
end Go.Proofs.YtmbgcfikpndamaaDoor
/-
  Filters as plain lists, and filters and bytes as they lie in a world.
-/
namespace Go.Proofs.YtmbgcfikpndamaaDoor
open Go.ChangeShapes Go.WideShapes Go.ChangeAt Go.RowKit

/-- An instruction, plainly. -/
structure X4 where
  op : Int
  jt : Int
  jf : Int
  k : Int
deriving DecidableEq
/-- Its four cells. -/
abbrev X4.cells (x : X4) : List Value := [.int .i64 x.op, .int .i64 x.jt, .int .i64 x.jf, .int .u32 x.k]
abbrev X4.val (x : X4) : Value := insV x.op x.jt x.jf x.k
def X4.right (x : X4) : Bool := Go.Proofs.YtmbgcfikpndamaaDoor.right x.op x.jt x.jf x.k
/-- Its number fits 32 bits. -/
def X4.ok (x : X4) : Prop := 0 ≤ x.k ∧ x.k ≤ 4294967295
/-- The cells of a filter. -/
def fcells (l : List X4) : List Value := l.flatMap X4.cells
theorem fcells_len (l : List X4) : (fcells l).length = l.length * 4 := by
  induction l with
  | nil => rfl
  | cons x l ih => simp [fcells, List.flatMap_cons] at ih ⊢; omega
theorem fcells_app (l m : List X4) : fcells (l ++ m) = fcells l ++ fcells m := by simp [fcells]
theorem fcells_at (l : List X4) (i : Nat) (h : i < l.length) : ∀ j, j < 4 → (fcells l)[i * 4 + j]? = (l[i]).cells[j]? := by
  induction l generalizing i with
  | nil => simp at h
  | cons x l ih =>
    intro j hj
    have e : fcells (x :: l) = x.cells ++ fcells l := by simp [fcells]
    rw [e]
    cases i with
    | zero =>
      rw [List.getElem?_append_left (by simp; omega)]
      simp
    | succ i =>
      rw [List.getElem?_append_right (by simp; omega)]
      simp only [List.getElem_cons_succ]
      rw [← ih i (by simpa using h) j hj]
      congr 1
      simp
      omega
theorem fcells_one' (l : List X4) : ∀ u ∈ fcells l, u.oneCell' = true := by
  intro u hu
  simp only [fcells, List.mem_flatMap] at hu
  obtain ⟨x, _, hx⟩ := hu
  simp [X4.cells] at hx
  rcases hx with rfl | rfl | rfl | rfl <;> rfl

/-- A filter that lies in a world. -/
def FAt (w : World) (v : Value) (l : List X4) : Prop :=
  ∃ ao cap, v = .slice ao l.length cap ∧ (l = [] ∨ ∃ b off, ao = some ⟨b, off, none⟩ ∧ b < w.heap.size ∧ ∀ i (h : i < l.length),
    w.cell? ⟨b, off + i * 4, none⟩ = some (.int .i64 (l[i]).op) ∧ w.cell? ⟨b, off + i * 4 + 1, none⟩ = some (.int .i64 (l[i]).jt) ∧ w.cell? ⟨b, off + i * 4 + 2, none⟩ = some (.int .i64 (l[i]).jf) ∧ w.cell? ⟨b, off + i * 4 + 3, none⟩ = some (.int .u32 (l[i]).k))
/-- The four cells of one instruction, in a world that has grown. -/
def C4 (w : World) (b o : Nat) (x : X4) : Prop := w.cell? ⟨b, o, none⟩ = some (.int .i64 x.op) ∧ w.cell? ⟨b, o + 1, none⟩ = some (.int .i64 x.jt) ∧ w.cell? ⟨b, o + 2, none⟩ = some (.int .i64 x.jf) ∧ w.cell? ⟨b, o + 3, none⟩ = some (.int .u32 x.k)
theorem FAt.nil (w : World) : FAt w (.slice none 0 0) [] := ⟨none, 0, rfl, .inl rfl⟩
theorem FAt.below {w w' : World} {v : Value} {l : List X4} (h : FAt w v l) (hb : Below w.heap.size w w') : FAt w' v l := by
  obtain ⟨ao, cap, rfl, h⟩ := h
  refine ⟨ao, cap, rfl, h.imp id ?_⟩
  rintro ⟨b, off, rfl, hl, hc⟩
  refine ⟨b, off, rfl, Nat.lt_of_lt_of_le hl hb.size, fun i hi => ?_⟩
  obtain ⟨c0, c1, c2, c3⟩ := hc i hi
  exact ⟨(hb.cell (p := ⟨b, _, none⟩) hl).trans c0, (hb.cell (p := ⟨b, _, none⟩) hl).trans c1, (hb.cell (p := ⟨b, _, none⟩) hl).trans c2, (hb.cell (p := ⟨b, _, none⟩) hl).trans c3⟩
theorem FAt.of_cells {w : World} {b off cap : Nat} {l : List X4} (hb : l ≠ [] → b < w.heap.size) (h : ∀ i u, (fcells l)[i]? = some u → w.cell? ⟨b, off + i, none⟩ = some u) : FAt w (.slice (some ⟨b, off, none⟩) l.length cap) l := by
  refine ⟨_, _, rfl, ?_⟩
  by_cases h0 : l = []
  · exact .inl h0
  · refine .inr ⟨b, off, rfl, hb h0, fun i hi => ⟨?_, ?_, ?_, ?_⟩⟩
    · have := fcells_at l i hi 0 (by omega)
      exact h _ _ this
    · have := fcells_at l i hi 1 (by omega)
      rw [Nat.add_assoc]
      exact h _ _ this
    · have := fcells_at l i hi 2 (by omega)
      rw [Nat.add_assoc]
      exact h _ _ this
    · have := fcells_at l i hi 3 (by omega)
      rw [Nat.add_assoc]
      exact h _ _ this
theorem FAt.own {w : World} {base : Nat} {e : TypeId} {v : Value} {n : Nat} {l : List X4} (h : w.ownsRow base e 4 v n (fcells l)) (hn : n = l.length) : FAt w v l := by
  subst hn
  rcases h.2 with ⟨rfl, h0⟩ | ⟨g, cap, cur, rfl, _, hg, _, _, _, ht⟩
  · obtain rfl := List.length_eq_zero_iff.1 h0
    exact FAt.nil w
  · refine FAt.of_cells (fun _ => lt_of_block hg) fun i u hu => ?_
    rw [Nat.zero_add, cell_in hg i, ← Array.getElem?_toList]
    have hi := (List.getElem?_eq_some_iff.1 hu).1
    rw [fcells_len] at hi
    rw [← ht, List.getElem?_take, if_pos (by omega)] at hu
    exact hu

end Go.Proofs.YtmbgcfikpndamaaDoor
/-
  An instruction's text as its parts with spaces between them: parts are cut as they were joined; unlike instructions have unlike texts. Plain lists, without any program.
-/
namespace Ip
open Go

end Ip

/-
  The document's own table of instructions (package hurdleref02), as plain lists, and how it stands to the program's table.
-/
namespace Ip
open Go

/-- The operations in the document's order, and their words. -/
def refOps : List Int := [0, 1, 2, 3, 4, 20, 36, 52, 68, 84, 100, 116, 164, 12, 28, 44, 60, 76, 92, 108, 124, 172, 132, 7, 135, 32, 96, 97, 5, 6, 22, 21, 37, 53, 69, 29, 45, 61, 77]
def refWords : List (List UInt8) := [[108, 100], [108, 100, 120], [115, 116], [115, 116, 120], [97, 100, 100], [115, 117, 98], [109, 117, 108], [100, 105, 118], [111, 114], [97, 110, 100], [108, 115, 104], [114, 115, 104], [120, 111, 114], [97, 100, 100, 120], [115, 117, 98, 120], [109, 117, 108, 120], [100, 105, 118, 120], [111, 114, 120], [97, 110, 100, 120], [108, 115, 104, 120], [114, 115, 104, 120], [120, 111, 114, 120], [110, 101, 103], [116, 97, 120], [116, 120, 97], [97, 98, 115], [109, 101, 109], [109, 101, 109, 120], [106, 97], [114, 101, 116], [114, 101, 116, 97], [106, 101, 113], [106, 103, 116], [106, 103, 101], [106, 115, 101, 116], [106, 101, 113, 120], [106, 103, 116, 120], [106, 103, 101, 120], [106, 115, 101, 116, 120]]
/-- The place of an operation; below 0: it is none. -/
def plc (k : Int) : Int := match refOps.findIdx? (· == k) with
  | some i => (i : Int)
  | none => -1
def plainB (i : Int) : Bool := (decide (13 ≤ i) && decide (i ≤ 24)) || (i == 30) || decide (35 ≤ i)
def branchB (i : Int) : Bool := decide (31 ≤ i)
/-- The program's row at a place of the document's. -/
def refRow (i : Nat) : Row := (byOp (refOps.getD i 0)).getD zeroRow
theorem ref_all : ∀ i, i < 39 → (byOp (refOps.getD i 0)).isSome = true ∧ (refRow i).op = refOps.getD i 0 ∧ (refRow i).word = refWords.getD i [] ∧ hasK (refRow i).fmt = !plainB i ∧ hasJ (refRow i).fmt = branchB i ∧ ((refRow i).fmt == 3) = (decide (4 ≤ i) && decide (i ≤ 12)) ∧ ((refRow i).fmt == 1) = (decide (13 ≤ i) && decide (i ≤ 21)) := by decide
theorem ref_only : ∀ r ∈ rows, refOps.contains r.op = true := by decide
theorem plc_at {i : Nat} (hi : i < 39) {k : Int} (h : (refOps.getD i 0 == k) = true) (ha : ∀ j, j < i → (refOps.getD j 0 == k) = false) : plc k = i := by
  have e : refOps.findIdx? (· == k) = some i := by
    rw [List.findIdx?_eq_some_iff_getElem]
    have hl : refOps.length = 39 := rfl
    refine ⟨by omega, ?_, fun j hj => ?_⟩
    · simpa [List.getD, hl, hi] using h
    · have := ha j hj
      simpa [List.getD, hl, show j < 39 by omega] using this
  unfold plc
  rw [e]
theorem plc_none {k : Int} (ha : ∀ j, j < 39 → (refOps.getD j 0 == k) = false) : plc k = -1 := by
  have e : refOps.findIdx? (· == k) = none := by
    rw [List.findIdx?_eq_none_iff]
    intro x hx
    obtain ⟨j, hj, rfl⟩ := List.getElem_of_mem hx
    have hl : refOps.length = 39 := rfl
    have := ha j (by omega)
    simpa [List.getD, hl, show j < 39 by omega] using this
  unfold plc
  rw [e]
/-- By an operation: a place with its row, or neither. -/
theorem plc_cases (k : Int) : (∃ i : Nat, i < 39 ∧ plc k = i ∧ k = refOps.getD i 0 ∧ byOp k = some (refRow i) ∧ refRow i ∈ rows) ∨ (plc k = -1 ∧ byOp k = none) := by
  cases h : refOps.findIdx? (· == k) with
  | some i =>
    rw [List.findIdx?_eq_some_iff_getElem] at h
    obtain ⟨hi, h1, h2⟩ := h
    have hl : refOps.length = 39 := rfl
    have hi' : i < 39 := by omega
    have hk : refOps.getD i 0 = k := by simpa [List.getD, hl, hi'] using h1
    refine .inl ⟨i, hi', ?_, hk.symm, ?_, ?_⟩
    · apply plc_at hi' (by simpa using hk)
      intro j hj
      have := h2 j hj
      simpa [List.getD, hl, show j < 39 by omega] using this
    · have h3 := (ref_all i hi').1
      rw [hk] at h3
      unfold refRow
      rw [hk]
      cases hb : byOp k with
      | none => rw [hb] at h3; cases h3
      | some r => rfl
    · have h3 := (ref_all i hi').1
      unfold refRow
      cases hb : byOp (refOps.getD i 0) with
      | none => rw [hb] at h3; cases h3
      | some r => exact (byOp_op hb).1
  | none =>
    refine .inr ⟨by unfold plc; rw [h], ?_⟩
    rw [List.findIdx?_eq_none_iff] at h
    cases hb : byOp k with
    | none => rfl
    | some r =>
      obtain ⟨hr, rfl⟩ := byOp_op hb
      have h1 := ref_only r hr
      have h2 := h r.op (by simpa using h1)
      simp at h2
end Ip

/-
  The arithmetic of an operation, plainly.
-/
namespace Go.Proofs.YtmbgcfikpndamaaDoor
open Go.ChangeShapes Go.WideShapes Go.ChangeAt Go.RowKit

/-- The arithmetic of an operation: its kind, whether it is with X, and whether there is any. -/
def aluV (op : Int) : Int := if (Ip.byOp op).isSome then Ip.aluK ((Ip.byOp op).getD Ip.zeroRow) else 0
def aluX (op : Int) : Bool := (Ip.byOp op).isSome && ((Ip.byOp op).getD Ip.zeroRow).fmt == 1
def aluB (op : Int) : Bool := (Ip.byOp op).isSome && (((Ip.byOp op).getD Ip.zeroRow).fmt == 3 || ((Ip.byOp op).getD Ip.zeroRow).fmt == 1)
theorem alu_at {op : Int} {i : Nat} (hi : i < 39) (hq : op = Ip.refOps.getD i 0) (hb : Ip.byOp op = some (Ip.refRow i)) :
    (4 ≤ i → i ≤ 12 → aluV op = op ∧ aluX op = false ∧ aluB op = true) ∧ (13 ≤ i → i ≤ 21 → aluV op = op - 8 ∧ aluX op = true ∧ aluB op = true) ∧ ((i < 4 ∨ 21 < i) → aluV op = 0 ∧ aluX op = false ∧ aluB op = false) := by
  obtain ⟨_, h2, _, _, _, h6, h7⟩ := Ip.ref_all i hi
  rw [← hq] at h2
  unfold aluV aluX aluB Ip.aluK
  rw [hb]
  simp only [Option.isSome_some, Option.getD_some, Bool.true_and, if_true, h6, h7, h2]
  refine ⟨fun h h' => ?_, fun h h' => ?_, fun h => ?_⟩
  · simp [h, h', show ¬ 13 ≤ i by omega]
  · simp [h, h', show ¬ i ≤ 12 by omega]
  · rcases h with h | h
    · simp [show ¬ 4 ≤ i by omega, show ¬ 13 ≤ i by omega]
    · simp [show ¬ i ≤ 12 by omega, show ¬ i ≤ 21 by omega]
theorem alu_none {op : Int} (hb : Ip.byOp op = none) : aluV op = 0 ∧ aluX op = false ∧ aluB op = false := by
  unfold aluV aluX aluB
  rw [hb]
  exact ⟨rfl, rfl, rfl⟩
end Go.Proofs.YtmbgcfikpndamaaDoor
/-
  The document's own instructions (package hurdleref02): Ops, Words, place, plain, branch.
-/
namespace Go.Proofs.YtmbgcfikpndamaaDoor
open Go.ChangeShapes Go.WideShapes Go.ChangeAt Go.RowKit
set_option maxRecDepth 20000

def opAt (i : Nat) : Int := Ip.refOps.getD i 0
def opsC : Array Value := (Ip.refOps.map fun n => Value.int .i64 n).toArray
theorem opsC_at (i : Nat) (h : i < 39) : opsC[i]? = some (.int .i64 (opAt i)) := by
  have hl : Ip.refOps.length = 39 := rfl
  simp [opsC, opAt, List.getD, hl, h]
theorem ops_any (w : World) :
    Calls Tryd.prog 56 #[] w fun e w' => e = .returned (.slice (some ⟨w.heap.size, 0, none⟩) 39 39) ∧ w'.heap[w.heap.size]? = some (.cells opsC 3 (0, 0)) ∧ Below w.heap.size w w' := by
  go_enter Tryd.func56, Tryd.ntmps56
  go_wp2
  go_ret
  exact ⟨rfl, heap_alloc_new _ _, ba _ (Below.refl _ _)⟩
theorem plain_any (i : Int) (w : World) :
    Calls Tryd.prog 43 #[.int .i64 i] w fun e w' => e = .returned (.bool (Ip.plainB i)) ∧ w = w' := by
  go_enter Tryd.func43, Tryd.ntmps43
  go_wp2
  all_goals go_ret
  all_goals refine ⟨ret1 ?_, rfl⟩
  all_goals
    show _ = Ip.plainB i
    unfold Ip.plainB
    rw [Bool.eq_iff_iff]
    simp
    omega
theorem rbranch_any (i : Int) (w : World) :
    Calls Tryd.prog 41 #[.int .i64 i] w fun e w' => e = .returned (.bool (Ip.branchB i)) ∧ w = w' := by
  go_enter Tryd.func41, Tryd.ntmps41
  go_wp2
  go_ret
  exact ⟨rfl, rfl⟩
set_option maxHeartbeats 1000000 in
theorem place_any (k : Int) (w : World) :
    Calls Tryd.prog 42 #[.int .i64 k] w fun e w' => e = .returned (.int .i64 (Ip.plc k)) ∧ Below w.heap.size w w' := by
  go_enter Tryd.func42, Tryd.ntmps42
  go_wp2_with fail
  refine (ops_any _).mono ?_
  rintro e w1 ⟨rfl, hH, hB⟩
  have HH := Lib.hid hH
  have HB := Lib.hid hB
  clear hH hB
  go_wp2_with fail
  go_loop [4] (fun i => ∃ n : Nat, n ≤ 39 ∧ i = .int .i64 n ∧ (∀ j, j < n → (opAt j == k) = false)) (fun i => 39 - (intOf i).toNat)
  case atStart => exact ⟨0, by omega, rfl, fun j hj => by omega⟩
  case round =>
    obtain ⟨n, hn, rfl, hno⟩ := hrel
    have NO := Lib.hid hno
    clear hno
    by_cases hlt : n < 39
    · have hc : w1.cell? ⟨w.heap.size, n, none⟩ = some (.int .i64 (opAt n)) := (cell_in HH.out n).trans (opsC_at n hlt)
      cases hop : (opAt n == k)
      · go_wp2_with fail
        go_round
        case rel =>
          refine ⟨n + 1, by omega, by go_num, fun j hj => ?_⟩
          by_cases hj' : j < n
          · exact NO.out j hj'
          · obtain rfl : j = n := by omega
            exact hop
        case measure => simp [intOf]; omega
      · go_wp2_with fail
        go_ret
        exact ⟨by rw [Ip.plc_at hlt hop NO.out]; rfl, HB.out⟩
    · go_wp2_with fail
      go_ret
      exact ⟨by rw [Ip.plc_none fun j hj => NO.out j (by omega)]; rfl, HB.out⟩
end Go.Proofs.YtmbgcfikpndamaaDoor

/-
  The document's own answers on instructions (package hurdleref02): Right answers as package ins does.
-/
namespace Go.Proofs.YtmbgcfikpndamaaDoor
open Go.ChangeShapes Go.WideShapes Go.ChangeAt Go.RowKit
set_option maxRecDepth 20000

theorem place_is {k p : Int} (h : Ip.plc k = p) (w : World) :
    Calls Tryd.prog 42 #[.int .i64 k] w fun e w' => e = .returned (.int .i64 p) ∧ Below w.heap.size w w' := by
  rw [← h]
  exact place_any k w
theorem right_at {op jt jf k : Int} {i : Nat} (hi : i < 39) (hb : Ip.byOp op = some (Ip.refRow i)) : right op jt jf k = ((!Ip.plainB i || k == 0) && (if Ip.branchB i then Ip.isJ jt && Ip.isJ jf else jt == 0 && jf == 0)) := by
  obtain ⟨_, _, _, h4, h5, _⟩ := Ip.ref_all i hi
  unfold right
  rw [hb]
  show (true && Ip.fits (Ip.refRow i).fmt jt jf k) = _
  unfold Ip.fits
  rw [h4, h5, Bool.true_and]
theorem right_none {op jt jf k : Int} (hb : Ip.byOp op = none) : right op jt jf k = false := by
  unfold right
  rw [hb]
  rfl

set_option maxHeartbeats 2000000 in
theorem refRight_any (op jt jf k : Int) (w : World) :
    Calls Tryd.prog 32 #[insV op jt jf k] w fun e w' => e = .returned (.bool (right op jt jf k)) ∧ Below w.heap.size w w' := by
  have HB0 := Lib.hid (ba (insB op jt jf k) (Below.refl w.heap.size w))
  have HH0 : Hid ((w.alloc (insB op jt jf k)).heap[w.heap.size]? = some (insB op jt jf k)) := Lib.hid (heap_alloc_new _ _)
  rcases Ip.plc_cases op with ⟨i, hi, hp, hq, hb, hm⟩ | ⟨hp, hb⟩
  · have HG := Lib.hid (right_at (jt := jt) (jf := jf) (k := k) hi hb)
    have HP := Lib.hid hp
    clear hp hb hq hm
    cases hP : Ip.plainB i <;> cases hk : (k != 0) <;> cases hBr : Ip.branchB i
    all_goals
      go_enter Tryd.func32, Tryd.ntmps32
      go_wp2_with fail
      refine (place_is HP.out _).mono ?_
      rintro e w1 ⟨rfl, hb1⟩
      have hH1 := (hb1.block _ (lt_of_block HH0.out)).trans HH0.out
      have HB1 := Lib.hid (HB0.out.trans (hb1.mono HB0.out.size))
      have c1 : w1.cell? ⟨w.heap.size, 1, none⟩ = some (.int .i64 jt) := cell_in hH1 1
      have c2 : w1.cell? ⟨w.heap.size, 2, none⟩ = some (.int .i64 jf) := cell_in hH1 2
      have c3 : w1.cell? ⟨w.heap.size, 3, none⟩ = some (.int .u32 k) := cell_in hH1 3
      clear hb1 hH1
      go_wp2_with (first
        | (go_at_call 43; refine (plain_any _ _).mono ?_; rintro e w' ⟨rfl, rfl⟩)
        | (go_at_call 41; refine (rbranch_any _ _).mono ?_; rintro e w' ⟨rfl, rfl⟩))
      all_goals go_ret
      all_goals
        refine ⟨ret1 ?_, HB1.out⟩
        rw [HG.out]
        have hk' : (k == 0) = !(k != 0) := by simp [bne]
        rw [hk', hk, hP, hBr, Bool.eq_iff_iff]
        simp [Ip.isJ]
        try omega
  · have HG := Lib.hid (right_none (jt := jt) (jf := jf) (k := k) hb)
    have HP := Lib.hid hp
    clear hp hb
    go_enter Tryd.func32, Tryd.ntmps32
    go_wp2_with fail
    refine (place_is HP.out _).mono ?_
    rintro e w1 ⟨rfl, hb1⟩
    have HB1 := Lib.hid (HB0.out.trans (hb1.mono HB0.out.size))
    clear hb1
    go_wp2_with fail
    go_ret
    exact ⟨ret1 HG.out.symm, HB1.out⟩

end Go.Proofs.YtmbgcfikpndamaaDoor

/-
  The document's own answers on instructions (package hurdleref02): Branch, Ends answer as package ins does.
-/
namespace Go.Proofs.YtmbgcfikpndamaaDoor
open Go.ChangeShapes Go.WideShapes Go.ChangeAt Go.RowKit

theorem refEnds_any (op jt jf k : Int) (w : World) :
    Calls Tryd.prog 44 #[insV op jt jf k] w fun e w' => e = .returned (.bool (op == 6 || op == 22)) ∧ Below w.heap.size w w' := by
  have hb := ba (insB op jt jf k) (Below.refl w.heap.size w)
  have go : ∀ b : Bool, (op == 6) = b → Calls Tryd.prog 44 #[insV op jt jf k] w fun e w' => e = .returned (.bool (b || op == 22)) ∧ Below w.heap.size w w' := by
    intro b h
    cases b
    · go_enter Tryd.func44, Tryd.ntmps44
      go_wp2
      go_ret
      exact ⟨rfl, hb⟩
    · go_enter Tryd.func44, Tryd.ntmps44
      go_wp2
      go_ret
      exact ⟨rfl, hb⟩
  exact go _ rfl
theorem refBranch_any (op jt jf k : Int) (w : World) :
    Calls Tryd.prog 31 #[insV op jt jf k] w fun e w' => e = .returned (.bool (isBranch op)) ∧ Below w.heap.size w w' := by
  have HB0 := Lib.hid (ba (insB op jt jf k) (Below.refl w.heap.size w))
  have HG : Hid (isBranch op = Ip.branchB (Ip.plc op)) := Lib.hid (by
    rcases Ip.plc_cases op with ⟨i, hi, hp, _, hb, _⟩ | ⟨hp, hb⟩
    · unfold isBranch
      rw [hb, hp]
      exact (Ip.ref_all i hi).2.2.2.2.1
    · unfold isBranch
      rw [hb, hp]
      rfl)
  go_enter Tryd.func31, Tryd.ntmps31
  go_wp2_with fail
  refine (place_any _ _).mono ?_
  rintro e w1 ⟨rfl, hb1⟩
  have HB1 := Lib.hid (HB0.out.trans (hb1.mono HB0.out.size))
  clear hb1
  go_wp2_with fail
  refine (rbranch_any _ _).mono ?_
  rintro e w2 ⟨rfl, rfl⟩
  go_wp2_with fail
  go_ret
  exact ⟨ret1 HG.out.symm, HB1.out⟩
end Go.Proofs.YtmbgcfikpndamaaDoor

/-
  The document's own arithmetic of an instruction (hurdleref02.Alu) answers as ins.Alu does.
-/
namespace Go.Proofs.YtmbgcfikpndamaaDoor
open Go.ChangeShapes Go.WideShapes Go.ChangeAt Go.RowKit

theorem ret3s {a a' : Int} {b b' c c' : Bool} (h : a' = a ∧ b' = b ∧ c' = c) : Ending.returned (.tuple #[.int .i64 a, .bool b, .bool c]) = .returned (.tuple #[.int .i64 a', .bool b', .bool c']) := by rw [h.1, h.2.1, h.2.2]

set_option maxHeartbeats 1000000 in
theorem refAlu_any (op jt jf k : Int) (w : World) :
    Calls Tryd.prog 50 #[insV op jt jf k] w fun e w' => e = .returned (.tuple #[.int .i64 (aluV op), .bool (aluX op), .bool (aluB op)]) ∧ Below w.heap.size w w' := by
  have HB0 := Lib.hid (ba (insB op jt jf k) (Below.refl w.heap.size w))
  have HH0 : Hid ((w.alloc (insB op jt jf k)).heap[w.heap.size]? = some (insB op jt jf k)) := Lib.hid (heap_alloc_new _ _)
  rcases Ip.plc_cases op with ⟨i, hi, hp, hq, hb, hm⟩ | ⟨hp, hb⟩
  · have HP := Lib.hid hp
    have HA := Lib.hid (alu_at hi hq hb)
    have hbd := Ip.row_bd _ hm
    have h2 := (Ip.ref_all i hi).2.1
    rw [← hq] at h2
    rw [h2] at hbd
    obtain ⟨hd0, hd1⟩ := hbd
    clear hp hq hb hm h2
    by_cases h1 : 4 ≤ i ∧ i ≤ 12
    · obtain ⟨h1, h1'⟩ := h1
      go_enter Tryd.func50, Tryd.ntmps50
      go_wp2_with fail
      refine (place_is HP.out _).mono ?_
      rintro e w1 ⟨rfl, hb1⟩
      have hH1 := (hb1.block _ (lt_of_block HH0.out)).trans HH0.out
      have HB1 := Lib.hid (HB0.out.trans (hb1.mono HB0.out.size))
      have c0 : w1.cell? ⟨w.heap.size, 0, none⟩ = some (.int .i64 op) := cell_in hH1 0
      clear hb1 hH1
      go_wp2_with fail
      go_ret3
      exact ⟨ret3s (HA.out.1 h1 h1'), HB1.out⟩
    · by_cases h2 : 13 ≤ i ∧ i ≤ 21
      · obtain ⟨h2, h2'⟩ := h2
        have h1'' : ¬ i ≤ 12 := by omega
        go_enter Tryd.func50, Tryd.ntmps50
        go_wp2_with fail
        refine (place_is HP.out _).mono ?_
        rintro e w1 ⟨rfl, hb1⟩
        have hH1 := (hb1.block _ (lt_of_block HH0.out)).trans HH0.out
        have HB1 := Lib.hid (HB0.out.trans (hb1.mono HB0.out.size))
        have c0 : w1.cell? ⟨w.heap.size, 0, none⟩ = some (.int .i64 op) := cell_in hH1 0
        clear hb1 hH1
        go_wp2_with fail
        go_ret3
        exact ⟨ret3s (HA.out.2.1 h2 h2'), HB1.out⟩
      · have h3 : i < 4 ∨ 21 < i := by omega
        have HE := Lib.hid (HA.out.2.2 h3)
        clear h1 h2
        rcases h3 with h3 | h3
        all_goals
          go_enter Tryd.func50, Tryd.ntmps50
          go_wp2_with fail
          refine (place_is HP.out _).mono ?_
          rintro e w1 ⟨rfl, hb1⟩
          have HB1 := Lib.hid (HB0.out.trans (hb1.mono HB0.out.size))
          clear hb1
          go_wp2_with fail
          go_ret3
          exact ⟨ret3s HE.out, HB1.out⟩
  · have HE := Lib.hid (alu_none hb)
    have HP := Lib.hid hp
    clear hp hb
    go_enter Tryd.func50, Tryd.ntmps50
    go_wp2_with fail
    refine (place_is HP.out _).mono ?_
    rintro e w1 ⟨rfl, hb1⟩
    have HB1 := Lib.hid (HB0.out.trans (hb1.mono HB0.out.size))
    clear hb1
    go_wp2_with fail
    go_ret3
    exact ⟨ret3s HE.out, HB1.out⟩
end Go.Proofs.YtmbgcfikpndamaaDoor
/-
  A list of instructions that was just laid; its shape.
-/
namespace Go.Proofs.YtmbgcfikpndamaaDoor
open Go.ChangeShapes Go.WideShapes Go.ChangeAt Go.RowKit
set_option maxRecDepth 20000

/-- A list of instructions, and of bytes, that was just laid. -/
theorem FAt.lit (w : World) (l : List X4) (t : TypeId) (cap : Nat) : FAt (w.alloc (.cells (fcells l).toArray t)) (.slice (some ⟨w.heap.size, 0, none⟩) l.length cap) l :=
  FAt.of_cells (fun _ => by rw [size_alloc]; omega) fun i u hu => by
    rw [Nat.zero_add, cell_in (heap_alloc_new w (.cells (fcells l).toArray t)) i]
    simpa using hu
theorem FAt.shape {w : World} {v : Value} {l : List X4} (h : FAt w v l) : ∃ ao cap, v = .slice ao l.length cap := by
  obtain ⟨ao, cap, rfl, _⟩ := h
  exact ⟨ao, cap, rfl⟩
end Go.Proofs.YtmbgcfikpndamaaDoor

/-
  What codec.put answers: the row with so many bytes more.
-/
namespace Go.Proofs.YtmbgcfikpndamaaDoor
open Go.ChangeShapes Go.WideShapes Go.ChangeAt Go.RowKit
set_option maxRecDepth 20000

end Go.Proofs.YtmbgcfikpndamaaDoor

/-
  append(own, src...) where src is any filter, or any bytes, that lie in the world (nil among them).
-/
namespace Go.Proofs.YtmbgcfikpndamaaDoor
open Go.ChangeShapes Go.WideShapes Go.ChangeAt Go.RowKit

theorem FAt.src {w : World} {v : Value} {l : List X4} (h : FAt w v l) : SrcAt w 4 v l.length (fcells l) := by
  obtain ⟨ao, cap, rfl, h⟩ := h
  refine ⟨ao, cap, rfl, fcells_len l, fun h0 => ?_, fun ad had j u hu => ?_⟩
  · rcases h with rfl | ⟨b, off, rfl, _⟩
    · rfl
    · cases h0
  · rcases h with rfl | ⟨b, off, rfl, _, hc⟩
    · simp [fcells] at hu
    · cases had
      have hj : j < l.length * 4 := by rw [← fcells_len]; exact (List.getElem?_eq_some_iff.1 hu).1
      have hd : j / 4 < l.length := by omega
      have e : j = j / 4 * 4 + j % 4 := by omega
      have h4 := fcells_at l (j / 4) hd (j % 4) (by omega)
      rw [← e, hu] at h4
      obtain ⟨c0, c1, c2, c3⟩ := hc (j / 4) hd
      have hm : j % 4 < 4 := by omega
      rw [add_plain]
      generalize hr : j % 4 = r at *
      match r, hm with
      | 0, _ => rw [show off + j = off + j / 4 * 4 by omega, c0]; simpa using h4.symm
      | 1, _ => rw [show off + j = off + j / 4 * 4 + 1 by omega, c1]; simpa using h4.symm
      | 2, _ => rw [show off + j = off + j / 4 * 4 + 2 by omega, c2]; simpa using h4.symm
      | 3, _ => rw [show off + j = off + j / 4 * 4 + 3 by omega, c3]; simpa using h4.symm
end Go.Proofs.YtmbgcfikpndamaaDoor

/-
  What codec.fault answers, for any filter that lies in a world.
-/
namespace Go.Proofs.YtmbgcfikpndamaaDoor
open Go.ChangeShapes Go.WideShapes Go.ChangeAt Go.RowKit
set_option maxRecDepth 20000

end Go.Proofs.YtmbgcfikpndamaaDoor
/-
  States, as they lie in a world; what run.cell and run.withCell answer.
-/
namespace Go.Proofs.YtmbgcfikpndamaaDoor
open Go.ChangeShapes Go.WideShapes Go.ChangeAt Go.RowKit
set_option maxRecDepth 20000

/-- A state. -/
structure St where
  a : Nat
  x : Nat
  m : List Nat
deriving DecidableEq
def St.ok (s : St) : Prop := s.a ≤ 4294967295 ∧ s.x ≤ 4294967295 ∧ s.m.length = 16 ∧ ∀ v ∈ s.m, v ≤ 4294967295
def zeroSt : St := ⟨0, 0, List.replicate 16 0⟩
/-- What is in a cell; 0, if there is none. -/
def mAt (m : List Nat) (i : Nat) : Nat := m.getD i 0
/-- Its eighteen cells (not to be opened by a walk). -/
def stC (s : St) : Array Value := #[.int .u32 s.a, .int .u32 s.x, .int .u32 (mAt s.m 0), .int .u32 (mAt s.m 1), .int .u32 (mAt s.m 2), .int .u32 (mAt s.m 3), .int .u32 (mAt s.m 4), .int .u32 (mAt s.m 5), .int .u32 (mAt s.m 6), .int .u32 (mAt s.m 7), .int .u32 (mAt s.m 8), .int .u32 (mAt s.m 9), .int .u32 (mAt s.m 10), .int .u32 (mAt s.m 11), .int .u32 (mAt s.m 12), .int .u32 (mAt s.m 13), .int .u32 (mAt s.m 14), .int .u32 (mAt s.m 15)]
abbrev St.val (s : St) : Value := .agg (stC s)
abbrev stB (s : St) : Obj := .cells (stC s) 45
theorem mAt_out {m : List Nat} {k : Nat} (h : m.length ≤ k) : mAt m k = 0 := by
  unfold mAt
  rw [List.getD_eq_getElem?_getD, List.getElem?_eq_none h]
  rfl
theorem mAt_set {m : List Nat} (k v i : Nat) (hk : k < m.length) : mAt (m.set k v) i = if i = k then v else mAt m i := by
  unfold mAt
  rw [List.getD_eq_getElem?_getD, List.getD_eq_getElem?_getD]
  by_cases h : i = k
  · subst h
    rw [if_pos rfl, List.getElem?_set_self hk]
    rfl
  · rw [if_neg h, List.getElem?_set_ne (by omega)]
theorem nat16 {k : Nat} (h : k < 16) : k = 0 ∨ k = 1 ∨ k = 2 ∨ k = 3 ∨ k = 4 ∨ k = 5 ∨ k = 6 ∨ k = 7 ∨ k = 8 ∨ k = 9 ∨ k = 10 ∨ k = 11 ∨ k = 12 ∨ k = 13 ∨ k = 14 ∨ k = 15 := by omega
theorem st_a (s : St) : (stC s)[0]? = some (.int .u32 (s.a : Nat)) := rfl
theorem st_x (s : St) : (stC s)[1]? = some (.int .u32 (s.x : Nat)) := rfl
theorem st_m (s : St) {k : Nat} (h : k < 16) : (stC s)[2 + k]? = some (.int .u32 (mAt s.m k : Nat)) := by
  rcases nat16 h with rfl | rfl | rfl | rfl | rfl | rfl | rfl | rfl | rfl | rfl | rfl | rfl | rfl | rfl | rfl | rfl <;> rfl
theorem set_a (s : St) (v : Nat) : (stC s).setIfInBounds 0 (.int .u32 (v : Int)) = stC ⟨v, s.x, s.m⟩ := rfl
theorem set_x (s : St) (v : Nat) : (stC s).setIfInBounds 1 (.int .u32 (v : Int)) = stC ⟨s.a, v, s.m⟩ := rfl
theorem set_m (s : St) {k : Nat} (v : Nat) (hl : s.m.length = 16) (h : k < 16) : (stC s).setIfInBounds (2 + k) (.int .u32 (v : Int)) = stC ⟨s.a, s.x, s.m.set k v⟩ := by
  have e : ∀ i, mAt (s.m.set k v) i = if i = k then v else mAt s.m i := fun i => mAt_set k v i (by omega)
  simp only [stC, e]
  rcases nat16 h with rfl | rfl | rfl | rfl | rfl | rfl | rfl | rfl | rfl | rfl | rfl | rfl | rfl | rfl | rfl | rfl <;> rfl
theorem st_one (s : St) : (stC s).all (·.oneCell') = true := by simp [stC, Value.oneCell']
theorem st_size (s : St) : (stC s).size = 18 := rfl
theorem infoSt : (Tryd.prog.info? 45).map (·.size) = some 18 := by kernel_rfl

/-! ### Rows of a call's own: one that has been written -/
/-- 'w' is written in one row alone, which then holds 'o'. -/
structure RowPut (w w' : World) (g : Nat) (o : Obj) : Prop where
  os : w'.os = w.os
  tape : w'.tape = w.tape
  output : w'.output = w.output
  size : w'.heap.size = w.heap.size
  row : w'.heap[g]? = some o
  rest : ∀ k, k ≠ g → w'.heap[k]? = w.heap[k]?
theorem RowPut.below {w w' a : World} {g B : Nat} {o : Obj} (h : RowPut w w' g o) (hb : Below B a w) (hg : B ≤ g) : Below B a w' :=
  ⟨h.os.trans hb.os, h.tape.trans hb.tape, h.output.trans hb.output, by rw [h.size]; exact hb.size, fun k hk => (h.rest k (by omega)).trans (hb.block k hk)⟩
theorem RowPut.keep {w w' : World} {g k : Nat} {o o' : Obj} (h : RowPut w w' g o) (hk : k ≠ g) (ho : w.heap[k]? = some o') : w'.heap[k]? = some o' := (h.rest k hk).trans ho
theorem rowPut_set {w : World} {g : Nat} {old : Array Value} {t : TypeId} (hg : w.heap[g]? = some (.cells old t)) (cs : Array Value) : RowPut w (w.setRow g cs) g (.cells cs t) :=
  ⟨rfl, rfl, rfl, by unfold World.setRow; simp, setRow_heap w g old cs t (0, 0) hg, fun k hk => setRow_other w g k cs hk⟩
section
variable {ops : Array Oper} {rest : List Oper} {o : Oper} {a : Act} {w : World} {Q : Exit → Act → World → Prop}
/-- A whole state is read. -/
theorem ld_st {g : Nat} {s : St} {x : Operand} (hG : w.heap[g]? = some (stB s)) (hgd : o.guard = none) (ho : o.op = .load 45 x) (hx : a.eval x = .pointer (some ⟨g, 0, none⟩))
    (h : wpList Tryd.prog ops Q rest (a.put o.dst s.val) w) : wpList Tryd.prog ops Q (o :: rest) a w :=
  wpList_load_row hgd 45 x ho g hx 45 (stC s) (0, 0) _ hG Tryd.underlying45 rfl (by rw [st_size]; exact infoSt) h
/-- A whole state is written. -/
theorem st_st {g : Nat} {s : St} {old : Array Value} {x y : Operand} (hG : w.heap[g]? = some (.cells old 45)) (hold : old.size = 18) (hgd : o.guard = none) (ho : o.op = .store 45 x y) (hx : a.eval x = .pointer (some ⟨g, 0, none⟩)) (hy : a.eval y = s.val)
    (h : ∀ w', RowPut w w' g (stB s) → wpList Tryd.prog ops Q rest (a.put o.dst undef) w') : wpList Tryd.prog ops Q (o :: rest) a w :=
  wpList_store_row hgd 45 x y ho g (stC s) hx hy 45 old hG (by rw [st_size]; exact infoSt) (by rw [st_size]; exact hold) (st_one s) (h _ (rowPut_set hG _))
/-- One number of a state is written. -/
theorem st_fld {g i : Nat} {s s' : St} {v : Int} {x y : Operand} (hs : (stC s).setIfInBounds i (.int .u32 v) = stC s') (hG : w.heap[g]? = some (stB s)) (hi : i < 18) (hgd : o.guard = none) (ho : o.op = .store 28 x y) (hx : a.eval x = .pointer (some ⟨g, i, none⟩)) (hy : a.eval y = .int .u32 v)
    (h : ∀ w', RowPut w w' g (stB s') → wpList Tryd.prog ops Q rest (a.put o.dst undef) w') : wpList Tryd.prog ops Q (o :: rest) a w := by
  have hc : ∃ u, w.cell? ⟨g, i, none⟩ = some u := by
    rw [cell_in hG]
    exact ⟨(stC s)[i]'(by rw [st_size]; exact hi), Array.getElem?_eq_getElem _⟩
  obtain ⟨u, hu⟩ := hc
  have hf : w.frozen? ⟨g, i, none⟩ = false := free_in hG i
  have hsc : w.setCell ⟨g, i, none⟩ (.int .u32 v) = w.setRow g (stC s') := by rw [setCell_eq_setRow w g i _ _ _ _ hG, hs]
  have hk := h _ (rowPut_set hG (stC s'))
  rw [← hsc] at hk
  refine wpList_plain hgd fun K hK => ?_
  unfold Oper.wp execOp
  have hz : (sizeOf 28).run Tryd.prog w = .ok 1 w := by kernel_rfl
  simp [ho, hx, hy, Instr.storeAt, Instr.sureAddr, Sem.run_bind, storeVar, hz, Value.cells, storeCells, Result.andThen]
  have hadd : (⟨g, i, none⟩ : Addr).add 0 = ⟨g, i, none⟩ := by unfold Addr.add; split <;> simp_all
  rw [hadd, run_store _ _ _ _ _ rfl, hu]
  simp only [hf, Bool.false_eq_true, if_false]
  exact hK _ _ hk
/-- The results: a state in a cell, and a bool. -/
theorem results_st {fn : Func} {p q : Tmp} (h : fn.results = #[.cell p 45, .tmp q]) {tmps : Array Value} {g : Nat} {s : St} {b : Bool}
    (hp : tmps.getD p undef = .pointer (some ⟨g, 0, none⟩)) (hq : tmps.getD q undef = .bool b) (hG : w.heap[g]? = some (stB s)) : (results fn tmps).run Tryd.prog w = .ok (.tuple #[s.val, .bool b]) w := by
  have hp' : tmps[p]?.getD undef = .pointer (some ⟨g, 0, none⟩) := by simpa using hp
  have hq' : tmps[q]?.getD undef = .bool b := by simpa using hq
  simp [results, h, hp', hq', asAddr, run_loadVar_row w g 45 45 (stC s) (0, 0) _ hG Tryd.underlying45 rfl (by rw [st_size]; exact infoSt)]
end
theorem ka {w : World} {g : Nat} {o : Obj} (o' : Obj) (h : w.heap[g]? = some o) : (w.alloc o').heap[g]? = some o := (Below.heap_alloc w o' g (lt_of_block h)).trans h

theorem kb {w w' : World} {g : Nat} {o : Obj} (hb : Below w.heap.size w w') (h : w.heap[g]? = some o) : w'.heap[g]? = some o := (hb.block _ (lt_of_block h)).trans h
/-- Blocks that a call lays at its head. -/
theorem box2 (w : World) (A B : Obj) : ∃ W, W = (w.alloc A).alloc B ∧ W.heap[w.heap.size]? = some A ∧ W.heap[w.heap.size + 1]? = some B ∧ Below w.heap.size w W :=
  ⟨_, rfl, ka _ (heap_alloc_new _ _), by have h := heap_alloc_new (w.alloc A) B; rw [size_alloc] at h; exact h, ba _ (ba _ (Below.refl _ _))⟩
theorem box3 (w : World) (A B C : Obj) : ∃ W, W = ((w.alloc A).alloc B).alloc C ∧ W.heap[w.heap.size]? = some A ∧ W.heap[w.heap.size + 1]? = some B ∧ W.heap[w.heap.size + 2]? = some C ∧ Below w.heap.size w W := by
  obtain ⟨W, hW, h0, h1, hb⟩ := box2 w A B
  refine ⟨_, rfl, ?_, ?_, ?_, ?_⟩
  · rw [← hW]; exact ka _ h0
  · rw [← hW]; exact ka _ h1
  · have h := heap_alloc_new ((w.alloc A).alloc B) C
    rw [size_alloc, size_alloc] at h
    exact h
  · rw [← hW]; exact ba _ hb
theorem box4 (w : World) (A B C D : Obj) : ∃ W, W = (((w.alloc A).alloc B).alloc C).alloc D ∧ W.heap[w.heap.size]? = some A ∧ W.heap[w.heap.size + 1]? = some B ∧ W.heap[w.heap.size + 2]? = some C ∧ W.heap[w.heap.size + 3]? = some D ∧ Below w.heap.size w W := by
  obtain ⟨W, hW, h0, h1, h2, hb⟩ := box3 w A B C
  refine ⟨_, rfl, ?_, ?_, ?_, ?_, ?_⟩
  · rw [← hW]; exact ka _ h0
  · rw [← hW]; exact ka _ h1
  · rw [← hW]; exact ka _ h2
  · have h := heap_alloc_new (((w.alloc A).alloc B).alloc C) D
    rw [size_alloc, size_alloc, size_alloc] at h
    exact h
  · rw [← hW]; exact ba _ hb

theorem st_zero : (#[.int .u32 0, .int .u32 0, .int .u32 0, .int .u32 0, .int .u32 0, .int .u32 0, .int .u32 0, .int .u32 0, .int .u32 0, .int .u32 0, .int .u32 0, .int .u32 0, .int .u32 0, .int .u32 0, .int .u32 0, .int .u32 0, .int .u32 0, .int .u32 0] : Array Value) = stC zeroSt := rfl
end Go.Proofs.YtmbgcfikpndamaaDoor
/-
  Which filters are sound, plainly: the error of one instruction, of a filter, and where a run may go.
-/
namespace Go.Proofs.YtmbgcfikpndamaaDoor
open Go.RowKit

def endsE (x : X4) : Bool := x.op == 6 || x.op == 22
/-- The error of an instruction that so many follow. -/
def oneE (x : X4) (left : Int) : Int :=
  if !x.right then 1
  else if x.op == 32 && (x.k % 4 != 0 || decide (60 < x.k)) then 6
  else if (x.op == 2 || x.op == 3 || x.op == 96 || x.op == 97) && decide (15 < x.k) then 7
  else if x.op == 52 && x.k == 0 then 8
  else if (x.op == 100 || x.op == 116) && decide (31 < x.k) then 1
  else if x.op == 5 && decide (left ≤ x.k) then 4
  else if isBranch x.op && (decide (left ≤ x.jt) || decide (left ≤ x.jf)) then 4
  else 0
def zeroX : X4 := ⟨0, 0, 0, 0⟩
/-- The error at a place of a filter. -/
def badAt (l : List X4) (i : Nat) : Int := oneE (l.getD i zeroX) ((l.length : Int) - 1 - i)
/-- All places ahead of one are right. -/
def goodTo (l : List X4) (n : Nat) : Prop := ∀ i, i < n → badAt l i = 0
def lastX (l : List X4) : X4 := l.getD (l.length - 1) zeroX
/-- What comes of a filter: the place, and the error. -/
def CheckIs (l : List X4) (p e : Int) : Prop :=
  (l.length = 0 ∧ p = 0 ∧ e = 5) ∨ (4096 < l.length ∧ p = 0 ∧ e = 3) ∨
  (0 < l.length ∧ l.length ≤ 4096 ∧ ∃ i : Nat, i < l.length ∧ goodTo l i ∧ badAt l i ≠ 0 ∧ p = i ∧ e = badAt l i) ∨
  (0 < l.length ∧ l.length ≤ 4096 ∧ goodTo l l.length ∧ endsE (lastX l) = false ∧ p = (l.length : Int) - 1 ∧ e = 5) ∨
  (0 < l.length ∧ l.length ≤ 4096 ∧ goodTo l l.length ∧ endsE (lastX l) = true ∧ p = 0 ∧ e = 0)
/-- A sound filter. -/
def SoundL (l : List X4) : Prop := 0 < l.length ∧ l.length ≤ 4096 ∧ goodTo l l.length ∧ endsE (lastX l) = true
theorem sound_iff {l : List X4} {p e : Int} (h : CheckIs l p e) : e = 0 ↔ SoundL l := by
  unfold SoundL
  rcases h with ⟨a, rfl, rfl⟩ | ⟨a, rfl, rfl⟩ | ⟨a, b, i, hi, hg, hb, rfl, rfl⟩ | ⟨a, b, hg, he, rfl, rfl⟩ | ⟨a, b, hg, he, rfl, rfl⟩
  · constructor
    · intro h; omega
    · intro h; omega
  · constructor
    · intro h; omega
    · intro h; omega
  · constructor
    · intro h; exact absurd h hb
    · intro h; exact absurd (h.2.2.1 i hi) hb
  · constructor
    · intro h; omega
    · intro h; rw [he] at h; cases h.2.2.2
  · exact ⟨fun _ => ⟨a, b, hg, he⟩, fun _ => rfl⟩
/-- Nothing hangs on the filter but how many follow. -/
theorem one_right {x : X4} {n : Int} (h : oneE x n = 0) : x.right = true := by
  unfold oneE at h
  cases hr : x.right
  · rw [hr] at h; simp at h
  · rfl
theorem one_more {x : X4} {m n : Int} (h : oneE x m = 0) (hmn : m ≤ n) : oneE x n = 0 := by
  have hr := one_right h
  unfold oneE at h ⊢
  simp only [hr, Bool.not_true, Bool.false_eq_true, if_false] at h ⊢
  generalize (x.op == 32 && (x.k % 4 != 0 || decide (60 < x.k))) = c1 at h ⊢
  generalize ((x.op == 2 || x.op == 3 || x.op == 96 || x.op == 97) && decide (15 < x.k)) = c2 at h ⊢
  generalize (x.op == 52 && x.k == 0) = c3 at h ⊢
  generalize ((x.op == 100 || x.op == 116) && decide (31 < x.k)) = c4 at h ⊢
  cases c1 <;> cases c2 <;> cases c3 <;> cases c4 <;> simp only [if_true, if_false, Bool.false_eq_true] at h ⊢ <;> try (exact absurd h (by decide))
  by_cases a : (x.op == 5 && decide (m ≤ x.k)) = true
  · rw [if_pos a] at h
    exact absurd h (by decide)
  rw [if_neg a] at h
  by_cases b : (isBranch x.op && (decide (m ≤ x.jt) || decide (m ≤ x.jf))) = true
  · rw [if_pos b] at h
    exact absurd h (by decide)
  rw [if_neg, if_neg]
  · intro b'
    apply b
    simp only [Bool.and_eq_true, Bool.or_eq_true, decide_eq_true_eq] at b' ⊢
    exact ⟨b'.1, b'.2.imp (fun h => by omega) (fun h => by omega)⟩
  · intro a'
    apply a
    simp only [Bool.and_eq_true, decide_eq_true_eq] at a' ⊢
    exact ⟨a'.1, by omega⟩
end Go.Proofs.YtmbgcfikpndamaaDoor

/-
  The conditions of package check, one by one: what readsWord, hasCell, hasDivisor, hasShift, jumpsInside and branchesInside answer.
-/
namespace Go.Proofs.YtmbgcfikpndamaaDoor
open Go.ChangeShapes Go.WideShapes Go.ChangeAt Go.RowKit
set_option maxRecDepth 20000

theorem hasCell_any (op jt jf k n : Int) (w : World) :
    Calls Tryd.prog 59 #[insV op jt jf k, .int .i64 n] w fun e w' => e = .returned (.bool (decide (k < 16))) ∧ Below w.heap.size w w' := by
  have hb := ba (insB op jt jf k) (Below.refl w.heap.size w)
  go_enter Tryd.func59, Tryd.ntmps59
  go_wp2
  go_ret
  exact ⟨rfl, hb⟩
theorem hasShift_any (op jt jf k n : Int) (w : World) :
    Calls Tryd.prog 61 #[insV op jt jf k, .int .i64 n] w fun e w' => e = .returned (.bool (decide (k < 32))) ∧ Below w.heap.size w w' := by
  have hb := ba (insB op jt jf k) (Below.refl w.heap.size w)
  go_enter Tryd.func61, Tryd.ntmps61
  go_wp2
  go_ret
  exact ⟨rfl, hb⟩
theorem hasDivisor_any (op jt jf k n : Int) (w : World) :
    Calls Tryd.prog 60 #[insV op jt jf k, .int .i64 n] w fun e w' => e = .returned (.bool (k != 0)) ∧ Below w.heap.size w w' := by
  have hb := ba (insB op jt jf k) (Below.refl w.heap.size w)
  go_enter Tryd.func60, Tryd.ntmps60
  go_wp2
  go_ret
  exact ⟨rfl, hb⟩
theorem jumpsInside_any (op jt jf k n : Int) (hk : 0 ≤ k) (hk' : k ≤ 4294967295) (hn : 0 ≤ n) (hn' : n ≤ 9223372036854775807) (w : World) :
    Calls Tryd.prog 62 #[insV op jt jf k, .int .i64 n] w fun e w' => e = .returned (.bool (decide (k < n))) ∧ Below w.heap.size w w' := by
  have hb := ba (insB op jt jf k) (Below.refl w.heap.size w)
  have h1 : IntKind.u64.wrap k = k := by rw [IntKind.wrap_u64]; omega
  have h2 : IntKind.u64.wrap n = n := by rw [IntKind.wrap_u64]; omega
  go_enter Tryd.func62, Tryd.ntmps62
  go_wp2
  go_ret
  exact ⟨rfl, hb⟩
theorem readsWord_any (op jt jf k n : Int) (w : World) :
    Calls Tryd.prog 58 #[insV op jt jf k, .int .i64 n] w fun e w' => e = .returned (.bool (k.tmod 4 == 0 && decide (k < 64))) ∧ Below w.heap.size w w' := by
  have hb := ba (insB op jt jf k) (Below.refl w.heap.size w)
  go_enter Tryd.func58, Tryd.ntmps58
  go_wp2
  all_goals go_ret
  · rename_i h
    exact ⟨ret1 (by rw [h]; rfl), hb⟩
  · rename_i h
    exact ⟨ret1 (by rw [show (k.tmod 4 == 0) = false by simpa using h]; rfl), hb⟩
theorem branchesInside_any (op jt jf k n : Int) (w : World) :
    Calls Tryd.prog 63 #[insV op jt jf k, .int .i64 n] w fun e w' => e = .returned (.bool (decide (jt < n) && decide (jf < n))) ∧ Below w.heap.size w w' := by
  have hb := ba (insB op jt jf k) (Below.refl w.heap.size w)
  have go : ∀ b : Bool, decide (jt < n) = b → Calls Tryd.prog 63 #[insV op jt jf k, .int .i64 n] w fun e w' => e = .returned (.bool (b && decide (jf < n))) ∧ Below w.heap.size w w' := by
    intro b h
    cases b
    · go_enter Tryd.func63, Tryd.ntmps63
      go_wp2
      go_ret
      exact ⟨rfl, hb⟩
    · go_enter Tryd.func63, Tryd.ntmps63
      go_wp2
      go_ret
      exact ⟨rfl, hb⟩
  exact go _ rfl
end Go.Proofs.YtmbgcfikpndamaaDoor

/-
  Conditions as function values: what unless makes, and what comes of calling it.
-/
namespace Go.Proofs.YtmbgcfikpndamaaDoor
open Go.ChangeShapes Go.WideShapes Go.ChangeAt Go.RowKit
set_option maxRecDepth 20000

/-- The conditions by number: whether they hold, which function tells it, and their errors. -/
def holdsB (c : Nat) (jt jf k n : Int) : Bool := match c with
  | 1 => k.tmod 4 == 0 && decide (k < 64)
  | 2 => decide (k < 16)
  | 3 => k != 0
  | 4 => decide (k < 32)
  | 5 => decide (k < n)
  | _ => decide (jt < n) && decide (jf < n)
def fnB (c : Nat) : Nat := match c with
  | 1 => 58
  | 2 => 59
  | 3 => 60
  | 4 => 61
  | 5 => 62
  | _ => 63
def errB (c : Nat) : Int := match c with
  | 1 => 6
  | 2 => 7
  | 3 => 8
  | 4 => 1
  | _ => 4
theorem holds_any (c : Nat) (op jt jf k n : Int) (hk : 0 ≤ k) (hk' : k ≤ 4294967295) (hn : 0 ≤ n) (hn' : n ≤ 9223372036854775807) (w : World) :
    Calls Tryd.prog (fnB c) #[insV op jt jf k, .int .i64 n] w fun e w' => e = .returned (.bool (holdsB c jt jf k n)) ∧ Below w.heap.size w w' := by
  unfold fnB holdsB
  split
  · exact readsWord_any op jt jf k n w
  · exact hasCell_any op jt jf k n w
  · exact hasDivisor_any op jt jf k n w
  · exact hasShift_any op jt jf k n w
  · exact jumpsInside_any op jt jf k n hk hk' hn hn' w
  · exact branchesInside_any op jt jf k n w

/-- A condition that was made: a function value with two captured variables. -/
def CondAt (w : World) (v : Value) (c : Nat) : Prop :=
  ∃ a b : Nat, v = .func (.func 67) #[] #[.pointer (some ⟨a, 0, none⟩), .pointer (some ⟨b, 0, none⟩)] ∧ w.cell? ⟨a, 0, none⟩ = some (.func (.func (fnB c)) #[] #[]) ∧ w.cell? ⟨b, 0, none⟩ = some (.int .i64 (errB c)) ∧ a < w.heap.size ∧ b < w.heap.size
theorem CondAt.below {w w' : World} {v : Value} {c : Nat} (h : CondAt w v c) (hb : Below w.heap.size w w') : CondAt w' v c := by
  obtain ⟨a, b, rfl, ha, hb', la, lb⟩ := h
  exact ⟨a, b, rfl, (hb.cell (p := ⟨a, _, none⟩) la).trans ha, (hb.cell (p := ⟨b, _, none⟩) lb).trans hb', Nat.lt_of_lt_of_le la hb.size, Nat.lt_of_lt_of_le lb hb.size⟩
def UnlessEnd (c : Nat) (w : World) (e : Ending) (w' : World) : Prop := ∃ v, e = .returned v ∧ CondAt w' v c ∧ Below w.heap.size w w'
theorem unless_any (c : Nat) (w : World) :
    Calls Tryd.prog 57 #[.func (.func (fnB c)) #[] #[], .int .i64 (errB c)] w (UnlessEnd c w) := by
  have hmf : ∀ (fn : Fn) (first cap : Array Value) (w : World), (Instr.makeFunc fn first cap).run Tryd.prog w = .ok (.func fn first cap) w := fun _ _ _ _ => rfl
  have hend : ∀ g ev, fnB c = g → errB c = ev → UnlessEnd c w (.returned (Value.func (.func 67) #[] #[.pointer (some ⟨w.heap.size, 0, none⟩), .pointer (some ⟨w.heap.size + 1, 0, none⟩)])) ((w.alloc (.cells #[.func (.func g) #[] #[]] 97)).alloc (.cells #[.int .i64 ev] 25)) := by
    rintro _ _ rfl rfl
    refine ⟨_, rfl, ⟨w.heap.size, w.heap.size + 1, rfl, ?_, ?_, ?_, ?_⟩, ba _ (ba _ (Below.refl _ _))⟩
    · have h1 := ba (.cells #[.int .i64 (errB c)] 25) (Below.refl (w.alloc (.cells #[.func (.func (fnB c)) #[] #[]] 97)).heap.size (w.alloc (.cells #[.func (.func (fnB c)) #[] #[]] 97)))
      exact (h1.cell (p := ⟨w.heap.size, 0, none⟩) (by rw [size_alloc]; exact Nat.lt_succ_self _)).trans (cell_in (heap_alloc_new w (.cells #[.func (.func (fnB c)) #[] #[]] 97)) 0)
    · have h2 := cell_in (heap_alloc_new (w.alloc (.cells #[.func (.func (fnB c)) #[] #[]] 97)) (.cells #[.int .i64 (errB c)] 25)) 0
      rw [size_alloc] at h2
      exact h2
    · rw [size_alloc, size_alloc]; omega
    · rw [size_alloc, size_alloc]; omega
  generalize hf : fnB c = g
  have HF := Lib.hid hf
  clear hf
  generalize he : errB c = ev
  have HE := Lib.hid he
  clear he
  go_enter Tryd.func57, Tryd.ntmps57
  go_wp2
  go_ret
  exact hend _ _ HF.out HE.out
theorem unless1_readsWord (q : Bool) (ev : Int) (op jt jf k n : Int) (HC : ∀ w, Calls Tryd.prog 58 #[insV op jt jf k, .int .i64 n] w fun e w' => e = .returned (.bool q) ∧ Below w.heap.size w w') (w : World) (a b : Nat) (ha : w.cell? ⟨a, 0, none⟩ = some (.func (.func 58) #[] #[])) (hb : w.cell? ⟨b, 0, none⟩ = some (.int .i64 ev)) (la : a < w.heap.size) (lb : b < w.heap.size) :
    Calls Tryd.prog 67 #[insV op jt jf k, .int .i64 n, .pointer (some ⟨a, 0, none⟩), .pointer (some ⟨b, 0, none⟩)] w fun e w' => e = .returned (.int .i64 (if q then 0 else ev)) ∧ Below w.heap.size w w' := by
  have HB0 := Lib.hid (ba (insB op jt jf k) (Below.refl w.heap.size w))
  have ha1 := (HB0.out.cell (p := ⟨a, 0, none⟩) la).trans ha
  have HG := Lib.hid hb
  clear ha hb
  go_enter Tryd.func67, Tryd.ntmps67
  go_wp2_with fail
  refine (HC _).mono ?_
  rintro e w1 ⟨rfl, hb1⟩
  have HB1 := Lib.hid (HB0.out.trans (hb1.mono HB0.out.size))
  have hb2 := (HB1.out.cell (p := ⟨b, 0, none⟩) lb).trans HG.out
  clear hb1 ha1
  cases q
  · go_wp2_with fail
    go_ret
    exact ⟨rfl, HB1.out⟩
  · go_wp2_with fail
    go_ret
    exact ⟨rfl, HB1.out⟩
theorem unless1_hasCell (q : Bool) (ev : Int) (op jt jf k n : Int) (HC : ∀ w, Calls Tryd.prog 59 #[insV op jt jf k, .int .i64 n] w fun e w' => e = .returned (.bool q) ∧ Below w.heap.size w w') (w : World) (a b : Nat) (ha : w.cell? ⟨a, 0, none⟩ = some (.func (.func 59) #[] #[])) (hb : w.cell? ⟨b, 0, none⟩ = some (.int .i64 ev)) (la : a < w.heap.size) (lb : b < w.heap.size) :
    Calls Tryd.prog 67 #[insV op jt jf k, .int .i64 n, .pointer (some ⟨a, 0, none⟩), .pointer (some ⟨b, 0, none⟩)] w fun e w' => e = .returned (.int .i64 (if q then 0 else ev)) ∧ Below w.heap.size w w' := by
  have HB0 := Lib.hid (ba (insB op jt jf k) (Below.refl w.heap.size w))
  have ha1 := (HB0.out.cell (p := ⟨a, 0, none⟩) la).trans ha
  have HG := Lib.hid hb
  clear ha hb
  go_enter Tryd.func67, Tryd.ntmps67
  go_wp2_with fail
  refine (HC _).mono ?_
  rintro e w1 ⟨rfl, hb1⟩
  have HB1 := Lib.hid (HB0.out.trans (hb1.mono HB0.out.size))
  have hb2 := (HB1.out.cell (p := ⟨b, 0, none⟩) lb).trans HG.out
  clear hb1 ha1
  cases q
  · go_wp2_with fail
    go_ret
    exact ⟨rfl, HB1.out⟩
  · go_wp2_with fail
    go_ret
    exact ⟨rfl, HB1.out⟩
theorem unless1_hasDivisor (q : Bool) (ev : Int) (op jt jf k n : Int) (HC : ∀ w, Calls Tryd.prog 60 #[insV op jt jf k, .int .i64 n] w fun e w' => e = .returned (.bool q) ∧ Below w.heap.size w w') (w : World) (a b : Nat) (ha : w.cell? ⟨a, 0, none⟩ = some (.func (.func 60) #[] #[])) (hb : w.cell? ⟨b, 0, none⟩ = some (.int .i64 ev)) (la : a < w.heap.size) (lb : b < w.heap.size) :
    Calls Tryd.prog 67 #[insV op jt jf k, .int .i64 n, .pointer (some ⟨a, 0, none⟩), .pointer (some ⟨b, 0, none⟩)] w fun e w' => e = .returned (.int .i64 (if q then 0 else ev)) ∧ Below w.heap.size w w' := by
  have HB0 := Lib.hid (ba (insB op jt jf k) (Below.refl w.heap.size w))
  have ha1 := (HB0.out.cell (p := ⟨a, 0, none⟩) la).trans ha
  have HG := Lib.hid hb
  clear ha hb
  go_enter Tryd.func67, Tryd.ntmps67
  go_wp2_with fail
  refine (HC _).mono ?_
  rintro e w1 ⟨rfl, hb1⟩
  have HB1 := Lib.hid (HB0.out.trans (hb1.mono HB0.out.size))
  have hb2 := (HB1.out.cell (p := ⟨b, 0, none⟩) lb).trans HG.out
  clear hb1 ha1
  cases q
  · go_wp2_with fail
    go_ret
    exact ⟨rfl, HB1.out⟩
  · go_wp2_with fail
    go_ret
    exact ⟨rfl, HB1.out⟩
theorem unless1_hasShift (q : Bool) (ev : Int) (op jt jf k n : Int) (HC : ∀ w, Calls Tryd.prog 61 #[insV op jt jf k, .int .i64 n] w fun e w' => e = .returned (.bool q) ∧ Below w.heap.size w w') (w : World) (a b : Nat) (ha : w.cell? ⟨a, 0, none⟩ = some (.func (.func 61) #[] #[])) (hb : w.cell? ⟨b, 0, none⟩ = some (.int .i64 ev)) (la : a < w.heap.size) (lb : b < w.heap.size) :
    Calls Tryd.prog 67 #[insV op jt jf k, .int .i64 n, .pointer (some ⟨a, 0, none⟩), .pointer (some ⟨b, 0, none⟩)] w fun e w' => e = .returned (.int .i64 (if q then 0 else ev)) ∧ Below w.heap.size w w' := by
  have HB0 := Lib.hid (ba (insB op jt jf k) (Below.refl w.heap.size w))
  have ha1 := (HB0.out.cell (p := ⟨a, 0, none⟩) la).trans ha
  have HG := Lib.hid hb
  clear ha hb
  go_enter Tryd.func67, Tryd.ntmps67
  go_wp2_with fail
  refine (HC _).mono ?_
  rintro e w1 ⟨rfl, hb1⟩
  have HB1 := Lib.hid (HB0.out.trans (hb1.mono HB0.out.size))
  have hb2 := (HB1.out.cell (p := ⟨b, 0, none⟩) lb).trans HG.out
  clear hb1 ha1
  cases q
  · go_wp2_with fail
    go_ret
    exact ⟨rfl, HB1.out⟩
  · go_wp2_with fail
    go_ret
    exact ⟨rfl, HB1.out⟩
theorem unless1_jumpsInside (q : Bool) (ev : Int) (op jt jf k n : Int) (HC : ∀ w, Calls Tryd.prog 62 #[insV op jt jf k, .int .i64 n] w fun e w' => e = .returned (.bool q) ∧ Below w.heap.size w w') (w : World) (a b : Nat) (ha : w.cell? ⟨a, 0, none⟩ = some (.func (.func 62) #[] #[])) (hb : w.cell? ⟨b, 0, none⟩ = some (.int .i64 ev)) (la : a < w.heap.size) (lb : b < w.heap.size) :
    Calls Tryd.prog 67 #[insV op jt jf k, .int .i64 n, .pointer (some ⟨a, 0, none⟩), .pointer (some ⟨b, 0, none⟩)] w fun e w' => e = .returned (.int .i64 (if q then 0 else ev)) ∧ Below w.heap.size w w' := by
  have HB0 := Lib.hid (ba (insB op jt jf k) (Below.refl w.heap.size w))
  have ha1 := (HB0.out.cell (p := ⟨a, 0, none⟩) la).trans ha
  have HG := Lib.hid hb
  clear ha hb
  go_enter Tryd.func67, Tryd.ntmps67
  go_wp2_with fail
  refine (HC _).mono ?_
  rintro e w1 ⟨rfl, hb1⟩
  have HB1 := Lib.hid (HB0.out.trans (hb1.mono HB0.out.size))
  have hb2 := (HB1.out.cell (p := ⟨b, 0, none⟩) lb).trans HG.out
  clear hb1 ha1
  cases q
  · go_wp2_with fail
    go_ret
    exact ⟨rfl, HB1.out⟩
  · go_wp2_with fail
    go_ret
    exact ⟨rfl, HB1.out⟩
theorem unless1_branchesInside (q : Bool) (ev : Int) (op jt jf k n : Int) (HC : ∀ w, Calls Tryd.prog 63 #[insV op jt jf k, .int .i64 n] w fun e w' => e = .returned (.bool q) ∧ Below w.heap.size w w') (w : World) (a b : Nat) (ha : w.cell? ⟨a, 0, none⟩ = some (.func (.func 63) #[] #[])) (hb : w.cell? ⟨b, 0, none⟩ = some (.int .i64 ev)) (la : a < w.heap.size) (lb : b < w.heap.size) :
    Calls Tryd.prog 67 #[insV op jt jf k, .int .i64 n, .pointer (some ⟨a, 0, none⟩), .pointer (some ⟨b, 0, none⟩)] w fun e w' => e = .returned (.int .i64 (if q then 0 else ev)) ∧ Below w.heap.size w w' := by
  have HB0 := Lib.hid (ba (insB op jt jf k) (Below.refl w.heap.size w))
  have ha1 := (HB0.out.cell (p := ⟨a, 0, none⟩) la).trans ha
  have HG := Lib.hid hb
  clear ha hb
  go_enter Tryd.func67, Tryd.ntmps67
  go_wp2_with fail
  refine (HC _).mono ?_
  rintro e w1 ⟨rfl, hb1⟩
  have HB1 := Lib.hid (HB0.out.trans (hb1.mono HB0.out.size))
  have hb2 := (HB1.out.cell (p := ⟨b, 0, none⟩) lb).trans HG.out
  clear hb1 ha1
  cases q
  · go_wp2_with fail
    go_ret
    exact ⟨rfl, HB1.out⟩
  · go_wp2_with fail
    go_ret
    exact ⟨rfl, HB1.out⟩
theorem unless1_any (c : Nat) (op jt jf k n : Int) (hk : 0 ≤ k) (hk' : k ≤ 4294967295) (hn : 0 ≤ n) (hn' : n ≤ 9223372036854775807) (w : World) (a b : Nat) (ha : w.cell? ⟨a, 0, none⟩ = some (.func (.func (fnB c)) #[] #[])) (hb : w.cell? ⟨b, 0, none⟩ = some (.int .i64 (errB c))) (la : a < w.heap.size) (lb : b < w.heap.size) :
    Calls Tryd.prog 67 #[insV op jt jf k, .int .i64 n, .pointer (some ⟨a, 0, none⟩), .pointer (some ⟨b, 0, none⟩)] w fun e w' => e = .returned (.int .i64 (if holdsB c jt jf k n then 0 else errB c)) ∧ Below w.heap.size w w' := by
  have HC := holds_any c op jt jf k n hk hk' hn hn'
  generalize holdsB c jt jf k n = q at *
  generalize errB c = ev at *
  unfold fnB at HC ha
  split at HC
  · exact unless1_readsWord q ev op jt jf k n HC w a b ha hb la lb
  · exact unless1_hasCell q ev op jt jf k n HC w a b ha hb la lb
  · exact unless1_hasDivisor q ev op jt jf k n HC w a b ha hb la lb
  · exact unless1_hasShift q ev op jt jf k n HC w a b ha hb la lb
  · exact unless1_jumpsInside q ev op jt jf k n HC w a b ha hb la lb
  · rename_i h1 h2 h3 h4 h5
    have ha' : w.cell? ⟨a, 0, none⟩ = some (.func (.func 63) #[] #[]) := by
      rw [ha]
      split <;> first | contradiction | rfl
    exact unless1_branchesInside q ev op jt jf k n HC w a b ha' hb la lb
end Go.Proofs.YtmbgcfikpndamaaDoor
