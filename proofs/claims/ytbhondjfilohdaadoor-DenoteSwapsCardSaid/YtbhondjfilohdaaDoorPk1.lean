/-
  What the laws' texts use, joined.
-/
import Derived.Test.YtbhondjfilohdaaDoorProg
import Derived.WalkKit
import Derived.ProofKit
import Derived.Lib.Hide
import Derived.Laws.Rows
import Derived.Laws.ResultCell
import Derived.Laws.Entries
import Derived.Handy
import Derived.OwnWalk
import Derived.Laws.OwnMore
import Derived.Deep.Draws
import Derived.Laws.IdiomStrings
import Derived.Lib.BufferRead
import Derived.Maps.OwnSet
import Derived.Laws.BitsAllLaws
import Derived.RowKit
import Derived.BigQuiet
import Derived.IntWalk
import Derived.Deep.RegionHeld3
import Derived.BigRegion
import Derived.Lib.OthersKept
import Derived.Lib.QuietBelow
import Derived.Shelf.Strings.Builder1
import Derived.Shelf.Strings.Search1
import Derived.Lib.IndexLaws
/-
  What is the same for every stage: worlds that have only grown, blocks and rows of a call's own, small words on endings.
-/
namespace Go.Proofs.YtbhondjfilohdaaDoor
open Go.ChangeShapes Go.WideShapes Go.ChangeAt Go.RowKit

/-- A new block more. -/
theorem ba {w v : World} (o : Obj) (h : Below w.heap.size w v) : Below w.heap.size w (v.alloc o) := h.alloc h.size o
/-- A struct's block: what its cells hold. -/
theorem cell_in {w : World} {g : Nat} {cs : Array Value} {t : TypeId} {fr : Nat × Nat} (h : w.heap[g]? = some (.cells cs t fr)) (i : Nat) : w.cell? ⟨g, i, none⟩ = cs[i]? := cell_of_row w g i cs t fr h
theorem free_in {w : World} {g : Nat} {cs : Array Value} {t : TypeId} (h : w.heap[g]? = some (.cells cs t (0, 0))) (i : Nat) : w.frozen? ⟨g, i, none⟩ = false := by simp [World.frozen?, h]
theorem size_alloc (w : World) (o : Obj) : (w.alloc o).heap.size = w.heap.size + 1 := by
  show (w.heap.push o).size = _
  simp
/-- A law on append: the world that it leaves, below the base. -/
theorem grown_below {B : Nat} {w0 w w' : World} {e : TypeId} {size : Nat} {v : Value} {n : Nat} {xs : List Value} (h : Below B w0 w) (ho : w.ownsRow B e size v n xs) (hg : w.grownBy w' v.ownBlock) (hB : B ≤ w.heap.size) : Below B w0 w' :=
  h.grown hg hB fun k hk => (ho.lt k hk).1
theorem news_at {w : World} {g : Nat} {cs : Array Value} {t : TypeId} {fr : Nat × Nat} (h : w.heap[g]? = some (.cells cs t fr)) : ∀ j u, cs.toList[j]? = some u → w.cell? ((⟨g, 0, none⟩ : Addr).add j) = some u := by
  intro j u hu
  rw [show (⟨g, 0, none⟩ : Addr).add j = ⟨g, j, none⟩ by unfold Addr.add; split <;> simp_all, cell_in h]
  simpa using hu
theorem new_at (w : World) (cs : Array Value) (t : TypeId) : ∀ j u, cs.toList[j]? = some u → (w.alloc (.cells cs t)).cell? ((⟨w.heap.size, 0, none⟩ : Addr).add j) = some u := news_at (heap_alloc_new w (.cells cs t))
theorem own_below {w w' : World} {base : Nat} {e : TypeId} {size : Nat} {v : Value} {n : Nat} {xs : List Value} (h : w.ownsRow base e size v n xs) (hb : Below w.heap.size w w') : w'.ownsRow base e size v n xs := by
  obtain ⟨h1, h2⟩ := h
  refine ⟨h1, h2.imp id ?_⟩
  rintro ⟨g, cap, cur, hv, hg, hh, r⟩
  exact ⟨g, cap, cur, hv, hg, (hb.block g (lt_of_block hh)).trans hh, r⟩
theorem own_shape {w : World} {base : Nat} {e : TypeId} {size : Nat} {v : Value} {n : Nat} {xs : List Value} (h : w.ownsRow base e size v n xs) : ∃ a c, v = .slice a n c := by
  rcases h.2 with ⟨rfl, rfl⟩ | ⟨g, cap, _, rfl, _⟩
  · exact ⟨_, _, rfl⟩
  · exact ⟨_, _, rfl⟩
theorem own_cells {w : World} {base : Nat} {e : TypeId} {v : Value} {n : Nat} {xs : List Value} (h : w.ownsRow base e 1 v n xs) (hn : 0 < n) :
    ∃ g c, v = .slice (some ⟨g, 0, none⟩) n c ∧ base ≤ g ∧ g < w.heap.size ∧ n ≤ c ∧ ∀ i u, xs[i]? = some u → w.cell? ⟨g, i, none⟩ = some u := by
  have hh := h
  rcases h.2 with ⟨_, h0⟩ | ⟨g, cap, cur, rfl, hg, hb, hc, _⟩
  · omega
  · refine ⟨g, cap, rfl, hg, lt_of_block hb, hc, fun i u hu => ?_⟩
    have hi : i < n * 1 := by have h1 := h.1; have := (List.getElem?_eq_some_iff.1 hu).1; omega
    rw [hh.cellAt i hi]
    exact hu
theorem below2 {a b c : World} (h : Below a.heap.size a b) (k : Below b.heap.size b c) : Below a.heap.size a c := h.trans (k.mono h.size)
theorem bdN {B : Nat} {a w : World} (h : Below B a w) (n : Nat) : Below B a (w.drewN n) := ⟨h.os, h.tape, h.output, h.size, h.block⟩
theorem own_mono {w : World} {base base' : Nat} {e : TypeId} {size : Nat} {v : Value} {n : Nat} {xs : List Value} (h : w.ownsRow base e size v n xs) (hb : base' ≤ base) : w.ownsRow base' e size v n xs :=
  ⟨h.1, h.2.imp id fun ⟨g, cap, cur, a, b, c⟩ => ⟨g, cap, cur, a, Nat.le_trans hb b, c⟩⟩
theorem add_plain (b off j : Nat) : (⟨b, off, none⟩ : Addr).add j = ⟨b, off + j, none⟩ := Addr.add_lit b off j
theorem own_empty (w : World) (base : Nat) (e : TypeId) (size : Nat) (hb : base ≤ w.heap.size) : (w.alloc (.cells #[] e)).ownsRow base e size (.slice (some ⟨w.heap.size, 0, none⟩) 0 0) 0 [] :=
  World.ownsRow_made w #[] 0 hb (by unfold maxLen; omega) (by simp)
theorem pick_list {α : Type} {Q : Nat → α → Prop} : ∀ n : Nat, (∀ i, i < n → ∃ x, Q i x) → ∃ l : List α, l.length = n ∧ ∀ i (h : i < l.length), Q i l[i]
  | 0, _ => ⟨[], rfl, fun i h => by simp at h⟩
  | n + 1, h => by
    obtain ⟨l, hl, hq⟩ := pick_list n (fun i hi => h i (by omega))
    obtain ⟨x, hx⟩ := h n (by omega)
    refine ⟨l ++ [x], by simp [hl], fun i hi => ?_⟩
    by_cases hin : i < l.length
    · rw [List.getElem_append_left hin]
      exact hq i hin
    · have hi' : i = l.length := by simp at hi; omega
      subst hi'
      simp
      rw [hl]
      exact hx
end Go.Proofs.YtbhondjfilohdaaDoor

/-
  Bytes that lie in a world; numbers as bytes; append(own, src...) where src is anything that lies in the world (nil among them); string(b).
-/
namespace Go.Proofs.YtbhondjfilohdaaDoor
open Go.ChangeShapes Go.WideShapes Go.ChangeAt Go.RowKit
set_option maxRecDepth 20000

/-- Bytes that lie in a world. -/
def BAt (w : World) (v : Value) (l : List UInt8) : Prop :=
  ∃ ao cap, v = .slice ao l.length cap ∧ l.length ≤ cap ∧ cap ≤ 9223372036854775807 ∧ (l = [] ∨ ∃ b off, ao = some ⟨b, off, none⟩ ∧ b < w.heap.size ∧ ∀ i (h : i < l.length), w.cell? ⟨b, off + i, none⟩ = some (.int .u8 ((l[i]).toNat : Int)))
abbrev bcells (l : List UInt8) : List Value := l.map fun b => Value.int .u8 (b.toNat : Int)
theorem BAt.nil (w : World) : BAt w (.slice none 0 0) [] := ⟨none, 0, rfl, Nat.le_refl _, by omega, .inl rfl⟩
theorem BAt.below {w w' : World} {v : Value} {l : List UInt8} (h : BAt w v l) (hb : Below w.heap.size w w') : BAt w' v l := by
  obtain ⟨ao, cap, rfl, hcap, hm, h⟩ := h
  refine ⟨ao, cap, rfl, hcap, hm, h.imp id ?_⟩
  rintro ⟨b, off, rfl, hl, hc⟩
  exact ⟨b, off, rfl, Nat.lt_of_lt_of_le hl hb.size, fun i hi => (hb.cell (p := ⟨b, _, none⟩) hl).trans (hc i hi)⟩
theorem BAt.own {w : World} {base : Nat} {e : TypeId} {v : Value} {n : Nat} {l : List UInt8} (h : w.ownsRow base e 1 v n (bcells l)) (hn : n = l.length) : BAt w v l := by
  subst hn
  rcases h.2 with ⟨rfl, h0⟩ | ⟨g, cap, cur, rfl, _, hg, hc, hm, _, ht⟩
  · obtain rfl := List.length_eq_zero_iff.1 h0
    exact BAt.nil w
  · unfold maxLen at hm
    refine ⟨_, _, rfl, hc, hm, .inr ⟨g, 0, rfl, lt_of_block hg, fun i hi => ?_⟩⟩
    rw [Nat.zero_add, cell_in hg i, ← Array.getElem?_toList]
    have hu : (bcells l)[i]? = some (.int .u8 ((l[i]).toNat : Int)) := by simp [hi]
    rw [← ht, List.getElem?_take, if_pos (by omega)] at hu
    exact hu
theorem BAt.lit (w : World) (l : List UInt8) (t : TypeId) (hm : l.length ≤ 9223372036854775807) : BAt (w.alloc (.cells (bcells l).toArray t)) (.slice (some ⟨w.heap.size, 0, none⟩) l.length l.length) l :=
  ⟨_, _, rfl, Nat.le_refl _, hm, .inr ⟨_, 0, rfl, by rw [size_alloc]; omega, fun i hi => by
    rw [Nat.zero_add, cell_in (heap_alloc_new w (.cells (bcells l).toArray t)) i]
    simp [hi]⟩⟩
/-- Bytes as a text. -/
theorem BAt.conv {w : World} {v : Value} {l : List UInt8} (h : BAt w v l) : (convert 75 9 v).run Tryd.prog w = .ok (.string ⟨l.toArray⟩) w := by
  obtain ⟨ao, cap, rfl, _, _, h⟩ := h
  rcases h with rfl | ⟨b, off, rfl, _, hc⟩
  · cases ao with
    | none => exact Lib.run_convert_nil_bytes w _ _ 5 cap Tryd.underlying75 Tryd.underlying5 Tryd.underlying9
    | some a => exact run_convert_bytes_back w _ _ 5 a cap [] Tryd.underlying75 Tryd.underlying5 Tryd.underlying9 (fun j hj => by simp at hj)
  · refine run_convert_bytes_back w _ _ 5 ⟨b, off, none⟩ cap l Tryd.underlying75 Tryd.underlying5 Tryd.underlying9 (fun j hj => ?_)
    have e : (⟨b, off, none⟩ : Addr).add j = ⟨b, off + j, none⟩ := by unfold Addr.add; split <;> simp_all
    rw [e]
    exact hc j hj
/-- Bytes in a world that only drew, or grew. -/
theorem BAt.shape {w : World} {v : Value} {l : List UInt8} (h : BAt w v l) : ∃ ao cap, v = .slice ao l.length cap := by
  obtain ⟨ao, cap, rfl, _⟩ := h
  exact ⟨ao, cap, rfl⟩
/-- A slice whose elements have these cells. -/
def SrcAt (w : World) (size : Nat) (x : Value) (m : Nat) (news : List Value) : Prop :=
  ∃ ao c, x = .slice ao m c ∧ news.length = m * size ∧ (ao = none → m = 0) ∧ ∀ ad, ao = some ad → ∀ j u, news[j]? = some u → w.cell? (ad.add j) = some u
theorem BAt.src {w : World} {v : Value} {l : List UInt8} (h : BAt w v l) : SrcAt w 1 v l.length (bcells l) := by
  obtain ⟨ao, cap, rfl, _, _, h⟩ := h
  refine ⟨ao, cap, rfl, by simp, fun h0 => ?_, fun ad had j u hu => ?_⟩
  · rcases h with rfl | ⟨b, off, rfl, _⟩
    · rfl
    · cases h0
  · rcases h with rfl | ⟨b, off, rfl, _, hc⟩
    · simp at hu
    · cases had
      have hj : j < l.length := by simpa using (List.getElem?_eq_some_iff.1 hu).1
      rw [add_plain, hc j hj]
      simp [hj] at hu
      rw [hu]
theorem SrcAt.below {w w' : World} {size m : Nat} {x : Value} {news : List Value} (h : SrcAt w size x m news) (hk : ∀ p : Addr, w.cell? p ≠ none → w'.cell? p = w.cell? p) : SrcAt w' size x m news := by
  obtain ⟨ao, c, rfl, h1, h2, h3⟩ := h
  refine ⟨ao, c, rfl, h1, h2, fun ad had j u hu => ?_⟩
  have e := h3 ad had j u hu
  rw [hk _ (by rw [e]; simp)]
  exact e
section
variable {P : Program} (w : World)
theorem run_append_nothing (base : Nat) (t ty e : TypeId) (i : TypeInfo) (size : Nat) (ht : P.underlying t = some (.slice e)) (hi : P.info? e = some i) (v : Value) (n : Nat) (xs : List Value) (hown : w.ownsRow base e size v n xs) (c : Nat) :
    (Builtin.append_ #[t, t] ty #[v, .slice none 0 c]).run P w = .ok v w := by
  rcases hown.2 with ⟨rfl, rfl⟩ | ⟨g, cap, cur, rfl, _, _, hnc, _⟩
  · simp [Builtin.append_, run_underlying ht, sizeOf, typeInfo, hi, Builtin.lenOf, Builtin.firstCells]
  · simp [Builtin.append_, run_underlying ht, sizeOf, typeInfo, hi, Builtin.lenOf, Builtin.firstCells, hnc, storeCells]
theorem wpList_append_src {ops : Array Oper} {rest : List Oper} {o : Oper} {a : Act} {Q : Exit → Act → World → Prop} (hgd : o.guard = none) (s x : Operand) (t : TypeId)
    (ho : o.op = .call { callee := .builtin .append, args := #[s, x], argTypes := #[t, t] })
    (base : Nat) (e : TypeId) (i : TypeInfo) (z : Value) (size bytes : Nat) (ht : P.underlying t = some (.slice e)) (hi : P.info? e = some i) (hz : i.zero = some z)
    (hsize : i.size = size) (hby : i.bytes = bytes) (hzs : z.cells.size = size) (hsz : 0 < size)
    (v : Value) (n : Nat) (xs : List Value) (hs : a.eval s = v) (hown : w.ownsRow base e size v n xs)
    (xv : Value) (m : Nat) (news : List Value) (hx : a.eval x = xv) (hsrc : SrcAt w size xv m news) (h1 : ∀ u ∈ news, u.oneCell' = true)
    (h63 : n + m ≤ maxLen) (hbytes : (n + m) * bytes ≤ 140737488355328) (hbase : base ≤ w.heap.size)
    (h : ∀ v' w', w'.ownsRow base e size v' (n + m) (xs ++ news) → w.grownBy w' v.ownBlock → wpList P ops Q rest (a.put o.dst v') w') : wpList P ops Q (o :: rest) a w := by
  obtain ⟨ao, c, rfl, hl, h0, hc⟩ := hsrc
  cases ao with
  | some ad => exact wpList_append_own w hgd s x t ho base e i z size bytes ht hi hz hsize hby hzs hsz v n xs hs hown ad m c news hx hl (hc ad rfl) h1 h63 hbytes hbase fun v' w' h2 h3 _ => h v' w' h2 h3
  | none =>
    obtain rfl := h0 rfl
    obtain rfl : news = [] := List.eq_nil_of_length_eq_zero (by simpa using hl)
    refine wpList_plain hgd fun K hK => ?_
    have hrun := run_append_nothing (P := P) w base t o.type e i size ht hi v n xs hown c
    unfold Oper.wp
    simp [execOp, ho, resolve, invoke, builtin, hs, hx, hrun, Result.andThen]
    exact hK _ _ (h v w (by simpa using hown) (World.grownBy.refl w _))
theorem step_append_src {ops : Array Oper} {o : Oper} {a : Act} {K : Act → World → Prop} {Q : Exit → Act → World → Prop} {E : Prop} (hgd : o.guard = none) (s x : Operand) (t : TypeId)
    (ho : o.op = .call { callee := .builtin .append, args := #[s, x], argTypes := #[t, t] })
    (base : Nat) (e : TypeId) (i : TypeInfo) (z : Value) (size bytes : Nat) (ht : P.underlying t = some (.slice e)) (hi : P.info? e = some i) (hz : i.zero = some z)
    (hsize : i.size = size) (hby : i.bytes = bytes) (hzs : z.cells.size = size) (hsz : 0 < size)
    (v : Value) (n : Nat) (xs : List Value) (hs : a.eval s = v) (hown : w.ownsRow base e size v n xs)
    (xv : Value) (m : Nat) (news : List Value) (hx : a.eval x = xv) (hsrc : SrcAt w size xv m news) (h1 : ∀ u ∈ news, u.oneCell' = true)
    (h63 : n + m ≤ maxLen) (hbytes : (n + m) * bytes ≤ 140737488355328) (hbase : base ≤ w.heap.size)
    (h : ∀ v' w', w'.ownsRow base e size v' (n + m) (xs ++ news) → w.grownBy w' v.ownBlock → K (a.put o.dst v') w') :
    if Region.wanted o (yielded ops a.tmps) = true then Oper.wp P o a w K Q else E := by
  have hw : Region.wanted o (yielded ops a.tmps) = true := by simp [Region.wanted, hgd]
  rw [if_pos hw]
  obtain ⟨ao, c, rfl, hl, h0, hc⟩ := hsrc
  cases ao with
  | some ad => exact wp_append_own w s x t ho base e i z size bytes ht hi hz hsize hby hzs hsz v n xs hs hown ad m c news hx hl (hc ad rfl) h1 h63 hbytes hbase fun v' w' h2 h3 _ => h v' w' h2 h3
  | none =>
    obtain rfl := h0 rfl
    obtain rfl : news = [] := List.eq_nil_of_length_eq_zero (by simpa using hl)
    have hrun := run_append_nothing (P := P) w base t o.type e i size ht hi v n xs hown c
    unfold Oper.wp
    simp [execOp, ho, resolve, invoke, builtin, hs, hx, hrun, Result.andThen]
    exact h v w (by simpa using hown) (World.grownBy.refl w _)
end
end Go.Proofs.YtbhondjfilohdaaDoor

namespace Go
/-- An entry of a map's literal, at the operation (as 'wpList_mapUpdate_own' has it of an assignment). -/
theorem wpList_insert_own {H : Type} {P : Program} (w : World) {ops : Array Oper} {rest : List Oper} {o : Oper} {a : Act} {Q : Exit → Act → World → Prop}
    (hg : o.guard = none) (m x v : Operand) (t : TypeId) (hop : o.op = Op.insert t m x v)
    (k e : TypeId) (K : Maps.Keyed P k) (ht : P.underlying t = some (.map k e)) (R : Value → Option (DataW H × List MemPlace)) (b n : Nat) (D : DataW H)
    (hm : a.eval m = .map (some b)) (hown : w.ownsMap P k R b n D) (hn : n < maxLen) (key val : Value) (kl : Lit) (hx : a.eval x = key) (hv : a.eval v = val) (hkey : keyOf P k key = some kl)
    (d : DataW H) (ps : List MemPlace) (hval : R val = some (d, ps))
    (hK : ∀ w', w'.ownsMap P k R b (n + 1) (D.put kl d) → w.grownBy w' (some b) → wpList P ops Q rest (a.put o.dst undef) w') :
    wpList P ops Q (o :: rest) a w := by
  refine wpList_plain hg fun K' hK' => ?_
  obtain ⟨w', hrun, r1, r2⟩ := hown.update K ht hn hkey hval
  unfold Oper.wp
  simp [execOp, hop, hm, hx, hv, hrun, Result.andThen]
  exact hK' _ _ (hK w' r1 r2)
end Go
/-
  Plain facts on numbers and texts, without any program: 32-bit arithmetic as Int functions, hexadecimal digits as lists of bytes.
-/
namespace Wd
open Go

/-- A digit's byte. -/
def hexB (d : Nat) : UInt8 := if d < 10 then UInt8.ofNat (48 + d) else UInt8.ofNat (87 + d)

theorem hexB_lo (d : Nat) (h : d < 10) : (hexB d).toNat = 48 + d := by
  unfold hexB; rw [if_pos h]; simp; omega
theorem hexB_hi (d : Nat) (h : 10 ≤ d) (h2 : d < 16) : (hexB d).toNat = 87 + d := by
  unfold hexB; rw [if_neg (by omega)]; simp; omega

/-- The hexadecimal digits of a number. -/
def hex (n : Nat) : List UInt8 := if _h : n < 16 then [hexB n] else hex (n / 16) ++ [hexB (n % 16)]
termination_by n
decreasing_by omega

theorem hex_lt {n : Nat} (h : n < 16) : hex n = [hexB n] := by rw [hex, dif_pos h]
theorem hex_ge {n : Nat} (h : 16 ≤ n) : hex n = hex (n / 16) ++ [hexB (n % 16)] := by rw [hex, dif_neg (by omega)]

theorem hex_len : ∀ (k n : Nat), n < 16 ^ (k + 1) → 1 ≤ (hex n).length ∧ (hex n).length ≤ k + 1
  | 0, n, h => by rw [hex_lt (by simpa using h)]; simp
  | k + 1, n, h => by
    by_cases hn : n < 16
    · rw [hex_lt hn]; simp
    · rw [hex_ge (by omega)]
      have := hex_len k (n / 16) (by rw [Nat.pow_succ] at h; omega)
      simp
      omega
theorem hex_len16 (n : Nat) (h : n < 18446744073709551616) : 1 ≤ (hex n).length ∧ (hex n).length ≤ 16 := hex_len 15 n h
theorem joined (l m : List UInt8) : (⟨l.toArray⟩ : ByteArray) ++ (⟨m.toArray⟩ : ByteArray) = ⟨(l ++ m).toArray⟩ := by
  apply ByteArray.ext
  simp

theorem pow16_le (k : Nat) (h : k ≤ 65) : 16 ^ (k - 49) ≤ 18446744073709551616 :=
  Nat.le_trans (Nat.pow_le_pow_right (by omega) (show k - 49 ≤ 16 by omega)) (Nat.le_of_eq (by decide))
theorem pow16_step {x m : Nat} (hx : x < 16 ^ (m + 1 - 49)) (hge : 16 ≤ x) : 50 ≤ m ∧ x / 16 < 16 ^ (m - 49) := by
  have h49 : 50 ≤ m := by
    apply Nat.lt_of_not_le
    intro hm
    have h1 : 16 ^ (m + 1 - 49) ≤ 16 ^ 1 := Nat.pow_le_pow_right (by omega) (by omega)
    omega
  refine ⟨h49, ?_⟩
  rw [show m + 1 - 49 = (m - 49) + 1 by omega, Nat.pow_succ] at hx
  omega
theorem and15 (x : Nat) (h : x < 18446744073709551616) : bits .and .u64 (x : Int) 15 = ((x % 16 : Nat) : Int) := by
  have e := u64_and_nat x 15 h (by omega)
  rw [nat_mask4] at e
  exact e

theorem or16 (x d : Nat) (hx : x ≤ 1152921504606846975) (hd : d < 16) : bits .or .u64 ((x : Int) * 16) (d : Int) = ((x * 16 + d : Nat) : Int) := by
  have e := u64_or_nat (x * 16) d (by omega) (by omega)
  rw [nat_join 4 (x * 16) d (by omega) (by omega)] at e
  rw [← e]
  simp

/-! ### Digits as numbers -/
/-- What a digit's byte counts. -/
def dig (c : UInt8) : Nat := if c.toNat < 97 then c.toNat - 48 else c.toNat - 87
def val (l : List UInt8) : Nat := l.foldl (fun a c => a * 16 + dig c) 0
theorem dig_hexB (d : Nat) (h : d < 16) : dig (hexB d) = d := by
  unfold dig
  by_cases hd : d < 10
  · rw [hexB_lo d hd]; split <;> omega
  · rw [hexB_hi d (by omega) h]; split <;> omega
theorem val_snoc (l : List UInt8) (c : UInt8) : val (l ++ [c]) = val l * 16 + dig c := by simp [val]
theorem val_hex (n : Nat) : val (hex n) = n := by
  induction n using Nat.strongRecOn with
  | ind n ih =>
    by_cases h : n < 16
    · rw [hex_lt h]; simp [val, dig_hexB n h]
    · rw [hex_ge (by omega), val_snoc, ih (n / 16) (by omega), dig_hexB _ (by omega)]; omega
theorem hex_inj {m n : Nat} (h : hex m = hex n) : m = n := by rw [← val_hex m, h, val_hex]
theorem hex_ne (n : Nat) : hex n ≠ [] := by
  intro h
  by_cases hn : n < 16
  · rw [hex_lt hn] at h; cases h
  · rw [hex_ge (by omega)] at h; simp at h
theorem hex_mem (n : Nat) : ∀ c ∈ hex n, ∃ d, d < 16 ∧ c = hexB d := by
  induction n using Nat.strongRecOn with
  | ind n ih =>
    intro c hc
    by_cases h : n < 16
    · rw [hex_lt h] at hc; exact ⟨n, h, by simpa using hc⟩
    · rw [hex_ge (by omega)] at hc
      rcases List.mem_append.1 hc with hc | hc
      · exact ih (n / 16) (by omega) c hc
      · exact ⟨n % 16, by omega, by simpa using hc⟩
/-- What stands ahead in a number's digits are a smaller number's digits: not 0's, and that number times 16 is no more. -/
theorem hex_front (m : Nat) : ∀ (p q : List UInt8), p ≠ [] → q ≠ [] → hex m = p ++ q → ∃ n, p = hex n ∧ 1 ≤ n ∧ n * 16 ≤ m := by
  induction m using Nat.strongRecOn with
  | ind m ih =>
    intro p q hp hq h
    by_cases hm : m < 16
    · rw [hex_lt hm] at h
      have hl := congrArg List.length h
      have h1 := List.length_pos_iff.2 hp
      have h2 := List.length_pos_iff.2 hq
      simp at hl
      omega
    · rw [hex_ge (by omega)] at h
      rcases List.eq_nil_or_concat q with e | ⟨q', c, e⟩
      · exact absurd e hq
      · rw [List.concat_eq_append] at e
        rw [e, ← List.append_assoc] at h
        have hh := (List.append_inj' h rfl).1
        by_cases hq' : q' = []
        · rw [hq', List.append_nil] at hh
          exact ⟨m / 16, hh.symm, by omega, by omega⟩
        · obtain ⟨n, h1, h2, h3⟩ := ih (m / 16) (by omega) p q' hp hq' hh
          exact ⟨n, h1, h2, by omega⟩
theorem hex_grow (n d : Nat) (hd : d < 16) (h : n ≠ 0) : hex (n * 16 + d) = hex n ++ [hexB d] := by
  rw [hex_ge (by omega), show (n * 16 + d) / 16 = n by omega, show (n * 16 + d) % 16 = d by omega]

/-- A number's text: 0x, then its digits. -/
def txt (n : Nat) : ByteArray := ⟨(48 :: 120 :: hex n).toArray⟩
theorem txt_list (n : Nat) : (txt n).data.toList = 48 :: 120 :: hex n := rfl
theorem txt_inj {m n : Nat} (h : txt m = txt n) : m = n := by
  have e := congrArg (fun s : ByteArray => s.data.toList) h
  simp only [txt_list, List.cons.injEq, true_and] at e
  exact hex_inj e

/-- How far a text is read: the first p bytes are those of 0x and of the digits of n (of none, and n is 0, where p is at most 2). -/
def Read (l : List UInt8) (p n : Nat) : Prop :=
  n < 18446744073709551616 ∧ ((p ≤ 2 ∧ n = 0 ∧ l.take p = [48, 120].take p) ∨ (2 < p ∧ l.take p = 48 :: 120 :: hex n))
theorem Read.start (l : List UInt8) : Read l 0 0 := ⟨by omega, .inl ⟨by omega, rfl, by simp⟩⟩
/-- A text that is read up to its end is a number's. -/
theorem Read.done {l : List UInt8} {p n : Nat} (h : Read l p n) (hp : l.length ≤ p) (h3 : 3 ≤ l.length) : l = 48 :: 120 :: hex n := by
  rcases h.2 with ⟨h1, _, _⟩ | ⟨_, h2⟩
  · omega
  · rwa [List.take_of_length_le hp] at h2
theorem take_snoc (l : List UInt8) (p : Nat) (h : p < l.length) : l.take (p + 1) = l.take p ++ [l[p]] := List.take_succ_eq_append_getElem h
/-- One more byte of 0x. -/
theorem Read.sign {l : List UInt8} {p n : Nat} (h : Read l p n) (hp : p < 2) (hl : p < l.length) (hc : [48, 120][p]? = some l[p]) : n = 0 ∧ Read l (p + 1) 0 := by
  rcases h.2 with ⟨_, h2, h3⟩ | ⟨h1, _⟩
  · refine ⟨h2, by omega, .inl ⟨by omega, rfl, ?_⟩⟩
    rw [take_snoc l p hl, h3]
    rcases p with _ | _ | p
    · simp at hc; simp [← hc]
    · simp at hc; simp [← hc]
    · omega
  · omega
/-- One more digit. -/
theorem Read.digit {l : List UInt8} {p n d : Nat} (h : Read l p n) (hp : 2 ≤ p) (hl : p < l.length) (hd : d < 16) (hc : l[p] = hexB d) (hn : n ≤ 1152921504606846975) (hz : 2 < p → n ≠ 0) : Read l (p + 1) (n * 16 + d) := by
  refine ⟨by omega, .inr ⟨by omega, ?_⟩⟩
  rw [take_snoc l p hl, hc]
  rcases h.2 with ⟨h1, h2, h3⟩ | ⟨h1, h2⟩
  · obtain rfl : p = 2 := by omega
    rw [h3, h2, show 0 * 16 + d = d by omega, hex_lt hd]; rfl
  · rw [h2, hex_grow n d hd (hz h1)]; rfl
/-- If the text is a number's: the byte that is read next .. -/
theorem Read.next {m : Nat} {p n : Nat} (h : Read (48 :: 120 :: hex m) p n) (hm : m < 18446744073709551616) (hl : p < (48 :: 120 :: hex m).length) :
    (p < 2 → [48, 120][p]? = some (48 :: 120 :: hex m)[p]) ∧ (2 ≤ p → ∃ d, d < 16 ∧ (48 :: 120 :: hex m)[p] = hexB d) ∧ (2 < p → n ≠ 0) ∧ n ≤ 1152921504606846975 := by
  refine ⟨fun hp => ?_, fun hp => ?_, ?_⟩
  · rcases p with _ | _ | p
    · rfl
    · rfl
    · omega
  · obtain ⟨q, rfl⟩ : ∃ q, p = q + 2 := ⟨p - 2, by omega⟩
    exact hex_mem m _ (List.getElem_mem _)
  · rcases h.2 with ⟨h1, h2, _⟩ | ⟨h1, h2⟩
    · exact ⟨fun hp => by omega, by omega⟩
    · obtain ⟨q, rfl⟩ : ∃ q, p = q + 2 := ⟨p - 2, by omega⟩
      have e : (hex m).take q = hex n := by simpa using h2
      have hq : (hex m).drop q ≠ [] := by
        intro hh
        have := congrArg List.length hh
        simp at this hl
        omega
      obtain ⟨k, hk, h1, h3⟩ := hex_front m (hex n) ((hex m).drop q) (hex_ne n) hq (by rw [← e]; exact (List.take_append_drop q (hex m)).symm)
      obtain rfl := hex_inj hk
      exact ⟨fun _ => by omega, by omega⟩

end Wd

/-
  What word.Text answers, for any number of 64 bits, in every world that has the table of math/bits: 0x and the number's hexadecimal digits; nothing that was there is changed.
-/
namespace Go.Proofs.YtbhondjfilohdaaDoor
open Go.ChangeShapes Go.WideShapes Go.ChangeAt Go.RowKit

/-- The one place of the table that is read: that of 16. -/
def Tab (w : World) : Prop := w.cell? ⟨5, 15, none⟩ = some (.int .u8 4) ∧ 5 < w.heap.size
theorem Tab.below {w w' : World} (h : Tab w) (hb : Below w.heap.size w w') : Tab w' :=
  ⟨(hb.cell (p := ⟨5, 15, none⟩) h.2).trans h.1, Nat.lt_of_lt_of_le h.2 hb.size⟩

theorem tz64 (w : World) (ht : Tab w) :
    Calls Tryd.prog 102 #[.int .u64 16] w fun e w' => e = .returned (.int .i64 4) ∧ w = w' := by
  have hc := ht.1
  have he : IntKind.u64.wrap (bits BinOp.and IntKind.u64 16 (IntKind.u64.wrap (-16)) * 285870213051353865) / 288230376151711744 = 15 := by decide
  clear ht
  go_enter Tryd.func102, Tryd.ntmps102
  go_wp2
  go_ret
  exact ⟨rfl, rfl⟩
theorem tz (w : World) (ht : Tab w) :
    Calls Tryd.prog 99 #[.int .u64 16] w fun e w' => e = .returned (.int .i64 4) ∧ w = w' := by
  go_enter Tryd.func99, Tryd.ntmps99
  go_wp2_with (go_at_call 102; refine (tz64 _ ht).mono ?_; rintro e w' ⟨rfl, rfl⟩)
  go_ret
  exact ⟨rfl, rfl⟩
theorem pow2 (w : World) :
    Calls Tryd.prog 98 #[.int .i64 16] w fun e w' => e = .returned (.bool true) ∧ w = w' := by
  have he : (bits BinOp.and IntKind.i64 16 15 == 0) = true := by decide
  go_enter Tryd.func98, Tryd.ntmps98
  go_wp2
  go_ret
  exact ⟨rfl, rfl⟩

/-- What the array of 65 bytes in block g holds from place i on. -/
structure Buf (g : Nat) (w : World) (i : Nat) (suf : List UInt8) : Prop where
  cells : ∀ j, j < 65 → ∃ v : Int, w.cell? ⟨g, j, none⟩ = some (.int .u8 v)
  free : ∀ j, w.frozen? ⟨g, j, none⟩ = false
  has : ∀ j (h : j < suf.length), w.cell? ⟨g, i + j, none⟩ = some (.int .u8 (suf[j].toNat : Int))

theorem Buf.put {g : Nat} {w : World} {i : Nat} {suf : List UInt8} (h : Buf g w (i + 1) suf) (hi : i < 65) (c : UInt8) : Buf g (w.setCell ⟨g, i, none⟩ (.int .u8 (c.toNat : Int))) i (c :: suf) := by
  obtain ⟨v, hv⟩ := h.cells i hi
  refine ⟨fun j hj => ?_, fun j => ?_, fun j hj => ?_⟩
  · by_cases e : j = i
    · subst e; exact ⟨_, World.cell?_setCell_same _ _ _ hv⟩
    · rw [World.cell?_setCell_other _ _ _ _ (by simp)]; exact h.cells j hj
  · rw [World.frozen?_setCell]; exact h.free j
  · cases j with
    | zero => exact World.cell?_setCell_same _ _ _ hv
    | succ j =>
      rw [World.cell?_setCell_other _ _ _ _ (by simp), show i + (j + 1) = i + 1 + j by omega]
      exact h.has j (by simpa using hj)

/-- The cells of a new array of 65 bytes. -/
def zs65 : Array Value := Array.replicate 65 (.int .u8 0)
theorem zs65_at (i : Nat) (h : i < 65) : zs65[i]? = some (.int .u8 0) := by simp [zs65, h]
theorem zs65_ne : zs65 ≠ #[] := by
  intro h
  have e := zs65_at 0 (by omega)
  rw [h] at e
  simp at e
theorem zv65 (w : World) : (zeroValue 138).run Tryd.prog w = .ok (.agg zs65) w := by
  have h : (Tryd.prog.info? 138).map (·.zero) = some (some (.agg zs65)) := by kernel_rfl
  cases hi : Tryd.prog.info? 138 with
  | none => rw [hi] at h; cases h
  | some i =>
    rw [hi] at h
    have h2 : i.zero = some (.agg zs65) := by simpa using h
    simp [zeroValue, typeInfo, hi, h2]
theorem Buf.new (w : World) : Buf w.heap.size (w.alloc (.cells zs65 138)) 65 [] := by
  refine ⟨fun j hj => ⟨0, ?_⟩, fun j => ?_, fun j hj => ?_⟩
  · rw [World.cell?_alloc_new]; exact zs65_at j hj
  · exact World.frozen?_alloc_new _ _ _ _
  · simp at hj

/-- What strconv's table of digits has at place d. -/
theorem digs_at (d : Nat) (h : d < 16) (h' : d < (⟨#[48, 49, 50, 51, 52, 53, 54, 55, 56, 57, 97, 98, 99, 100, 101, 102, 103, 104, 105, 106, 107, 108, 109, 110, 111, 112, 113, 114, 115, 116, 117, 118, 119, 120, 121, 122]⟩ : ByteArray).size) :
    (⟨#[48, 49, 50, 51, 52, 53, 54, 55, 56, 57, 97, 98, 99, 100, 101, 102, 103, 104, 105, 106, 107, 108, 109, 110, 111, 112, 113, 114, 115, 116, 117, 118, 119, 120, 121, 122]⟩ : ByteArray)[d]'h' = Wd.hexB d := by
  rcases d with _ | _ | _ | _ | _ | _ | _ | _ | _ | _ | _ | _ | _ | _ | _ | _ | d
  all_goals first | rfl | omega

set_option maxHeartbeats 1000000 in
set_option maxRecDepth 100000 in
theorem bits16 (n : Nat) (w : World) (hn : n < 18446744073709551616) (ht : Tab w) :
    Calls Tryd.prog 91 #[.slice none 0 0, .int .u64 n, .int .i64 16, .bool false, .bool false] w fun e w' =>
      e = .returned (.tuple #[.slice none 0 0, .string ⟨(Wd.hex n).toArray⟩]) ∧ Below w.heap.size w w' := by
  have hz := zv65
  have hne := zs65_ne
  have hb0 : Below w.heap.size w (w.alloc (.cells zs65 138)) := (Below.refl _ _).alloc (Nat.le_refl _) _
  have ht0 := ht.below hb0
  go_enter Tryd.func91, Tryd.ntmps91
  go_wp2_with (first
    | (go_at_call 98; refine (pow2 _).mono ?_; rintro e w' ⟨rfl, rfl⟩)
    | (go_at_call 99; refine (tz _ ht0).mono ?_; rintro e w' ⟨rfl, rfl⟩))
  clear ht ht0 hz hne
  go_loopw [1, 13] (fun u i w' => ∃ (x k : Nat) (suf : List UInt8), u = .int .u64 x ∧ i = .int .i64 k ∧ 50 ≤ k ∧ k ≤ 65 ∧ x < 16 ^ (k - 49) ∧ suf.length = 65 - k ∧ Wd.hex n = Wd.hex x ++ suf ∧ Buf w.heap.size w' k suf ∧ Below w.heap.size w w') (fun u _ _ => (intOf u).toNat)
  case atStart => exact ⟨n, 65, [], rfl, rfl, by omega, by omega, by simpa using hn, rfl, by simp, Buf.new w, hb0⟩
  case round =>
    obtain ⟨x, k, suf, rfl, rfl, hk0, hk1, hx, hl, he, hB, hW⟩ := hrel
    obtain ⟨m, rfl⟩ : ∃ m, k = m + 1 := ⟨k - 1, by omega⟩
    have hx64 : x < 18446744073709551616 := Nat.lt_of_lt_of_le hx (Wd.pow16_le _ hk1)
    obtain ⟨v, hc⟩ := hB.cells m (by omega)
    have hf := hB.free m
    have HB := Lib.hid hB
    have HW := Lib.hid hW
    have HE := Lib.hid he
    have HL := Lib.hid hl
    have HX := Lib.hid hx
    clear hB hW he hl hx hb0
    by_cases hge : 16 ≤ x
    · have hand : bits .and .u64 (x : Int) 15 = ((x % 16 : Nat) : Int) := Wd.and15 x hx64
      have hm16 : x % 16 < 16 := by omega
      go_wp2
      obtain ⟨h50, hx'⟩ := Wd.pow16_step HX.out hge
      rw [digs_at (x % 16) hm16]
      refine ⟨⟨x / 16, m, Wd.hexB (x % 16) :: suf, by go_num, rfl, h50, by omega, hx', by simp [HL.out]; omega, ?_, HB.out.put (by omega) _, HW.out.setCell (Nat.le_refl _) _⟩, by simp [intOf]; omega⟩
      rw [HE.out, Wd.hex_ge hge]
      simp
    · have hlt : x < 16 := by omega
      have hsl : ∀ W, (Instr.sliceAt 138 (.pointer (some ⟨w.heap.size, 0, none⟩)) (some (.int .i64 (m : Int))) none none).run Tryd.prog W = .ok (.slice (some ⟨w.heap.size, m, none⟩) (65 - m) (65 - m)) W := fun W => by
        rw [run_sliceAt_array_l W 138 ⟨w.heap.size, 0, none⟩ Tryd.underlying138 .i64 (m : Int) (by omega) (by show (m : Int) ≤ 65; omega)]
        go_simp
        omega
      have hcv := run_convert_bytes_back (P := Tryd.prog) (wr.setCell ⟨w.heap.size, m, none⟩ (.int .u8 ((Wd.hexB x).toNat : Int))) 75 9 5 ⟨w.heap.size, m, none⟩ (65 - m) (Wd.hexB x :: suf) Tryd.underlying75 Tryd.underlying5 Tryd.underlying9 (fun j hj => by rw [show (⟨w.heap.size, m, none⟩ : Addr).add j = ⟨w.heap.size, m + j, none⟩ by simp [Addr.add]]; exact (HB.out.put (by omega) _).has j hj)
      rw [show (Wd.hexB x :: suf).length = 65 - m by simp [HL.out]; omega, ← digs_at x hlt (by show x < 36; omega)] at hcv
      clear HL HX
      go_wp2
      go_ret2
      refine ⟨?_, HW.out.setCell (Nat.le_refl _) _⟩
      rw [HE.out, Wd.hex_lt hlt, ← digs_at x hlt (by show x < 36; omega)]
      rfl

theorem fmt_i (n : Nat) (w : World) (hn : n < 18446744073709551616) (ht : Tab w) :
    Calls Tryd.prog 82 #[.int .u64 n, .int .i64 16] w fun e w' => e = .returned (.string ⟨(Wd.hex n).toArray⟩) ∧ Below w.heap.size w w' := by
  go_enter Tryd.func82, Tryd.ntmps82
  go_wp2_with (go_at_call 91; refine (bits16 n _ hn ht).mono ?_; rintro e w' ⟨rfl, hb⟩)
  go_ret
  exact ⟨rfl, hb⟩
theorem fmt_o (n : Nat) (w : World) (hn : n < 18446744073709551616) (ht : Tab w) :
    Calls Tryd.prog 76 #[.int .u64 n, .int .i64 16] w fun e w' => e = .returned (.string ⟨(Wd.hex n).toArray⟩) ∧ Below w.heap.size w w' := by
  go_enter Tryd.func76, Tryd.ntmps76
  go_wp2_with (go_at_call 82; refine (fmt_i n _ hn ht).mono ?_; rintro e w' ⟨rfl, hb⟩)
  go_ret
  exact ⟨rfl, hb⟩

/-- word.Text. -/
theorem text_any (n : Nat) (w : World) (hn : n < 18446744073709551616) (ht : Tab w) :
    Calls Tryd.prog 65 #[.int .u64 n] w fun e w' => e = .returned (.string (Wd.txt n)) ∧ Below w.heap.size w w' := by
  have hl := Wd.hex_len16 n hn
  go_enter Tryd.func65, Tryd.ntmps65
  go_wp2_with (go_at_call 76; refine (fmt_o n _ hn ht).mono ?_; rintro e w' ⟨rfl, hb⟩)
  go_ret
  exact ⟨congrArg (fun s => Ending.returned (.string s)) (Wd.joined [48, 120] (Wd.hex n)), hb⟩
end Go.Proofs.YtbhondjfilohdaaDoor

/-
  What word.Parse answers, for any text of at most 2^62 bytes, in every world: the number whose text it is, and OK; or 0 and ErrForm, if it is no number's text. Nothing that was there is changed.
-/
namespace Go.Proofs.YtbhondjfilohdaaDoor
open Go.ChangeShapes Go.WideShapes Go.ChangeAt Go.RowKit

theorem ret2u {v v' : Int} {c c' : Bool} (h : v = v') (hc : c = c') : Ending.returned (.tuple #[.int .u64 v, .bool c]) = .returned (.tuple #[.int .u64 v', .bool c']) := by rw [h, hc]

theorem digit_lo (r : Int) (w : World) (h0 : 48 ≤ r) (h1 : r ≤ 57) :
    Calls Tryd.prog 72 #[.int .i32 r] w fun e w' => e = .returned (.tuple #[.int .u64 (r - 48), .bool true]) ∧ w = w' := by
  go_enter Tryd.func72, Tryd.ntmps72
  go_wp2
  go_ret2
  exact ⟨rfl, rfl⟩
theorem digit_hi (r : Int) (w : World) (h0 : 97 ≤ r) (h1 : r ≤ 102) :
    Calls Tryd.prog 72 #[.int .i32 r] w fun e w' => e = .returned (.tuple #[.int .u64 (r - 97 + 10), .bool true]) ∧ w = w' := by
  have h2 : 48 ≤ r := by omega
  have h3 : decide (r ≤ 57) = false := by simp; omega
  go_enter Tryd.func72, Tryd.ntmps72
  go_wp2
  go_ret2
  exact ⟨rfl, rfl⟩
theorem digit_no (r : Int) (w : World) (h : ¬ (48 ≤ r ∧ r ≤ 57) ∧ ¬ (97 ≤ r ∧ r ≤ 102)) :
    Calls Tryd.prog 72 #[.int .i32 r] w fun e w' => e = .returned (.tuple #[.int .u64 0, .bool false]) ∧ w = w' := by
  by_cases h1 : r < 48
  · have h2 : decide (48 ≤ r) = false := by simp; omega
    have h3 : decide (97 ≤ r) = false := by simp; omega
    clear h
    go_enter Tryd.func72, Tryd.ntmps72
    go_wp2
    go_ret2
    exact ⟨rfl, rfl⟩
  · by_cases h4 : r < 97
    · have h2 : decide (48 ≤ r) = true := by simp; omega
      have h5 : decide (r ≤ 57) = false := by simp; omega
      have h3 : decide (97 ≤ r) = false := by simp; omega
      clear h
      go_enter Tryd.func72, Tryd.ntmps72
      go_wp2
      go_ret2
      exact ⟨rfl, rfl⟩
    · have h2 : decide (48 ≤ r) = true := by simp; omega
      have h5 : decide (r ≤ 57) = false := by simp; omega
      have h3 : decide (97 ≤ r) = true := by simp; omega
      have h6 : decide (r ≤ 102) = false := by simp; omega
      clear h
      go_enter Tryd.func72, Tryd.ntmps72
      go_wp2
      go_ret2
      exact ⟨rfl, rfl⟩
theorem digit_yes (d : Nat) (r : Int) (w : World) (hd : d < 16) (hr : r = ((Wd.hexB d).toNat : Int)) :
    Calls Tryd.prog 72 #[.int .i32 r] w fun e w' => e = .returned (.tuple #[.int .u64 d, .bool true]) ∧ w = w' := by
  by_cases h : d < 10
  · rw [Wd.hexB_lo d h] at hr
    refine (digit_lo r w (by omega) (by omega)).mono ?_
    rintro e w' ⟨rfl, rfl⟩
    exact ⟨ret2u (by omega) rfl, rfl⟩
  · rw [Wd.hexB_hi d (by omega) hd] at hr
    refine (digit_hi r w (by omega) (by omega)).mono ?_
    rintro e w' ⟨rfl, rfl⟩
    exact ⟨ret2u (by omega) rfl, rfl⟩

/-- What comes of reading a text. -/
def ParseEnd (s : ByteArray) (e : Ending) : Prop :=
  (∃ n : Nat, n < 18446744073709551616 ∧ s = Wd.txt n ∧ e = .returned (.tuple #[.int .u64 n, .int .i64 0])) ∨
  ((∀ n : Nat, n < 18446744073709551616 → s ≠ Wd.txt n) ∧ e = .returned (.tuple #[.int .u64 0, .int .i64 2]))

theorem not_txt {s : ByteArray} (h : ∀ m : Nat, m < 18446744073709551616 → s.data.toList = 48 :: 120 :: Wd.hex m → False) : ParseEnd s (.returned (.tuple #[.int .u64 0, .int .i64 2])) :=
  .inr ⟨fun m hm e => h m hm (by rw [e]; rfl), rfl⟩

theorem sign0 : wrap32 (((⟨#[48, 120]⟩ : ByteArray)[0]'(by decide)).toNat : Int) = 48 := IntWalk.wrap32_in 48 (by omega)
theorem sign1 : wrap32 (((⟨#[48, 120]⟩ : ByteArray)[1]'(by decide)).toNat : Int) = 120 := IntWalk.wrap32_in 120 (by omega)

/-- Each byte of a number's text is below 128. -/
theorem next_ascii {l : List UInt8} {p n m : Nat} (h : Wd.Read l p n) (e : l = 48 :: 120 :: Wd.hex m) (hm : m < 18446744073709551616) (hl : p < l.length) : ∃ c : UInt8, l[p] = c ∧ c.toNat < 128 := by
  subst e
  obtain ⟨h1, h2, _⟩ := h.next hm hl
  refine ⟨_, rfl, ?_⟩
  by_cases hp : p < 2
  · have := h1 hp
    rcases p with _ | _ | p
    · exact (by decide : (48 : UInt8).toNat < 128)
    · exact (by decide : (120 : UInt8).toNat < 128)
    · omega
  · obtain ⟨d, hd, hc⟩ := h2 (by omega)
    rw [hc]
    by_cases h10 : d < 10
    · rw [Wd.hexB_lo d h10]; omega
    · rw [Wd.hexB_hi d (by omega) hd]; omega

set_option maxHeartbeats 1000000 in
theorem parse_any (s : ByteArray) (w : World) (hs : s.size ≤ 4611686018427387904) :
    Calls Tryd.prog 58 #[.string s] w fun e w' => ParseEnd s e ∧ Below w.heap.size w w' := by
  by_cases h2 : s.size ≤ 2
  · go_enter Tryd.func58, Tryd.ntmps58
    go_wp2
    go_ret2
    refine ⟨not_txt fun m _ e => ?_, Below.refl _ _⟩
    have := congrArg List.length e
    have hp := List.length_pos_iff.2 (Wd.hex_ne m)
    simp at this
    omega
  · have hd2 : decide (s.size ≤ 2) = false := by simpa using h2
    go_enter Tryd.func58, Tryd.ntmps58
    go_wp2
    go_loopw [4] (fun n w' => ∃ (p x : Nat), p ≤ s.size ∧ n = .int .u64 x ∧ w' = w.iter s p ∧ Wd.Read s.data.toList p x) (fun _ w' => s.size - w'.iterPos w.heap.size)
    case atStart => exact ⟨0, 0, by omega, rfl, rfl, Wd.Read.start _⟩
    case round =>
      obtain ⟨p, x, hp, rfl, rfl, hR⟩ := hrel
      have HR := Lib.hid hR
      have hx := hR.1
      have hBw : ∀ q, Below w.heap.size w (w.iter s q) := fun q => (Below.refl _ _).alloc (Nat.le_refl _) _
      have HBw := Lib.hid hBw
      clear hR hBw
      have w48 := sign0
      have w120 := sign1
      by_cases hlt : p < s.size
      · have hlt' : p < s.data.toList.length := hlt
        have hget : s[p] = s.data.toList[p] := rfl
        have HG := Lib.hid hget
        clear hget
        by_cases ha : s[p].toNat < 128
        · have hnx := fun ty => run_next_ascii (P := Tryd.prog) w s p ty hlt ha
          by_cases hp2 : p < 2
          · by_cases hp0 : p = 0
            · obtain rfl := hp0
              by_cases hc : s[0].toNat = 48
              · have hne : ((s[0].toNat : Int) != 48) = false := by simp; omega
                have Hc := Lib.hid hc
                clear hc
                go_wp2
                obtain ⟨h0, hR1⟩ := HR.out.sign hp2 hlt' (by rw [← HG.out]; simp; exact (UInt8.toNat_inj.1 Hc.out).symm)
                refine ⟨⟨1, x, by omega, rfl, rfl, h0 ▸ hR1⟩, ?_⟩
                simp
                omega
              · have hne : ((s[0].toNat : Int) != 48) = true := by simp; omega
                have hfin : ParseEnd s (.returned (.tuple #[.int .u64 0, .int .i64 2])) := not_txt fun m hm e => by
                  apply hc
                  rw [HG.out]
                  simp only [e]
                  rfl
                have HF := Lib.hid hfin
                clear hfin hc
                go_wp2
                go_ret2
                exact ⟨HF.out, HBw.out _⟩
            · obtain rfl : p = 1 := by omega
              by_cases hc : s[1].toNat = 120
              · have hne : ((s[1].toNat : Int) != 120) = false := by simp; omega
                have Hc := Lib.hid hc
                clear hc
                go_wp2
                obtain ⟨h0, hR1⟩ := HR.out.sign hp2 hlt' (by rw [← HG.out]; simp; exact (UInt8.toNat_inj.1 Hc.out).symm)
                refine ⟨⟨2, x, by omega, rfl, rfl, h0 ▸ hR1⟩, ?_⟩
                simp
                omega
              · have hne : ((s[1].toNat : Int) != 120) = true := by simp; omega
                have hfin : ParseEnd s (.returned (.tuple #[.int .u64 0, .int .i64 2])) := not_txt fun m hm e => by
                  apply hc
                  rw [HG.out]
                  simp only [e]
                  rfl
                have HF := Lib.hid hfin
                clear hfin hc
                go_wp2
                go_ret2
                exact ⟨HF.out, HBw.out _⟩
          · by_cases hdg : ∃ d, d < 16 ∧ s[p] = Wd.hexB d
            · obtain ⟨d, hd, hc⟩ := hdg
              have hci : (s[p].toNat : Int) = ((Wd.hexB d).toNat : Int) := by rw [hc]
              by_cases hok : x ≤ 1152921504606846975 ∧ (2 < p → x ≠ 0)
              · obtain ⟨hx60, hz⟩ := hok
                have hR1 := HR.out.digit (by omega) hlt' hd (by rw [← HG.out, hc]) hx60 hz
                have hor := Wd.or16 x d hx60 hd
                have HR1 := Lib.hid hR1
                have Hc := Lib.hid hci
                clear hR1 hc hci HG HR
                by_cases hp3 : 2 < p
                · have hzb : ((x : Int) == 0) = false := by have := hz hp3; simp; omega
                  clear hz
                  go_wp2_with (go_at_call 72; refine (digit_yes d _ _ hd Hc.out).mono ?_; rintro e w' ⟨rfl, rfl⟩)
                  refine ⟨⟨p + 1, x * 16 + d, by omega, rfl, rfl, HR1.out⟩, ?_⟩
                  simp
                  omega
                · obtain rfl : p = 2 := by omega
                  clear hz
                  go_wp2_with (go_at_call 72; refine (digit_yes d _ _ hd Hc.out).mono ?_; rintro e w' ⟨rfl, rfl⟩)
                  refine ⟨⟨2 + 1, x * 16 + d, by omega, rfl, rfl, HR1.out⟩, ?_⟩
                  simp
                  omega
              · have hfin : ParseEnd s (.returned (.tuple #[.int .u64 0, .int .i64 2])) := not_txt fun m hm e => by
                  have hl := hlt'
                  have h1 := HR.out
                  simp only [e] at h1 hl
                  have h3 := h1.next hm hl
                  exact hok ⟨h3.2.2.2, h3.2.2.1⟩
                have HF := Lib.hid hfin
                have Hc := Lib.hid hci
                clear hfin hc hci HG
                by_cases hx60 : x ≤ 1152921504606846975
                · have h23 : 2 < p ∧ x = 0 := by
                    by_cases a : 2 < p
                    · refine ⟨a, ?_⟩
                      by_cases b : x = 0
                      · exact b
                      · exact absurd ⟨hx60, fun _ => b⟩ hok
                    · exact absurd ⟨hx60, fun b => absurd b a⟩ hok
                  obtain ⟨h23, rfl⟩ := h23
                  clear hok
                  go_wp2_with (go_at_call 72; refine (digit_yes d _ _ hd Hc.out).mono ?_; rintro e w' ⟨rfl, rfl⟩)
                  go_ret2
                  exact ⟨HF.out, HBw.out _⟩
                · clear hok
                  go_wp2_with (go_at_call 72; refine (digit_yes d _ _ hd Hc.out).mono ?_; rintro e w' ⟨rfl, rfl⟩)
                  go_ret2
                  exact ⟨HF.out, HBw.out _⟩
            · have hfin : ParseEnd s (.returned (.tuple #[.int .u64 0, .int .i64 2])) := not_txt fun m hm e => by
                have hl := hlt'
                have h1 := HR.out
                simp only [e] at h1 hl
                obtain ⟨d, hd, hc⟩ := (h1.next hm hl).2.1 (by omega)
                refine hdg ⟨d, hd, ?_⟩
                rw [HG.out]
                simp only [e]
                exact hc
              have HF := Lib.hid hfin
              have hno : ¬ (48 ≤ (s[p].toNat : Int) ∧ (s[p].toNat : Int) ≤ 57) ∧ ¬ (97 ≤ (s[p].toNat : Int) ∧ (s[p].toNat : Int) ≤ 102) := by
                refine ⟨fun h => hdg ⟨s[p].toNat - 48, by omega, ?_⟩, fun h => hdg ⟨s[p].toNat - 87, by omega, ?_⟩⟩
                · apply UInt8.toNat_inj.1; rw [Wd.hexB_lo _ (by omega)]; omega
                · apply UInt8.toNat_inj.1; rw [Wd.hexB_hi _ (by omega) (by omega)]; omega
              have Hno := Lib.hid hno
              clear hfin hdg hno HG
              go_wp2_with (go_at_call 72; refine (digit_no _ _ Hno.out).mono ?_; rintro e w' ⟨rfl, rfl⟩)
              go_ret2
              exact ⟨HF.out, HBw.out _⟩
        · have hnx := fun ty => run_next_any (P := Tryd.prog) w s p ty hlt
          have hr0 := (decode_high s p hlt (by omega)).1
          have hr1 := decode_le s p
          have hfin : ParseEnd s (.returned (.tuple #[.int .u64 0, .int .i64 2])) := not_txt fun m hm e => by
            obtain ⟨c, hc, hd⟩ := next_ascii HR.out e hm hlt'
            rw [HG.out, hc] at ha
            exact ha hd
          have HF := Lib.hid hfin
          clear hfin
          by_cases hp2 : p < 2
          · by_cases hp0 : p = 0
            · obtain rfl := hp0
              have hne : (((Utf8.decode s 0).1 : Int) != 48) = true := by simp; omega
              go_wp2
              go_ret2
              exact ⟨HF.out, HBw.out _⟩
            · obtain rfl : p = 1 := by omega
              have hne : (((Utf8.decode s 1).1 : Int) != 120) = true := by simp; omega
              go_wp2
              go_ret2
              exact ⟨HF.out, HBw.out _⟩
          · go_wp2_with (go_at_call 72; refine (digit_no _ _ (by omega)).mono ?_; rintro e w' ⟨rfl, rfl⟩)
            go_ret2
            exact ⟨HF.out, HBw.out _⟩
      · have hnx := fun ty => run_next_end (P := Tryd.prog) w s p ty hlt
        go_wp2
        go_ret2
        refine ⟨.inl ⟨x, hx, ?_, rfl⟩, HBw.out _⟩
        apply ByteArray.ext
        apply Array.ext'
        exact HR.out.done (by show s.size ≤ p; omega) (by show 3 ≤ s.size; omega)
end Go.Proofs.YtbhondjfilohdaaDoor

/-
  A number's text is read as the number (word.Parse at word.Text's answers), in every world.
-/
namespace Go.Proofs.YtbhondjfilohdaaDoor
open Go.ChangeShapes Go.WideShapes Go.ChangeAt Go.RowKit

end Go.Proofs.YtbhondjfilohdaaDoor
/-
  Records of system calls, plainly: their words, their bytes, and both ways between them.
-/
namespace Go.Proofs.YtbhondjfilohdaaDoor
open Go.RowKit

/-- A record. -/
structure Rec where
  nr : Nat
  arch : Nat
  ip : Nat
  a0 : Nat
  a1 : Nat
  a2 : Nat
  a3 : Nat
  a4 : Nat
  a5 : Nat
deriving DecidableEq
/-- Its numbers fit. -/
def Rec.ok (d : Rec) : Prop := d.nr < 4294967296 ∧ d.arch < 4294967296 ∧ d.ip < 18446744073709551616 ∧ d.a0 < 18446744073709551616 ∧ d.a1 < 18446744073709551616 ∧ d.a2 < 18446744073709551616 ∧ d.a3 < 18446744073709551616 ∧ d.a4 < 18446744073709551616 ∧ d.a5 < 18446744073709551616
abbrev Rec.cells (d : Rec) : Array Value := #[.int .u32 d.nr, .int .u32 d.arch, .int .u64 d.ip, .int .u64 d.a0, .int .u64 d.a1, .int .u64 d.a2, .int .u64 d.a3, .int .u64 d.a4, .int .u64 d.a5]
abbrev Rec.val (d : Rec) : Value := .agg d.cells
end Go.Proofs.YtbhondjfilohdaaDoor

/-
  Package data's small functions: split, join, begins, argByte, Low, High; and the document's Low.
-/
namespace Go.Proofs.YtbhondjfilohdaaDoor
open Go.ChangeShapes Go.WideShapes Go.ChangeAt Go.RowKit
set_option maxRecDepth 20000

end Go.Proofs.YtbhondjfilohdaaDoor

/-
  What data.words and data.record answer: a record's sixteen words, and the record of sixteen words.
-/
namespace Go.Proofs.YtbhondjfilohdaaDoor
open Go.ChangeShapes Go.WideShapes Go.ChangeAt Go.RowKit
set_option maxRecDepth 20000

end Go.Proofs.YtbhondjfilohdaaDoor

/-
  What data.record answers: the record of sixteen words.
-/
namespace Go.Proofs.YtbhondjfilohdaaDoor
open Go.ChangeShapes Go.WideShapes Go.ChangeAt Go.RowKit
set_option maxRecDepth 20000

def z9 : Array Value := #[.int .u32 0, .int .u32 0, .int .u64 0, .int .u64 0, .int .u64 0, .int .u64 0, .int .u64 0, .int .u64 0, .int .u64 0]
end Go.Proofs.YtbhondjfilohdaaDoor

/-
  What data.Word answers.
-/
namespace Go.Proofs.YtbhondjfilohdaaDoor
open Go.ChangeShapes Go.WideShapes Go.ChangeAt Go.RowKit
set_option maxRecDepth 20000

end Go.Proofs.YtbhondjfilohdaaDoor
/-
  The document's own way (package hurdleref04): low and number; pieces of bytes.
-/
namespace Go.Proofs.YtbhondjfilohdaaDoor
open Go.ChangeShapes Go.WideShapes Go.ChangeAt Go.RowKit
set_option maxRecDepth 20000

theorem BAt.upto {w : World} {v : Value} {b : List UInt8} (h : BAt w v b) (hi : Nat) (y : Int) (hy : y = hi) (hh : hi ≤ b.length) :
    ∃ v', (∀ W, (Instr.slice 75 v none (some (.int .i64 y)) none).run Tryd.prog W = .ok v' W) ∧ BAt w v' (b.take hi) := by
  subst hy
  obtain ⟨ao, cap, rfl, hcap, hmax, hD⟩ := h
  have hl : (b.take hi).length = hi := by rw [List.length_take]; omega
  rcases hD with rfl | ⟨g, off, rfl, hg, hc⟩
  · simp at hh
    subst hh
    cases ao with
    | none => exact ⟨.slice none 0 cap, fun W => by go_simp, none, cap, rfl, hcap, hmax, .inl rfl⟩
    | some a => exact ⟨.slice (some a) 0 cap, fun W => by go_simp, some a, cap, rfl, hcap, hmax, .inl rfl⟩
  · refine ⟨.slice (some ⟨g, off, none⟩) hi cap, fun W => ?_, some ⟨g, off, none⟩, cap, by rw [hl], by omega, by omega, .inr ⟨g, off, rfl, hg, fun i hi' => ?_⟩⟩
    · go_simp
      (try (intro h; omega))
    · rw [hc i (by omega)]
      simp
theorem BAt.past {w : World} {v : Value} {b : List UInt8} (h : BAt w v b) (lo : Nat) (x : Int) (hx : x = lo) (hh : lo ≤ b.length) :
    ∃ v', (∀ W, (Instr.slice 75 v (some (.int .i64 x)) none none).run Tryd.prog W = .ok v' W) ∧ BAt w v' (b.drop lo) := by
  subst hx
  obtain ⟨ao, cap, rfl, hcap, hmax, hD⟩ := h
  have hl : (b.drop lo).length = b.length - lo := List.length_drop
  rcases hD with rfl | ⟨g, off, rfl, hg, hc⟩
  · simp at hh
    subst hh
    cases ao with
    | none => exact ⟨.slice none 0 cap, fun W => by go_simp, none, cap, rfl, hcap, hmax, .inl rfl⟩
    | some a => exact ⟨.slice (some a) 0 cap, fun W => by go_simp, some a, cap, rfl, hcap, hmax, .inl rfl⟩
  · by_cases hc1 : cap = lo
    · refine ⟨.slice (some ⟨g, off, none⟩) (b.length - lo) 0, fun W => ?_, some ⟨g, off, none⟩, 0, by rw [hl], by omega, by omega, .inl ?_⟩
      · subst hc1
        go_simp
        (try (intro h; omega))
      · exact List.eq_nil_of_length_eq_zero (by omega)
    · refine ⟨.slice (some ⟨g, off + lo, none⟩) (b.length - lo) (cap - lo), fun W => ?_, some ⟨g, off + lo, none⟩, cap - lo, by rw [hl], by omega, by omega, .inr ⟨g, off + lo, rfl, hg, fun i hi' => ?_⟩⟩
      · go_simp
        (try (intro h; omega))
      · rw [Nat.add_assoc, hc (lo + i) (by omega)]
        simp
end Go.Proofs.YtbhondjfilohdaaDoor

/-
  The document's own way (package hurdleref04): Bytes.
-/
namespace Go.Proofs.YtbhondjfilohdaaDoor
open Go.ChangeShapes Go.WideShapes Go.ChangeAt Go.RowKit
set_option maxRecDepth 20000

def argsD (d : Rec) : List Nat := [d.a0, d.a1, d.a2, d.a3, d.a4, d.a5]
theorem args_lt {d : Rec} (h : d.ok) (k : Nat) : (argsD d).getD k 0 < 18446744073709551616 := by
  obtain ⟨nr, arch, ip, a0, a1, a2, a3, a4, a5⟩ := d
  obtain ⟨h0, h1, h2, h3, h4, h5, h6, h7, h8⟩ := h
  simp only at h0 h1 h2 h3 h4 h5 h6 h7 h8
  rcases k with _ | _ | _ | _ | _ | _ | k <;> simp [argsD] <;> omega
theorem args_cell (d : Rec) (k : Nat) (hk : k < 6) : d.cells[3 + k]? = some (.int .u64 (((argsD d).getD k 0 : Nat) : Int)) := by
  obtain rfl | rfl | rfl | rfl | rfl | rfl : k = 0 ∨ k = 1 ∨ k = 2 ∨ k = 3 ∨ k = 4 ∨ k = 5 := by omega
  all_goals rfl
end Go.Proofs.YtbhondjfilohdaaDoor
/-
  Conditions, plainly: which are right, of which records they hold, their texts, and what is read of a text.
-/
namespace Go.Proofs.YtbhondjfilohdaaDoor
open Go.RowKit

/-- A condition. -/
structure Cd where
  arg : Int
  cmp : Int
  mask : Nat
  value : Nat
deriving DecidableEq
def Cd.ok (c : Cd) : Prop := c.mask < 18446744073709551616 ∧ c.value < 18446744073709551616
abbrev cdB (c : Cd) : Obj := .cells #[.int .i64 c.arg, .int .i64 c.cmp, .int .u64 (c.mask : Nat), .int .u64 (c.value : Nat)] 46
abbrev Cd.val (c : Cd) : Value := .agg #[.int .i64 c.arg, .int .i64 c.cmp, .int .u64 (c.mask : Nat), .int .u64 (c.value : Nat)]
def zeroCd : Cd := ⟨0, 0, 0, 0⟩
def Cd.right (c : Cd) : Bool := decide (0 ≤ c.arg) && decide (c.arg ≤ 5) && decide (0 ≤ c.cmp) && decide (c.cmp ≤ 5)
theorem Cd.right_iff (c : Cd) : c.right = true ↔ 0 ≤ c.arg ∧ c.arg ≤ 5 ∧ 0 ≤ c.cmp ∧ c.cmp ≤ 5 := by
  unfold Cd.right
  simp only [Bool.and_eq_true, decide_eq_true_eq]
  omega
/-- What a comparison says of two numbers. -/
def cmpB (k : Int) (v x : Nat) : Bool := if k = 0 then v == x else if k = 1 then v != x else if k = 2 then decide (v < x) else if k = 3 then decide (v ≤ x) else if k = 4 then decide (x < v) else decide (x ≤ v)
/-- The bits of the argument that the mask has. -/
def Cd.bits (c : Cd) (d : Rec) : Nat := (argsD d).getD c.arg.toNat 0 &&& c.mask
def Cd.holds (c : Cd) (d : Rec) : Bool := c.right && cmpB c.cmp (c.bits d) c.value
def notK (k : Int) : Int := if k = 0 then 1 else if k = 1 then 0 else if k = 2 then 5 else if k = 5 then 2 else if k = 3 then 4 else if k = 4 then 3 else k
theorem six {k : Int} (h0 : 0 ≤ k) (h5 : k ≤ 5) : k = 0 ∨ k = 1 ∨ k = 2 ∨ k = 3 ∨ k = 4 ∨ k = 5 := by omega
theorem holds_bad {c : Cd} (h : c.right = false) (d : Rec) : c.holds d = false := by unfold Cd.holds; rw [h]; rfl
/-! ### Texts -/
/-- The words of the comparisons. -/
def cmpW (k : Int) : List UInt8 := if k = 0 then [101, 113] else if k = 1 then [110, 101] else if k = 2 then [108, 116] else if k = 3 then [108, 101] else if k = 4 then [103, 116] else [103, 101]
def numT (n : Nat) : List UInt8 := 48 :: 120 :: Wd.hex n
def argW (k : Int) : List UInt8 := [97, UInt8.ofNat (48 + k.toNat)]
def textQ (c : Cd) : List UInt8 := argW c.arg ++ 32 :: (numT c.mask ++ 32 :: (cmpW c.cmp ++ 32 :: numT c.value))
theorem hexB_32 {d : Nat} (h : d < 16) : Wd.hexB d ≠ 32 := by
  intro e
  have := congrArg UInt8.toNat e
  by_cases h10 : d < 10
  · rw [Wd.hexB_lo d h10] at this
    simp at this
    omega
  · rw [Wd.hexB_hi d (by omega) h] at this
    simp at this
    omega
theorem numT_32 (n : Nat) : ∀ c ∈ numT n, c ≠ 32 := by
  intro c hc
  unfold numT at hc
  simp only [List.mem_cons] at hc
  rcases hc with rfl | rfl | hc
  · decide
  · decide
  · obtain ⟨d, hd, rfl⟩ := Wd.hex_mem n c hc
    exact hexB_32 hd
theorem cmpW_32 (k : Int) : ∀ c ∈ cmpW k, c ≠ 32 := by
  unfold cmpW
  repeat' split
  all_goals decide
theorem argW_32 {k : Int} (h0 : 0 ≤ k) (h5 : k ≤ 5) : ∀ c ∈ argW k, c ≠ 32 := by
  rcases six h0 h5 with rfl | rfl | rfl | rfl | rfl | rfl <;> decide
theorem cmpW_inj {k j : Int} (h0 : 0 ≤ k) (h5 : k ≤ 5) (g0 : 0 ≤ j) (g5 : j ≤ 5) (h : cmpW k = cmpW j) : k = j := by
  rcases six h0 h5 with rfl | rfl | rfl | rfl | rfl | rfl <;> rcases six g0 g5 with rfl | rfl | rfl | rfl | rfl | rfl <;> first | rfl | exact absurd h (by decide)
theorem argW_inj {k j : Int} (h0 : 0 ≤ k) (h5 : k ≤ 5) (g0 : 0 ≤ j) (g5 : j ≤ 5) (h : argW k = argW j) : k = j := by
  rcases six h0 h5 with rfl | rfl | rfl | rfl | rfl | rfl <;> rcases six g0 g5 with rfl | rfl | rfl | rfl | rfl | rfl <;> first | rfl | exact absurd h (by decide)
theorem numT_inj {m n : Nat} (h : numT m = numT n) : m = n := by
  unfold numT at h
  simp only [List.cons.injEq, true_and] at h
  exact Wd.hex_inj h
/-! ### The consequences -/
end Go.Proofs.YtbhondjfilohdaaDoor
/-
  Names, plainly: a table's text of a number, and which number has a text; machines, calls and actions.
-/
namespace Go.Proofs.YtbhondjfilohdaaDoor
open Go.RowKit

/-- Names and their numbers. -/
abbrev Tbl := List (ByteArray × Nat)
def textN : Tbl → Nat → ByteArray
  | [], n => Wd.txt n
  | p :: T, n => if p.2 = n then p.1 else textN T n
/-- A table is right: names apart, numbers apart, no name begins as digits do, numbers are small. -/
def tblGood : Tbl → Bool
  | [] => true
  | p :: T => T.all (fun q => decide (p.1 ≠ q.1) && decide (p.2 ≠ q.2)) && (p.1.data.toList.head? != some 48) && decide (p.2 < 4294967296) && tblGood T
theorem txt_head (n : Nat) : (Wd.txt n).data.toList.head? = some 48 := rfl
theorem tbl_cons {p : ByteArray × Nat} {T : Tbl} (h : tblGood (p :: T) = true) : (∀ q ∈ T, p.1 ≠ q.1 ∧ p.2 ≠ q.2) ∧ p.1.data.toList.head? ≠ some 48 ∧ p.2 < 4294967296 ∧ tblGood T = true := by
  unfold tblGood at h
  simp only [Bool.and_eq_true, List.all_eq_true, bne_iff_ne, ne_eq, decide_eq_true_eq] at h
  exact ⟨h.1.1.1, h.1.1.2, h.1.2, h.2⟩
/-- A number's text is a name of the table, or its digits. -/
theorem textN_is (T : Tbl) (n : Nat) : (∃ p ∈ T, p.2 = n ∧ textN T n = p.1) ∨ ((∀ p ∈ T, p.2 ≠ n) ∧ textN T n = Wd.txt n) := by
  induction T with
  | nil => exact .inr ⟨by simp, rfl⟩
  | cons p T ih =>
    unfold textN
    by_cases h : p.2 = n
    · exact .inl ⟨p, by simp, h, by rw [if_pos h]⟩
    · rw [if_neg h]
      rcases ih with ⟨q, hq, h1, h2⟩ | ⟨h1, h2⟩
      · exact .inl ⟨q, by simp [hq], h1, h2⟩
      · refine .inr ⟨fun q hq => ?_, h2⟩
        rcases List.mem_cons.1 hq with rfl | hq
        · exact h
        · exact h1 q hq
/-- What is found by its name has that name as its text. -/
theorem textN_of {T : Tbl} (hT : tblGood T = true) {p : ByteArray × Nat} (hp : p ∈ T) : textN T p.2 = p.1 := by
  induction T with
  | nil => simp at hp
  | cons q T ih =>
    obtain ⟨h1, _, _, h4⟩ := tbl_cons hT
    unfold textN
    rcases List.mem_cons.1 hp with rfl | hp
    · rw [if_pos rfl]
    · rw [if_neg (h1 p hp).2]
      exact ih h4 hp
theorem tbl_names {T : Tbl} (hT : tblGood T = true) {p q : ByteArray × Nat} (hp : p ∈ T) (hq : q ∈ T) (h : p.1 = q.1) : p = q := by
  induction T with
  | nil => simp at hp
  | cons r T ih =>
    obtain ⟨h1, _, _, h4⟩ := tbl_cons hT
    rcases List.mem_cons.1 hp with e | hp' <;> rcases List.mem_cons.1 hq with e' | hq'
    · rw [e, e']
    · rw [e] at h
      exact absurd h (h1 q hq').1
    · rw [e'] at h
      exact absurd h.symm (h1 p hp').1
    · exact ih h4 hp' hq'
theorem tbl_head {T : Tbl} (hT : tblGood T = true) {p : ByteArray × Nat} (hp : p ∈ T) : p.1.data.toList.head? ≠ some 48 := by
  induction T with
  | nil => simp at hp
  | cons r T ih =>
    obtain ⟨_, h2, _, h4⟩ := tbl_cons hT
    rcases List.mem_cons.1 hp with rfl | hp
    · exact h2
    · exact ih h4 hp
theorem tbl_small {T : Tbl} (hT : tblGood T = true) {p : ByteArray × Nat} (hp : p ∈ T) : p.2 < 4294967296 := by
  induction T with
  | nil => simp at hp
  | cons r T ih =>
    obtain ⟨_, _, h3, h4⟩ := tbl_cons hT
    rcases List.mem_cons.1 hp with rfl | hp
    · exact h3
    · exact ih h4 hp
theorem textN_inj {T : Tbl} (hT : tblGood T = true) {m n : Nat} (h : textN T m = textN T n) : m = n := by
  rcases textN_is T m with ⟨p, hp, rfl, e1⟩ | ⟨_, e1⟩ <;> rcases textN_is T n with ⟨q, hq, rfl, e2⟩ | ⟨_, e2⟩
  · rw [e1, e2] at h
    rw [tbl_names hT hp hq h]
  · rw [e1, e2] at h
    exact absurd (by rw [h]; exact txt_head n) (tbl_head hT hp)
  · rw [e1, e2] at h
    exact absurd (by rw [← h]; exact txt_head m) (tbl_head hT hq)
  · rw [e1, e2] at h
    exact Wd.txt_inj h
/-- What is read of a text: found, the number whose text it is; else nothing. -/
def readN (T : Tbl) (s : ByteArray) (o : Option Nat) : Prop :=
  match o with
  | some n => n < 4294967296 ∧ s = textN T n
  | none => ∀ n : Nat, n < 4294967296 → s ≠ textN T n
/-! ### Machines and calls -/
def bx64 : ByteArray := ⟨#[120, 54, 52]⟩
def bx86 : ByteArray := ⟨#[120, 56, 54]⟩
def ba64 : ByteArray := ⟨#[97, 54, 52]⟩
def barm : ByteArray := ⟨#[97, 114, 109]⟩
def bread : ByteArray := ⟨#[114, 101, 97, 100]⟩
def bwrite : ByteArray := ⟨#[119, 114, 105, 116, 101]⟩
def bopen : ByteArray := ⟨#[111, 112, 101, 110]⟩
def bclose : ByteArray := ⟨#[99, 108, 111, 115, 101]⟩
def bexit : ByteArray := ⟨#[101, 120, 105, 116]⟩
def bfork : ByteArray := ⟨#[102, 111, 114, 107]⟩
def bkill : ByteArray := ⟨#[107, 105, 108, 108]⟩
def bmmap : ByteArray := ⟨#[109, 109, 97, 112]⟩
def machT : Tbl := [(bx64, 3221225534), (bx86, 1073741827), (ba64, 3221225655), (barm, 1073741864)]
def callX64 : Tbl := [(bread, 0), (bwrite, 1), (bopen, 2), (bclose, 3), (bexit, 60), (bfork, 57), (bkill, 62), (bmmap, 9)]
def callX86 : Tbl := [(bread, 3), (bwrite, 4), (bopen, 5), (bclose, 6), (bexit, 1), (bfork, 2), (bkill, 37), (bmmap, 90)]
def callA64 : Tbl := [(bread, 63), (bwrite, 64), (bclose, 57), (bexit, 93), (bkill, 129), (bmmap, 222)]
def callArm : Tbl := [(bread, 3), (bwrite, 4), (bopen, 5), (bclose, 6), (bexit, 1), (bfork, 2), (bkill, 37)]
def callT (arch : Nat) : Tbl := if arch = 3221225534 then callX64 else if arch = 1073741827 then callX86 else if arch = 3221225655 then callA64 else if arch = 1073741864 then callArm else []
theorem machT_good : tblGood machT = true := by decide
theorem callT_good (arch : Nat) : tblGood (callT arch) = true := by
  unfold callT
  split
  · decide
  split
  · decide
  split
  · decide
  split
  · decide
  rfl
/-! ### Actions -/
def bkillA : ByteArray := ⟨#[107, 105, 108, 108]⟩
def btrap : ByteArray := ⟨#[116, 114, 97, 112]⟩
def blog : ByteArray := ⟨#[108, 111, 103]⟩
def ballow : ByteArray := ⟨#[97, 108, 108, 111, 119]⟩
def berror : ByteArray := ⟨#[101, 114, 114, 111, 114, 58]⟩
/-- An action's text; none: it is no action. -/
def actT (v : Nat) : Option ByteArray :=
  if 327680 ≤ v ∧ v ≤ 331775 then some (berror ++ Wd.txt (v - 327680)) else if v = 0 then some bkillA else if v = 196608 then some btrap else if v = 2147221504 then some blog else if v = 2147418112 then some ballow else none
theorem err_list (n : Nat) : (berror ++ Wd.txt n).data.toList = [101, 114, 114, 111, 114, 58] ++ (Wd.txt n).data.toList := by
  rw [ByteArray.data_append, Array.toList_append]
  rfl
theorem err_inj {m n : Nat} (h : berror ++ Wd.txt m = berror ++ Wd.txt n) : m = n := by
  have e := congrArg (fun b : ByteArray => b.data.toList) h
  simp only [err_list] at e
  refine Wd.txt_inj (ByteArray.ext (Array.ext' (List.append_cancel_left e)))
theorem err_long (n : Nat) : 6 < (berror ++ Wd.txt n).data.toList.length := by
  rw [err_list, List.length_append]
  show 6 < 6 + (48 :: 120 :: Wd.hex n).length
  simp
theorem actT_some {v : Nat} {s : ByteArray} (h : actT v = some s) : (∃ n, n < 4096 ∧ v = 327680 + n ∧ s = berror ++ Wd.txt n) ∨ (v = 0 ∧ s = bkillA) ∨ (v = 196608 ∧ s = btrap) ∨ (v = 2147221504 ∧ s = blog) ∨ (v = 2147418112 ∧ s = ballow) := by
  unfold actT at h
  split at h
  · rename_i hv
    exact .inl ⟨v - 327680, by omega, by omega, by simpa using h.symm⟩
  split at h
  · rename_i hv; exact .inr (.inl ⟨hv, by simpa using h.symm⟩)
  split at h
  · rename_i hv; exact .inr (.inr (.inl ⟨hv, by simpa using h.symm⟩))
  split at h
  · rename_i hv; exact .inr (.inr (.inr (.inl ⟨hv, by simpa using h.symm⟩)))
  split at h
  · rename_i hv; exact .inr (.inr (.inr (.inr ⟨hv, by simpa using h.symm⟩)))
  cases h
theorem err_ne {n : Nat} {s : ByteArray} (hs : s.data.toList.length ≤ 6) (h : berror ++ Wd.txt n = s) : False := by
  have := err_long n
  rw [h] at this
  omega
theorem actT_inj {v v' : Nat} {s : ByteArray} (h : actT v = some s) (h' : actT v' = some s) : v = v' := by
  rcases actT_some h with ⟨n, hn, rfl, e⟩ | ⟨rfl, e⟩ | ⟨rfl, e⟩ | ⟨rfl, e⟩ | ⟨rfl, e⟩ <;> rcases actT_some h' with ⟨m, hm, rfl, e'⟩ | ⟨rfl, e'⟩ | ⟨rfl, e'⟩ | ⟨rfl, e'⟩ | ⟨rfl, e'⟩
  · rw [err_inj (e.symm.trans e')]
  all_goals first
    | rfl
    | exact (err_ne (by decide) (e.symm.trans e')).elim
    | exact (err_ne (by decide) (e'.symm.trans e)).elim
    | exact absurd (e.symm.trans e') (by decide)
/-- What is read of an action's text. -/
def readA (s : ByteArray) (o : Option Nat) : Prop :=
  match o with
  | some v => v < 4294967296 ∧ actT v = some s
  | none => ∀ v : Nat, v < 4294967296 → actT v ≠ some s
end Go.Proofs.YtbhondjfilohdaaDoor
/-
  The table of the operations as plain data, without any program: each operation's number, word and format; which instructions are right, and their texts.
-/
namespace Ip
open Go

structure Row where
  op : Int
  word : List UInt8
  fmt : Int
deriving DecidableEq

def rows : List Row := [⟨0, [108, 100], 2⟩, ⟨1, [108, 100, 120], 2⟩, ⟨2, [115, 116], 2⟩, ⟨3, [115, 116, 120], 2⟩, ⟨32, [97, 98, 115], 2⟩, ⟨96, [109, 101, 109], 2⟩, ⟨97, [109, 101, 109, 120], 2⟩, ⟨5, [106, 97], 2⟩, ⟨6, [114, 101, 116], 2⟩,
  ⟨4, [97, 100, 100], 3⟩, ⟨20, [115, 117, 98], 3⟩, ⟨36, [109, 117, 108], 3⟩, ⟨52, [100, 105, 118], 3⟩, ⟨68, [111, 114], 3⟩, ⟨84, [97, 110, 100], 3⟩, ⟨100, [108, 115, 104], 3⟩, ⟨116, [114, 115, 104], 3⟩, ⟨164, [120, 111, 114], 3⟩,
  ⟨12, [97, 100, 100, 120], 1⟩, ⟨28, [115, 117, 98, 120], 1⟩, ⟨44, [109, 117, 108, 120], 1⟩, ⟨60, [100, 105, 118, 120], 1⟩, ⟨76, [111, 114, 120], 1⟩, ⟨92, [97, 110, 100, 120], 1⟩, ⟨108, [108, 115, 104, 120], 1⟩, ⟨124, [114, 115, 104, 120], 1⟩, ⟨172, [120, 111, 114, 120], 1⟩,
  ⟨132, [110, 101, 103], 0⟩, ⟨7, [116, 97, 120], 0⟩, ⟨135, [116, 120, 97], 0⟩, ⟨22, [114, 101, 116, 97], 0⟩,
  ⟨21, [106, 101, 113], 5⟩, ⟨37, [106, 103, 116], 5⟩, ⟨53, [106, 103, 101], 5⟩, ⟨69, [106, 115, 101, 116], 5⟩,
  ⟨29, [106, 101, 113, 120], 4⟩, ⟨45, [106, 103, 116, 120], 4⟩, ⟨61, [106, 103, 101, 120], 4⟩, ⟨77, [106, 115, 101, 116, 120], 4⟩]

def Row.str (r : Row) : ByteArray := ⟨r.word.toArray⟩
def Row.val (r : Row) : Value := .agg #[.int .i64 r.op, .string r.str, .int .i64 r.fmt]
/-- The cells of the whole table. -/
def cellsL : List Value := rows.flatMap fun r => [.int .i64 r.op, .string r.str, .int .i64 r.fmt]
def hasK (f : Int) : Bool := f == 2 || f == 3 || f == 5
def hasJ (f : Int) : Bool := f == 4 || f == 5
def byOp (k : Int) : Option Row := rows.find? fun r => r.op == k
def zeroRow : Row := ⟨0, [], 0⟩
def isJ (n : Int) : Bool := decide (0 ≤ n) && decide (n ≤ 255)
/-- Does a format allow these fields? -/
def fits (f jt jf k : Int) : Bool := (hasK f || k == 0) && (if hasJ f then isJ jt && isJ jf else jt == 0 && jf == 0)
/-- A number behind a space. -/
def tl (n : Int) : List UInt8 := 32 :: 48 :: 120 :: Wd.hex n.toNat
/-- The text of the fields that a format has. -/
def tail (f jt jf k : Int) : List UInt8 := (if hasK f then tl k else []) ++ (if hasJ f then tl jt ++ tl jf else [])
def cells : Array Value := cellsL.toArray
end Ip

/-
  The small tests on an operation (package ins): hasK, hasJumps, isJump, fits; behind.
-/
namespace Go.Proofs.YtbhondjfilohdaaDoor
open Go.ChangeShapes Go.WideShapes Go.ChangeAt Go.RowKit
set_option maxRecDepth 20000

end Go.Proofs.YtbhondjfilohdaaDoor

/-
  What ins.byOp and ins.byWord answer, in every world that has the table of the operations.
-/
namespace Go.Proofs.YtbhondjfilohdaaDoor
open Go.ChangeShapes Go.WideShapes Go.ChangeAt Go.RowKit
set_option maxRecDepth 20000

end Go.Proofs.YtbhondjfilohdaaDoor

/-
  What ins.Right answers, for any instruction, in every world that has the tables.
-/
namespace Go.Proofs.YtbhondjfilohdaaDoor
open Go.ChangeShapes Go.WideShapes Go.ChangeAt Go.RowKit

abbrev insV (op jt jf k : Int) : Value := .agg #[.int .i64 op, .int .i64 jt, .int .i64 jf, .int .u32 k]

/-- Is it right? -/
def right (op jt jf k : Int) : Bool := (Ip.byOp op).isSome && Ip.fits ((Ip.byOp op).getD Ip.zeroRow).fmt jt jf k

end Go.Proofs.YtbhondjfilohdaaDoor

/-
  What ins.Branch and Ends answer, for any instruction, in every world that has the tables.
-/
namespace Go.Proofs.YtbhondjfilohdaaDoor
open Go.ChangeShapes Go.WideShapes Go.ChangeAt Go.RowKit

end Go.Proofs.YtbhondjfilohdaaDoor

/-
  What ins.Alu answers, for any instruction, in every world that has the tables.
-/
namespace Go.Proofs.YtbhondjfilohdaaDoor
open Go.ChangeShapes Go.WideShapes Go.ChangeAt Go.RowKit

end Go.Proofs.YtbhondjfilohdaaDoor
/-
  Rows of texts and numbers that the calls of package ins make: what ins.limits and ins.cut answer.
-/
namespace Ip
open Go
/-- The largest numbers of the fields that a format has. -/
def lims (f : Int) : List Nat := (if hasK f then [4294967295] else []) ++ (if hasJ f then [255, 255] else [])
end Ip
namespace Go.Proofs.YtbhondjfilohdaaDoor
open Go.ChangeShapes Go.WideShapes Go.ChangeAt Go.RowKit

theorem infoS : (Tryd.prog.info? 9).map (fun i => (i.zero, i.size, i.bytes)) = some (some (.string ⟨#[]⟩), 1, 16) := by kernel_rfl
end Go.Proofs.YtbhondjfilohdaaDoor

/-
  A text, parted at its spaces, as plain lists: at most so many parts are cut off; and what a rune's bytes are.
-/
namespace Ip
open Go

/-- The parts between spaces: at most m are cut off, the rest stays whole. -/
def sp : Nat → List UInt8 → List UInt8 → List (List UInt8)
  | _, cur, [] => [cur]
  | 0, cur, c :: l => [cur ++ c :: l]
  | m + 1, cur, c :: l => if c = 32 then cur :: sp m [] l else sp (m + 1) (cur ++ [c]) l
theorem sp_nil (m : Nat) (cur : List UInt8) : sp m cur [] = [cur] := by cases m <;> rfl
/-- A piece of a text. -/
def piece (L : List UInt8) (a b : Nat) : List UInt8 := (L.take b).drop a
/-- How far a text is cut: these parts, and where the next one begins. -/
def Cutting (L : List UInt8) (p start : Nat) (ps : List (List UInt8)) : Prop :=
  p ≤ L.length ∧ start ≤ p ∧ ps.length ≤ 4 ∧ sp 4 [] L = ps ++ sp (4 - ps.length) (piece L start p) (L.drop p)
theorem Cutting.start (L : List UInt8) : Cutting L 0 0 [] := ⟨by omega, by omega, by simp, by simp [piece]⟩
theorem Cutting.done {L : List UInt8} {p start : Nat} {ps : List (List UInt8)} (h : Cutting L p start ps) (hp : L.length ≤ p) : sp 4 [] L = ps ++ [piece L start L.length] := by
  obtain ⟨h1, h2, h3, h4⟩ := h
  obtain rfl : p = L.length := by omega
  rw [h4, List.drop_length, sp_nil]

end Ip

/-
  What operation.read answers: the instruction whose fields have these texts, or none.
-/
namespace Ip
open Go
/-- A number's text. -/
def tx (n : Nat) : List UInt8 := 48 :: 120 :: Wd.hex n
/-- The numbers that were read, as far as they go. -/
def Got (f : Int) (fs : List (List UInt8)) (k : Nat) (ns : List Nat) : Prop :=
  ns.length = k ∧ fs.take k = ns.map tx ∧ ∀ i (h : i < ns.length), ns[i] ≤ (lims f).getD i 0
theorem Got.start (f : Int) (fs : List (List UInt8)) : Got f fs 0 [] := ⟨rfl, by simp, fun i h => by simp at h⟩
theorem Got.next {f : Int} {fs : List (List UInt8)} {k : Nat} {ns : List Nat} (h : Got f fs k ns) (hk : k < fs.length) {n : Nat} (hn : fs[k] = tx n) (hl : n ≤ (lims f).getD k 0) : Got f fs (k + 1) (ns ++ [n]) := by
  obtain ⟨h1, h2, h3⟩ := h
  refine ⟨by simp [h1], ?_, fun i hi => ?_⟩
  · rw [List.take_succ_eq_append_getElem hk, h2, hn]
    simp
  · by_cases hi' : i < ns.length
    · rw [List.getElem_append_left hi']
      exact h3 i hi'
    · obtain rfl : i = k := by simp at hi; omega
      rw [List.getElem_append_right (by omega)]
      simpa using hl
end Ip
namespace Go.Proofs.YtbhondjfilohdaaDoor
open Go.ChangeShapes Go.WideShapes Go.ChangeAt Go.RowKit

/-- A slice of texts that lie in old memory. -/
def Strs (w : World) (v : Value) (fs : List (List UInt8)) : Prop :=
  (fs = [] ∧ ∃ a c, v = .slice a 0 c) ∨ ∃ g off c, v = .slice (some ⟨g, off, none⟩) fs.length c ∧ fs.length ≤ c ∧ g < w.heap.size ∧ ∀ i (h : i < fs.length), w.cell? ⟨g, off + i, none⟩ = some (.string ⟨fs[i].toArray⟩)
theorem Strs.shape {w : World} {v : Value} {fs : List (List UInt8)} (h : Strs w v fs) : ∃ a c, v = .slice a fs.length c := by
  rcases h with ⟨rfl, a, c, rfl⟩ | ⟨g, off, c, rfl, _⟩
  · exact ⟨a, c, rfl⟩
  · exact ⟨_, _, rfl⟩
end Go.Proofs.YtbhondjfilohdaaDoor
/-
  What ins.cut answers, for any text, in every world: its parts between spaces, of which at most four are cut off.
-/
namespace Go.Proofs.YtbhondjfilohdaaDoor
open Go.ChangeShapes Go.WideShapes Go.ChangeAt Go.RowKit
set_option maxRecDepth 20000

/-- Texts as cells. -/
abbrev strs (l : List (List UInt8)) : List Value := l.map fun (x : List UInt8) => Value.string ⟨x.toArray⟩
end Go.Proofs.YtbhondjfilohdaaDoor
/-
  An instruction's text as its parts with spaces between them: parts are cut as they were joined; unlike instructions have unlike texts. Plain lists, without any program.
-/
namespace Ip
open Go

/-- Parts with a space between each two. -/
def join : List (List UInt8) → List UInt8
  | [] => []
  | [x] => x
  | x :: y :: l => x ++ 32 :: join (y :: l)
end Ip

/-
  The document's own table of instructions (package hurdleref02), as plain lists, and how it stands to the program's table.
-/
namespace Ip
open Go

end Ip

/-
  The arithmetic of an operation, plainly.
-/
namespace Go.Proofs.YtbhondjfilohdaaDoor
open Go.ChangeShapes Go.WideShapes Go.ChangeAt Go.RowKit

end Go.Proofs.YtbhondjfilohdaaDoor
/-
  Filters as plain lists, and filters and bytes as they lie in a world.
-/
namespace Go.Proofs.YtbhondjfilohdaaDoor
open Go.ChangeShapes Go.WideShapes Go.ChangeAt Go.RowKit

/-- An instruction, plainly. -/
structure X4 where
  op : Int
  jt : Int
  jf : Int
  k : Int
deriving DecidableEq
/-- Its four cells. -/
abbrev X4.cells (x : X4) : List Value := [.int .i64 x.op, .int .i64 x.jt, .int .i64 x.jf, .int .u32 x.k]
abbrev X4.val (x : X4) : Value := insV x.op x.jt x.jf x.k
def X4.right (x : X4) : Bool := Go.Proofs.YtbhondjfilohdaaDoor.right x.op x.jt x.jf x.k
/-- Its number fits 32 bits. -/
def X4.ok (x : X4) : Prop := 0 ≤ x.k ∧ x.k ≤ 4294967295
/-- The cells of a filter. -/
def fcells (l : List X4) : List Value := l.flatMap X4.cells
theorem fcells_len (l : List X4) : (fcells l).length = l.length * 4 := by
  induction l with
  | nil => rfl
  | cons x l ih => simp [fcells, List.flatMap_cons] at ih ⊢; omega
theorem fcells_at (l : List X4) (i : Nat) (h : i < l.length) : ∀ j, j < 4 → (fcells l)[i * 4 + j]? = (l[i]).cells[j]? := by
  induction l generalizing i with
  | nil => simp at h
  | cons x l ih =>
    intro j hj
    have e : fcells (x :: l) = x.cells ++ fcells l := by simp [fcells]
    rw [e]
    cases i with
    | zero =>
      rw [List.getElem?_append_left (by simp; omega)]
      simp
    | succ i =>
      rw [List.getElem?_append_right (by simp; omega)]
      simp only [List.getElem_cons_succ]
      rw [← ih i (by simpa using h) j hj]
      congr 1
      simp
      omega
/-- A filter that lies in a world. -/
def FAt (w : World) (v : Value) (l : List X4) : Prop :=
  ∃ ao cap, v = .slice ao l.length cap ∧ (l = [] ∨ ∃ b off, ao = some ⟨b, off, none⟩ ∧ b < w.heap.size ∧ ∀ i (h : i < l.length),
    w.cell? ⟨b, off + i * 4, none⟩ = some (.int .i64 (l[i]).op) ∧ w.cell? ⟨b, off + i * 4 + 1, none⟩ = some (.int .i64 (l[i]).jt) ∧ w.cell? ⟨b, off + i * 4 + 2, none⟩ = some (.int .i64 (l[i]).jf) ∧ w.cell? ⟨b, off + i * 4 + 3, none⟩ = some (.int .u32 (l[i]).k))
theorem FAt.nil (w : World) : FAt w (.slice none 0 0) [] := ⟨none, 0, rfl, .inl rfl⟩
theorem FAt.below {w w' : World} {v : Value} {l : List X4} (h : FAt w v l) (hb : Below w.heap.size w w') : FAt w' v l := by
  obtain ⟨ao, cap, rfl, h⟩ := h
  refine ⟨ao, cap, rfl, h.imp id ?_⟩
  rintro ⟨b, off, rfl, hl, hc⟩
  refine ⟨b, off, rfl, Nat.lt_of_lt_of_le hl hb.size, fun i hi => ?_⟩
  obtain ⟨c0, c1, c2, c3⟩ := hc i hi
  exact ⟨(hb.cell (p := ⟨b, _, none⟩) hl).trans c0, (hb.cell (p := ⟨b, _, none⟩) hl).trans c1, (hb.cell (p := ⟨b, _, none⟩) hl).trans c2, (hb.cell (p := ⟨b, _, none⟩) hl).trans c3⟩
theorem FAt.of_cells {w : World} {b off cap : Nat} {l : List X4} (hb : l ≠ [] → b < w.heap.size) (h : ∀ i u, (fcells l)[i]? = some u → w.cell? ⟨b, off + i, none⟩ = some u) : FAt w (.slice (some ⟨b, off, none⟩) l.length cap) l := by
  refine ⟨_, _, rfl, ?_⟩
  by_cases h0 : l = []
  · exact .inl h0
  · refine .inr ⟨b, off, rfl, hb h0, fun i hi => ⟨?_, ?_, ?_, ?_⟩⟩
    · have := fcells_at l i hi 0 (by omega)
      exact h _ _ this
    · have := fcells_at l i hi 1 (by omega)
      rw [Nat.add_assoc]
      exact h _ _ this
    · have := fcells_at l i hi 2 (by omega)
      rw [Nat.add_assoc]
      exact h _ _ this
    · have := fcells_at l i hi 3 (by omega)
      rw [Nat.add_assoc]
      exact h _ _ this
theorem FAt.own {w : World} {base : Nat} {e : TypeId} {v : Value} {n : Nat} {l : List X4} (h : w.ownsRow base e 4 v n (fcells l)) (hn : n = l.length) : FAt w v l := by
  subst hn
  rcases h.2 with ⟨rfl, h0⟩ | ⟨g, cap, cur, rfl, _, hg, _, _, _, ht⟩
  · obtain rfl := List.length_eq_zero_iff.1 h0
    exact FAt.nil w
  · refine FAt.of_cells (fun _ => lt_of_block hg) fun i u hu => ?_
    rw [Nat.zero_add, cell_in hg i, ← Array.getElem?_toList]
    have hi := (List.getElem?_eq_some_iff.1 hu).1
    rw [fcells_len] at hi
    rw [← ht, List.getElem?_take, if_pos (by omega)] at hu
    exact hu

end Go.Proofs.YtbhondjfilohdaaDoor
/-
  A list of instructions that was just laid; its shape.
-/
namespace Go.Proofs.YtbhondjfilohdaaDoor
open Go.ChangeShapes Go.WideShapes Go.ChangeAt Go.RowKit
set_option maxRecDepth 20000

/-- A list of instructions, and of bytes, that was just laid. -/
theorem FAt.lit (w : World) (l : List X4) (t : TypeId) (cap : Nat) : FAt (w.alloc (.cells (fcells l).toArray t)) (.slice (some ⟨w.heap.size, 0, none⟩) l.length cap) l :=
  FAt.of_cells (fun _ => by rw [size_alloc]; omega) fun i u hu => by
    rw [Nat.zero_add, cell_in (heap_alloc_new w (.cells (fcells l).toArray t)) i]
    simpa using hu
theorem FAt.shape {w : World} {v : Value} {l : List X4} (h : FAt w v l) : ∃ ao cap, v = .slice ao l.length cap := by
  obtain ⟨ao, cap, rfl, _⟩ := h
  exact ⟨ao, cap, rfl⟩
end Go.Proofs.YtbhondjfilohdaaDoor

/-
  What codec.put answers: the row with so many bytes more.
-/
namespace Go.Proofs.YtbhondjfilohdaaDoor
open Go.ChangeShapes Go.WideShapes Go.ChangeAt Go.RowKit
set_option maxRecDepth 20000

end Go.Proofs.YtbhondjfilohdaaDoor

/-
  append(own, src...) where src is any filter, or any bytes, that lie in the world (nil among them).
-/
namespace Go.Proofs.YtbhondjfilohdaaDoor
open Go.ChangeShapes Go.WideShapes Go.ChangeAt Go.RowKit

theorem FAt.src {w : World} {v : Value} {l : List X4} (h : FAt w v l) : SrcAt w 4 v l.length (fcells l) := by
  obtain ⟨ao, cap, rfl, h⟩ := h
  refine ⟨ao, cap, rfl, fcells_len l, fun h0 => ?_, fun ad had j u hu => ?_⟩
  · rcases h with rfl | ⟨b, off, rfl, _⟩
    · rfl
    · cases h0
  · rcases h with rfl | ⟨b, off, rfl, _, hc⟩
    · simp [fcells] at hu
    · cases had
      have hj : j < l.length * 4 := by rw [← fcells_len]; exact (List.getElem?_eq_some_iff.1 hu).1
      have hd : j / 4 < l.length := by omega
      have e : j = j / 4 * 4 + j % 4 := by omega
      have h4 := fcells_at l (j / 4) hd (j % 4) (by omega)
      rw [← e, hu] at h4
      obtain ⟨c0, c1, c2, c3⟩ := hc (j / 4) hd
      have hm : j % 4 < 4 := by omega
      rw [add_plain]
      generalize hr : j % 4 = r at *
      match r, hm with
      | 0, _ => rw [show off + j = off + j / 4 * 4 by omega, c0]; simpa using h4.symm
      | 1, _ => rw [show off + j = off + j / 4 * 4 + 1 by omega, c1]; simpa using h4.symm
      | 2, _ => rw [show off + j = off + j / 4 * 4 + 2 by omega, c2]; simpa using h4.symm
      | 3, _ => rw [show off + j = off + j / 4 * 4 + 3 by omega, c3]; simpa using h4.symm
end Go.Proofs.YtbhondjfilohdaaDoor

/-
  What codec.fault answers, for any filter that lies in a world.
-/
namespace Go.Proofs.YtbhondjfilohdaaDoor
open Go.ChangeShapes Go.WideShapes Go.ChangeAt Go.RowKit
set_option maxRecDepth 20000

end Go.Proofs.YtbhondjfilohdaaDoor
/-
  What strings.Builder's WriteString and String do in this program: a builder that lies in a world grows by a text, and gives its text.
-/
namespace Go.Proofs.YtbhondjfilohdaaDoor
open Go.ChangeShapes Go.WideShapes Go.ChangeAt Go.RowKit
set_option maxRecDepth 100000

def ren169 : Go.Shelf.Ren := ⟨fun | 169 => 70 | n => n, fun | 70 => 106 | 9 => 9 | 0 => 0 | 72 => 108 | 37 => 75 | 127 => 121 | 3 => 3 | 5 => 5 | n => n, fun | n => n⟩
theorem lays169 : Go.Proofs.Lays.n169 Tryd.prog ren169 := {
  mixed := by kernel_rfl
  f169 := Tryd.func70.trans (congrArg some (by kernel_rfl))
  t0 := Tryd.underlying0
  a0 := Tryd.isAgg0
  z0 := Tryd.sizeOf0
  v0 := Tryd.zeroValue0
  t3 := Tryd.underlying3
  a3 := Tryd.isAgg3
  z3 := Tryd.sizeOf3
  v3 := Tryd.zeroValue3
  t9 := Tryd.underlying9
  a9 := Tryd.isAgg9
  z9 := Tryd.sizeOf9
  v9 := Tryd.zeroValue9
  t37 := Tryd.underlying75
  a37 := Tryd.isAgg75
  z37 := Tryd.sizeOf75
  v37 := Tryd.zeroValue75
  t70 := Tryd.underlying106
  a70 := Tryd.isAgg106
  z70 := Tryd.sizeOf106
  v70 := Tryd.zeroValue106
  t72 := Tryd.underlying108
  a72 := Tryd.isAgg108
  z72 := Tryd.sizeOf108
  v72 := Tryd.zeroValue108
  t127 := Tryd.underlying121
  a127 := Tryd.isAgg121
  z127 := Tryd.sizeOf121
  v127 := Tryd.zeroValue121 }
theorem extra169 : Builder.Extra Tryd.prog ren169 := {
  sizeBuilder := by kernel_rfl
  liesBuilder := by kernel_rfl
  t5 := Tryd.underlying5
  a5 := Tryd.isAgg5
  z5 := Tryd.sizeOf5
  v5 := Tryd.zeroValue5
  infoByte := by kernel_rfl
  cellsByte := by kernel_rfl
  sizeByte := by kernel_rfl
  neB5 := by decide }
/-- A builder with these bytes. -/
def SB (B b : Nat) (l : List UInt8) (w : World) : Prop := Lib.IsBuilder 108 5 B b (Lib.byteCells l) w
theorem sbString (B b : Nat) (l : List UInt8) (w : World) (h : SB B b l w) (hBw : B ≤ w.heap.size) :
    Calls Tryd.prog 70 #[.pointer (some ⟨b, 0, none⟩)] w fun e w' => e = .returned (.string ⟨l.toArray⟩) ∧ Below B w w' := Any.Builder_String_any lays169 extra169 B b l w h hBw
theorem bAt_below {B b : Nat} {p : Value} {bs : List Value} {w w' : World} (h : Lib.BuilderAt 108 5 B b p bs w) (hb : Below w.heap.size w w') : Lib.BuilderAt 108 5 B b p bs w' := by
  obtain ⟨h1, v, h2, h3, h4⟩ := h
  exact ⟨h1, v, (hb.block _ (lt_of_block h2)).trans h2, own_below h3 hb, h4⟩
theorem SB.below {B b : Nat} {l : List UInt8} {w w' : World} (h : SB B b l w) (hb : Below w.heap.size w w') : SB B b l w' := Or.imp (bAt_below · hb) (bAt_below · hb) h
theorem SB.mono {B B' b : Nat} {l : List UInt8} {w : World} (h : SB B b l w) (hb : B' ≤ B) : SB B' b l w := by
  rcases h with ⟨h1, v, h2, h3, h4⟩ | ⟨h1, v, h2, h3, h4⟩
  · exact .inl ⟨by omega, v, h2, own_mono h3 hb, h4⟩
  · exact .inr ⟨by omega, v, h2, own_mono h3 hb, h4⟩
theorem SB.start (w : World) : SB w.heap.size w.heap.size [] (w.alloc (.cells #[.pointer none, .slice none 0 0] 108)) := Lib.fresh_isBuilder _ _ w

theorem sbUsed (b : Nat) (w : World) (h0 : w.cell? ⟨b, 0, none⟩ = some (.pointer (some ⟨b, 0, none⟩))) :
    Calls Tryd.prog 77 #[.pointer (some ⟨b, 0, none⟩)] w fun e w' => e = .returned (.tuple #[]) ∧ w' = w := by
  obtain ⟨j, hj, _⟩ := Option.map_eq_some_iff.1 extra169.sizeBuilder
  go_enter Tryd.func77, Tryd.ntmps77
  go_wp2_with fail
  rw [Lib.run_neq_ptr_same w _ Tryd.underlying106 hj]
  go_wp2_with fail
  go_end0
  exact ⟨rfl, rfl⟩
theorem sbFresh (b : Nat) (w : World) (h0 : w.cell? ⟨b, 0, none⟩ = some (.pointer none)) (hsh : w.shape? b = some (108, 2)) (hfz : w.frozen? ⟨b, 0, none⟩ = false) :
    Calls Tryd.prog 77 #[.pointer (some ⟨b, 0, none⟩)] w fun e w' => e = .returned (.tuple #[]) ∧ w' = w.setCell ⟨b, 0, none⟩ (.pointer (some ⟨b, 0, none⟩)) := by
  obtain ⟨j, hj, hjs⟩ := Option.map_eq_some_iff.1 extra169.sizeBuilder
  go_enter Tryd.func77, Tryd.ntmps77
  go_wp2_with fail
  rw [Lib.run_to_unsafe w ⟨b, 0, none⟩ Tryd.underlying106 Tryd.underlying124 hj (by rw [hjs]; decide) hsh (Nat.zero_lt_succ 1)]
  simp only [Result.andThen]
  rw [Oper.upon_value]
  go_wp2_with fail
  rw [run_callFunc_extern Tryd.func83 (by kernel_rfl) (by kernel_rfl) (by kernel_rfl) (e := Extern.AbiNoEscape.same) (by kernel_rfl)]
  rw [Lib.run_noEscape]
  simp only [Result.andThen]
  rw [Oper.upon_value]
  go_wp2_with fail
  rw [Lib.run_from_unsafe w ⟨b, 0, none⟩ Tryd.underlying124 Tryd.underlying106 hj hsh extra169.liesBuilder]
  simp only [Result.andThen]
  rw [Oper.upon_value]
  go_wp2_with fail
  go_end0
  exact ⟨rfl, rfl⟩
theorem sbCheck (B b : Nat) (bs : List Value) (w : World) (h : Lib.IsBuilder 108 5 B b bs w) :
    Calls Tryd.prog 77 #[.pointer (some ⟨b, 0, none⟩)] w fun e w' => e = .returned (.tuple #[]) ∧ Lib.BuilderAt 108 5 B b (.pointer (some ⟨b, 0, none⟩)) bs w' ∧ Below B w w' := by
  rcases h with h | h
  · refine (sbFresh b w h.cell0 h.shape h.frozen0).mono ?_
    rintro e w' ⟨rfl, rfl⟩
    exact ⟨rfl, h.used _, (Below.refl B w).setCell (p := ⟨b, 0, none⟩) h.1 _⟩
  · refine (sbUsed b w h.cell0).mono ?_
    rintro e w' ⟨rfl, rfl⟩
    exact ⟨rfl, h, Below.refl B _⟩
theorem strCells_eq (s : ByteArray) : Lib.strCells s = Lib.byteCells s.data.toList := by
  simp [Lib.strCells, Lib.byteCells]

set_option maxHeartbeats 1000000 in
/-- WriteString: the builder has the text's bytes more; nothing below the base has changed. -/
theorem sbWrite (B b : Nat) (l : List UInt8) (s : ByteArray) (w : World) (h : SB B b l w) (hlen : l.length + s.size ≤ 140737488355328) (hBw : B ≤ w.heap.size) :
    Calls Tryd.prog 69 #[.pointer (some ⟨b, 0, none⟩), .string s] w fun e w' => e = .returned (.tuple #[.int .i64 s.size, .nilIface]) ∧ SB B b (l ++ s.data.toList) w' ∧ Below B w w' := by
  obtain ⟨i0, hi, hz0, hz1, hz2⟩ := info_parts extra169.infoByte
  have HI := Lib.hid h
  clear h
  go_enter Tryd.func69, Tryd.ntmps69
  go_wp2_with fail
  refine (sbCheck B b _ w HI.out).mono ?_
  rintro e w1 ⟨rfl, ⟨hB, v, hbk, hown, hne⟩, hb1⟩
  have c1 : w1.cell? ⟨b, 1, none⟩ = some v := by rw [Lib.cell_of_heap hbk]; rfl
  have HO := Lib.hid hown
  have HK := Lib.hid hbk
  have HN := Lib.hid hne
  have HB1 := Lib.hid hb1
  have hs1 := hb1.size
  clear hown hbk hne hb1
  go_wp2_with (at_builtin; refine Lib.wpList_append_own_string _ rfl _ _ 75 9 rfl B 5 i0 Tryd.underlying75 Tryd.underlying9 hi hz0 hz1 hz2 _ _ _ rfl HO.out s rfl (by rw [Lib.byteCells_length]; unfold maxLen; omega) (by rw [Lib.byteCells_length]; omega) (by omega) ?_)
  intro v' w2 hown' hgrow _
  have hb2 := (hgrow.block b (lt_of_block HK.out) (fun e => HN.out e.symm)).trans HK.out
  have f1 : w2.frozen? ⟨b, 1, none⟩ = false := Lib.frozen_of_heap hb2 1
  have d1 : w2.cell? ⟨b, 1, none⟩ = some v := by rw [Lib.cell_of_heap hb2]; rfl
  have hBw2 := HB1.out.grown hgrow (by omega) (fun k hk => (HO.out.lt k hk).1)
  have HS : Hid (SB B b (l ++ s.data.toList) (w2.setCell ⟨b, 1, none⟩ v')) := Lib.hid (.inr (by
    have e : Lib.byteCells (l ++ s.data.toList) = Lib.byteCells l ++ Lib.strCells s := by rw [strCells_eq]; simp [Lib.byteCells]
    rw [e]
    exact Lib.BuilderAt.put (T := 108) (e := 5) hB hb2 (bs' := Lib.byteCells l ++ Lib.strCells s) (by simpa [Lib.strCells_length] using hown') (by decide)))
  have HBe := Lib.hid (hBw2.setCell (p := ⟨b, 1, none⟩) hB v')
  obtain ⟨ao, n', cap, rfl⟩ : ∃ ao n' cap, v' = .slice ao n' cap := by
    rcases hown'.2 with ⟨hv, _⟩ | ⟨g, cap, cur, hv, _⟩
    · exact ⟨_, _, _, hv⟩
    · exact ⟨_, _, _, hv⟩
  clear hown' hgrow hb2 hBw2 c1
  go_wp2_with fail
  go_ret2
  exact ⟨rfl, HS.out, HBe.out⟩
end Go.Proofs.YtbhondjfilohdaaDoor

/-
  What strings.Cut answers at a mark of one byte: the parts ahead of and behind its first place.
-/
namespace Go.Proofs.YtbhondjfilohdaaDoor
open Go.ChangeShapes Go.WideShapes Go.ChangeAt Go.RowKit
set_option maxRecDepth 100000

def ren217 : Go.Shelf.Ren := ⟨fun | 217 => 51 | 266 => 66 | n => n, fun | 9 => 9 | 5 => 5 | 3 => 3 | n => n, fun | n => n⟩
theorem lays217 : Go.Proofs.Lays.n217 Tryd.prog ren217 := {
  mixed := by kernel_rfl
  f217 := Tryd.func51.trans (congrArg some (by kernel_rfl))
  f266 := Tryd.func66.trans (congrArg some (by kernel_rfl))
  t3 := Tryd.underlying3
  a3 := Tryd.isAgg3
  z3 := Tryd.sizeOf3
  v3 := Tryd.zeroValue3
  t5 := Tryd.underlying5
  a5 := Tryd.isAgg5
  z5 := Tryd.sizeOf5
  v5 := Tryd.zeroValue5
  t9 := Tryd.underlying9
  a9 := Tryd.isAgg9
  z9 := Tryd.sizeOf9
  v9 := Tryd.zeroValue9 }
theorem sIndexByte (s : ByteArray) (c : Int) (w : World) :
    Calls Tryd.prog 51 #[.string s, .int .u8 c] w fun e w' => e = .returned (.int .i64 (Lib.indexByte s.data.toList c.toNat.toUInt8)) ∧ w' = w := Any.stringslite_IndexByte lays217 s c w
theorem retInt {a b : Int} (h : a = b) : Ending.returned (.int .i64 b) = .returned (.int .i64 a) := by rw [h]
theorem u8_back (c : UInt8) : ((c.toNat : Int).toNat).toUInt8 = c := by simp

theorem sIndex_any (s : ByteArray) (c : UInt8) (w : World) :
    Calls Tryd.prog 35 #[.string s, .string ⟨#[c]⟩] w fun e w' => e = .returned (.int .i64 (Lib.indexByte s.data.toList c)) ∧ w = w' := by
  cases h : ([c] == s.toList)
  · go_enter Tryd.func35, Tryd.ntmps35
    go_wp2_with fail
    refine (sIndexByte s _ w).mono ?_
    rintro e w' ⟨rfl, rfl⟩
    rw [u8_back]
    go_wp2_with fail
    go_ret
    exact ⟨rfl, rfl⟩
  · have HE : Hid (Lib.indexByte s.data.toList c = 0) := Lib.hid (by
      have e : s.data.toList = [c] := by rw [← Go.ByteArray.toList_eq]; exact (beq_iff_eq.1 h).symm
      rw [e]
      simp [Lib.indexByte])
    go_enter Tryd.func35, Tryd.ntmps35
    go_wp2_with fail
    go_ret
    exact ⟨retInt HE.out, rfl⟩

/-- What comes of a cut. -/
def SCutEnd (s : ByteArray) (c : UInt8) (w : World) (e : Ending) (w' : World) : Prop :=
  (((∀ x ∈ s.data.toList, x ≠ c) ∧ e = .returned (.tuple #[.string s, .string ⟨#[]⟩, .bool false])) ∨
    ∃ p q : List UInt8, s.data.toList = p ++ c :: q ∧ (∀ x ∈ p, x ≠ c) ∧ e = .returned (.tuple #[.string ⟨p.toArray⟩, .string ⟨q.toArray⟩, .bool true])) ∧ ∃ n, w' = w.drewN n
theorem index_cases (l : List UInt8) (c : UInt8) : (Lib.indexByte l c = -1 ∧ ∀ x ∈ l, x ≠ c) ∨ ∃ o : Nat, o < l.length ∧ Lib.indexByte l c = o ∧ l = l.take o ++ c :: l.drop (o + 1) ∧ ∀ x ∈ l.take o, x ≠ c := by
  have hge := Lib.indexByte_ge l c
  by_cases h : Lib.indexByte l c = -1
  · refine .inl ⟨h, fun x hx e => ?_⟩
    obtain ⟨k, hk⟩ := List.getElem?_of_mem hx
    exact Lib.indexByte_none h k (by rw [hk, e])
  · obtain ⟨o, ho⟩ := Int.eq_ofNat_of_zero_le (show 0 ≤ Lib.indexByte l c by omega)
    obtain ⟨h1, h2⟩ := Lib.indexByte_some ho
    have hl : o < l.length := (List.getElem?_eq_some_iff.1 h1).1
    refine .inr ⟨o, hl, ho, ?_, fun x hx e => ?_⟩
    · have h3 : l[o] = c := by rw [List.getElem?_eq_getElem hl] at h1; exact Option.some.inj h1
      rw [← h3, ← List.drop_eq_getElem_cons hl, List.take_append_drop]
    · obtain ⟨k, hk⟩ := List.getElem?_of_mem hx
      rw [List.getElem?_take] at hk
      split at hk
      · rename_i hko
        exact h2 k hko (by rw [hk, e])
      · cases hk
theorem take_str (s : ByteArray) (o : Nat) : s.extract 0 o = ⟨(s.data.toList.take o).toArray⟩ := by
  apply ByteArray.ext
  apply Array.ext'
  simp [List.extract_eq_take_drop]
theorem drop_str (s : ByteArray) (o : Nat) : s.extract o s.size = ⟨(s.data.toList.drop o).toArray⟩ := by
  apply ByteArray.ext
  apply Array.ext'
  simp [List.extract_eq_take_drop]
  apply List.take_of_length_le
  rw [List.length_drop, Array.length_toList]
  exact Nat.le_refl _

set_option maxHeartbeats 1000000 in
theorem liteCut_any (s : ByteArray) (c : UInt8) (w : World) (hs : s.size ≤ 4611686018427387904) :
    Calls Tryd.prog 29 #[.string s, .string ⟨#[c]⟩] w (SCutEnd s c w) := by
  rcases index_cases s.data.toList c with ⟨h1, h2⟩ | ⟨o, h0, h1, h2, h3⟩
  · have H2 := Lib.hid h2
    have H1 := Lib.hid h1
    clear h2 h1
    go_enter Tryd.func29, Tryd.ntmps29
    go_wp2_with fail
    refine (sIndex_any s c w).mono ?_
    rintro e w' ⟨rfl, rfl⟩
    rw [H1.out]
    go_wp2_with fail
    go_ret3
    exact ⟨.inl ⟨H2.out, rfl⟩, 0, rfl⟩
  · have H1 := Lib.hid h1
    have hlt : o < s.size := h0
    have HEnd : Hid (∀ n, SCutEnd s c w (.returned (.tuple #[.string (s.extract 0 o), .string (s.extract (o + 1) s.size), .bool true])) (w.drewN n)) := Lib.hid (fun n => ⟨.inr ⟨_, _, h2, h3, by rw [take_str, drop_str]⟩, n, rfl⟩)
    clear h2 h3 h1 h0
    go_enter Tryd.func29, Tryd.ntmps29
    go_wp2_with fail
    refine (sIndex_any s c w).mono ?_
    rintro e w' ⟨rfl, rfl⟩
    rw [H1.out]
    have c1 : (0 : Int) ≤ ↑o := by omega
    have c2 : (o : Int) ≤ ↑s.size := by omega
    have c3 : (0 : Int) ≤ ↑o + 1 := by omega
    have c4 : (o + 1 : Int) ≤ ↑s.size := by omega
    go_wp2_with fail
    go_quiet (fail)
    go_wp2_with fail
    go_ret3
    exact HEnd.out _
theorem strCut_any (s : ByteArray) (c : UInt8) (w : World) (hs : s.size ≤ 4611686018427387904) :
    Calls Tryd.prog 21 #[.string s, .string ⟨#[c]⟩] w (SCutEnd s c w) := by
  go_enter Tryd.func21, Tryd.ntmps21
  go_wp2_with fail
  refine (liteCut_any s c w hs).mono ?_
  rintro e w' ⟨he, n, rfl⟩
  rcases he with ⟨h1, rfl⟩ | ⟨p, q, h1, h2, rfl⟩
  · have H1 := Lib.hid h1
    clear h1
    go_wp2_with fail
    go_ret3
    exact ⟨.inl ⟨H1.out, rfl⟩, n, rfl⟩
  · have H1 := Lib.hid h1
    have H2 := Lib.hid h2
    clear h1 h2
    go_wp2_with fail
    go_ret3
    exact ⟨.inr ⟨p, q, H1.out, H2.out, rfl⟩, n, rfl⟩
end Go.Proofs.YtbhondjfilohdaaDoor
/-
  A text parted at every byte that is a mark, plainly.
-/
namespace Ip
open Go
/-- All parts of a text between marks. -/
def cutAll (m : UInt8) : List UInt8 → List UInt8 → List (List UInt8)
  | cur, [] => [cur]
  | cur, c :: l => if c = m then cur :: cutAll m [] l else cutAll m (cur ++ [c]) l
theorem cutAll_skip (m : UInt8) : ∀ (a cur l : List UInt8), (∀ c ∈ a, c ≠ m) → cutAll m cur (a ++ l) = cutAll m (cur ++ a) l := by
  intro a
  induction a with
  | nil => intro cur l _; simp
  | cons c a ih =>
    intro cur l h
    rw [List.cons_append, cutAll, if_neg (h c List.mem_cons_self), ih (cur ++ [c]) l (fun d hd => h d (List.mem_cons_of_mem _ hd))]
    simp
theorem cutAll_join : ∀ (ps : List (List UInt8)), ps ≠ [] → (∀ p ∈ ps, ∀ c ∈ p, c ≠ 32) → cutAll 32 [] (join ps) = ps
  | [], h, _ => absurd rfl h
  | [x], _, h => by
    have e := cutAll_skip 32 x [] [] (h x (by simp))
    rw [List.append_nil] at e
    show cutAll 32 [] x = _
    rw [e, cutAll]
    simp
  | x :: y :: l, _, h => by
    show cutAll 32 [] (x ++ 32 :: join (y :: l)) = _
    rw [cutAll_skip 32 x [] _ (h x (by simp)), cutAll, if_pos rfl, cutAll_join (y :: l) (by simp) (fun p hp => h p (List.mem_cons_of_mem _ hp))]
    simp
theorem cutAll_ne (m : UInt8) (l : List UInt8) : ∀ cur, cutAll m cur l ≠ [] := by
  induction l with
  | nil => intro cur; simp [cutAll]
  | cons c l ih => intro cur; rw [cutAll]; split <;> simp_all
theorem join_cutAll (l : List UInt8) : ∀ cur, join (cutAll 32 cur l) = cur ++ l := by
  induction l with
  | nil => intro cur; simp [cutAll, join]
  | cons c l ih =>
    intro cur
    rw [cutAll]
    split
    · rename_i h
      have e := ih []
      cases hs : cutAll 32 [] l with
      | nil => exact absurd hs (cutAll_ne 32 l [])
      | cons y t =>
        rw [hs] at e
        show cur ++ 32 :: join (y :: t) = _
        rw [e, h]
        simp
    · rw [ih]; simp
/-- How far a text is parted. -/
def Parting (m : UInt8) (L : List UInt8) (p : Nat) (ps : List (List UInt8)) (cur : List UInt8) : Prop :=
  p ≤ L.length ∧ ps.length ≤ p ∧ cur.length ≤ p ∧ cutAll m [] L = ps ++ cutAll m cur (L.drop p)
theorem Parting.start (m : UInt8) (L : List UInt8) : Parting m L 0 [] [] := ⟨by omega, by simp, by simp, by simp⟩
theorem Parting.done {m : UInt8} {L : List UInt8} {p : Nat} {ps : List (List UInt8)} {cur : List UInt8} (h : Parting m L p ps cur) (hp : L.length ≤ p) : cutAll m [] L = ps ++ [cur] := by
  obtain ⟨h1, h2, h3, h4⟩ := h
  rw [h4, List.drop_eq_nil_of_le hp, cutAll]
end Ip

/-
  Texts of filters, line by line, as plain lists: what a filter's text is read as.
-/
namespace Go.Proofs.YtbhondjfilohdaaDoor
open Go.ChangeShapes Go.WideShapes Go.ChangeAt Go.RowKit

open Classical in
/-- A text's lines, and what is read of it. -/
abbrev linesOf (s : List UInt8) : List (List UInt8) := Ip.cutAll 10 [] s
theorem lines_cut {p q : List UInt8} (h : ∀ x ∈ p, x ≠ 10) : linesOf (p ++ 10 :: q) = p :: linesOf q := by
  unfold linesOf
  rw [Ip.cutAll_skip 10 p [] _ h, Ip.cutAll, if_pos rfl, List.nil_append]
theorem lines_one {p : List UInt8} (h : ∀ x ∈ p, x ≠ 10) : linesOf p = [p] := by
  unfold linesOf
  have e := Ip.cutAll_skip 10 p [] [] h
  rw [List.append_nil] at e
  rw [e, Ip.cutAll, List.nil_append]
theorem lines_ne (s : List UInt8) : linesOf s ≠ [] := Ip.cutAll_ne 10 s []
end Go.Proofs.YtbhondjfilohdaaDoor
