/-
  What the laws' texts use, joined.
-/
import Derived.Test.YtbekkdhlfkongaaGreatDoorProg
import Derived.WalkKit
import Derived.Laws.BitsAllLaws
import Derived.RowKit
import Derived.ProofKit
import Derived.Lib.Hide
import Derived.Laws.Rows
import Derived.Laws.ResultCell
import Derived.Laws.Entries
import Derived.Handy
import Derived.OwnWalk
import Derived.Laws.OwnMore
import Derived.Deep.Draws
import Derived.Laws.IdiomStrings
import Derived.Lib.BufferRead
import Derived.Maps.OwnSet
import Derived.BigQuiet
import Derived.IntWalk
import Derived.Deep.RegionHeld3
import Derived.BigRegion
import Derived.Lib.OthersKept
import Derived.Lib.QuietBelow
import Derived.Shelf.Strings.Builder1
import Derived.Shelf.Strings.Search1
import Derived.Lib.IndexLaws
import Derived.Laws.Tables
import Derived.Deep.DeepCutAuto
import Derived.Deep.Cut
import Derived.Deep.Slices
import Derived.Deep.QuietTactic
import Derived.Test.YtbekkdhlfkongaaGreatDoorRows
import Derived.OpenShut
import Derived.Carry
import Derived.Deep.DeepHandedRow
import Derived.Lib.SmallJoins
import Derived.WalkMore
import Derived.Lib.AppendZerosOnto
import Derived.Lib.SliceRun
import Derived.Deep.RegionWith
import Derived.RangeFuncNested
import Derived.RangeFuncBound
import Derived.RangeFuncCalls
import Derived.RangeFuncLeaves
import Derived.Shelf.Abstract
import Derived.Shelf.RegionOpen
import Derived.OwnWalkIn
import Derived.TacticsInMore
import Derived.LoopNIn
import Derived.LoopIn
import Derived.Test.YtbekkdhlfkongaaGreatDoorPk1
import Derived.Test.YtbekkdhlfkongaaGreatDoorPk2
import Derived.Test.YtbekkdhlfkongaaGreatDoorPk3
import Derived.Test.YtbekkdhlfkongaaGreatDoorPk4
import Derived.Test.YtbekkdhlfkongaaGreatDoorPk5
/-
  Conditions, rules and policies that lie in a world.
-/
namespace Go.Proofs.YtbekkdhlfkongaaGreatDoor
open Go.ChangeShapes Go.WideShapes Go.ChangeAt Go.RowKit Go.Deep
set_option maxRecDepth 20000

/-- Four cells. -/
abbrev V4 := Value × Value × Value × Value
abbrev V4.cells (x : V4) : List Value := [x.1, x.2.1, x.2.2.1, x.2.2.2]
def qcells (l : List V4) : List Value := l.flatMap V4.cells
theorem qcells_len (l : List V4) : (qcells l).length = l.length * 4 := by
  induction l with
  | nil => rfl
  | cons x l ih => simp [qcells, List.flatMap_cons] at ih ⊢; omega
theorem qcells_app (l m : List V4) : qcells (l ++ m) = qcells l ++ qcells m := by simp [qcells]
theorem qcells_one (x : V4) : qcells [x] = x.cells := by simp [qcells]
theorem qcells_at (l : List V4) (i : Nat) (h : i < l.length) : ∀ j, j < 4 → (qcells l)[i * 4 + j]? = (l[i]).cells[j]? := by
  induction l generalizing i with
  | nil => simp at h
  | cons x l ih =>
    intro j hj
    have e : qcells (x :: l) = x.cells ++ qcells l := by simp [qcells]
    rw [e]
    cases i with
    | zero =>
      rw [List.getElem?_append_left (by simp; omega)]
      simp
    | succ i =>
      rw [List.getElem?_append_right (by simp; omega)]
      simp only [List.getElem_cons_succ]
      rw [← ih i (by simpa using h) j hj]
      congr 1
      simp
      omega
/-- Rows of four cells that lie in a world. -/
def QAt (w : World) (v : Value) (l : List V4) : Prop :=
  ∃ ao cap, v = .slice ao l.length cap ∧ (l = [] ∨ ∃ b off, ao = some ⟨b, off, none⟩ ∧ b < w.heap.size ∧ ∀ i (h : i < l.length),
    w.cell? ⟨b, off + i * 4, none⟩ = some (l[i]).1 ∧ w.cell? ⟨b, off + i * 4 + 1, none⟩ = some (l[i]).2.1 ∧ w.cell? ⟨b, off + i * 4 + 2, none⟩ = some (l[i]).2.2.1 ∧ w.cell? ⟨b, off + i * 4 + 3, none⟩ = some (l[i]).2.2.2)
theorem QAt.nil (w : World) : QAt w (.slice none 0 0) [] := ⟨none, 0, rfl, .inl rfl⟩
theorem QAt.below {w w' : World} {v : Value} {l : List V4} (h : QAt w v l) (hb : Below w.heap.size w w') : QAt w' v l := by
  obtain ⟨ao, cap, rfl, h⟩ := h
  refine ⟨ao, cap, rfl, h.imp id ?_⟩
  rintro ⟨b, off, rfl, hl, hc⟩
  refine ⟨b, off, rfl, Nat.lt_of_lt_of_le hl hb.size, fun i hi => ?_⟩
  obtain ⟨c0, c1, c2, c3⟩ := hc i hi
  exact ⟨(hb.cell (p := ⟨b, _, none⟩) hl).trans c0, (hb.cell (p := ⟨b, _, none⟩) hl).trans c1, (hb.cell (p := ⟨b, _, none⟩) hl).trans c2, (hb.cell (p := ⟨b, _, none⟩) hl).trans c3⟩
theorem QAt.of_cells {w : World} {b off cap : Nat} {l : List V4} (hb : l ≠ [] → b < w.heap.size) (h : ∀ i u, (qcells l)[i]? = some u → w.cell? ⟨b, off + i, none⟩ = some u) : QAt w (.slice (some ⟨b, off, none⟩) l.length cap) l := by
  refine ⟨_, _, rfl, ?_⟩
  by_cases h0 : l = []
  · exact .inl h0
  · refine .inr ⟨b, off, rfl, hb h0, fun i hi => ⟨?_, ?_, ?_, ?_⟩⟩
    · have := qcells_at l i hi 0 (by omega)
      exact h _ _ this
    · have := qcells_at l i hi 1 (by omega)
      rw [Nat.add_assoc]
      exact h _ _ this
    · have := qcells_at l i hi 2 (by omega)
      rw [Nat.add_assoc]
      exact h _ _ this
    · have := qcells_at l i hi 3 (by omega)
      rw [Nat.add_assoc]
      exact h _ _ this
theorem QAt.own {w : World} {base : Nat} {e : TypeId} {v : Value} {n : Nat} {l : List V4} (h : w.ownsRow base e 4 v n (qcells l)) (hn : n = l.length) : QAt w v l := by
  subst hn
  rcases h.2 with ⟨rfl, h0⟩ | ⟨g, cap, cur, rfl, _, hg, _, _, _, ht⟩
  · obtain rfl := List.length_eq_zero_iff.1 h0
    exact QAt.nil w
  · refine QAt.of_cells (fun _ => lt_of_block hg) fun i u hu => ?_
    rw [Nat.zero_add, cell_in hg i, ← Array.getElem?_toList]
    have hi := (List.getElem?_eq_some_iff.1 hu).1
    rw [qcells_len] at hi
    rw [← ht, List.getElem?_take, if_pos (by omega)] at hu
    exact hu
theorem QAt.shape {w : World} {v : Value} {l : List V4} (h : QAt w v l) : ∃ ao cap, v = .slice ao l.length cap := by
  obtain ⟨ao, cap, rfl, _⟩ := h
  exact ⟨ao, cap, rfl⟩
/-- One of the rows. -/
theorem QAt.row {w : World} {v : Value} {l : List V4} (h : QAt w v l) {i : Nat} (hi : i < l.length) : ∃ b off cap, v = .slice (some ⟨b, off, none⟩) l.length cap ∧ b < w.heap.size ∧
    w.cell? ⟨b, off + i * 4, none⟩ = some (l[i]).1 ∧ w.cell? ⟨b, off + i * 4 + 1, none⟩ = some (l[i]).2.1 ∧ w.cell? ⟨b, off + i * 4 + 2, none⟩ = some (l[i]).2.2.1 ∧ w.cell? ⟨b, off + i * 4 + 3, none⟩ = some (l[i]).2.2.2 := by
  obtain ⟨ao, cap, rfl, h⟩ := h
  rcases h with rfl | ⟨b, off, rfl, hb, hc⟩
  · simp at hi
  · exact ⟨b, off, cap, rfl, hb, hc i hi⟩
/-! ### Conditions -/
abbrev cdQ (c : Cd) : V4 := (.int .i64 c.arg, .int .i64 c.cmp, .int .u64 (c.mask : Nat), .int .u64 (c.value : Nat))
def CAt (w : World) (v : Value) (cs : List Cd) : Prop := QAt w v (cs.map cdQ)
theorem CAt.nil (w : World) : CAt w (.slice none 0 0) [] := QAt.nil w
theorem CAt.below {w w' : World} {v : Value} {cs : List Cd} (h : CAt w v cs) (hb : Below w.heap.size w w') : CAt w' v cs := QAt.below h hb
theorem CAt.shape {w : World} {v : Value} {cs : List Cd} (h : CAt w v cs) : ∃ ao cap, v = .slice ao cs.length cap := by
  obtain ⟨ao, cap, e⟩ := QAt.shape h
  exact ⟨ao, cap, by rw [e, List.length_map]⟩
theorem CAt.row {w : World} {v : Value} {cs : List Cd} (h : CAt w v cs) {i : Nat} (hi : i < cs.length) : ∃ b off cap, v = .slice (some ⟨b, off, none⟩) cs.length cap ∧ b < w.heap.size ∧
    w.cell? ⟨b, off + i * 4, none⟩ = some (.int .i64 (cs[i]).arg) ∧ w.cell? ⟨b, off + i * 4 + 1, none⟩ = some (.int .i64 (cs[i]).cmp) ∧ w.cell? ⟨b, off + i * 4 + 2, none⟩ = some (.int .u64 ((cs[i]).mask : Nat)) ∧ w.cell? ⟨b, off + i * 4 + 3, none⟩ = some (.int .u64 ((cs[i]).value : Nat)) := by
  obtain ⟨b, off, cap, e, hb, c0, c1, c2, c3⟩ := QAt.row h (i := i) (by rw [List.length_map]; exact hi)
  rw [List.getElem_map] at c0 c1 c2 c3
  exact ⟨b, off, cap, by rw [e, List.length_map], hb, c0, c1, c2, c3⟩
/-! ### Rules -/
abbrev rlQ (p : Rl × Value) : V4 := (.int .u32 (p.1.arch : Nat), .int .u32 (p.1.nr : Nat), p.2, .int .u32 (p.1.act : Nat))
/-- A rule's value, its conditions lying elsewhere. -/
abbrev Rl.val (x : Rl) (cv : Value) : Value := .agg #[.int .u32 (x.arch : Nat), .int .u32 (x.nr : Nat), cv, .int .u32 (x.act : Nat)]
abbrev rlB (x : Rl) (cv : Value) : Obj := .cells #[.int .u32 (x.arch : Nat), .int .u32 (x.nr : Nat), cv, .int .u32 (x.act : Nat)] 45
def LAt (w : World) (v : Value) (rs : List Rl) : Prop := ∃ l : List (Rl × Value), rs = l.map (·.1) ∧ QAt w v (l.map rlQ) ∧ ∀ p ∈ l, CAt w p.2 p.1.conds
theorem LAt.nil (w : World) : LAt w (.slice none 0 0) [] := ⟨[], rfl, QAt.nil w, by simp⟩
theorem LAt.below {w w' : World} {v : Value} {rs : List Rl} (h : LAt w v rs) (hb : Below w.heap.size w w') : LAt w' v rs := by
  obtain ⟨l, e, h1, h2⟩ := h
  exact ⟨l, e, h1.below hb, fun p hp => (h2 p hp).below hb⟩
theorem LAt.shape {w : World} {v : Value} {rs : List Rl} (h : LAt w v rs) : ∃ ao cap, v = .slice ao rs.length cap := by
  obtain ⟨l, e, h1, _⟩ := h
  obtain ⟨ao, cap, e2⟩ := h1.shape
  exact ⟨ao, cap, by rw [e2, e, List.length_map, List.length_map]⟩
theorem LAt.row {w : World} {v : Value} {rs : List Rl} (h : LAt w v rs) {i : Nat} (hi : i < rs.length) : ∃ b off cap cv, v = .slice (some ⟨b, off, none⟩) rs.length cap ∧ b < w.heap.size ∧ CAt w cv (rs[i]).conds ∧
    w.cell? ⟨b, off + i * 4, none⟩ = some (.int .u32 ((rs[i]).arch : Nat)) ∧ w.cell? ⟨b, off + i * 4 + 1, none⟩ = some (.int .u32 ((rs[i]).nr : Nat)) ∧ w.cell? ⟨b, off + i * 4 + 2, none⟩ = some cv ∧ w.cell? ⟨b, off + i * 4 + 3, none⟩ = some (.int .u32 ((rs[i]).act : Nat)) := by
  obtain ⟨l, rfl, h1, h2⟩ := h
  rw [List.length_map] at hi
  obtain ⟨b, off, cap, e, hb, c0, c1, c2, c3⟩ := h1.row (i := i) (by rw [List.length_map]; exact hi)
  rw [List.getElem_map] at c0 c1 c2 c3
  refine ⟨b, off, cap, (l[i]).2, by rw [e, List.length_map, List.length_map], hb, ?_, ?_⟩
  · rw [List.getElem_map]
    exact h2 _ (List.getElem_mem hi)
  · rw [List.getElem_map]
    exact ⟨c0, c1, c2, c3⟩
theorem CAt.len {w : World} {v : Value} {cs ds : List Cd} (h : CAt w v cs) (h' : CAt w v ds) : cs.length = ds.length := by
  obtain ⟨a, c, e⟩ := h.shape
  obtain ⟨a', c', e'⟩ := h'.shape
  rw [e] at e'
  simp only [Value.slice.injEq] at e'
  exact e'.2.1
/-! ### Policies -/
abbrev poV (rv : Value) (d : Nat) : Value := .agg #[rv, .int .u32 (d : Nat)]
abbrev poB (rv : Value) (d : Nat) : Obj := .cells #[rv, .int .u32 (d : Nat)] 25
theorem pbox {w : World} {g : Nat} {rv : Value} {d : Nat} (h : w.heap[g]? = some (poB rv d)) : w.cell? ⟨g, 0, none⟩ = some rv ∧ w.cell? ⟨g, 1, none⟩ = some (.int .u32 (d : Nat)) := ⟨cell_in h 0, cell_in h 1⟩
theorem rbox {w : World} {g : Nat} {x : Rl} {cv : Value} (h : w.heap[g]? = some (rlB x cv)) : w.cell? ⟨g, 0, none⟩ = some (.int .u32 (x.arch : Nat)) ∧ w.cell? ⟨g, 1, none⟩ = some (.int .u32 (x.nr : Nat)) ∧ w.cell? ⟨g, 2, none⟩ = some cv ∧ w.cell? ⟨g, 3, none⟩ = some (.int .u32 (x.act : Nat)) := ⟨cell_in h 0, cell_in h 1, cell_in h 2, cell_in h 3⟩
/-! ### A policy that came in -/
theorem cellsCond : Tryz.prog.cellsOf 55 = 4 := by kernel_rfl
theorem cellsRule : Tryz.prog.cellsOf 45 = 4 := by kernel_rfl
theorem cellsPolicy : Tryz.prog.cellsOf 25 = 2 := by kernel_rfl
section
variable {H : Type} {enc : TypeId × Value → H} {W : World}
theorem trod_i64 {n : Nat} {c : Value} {y : DataW H × List MemPlace} (h : DataW.trod enc Tryz.prog W 0 (fun _ => true) true n 3 [c] = some y) : ∃ k : Int, c = .int .i64 k := by
  obtain ⟨z, e, _, _⟩ := DataW.trod_int Tryz.underlying3 h
  simp only [List.cons.injEq, and_true] at e
  exact ⟨z, e⟩
theorem trod_u64 {n : Nat} {c : Value} {y : DataW H × List MemPlace} (h : DataW.trod enc Tryz.prog W 0 (fun _ => true) true n 26 [c] = some y) : ∃ k : Nat, c = .int .u64 (k : Nat) ∧ k < 18446744073709551616 := by
  obtain ⟨z, e, _, g⟩ := DataW.trod_int Tryz.underlying26 h
  simp only [List.cons.injEq, and_true] at e
  have b := bounds_u64 g
  exact ⟨z.toNat, by rw [e, show ((z.toNat : Nat) : Int) = z by omega], by omega⟩
theorem trod_u32 {n : Nat} {c : Value} {y : DataW H × List MemPlace} (h : DataW.trod enc Tryz.prog W 0 (fun _ => true) true n 23 [c] = some y) : ∃ k : Nat, c = .int .u32 (k : Nat) ∧ k < 4294967296 := by
  obtain ⟨z, e, _, g⟩ := DataW.trod_int Tryz.underlying23 h
  simp only [List.cons.injEq, and_true] at e
  have b := bounds_u32 g
  exact ⟨z.toNat, by rw [e, show ((z.toNat : Nat) : Int) = z by omega], by omega⟩
theorem open_conds {n : Nat} {v : Value} {y : DataW H × List MemPlace} (h : DataW.trod enc Tryz.prog W 0 (fun _ => true) true n 43 [v] = some y) : ∃ cs : List Cd, CAt W v cs ∧ (∀ c ∈ cs, c.ok) ∧ cs.length ≤ 9223372036854775807 := by
  obtain ⟨d, p⟩ := y
  rcases open_slice Tryz.underlying43 h with ⟨hcs, _⟩ | ⟨a, len', cap', m, n, D, Pl, hcs, _, hl, hm, hmm, _, hi⟩
  · obtain rfl := (List.cons.inj hcs).1
    exact ⟨[], CAt.nil W, by simp, by simp⟩
  · obtain rfl := (List.cons.inj hcs).1
    simp only [if_true] at hmm
    unfold maxLen at hm
    rw [cellsCond] at hi
    have hall : ∀ i, i < len' → ∃ c : Cd, c.ok ∧ W.cell? (a.add (i * 4)) = some (.int .i64 c.arg) ∧ W.cell? ((a.add (i * 4)).add 1) = some (.int .i64 c.cmp) ∧ W.cell? ((a.add (i * 4)).add 2) = some (.int .u64 (c.mask : Nat)) ∧ W.cell? ((a.add (i * 4)).add 3) = some (.int .u64 (c.value : Nat)) := by
      intro i hil
      obtain ⟨cs', hc, ht'⟩ := hi i (by omega)
      obtain ⟨ys, n', _, _, hlen, hyl, hff⟩ := DataW.trod_struct Tryz.underlying55 ht'
      obtain ⟨_, hcl, hat⟩ := World.cells?_some hc
      rw [cellsCond] at hlen
      match cs', hlen with
      | [c0, c1, c2, c3], _ =>
        have hy4 : ys.length = 4 := hyl
        match ys, hy4 with
        | [y0, y1, y2, y3], _ =>
          have h0 : DataW.trod enc Tryz.prog W 0 (fun _ => true) true n' 3 [c0] = some y0 := hff 0 _ rfl
          have h1 : DataW.trod enc Tryz.prog W 0 (fun _ => true) true n' 3 [c1] = some y1 := hff 1 _ rfl
          have h2 : DataW.trod enc Tryz.prog W 0 (fun _ => true) true n' 26 [c2] = some y2 := hff 2 _ rfl
          have h3 : DataW.trod enc Tryz.prog W 0 (fun _ => true) true n' 26 [c3] = some y3 := hff 3 _ rfl
          obtain ⟨k0, rfl⟩ := trod_i64 h0
          obtain ⟨k1, rfl⟩ := trod_i64 h1
          obtain ⟨k2, rfl, b2⟩ := trod_u64 h2
          obtain ⟨k3, rfl, b3⟩ := trod_u64 h3
          have g0 := hat 0 (by omega)
          have g1 := hat 1 (by omega)
          have g2 := hat 2 (by omega)
          have g3 := hat 3 (by omega)
          refine ⟨⟨k0, k1, k2, k3⟩, ⟨b2, b3⟩, ?_, g1, g2, g3⟩
          simpa [Addr.add] using g0
    obtain ⟨l, hll, hq⟩ := pick_list len' hall
    subst hll
    refine ⟨l, ⟨some a, cap', by rw [List.length_map], ?_⟩, ?_, by omega⟩
    · by_cases h0 : l = []
      · exact .inl (by rw [h0]; rfl)
      · have hpos : 0 < l.length := List.length_pos_iff.2 h0
        obtain ⟨ab, ao, spot⟩ := a
        obtain ⟨_, q0, _⟩ := hq 0 hpos
        have hspot : spot = none := by simpa [Addr.add] using World.cell?_spot q0
        subst hspot
        refine .inr ⟨ab, ao, rfl, ?_, fun i hi' => ?_⟩
        · apply Nat.lt_of_not_le
          intro hle
          have e : W.heap[ab]? = none := by simp; exact hle
          rw [Addr.add_lit] at q0
          simp [World.cell?, e] at q0
        · rw [List.length_map] at hi'
          obtain ⟨_, q0, q1, q2, q3⟩ := hq i hi'
          rw [Addr.add_lit] at q0 q1 q2 q3
          rw [Addr.add_lit] at q1 q2 q3
          rw [List.getElem_map]
          exact ⟨q0, q1, q2, q3⟩
    · intro x hx
      obtain ⟨i, hi', rfl⟩ := List.getElem_of_mem hx
      exact (hq i hi').1
theorem open_rules {n : Nat} {v : Value} {y : DataW H × List MemPlace} (h : DataW.trod enc Tryz.prog W 0 (fun _ => true) true n 22 [v] = some y) : ∃ rs : List Rl, LAt W v rs ∧ (∀ x ∈ rs, x.ok ∧ x.conds.length ≤ 9223372036854775807) ∧ rs.length ≤ 9223372036854775807 := by
  obtain ⟨d, p⟩ := y
  rcases open_slice Tryz.underlying22 h with ⟨hcs, _⟩ | ⟨a, len', cap', m, n, D, Pl, hcs, _, hl, hm, hmm, _, hi⟩
  · obtain rfl := (List.cons.inj hcs).1
    exact ⟨[], LAt.nil W, by simp, by simp⟩
  · obtain rfl := (List.cons.inj hcs).1
    simp only [if_true] at hmm
    unfold maxLen at hm
    rw [cellsRule] at hi
    have hall : ∀ i, i < len' → ∃ q : Rl × Value, (q.1.ok ∧ q.1.conds.length ≤ 9223372036854775807 ∧ CAt W q.2 q.1.conds) ∧ W.cell? (a.add (i * 4)) = some (.int .u32 (q.1.arch : Nat)) ∧ W.cell? ((a.add (i * 4)).add 1) = some (.int .u32 (q.1.nr : Nat)) ∧ W.cell? ((a.add (i * 4)).add 2) = some q.2 ∧ W.cell? ((a.add (i * 4)).add 3) = some (.int .u32 (q.1.act : Nat)) := by
      intro i hil
      obtain ⟨cs', hc, ht'⟩ := hi i (by omega)
      obtain ⟨ys, n', _, _, hlen, hyl, hff⟩ := DataW.trod_struct Tryz.underlying45 ht'
      obtain ⟨_, hcl, hat⟩ := World.cells?_some hc
      rw [cellsRule] at hlen
      match cs', hlen with
      | [c0, c1, c2, c3], _ =>
        have hy4 : ys.length = 4 := hyl
        match ys, hy4 with
        | [y0, y1, y2, y3], _ =>
          have h0 : DataW.trod enc Tryz.prog W 0 (fun _ => true) true n' 23 [c0] = some y0 := hff 0 _ rfl
          have h1 : DataW.trod enc Tryz.prog W 0 (fun _ => true) true n' 23 [c1] = some y1 := hff 1 _ rfl
          have h2 : DataW.trod enc Tryz.prog W 0 (fun _ => true) true n' 43 [c2] = some y2 := hff 2 _ rfl
          have h3 : DataW.trod enc Tryz.prog W 0 (fun _ => true) true n' 23 [c3] = some y3 := hff 3 _ rfl
          obtain ⟨k0, rfl, b0⟩ := trod_u32 h0
          obtain ⟨k1, rfl, b1⟩ := trod_u32 h1
          obtain ⟨cs, hcs, hok, hln⟩ := open_conds h2
          obtain ⟨k3, rfl, b3⟩ := trod_u32 h3
          have g0 := hat 0 (by omega)
          have g1 := hat 1 (by omega)
          have g2 := hat 2 (by omega)
          have g3 := hat 3 (by omega)
          refine ⟨(⟨k0, k1, k3, cs⟩, c2), ⟨⟨b0, b1, b3, hok⟩, hln, hcs⟩, ?_, g1, g2, g3⟩
          simpa [Addr.add] using g0
    obtain ⟨l, hll, hq⟩ := pick_list len' hall
    subst hll
    refine ⟨l.map (·.1), ⟨l, rfl, ⟨some a, cap', by rw [List.length_map], ?_⟩, ?_⟩, ?_, by rw [List.length_map]; omega⟩
    · by_cases h0 : l = []
      · exact .inl (by rw [h0]; rfl)
      · have hpos : 0 < l.length := List.length_pos_iff.2 h0
        obtain ⟨ab, ao, spot⟩ := a
        obtain ⟨_, q0, _⟩ := hq 0 hpos
        have hspot : spot = none := by simpa [Addr.add] using World.cell?_spot q0
        subst hspot
        refine .inr ⟨ab, ao, rfl, ?_, fun i hi' => ?_⟩
        · apply Nat.lt_of_not_le
          intro hle
          have e : W.heap[ab]? = none := by simp; exact hle
          rw [Addr.add_lit] at q0
          simp [World.cell?, e] at q0
        · rw [List.length_map] at hi'
          obtain ⟨_, q0, q1, q2, q3⟩ := hq i hi'
          rw [Addr.add_lit] at q0 q1 q2 q3
          rw [Addr.add_lit] at q1 q2 q3
          rw [List.getElem_map]
          exact ⟨q0, q1, q2, q3⟩
    · intro p hp
      obtain ⟨i, hi', rfl⟩ := List.getElem_of_mem hp
      exact (hq i hi').1.2.2
    · intro x hx
      obtain ⟨p, hp, rfl⟩ := List.mem_map.1 hx
      obtain ⟨i, hi', rfl⟩ := List.getElem_of_mem hp
      exact ⟨(hq i hi').1.1, (hq i hi').1.2.1⟩
theorem open_policy {base : Nat} {v : Value} {d : DataW H} {p : List MemPlace} (hval : Value.okWide Tryz.prog W .any base 25 v) (h : DataW.Trod enc Tryz.prog W 0 (fun _ => true) true 25 v d p) : ∃ (q : Po) (rv : Value), v = poV rv q.dflt ∧ LAt W rv q.rules ∧ q.ok ∧ q.rules.length ≤ 9223372036854775807 ∧ ∀ x ∈ q.rules, x.conds.length ≤ 9223372036854775807 := by
  obtain ⟨cs, rfl, hsz⟩ := okWide_struct Tryz.underlying25 hval
  rw [cellsPolicy] at hsz
  obtain ⟨c0, c1, hc⟩ : ∃ c0 c1, cs = #[c0, c1] := by
    obtain ⟨l⟩ := cs
    match l, hsz with
    | [c0, c1], _ => exact ⟨c0, c1, rfl⟩
  subst hc
  obtain ⟨fuel, hf⟩ := h
  obtain ⟨ys, n, _, _, _, hyl, hff⟩ := DataW.trod_struct Tryz.underlying25 hf
  have hy2 : ys.length = 2 := hyl
  match ys, hy2 with
  | [y0, y1], _ =>
    have h0 : DataW.trod enc Tryz.prog W 0 (fun _ => true) true n 22 [c0] = some y0 := hff 0 _ rfl
    have h1 : DataW.trod enc Tryz.prog W 0 (fun _ => true) true n 23 [c1] = some y1 := hff 1 _ rfl
    obtain ⟨rs, hL, hok, hln⟩ := open_rules h0
    obtain ⟨k1, rfl, b1⟩ := trod_u32 h1
    exact ⟨⟨rs, k1⟩, c0, rfl, hL, ⟨b1, fun x hx => (hok x hx).1⟩, hln, fun x hx => (hok x hx).2⟩
end
end Go.Proofs.YtbekkdhlfkongaaGreatDoor
/-
  What a lowering leaves as it lay; where it lies; how it ends a run.
-/
namespace Go.Proofs.YtbekkdhlfkongaaGreatDoor
open Go.ChangeShapes Go.WideShapes Go.ChangeAt Go.RowKit
set_option maxRecDepth 20000

/-- Below B all is as it lay; of the cells above, one block's may have turned. -/
structure LR (B b : Nat) (w w' : World) : Prop where
  below : Below B w w'
  cells : ∀ k (cs : Array Value) (t : TypeId) (fr : Nat × Nat), w.heap[k]? = some (.cells cs t fr) → k ≠ b → w'.heap[k]? = some (.cells cs t fr)
theorem LR.refl (B b : Nat) (w : World) : LR B b w w := ⟨Below.refl _ _, fun _ _ _ _ h _ => h⟩
theorem LR.trans {B b : Nat} {u v w : World} (h : LR B b u v) (k : LR B b v w) : LR B b u w := ⟨h.below.trans k.below, fun i cs t fr hi hn => k.cells i cs t fr (h.cells i cs t fr hi hn) hn⟩
theorem LR.of_below {B b : Nat} {w w' : World} (h : Below w.heap.size w w') (hB : B ≤ w.heap.size) : LR B b w w' := ⟨h.mono hB, fun _ _ _ _ hi _ => (h.block _ (lt_of_block hi)).trans hi⟩
theorem LR.of_chg {B b : Nat} {w w' : World} (h : Chg b w w') (hB : B ≤ w.heap.size) (hb : B ≤ b) : LR B b w w' := ⟨h.below (Below.refl _ _) hb hB, fun _ _ _ _ hi hn => h.keep hi hn⟩
theorem LR.of_grown {B b : Nat} {w w' : World} {row : Option Nat} (h : w.grownBy w' row) (hB : B ≤ w.heap.size) (hr : ∀ r, row = some r → B ≤ r ∧ ∃ o : Obj, w.heap[r]? = some o ∧ o.isCells = false) : LR B b w w' :=
  ⟨(Below.refl B w).grown h hB (fun k hk => (hr k hk).1), fun k cs t fr hi _ => (h.block k (lt_of_block hi) (fun e => by
    obtain ⟨_, o, ho, hc⟩ := hr k e.symm
    rw [hi] at ho
    cases ho
    cases hc)).trans hi⟩
theorem LR.size {B b : Nat} {w w' : World} (h : LR B b w w') : w.heap.size ≤ w'.heap.size := h.below.size
/-- What holds as long as no more turns than a lowering does. -/
def LStay (B b : Nat) (w : World) (Q : World → Prop) : Prop := ∀ w', LR B b w w' → Q w'
theorem LStay.now {B b : Nat} {w : World} {Q : World → Prop} (h : LStay B b w Q) : Q w := h w (LR.refl _ _ _)
theorem LStay.next {B b : Nat} {w w' : World} {Q : World → Prop} (h : LStay B b w Q) (hr : LR B b w w') : LStay B b w' Q := fun _ hr' => h _ (hr.trans hr')
theorem LStay.imp {B b : Nat} {w : World} {Q Q' : World → Prop} (h : LStay B b w Q) (hi : ∀ V, Q V → Q' V) : LStay B b w Q' := fun V hV => hi V (h V hV)
/-! ### The map of the ends -/
theorem keyU_keyed : Go.Maps.Keyed Tryz.prog 23 := Go.Maps.int_keyed Tryz.underlying23
def keyU (a : Nat) : Lit := .int .u32 (a : Nat)
theorem keyU_lit (a : Nat) : WideAt.IsKeyLit (keyU a) := by unfold keyU; exact True.intro
theorem keyU_inj {a b : Nat} (h : keyU a = keyU b) : a = b := by
  unfold keyU at h
  injection h with _ h
  omega
theorem keyOfU {a : Nat} (h : a < 4294967296) : keyOf Tryz.prog 23 (.int .u32 (a : Nat)) = some (keyU a) := Go.Maps.keyOf_int_mk Tryz.underlying23 (WalkArith.wf_u32 (by omega))
/-- What a map from numbers says. -/
def MapsTo (D : DataW Value) (F : Nat → Option Value) : Prop := Maps.IsMap D ∧ ∀ a, Maps.has D (keyU a) = (F a).isSome ∧ ∀ z, D.atKey (keyU a) (.held z) = .held ((F a).getD z)
theorem mapsTo_nil : MapsTo (.map []) (fun _ => none) := ⟨Maps.isMap_empty, fun _ => ⟨rfl, fun _ => rfl⟩⟩
def putF (F : Nat → Option Value) (k : Nat) (v : Value) : Nat → Option Value := fun a => if a = k then some v else F a
theorem mapsTo_put {D : DataW Value} {F : Nat → Option Value} (h : MapsTo D F) (k : Nat) (v : Value) : MapsTo (D.put (keyU k) (.held v)) (putF F k v) := by
  refine ⟨h.1.put _ _, fun a => ?_⟩
  by_cases e : a = k
  · subst e
    unfold putF
    rw [if_pos rfl]
    exact ⟨by rw [Maps.has_put_same h.1 (keyU_lit _)]; rfl, fun z => by rw [Maps.atKey_put_same h.1 (keyU_lit _)]; rfl⟩
  · have e2 : keyU a ≠ keyU k := fun h' => e (keyU_inj h')
    unfold putF
    rw [if_neg e]
    exact ⟨by rw [Maps.has_put_other e2]; exact (h.2 a).1, fun z => by rw [Maps.atKey_put_other e2]; exact (h.2 a).2 z⟩

/-! ### A lowering -/
structure LS where
  s : DS
  E : Nat → Option Int
  n : Nat
def putE (E : Nat → Option Int) (a : Nat) (l : Int) : Nat → Option Int := fun x => if x = a then some l else E x
def retX (a : Nat) : X4 := ⟨6, 0, 0, (a : Nat)⟩
def newL (S : LS) (a : Nat) : LS × Int := (⟨(addS S.s (retX a)).1, putE S.E a (addS S.s (retX a)).2, S.n + 1⟩, (addS S.s (retX a)).2)
/-- The label of an instruction that ends a run with an action. -/
def endL (S : LS) (a : Nat) : LS × Int :=
  match S.E a with
  | none => newL S a
  | some l => if 200 < (S.s.c.length : Int) - l then newL S a else (S, l)
def eV (E : Nat → Option Int) : Nat → Option Value := fun a => (E a).map (fun l => .int .i64 l)
theorem eV_put (E : Nat → Option Int) (a : Nat) (l : Int) : eV (putE E a l) = putF (eV E) a (.int .i64 l) := by
  funext x
  unfold eV putE putF
  split <;> rfl
def lwRest (rv : Value) (dflt m : Nat) : Array Value := #[rv, .int .u32 (dflt : Nat), .map (some m)]
/-- A lowering that lies in a world. -/
def LwAt (w : World) (b : Nat) (rv : Value) (dflt m : Nat) (S : LS) : Prop :=
  DrAt w b 71 (lwRest rv dflt m) S.s ∧ ∃ D, w.ownsMap Tryz.prog 23 fnR m S.n D ∧ MapsTo D (eV S.E)
theorem own_map_u32 {w w' : World} {b n : Nat} {D : DataW Value} (h : w.ownsMap Tryz.prog 23 fnR b n D) (hb : w'.heap[b]? = w.heap[b]?) : w'.ownsMap Tryz.prog 23 fnR b n D := by
  obtain ⟨es, clock, hh, r⟩ := h
  exact ⟨es, clock, hb.trans hh, r⟩
theorem LwAt.below {w w' : World} {b : Nat} {rv : Value} {dflt m : Nat} {S : LS} (h : LwAt w b rv dflt m S) (hb : Below w.heap.size w w') : LwAt w' b rv dflt m S := by
  obtain ⟨h1, D, h2, h3⟩ := h
  exact ⟨h1.below hb, D, own_map_u32 h2 (hb.block _ h2.lt), h3⟩
/-- The draft has turned. -/
theorem LwAt.draft {w w' : World} {b : Nat} {rv : Value} {dflt m : Nat} {S : LS} {s' : DS} (h : LwAt w b rv dflt m S) (hd : DrAt w' b 71 (lwRest rv dflt m) s') (hc : Chg b w w') (hmb : m ≠ b) : LwAt w' b rv dflt m ⟨s', S.E, S.n⟩ := by
  obtain ⟨h1, D, h2, h3⟩ := h
  exact ⟨hd, D, own_map_u32 h2 (hc.block _ h2.lt hmb), h3⟩
theorem lw_cells {w : World} {b : Nat} {rv : Value} {dflt m : Nat} {S : LS} (h : LwAt w b rv dflt m S) : ∃ ao cap, w.cell? ⟨b, 0, none⟩ = some (.slice ao S.s.c.length cap) ∧ w.cell? ⟨b, 2, none⟩ = some rv ∧ w.cell? ⟨b, 3, none⟩ = some (.int .u32 (dflt : Nat)) ∧ w.cell? ⟨b, 4, none⟩ = some (.map (some m)) := by
  obtain ⟨⟨v, hh, hv, _⟩, _⟩ := h
  obtain ⟨ao, cap, rfl⟩ := hv.shape
  exact ⟨ao, cap, by rw [cell_in hh]; simp [lwRest], by rw [cell_in hh]; simp [lwRest], by rw [cell_in hh]; simp [lwRest], by rw [cell_in hh]; simp [lwRest]⟩
/-- What a method of the lowering answers. -/
def LEnd (B : Nat) (w : World) (b : Nat) (rv : Value) (dflt m : Nat) (r : LS × Int) (w' : World) (e : Ending) : Prop := e = .returned (.int .i64 r.2) ∧ LwAt w' b rv dflt m r.1 ∧ LR B b w w'
/-- Where a lowering may lie. -/
structure LwIn (B b m : Nat) (w : World) : Prop where
  hb : B ≤ b
  hm : B ≤ m
  hne : m ≠ b
  ops : OTab w
  tab : Tab w
  opB : 0 < B
  tabB : 3 < B
  hsz : B ≤ w.heap.size
theorem LwIn.next {B b m : Nat} {w w' : World} (h : LwIn B b m w) (hr : LR B b w w') : LwIn B b m w' := by
  refine ⟨h.hb, h.hm, h.hne, ?_, ?_, h.opB, h.tabB, Nat.le_trans h.hsz hr.size⟩
  · obtain ⟨t, fr, h0⟩ := h.ops
    exact ⟨t, fr, (hr.below.block _ h.opB).trans h0⟩
  · exact ⟨(hr.below.cell (p := ⟨3, 15, none⟩) h.tabB).trans h.tab.1, Nat.lt_of_lt_of_le h.tab.2 hr.size⟩
theorem LwIn.opsAt {B b m : Nat} {w : World} (h : LwIn B b m w) : OpsAt w b := ⟨h.ops, by have := h.opB; have := h.hb; omega⟩
theorem zeroI (w : World) : (zeroValue 3).run Tryz.prog w = .ok (.int .i64 0) w := by kernel_rfl
theorem look_ends {w : World} {m n : Nat} {D : DataW Value} {F : Nat → Option Value} (h : w.ownsMap Tryz.prog 23 fnR m n D) (hM : MapsTo D F) (a : Nat) (ha : a < 4294967296) :
    (Instr.lookup 67 (.map (some m)) (.int .u32 (a : Nat)) true).run Tryz.prog w = .ok (.tuple #[(F a).getD (.int .i64 0), .bool (F a).isSome]) w := by
  obtain ⟨v, ps, hr, hv⟩ := h.look_ok keyU_keyed Tryz.underlying67 (zeroI w) (zd := .held (.int .i64 0)) (zp := []) rfl (keyOfU ha)
  rw [(hM.2 a).2] at hv
  rw [(hM.2 a).1] at hr
  unfold fnR at hv
  simp only [Option.some.injEq, Prod.mk.injEq, DataW.held.injEq] at hv
  rw [hr, hv.1]

theorem FAt.map_grown {w w' : World} {m : Nat} {v : Value} {l : List X4} (h : FAt w v l) (hg : w.grownBy w' (some m)) (hIs : ∃ o : Obj, w.heap[m]? = some o ∧ o.isCells = false) : FAt w' v l := by
  obtain ⟨ao, cap, rfl, h⟩ := h
  refine ⟨ao, cap, rfl, ?_⟩
  by_cases hnil : l = []
  · exact .inl hnil
  refine .inr ?_
  rcases h with h | ⟨g, off, rfl, hgl, hc⟩
  · exact absurd h hnil
  have hpos : 0 < l.length := List.length_pos_iff.2 hnil
  have hgm : g ≠ m := by
    intro e
    subst e
    obtain ⟨o, ho, hno⟩ := hIs
    have h0 := (hc 0 hpos).1
    unfold World.cell? at h0
    rw [ho] at h0
    cases o
    · cases hno
    all_goals simp at h0
  have hcell : ∀ o, w'.cell? ⟨g, o, none⟩ = w.cell? ⟨g, o, none⟩ := fun o => by unfold World.cell?; rw [hg.block g hgl (fun e => hgm (by cases e; rfl))]
  refine ⟨g, off, rfl, Nat.lt_of_lt_of_le hgl hg.size, fun i hi => ?_⟩
  rw [hcell, hcell, hcell, hcell]
  exact hc i hi
set_option maxHeartbeats 8000000 in
theorem lend_any {B b m : Nat} {rv : Value} {dflt : Nat} {S : LS} (a : Nat) (w : World) (h : LwAt w b rv dflt m S) (hi : LwIn B b m w) (ha : a < 4294967296) (hl : S.s.c.length ≤ 3990) (hn : S.n ≤ 100000) (hE : ∀ l, S.E a = some l → 0 ≤ l ∧ l ≤ 100000) :
    Calls Tryz.prog 59 #[.pointer (some ⟨b, 0, none⟩), .int .u32 (a : Nat)] w fun e w' => LEnd B w b rv dflt m (endL S a) w' e := by
  obtain ⟨r, hr⟩ : ∃ r, r = endL S a := ⟨_, rfl⟩
  rw [← hr]
  have HL := Lib.hid h
  have HI := Lib.hid hi
  obtain ⟨ao, cap, c0, _, _, c4⟩ := lw_cells h
  obtain ⟨D, hD, hM⟩ := h.2
  have hlook := look_ends hD hM a ha
  clear h hi
  -- the way on which an instruction is put
  have HNew : Hid (r = newL S a → ∀ w1, DEnd w b 71 (lwRest rv dflt m) (addS S.s (retX a)) w1 (.returned (.int .i64 (addS S.s (retX a)).2)) →
      LwAt w1 b rv dflt m ⟨(addS S.s (retX a)).1, S.E, S.n⟩ ∧ ∀ w2, (∃ D', w2.ownsMap Tryz.prog 23 fnR m (S.n + 1) (D'.put (keyU a) (.held (.int .i64 (addS S.s (retX a)).2))) ∧ MapsTo D' (eV S.E)) → w1.grownBy w2 (some m) →
      LEnd B w b rv dflt m r w2 (.returned (.int .i64 (addS S.s (retX a)).2))) := Lib.hid (by
    rintro hrr w1 ⟨_, hd1, hc1⟩
    have hL1 := HL.out.draft hd1 hc1 HI.out.hne
    refine ⟨hL1, ?_⟩
    rintro w2 ⟨D', hD', hM'⟩ hg
    rw [hrr]
    have hbsz := hd1.lt
    have hm1 : m < w1.heap.size := by obtain ⟨_, D1, h2, _⟩ := hL1; exact h2.lt
    have hIs : ∃ o : Obj, w1.heap[m]? = some o ∧ o.isCells = false := by
      obtain ⟨_, D1, ⟨es, clock, hh, _⟩, _⟩ := hL1
      exact ⟨_, hh, rfl⟩
    have hLR1 : LR B b w w1 := LR.of_chg hc1 HI.out.hsz HI.out.hb
    have hLR2 : LR B b w1 w2 := LR.of_grown hg (Nat.le_trans HI.out.hsz hc1.size) (fun r e => by cases e; exact ⟨HI.out.hm, hIs⟩)
    refine ⟨rfl, ⟨?_, _, hD', ?_⟩, hLR1.trans hLR2⟩
    · obtain ⟨v, h1, h2, h3⟩ := hd1
      have hbk : w2.heap[b]? = w1.heap[b]? := hg.block b hbsz (fun e => HI.out.hne (by cases e; rfl))
      refine ⟨v, hbk.trans h1, ?_, h3⟩
      exact ⟨h2.1.map_grown hg hIs, h2.2⟩
    · show MapsTo _ (eV (putE S.E a _))
      rw [eV_put]
      exact mapsTo_put hM' a _)
  -- from the two ways on which an instruction is put
  have hLc := HL.out.1
  cases he : S.E a with
  | none =>
    have HN := Lib.hid (HNew.out (by rw [hr]; unfold endL; rw [he]))
    have hl2 : (Instr.lookup 67 (.map (some m)) (.int .u32 (a : Nat)) true).run Tryz.prog w = .ok (.tuple #[.int .i64 0, .bool false]) w := by
      rw [hlook]
      unfold eV
      rw [he]
      rfl
    clear hlook hr hE HNew hM hD he hLc
    go_enter Tryz.func59, Tryz.ntmps59
    go_wp2_with fail
    refine (dadd_any 6 0 0 (a : Nat) w HL.out.1 (by omega) HI.out.ops).mono ?_
    rintro e w1 ⟨rfl, hd1, hc1⟩
    have hde : DEnd w b 71 (lwRest rv dflt m) (addS S.s (retX a)) w1 (.returned (.int .i64 (addS S.s (retX a)).2)) := ⟨rfl, hd1, hc1⟩
    obtain ⟨hL1, hN2⟩ := HN.out w1 hde
    have HN2 := Lib.hid hN2
    obtain ⟨ao1, cap1, _, _, _, c41⟩ := lw_cells hL1
    obtain ⟨D1, hD1, hM1⟩ := hL1.2
    have HM1 := Lib.hid hM1
    obtain ⟨q, hq⟩ : ∃ q, q = (addS S.s (retX a)).2 := ⟨_, rfl⟩
    have eq : (addS S.s ⟨6, 0, 0, (a : Nat)⟩).2 = q := hq.symm
    rw [eq]
    rw [← hq] at HN2
    clear hL1 hN2 hM1 hde hd1 hc1 hl2 c0 c4 hq eq
    go_wp2_with (first | (at_mapUpdate; refine wpList_mapUpdate_own _ rfl _ _ _ 67 rfl 23 3 keyU_keyed Tryz.underlying67 fnR m S.n D1 rfl hD1 (by unfold maxLen; omega) _ _ (keyU a) rfl rfl (keyOfU ha) (.held (.int .i64 q)) [] rfl ?_; intro w2 h2 hg2))
    go_ret
    exact HN2.out w2 ⟨D1, h2, HM1.out⟩ hg2
  | some l =>
    obtain ⟨l0, l1⟩ := hE l he
    have hl2 : (Instr.lookup 67 (.map (some m)) (.int .u32 (a : Nat)) true).run Tryz.prog w = .ok (.tuple #[.int .i64 l, .bool true]) w := by
      rw [hlook]
      unfold eV
      rw [he]
      rfl
    have hw : IntKind.i64.wrap ((S.s.c.length : Int) - l) = (S.s.c.length : Int) - l := by rw [IntKind.wrap_i64]; omega
    by_cases hfar : 200 < (S.s.c.length : Int) - l
    · have HN := Lib.hid (HNew.out (by rw [hr]; unfold endL; rw [he]; simp only; rw [if_pos hfar]))
      have hfar2 : decide (200 < (S.s.c.length : Int) - l) = true := by simpa using hfar
      clear hlook hr hE HNew hM hD he hLc
      go_enter Tryz.func59, Tryz.ntmps59
      go_wp2_with fail
      refine (dadd_any 6 0 0 (a : Nat) _ HL.out.1 (by omega) HI.out.ops).mono ?_
      rintro e w1 ⟨rfl, hd1, hc1⟩
      have hde : DEnd w b 71 (lwRest rv dflt m) (addS S.s (retX a)) w1 (.returned (.int .i64 (addS S.s (retX a)).2)) := ⟨rfl, hd1, hc1⟩
      obtain ⟨hL1, hN2⟩ := HN.out w1 hde
      have HN2 := Lib.hid hN2
      obtain ⟨ao1, cap1, _, _, _, c41⟩ := lw_cells hL1
      obtain ⟨D1, hD1, hM1⟩ := hL1.2
      have HM1 := Lib.hid hM1
      obtain ⟨q, hq⟩ : ∃ q, q = (addS S.s (retX a)).2 := ⟨_, rfl⟩
      have eq : (addS S.s ⟨6, 0, 0, (a : Nat)⟩).2 = q := hq.symm
      rw [eq]
      rw [← hq] at HN2
      clear hL1 hN2 hM1 hde hd1 hc1 hl2 c0 c4 hq eq hfar hfar2 hw l0 l1
      go_wp2_with (first | (at_mapUpdate; refine wpList_mapUpdate_own _ rfl _ _ _ 67 rfl 23 3 keyU_keyed Tryz.underlying67 fnR m S.n D1 rfl hD1 (by unfold maxLen; omega) _ _ (keyU a) rfl rfl (keyOfU ha) (.held (.int .i64 q)) [] rfl ?_; intro w2 h2 hg2))
      go_ret
      exact HN2.out w2 ⟨D1, h2, HM1.out⟩ hg2
    · have HE : Hid (r = (S, l)) := Lib.hid (by rw [hr]; unfold endL; rw [he]; simp only; rw [if_neg hfar])
      clear hlook hr hE HNew hM hD he hLc
      go_enter Tryz.func59, Tryz.ntmps59
      go_wp2_with fail
      go_ret
      rw [HE.out]
      exact ⟨rfl, HL.out, LR.refl _ _ _⟩
set_option maxHeartbeats 8000000 in
theorem lother_any {B b m : Nat} {rv : Value} {dflt : Nat} {S : LS} (w : World) (h : LwAt w b rv dflt m S) (hi : LwIn B b m w) (ha : dflt < 4294967296) (hl : S.s.c.length ≤ 3990) (hn : S.n ≤ 100000) (hE : ∀ l, S.E dflt = some l → 0 ≤ l ∧ l ≤ 100000) :
    Calls Tryz.prog 31 #[.pointer (some ⟨b, 0, none⟩)] w fun e w' => LEnd B w b rv dflt m (endL S dflt) w' e := by
  obtain ⟨ao, cap, _, _, c3, _⟩ := lw_cells h
  have HC := Lib.hid (lend_any dflt w h hi ha hl hn hE)
  clear h hi hE
  go_enter Tryz.func31, Tryz.ntmps31
  go_wp2_with fail
  refine HC.out.mono ?_
  rintro e w1 ⟨rfl, h1, h2⟩
  have HE := Lib.hid (show LEnd B w b rv dflt m (endL S dflt) w1 (.returned (.int .i64 (endL S dflt).2)) from ⟨rfl, h1, h2⟩)
  clear h1 h2 c3
  go_wp2_with fail
  go_ret
  exact HE.out
end Go.Proofs.YtbekkdhlfkongaaGreatDoor
/-
  slices.Backward at groups, at rules and at conditions. (Printed by tools/gen-zback.py.)
-/
namespace Go.Proofs.YtbekkdhlfkongaaGreatDoor
open Go.ChangeShapes Go.WideShapes Go.ChangeAt Go.RowKit Go.Shelf
set_option maxRecDepth 20000
attribute [local go_sem] Oper.semAt_some

/-- What has come when k rounds are over: from the last one on. -/
def downK {α : Type} (el : Nat → α) (len k : Nat) : List α := (List.range k).map (fun i => el (len - 1 - i))
theorem downK_succ {α : Type} (el : Nat → α) (len k : Nat) : downK el len (k + 1) = downK el len k ++ [el (len - 1 - k)] := by simp [downK, List.range_succ]
theorem downK_length {α : Type} (el : Nat → α) (len k : Nat) : (downK el len k).length = k := by simp [downK]
/-- Below B all is as it lay; of the cells above, those of some blocks may have turned. -/
structure LX (B : Nat) (X : Nat → Prop) (w w' : World) : Prop where
  below : Below B w w'
  cells : ∀ k (cs : Array Value) (t : TypeId) (fr : Nat × Nat), w.heap[k]? = some (.cells cs t fr) → ¬ X k → w'.heap[k]? = some (.cells cs t fr)
theorem LX.refl (B : Nat) (X : Nat → Prop) (w : World) : LX B X w w := ⟨Below.refl _ _, fun _ _ _ _ h _ => h⟩
theorem lx_t {B : Nat} {X : Nat → Prop} {u v w : World} (h : LX B X u v) (k : LX B X v w) : LX B X u w := ⟨h.below.trans k.below, fun i cs t fr hi hn => k.cells i cs t fr (h.cells i cs t fr hi hn) hn⟩
theorem LX.of_lr {B b : Nat} {X : Nat → Prop} {w w' : World} (h : LR B b w w') (hX : X b) : LX B X w w' := ⟨h.below, fun k cs t fr hi hn => h.cells k cs t fr hi (fun e => hn (e ▸ hX))⟩
theorem LX.to_lr {B b : Nat} {X : Nat → Prop} {u w w' : World} (h : LR B b u w) (k : LX B X w w') (hX : ∀ i, X i → i = b ∨ u.heap.size ≤ i) : LR B b u w' :=
  ⟨h.below.trans k.below, fun i cs t fr hi hn => k.cells i cs t fr (h.cells i cs t fr hi hn) (fun hx => by
    have := lt_of_block hi
    rcases hX i hx with e | e
    · exact hn e
    · omega)⟩
theorem lx_b {B b : Nat} {X : Nat → Prop} (hXb : X b) {w : World} (hn : B ≤ w.heap.size) (W : World) (l : Nat) (o o' : Obj) (hl : w.heap.size ≤ l) (h : W.heap[l]? = some o) (hc : o.isCells = false) (_ : o.isWalk = false) : LX B X W (W.putObj l o') :=
  LX.of_lr (b := b) (LR.of_grown (grownBy_putObj' W l o') (by have := (Array.getElem?_eq_some_iff.1 h).1; omega) (fun r e => by cases e; exact ⟨by omega, o, h, hc⟩)) hXb

/-! ### at groups -/
/-- A slice of groups, by the cells of its elements. -/
def SlG (w : World) (sv : Value) (len : Nat) (e : Nat → List Value) : Prop :=
  ∃ ao cap, sv = .slice ao len cap ∧ (len = 0 ∨ ∃ g off, ao = some ⟨g, off, none⟩ ∧ ∀ j, j < len → w.cell? ⟨g, off + j * 2, none⟩ = (e j)[0]? ∧ w.cell? ⟨g, off + j * 2 + 1, none⟩ = (e j)[1]?)
set_option maxRecDepth 100000 in
set_option maxHeartbeats 2000000 in
theorem back1G_in (n : Nat) (hn : 1 ≤ n) (l Bs len : Nat) (Kp : World → World → Prop) (hKr : ∀ V, Kp V V) (hKt : ∀ {X Y Z : World}, Kp X Y → Kp Y Z → Kp X Z) (sv : Value) (e : Nat → List Value) {α : Type} (el : Nat → α) (encs : α → Array Value) (henc : ∀ j, j < len → ∃ x0 x1, e j = [x0, x1] ∧ encs (el j) = #[.int .i64 (j : Nat), .agg #[x0, x1]]) (hlen : len ≤ 100000) (J Jx : List α → World → Prop)
    (hY : ∀ pre x W, J pre W → pre.length < len → YieldAt Fence.wide (n - 1) Tryz.prog l (encs x) W fun e' W' =>
      (e' = .returned (.bool true) ∧ J (pre ++ [x]) W' ∧ Kp W W') ∨ (e' = .returned (.bool false) ∧ Jx (pre ++ [x]) W'))
    (W : World) (hS : ∀ V, Kp W V → V.cell? ⟨Bs, 0, none⟩ = some sv ∧ SlG V sv len e) (h0 : J [] W) :
    CallsIn Fence.wide n Tryz.prog 93 #[.func (.yield l) #[] #[], .pointer (some ⟨Bs, 0, none⟩)] W fun e' W' => (∃ v, e' = .returned v) ∧
      ((∃ ys, ys = downK el len len ∧ J ys W') ∨ (∃ pre, True ∧ Jx pre W')) := by
  have HS := Lib.hid hS
  have HE := Lib.hid henc
  have HY := Lib.hid hY
  obtain ⟨hB0, ao, cap, hsv, _⟩ := hS W (hKr W)
  rw [hsv] at hB0
  have HSV := Lib.hid hsv
  have hw : IntKind.i64.wrap ((len : Int) - 1) = (len : Int) - 1 := by rw [IntKind.wrap_i64]; omega
  clear hS henc hsv hY
  refine callsIn_of_wp Tryz.func93 rfl trivial ?_ rfl
  simp only [Tryz.ntmps93, List.size_toArray, List.length_cons, List.length_nil, Nat.reduceAdd, Nat.reduceSub, Array.replicate_succ, Array.replicate_zero, List.push_toArray, List.append_toArray, List.nil_append, List.cons_append]
  gi_wp2
  gi_loopw [3] (fun i wr => ∃ k : Nat, k ≤ len ∧ i = .int .i64 ((len : Int) - 1 - k) ∧ J (downK el len k) wr ∧ Kp W wr)
    (fun i _ => (intOf i + 1).toNat)
  case atStart => exact ⟨0, Nat.zero_le _, by congr 1; omega, h0, hKr _⟩
  case round =>
    obtain ⟨k, hk, rfl, hJs, hnx⟩ := hrel
    have HNX := Lib.hid hnx
    have HJ := Lib.hid hJs
    clear hJs hnx h0 hB0
    by_cases hlt : k < len
    · obtain ⟨j, hj⟩ : ∃ j : Nat, j = len - 1 - k := ⟨_, rfl⟩
      have hjl : j < len := by omega
      have hje : (len : Int) - 1 - k = (j : Int) := by omega
      obtain ⟨x0, x1, hej, henj⟩ := HE.out j hjl
      obtain ⟨hB0, ao', cap', hsv', hcs⟩ := HS.out wr HNX.out
      rw [HSV.out] at hsv' hB0
      cases hsv'
      obtain ⟨g, off, rfl, hc⟩ := hcs.resolve_left (by omega)
      have hcj := hc j hjl
      rw [hej] at hcj
      obtain ⟨c0, c1⟩ : wr.cell? ⟨g, off + j * 2, none⟩ = some x0 ∧ wr.cell? ⟨g, off + j * 2 + 1, none⟩ = some x1 := hcj
      obtain ⟨fn, tmps, assign, body, hy, hR⟩ := HY.out _ (el j) wr HJ.out (by rw [downK_length]; exact hlt)
      rw [henj] at hy
      have HR := Lib.hid hR
      have HJJ := Lib.hid (show downK el len k ++ [el j] = downK el len (k + 1) by rw [downK_succ, hj])
      have hw2 : IntKind.i64.wrap ((j : Int) - 1) = (j : Int) - 1 := by rw [IntKind.wrap_i64]; omega
      have hje2 : Hid ((j : Int) - 1 = (len : Int) - 1 - ((k + 1 : Nat) : Int)) := Lib.hid (by omega)
      rw [hje]
      have l0 : (0 : Int) ≤ (j : Int) := by omega
      have l1 : (j : Int) < (len : Int) := by omega
      have l2 : (j : Int).toNat = j := by omega
      clear hje hj hR hc hcs hej henj
      gi_wp2
      refine HR.out.mono ?_
      rintro e' W3 (⟨rfl, hJ3, hk3⟩ | ⟨rfl, hJx3⟩)
      · rw [HJJ.out] at hJ3
        have HJ3 := Lib.hid hJ3
        have HK3 := Lib.hid (hKt HNX.out hk3)
        clear hJ3 hk3
        gi_wp2
        go_roundw
        case rel => exact ⟨k + 1, by omega, by rw [hje2.out], HJ3.out, HK3.out⟩
        case measure => simp [intOf]
      · have HX3 := Lib.hid hJx3
        clear hJx3
        gi_wp2
        refine bodyPost_ret (results_none rfl _ _ _) rfl ?_
        exact ⟨⟨_, rfl⟩, .inr ⟨_, trivial, HX3.out⟩⟩
    · obtain rfl : k = len := by omega
      have hz : (k : Int) - 1 - (k : Int) = -1 := by omega
      rw [hz]
      gi_wp2
      go_end0
      exact ⟨⟨_, rfl⟩, .inl ⟨_, rfl, HJ.out⟩⟩
theorem backG_in (n : Nat) (ao : Option Addr) (len cap : Nat) (w : World) :
    CallsIn Fence.wide n Tryz.prog 53 #[.slice ao len cap] w fun e w' => e = .returned (.func (.func 93) #[] #[.pointer (some ⟨w.heap.size, 0, none⟩)]) ∧ w' = w.alloc (.cells #[.slice ao len cap] 77) := by
  refine callsIn_of_wp Tryz.func53 rfl trivial ?_ rfl
  simp only [Tryz.ntmps53, List.size_toArray, List.length_cons, List.length_nil, Nat.reduceAdd, Nat.reduceSub, Array.replicate_succ, Array.replicate_zero, List.push_toArray, List.append_toArray, List.nil_append, List.cons_append]
  gi_wp2
  go_ret
  exact ⟨rfl, rfl⟩
/-- What Backward hands back: all that is in the slice, from the last one on. -/
theorem backG_stops (n : Nat) (hn : 1 ≤ n) (Bs len : Nat) (Kp : World → World → Prop) (hKr : ∀ V, Kp V V) (hKt : ∀ {X Y Z : World}, Kp X Y → Kp Y Z → Kp X Z) (sv : Value) (e : Nat → List Value) {α : Type} (el : Nat → α) (encs : α → Array Value) (henc : ∀ j, j < len → ∃ x0 x1, e j = [x0, x1] ∧ encs (el j) = #[.int .i64 (j : Nat), .agg #[x0, x1]]) (hlen : len ≤ 100000) (w : World) (hKw : ∀ V, Below w.heap.size w V → Kp w V)
    (hS : ∀ V, Kp w V → V.cell? ⟨Bs, 0, none⟩ = some sv ∧ SlG V sv len e) :
    SeqStopsK Fence.wide n Tryz.prog 93 #[.pointer (some ⟨Bs, 0, none⟩)] encs Kp (fun ys => ys = downK el len len) (fun _ => True) len w := fun l J Jx W hW _ _ hY h0 =>
  back1G_in n hn l Bs len Kp hKr hKt sv e el encs henc hlen J Jx hY W (fun V hV => hS V (hKt (hKw W hW) hV)) h0

/-! ### at rules -/
/-- A slice of rules, by the cells of its elements. -/
def SlR (w : World) (sv : Value) (len : Nat) (e : Nat → List Value) : Prop :=
  ∃ ao cap, sv = .slice ao len cap ∧ (len = 0 ∨ ∃ g off, ao = some ⟨g, off, none⟩ ∧ ∀ j, j < len → w.cell? ⟨g, off + j * 4, none⟩ = (e j)[0]? ∧ w.cell? ⟨g, off + j * 4 + 1, none⟩ = (e j)[1]? ∧ w.cell? ⟨g, off + j * 4 + 2, none⟩ = (e j)[2]? ∧ w.cell? ⟨g, off + j * 4 + 3, none⟩ = (e j)[3]?)
set_option maxRecDepth 100000 in
set_option maxHeartbeats 2000000 in
theorem back1R_in (n : Nat) (hn : 1 ≤ n) (l Bs len : Nat) (Kp : World → World → Prop) (hKr : ∀ V, Kp V V) (hKt : ∀ {X Y Z : World}, Kp X Y → Kp Y Z → Kp X Z) (sv : Value) (e : Nat → List Value) {α : Type} (el : Nat → α) (encs : α → Array Value) (henc : ∀ j, j < len → ∃ x0 x1 x2 x3, e j = [x0, x1, x2, x3] ∧ encs (el j) = #[.int .i64 (j : Nat), .agg #[x0, x1, x2, x3]]) (hlen : len ≤ 100000) (J Jx : List α → World → Prop)
    (hY : ∀ pre x W, J pre W → pre.length < len → YieldAt Fence.wide (n - 1) Tryz.prog l (encs x) W fun e' W' =>
      (e' = .returned (.bool true) ∧ J (pre ++ [x]) W' ∧ Kp W W') ∨ (e' = .returned (.bool false) ∧ Jx (pre ++ [x]) W'))
    (W : World) (hS : ∀ V, Kp W V → V.cell? ⟨Bs, 0, none⟩ = some sv ∧ SlR V sv len e) (h0 : J [] W) :
    CallsIn Fence.wide n Tryz.prog 156 #[.func (.yield l) #[] #[], .pointer (some ⟨Bs, 0, none⟩)] W fun e' W' => (∃ v, e' = .returned v) ∧
      ((∃ ys, ys = downK el len len ∧ J ys W') ∨ (∃ pre, True ∧ Jx pre W')) := by
  have HS := Lib.hid hS
  have HE := Lib.hid henc
  have HY := Lib.hid hY
  obtain ⟨hB0, ao, cap, hsv, _⟩ := hS W (hKr W)
  rw [hsv] at hB0
  have HSV := Lib.hid hsv
  have hw : IntKind.i64.wrap ((len : Int) - 1) = (len : Int) - 1 := by rw [IntKind.wrap_i64]; omega
  clear hS henc hsv hY
  refine callsIn_of_wp Tryz.func156 rfl trivial ?_ rfl
  simp only [Tryz.ntmps156, List.size_toArray, List.length_cons, List.length_nil, Nat.reduceAdd, Nat.reduceSub, Array.replicate_succ, Array.replicate_zero, List.push_toArray, List.append_toArray, List.nil_append, List.cons_append]
  gi_wp2
  gi_loopw [3] (fun i wr => ∃ k : Nat, k ≤ len ∧ i = .int .i64 ((len : Int) - 1 - k) ∧ J (downK el len k) wr ∧ Kp W wr)
    (fun i _ => (intOf i + 1).toNat)
  case atStart => exact ⟨0, Nat.zero_le _, by congr 1; omega, h0, hKr _⟩
  case round =>
    obtain ⟨k, hk, rfl, hJs, hnx⟩ := hrel
    have HNX := Lib.hid hnx
    have HJ := Lib.hid hJs
    clear hJs hnx h0 hB0
    by_cases hlt : k < len
    · obtain ⟨j, hj⟩ : ∃ j : Nat, j = len - 1 - k := ⟨_, rfl⟩
      have hjl : j < len := by omega
      have hje : (len : Int) - 1 - k = (j : Int) := by omega
      obtain ⟨x0, x1, x2, x3, hej, henj⟩ := HE.out j hjl
      obtain ⟨hB0, ao', cap', hsv', hcs⟩ := HS.out wr HNX.out
      rw [HSV.out] at hsv' hB0
      cases hsv'
      obtain ⟨g, off, rfl, hc⟩ := hcs.resolve_left (by omega)
      have hcj := hc j hjl
      rw [hej] at hcj
      obtain ⟨c0, c1, c2, c3⟩ : wr.cell? ⟨g, off + j * 4, none⟩ = some x0 ∧ wr.cell? ⟨g, off + j * 4 + 1, none⟩ = some x1 ∧ wr.cell? ⟨g, off + j * 4 + 2, none⟩ = some x2 ∧ wr.cell? ⟨g, off + j * 4 + 3, none⟩ = some x3 := hcj
      obtain ⟨fn, tmps, assign, body, hy, hR⟩ := HY.out _ (el j) wr HJ.out (by rw [downK_length]; exact hlt)
      rw [henj] at hy
      have HR := Lib.hid hR
      have HJJ := Lib.hid (show downK el len k ++ [el j] = downK el len (k + 1) by rw [downK_succ, hj])
      have hw2 : IntKind.i64.wrap ((j : Int) - 1) = (j : Int) - 1 := by rw [IntKind.wrap_i64]; omega
      have hje2 : Hid ((j : Int) - 1 = (len : Int) - 1 - ((k + 1 : Nat) : Int)) := Lib.hid (by omega)
      rw [hje]
      have l0 : (0 : Int) ≤ (j : Int) := by omega
      have l1 : (j : Int) < (len : Int) := by omega
      have l2 : (j : Int).toNat = j := by omega
      clear hje hj hR hc hcs hej henj
      gi_wp2
      refine HR.out.mono ?_
      rintro e' W3 (⟨rfl, hJ3, hk3⟩ | ⟨rfl, hJx3⟩)
      · rw [HJJ.out] at hJ3
        have HJ3 := Lib.hid hJ3
        have HK3 := Lib.hid (hKt HNX.out hk3)
        clear hJ3 hk3
        gi_wp2
        go_roundw
        case rel => exact ⟨k + 1, by omega, by rw [hje2.out], HJ3.out, HK3.out⟩
        case measure => simp [intOf]
      · have HX3 := Lib.hid hJx3
        clear hJx3
        gi_wp2
        refine bodyPost_ret (results_none rfl _ _ _) rfl ?_
        exact ⟨⟨_, rfl⟩, .inr ⟨_, trivial, HX3.out⟩⟩
    · obtain rfl : k = len := by omega
      have hz : (k : Int) - 1 - (k : Int) = -1 := by omega
      rw [hz]
      gi_wp2
      go_end0
      exact ⟨⟨_, rfl⟩, .inl ⟨_, rfl, HJ.out⟩⟩
theorem backR_in (n : Nat) (ao : Option Addr) (len cap : Nat) (w : World) :
    CallsIn Fence.wide n Tryz.prog 134 #[.slice ao len cap] w fun e w' => e = .returned (.func (.func 156) #[] #[.pointer (some ⟨w.heap.size, 0, none⟩)]) ∧ w' = w.alloc (.cells #[.slice ao len cap] 22) := by
  refine callsIn_of_wp Tryz.func134 rfl trivial ?_ rfl
  simp only [Tryz.ntmps134, List.size_toArray, List.length_cons, List.length_nil, Nat.reduceAdd, Nat.reduceSub, Array.replicate_succ, Array.replicate_zero, List.push_toArray, List.append_toArray, List.nil_append, List.cons_append]
  gi_wp2
  go_ret
  exact ⟨rfl, rfl⟩
/-- What Backward hands back: all that is in the slice, from the last one on. -/
theorem backR_stops (n : Nat) (hn : 1 ≤ n) (Bs len : Nat) (Kp : World → World → Prop) (hKr : ∀ V, Kp V V) (hKt : ∀ {X Y Z : World}, Kp X Y → Kp Y Z → Kp X Z) (sv : Value) (e : Nat → List Value) {α : Type} (el : Nat → α) (encs : α → Array Value) (henc : ∀ j, j < len → ∃ x0 x1 x2 x3, e j = [x0, x1, x2, x3] ∧ encs (el j) = #[.int .i64 (j : Nat), .agg #[x0, x1, x2, x3]]) (hlen : len ≤ 100000) (w : World) (hKw : ∀ V, Below w.heap.size w V → Kp w V)
    (hS : ∀ V, Kp w V → V.cell? ⟨Bs, 0, none⟩ = some sv ∧ SlR V sv len e) :
    SeqStopsK Fence.wide n Tryz.prog 156 #[.pointer (some ⟨Bs, 0, none⟩)] encs Kp (fun ys => ys = downK el len len) (fun _ => True) len w := fun l J Jx W hW _ _ hY h0 =>
  back1R_in n hn l Bs len Kp hKr hKt sv e el encs henc hlen J Jx hY W (fun V hV => hS V (hKt (hKw W hW) hV)) h0

/-! ### at conditions -/
/-- A slice of conditions, by the cells of its elements. -/
def SlC (w : World) (sv : Value) (len : Nat) (e : Nat → List Value) : Prop :=
  ∃ ao cap, sv = .slice ao len cap ∧ (len = 0 ∨ ∃ g off, ao = some ⟨g, off, none⟩ ∧ ∀ j, j < len → w.cell? ⟨g, off + j * 4, none⟩ = (e j)[0]? ∧ w.cell? ⟨g, off + j * 4 + 1, none⟩ = (e j)[1]? ∧ w.cell? ⟨g, off + j * 4 + 2, none⟩ = (e j)[2]? ∧ w.cell? ⟨g, off + j * 4 + 3, none⟩ = (e j)[3]?)
set_option maxRecDepth 100000 in
set_option maxHeartbeats 2000000 in
theorem back1C_in (n : Nat) (hn : 1 ≤ n) (l Bs len : Nat) (Kp : World → World → Prop) (hKr : ∀ V, Kp V V) (hKt : ∀ {X Y Z : World}, Kp X Y → Kp Y Z → Kp X Z) (sv : Value) (e : Nat → List Value) {α : Type} (el : Nat → α) (encs : α → Array Value) (henc : ∀ j, j < len → ∃ x0 x1 x2 x3, e j = [x0, x1, x2, x3] ∧ encs (el j) = #[.int .i64 (j : Nat), .agg #[x0, x1, x2, x3]]) (hlen : len ≤ 100000) (J Jx : List α → World → Prop)
    (hY : ∀ pre x W, J pre W → pre.length < len → YieldAt Fence.wide (n - 1) Tryz.prog l (encs x) W fun e' W' =>
      (e' = .returned (.bool true) ∧ J (pre ++ [x]) W' ∧ Kp W W') ∨ (e' = .returned (.bool false) ∧ Jx (pre ++ [x]) W'))
    (W : World) (hS : ∀ V, Kp W V → V.cell? ⟨Bs, 0, none⟩ = some sv ∧ SlC V sv len e) (h0 : J [] W) :
    CallsIn Fence.wide n Tryz.prog 157 #[.func (.yield l) #[] #[], .pointer (some ⟨Bs, 0, none⟩)] W fun e' W' => (∃ v, e' = .returned v) ∧
      ((∃ ys, ys = downK el len len ∧ J ys W') ∨ (∃ pre, True ∧ Jx pre W')) := by
  have HS := Lib.hid hS
  have HE := Lib.hid henc
  have HY := Lib.hid hY
  obtain ⟨hB0, ao, cap, hsv, _⟩ := hS W (hKr W)
  rw [hsv] at hB0
  have HSV := Lib.hid hsv
  have hw : IntKind.i64.wrap ((len : Int) - 1) = (len : Int) - 1 := by rw [IntKind.wrap_i64]; omega
  clear hS henc hsv hY
  refine callsIn_of_wp Tryz.func157 rfl trivial ?_ rfl
  simp only [Tryz.ntmps157, List.size_toArray, List.length_cons, List.length_nil, Nat.reduceAdd, Nat.reduceSub, Array.replicate_succ, Array.replicate_zero, List.push_toArray, List.append_toArray, List.nil_append, List.cons_append]
  gi_wp2
  gi_loopw [3] (fun i wr => ∃ k : Nat, k ≤ len ∧ i = .int .i64 ((len : Int) - 1 - k) ∧ J (downK el len k) wr ∧ Kp W wr)
    (fun i _ => (intOf i + 1).toNat)
  case atStart => exact ⟨0, Nat.zero_le _, by congr 1; omega, h0, hKr _⟩
  case round =>
    obtain ⟨k, hk, rfl, hJs, hnx⟩ := hrel
    have HNX := Lib.hid hnx
    have HJ := Lib.hid hJs
    clear hJs hnx h0 hB0
    by_cases hlt : k < len
    · obtain ⟨j, hj⟩ : ∃ j : Nat, j = len - 1 - k := ⟨_, rfl⟩
      have hjl : j < len := by omega
      have hje : (len : Int) - 1 - k = (j : Int) := by omega
      obtain ⟨x0, x1, x2, x3, hej, henj⟩ := HE.out j hjl
      obtain ⟨hB0, ao', cap', hsv', hcs⟩ := HS.out wr HNX.out
      rw [HSV.out] at hsv' hB0
      cases hsv'
      obtain ⟨g, off, rfl, hc⟩ := hcs.resolve_left (by omega)
      have hcj := hc j hjl
      rw [hej] at hcj
      obtain ⟨c0, c1, c2, c3⟩ : wr.cell? ⟨g, off + j * 4, none⟩ = some x0 ∧ wr.cell? ⟨g, off + j * 4 + 1, none⟩ = some x1 ∧ wr.cell? ⟨g, off + j * 4 + 2, none⟩ = some x2 ∧ wr.cell? ⟨g, off + j * 4 + 3, none⟩ = some x3 := hcj
      obtain ⟨fn, tmps, assign, body, hy, hR⟩ := HY.out _ (el j) wr HJ.out (by rw [downK_length]; exact hlt)
      rw [henj] at hy
      have HR := Lib.hid hR
      have HJJ := Lib.hid (show downK el len k ++ [el j] = downK el len (k + 1) by rw [downK_succ, hj])
      have hw2 : IntKind.i64.wrap ((j : Int) - 1) = (j : Int) - 1 := by rw [IntKind.wrap_i64]; omega
      have hje2 : Hid ((j : Int) - 1 = (len : Int) - 1 - ((k + 1 : Nat) : Int)) := Lib.hid (by omega)
      rw [hje]
      have l0 : (0 : Int) ≤ (j : Int) := by omega
      have l1 : (j : Int) < (len : Int) := by omega
      have l2 : (j : Int).toNat = j := by omega
      clear hje hj hR hc hcs hej henj
      gi_wp2
      refine HR.out.mono ?_
      rintro e' W3 (⟨rfl, hJ3, hk3⟩ | ⟨rfl, hJx3⟩)
      · rw [HJJ.out] at hJ3
        have HJ3 := Lib.hid hJ3
        have HK3 := Lib.hid (hKt HNX.out hk3)
        clear hJ3 hk3
        gi_wp2
        go_roundw
        case rel => exact ⟨k + 1, by omega, by rw [hje2.out], HJ3.out, HK3.out⟩
        case measure => simp [intOf]
      · have HX3 := Lib.hid hJx3
        clear hJx3
        gi_wp2
        refine bodyPost_ret (results_none rfl _ _ _) rfl ?_
        exact ⟨⟨_, rfl⟩, .inr ⟨_, trivial, HX3.out⟩⟩
    · obtain rfl : k = len := by omega
      have hz : (k : Int) - 1 - (k : Int) = -1 := by omega
      rw [hz]
      gi_wp2
      go_end0
      exact ⟨⟨_, rfl⟩, .inl ⟨_, rfl, HJ.out⟩⟩
theorem backC_in (n : Nat) (ao : Option Addr) (len cap : Nat) (w : World) :
    CallsIn Fence.wide n Tryz.prog 136 #[.slice ao len cap] w fun e w' => e = .returned (.func (.func 157) #[] #[.pointer (some ⟨w.heap.size, 0, none⟩)]) ∧ w' = w.alloc (.cells #[.slice ao len cap] 43) := by
  refine callsIn_of_wp Tryz.func136 rfl trivial ?_ rfl
  simp only [Tryz.ntmps136, List.size_toArray, List.length_cons, List.length_nil, Nat.reduceAdd, Nat.reduceSub, Array.replicate_succ, Array.replicate_zero, List.push_toArray, List.append_toArray, List.nil_append, List.cons_append]
  gi_wp2
  go_ret
  exact ⟨rfl, rfl⟩
/-- What Backward hands back: all that is in the slice, from the last one on. -/
theorem backC_stops (n : Nat) (hn : 1 ≤ n) (Bs len : Nat) (Kp : World → World → Prop) (hKr : ∀ V, Kp V V) (hKt : ∀ {X Y Z : World}, Kp X Y → Kp Y Z → Kp X Z) (sv : Value) (e : Nat → List Value) {α : Type} (el : Nat → α) (encs : α → Array Value) (henc : ∀ j, j < len → ∃ x0 x1 x2 x3, e j = [x0, x1, x2, x3] ∧ encs (el j) = #[.int .i64 (j : Nat), .agg #[x0, x1, x2, x3]]) (hlen : len ≤ 100000) (w : World) (hKw : ∀ V, Below w.heap.size w V → Kp w V)
    (hS : ∀ V, Kp w V → V.cell? ⟨Bs, 0, none⟩ = some sv ∧ SlC V sv len e) :
    SeqStopsK Fence.wide n Tryz.prog 157 #[.pointer (some ⟨Bs, 0, none⟩)] encs Kp (fun ys => ys = downK el len len) (fun _ => True) len w := fun l J Jx W hW _ _ hY h0 =>
  back1C_in n hn l Bs len Kp hKr hKt sv e el encs henc hlen J Jx hY W (fun V hV => hS V (hKt (hKw W hW) hV)) h0
end Go.Proofs.YtbekkdhlfkongaaGreatDoor
/-
  The places of package lower: closures that put code; chain makes them, from the last one on. (Printed by tools/gen-zchain.py.)
-/
namespace Go.Proofs.YtbekkdhlfkongaaGreatDoor
open Go.ChangeShapes Go.WideShapes Go.ChangeAt Go.RowKit Go.Shelf
set_option maxRecDepth 20000
attribute [local go_sem] Oper.semAt_some

theorem LR.boxed {B b : Nat} {w w' : World} (h : LR B b w w') {g : Nat} {t : TypeId} {v : Value} (hb : Boxed w g t v) (hg : g ≠ b) : Boxed w' g t v := h.cells _ _ _ _ hb hg
theorem LR.block {B b : Nat} {w w' : World} (h : LR B b w w') {g : Nat} {t : TypeId} {cs : Array Value} (hb : w.heap[g]? = some (.cells cs t)) (hg : g ≠ b) : w'.heap[g]? = some (.cells cs t) := h.cells _ _ _ _ hb hg
/-- A group: its number, its rules. -/
abbrev Gr := Nat × List Rl
abbrev grB (n : Nat) (gv : Value) : Obj := .cells #[.int .u32 (n : Nat), gv] 76
abbrev ptrV (b : Nat) : Value := .pointer (some ⟨b, 0, none⟩)
abbrev otherV (b : Nat) : Value := .func (.func 31) #[ptrV b] #[]
def GPl (fn1 lo : Nat) (w : World) (b : Nat) : Value → List (Gr × Value) → Prop
  | v, [] => v = otherV b
  | v, p :: l => ∃ pn pg pl nv, v = .func (.func fn1) #[] #[ptrV pn, ptrV pg, ptrV pl] ∧ Boxed w pn 73 nv ∧ w.heap[pg]? = some (grB p.1.1 p.2) ∧ Boxed w pl 108 (ptrV b) ∧ lo ≤ pn ∧ lo ≤ pg ∧ lo ≤ pl ∧ GPl fn1 lo w b nv l
def RPl (lo : Nat) (w : World) (b : Nat) : Value → List (Rl × Value) → Prop
  | v, [] => v = otherV b
  | v, p :: l => ∃ pn pg pl nv, v = .func (.func 135) #[] #[ptrV pg, ptrV pl, ptrV pn] ∧ Boxed w pn 73 nv ∧ w.heap[pg]? = some (rlB p.1 p.2) ∧ Boxed w pl 108 (ptrV b) ∧ lo ≤ pn ∧ lo ≤ pg ∧ lo ≤ pl ∧ RPl lo w b nv l
theorem GPl.go {fn1 lo b : Nat} {w w' : World} (h : ∀ k (cs : Array Value) (t : TypeId), lo ≤ k → w.heap[k]? = some (.cells cs t) → w'.heap[k]? = some (.cells cs t)) : ∀ {v : Value} {l : List (Gr × Value)}, GPl fn1 lo w b v l → GPl fn1 lo w' b v l
  | _, [], hp => hp
  | _, _ :: _, ⟨pn, pg, pl, nv, e, h1, h2, h3, n1, n2, n3, h4⟩ => ⟨pn, pg, pl, nv, e, h _ _ _ n1 h1, h _ _ _ n2 h2, h _ _ _ n3 h3, n1, n2, n3, h4.go h⟩
theorem RPl.go {lo b : Nat} {w w' : World} (h : ∀ k (cs : Array Value) (t : TypeId), lo ≤ k → w.heap[k]? = some (.cells cs t) → w'.heap[k]? = some (.cells cs t)) : ∀ {v : Value} {l : List (Rl × Value)}, RPl lo w b v l → RPl lo w' b v l
  | _, [], hp => hp
  | _, _ :: _, ⟨pn, pg, pl, nv, e, h1, h2, h3, n1, n2, n3, h4⟩ => ⟨pn, pg, pl, nv, e, h _ _ _ n1 h1, h _ _ _ n2 h2, h _ _ _ n3 h3, n1, n2, n3, h4.go h⟩
theorem GPl.mono {fn1 lo lo' b : Nat} {w : World} (h : lo' ≤ lo) : ∀ {v : Value} {l : List (Gr × Value)}, GPl fn1 lo w b v l → GPl fn1 lo' w b v l
  | _, [], hp => hp
  | _, _ :: _, ⟨pn, pg, pl, nv, e, h1, h2, h3, n1, n2, n3, h4⟩ => ⟨pn, pg, pl, nv, e, h1, h2, h3, Nat.le_trans h n1, Nat.le_trans h n2, Nat.le_trans h n3, h4.mono h⟩
theorem RPl.mono {lo lo' b : Nat} {w : World} (h : lo' ≤ lo) : ∀ {v : Value} {l : List (Rl × Value)}, RPl lo w b v l → RPl lo' w b v l
  | _, [], hp => hp
  | _, _ :: _, ⟨pn, pg, pl, nv, e, h1, h2, h3, n1, n2, n3, h4⟩ => ⟨pn, pg, pl, nv, e, h1, h2, h3, Nat.le_trans h n1, Nat.le_trans h n2, Nat.le_trans h n3, h4.mono h⟩
theorem GPl.lr {fn1 lo B b : Nat} {w w' : World} {v : Value} {l : List (Gr × Value)} (hp : GPl fn1 lo w b v l) (h : LR B b w w') (hb : b < lo) : GPl fn1 lo w' b v l := hp.go (fun _ _ _ hk hh => h.cells _ _ _ _ hh (by omega))
theorem RPl.lr {lo B b : Nat} {w w' : World} {v : Value} {l : List (Rl × Value)} (hp : RPl lo w b v l) (h : LR B b w w') (hb : b < lo) : RPl lo w' b v l := hp.go (fun _ _ _ hk hh => h.cells _ _ _ _ hh (by omega))
theorem GPl.shape {fn1 lo b : Nat} {w : World} {v : Value} {l : List (Gr × Value)} (h : GPl fn1 lo w b v l) : ∃ ft bd lb, v = .func ft bd lb := by
  cases l with
  | nil => exact ⟨_, _, _, h⟩
  | cons p l => obtain ⟨_, _, _, _, e, _⟩ := h; exact ⟨_, _, _, e⟩
theorem RPl.shape {lo b : Nat} {w : World} {v : Value} {l : List (Rl × Value)} (h : RPl lo w b v l) : ∃ ft bd lb, v = .func ft bd lb := by
  cases l with
  | nil => exact ⟨_, _, _, h⟩
  | cons p l => obtain ⟨_, _, _, _, e, _⟩ := h; exact ⟨_, _, _, e⟩
/-- What comes from the last one on, turned round. -/
theorem down_all {α β : Type} (el : Nat → α) (f : α → β) (l : List β) (h : ∀ j (hj : j < l.length), f (el j) = l[j]) : (downK el l.length l.length).reverse.map f = l := by
  apply List.ext_getElem
  · simp [downK]
  · intro i h1 h2
    simp only [downK, List.getElem_map, List.getElem_reverse, List.length_map, List.length_range, List.getElem_range]
    rw [← h i h2]
    congr 2
    omega
/-- What speaks of a world as a lowering leaves it. -/
theorem own_lr {β : Type} {B b D : Nat} {I : β → World → Prop} (hB : B ≤ D) (h : ∀ s V V', I s V → LR B b V V' → D ≤ V.heap.size → I s V') (hD : ∀ s V, I s V → D ≤ V.heap.size) : OwnFrom D I := fun s V V' _ hs hg hr =>
  h s V V' hs (LR.of_grown hg (Nat.le_trans hB (hD s V hs)) (fun r e => ⟨Nat.le_trans hB (hr r e).1, (hr r e).2⟩)) (hD s V hs)
theorem keeps_below {D : Nat} {V V' : World} (h : Below V.heap.size V V') : KeepsFrom D V V' := ⟨h.size, fun k _ _ hk _ => (h.block k (lt_of_block hk)).trans hk⟩

/-! ### Machines -/
theorem lMput_any (b : Nat) (n : Nat) (ao : Option Addr) (k cap : Nat) (ft : Fn) (bd lb : Array Value) (w : World) :
    Calls Tryz.prog 30 #[ptrV b, .agg #[.int .u32 (n : Nat), .slice ao k cap], .func ft bd lb] w fun e w' =>
      e = .returned (.func (.func 55) #[] #[ptrV (w.heap.size + 1 + 1), ptrV (w.heap.size + 1), ptrV w.heap.size]) ∧ w' = ((w.alloc (.cells #[ptrV b] 108)).alloc (grB n (.slice ao k cap))).alloc (.cells #[.func ft bd lb] 73) := by
  go_enter Tryz.func30, Tryz.ntmps30
  go_wp2_with fail
  go_ret
  exact ⟨rfl, rfl⟩
theorem lMput_in (b : Nat) (n : Nat) (ao : Option Addr) (k cap : Nat) (ft : Fn) (bd lb : Array Value) (w : World) :
    Calls Tryz.prog 30 #[ptrV b, .agg #[.int .u32 (n : Nat), .slice ao k cap], .func ft bd lb] w fun e w' => ∃ pn pg pl, e = .returned (.func (.func 55) #[] #[ptrV pn, ptrV pg, ptrV pl]) ∧ Below w.heap.size w w' ∧
      Boxed w' pn 73 (.func ft bd lb) ∧ w'.heap[pg]? = some (grB n (.slice ao k cap)) ∧ Boxed w' pl 108 (ptrV b) ∧ w.heap.size ≤ pn ∧ w.heap.size ≤ pg ∧ w.heap.size ≤ pl := by
  refine (lMput_any b n ao k cap ft bd lb w).mono ?_
  rintro e w' ⟨rfl, rfl⟩
  obtain ⟨W, hW, X0, X1, X2, hb⟩ := box3 w (.cells #[ptrV b] 108) (grB n (.slice ao k cap)) (.cells #[.func ft bd lb] 73)
  rw [← hW]
  exact ⟨w.heap.size + 2, w.heap.size + 1, w.heap.size, rfl, hb, X2, X1, X0, by omega, by omega, Nat.le_refl _⟩
abbrev AlM := { p : Nat × (Gr × Value) // ∃ ao k cap, p.2.2 = .slice ao k cap }
def encM (x : AlM) : Array Value := #[.int .i64 (x.1.1 : Nat), .agg #[.int .u32 (x.1.2.1.1 : Nat), x.1.2.2]]
def elM (l : List (Gr × Value)) (h : ∀ p ∈ l, ∃ ao k cap, p.2 = .slice ao k cap) (j : Nat) : AlM := if hj : j < l.length then ⟨(j, l[j]), h _ (List.getElem_mem hj)⟩ else ⟨(0, ((0, []), .slice none 0 0)), ⟨_, _, _, rfl⟩⟩
set_option maxRecDepth 100000 in
set_option maxHeartbeats 4000000 in
theorem lMchain_any {B b : Nat} (pv : Value) (l : List (Gr × Value)) (hsh : ∀ p ∈ l, ∃ ao k cap, p.2 = .slice ao k cap) (hl : l.length ≤ 100000) (w : World) (hB : B ≤ w.heap.size) (hb : b < w.heap.size)
    (hS : LStay B b w (fun V => SlG V pv l.length (fun j => (l[j]?.map fun p => [.int .u32 (p.1.1 : Nat), p.2]).getD []))) :
    Calls Tryz.prog 27 #[pv, .func (.func 30) #[ptrV b] #[], otherV b] w fun e w' => (∃ v, e = .returned v ∧ GPl 55 w.heap.size w' b v l) ∧ Below w.heap.size w w' := by
  refine (callsIn_wide (n := 6)).1 ?_
  obtain ⟨ao0, cap0, rfl, _⟩ := hS.now
  have HS := Lib.hid hS
  clear hS
  refine callsIn_of_wp_marks Tryz.func27 rfl trivial ?_ rfl
  simp only [Tryz.ntmps27, List.size_toArray, List.length_cons, List.length_nil, Nat.reduceAdd, Nat.reduceSub, Array.replicate_succ, Array.replicate_zero, List.push_toArray, List.append_toArray, List.nil_append, List.cons_append]
  gi_wp2_with (first | (refine ⟨trivial, ?_⟩; gi_at_call 53; refine (backG_in _ _ _ _ _).mono ?_; rintro e w' ⟨rfl, rfl⟩) | (gi_at_call 53; refine (backG_in _ _ _ _ _).mono ?_; rintro e w' ⟨rfl, rfl⟩))
  have bP := ((Boxed.new w 80 (.func (.func 30) #[ptrV b] #[])).alloc (.cells #[otherV b] 73)).alloc (.cells #[.slice ao0 l.length cap0] 77)
  have bE := (Boxed.new (w.alloc (.cells #[.func (.func 30) #[ptrV b] #[]] 80)) 73 (otherV b)).alloc (.cells #[.slice ao0 l.length cap0] 77)
  have bS := Boxed.new ((w.alloc (.cells #[.func (.func 30) #[ptrV b] #[]] 80)).alloc (.cells #[otherV b] 73)) 77 (.slice ao0 l.length cap0)
  have hB0 : Below w.heap.size w (((w.alloc (.cells #[.func (.func 30) #[ptrV b] #[]] 80)).alloc (.cells #[otherV b] 73)).alloc (.cells #[.slice ao0 l.length cap0] 77)) := ba _ (ba _ (ba _ (Below.refl _ _)))
  simp only [World.size_alloc] at bE bS
  have hsz : (((w.alloc (.cells #[.func (.func 30) #[ptrV b] #[]] 80)).alloc (.cells #[otherV b] 73)).alloc (.cells #[.slice ao0 l.length cap0] 77)).heap.size = w.heap.size + 3 := by simp
  obtain ⟨W0, hW0⟩ : ∃ W0, ((w.alloc (.cells #[.func (.func 30) #[ptrV b] #[]] 80)).alloc (.cells #[otherV b] 73)).alloc (.cells #[.slice ao0 l.length cap0] 77) = W0 := ⟨_, rfl⟩
  have hW0' : ((w.alloc (.cells #[.func (.func 30) #[.pointer (some ⟨b, 0, none⟩)] #[]] 80)).alloc (.cells #[.func (.func 31) #[.pointer (some ⟨b, 0, none⟩)] #[]] 73)).alloc (.cells #[.slice ao0 l.length cap0] 77) = W0 := hW0
  rw [hW0] at bP bE bS hB0 hsz
  (try rw [hW0'])
  have hLR0 : LR B b w W0 := LR.of_below hB0 hB
  clear hW0 hW0'
  refine wpIn_rangeFunc_ownH rfl (by omega) (gf := 93) (lb := #[.pointer (some ⟨w.heap.size + 1 + 1, 0, none⟩)]) rfl trivial (enters_of Tryz.func93 (by kernel_rfl) rfl)
    (backG_stops _ (by omega) (w.heap.size + 1 + 1) l.length (LX B (fun k => k = b ∨ k = w.heap.size + 1)) (LX.refl _ _) lx_t (.slice ao0 l.length cap0) (fun j => (l[j]?.map fun p => [.int .u32 (p.1.1 : Nat), p.2]).getD []) (elM l hsh) encM
      (fun j hj => by
        rw [List.getElem?_eq_getElem hj]
        refine ⟨_, _, rfl, ?_⟩
        unfold encM elM
        rw [dif_pos hj]) hl W0 (fun V hV => LX.of_lr (LR.of_below hV (by omega)) (.inl rfl))
      (fun V hV => ⟨(show Boxed V _ _ _ from hV.cells _ _ _ _ bS (by omega)).cell, HS.out V (hV.to_lr hLR0 (fun i hi => hi.imp id (fun e => by omega)))⟩))
    lx_t (lx_b (.inl rfl) (by omega)) (Below.refl _ _) (fun _ => rfl)
    (fun pre W => ((∃ v, Boxed W (w.heap.size + 1) 73 v ∧ GPl 55 (w.heap.size + 2) W b v (pre.reverse.map (fun x => x.1.2))) ∧ Boxed W w.heap.size 80 (.func (.func 30) #[ptrV b] #[])) ∧ Below w.heap.size w W ∧ W0.heap.size ≤ W.heap.size)
    (fun _ _ _ => False)
    (own_lr (B := w.heap.size) (b := b) (by omega) (fun s V V' hs hr hd => by
      obtain ⟨⟨⟨v, h1, h2⟩, h3⟩, h4, h5⟩ := hs
      exact ⟨⟨⟨v, hr.boxed h1 (by omega), h2.lr hr (by omega)⟩, hr.boxed h3 (by omega)⟩, h4.trans hr.below, Nat.le_trans h5 hr.size⟩) (fun s V hs => hs.2.2))
    (fun _ _ _ _ _ hs _ _ => hs)
    ⟨⟨⟨_, bE, rfl⟩, bP⟩, hB0, Nat.le_refl _⟩
    (fun x a' W => ∃ Bx, w.heap.size + 2 < Bx ∧ W.heap[Bx]? = some (grB x.1.2.1.1 x.1.2.2) ∧ a' = { tmps := #[.slice ao0 l.length cap0, .func (.func 30) #[ptrV b] #[], otherV b, undef, ptrV w.heap.size, ptrV (w.heap.size + 1), .nilFunc, undef, ptrV Bx, .slice ao0 l.length cap0, .func (.func 93) #[] #[ptrV (w.heap.size + 1 + 1)], .int .i64 (x.1.1 : Nat), .agg #[.int .u32 (x.1.2.1.1 : Nat), x.1.2.2], undef, undef, undef, undef, undef], defers := [] })
    (fun x a' _ V V' row hs hg hr => by
      obtain ⟨Bx, h1, h2, h3⟩ := hs
      exact ⟨Bx, h1, (hg.block Bx (lt_of_block h2) (fun e => by obtain ⟨o, ho, hc⟩ := (hr Bx e.symm).2; rw [h2] at ho; cases ho; cases hc)).trans h2, h3⟩)
    ?assign ?body ?done ?stop
  case assign =>
    rintro lp pre ⟨⟨j, p, pv⟩, ao, k, cap, hpv⟩ W K ⟨⟨⟨v, h1, h2⟩, h3⟩, h4, h5⟩ hK
    have hpv' : pv = .slice ao k cap := hpv
    subst hpv'
    simp only [encM]
    gi_wp2
    have hbA : Below W.heap.size W (W.alloc (grB p.1 (.slice ao k cap))) := ba _ (Below.refl _ _)
    exact hK _ _ (keeps_below hbA) (LX.of_lr (LR.of_below hbA (by omega)) (.inl rfl)) ⟨⟨⟨v, h1.alloc _, h2.lr (LR.of_below (B := B) hbA (by omega)) (by omega)⟩, h3.alloc _⟩, h4.alloc h4.size _, Nat.le_trans h5 hbA.size⟩ ⟨W.heap.size, by omega, heap_alloc_new _ _, rfl⟩
  case body =>
    rintro lp pre ⟨⟨j, p, pv⟩, ao, k, cap, hpv⟩ a' W hlp _ ⟨⟨⟨v, h1, h2⟩, h3⟩, h4, h5⟩ ⟨Bx, hBx, bX, rfl⟩ hlt
    have hpv' : pv = .slice ao k cap := hpv
    subst hpv'
    obtain ⟨ft, bd, lb, rfl⟩ := h2.shape
    have cE := h1.cell
    have fE := h1.frozen
    have cP := h3.cell
    have x0 : W.cell? ⟨Bx, 0, none⟩ = some (.int .u32 (p.1 : Nat)) := cell_in bX 0
    have x1 : W.cell? ⟨Bx, 1, none⟩ = some (.slice ao k cap) := cell_in bX 1
    have hEl : w.heap.size + 1 < W.heap.size := h1.lt
    have H1 := Lib.hid h1
    have H2 := Lib.hid h2
    have H3 := Lib.hid h3
    have H4 := Lib.hid h4
    clear h1 h2 h3 h4
    gi_wp2_with (first | (refine ⟨trivial, ?_⟩; gi_at_call 30; refine (CallsIn.inRound lp (callsIn_wide.2 (lMput_in b p.1 ao k cap ft bd lb _))).mono ?_; rintro e W1 ⟨pn, pg, pl, rfl, hb1, k1, k2, k3, n1, n2, n3⟩; have cE1 := (hb1.cell (p := ⟨w.heap.size + 1, 0, none⟩) hEl).trans cE; have fE1 := (hb1.frozen (p := ⟨w.heap.size + 1, 0, none⟩) hEl).trans fE; have hstF := @run_storeF (.func (.func 55) #[] #[ptrV pn, ptrV pg, ptrV pl]) rfl; have K1 := Lib.hid k1; have K2 := Lib.hid k2; have K3 := Lib.hid k3; have HB1 := Lib.hid hb1; clear k1 k2 k3 hb1) | (gi_at_call 30; refine (CallsIn.inRound lp (callsIn_wide.2 (lMput_in b p.1 ao k cap ft bd lb _))).mono ?_; rintro e W1 ⟨pn, pg, pl, rfl, hb1, k1, k2, k3, n1, n2, n3⟩; have cE1 := (hb1.cell (p := ⟨w.heap.size + 1, 0, none⟩) hEl).trans cE; have fE1 := (hb1.frozen (p := ⟨w.heap.size + 1, 0, none⟩) hEl).trans fE; have hstF := @run_storeF (.func (.func 55) #[] #[ptrV pn, ptrV pg, ptrV pl]) rfl; have K1 := Lib.hid k1; have K2 := Lib.hid k2; have K3 := Lib.hid k3; have HB1 := Lib.hid hb1; clear k1 k2 k3 hb1))
    have hset : Below w.heap.size w W1 := H4.out.trans (HB1.out.mono (by omega))
    have hKF : KeepsFrom W0.heap.size W (W1.setCell ⟨w.heap.size + 1, 0, none⟩ (.func (.func 55) #[] #[ptrV pn, ptrV pg, ptrV pl])) := (keeps_below HB1.out).trans ((KeepsOthers.setCell _ _ _).from _)
    have bE1 : Boxed W1 (w.heap.size + 1) 73 (.func ft bd lb) := (HB1.out.block _ hEl).trans H1.out
    have bP1 : Boxed W1 w.heap.size 80 (.func (.func 30) #[ptrV b] #[]) := (HB1.out.block _ (by omega)).trans H3.out
    have hput := hrow_cell bE1 0 (.func (.func 55) #[] #[ptrV pn, ptrV pg, ptrV pl])
    refine ⟨hKF, ?_, ⟨⟨⟨_, hput.row, ?_⟩, hput.keep (by omega) bP1⟩, ?_, ?_⟩⟩
    · refine lx_t (LX.of_lr (LR.of_below HB1.out (by omega)) (.inl rfl)) ⟨hput.below (Below.refl _ _) (by omega), fun q cs t fr hq hn => hput.keep (fun e => hn (.inr e)) hq⟩
    · rw [List.reverse_append, List.map_append]
      exact ⟨pn, pg, pl, _, rfl, hput.keep (by omega) K1.out, hput.keep (by omega) K2.out, hput.keep (by omega) K3.out, by omega, by omega, by omega, (H2.out.lr (LR.of_below (B := B) HB1.out (by omega)) (by omega)).go (fun q cs t hq hh => hput.keep (by omega) hh)⟩
    · exact hput.below (H4.out.trans (HB1.out.mono (by omega))) (by omega)
    · rw [hput.size]
      exact Nat.le_trans h5 HB1.out.size
  case done =>
    rintro D ys W hD rfl ⟨⟨⟨v, h1, h2⟩, h3⟩, h4, h5⟩ hK
    have cE := h1.cell
    gi_wp2
    refine ⟨by simp, .inl ⟨_, _, rfl, run_takeDeferred hK, ?_⟩⟩
    refine ⟨_, results_tmp rfl _ _ _, ⟨v, rfl, ?_⟩, h4.trans (belowK_b (w := w) (Nat.le_refl _) W D _ _ (by omega) hK rfl rfl)⟩
    rw [down_all _ _ l (fun j hj => by unfold elM; rw [dif_pos hj])] at h2
    exact (h2.lr (LR.of_grown (B := B) (grownBy_putObj' W D _) (by omega) (fun r e => by cases e; exact ⟨by omega, _, hK, rfl⟩)) (by omega)).mono (by omega)
  case stop =>
    rintro D c pre W _ _ h _
    exact h.elim

/-! ### Calls -/
theorem lKput_any (b : Nat) (n : Nat) (ao : Option Addr) (k cap : Nat) (ft : Fn) (bd lb : Array Value) (w : World) :
    Calls Tryz.prog 57 #[ptrV b, .agg #[.int .u32 (n : Nat), .slice ao k cap], .func ft bd lb] w fun e w' =>
      e = .returned (.func (.func 96) #[] #[ptrV (w.heap.size + 1 + 1), ptrV (w.heap.size + 1), ptrV w.heap.size]) ∧ w' = ((w.alloc (.cells #[ptrV b] 108)).alloc (grB n (.slice ao k cap))).alloc (.cells #[.func ft bd lb] 73) := by
  go_enter Tryz.func57, Tryz.ntmps57
  go_wp2_with fail
  go_ret
  exact ⟨rfl, rfl⟩
theorem lKput_in (b : Nat) (n : Nat) (ao : Option Addr) (k cap : Nat) (ft : Fn) (bd lb : Array Value) (w : World) :
    Calls Tryz.prog 57 #[ptrV b, .agg #[.int .u32 (n : Nat), .slice ao k cap], .func ft bd lb] w fun e w' => ∃ pn pg pl, e = .returned (.func (.func 96) #[] #[ptrV pn, ptrV pg, ptrV pl]) ∧ Below w.heap.size w w' ∧
      Boxed w' pn 73 (.func ft bd lb) ∧ w'.heap[pg]? = some (grB n (.slice ao k cap)) ∧ Boxed w' pl 108 (ptrV b) ∧ w.heap.size ≤ pn ∧ w.heap.size ≤ pg ∧ w.heap.size ≤ pl := by
  refine (lKput_any b n ao k cap ft bd lb w).mono ?_
  rintro e w' ⟨rfl, rfl⟩
  obtain ⟨W, hW, X0, X1, X2, hb⟩ := box3 w (.cells #[ptrV b] 108) (grB n (.slice ao k cap)) (.cells #[.func ft bd lb] 73)
  rw [← hW]
  exact ⟨w.heap.size + 2, w.heap.size + 1, w.heap.size, rfl, hb, X2, X1, X0, by omega, by omega, Nat.le_refl _⟩
abbrev AlK := { p : Nat × (Gr × Value) // ∃ ao k cap, p.2.2 = .slice ao k cap }
def encK (x : AlK) : Array Value := #[.int .i64 (x.1.1 : Nat), .agg #[.int .u32 (x.1.2.1.1 : Nat), x.1.2.2]]
def elK (l : List (Gr × Value)) (h : ∀ p ∈ l, ∃ ao k cap, p.2 = .slice ao k cap) (j : Nat) : AlK := if hj : j < l.length then ⟨(j, l[j]), h _ (List.getElem_mem hj)⟩ else ⟨(0, ((0, []), .slice none 0 0)), ⟨_, _, _, rfl⟩⟩
set_option maxRecDepth 100000 in
set_option maxHeartbeats 4000000 in
theorem lKchain_any {B b : Nat} (pv : Value) (l : List (Gr × Value)) (hsh : ∀ p ∈ l, ∃ ao k cap, p.2 = .slice ao k cap) (hl : l.length ≤ 100000) (w : World) (hB : B ≤ w.heap.size) (hb : b < w.heap.size)
    (hS : LStay B b w (fun V => SlG V pv l.length (fun j => (l[j]?.map fun p => [.int .u32 (p.1.1 : Nat), p.2]).getD []))) :
    Calls Tryz.prog 27 #[pv, .func (.func 57) #[ptrV b] #[], otherV b] w fun e w' => (∃ v, e = .returned v ∧ GPl 96 w.heap.size w' b v l) ∧ Below w.heap.size w w' := by
  refine (callsIn_wide (n := 6)).1 ?_
  obtain ⟨ao0, cap0, rfl, _⟩ := hS.now
  have HS := Lib.hid hS
  clear hS
  refine callsIn_of_wp_marks Tryz.func27 rfl trivial ?_ rfl
  simp only [Tryz.ntmps27, List.size_toArray, List.length_cons, List.length_nil, Nat.reduceAdd, Nat.reduceSub, Array.replicate_succ, Array.replicate_zero, List.push_toArray, List.append_toArray, List.nil_append, List.cons_append]
  gi_wp2_with (first | (refine ⟨trivial, ?_⟩; gi_at_call 53; refine (backG_in _ _ _ _ _).mono ?_; rintro e w' ⟨rfl, rfl⟩) | (gi_at_call 53; refine (backG_in _ _ _ _ _).mono ?_; rintro e w' ⟨rfl, rfl⟩))
  have bP := ((Boxed.new w 80 (.func (.func 57) #[ptrV b] #[])).alloc (.cells #[otherV b] 73)).alloc (.cells #[.slice ao0 l.length cap0] 77)
  have bE := (Boxed.new (w.alloc (.cells #[.func (.func 57) #[ptrV b] #[]] 80)) 73 (otherV b)).alloc (.cells #[.slice ao0 l.length cap0] 77)
  have bS := Boxed.new ((w.alloc (.cells #[.func (.func 57) #[ptrV b] #[]] 80)).alloc (.cells #[otherV b] 73)) 77 (.slice ao0 l.length cap0)
  have hB0 : Below w.heap.size w (((w.alloc (.cells #[.func (.func 57) #[ptrV b] #[]] 80)).alloc (.cells #[otherV b] 73)).alloc (.cells #[.slice ao0 l.length cap0] 77)) := ba _ (ba _ (ba _ (Below.refl _ _)))
  simp only [World.size_alloc] at bE bS
  have hsz : (((w.alloc (.cells #[.func (.func 57) #[ptrV b] #[]] 80)).alloc (.cells #[otherV b] 73)).alloc (.cells #[.slice ao0 l.length cap0] 77)).heap.size = w.heap.size + 3 := by simp
  obtain ⟨W0, hW0⟩ : ∃ W0, ((w.alloc (.cells #[.func (.func 57) #[ptrV b] #[]] 80)).alloc (.cells #[otherV b] 73)).alloc (.cells #[.slice ao0 l.length cap0] 77) = W0 := ⟨_, rfl⟩
  have hW0' : ((w.alloc (.cells #[.func (.func 57) #[.pointer (some ⟨b, 0, none⟩)] #[]] 80)).alloc (.cells #[.func (.func 31) #[.pointer (some ⟨b, 0, none⟩)] #[]] 73)).alloc (.cells #[.slice ao0 l.length cap0] 77) = W0 := hW0
  rw [hW0] at bP bE bS hB0 hsz
  (try rw [hW0'])
  have hLR0 : LR B b w W0 := LR.of_below hB0 hB
  clear hW0 hW0'
  refine wpIn_rangeFunc_ownH rfl (by omega) (gf := 93) (lb := #[.pointer (some ⟨w.heap.size + 1 + 1, 0, none⟩)]) rfl trivial (enters_of Tryz.func93 (by kernel_rfl) rfl)
    (backG_stops _ (by omega) (w.heap.size + 1 + 1) l.length (LX B (fun k => k = b ∨ k = w.heap.size + 1)) (LX.refl _ _) lx_t (.slice ao0 l.length cap0) (fun j => (l[j]?.map fun p => [.int .u32 (p.1.1 : Nat), p.2]).getD []) (elK l hsh) encK
      (fun j hj => by
        rw [List.getElem?_eq_getElem hj]
        refine ⟨_, _, rfl, ?_⟩
        unfold encK elK
        rw [dif_pos hj]) hl W0 (fun V hV => LX.of_lr (LR.of_below hV (by omega)) (.inl rfl))
      (fun V hV => ⟨(show Boxed V _ _ _ from hV.cells _ _ _ _ bS (by omega)).cell, HS.out V (hV.to_lr hLR0 (fun i hi => hi.imp id (fun e => by omega)))⟩))
    lx_t (lx_b (.inl rfl) (by omega)) (Below.refl _ _) (fun _ => rfl)
    (fun pre W => ((∃ v, Boxed W (w.heap.size + 1) 73 v ∧ GPl 96 (w.heap.size + 2) W b v (pre.reverse.map (fun x => x.1.2))) ∧ Boxed W w.heap.size 80 (.func (.func 57) #[ptrV b] #[])) ∧ Below w.heap.size w W ∧ W0.heap.size ≤ W.heap.size)
    (fun _ _ _ => False)
    (own_lr (B := w.heap.size) (b := b) (by omega) (fun s V V' hs hr hd => by
      obtain ⟨⟨⟨v, h1, h2⟩, h3⟩, h4, h5⟩ := hs
      exact ⟨⟨⟨v, hr.boxed h1 (by omega), h2.lr hr (by omega)⟩, hr.boxed h3 (by omega)⟩, h4.trans hr.below, Nat.le_trans h5 hr.size⟩) (fun s V hs => hs.2.2))
    (fun _ _ _ _ _ hs _ _ => hs)
    ⟨⟨⟨_, bE, rfl⟩, bP⟩, hB0, Nat.le_refl _⟩
    (fun x a' W => ∃ Bx, w.heap.size + 2 < Bx ∧ W.heap[Bx]? = some (grB x.1.2.1.1 x.1.2.2) ∧ a' = { tmps := #[.slice ao0 l.length cap0, .func (.func 57) #[ptrV b] #[], otherV b, undef, ptrV w.heap.size, ptrV (w.heap.size + 1), .nilFunc, undef, ptrV Bx, .slice ao0 l.length cap0, .func (.func 93) #[] #[ptrV (w.heap.size + 1 + 1)], .int .i64 (x.1.1 : Nat), .agg #[.int .u32 (x.1.2.1.1 : Nat), x.1.2.2], undef, undef, undef, undef, undef], defers := [] })
    (fun x a' _ V V' row hs hg hr => by
      obtain ⟨Bx, h1, h2, h3⟩ := hs
      exact ⟨Bx, h1, (hg.block Bx (lt_of_block h2) (fun e => by obtain ⟨o, ho, hc⟩ := (hr Bx e.symm).2; rw [h2] at ho; cases ho; cases hc)).trans h2, h3⟩)
    ?assign ?body ?done ?stop
  case assign =>
    rintro lp pre ⟨⟨j, p, pv⟩, ao, k, cap, hpv⟩ W K ⟨⟨⟨v, h1, h2⟩, h3⟩, h4, h5⟩ hK
    have hpv' : pv = .slice ao k cap := hpv
    subst hpv'
    simp only [encK]
    gi_wp2
    have hbA : Below W.heap.size W (W.alloc (grB p.1 (.slice ao k cap))) := ba _ (Below.refl _ _)
    exact hK _ _ (keeps_below hbA) (LX.of_lr (LR.of_below hbA (by omega)) (.inl rfl)) ⟨⟨⟨v, h1.alloc _, h2.lr (LR.of_below (B := B) hbA (by omega)) (by omega)⟩, h3.alloc _⟩, h4.alloc h4.size _, Nat.le_trans h5 hbA.size⟩ ⟨W.heap.size, by omega, heap_alloc_new _ _, rfl⟩
  case body =>
    rintro lp pre ⟨⟨j, p, pv⟩, ao, k, cap, hpv⟩ a' W hlp _ ⟨⟨⟨v, h1, h2⟩, h3⟩, h4, h5⟩ ⟨Bx, hBx, bX, rfl⟩ hlt
    have hpv' : pv = .slice ao k cap := hpv
    subst hpv'
    obtain ⟨ft, bd, lb, rfl⟩ := h2.shape
    have cE := h1.cell
    have fE := h1.frozen
    have cP := h3.cell
    have x0 : W.cell? ⟨Bx, 0, none⟩ = some (.int .u32 (p.1 : Nat)) := cell_in bX 0
    have x1 : W.cell? ⟨Bx, 1, none⟩ = some (.slice ao k cap) := cell_in bX 1
    have hEl : w.heap.size + 1 < W.heap.size := h1.lt
    have H1 := Lib.hid h1
    have H2 := Lib.hid h2
    have H3 := Lib.hid h3
    have H4 := Lib.hid h4
    clear h1 h2 h3 h4
    gi_wp2_with (first | (refine ⟨trivial, ?_⟩; gi_at_call 57; refine (CallsIn.inRound lp (callsIn_wide.2 (lKput_in b p.1 ao k cap ft bd lb _))).mono ?_; rintro e W1 ⟨pn, pg, pl, rfl, hb1, k1, k2, k3, n1, n2, n3⟩; have cE1 := (hb1.cell (p := ⟨w.heap.size + 1, 0, none⟩) hEl).trans cE; have fE1 := (hb1.frozen (p := ⟨w.heap.size + 1, 0, none⟩) hEl).trans fE; have hstF := @run_storeF (.func (.func 96) #[] #[ptrV pn, ptrV pg, ptrV pl]) rfl; have K1 := Lib.hid k1; have K2 := Lib.hid k2; have K3 := Lib.hid k3; have HB1 := Lib.hid hb1; clear k1 k2 k3 hb1) | (gi_at_call 57; refine (CallsIn.inRound lp (callsIn_wide.2 (lKput_in b p.1 ao k cap ft bd lb _))).mono ?_; rintro e W1 ⟨pn, pg, pl, rfl, hb1, k1, k2, k3, n1, n2, n3⟩; have cE1 := (hb1.cell (p := ⟨w.heap.size + 1, 0, none⟩) hEl).trans cE; have fE1 := (hb1.frozen (p := ⟨w.heap.size + 1, 0, none⟩) hEl).trans fE; have hstF := @run_storeF (.func (.func 96) #[] #[ptrV pn, ptrV pg, ptrV pl]) rfl; have K1 := Lib.hid k1; have K2 := Lib.hid k2; have K3 := Lib.hid k3; have HB1 := Lib.hid hb1; clear k1 k2 k3 hb1))
    have hset : Below w.heap.size w W1 := H4.out.trans (HB1.out.mono (by omega))
    have hKF : KeepsFrom W0.heap.size W (W1.setCell ⟨w.heap.size + 1, 0, none⟩ (.func (.func 96) #[] #[ptrV pn, ptrV pg, ptrV pl])) := (keeps_below HB1.out).trans ((KeepsOthers.setCell _ _ _).from _)
    have bE1 : Boxed W1 (w.heap.size + 1) 73 (.func ft bd lb) := (HB1.out.block _ hEl).trans H1.out
    have bP1 : Boxed W1 w.heap.size 80 (.func (.func 57) #[ptrV b] #[]) := (HB1.out.block _ (by omega)).trans H3.out
    have hput := hrow_cell bE1 0 (.func (.func 96) #[] #[ptrV pn, ptrV pg, ptrV pl])
    refine ⟨hKF, ?_, ⟨⟨⟨_, hput.row, ?_⟩, hput.keep (by omega) bP1⟩, ?_, ?_⟩⟩
    · refine lx_t (LX.of_lr (LR.of_below HB1.out (by omega)) (.inl rfl)) ⟨hput.below (Below.refl _ _) (by omega), fun q cs t fr hq hn => hput.keep (fun e => hn (.inr e)) hq⟩
    · rw [List.reverse_append, List.map_append]
      exact ⟨pn, pg, pl, _, rfl, hput.keep (by omega) K1.out, hput.keep (by omega) K2.out, hput.keep (by omega) K3.out, by omega, by omega, by omega, (H2.out.lr (LR.of_below (B := B) HB1.out (by omega)) (by omega)).go (fun q cs t hq hh => hput.keep (by omega) hh)⟩
    · exact hput.below (H4.out.trans (HB1.out.mono (by omega))) (by omega)
    · rw [hput.size]
      exact Nat.le_trans h5 HB1.out.size
  case done =>
    rintro D ys W hD rfl ⟨⟨⟨v, h1, h2⟩, h3⟩, h4, h5⟩ hK
    have cE := h1.cell
    gi_wp2
    refine ⟨by simp, .inl ⟨_, _, rfl, run_takeDeferred hK, ?_⟩⟩
    refine ⟨_, results_tmp rfl _ _ _, ⟨v, rfl, ?_⟩, h4.trans (belowK_b (w := w) (Nat.le_refl _) W D _ _ (by omega) hK rfl rfl)⟩
    rw [down_all _ _ l (fun j hj => by unfold elK; rw [dif_pos hj])] at h2
    exact (h2.lr (LR.of_grown (B := B) (grownBy_putObj' W D _) (by omega) (fun r e => by cases e; exact ⟨by omega, _, hK, rfl⟩)) (by omega)).mono (by omega)
  case stop =>
    rintro D c pre W _ _ h _
    exact h.elim

/-! ### Rules -/
theorem lUput_any (b : Nat) (x : Rl) (ao : Option Addr) (k cap : Nat) (ft : Fn) (bd lb : Array Value) (w : World) :
    Calls Tryz.prog 98 #[ptrV b, .agg #[.int .u32 (x.arch : Nat), .int .u32 (x.nr : Nat), .slice ao k cap, .int .u32 (x.act : Nat)], .func ft bd lb] w fun e w' =>
      e = .returned (.func (.func 135) #[] #[ptrV (w.heap.size + 1), ptrV w.heap.size, ptrV (w.heap.size + 1 + 1)]) ∧ w' = ((w.alloc (.cells #[ptrV b] 108)).alloc (rlB x (.slice ao k cap))).alloc (.cells #[.func ft bd lb] 73) := by
  go_enter Tryz.func98, Tryz.ntmps98
  go_wp2_with fail
  go_ret
  exact ⟨rfl, rfl⟩
theorem lUput_in (b : Nat) (x : Rl) (ao : Option Addr) (k cap : Nat) (ft : Fn) (bd lb : Array Value) (w : World) :
    Calls Tryz.prog 98 #[ptrV b, .agg #[.int .u32 (x.arch : Nat), .int .u32 (x.nr : Nat), .slice ao k cap, .int .u32 (x.act : Nat)], .func ft bd lb] w fun e w' => ∃ pn pg pl, e = .returned (.func (.func 135) #[] #[ptrV pg, ptrV pl, ptrV pn]) ∧ Below w.heap.size w w' ∧
      Boxed w' pn 73 (.func ft bd lb) ∧ w'.heap[pg]? = some (rlB x (.slice ao k cap)) ∧ Boxed w' pl 108 (ptrV b) ∧ w.heap.size ≤ pn ∧ w.heap.size ≤ pg ∧ w.heap.size ≤ pl := by
  refine (lUput_any b x ao k cap ft bd lb w).mono ?_
  rintro e w' ⟨rfl, rfl⟩
  obtain ⟨W, hW, X0, X1, X2, hb⟩ := box3 w (.cells #[ptrV b] 108) (rlB x (.slice ao k cap)) (.cells #[.func ft bd lb] 73)
  rw [← hW]
  exact ⟨w.heap.size + 2, w.heap.size + 1, w.heap.size, rfl, hb, X2, X1, X0, by omega, by omega, Nat.le_refl _⟩
abbrev AlU := { p : Nat × (Rl × Value) // ∃ ao k cap, p.2.2 = .slice ao k cap }
def encU (x : AlU) : Array Value := #[.int .i64 (x.1.1 : Nat), .agg #[.int .u32 (x.1.2.1.arch : Nat), .int .u32 (x.1.2.1.nr : Nat), x.1.2.2, .int .u32 (x.1.2.1.act : Nat)]]
def elU (l : List (Rl × Value)) (h : ∀ p ∈ l, ∃ ao k cap, p.2 = .slice ao k cap) (j : Nat) : AlU := if hj : j < l.length then ⟨(j, l[j]), h _ (List.getElem_mem hj)⟩ else ⟨(0, (zeroRl, .slice none 0 0)), ⟨_, _, _, rfl⟩⟩
set_option maxRecDepth 100000 in
set_option maxHeartbeats 4000000 in
theorem lUchain_any {B b : Nat} (pv : Value) (l : List (Rl × Value)) (hsh : ∀ p ∈ l, ∃ ao k cap, p.2 = .slice ao k cap) (hl : l.length ≤ 100000) (w : World) (hB : B ≤ w.heap.size) (hb : b < w.heap.size)
    (hS : LStay B b w (fun V => SlR V pv l.length (fun j => (l[j]?.map fun p => [.int .u32 (p.1.arch : Nat), .int .u32 (p.1.nr : Nat), p.2, .int .u32 (p.1.act : Nat)]).getD []))) :
    Calls Tryz.prog 97 #[pv, .func (.func 98) #[ptrV b] #[], otherV b] w fun e w' => (∃ v, e = .returned v ∧ RPl w.heap.size w' b v l) ∧ Below w.heap.size w w' := by
  refine (callsIn_wide (n := 6)).1 ?_
  obtain ⟨ao0, cap0, rfl, _⟩ := hS.now
  have HS := Lib.hid hS
  clear hS
  refine callsIn_of_wp_marks Tryz.func97 rfl trivial ?_ rfl
  simp only [Tryz.ntmps97, List.size_toArray, List.length_cons, List.length_nil, Nat.reduceAdd, Nat.reduceSub, Array.replicate_succ, Array.replicate_zero, List.push_toArray, List.append_toArray, List.nil_append, List.cons_append]
  gi_wp2_with (first | (refine ⟨trivial, ?_⟩; gi_at_call 134; refine (backR_in _ _ _ _ _).mono ?_; rintro e w' ⟨rfl, rfl⟩) | (gi_at_call 134; refine (backR_in _ _ _ _ _).mono ?_; rintro e w' ⟨rfl, rfl⟩))
  have bP := ((Boxed.new w 160 (.func (.func 98) #[ptrV b] #[])).alloc (.cells #[otherV b] 73)).alloc (.cells #[.slice ao0 l.length cap0] 22)
  have bE := (Boxed.new (w.alloc (.cells #[.func (.func 98) #[ptrV b] #[]] 160)) 73 (otherV b)).alloc (.cells #[.slice ao0 l.length cap0] 22)
  have bS := Boxed.new ((w.alloc (.cells #[.func (.func 98) #[ptrV b] #[]] 160)).alloc (.cells #[otherV b] 73)) 22 (.slice ao0 l.length cap0)
  have hB0 : Below w.heap.size w (((w.alloc (.cells #[.func (.func 98) #[ptrV b] #[]] 160)).alloc (.cells #[otherV b] 73)).alloc (.cells #[.slice ao0 l.length cap0] 22)) := ba _ (ba _ (ba _ (Below.refl _ _)))
  simp only [World.size_alloc] at bE bS
  have hsz : (((w.alloc (.cells #[.func (.func 98) #[ptrV b] #[]] 160)).alloc (.cells #[otherV b] 73)).alloc (.cells #[.slice ao0 l.length cap0] 22)).heap.size = w.heap.size + 3 := by simp
  obtain ⟨W0, hW0⟩ : ∃ W0, ((w.alloc (.cells #[.func (.func 98) #[ptrV b] #[]] 160)).alloc (.cells #[otherV b] 73)).alloc (.cells #[.slice ao0 l.length cap0] 22) = W0 := ⟨_, rfl⟩
  have hW0' : ((w.alloc (.cells #[.func (.func 98) #[.pointer (some ⟨b, 0, none⟩)] #[]] 160)).alloc (.cells #[.func (.func 31) #[.pointer (some ⟨b, 0, none⟩)] #[]] 73)).alloc (.cells #[.slice ao0 l.length cap0] 22) = W0 := hW0
  rw [hW0] at bP bE bS hB0 hsz
  (try rw [hW0'])
  have hLR0 : LR B b w W0 := LR.of_below hB0 hB
  clear hW0 hW0'
  refine wpIn_rangeFunc_ownH rfl (by omega) (gf := 156) (lb := #[.pointer (some ⟨w.heap.size + 1 + 1, 0, none⟩)]) rfl trivial (enters_of Tryz.func156 (by kernel_rfl) rfl)
    (backR_stops _ (by omega) (w.heap.size + 1 + 1) l.length (LX B (fun k => k = b ∨ k = w.heap.size + 1)) (LX.refl _ _) lx_t (.slice ao0 l.length cap0) (fun j => (l[j]?.map fun p => [.int .u32 (p.1.arch : Nat), .int .u32 (p.1.nr : Nat), p.2, .int .u32 (p.1.act : Nat)]).getD []) (elU l hsh) encU
      (fun j hj => by
        rw [List.getElem?_eq_getElem hj]
        refine ⟨_, _, _, _, rfl, ?_⟩
        unfold encU elU
        rw [dif_pos hj]) hl W0 (fun V hV => LX.of_lr (LR.of_below hV (by omega)) (.inl rfl))
      (fun V hV => ⟨(show Boxed V _ _ _ from hV.cells _ _ _ _ bS (by omega)).cell, HS.out V (hV.to_lr hLR0 (fun i hi => hi.imp id (fun e => by omega)))⟩))
    lx_t (lx_b (.inl rfl) (by omega)) (Below.refl _ _) (fun _ => rfl)
    (fun pre W => ((∃ v, Boxed W (w.heap.size + 1) 73 v ∧ RPl (w.heap.size + 2) W b v (pre.reverse.map (fun x => x.1.2))) ∧ Boxed W w.heap.size 160 (.func (.func 98) #[ptrV b] #[])) ∧ Below w.heap.size w W ∧ W0.heap.size ≤ W.heap.size)
    (fun _ _ _ => False)
    (own_lr (B := w.heap.size) (b := b) (by omega) (fun s V V' hs hr hd => by
      obtain ⟨⟨⟨v, h1, h2⟩, h3⟩, h4, h5⟩ := hs
      exact ⟨⟨⟨v, hr.boxed h1 (by omega), h2.lr hr (by omega)⟩, hr.boxed h3 (by omega)⟩, h4.trans hr.below, Nat.le_trans h5 hr.size⟩) (fun s V hs => hs.2.2))
    (fun _ _ _ _ _ hs _ _ => hs)
    ⟨⟨⟨_, bE, rfl⟩, bP⟩, hB0, Nat.le_refl _⟩
    (fun x a' W => ∃ Bx, w.heap.size + 2 < Bx ∧ W.heap[Bx]? = some (rlB x.1.2.1 x.1.2.2) ∧ a' = { tmps := #[.slice ao0 l.length cap0, .func (.func 98) #[ptrV b] #[], otherV b, undef, ptrV w.heap.size, ptrV (w.heap.size + 1), .nilFunc, undef, ptrV Bx, .slice ao0 l.length cap0, .func (.func 156) #[] #[ptrV (w.heap.size + 1 + 1)], .int .i64 (x.1.1 : Nat), .agg #[.int .u32 (x.1.2.1.arch : Nat), .int .u32 (x.1.2.1.nr : Nat), x.1.2.2, .int .u32 (x.1.2.1.act : Nat)], undef, undef, undef, undef, undef], defers := [] })
    (fun x a' _ V V' row hs hg hr => by
      obtain ⟨Bx, h1, h2, h3⟩ := hs
      exact ⟨Bx, h1, (hg.block Bx (lt_of_block h2) (fun e => by obtain ⟨o, ho, hc⟩ := (hr Bx e.symm).2; rw [h2] at ho; cases ho; cases hc)).trans h2, h3⟩)
    ?assign ?body ?done ?stop
  case assign =>
    rintro lp pre ⟨⟨j, p, pv⟩, ao, k, cap, hpv⟩ W K ⟨⟨⟨v, h1, h2⟩, h3⟩, h4, h5⟩ hK
    have hpv' : pv = .slice ao k cap := hpv
    subst hpv'
    simp only [encU]
    gi_wp2
    have hbA : Below W.heap.size W (W.alloc (rlB p (.slice ao k cap))) := ba _ (Below.refl _ _)
    exact hK _ _ (keeps_below hbA) (LX.of_lr (LR.of_below hbA (by omega)) (.inl rfl)) ⟨⟨⟨v, h1.alloc _, h2.lr (LR.of_below (B := B) hbA (by omega)) (by omega)⟩, h3.alloc _⟩, h4.alloc h4.size _, Nat.le_trans h5 hbA.size⟩ ⟨W.heap.size, by omega, heap_alloc_new _ _, rfl⟩
  case body =>
    rintro lp pre ⟨⟨j, p, pv⟩, ao, k, cap, hpv⟩ a' W hlp _ ⟨⟨⟨v, h1, h2⟩, h3⟩, h4, h5⟩ ⟨Bx, hBx, bX, rfl⟩ hlt
    have hpv' : pv = .slice ao k cap := hpv
    subst hpv'
    obtain ⟨ft, bd, lb, rfl⟩ := h2.shape
    have cE := h1.cell
    have fE := h1.frozen
    have cP := h3.cell
    obtain ⟨x0, x1, x2, x3⟩ := rbox bX
    have hEl : w.heap.size + 1 < W.heap.size := h1.lt
    have H1 := Lib.hid h1
    have H2 := Lib.hid h2
    have H3 := Lib.hid h3
    have H4 := Lib.hid h4
    clear h1 h2 h3 h4
    gi_wp2_with (first | (refine ⟨trivial, ?_⟩; gi_at_call 98; refine (CallsIn.inRound lp (callsIn_wide.2 (lUput_in b p ao k cap ft bd lb _))).mono ?_; rintro e W1 ⟨pn, pg, pl, rfl, hb1, k1, k2, k3, n1, n2, n3⟩; have cE1 := (hb1.cell (p := ⟨w.heap.size + 1, 0, none⟩) hEl).trans cE; have fE1 := (hb1.frozen (p := ⟨w.heap.size + 1, 0, none⟩) hEl).trans fE; have hstF := @run_storeF (.func (.func 135) #[] #[ptrV pg, ptrV pl, ptrV pn]) rfl; have K1 := Lib.hid k1; have K2 := Lib.hid k2; have K3 := Lib.hid k3; have HB1 := Lib.hid hb1; clear k1 k2 k3 hb1) | (gi_at_call 98; refine (CallsIn.inRound lp (callsIn_wide.2 (lUput_in b p ao k cap ft bd lb _))).mono ?_; rintro e W1 ⟨pn, pg, pl, rfl, hb1, k1, k2, k3, n1, n2, n3⟩; have cE1 := (hb1.cell (p := ⟨w.heap.size + 1, 0, none⟩) hEl).trans cE; have fE1 := (hb1.frozen (p := ⟨w.heap.size + 1, 0, none⟩) hEl).trans fE; have hstF := @run_storeF (.func (.func 135) #[] #[ptrV pg, ptrV pl, ptrV pn]) rfl; have K1 := Lib.hid k1; have K2 := Lib.hid k2; have K3 := Lib.hid k3; have HB1 := Lib.hid hb1; clear k1 k2 k3 hb1))
    have hset : Below w.heap.size w W1 := H4.out.trans (HB1.out.mono (by omega))
    have hKF : KeepsFrom W0.heap.size W (W1.setCell ⟨w.heap.size + 1, 0, none⟩ (.func (.func 135) #[] #[ptrV pg, ptrV pl, ptrV pn])) := (keeps_below HB1.out).trans ((KeepsOthers.setCell _ _ _).from _)
    have bE1 : Boxed W1 (w.heap.size + 1) 73 (.func ft bd lb) := (HB1.out.block _ hEl).trans H1.out
    have bP1 : Boxed W1 w.heap.size 160 (.func (.func 98) #[ptrV b] #[]) := (HB1.out.block _ (by omega)).trans H3.out
    have hput := hrow_cell bE1 0 (.func (.func 135) #[] #[ptrV pg, ptrV pl, ptrV pn])
    refine ⟨hKF, ?_, ⟨⟨⟨_, hput.row, ?_⟩, hput.keep (by omega) bP1⟩, ?_, ?_⟩⟩
    · refine lx_t (LX.of_lr (LR.of_below HB1.out (by omega)) (.inl rfl)) ⟨hput.below (Below.refl _ _) (by omega), fun q cs t fr hq hn => hput.keep (fun e => hn (.inr e)) hq⟩
    · rw [List.reverse_append, List.map_append]
      exact ⟨pn, pg, pl, _, rfl, hput.keep (by omega) K1.out, hput.keep (by omega) K2.out, hput.keep (by omega) K3.out, by omega, by omega, by omega, (H2.out.lr (LR.of_below (B := B) HB1.out (by omega)) (by omega)).go (fun q cs t hq hh => hput.keep (by omega) hh)⟩
    · exact hput.below (H4.out.trans (HB1.out.mono (by omega))) (by omega)
    · rw [hput.size]
      exact Nat.le_trans h5 HB1.out.size
  case done =>
    rintro D ys W hD rfl ⟨⟨⟨v, h1, h2⟩, h3⟩, h4, h5⟩ hK
    have cE := h1.cell
    gi_wp2
    refine ⟨by simp, .inl ⟨_, _, rfl, run_takeDeferred hK, ?_⟩⟩
    refine ⟨_, results_tmp rfl _ _ _, ⟨v, rfl, ?_⟩, h4.trans (belowK_b (w := w) (Nat.le_refl _) W D _ _ (by omega) hK rfl rfl)⟩
    rw [down_all _ _ l (fun j hj => by unfold elU; rw [dif_pos hj])] at h2
    exact (h2.lr (LR.of_grown (B := B) (grownBy_putObj' W D _) (by omega) (fun r e => by cases e; exact ⟨by omega, _, hK, rfl⟩)) (by omega)).mono (by omega)
  case stop =>
    rintro D c pre W _ _ h _
    exact h.elim
end Go.Proofs.YtbekkdhlfkongaaGreatDoor
