/-
  What ins.cut answers, for any text, in every world: its parts between spaces, of which at most four are cut off.
-/
import Derived.Test.YtlhpdjafhjfcoaaDoorIRead
namespace Go.Proofs.YtlhpdjafhjfcoaaDoor
open Go.ChangeShapes Go.WideShapes Go.ChangeAt Go.RowKit
set_option maxRecDepth 20000

/-- Texts as cells. -/
abbrev strs (l : List (List UInt8)) : List Value := l.map fun (x : List UInt8) => Value.string ⟨x.toArray⟩
theorem own_iter {w : World} {base : Nat} {e : TypeId} {size : Nat} {v : Value} {n : Nat} {xs : List Value} (h : w.ownsRow base e size v n xs) {k : Nat} {s : ByteArray} {p : Nat} (hk : w.heap[k]? = some (.stringIter s p)) (q : Nat) : (w.iterAt k s q).ownsRow base e size v n xs := by
  obtain ⟨h1, h2⟩ := h
  refine ⟨h1, h2.imp id ?_⟩
  rintro ⟨g, cap, cur, hv, hg, hh, r⟩
  refine ⟨g, cap, cur, hv, hg, ?_, r⟩
  rw [Lib.iterAt_other w k g s q (fun e => by rw [e, hk] at hh; cases hh)]
  exact hh
/-- The iterator moved on: what stays. -/
theorem iter_step {w wr : World} {v : Value} {n : Nat} {xs : List Value} {s : ByteArray} {p : Nat} (ho : wr.ownsRow (w.heap.size + 1) 9 1 v n xs) (hi : wr.heap[w.heap.size]? = some (.stringIter s p)) (hb : Below w.heap.size w wr) (q : Nat) :
    ∃ W, W = wr.iterAt w.heap.size s q ∧ W.ownsRow (w.heap.size + 1) 9 1 v n xs ∧ W.heap[w.heap.size]? = some (.stringIter s q) ∧ Below w.heap.size w W :=
  ⟨_, rfl, own_iter ho hi q, Lib.iterAt_heap wr _ s p q hi, Lib.below_iterAt hb (Nat.le_refl _) s q⟩
theorem iter_pos {w : World} {k : Nat} {s : ByteArray} {p : Nat} (h : w.heap[k]? = some (.stringIter s p)) : w.iterPos k = p := by simp [World.iterPos, h]
/-- Behind an append to a row beyond it the iterator stands where it stood. -/
theorem iter_grown {w W W' : World} {v : Value} {n : Nat} {xs : List Value} (hown : W.ownsRow (w.heap.size + 1) 9 1 v n xs) {it : Obj} (hi : W.heap[w.heap.size]? = some it) (x : Value)
    (hg : (W.alloc (.cells #[x] 9)).grownBy W' v.ownBlock) : W'.heap[w.heap.size]? = some it := by
  have hl := lt_of_block hi
  rw [hg.block w.heap.size (by rw [size_alloc]; omega) (fun e => by have := (hown.lt _ e.symm).1; omega)]
  exact (Below.heap_alloc _ _ _ hl).trans hi
theorem piece_val (s : ByteArray) (a b : Nat) : Value.string (s.extract a b) = .string ⟨(Ip.piece s.data.toList a b).toArray⟩ := by rw [Ip.extract_piece]

/-- What comes of cut. -/
def CutEnd (s : ByteArray) (w : World) (e : Ending) (w' : World) : Prop := ∃ v, e = .returned v ∧ w'.ownsRow w.heap.size 9 1 v (Ip.sp 4 [] s.data.toList).length (strs (Ip.sp 4 [] s.data.toList)) ∧ Below w.heap.size w w'
theorem cutEnd {s : ByteArray} {w w' : World} {v : Value} {ps : List (List UInt8)} {x : Value} {q : List UInt8} (h : Ip.sp 4 [] s.data.toList = ps ++ [q]) (hx : x = .string ⟨q.toArray⟩) (ho : w'.ownsRow (w.heap.size + 1) 9 1 v (ps.length + 1) (strs ps ++ [x])) (hb : Below w.heap.size w w') : CutEnd s w (.returned v) w' := by
  refine ⟨v, rfl, ?_, hb⟩
  rw [h]
  subst hx
  obtain ⟨h1, h2⟩ := ho
  refine ⟨by simp, ?_⟩
  rcases h2 with ⟨_, h⟩ | ⟨g, cap, cur, hv, hg, hh, r1, r2, r3, r4⟩
  · omega
  · refine .inr ⟨g, cap, cur, ?_, by omega, hh, ?_, r2, r3, ?_⟩
    · rw [hv]; simp
    · simpa using r1
    · simpa using r4

end Go.Proofs.YtlhpdjafhjfcoaaDoor
