/-
  Arguments that are filters or bytes: what the row's reading of them gives of the world's cells.
-/
import Derived.Test.YtmiflelmblnkaaaDoorBytesArg
import Derived.Test.YtmiflelmblnkaaaDoorStay
import Derived.Test.YtmiflelmblnkaaaDoorCPlain
import Derived.Deep.Slices
namespace Go.Proofs.YtmiflelmblnkaaaDoor
open Go.ChangeShapes Go.WideShapes Go.ChangeAt Go.RowKit Go.Deep
set_option maxRecDepth 100000

theorem cellsX : Tryd.prog.cellsOf 36 = 4 := by kernel_rfl
section
variable {H : Type} {enc : TypeId × Value → H} {W : World} {base : Nat} {v : Value} {d : DataW H} {p : List MemPlace}
theorem open_filt (hval : Value.okWide Tryd.prog W .any base 22 v) (h : DataW.Trod enc Tryd.prog W 0 (fun _ => true) true 22 v d p) : ∃ l : List X4, FAt W v l ∧ (∀ x ∈ l, x.ok) ∧ l.length ≤ 9223372036854775807 := by
  obtain ⟨a1, len, cap, rfl⟩ := okWide_slice Tryd.underlying22 hval
  obtain ⟨fuel, hf⟩ := h
  rcases open_slice Tryd.underlying22 hf with ⟨hcs, _⟩ | ⟨a, len', cap', m, n, D, Pl, hcs, _, hl, hm, hmm, _, hi⟩
  · simp [Value.cells] at hcs
    obtain ⟨rfl, rfl, rfl⟩ := hcs
    exact ⟨[], FAt.nil W, by simp, by simp⟩
  · simp [Value.cells] at hcs
    obtain ⟨rfl, rfl, rfl⟩ := hcs
    simp only [if_true] at hmm
    unfold maxLen at hm
    rw [cellsX] at hi
    have hall : ∀ i, i < len → ∃ x : X4, x.ok ∧ W.cell? (a.add (i * 4)) = some (.int .i64 x.op) ∧ W.cell? ((a.add (i * 4)).add 1) = some (.int .i64 x.jt) ∧ W.cell? ((a.add (i * 4)).add 2) = some (.int .i64 x.jf) ∧ W.cell? ((a.add (i * 4)).add 3) = some (.int .u32 x.k) := by
      intro i hil
      obtain ⟨cs', hc, ht'⟩ := hi i (by omega)
      obtain ⟨ys, n', _, _, hlen, hyl, hff⟩ := DataW.trod_struct Tryd.underlying36 ht'
      obtain ⟨_, hcl, hat⟩ := World.cells?_some hc
      rw [cellsX] at hlen
      match cs', hlen with
      | [c0, c1, c2, c3], _ =>
        have h0 : DataW.trod enc Tryd.prog W 0 (fun _ => true) true n' 3 [c0] = ys[0]? := hff 0 _ rfl
        have h1 : DataW.trod enc Tryd.prog W 0 (fun _ => true) true n' 3 [c1] = ys[1]? := hff 1 _ rfl
        have h2 : DataW.trod enc Tryd.prog W 0 (fun _ => true) true n' 3 [c2] = ys[2]? := hff 2 _ rfl
        have h3 : DataW.trod enc Tryd.prog W 0 (fun _ => true) true n' 34 [c3] = ys[3]? := hff 3 _ rfl
        have hy4 : ys.length = 4 := hyl
        match ys, hy4 with
        | [y0, y1, y2, y3], _ =>
          obtain ⟨z0, e0, _, _⟩ := DataW.trod_int Tryd.underlying3 h0
          obtain ⟨z1, e1, _, _⟩ := DataW.trod_int Tryd.underlying3 h1
          obtain ⟨z2, e2, _, _⟩ := DataW.trod_int Tryd.underlying3 h2
          obtain ⟨z3, e3, _, w3⟩ := DataW.trod_int Tryd.underlying34 h3
          simp only [List.cons.injEq, and_true] at e0 e1 e2 e3
          subst e0 e1 e2 e3
          have b3 := bounds_u32 w3
          have g0 := hat 0 (by omega)
          have g1 := hat 1 (by omega)
          have g2 := hat 2 (by omega)
          have g3 := hat 3 (by omega)
          refine ⟨⟨z0, z1, z2, z3⟩, ⟨b3.1, b3.2⟩, ?_, g1, g2, g3⟩
          simpa [Addr.add] using g0
    obtain ⟨l, hll, hq⟩ := pick_list len hall
    subst hll
    refine ⟨l, ⟨some a, cap, rfl, ?_⟩, ?_, by omega⟩
    · by_cases h0 : l = []
      · exact .inl h0
      · have hpos : 0 < l.length := List.length_pos_iff.2 h0
        obtain ⟨ab, ao, spot⟩ := a
        obtain ⟨_, q0, _⟩ := hq 0 hpos
        have hspot : spot = none := by simpa [Addr.add] using World.cell?_spot q0
        subst hspot
        refine .inr ⟨ab, ao, rfl, ?_, fun i hi' => ?_⟩
        · apply Nat.lt_of_not_le
          intro hle
          have e : W.heap[ab]? = none := by simp; exact hle
          rw [Addr.add_lit] at q0
          simp [World.cell?, e] at q0
        · obtain ⟨_, q0, q1, q2, q3⟩ := hq i hi'
          rw [Addr.add_lit] at q0 q1 q2 q3
          rw [Addr.add_lit] at q1 q2 q3
          exact ⟨q0, q1, q2, q3⟩
    · intro x hx
      obtain ⟨i, hi', rfl⟩ := List.getElem_of_mem hx
      exact (hq i hi').1
end
end Go.Proofs.YtmiflelmblnkaaaDoor
