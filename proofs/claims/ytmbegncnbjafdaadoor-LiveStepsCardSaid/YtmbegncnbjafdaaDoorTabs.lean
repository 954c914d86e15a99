/-
  Package-level variables that a row lists: how they are taken off the list.
-/
import Derived.Test.YtmbegncnbjafdaaDoorBytesArg
import Derived.Test.YtmbegncnbjafdaaDoorCards
import Derived.Test.YtmbegncnbjafdaaDoorTie
import Derived.Lib.LaidTab
import Derived.Stop.LaidErr
import Derived.Test.YtmbegncnbjafdaaDoorCPlain
import Derived.Deep.Slices
import Derived.Test.YtmbegncnbjafdaaDoorITexts
namespace Go.Proofs.YtmbegncnbjafdaaDoor
open Go.ChangeShapes Go.WideShapes Go.ChangeAt Go.RowKit

/-- The listed numbers of a table. -/
def numsOf : DataW Unit → List Int
  | .agg l => l.map fun | .lit (.int _ n) => n | _ => 0
  | _ => []
/-- The cells of a listed table. -/
def cellsOfD (k : IntKind) (d : DataW Unit) : Array Value := ((numsOf d).map fun n => Value.int k n).toArray
/-- A block's cells, put in. -/
def laidBlock (cs : Array Value) : Obj → Obj
  | .cells _ t fr => .cells cs t fr
  | o => o
/-- A list in chunks of one length. -/
theorem chunks {α : Type} (k : Nat) : ∀ (n : Nat) (cs : List α) (F : Nat → List α), cs.length = n * k → (∀ i, i < n → (cs.drop (i * k)).take k = F i) → cs = (List.range n).flatMap F
  | 0, cs, F, h, _ => by
    have h0 : cs = [] := List.length_eq_zero_iff.1 (by simpa using h)
    simp [h0]
  | n + 1, cs, F, h, hF => by
    have h1 := chunks k n (cs.drop k) (fun i => F (i + 1)) (by rw [List.length_drop, h, Nat.add_mul]; omega) (fun i hi => by
      rw [List.drop_drop, ← hF (i + 1) (by omega), Nat.add_mul, Nat.one_mul, Nat.add_comm k])
    have h0 := hF 0 (by omega)
    rw [Nat.zero_mul, List.drop_zero] at h0
    rw [List.range_succ_eq_map, List.flatMap_cons, List.flatMap_map, ← h0]
    exact (List.take_append_drop k cs).symm.trans (congrArg _ h1)
/-- A variable that heads the list: its block, and how its cells read. -/
theorem laid_head {P : Program} {W : World} {name : String} {d : DataW Unit} {rest : List (String × DataW Unit)} {g : Nat} {t : TypeId} (hg : P.globalNamed name = some g) (hty : (P.globals[g]?).map (·.type) = some t)
    (h : laidMet P ((name, d) :: rest) W) : ∃ cs ty fr fuel p, W.heap[g]? = some (.cells cs ty fr) ∧ DataW.trod (fun _ => ()) P W 0 (fun _ => true) false fuel t cs.toList = some (d, p) := by
  obtain ⟨ps, ⟨g', t', cs, fuel, p, q, hg', ht', hvar, hd, _, _⟩, _⟩ := h
  obtain rfl := Option.some.inj (hg.symm.trans hg')
  obtain rfl := Option.some.inj (hty.symm.trans ht')
  unfold World.var? at hvar
  rw [hg] at hvar
  simp only [Option.bind_some] at hvar
  split at hvar
  · rename_i cs' ty fr hh
    obtain rfl := Option.some.inj hvar
    exact ⟨cs', ty, fr, fuel, p, hh, hd⟩
  · cases hvar
end Go.Proofs.YtmbegncnbjafdaaDoor

/-
  Arguments that are filters or bytes: what the row's reading of them gives of the world's cells.
-/
namespace Go.Proofs.YtmbegncnbjafdaaDoor
open Go.ChangeShapes Go.WideShapes Go.ChangeAt Go.RowKit Go.Deep
set_option maxRecDepth 100000

theorem cellsX : Tryd.prog.cellsOf 24 = 4 := by kernel_rfl
section
variable {H : Type} {enc : TypeId × Value → H} {W : World} {base : Nat} {v : Value} {d : DataW H} {p : List MemPlace}
theorem open_filt (hval : Value.okWide Tryd.prog W .any base 30 v) (h : DataW.Trod enc Tryd.prog W 0 (fun _ => true) true 30 v d p) : ∃ l : List X4, FAt W v l ∧ (∀ x ∈ l, x.ok) ∧ l.length ≤ 9223372036854775807 := by
  obtain ⟨a1, len, cap, rfl⟩ := okWide_slice Tryd.underlying30 hval
  obtain ⟨fuel, hf⟩ := h
  rcases open_slice Tryd.underlying30 hf with ⟨hcs, _⟩ | ⟨a, len', cap', m, n, D, Pl, hcs, _, hl, hm, hmm, _, hi⟩
  · simp [Value.cells] at hcs
    obtain ⟨rfl, rfl, rfl⟩ := hcs
    exact ⟨[], FAt.nil W, by simp, by simp⟩
  · simp [Value.cells] at hcs
    obtain ⟨rfl, rfl, rfl⟩ := hcs
    simp only [if_true] at hmm
    unfold maxLen at hm
    rw [cellsX] at hi
    have hall : ∀ i, i < len → ∃ x : X4, x.ok ∧ W.cell? (a.add (i * 4)) = some (.int .i64 x.op) ∧ W.cell? ((a.add (i * 4)).add 1) = some (.int .i64 x.jt) ∧ W.cell? ((a.add (i * 4)).add 2) = some (.int .i64 x.jf) ∧ W.cell? ((a.add (i * 4)).add 3) = some (.int .u32 x.k) := by
      intro i hil
      obtain ⟨cs', hc, ht'⟩ := hi i (by omega)
      obtain ⟨ys, n', _, _, hlen, hyl, hff⟩ := DataW.trod_struct Tryd.underlying24 ht'
      obtain ⟨_, hcl, hat⟩ := World.cells?_some hc
      rw [cellsX] at hlen
      match cs', hlen with
      | [c0, c1, c2, c3], _ =>
        have h0 : DataW.trod enc Tryd.prog W 0 (fun _ => true) true n' 3 [c0] = ys[0]? := hff 0 _ rfl
        have h1 : DataW.trod enc Tryd.prog W 0 (fun _ => true) true n' 3 [c1] = ys[1]? := hff 1 _ rfl
        have h2 : DataW.trod enc Tryd.prog W 0 (fun _ => true) true n' 3 [c2] = ys[2]? := hff 2 _ rfl
        have h3 : DataW.trod enc Tryd.prog W 0 (fun _ => true) true n' 22 [c3] = ys[3]? := hff 3 _ rfl
        have hy4 : ys.length = 4 := hyl
        match ys, hy4 with
        | [y0, y1, y2, y3], _ =>
          obtain ⟨z0, e0, _, _⟩ := DataW.trod_int Tryd.underlying3 h0
          obtain ⟨z1, e1, _, _⟩ := DataW.trod_int Tryd.underlying3 h1
          obtain ⟨z2, e2, _, _⟩ := DataW.trod_int Tryd.underlying3 h2
          obtain ⟨z3, e3, _, w3⟩ := DataW.trod_int Tryd.underlying22 h3
          simp only [List.cons.injEq, and_true] at e0 e1 e2 e3
          subst e0 e1 e2 e3
          have b3 := bounds_u32 w3
          have g0 := hat 0 (by omega)
          have g1 := hat 1 (by omega)
          have g2 := hat 2 (by omega)
          have g3 := hat 3 (by omega)
          refine ⟨⟨z0, z1, z2, z3⟩, ⟨b3.1, b3.2⟩, ?_, g1, g2, g3⟩
          simpa [Addr.add] using g0
    obtain ⟨l, hll, hq⟩ := pick_list len hall
    subst hll
    refine ⟨l, ⟨some a, cap, rfl, ?_⟩, ?_, by omega⟩
    · by_cases h0 : l = []
      · exact .inl h0
      · have hpos : 0 < l.length := List.length_pos_iff.2 h0
        obtain ⟨ab, ao, spot⟩ := a
        obtain ⟨_, q0, _⟩ := hq 0 hpos
        have hspot : spot = none := by simpa [Addr.add] using World.cell?_spot q0
        subst hspot
        refine .inr ⟨ab, ao, rfl, ?_, fun i hi' => ?_⟩
        · apply Nat.lt_of_not_le
          intro hle
          have e : W.heap[ab]? = none := by simp; exact hle
          rw [Addr.add_lit] at q0
          simp [World.cell?, e] at q0
        · obtain ⟨_, q0, q1, q2, q3⟩ := hq i hi'
          rw [Addr.add_lit] at q0 q1 q2 q3
          rw [Addr.add_lit] at q1 q2 q3
          exact ⟨q0, q1, q2, q3⟩
    · intro x hx
      obtain ⟨i, hi', rfl⟩ := List.getElem_of_mem hx
      exact (hq i hi').1
end
end Go.Proofs.YtmbegncnbjafdaaDoor

/-
  The listed tables: what the rows list of package-level variables, what that says of the world, and a world for the witness.
-/
namespace Go.Proofs.YtmbegncnbjafdaaDoor
open Go.ChangeShapes Go.WideShapes Go.ChangeAt Go.RowKit
set_option maxRecDepth 100000

theorem cells8 : Tryd.prog.cellsOf 5 = 1 := by kernel_rfl
theorem gOps : Tryd.prog.globalNamed "hurdle/ins.operations" = some 0 := by kernel_rfl
theorem gOpsType : (Tryd.prog.globals[0]?).map (·.type) = some 92 := by kernel_rfl
theorem cellsOps : Tryd.prog.cellsOf 92 = 117 := by kernel_rfl
theorem cellsOp : Tryd.prog.cellsOf 77 = 3 := by kernel_rfl
theorem cellsI : Tryd.prog.cellsOf 3 = 1 := by kernel_rfl
theorem cellsS : Tryd.prog.cellsOf 9 = 1 := by kernel_rfl

/-- A row of the table as a datum. -/
def rowD (r : Ip.Row) : DataW Unit := .agg [.lit (.int .i64 r.op), .lit (.string r.word), .lit (.int .i64 r.fmt)]
def rowC (r : Ip.Row) : List Value := [.int .i64 r.op, .string r.str, .int .i64 r.fmt]
theorem opsOf : (Rows.laid_hurdle_ins_operations : DataW Unit) = .agg (Ip.rows.map rowD) := rfl
theorem cellsFlat : (List.range 39).flatMap (fun i => rowC (Ip.rowAt i)) = Ip.cellsL := by kernel_rfl
/-- The three cells of a row, by how they read. -/
theorem row_cells {W : World} {fuel : Nat} {cs : List Value} {r : Ip.Row} {p : List MemPlace} (h : DataW.trod (fun _ => ()) Tryd.prog W 0 (fun _ => true) false fuel 77 cs = some (rowD r, p)) : cs = rowC r := by
  obtain ⟨xs, n, _, hx, hl, hxl, hf⟩ := DataW.trod_struct Tryd.underlying77 h
  have hd : xs.map (·.1) = [.lit (.int .i64 r.op), .lit (.string r.word), .lit (.int .i64 r.fmt)] := by
    have h1 := congrArg Prod.fst hx
    simp only [rowD, DataW.agg.injEq] at h1
    exact h1.symm
  rw [cellsOp] at hl
  match xs, hd, cs, hl with
  | [x0, x1, x2], hd, [a, b, c], _ =>
    simp only [List.map_cons, List.map_nil, List.cons.injEq, and_true] at hd
    have h0 : DataW.trod (fun _ => ()) Tryd.prog W 0 (fun _ => true) false n 3 [a] = some x0 := hf 0 _ rfl
    have h1 : DataW.trod (fun _ => ()) Tryd.prog W 0 (fun _ => true) false n 9 [b] = some x1 := hf 1 _ rfl
    have h2 : DataW.trod (fun _ => ()) Tryd.prog W 0 (fun _ => true) false n 3 [c] = some x2 := hf 2 _ rfl
    obtain ⟨z0, e0, g0, _⟩ := DataW.trod_int Tryd.underlying3 h0
    obtain ⟨s1, e1, g1, _⟩ := DataW.trod_string Tryd.underlying9 h1
    obtain ⟨z2, e2, g2, _⟩ := DataW.trod_int Tryd.underlying3 h2
    subst g0 g1 g2
    simp only [DataW.lit.injEq, Lit.int.injEq, Lit.string.injEq, true_and, List.cons.injEq, and_true] at hd e0 e1 e2
    obtain ⟨d0, d1, d2⟩ := hd
    have hs : s1 = r.str := by
      apply ByteArray.ext
      apply Array.ext'
      rw [d1]
      rfl
    rw [rowC, e0, e1, e2, d0, d2, hs]
/-- A row that lists the table of the operations alone. -/
def lays1 : List (String × DataW Unit) := [("hurdle/ins.operations", Rows.laid_hurdle_ins_operations)]
theorem otab1_of {W : World} (h : laidMetH Tryd.prog lays1 W) : OTab W := by
  have h2 : laidMet Tryd.prog lays1 W := h
  unfold lays1 at h2
  rw [opsOf] at h2
  obtain ⟨cs, ty, fr, fuel, p, hh, hd⟩ := laid_head gOps gOpsType h2
  obtain ⟨xs, m, _, hx, hl, hxl, hf⟩ := DataW.trod_array Tryd.underlying92 hd
  have hm : xs.map (·.1) = Ip.rows.map rowD := by
    have h3 := congrArg Prod.fst hx
    simp only [DataW.agg.injEq] at h3
    exact h3.symm
  rw [cellsOps] at hl
  have hc : cs.toList = Ip.cellsL := by
    rw [← cellsFlat]
    refine chunks 3 39 _ _ hl (fun i hi => ?_)
    have h4 := hf i hi
    rw [cellsOp] at h4
    have h5 : xs[i]? = some (rowD (Ip.rowAt i), (xs[i]'(by omega)).2) := by
      have h6 := congrArg (·[i]?) hm
      simp only [List.getElem?_map] at h6
      rw [List.getElem?_eq_getElem (by omega)] at h6 ⊢
      rw [List.getElem?_eq_getElem (by rw [Ip.rows_len]; exact hi)] at h6
      simp only [Option.map_some, Option.some.injEq] at h6
      rw [show Ip.rowAt i = Ip.rows[i]'(by rw [Ip.rows_len]; exact hi) by unfold Ip.rowAt List.getD; rw [List.getElem?_eq_getElem (by rw [Ip.rows_len]; exact hi)]; rfl, ← h6]
    rw [h5] at h4
    exact row_cells h4
  refine ⟨ty, fr, ?_⟩
  rw [hh, show cs = Ip.cells by apply Array.ext'; exact hc]

/-- The same, where the rows list the table of the operations alone. -/
noncomputable def laidWorld1 (os : Os) : World :=
  { World.holding Tryd.prog os ⟨#[], #[], []⟩ with heap := (World.holding Tryd.prog os ⟨#[], #[], []⟩).heap.modify 0 (laidBlock Ip.cells) }
end Go.Proofs.YtmbegncnbjafdaaDoor
