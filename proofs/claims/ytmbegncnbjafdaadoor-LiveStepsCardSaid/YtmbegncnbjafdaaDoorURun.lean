/-
  What run.Run answers, for any filter that lies in a world, and any record.
-/
import Derived.Test.YtmbegncnbjafdaaDoorUTakes
import Derived.WalkMore
namespace Go.Proofs.YtmbegncnbjafdaaDoor
open Go.ChangeShapes Go.WideShapes Go.ChangeAt Go.RowKit
set_option maxRecDepth 20000

/-- So many instructions are done; what is left gives the rest. -/
def RunsTo (l : List X4) (d : Rec) (s : St) (p c : Nat) : Prop := runS l d = ((fromS l d (l.length - p) s p).1, (fromS l d (l.length - p) s p).2 + c)
theorem runsTo_start (l : List X4) (d : Rec) : RunsTo l d zeroSt 0 0 := rfl
theorem len_succ {n p : Nat} (h : p < n) : n - p = (n - p - 1) + 1 := by omega
section
variable {l : List X4} {d : Rec} {s : St} {p c : Nat}
theorem runsTo_ret (h : RunsTo l d s p c) (hp : p < l.length) (h6 : (l.getD p zeroX).op = 6) : runS l d = ((l.getD p zeroX).k.toNat, c + 1) := by
  unfold RunsTo at h
  rw [len_succ hp, fromS_succ, if_pos h6] at h
  rw [h]
  simp only [Prod.mk.injEq, true_and]
  omega
theorem runsTo_reta (h : RunsTo l d s p c) (hp : p < l.length) (h6 : (l.getD p zeroX).op = 22) : runS l d = (s.a, c + 1) := by
  unfold RunsTo at h
  rw [len_succ hp, fromS_succ, if_neg (by omega), if_pos h6] at h
  rw [h]
  simp only [Prod.mk.injEq, true_and]
  omega
theorem runsTo_kill (h : RunsTo l d s p c) (hp : p < l.length) (h6 : ¬ (l.getD p zeroX).op = 6) (h22 : ¬ (l.getD p zeroX).op = 22) (hg : goesS s (l.getD p zeroX) = false) : runS l d = (0, c + 1) := by
  unfold RunsTo at h
  rw [len_succ hp, fromS_succ, if_neg h6, if_neg h22, if_pos hg] at h
  rw [h]
  simp only [Prod.mk.injEq, true_and]
  omega
theorem runsTo_next (h : RunsTo l d s p c) (hs : SoundL l) (hok : ∀ x ∈ l, x.ok) (hp : p < l.length) (h6 : ¬ (l.getD p zeroX).op = 6) (h22 : ¬ (l.getD p zeroX).op = 22) (hg : goesS s (l.getD p zeroX) = true) :
    RunsTo l d (stepS s (l.getD p zeroX) d) (placeS s (l.getD p zeroX) p) (c + 1) := by
  obtain ⟨q1, q2⟩ := placeS_in hs hok hp s (ends_op.2 ⟨h6, h22⟩)
  unfold RunsTo at h ⊢
  rw [len_succ hp, fromS_succ, if_neg h6, if_neg h22, if_neg (by rw [hg]; decide)] at h
  rw [fromS_more hs hok d (l.length - p - 1) (l.length - placeS s (l.getD p zeroX) p) _ _ q2 (by omega) (by omega)] at h
  rw [h]
  simp only [Prod.mk.injEq, true_and]
  omega
end
theorem nat_k {x : X4} (h : x.ok) : ∃ k : Nat, x.k = k ∧ k < 4294967296 := ⟨x.k.toNat, by have := h.1; omega, by have := h.1; have := h.2; omega⟩
theorem retRun {l : List X4} {d : Rec} {a b : Nat} {x y : Int} (h : runS l d = (a, b)) (hx : x = a) (hy : y = b) : Ending.returned (.tuple #[.int .u32 x, .int .i64 y, .int .i64 0]) = .returned (.tuple #[.int .u32 ((runS l d).1 : Nat), .int .i64 ((runS l d).2 : Nat), .int .i64 0]) := by rw [h, hx, hy]

theorem branch_all : ∀ i, i < 39 → isBranch (Ip.refOps.getD i 0) = true → Ip.refOps.getD i 0 ∈ ([21, 29, 37, 45, 53, 61, 69, 77] : List Int) := by decide +kernel
theorem branch_ops {op : Int} (h : isBranch op = true) : op ∈ ([21, 29, 37, 45, 53, 61, 69, 77] : List Int) := by
  rcases Ip.plc_cases op with ⟨i, hi, _, hq, _, _⟩ | ⟨_, hb⟩
  · rw [hq] at h ⊢
    exact branch_all i hi h
  · unfold isBranch at h
    rw [hb] at h
    cases h
/-- A branch leaves the state as it is. -/
theorem step_branch (s : St) (x : X4) (d : Rec) (h : isBranch x.op = true) : stepS s x d = s := by
  have ha : aluB 21 = false ∧ aluB 29 = false ∧ aluB 37 = false ∧ aluB 45 = false ∧ aluB 53 = false ∧ aluB 61 = false ∧ aluB 69 = false ∧ aluB 77 = false := by decide
  obtain ⟨a1, a2, a3, a4, a5, a6, a7, a8⟩ := ha
  have := branch_ops h
  simp only [List.mem_cons, List.not_mem_nil, or_false] at this
  rcases this with e | e | e | e | e | e | e | e <;> simp [stepS, e, a1, a2, a3, a4, a5, a6, a7, a8]
theorem skip_step (s : St) (x : X4) (d : Rec) : skipS (stepS s x d) x = skipS s x := by
  unfold skipS
  by_cases h5 : x.op = 5
  · rw [if_pos h5, if_pos h5]
  · rw [if_neg h5, if_neg h5]
    cases hB : isBranch x.op
    · rfl
    · rw [step_branch s x d hB]
theorem insX {w : World} {g : Nat} {op jt jf k : Int} (h : w.heap[g]? = some (insB op jt jf k)) : w.cell? ⟨g, 0, none⟩ = some (.int .i64 op) ∧ w.cell? ⟨g, 1, none⟩ = some (.int .i64 jt) ∧ w.cell? ⟨g, 2, none⟩ = some (.int .i64 jf) ∧ w.cell? ⟨g, 3, none⟩ = some (.int .u32 k) :=
  ⟨cell_in h 0, cell_in h 1, cell_in h 2, cell_in h 3⟩

end Go.Proofs.YtmbegncnbjafdaaDoor
