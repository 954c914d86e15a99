/-
  What the laws' texts use, joined.
-/
import Derived.Test.YtkfhmcpdodnbhaaProg
import Derived.WalkKit
import Derived.ProofKit
import Derived.Lib.Hide
import Derived.Laws.Rows
import Derived.Laws.ResultCell
import Derived.Laws.Entries
import Derived.Handy
import Derived.OwnWalk
import Derived.Laws.OwnMore
import Derived.Deep.Draws
import Derived.Laws.IdiomStrings
import Derived.Lib.BufferRead
import Derived.Maps.OwnSet
import Derived.Laws.Tables
import Derived.Deep.DeepCutAuto
import Derived.DeepKeys
import Derived.Laws.StructEq
import Derived.Deep.RegionHeld3
import Derived.BigRegion
import Derived.BigQuiet
import Derived.Deep.OwnRows
import Derived.Lib.QuietBelow
import Derived.Deep.MidRow
import Derived.Test.YtkfhmcpdodnbhaaRows
import Derived.OpenShut
import Derived.Carry
import Derived.Deep.DeepHandedRow
import Derived.Lib.SmallJoins
import Derived.Stop.Joined
import Derived.Test.YtkfhmcpdodnbhaaPk1
/-
  Package affine.
-/
namespace Go.Proofs.Ytkfhmcpdodnbhaa
open Go.ChangeShapes Go.WideShapes Go.ChangeAt Go.RowKit
set_option maxRecDepth 100000

/-! ### Plain -/
/-- The first numbers of A, then those of B. -/
def partF (A B : Nat → Nat) (k : Nat) : List Nat := formOf fun i => if i ≤ k then A i else B i
theorem partF_len (A B : Nat → Nat) (k : Nat) : (partF A B k).length = 35 := segA_len _ _
theorem partF_at {A B : Nat → Nat} {k i : Nat} (h : i < 35) : mAt (partF A B k) i = if i ≤ k then A i else B i := formOf_at h
theorem partF_zero {f : List Nat} (hf : f.length = 35) (A : Nat → Nat) : f.set 0 (A 0) = partF A (mAt f) 0 := by
  refine form_ext (by simp [hf]) (partF_len _ _ _) fun i hi => ?_
  rw [mAt_set 0 _ i (by omega), partF_at hi]
  by_cases h : i = 0
  · subst h
    rfl
  · rw [if_neg h, if_neg (by omega)]
theorem partF_succ (A B : Nat → Nat) {k : Nat} (hk : k < 34) : (partF A B k).set (1 + k) (A (k + 1)) = partF A B (k + 1) := by
  refine form_ext (by simp [partF_len]) (partF_len _ _ _) fun i hi => ?_
  rw [mAt_set _ _ i (by rw [partF_len]; omega), partF_at hi, partF_at hi]
  by_cases h : i = 1 + k
  · rw [if_pos h, if_pos (by omega), h, Nat.add_comm]
  · rw [if_neg h]
    by_cases h2 : i ≤ k
    · rw [if_pos h2, if_pos (by omega)]
    · rw [if_neg h2, if_neg (by omega)]
theorem partF_all (A B : Nat → Nat) : partF A B 34 = formOf A := by
  refine form_ext (partF_len _ _ _) (segA_len _ _) fun i hi => ?_
  rw [partF_at hi, formOf_at hi, if_pos (by omega)]
/-- A number of an array. -/
theorem index34 {l : List Nat} (hl : l.length = 34) {k : Nat} (hk : k < 34) (W : World) : (Instr.index 23 (formV l) (.int .i64 k)).run Try.prog W = .ok (.int .u32 (mAt l k : Nat)) W := by
  have hz : (sizeOf 22).run Try.prog W = .ok 1 W := by kernel_rfl
  have h1 : (0 : Int) ≤ (k : Int) ∧ (k : Int) < 34 := by omega
  simp [Instr.index, run_underlying Try.underlying23, asIntOf, h1, hk, go_sem, hz, numsC_at (l := l) (i := k) (by omega)]
theorem var_set {n : Nat} (hn : n < 34) : (constF 0).set (1 + n) 1 = varF n := by
  refine form_ext (by simp [(constF_ok (c := 0) (by omega)).1]) (varF_ok n).1 fun i hi => ?_
  rw [mAt_set _ _ i (by rw [(constF_ok (c := 0) (by omega)).1]; omega), varF, formOf_at hi, constF, formOf_at hi]
  by_cases h : i = 1 + n
  · rw [if_pos h, if_pos (by omega)]
  · rw [if_neg h, if_neg (show ¬ i = n + 1 by omega)]
    split <;> rfl
/-- The results: a form in a cell, and a number. -/
theorem results_forme {fn : Func} {p q : Tmp} (h : fn.results = #[.cell p 25, .tmp q]) {tmps : Array Value} {w : World} {g : Nat} {f : List Nat} {e : Value} (hf : f.length = 35)
    (hp : tmps.getD p undef = .pointer (some ⟨g, 0, none⟩)) (hq : tmps.getD q undef = e) (hG : w.heap[g]? = some (formB f)) : (results fn tmps).run Try.prog w = .ok (.tuple #[formV f, e]) w := by
  have hp' : tmps[p]?.getD undef = .pointer (some ⟨g, 0, none⟩) := by simpa using hp
  have hq' : tmps[q]?.getD undef = e := by simpa using hq
  simp [results, h, hp', hq', asAddr, run_loadVar_row w g 25 25 (numsC f) (0, 0) _ hG Try.underlying25 rfl (by rw [numsC_size, hf]; exact infoF)]
/-- A form's coefficients, as a row. -/
theorem tail_ok {f : List Nat} (h : FOk f) : VOk (f.drop 1) := ⟨by rw [List.length_drop, h.1], fun n hn => h.2 n (List.mem_of_mem_drop hn)⟩
theorem tail_at (f : List Nat) (i : Nat) : mAt (f.drop 1) i = mAt f (i + 1) := by
  unfold mAt
  rw [List.getD_eq_getElem?_getD, List.getD_eq_getElem?_getD, List.getElem?_drop, Nat.add_comm]
theorem range_tail {w : World} {g : Nat} {f : List Nat} (hG : w.heap[g]? = some (formB f)) : w.rangeAt g 1 (ucells (f.drop 1)) := by
  intro j v hj
  rw [cell_in hG]
  simp only [ucells, List.map_drop, List.getElem?_drop] at hj
  simp only [numsC, ucells, List.getElem?_toArray]
  exact hj
section
variable {ops : Array Oper} {rest : List Oper} {o : Oper} {a : Act} {w : World} {Q : Exit → Act → World → Prop}
/-- A form's coefficients are read, whole. -/
theorem ld_tail {g : Nat} {f l : List Nat} {x : Operand} (hl : l = f.drop 1) (hG : w.heap[g]? = some (formB f)) (hf : f.length = 35) (hgd : o.guard = none) (ho : o.op = .load 23 x) (hx : a.eval x = .pointer (some ⟨g, 1, none⟩))
    (h : wpList Try.prog ops Q rest (a.put o.dst (formV l)) w) : wpList Try.prog ops Q (o :: rest) a w := by
  subst hl
  exact wpList_load_mid hgd 23 x ho g 1 hx (ucells (f.drop 1)) _ (range_tail hG) Try.underlying23 rfl (by rw [ucells_len, List.length_drop, hf]; exact infoV) h
end
section
variable {ops : Array Oper} {o : Oper} {a : Act} {S : World → Prop}
theorem jyi_row {g : Nat} {ty : TypeId} {x : Operand} {cs : Array Value} (hw : Region.wanted o (yielded ops a.tmps) = true) (ho : o.op = .load ty x) (hx : a.eval x = .pointer (some ⟨g, 0, none⟩)) (hS : ∀ V, S V → (loadVar ty ⟨g, 0, none⟩).run Try.prog V = .ok (.agg cs) V) : YieldsIf Try.prog ops S o (.agg cs) a :=
  .inl ⟨hw, fun V hV => by
    unfold execOp
    simp only [ho, hx, Instr.loadAt, Instr.sureAddr, Sem.run_bind, Sem.run_pure, Result.andThen_ok, hS V hV]⟩
end
theorem lv_form {V : World} {g : Nat} {f : List Nat} (h : V.heap[g]? = some (formB f)) (hf : f.length = 35) : (loadVar 25 ⟨g, 0, none⟩).run Try.prog V = .ok (formV f) V :=
  run_loadVar_row V g 25 25 (numsC f) (0, 0) _ h Try.underlying25 rfl (by rw [numsC_size, hf]; exact infoF)
theorem lv_row {V : World} {g : Nat} {v : List Nat} (h : V.heap[g]? = some (rowB v)) (hv : v.length = 34) : (loadVar 23 ⟨g, 0, none⟩).run Try.prog V = .ok (formV v) V :=
  run_loadVar_row V g 23 23 (numsC v) (0, 0) _ h Try.underlying23 rfl (by rw [numsC_size, hv]; exact infoV)
section
variable {ops : Array Oper} {rest : List Oper} {o : Oper} {a : Act} {w : World} {Q : Exit → Act → World → Prop}
/-- A whole form is read behind a guard that is met. -/
theorem ld_formg {g : Nat} {f : List Nat} {x : Operand} (hG : w.heap[g]? = some (formB f)) (hf : f.length = 35) (hw : Region.wanted o (yielded ops a.tmps) = true) (ho : o.op = .load 25 x) (hx : a.eval x = .pointer (some ⟨g, 0, none⟩))
    (h : wpList Try.prog ops Q rest (a.put o.dst (formV f)) w) : wpList Try.prog ops Q (o :: rest) a w := by
  unfold wpList
  rw [if_pos hw]
  exact .inl (wp_load_row 25 x ho g hx 25 (numsC f) (0, 0) _ hG Try.underlying25 rfl (by rw [numsC_size, hf]; exact infoF) h)
end
/-! ### == on forms -/
theorem eq_form {f g : List Nat} (hf : FOk f) (hg : FOk g) (w : World) : (binOp .eql 25 (formV f) (formV g)).run Try.prog w = .ok (.bool (decide (f = g))) w := by
  rw [run_eql_struct, eqIn_form hf hg]
  rfl
theorem eqs_form {f : List Nat} (hf : FOk f) (w : World) : (binOp .eql 25 (formV f) (formV f)).run Try.prog w = .ok (.bool true) w := by
  rw [eq_form hf hf, decide_eq_true rfl]
theorem eqi_form {f : List Nat} (hf : FOk f) (w : World) : (Op.equalIn 10000 25 (formV f) (formV f)).run Try.prog w = .ok true w := by
  rw [eqIn_form hf hf, decide_eq_true rfl]

theorem keyA : Try.prog.keyTypeAt 5 23 = true := by kernel_rfl
theorem eqIn_row {u v : List Nat} (hu : VOk u) (hv : VOk v) (w : World) : (Op.equalIn 10000 23 (formV u) (formV v)).run Try.prog w = .ok (decide (u = v)) w := by
  obtain ⟨r, hr, hiff⟩ := run_equalIn_deep (P := Try.prog) 9995 5 23 keyA w 8 8 (formV u) (formV v) (litsF u) (litsF v) (by simp [Value.formed, numsC_size, hu.1, cellsV]) (by simp [Value.formed, numsC_size, hv.1, cellsV]) (keyV 6 hu) (keyV 6 hv)
  rw [hr]
  congr 1
  apply Bool.eq_iff_iff.2
  rw [hiff, decide_eq_true_iff]
  exact ⟨litsF_inj, fun h => by rw [h]⟩
/-- The results: an assignment in a cell, and a bool. -/
theorem results_rowb {fn : Func} {p q : Tmp} (h : fn.results = #[.cell p 23, .tmp q]) {tmps : Array Value} {w : World} {g : Nat} {v : List Nat} {e : Value} (hv : v.length = 34)
    (hp : tmps.getD p undef = .pointer (some ⟨g, 0, none⟩)) (hq : tmps.getD q undef = e) (hG : w.heap[g]? = some (rowB v)) : (results fn tmps).run Try.prog w = .ok (.tuple #[formV v, e]) w := by
  have hp' : tmps[p]?.getD undef = .pointer (some ⟨g, 0, none⟩) := by simpa using hp
  have hq' : tmps[q]?.getD undef = e := by simpa using hq
  simp [results, h, hp', hq', asAddr, run_loadVar_row w g 23 23 (numsC v) (0, 0) _ hG Try.underlying23 rfl (by rw [numsC_size, hv]; exact infoV)]
section
variable {o : Oper} {a : Act} {w : World} {K : Act → World → Prop} {Q : Exit → Act → World → Prop}
theorem wp_putf {g : Nat} {f : List Nat} {old : Array Value} {x y : Operand} (hG : w.heap[g]? = some (.cells old 25)) (hold : old.size = 35) (hf : f.length = 35) (ho : o.op = .store 25 x y) (hx : a.eval x = .pointer (some ⟨g, 0, none⟩)) (hy : a.eval y = formV f)
    (h : ∀ w', RowPut w w' g (formB f) → K (a.put o.dst undef) w') : o.wp Try.prog a w K Q :=
  wp_store_row 25 x y ho g (numsC f) hx hy 25 old hG (by rw [numsC_size, hf]; exact infoF) (by rw [numsC_size, hf]; exact hold) (numsC_one f) (h _ (rowPut_set hG _))
end

/-! ### Const, Var -/
theorem aconst_any (c : Nat) (w : World) (hc : c < 4294967296) : Calls Try.prog 17 #[.int .u32 (c : Nat)] w fun e w' => e = .returned (formV (constF c)) ∧ Below w.heap.size w w' := by
  have HL := Lib.hid ((constF_ok hc).1)
  have HX := Lib.hid (heap_alloc_new w (formB (constF 0)))
  have HB := Lib.hid (ba (formB (constF 0)) (Below.refl w.heap.size w))
  obtain ⟨Q, hQ⟩ : ∃ Q, Q = bodyPost Try.prog Try.f17 (fun e w' => e = .returned (formV (constF c)) ∧ Below w.heap.size w w') := ⟨_, rfl⟩
  have HQ0 := Lib.hid hQ
  go_enter Try.func17, Try.ntmps17
  rw [← hQ]
  clear hQ hc
  go_wp2_with (refine st_form HX.out rfl HL.out rfl rfl rfl rfl ?_; intro W2 hp2; have HP2 := Lib.hid hp2; clear hp2)
  (try simp only [Exit.inBlock, Exit.then])
  rw [HQ0.out]
  exact bodyPost_ret (results_form rfl HL.out rfl HP2.out.row) rfl ⟨rfl, HP2.out.below HB.out (Nat.le_refl _)⟩
theorem avar_in (n : Nat) (w : World) (hn : n < 34) : Calls Try.prog 9 #[.int .i64 (n : Nat)] w fun e w' => e = .returned (.tuple #[formV (varF n), .int .i64 0]) ∧ Below w.heap.size w w' := by
  have HS := Lib.hid (var_set hn)
  have HL := Lib.hid ((varF_ok n).1)
  obtain ⟨W, hW, h0, h1, hb⟩ := box2 w (formB (constF 0)) (formB (constF 0))
  have HX := Lib.hid h0
  have HY := Lib.hid h1
  have HB := Lib.hid hb
  obtain ⟨Q, hQ⟩ : ∃ Q, Q = bodyPost Try.prog Try.f9 (fun e w' => e = .returned (.tuple #[formV (varF n), .int .i64 0]) ∧ Below w.heap.size w w') := ⟨_, rfl⟩
  have HQ0 := Lib.hid hQ
  go_enter Try.func9, Try.ntmps9
  rw [← hQ]
  clear hQ h0 h1 hb
  go_wp2_with (first
    | (rw [zform, ← hW]; refine st_num (n := 1) HY.out (by rw [(constF_ok (c := 0) (by omega)).1]; omega) rfl rfl rfl rfl ?_; intro W2 hp2; have HP2 := Lib.hid hp2; clear hp2; rw [HS.out] at HP2)
    | (refine ld_form HP2.out.row HL.out rfl rfl rfl ?_)
    | (refine st_form (HP2.out.keep (by omega) HX.out) rfl HL.out rfl rfl rfl rfl ?_; intro W3 hp3; have HP3 := Lib.hid hp3; clear hp3))
  (try simp only [Exit.inBlock, Exit.then])
  rw [HQ0.out]
  exact bodyPost_ret (results_forme rfl HL.out rfl rfl HP3.out.row) rfl ⟨rfl, HP3.out.below (HP2.out.below HB.out (by omega)) (Nat.le_refl _)⟩
theorem avar_out (n : Int) (w : World) (hn : n < 0 ∨ 33 < n) : Calls Try.prog 9 #[.int .i64 n] w fun e w' => e = .returned (.tuple #[formV (constF 0), .int .i64 1]) ∧ Below w.heap.size w w' := by
  have HL := Lib.hid ((constF_ok (c := 0) (by omega)).1)
  have HX := Lib.hid (heap_alloc_new w (formB (constF 0)))
  have HB := Lib.hid (ba (formB (constF 0)) (Below.refl w.heap.size w))
  obtain ⟨Q, hQ⟩ : ∃ Q, Q = bodyPost Try.prog Try.f9 (fun e w' => e = .returned (.tuple #[formV (constF 0), .int .i64 1]) ∧ Below w.heap.size w w') := ⟨_, rfl⟩
  have HQ0 := Lib.hid hQ
  by_cases h0 : n < 0
  · have g0 : decide (n < 0) = true := decide_eq_true h0
    go_enter Try.func9, Try.ntmps9
    rw [← hQ]
    clear hQ hn
    go_wp2_with (refine st_form HX.out rfl HL.out rfl rfl rfl rfl ?_; intro W3 hp3; have HP3 := Lib.hid hp3; clear hp3)
    (try simp only [Exit.inBlock, Exit.then])
    rw [HQ0.out]
    exact bodyPost_ret (results_forme rfl HL.out rfl rfl HP3.out.row) rfl ⟨rfl, HP3.out.below HB.out (Nat.le_refl _)⟩
  · have g0 : decide (n < 0) = false := decide_eq_false h0
    have g1 : (34 : Int) ≤ n := by omega
    go_enter Try.func9, Try.ntmps9
    rw [← hQ]
    clear hQ hn
    go_wp2_with (refine st_form HX.out rfl HL.out rfl rfl rfl rfl ?_; intro W3 hp3; have HP3 := Lib.hid hp3; clear hp3)
    (try simp only [Exit.inBlock, Exit.then])
    rw [HQ0.out]
    exact bodyPost_ret (results_forme rfl HL.out rfl rfl HP3.out.row) rfl ⟨rfl, HP3.out.below HB.out (Nat.le_refl _)⟩

/-! ### Add, Mul, Eval -/
set_option maxHeartbeats 1000000 in
theorem aadd_any (f g : List Nat) (w : World) (hf : FOk f) (hg : FOk g) : Calls Try.prog 13 #[formV f, formV g] w fun e w' => e = .returned (formV (addF f g)) ∧ Below w.heap.size w w' := by
  obtain ⟨A, hA⟩ : ∃ A : Nat → Nat, A = fun i => (mAt f i + mAt g i) % 4294967296 := ⟨_, rfl⟩
  have HA : Hid (∀ i, A i = (mAt f i + mAt g i) % 4294967296) := Lib.hid fun i => by rw [hA]
  have HR : Hid (addF f g = formOf A) := Lib.hid (by rw [hA]; rfl)
  have HF := Lib.hid hf
  obtain ⟨T, hT⟩ : ∃ T, T = g.drop 1 := ⟨_, rfl⟩
  have HT : Hid (VOk T) := Lib.hid (hT ▸ tail_ok hg)
  have HTA : Hid (∀ i, mAt T i = mAt g (i + 1)) := Lib.hid fun i => by rw [hT, tail_at]
  have HTD := Lib.hid hT
  have HGL := Lib.hid hg.1
  have HZ := Lib.hid (addF_ok f g).1
  obtain ⟨W, hW, h0, h1, h2, hb⟩ := box3 w (formB f) (formB g) (formB (constF 0))
  have HX := Lib.hid h0
  have HY := Lib.hid h1
  have HO := Lib.hid h2
  have HB := Lib.hid hb
  have x0 : W.cell? ⟨w.heap.size, 0, none⟩ = some (.int .u32 (mAt f 0 : Nat)) := by rw [cell_in h0, numsC_at (by rw [hf.1]; omega)]
  have y0 : W.cell? ⟨w.heap.size + 1, 0, none⟩ = some (.int .u32 (mAt g 0 : Nat)) := by rw [cell_in h1, numsC_at (by rw [hg.1]; omega)]
  obtain ⟨F, hF⟩ : ∃ F, F = mAt f 0 := ⟨_, rfl⟩
  obtain ⟨G, hG⟩ : ∃ G, G = mAt g 0 := ⟨_, rfl⟩
  rw [← hF] at x0
  rw [← hG] at y0
  have q0 : IntKind.u32.wrap ((F : Int) + (G : Int)) = ((A 0 : Nat) : Int) := by rw [wrap_add, HA.out 0, hF, hG]
  obtain ⟨Z, hZ⟩ : ∃ Z, Z = A 0 := ⟨_, rfl⟩
  rw [← hZ] at q0
  have HZ0 : Hid (f.set 0 Z = partF A (mAt f) 0) := Lib.hid (by rw [hZ]; exact partF_zero hf.1 A)
  obtain ⟨Q, hQ⟩ : ∃ Q, Q = bodyPost Try.prog Try.f13 (fun e w' => e = .returned (formV (addF f g)) ∧ Below w.heap.size w w') := ⟨_, rfl⟩
  have HQ0 := Lib.hid hQ
  clear hf hg hA h0 h1 h2 hb hF hG hZ hT
  go_enter Try.func13, Try.ntmps13
  rw [← hQ]
  clear hQ
  go_upto_region 1 with fail
  rw [zform, ← hW]
  clear hW
  go_wp2_with (first
    | (refine st_num (n := Z) HX.out (by rw [HF.out.1]; omega) rfl rfl rfl rfl ?_; intro W2 hp2; have HP2 := Lib.hid hp2; clear hp2; rw [HZ0.out] at HP2)
    | (refine ld_tail HTD.out (HP2.out.keep (by omega) HY.out) HGL.out rfl rfl rfl ?_))
  clear x0 y0 q0 HY
  go_loopw [5, 6, 15] (fun _ _ i wr => ∃ k : Nat, k ≤ 34 ∧ i = .int .i64 k ∧ wr.heap[w.heap.size]? = some (formB (partF A (mAt f) k)) ∧ wr.heap[w.heap.size + 2]? = some (formB (constF 0)) ∧ Below w.heap.size w wr) (fun _ _ i _ => 34 - (intOf i).toNat)
  case atStart => exact ⟨0, by omega, rfl, HP2.out.row, HP2.out.keep (by omega) HO.out, HP2.out.below HB.out (Nat.le_refl _)⟩
  case round =>
    obtain ⟨k, hk, rfl, hX, hO, hB⟩ := hrel
    have HXr := Lib.hid hX
    have HOr := Lib.hid hO
    have HBr := Lib.hid hB
    clear hO hB HP2 HO HB HX
    by_cases hlt : k < 34
    · have hi := index34 HT.out.1 hlt
      rw [HTA.out] at hi
      have x1 : wr.cell? ⟨w.heap.size, 1 + k, none⟩ = some (.int .u32 (mAt f (k + 1) : Nat)) := by rw [cell_in hX, numsC_at (by rw [partF_len]; omega), partF_at (by omega), if_neg (by omega), Nat.add_comm]
      have HS := Lib.hid (partF_succ A (mAt f) hlt)
      obtain ⟨X, hX⟩ : ∃ X, X = mAt f (k + 1) := ⟨_, rfl⟩
      obtain ⟨Y, hY⟩ : ∃ Y, Y = mAt g (k + 1) := ⟨_, rfl⟩
      rw [← hX] at x1
      rw [← hY] at hi
      have q1 : IntKind.u32.wrap ((X : Int) + (Y : Int)) = ((A (k + 1) : Nat) : Int) := by rw [wrap_add, HA.out (k + 1), hX, hY]
      obtain ⟨Z, hZ⟩ : ∃ Z, Z = A (k + 1) := ⟨_, rfl⟩
      rw [← hZ] at q1 HS
      clear hX hY hZ
      go_wp2_with (refine st_num (n := Z) HXr.out (by rw [partF_len]; omega) rfl rfl rfl rfl ?_; intro W2 hp2; have HP2 := Lib.hid hp2; clear hp2; rw [HS.out] at HP2)
      go_roundw
      case rel => exact ⟨k + 1, by omega, by go_num, HP2.out.row, HP2.out.keep (by omega) HOr.out, HP2.out.below HBr.out (Nat.le_refl _)⟩
      case measure => simp [intOf]; omega
    · obtain rfl : k = 34 := by omega
      have e := partF_all A (mAt f)
      rw [e, ← HR.out] at HXr
      clear e hX
      go_wp2_with (first
        | (refine ld_form HXr.out HZ.out rfl rfl rfl ?_)
        | (refine st_form HOr.out rfl HZ.out rfl rfl rfl rfl ?_; intro W3 hp3; have HP3 := Lib.hid hp3; clear hp3))
      (try simp only [Exit.inBlock, Exit.then])
      rw [HQ0.out]
      exact bodyPost_ret (results_form rfl HZ.out rfl HP3.out.row) rfl ⟨rfl, HP3.out.below HBr.out (by omega)⟩
set_option maxHeartbeats 1000000 in
theorem amul_any (f : List Nat) (k : Nat) (w : World) (hf : FOk f) (_hk : k < 4294967296) : Calls Try.prog 16 #[formV f, .int .u32 (k : Nat)] w fun e w' => e = .returned (formV (mulF f k)) ∧ Below w.heap.size w w' := by
  obtain ⟨A, hA⟩ : ∃ A : Nat → Nat, A = fun i => mAt f i * k % 4294967296 := ⟨_, rfl⟩
  have HA : Hid (∀ i, A i = mAt f i * k % 4294967296) := Lib.hid fun i => by rw [hA]
  have HR : Hid (mulF f k = formOf A) := Lib.hid (by rw [hA]; rfl)
  have HF := Lib.hid hf
  have HZ := Lib.hid (mulF_ok f k).1
  obtain ⟨W, hW, h0, h1, hb⟩ := box2 w (formB f) (formB (constF 0))
  have HX := Lib.hid h0
  have HO := Lib.hid h1
  have HB := Lib.hid hb
  have x0 : W.cell? ⟨w.heap.size, 0, none⟩ = some (.int .u32 (mAt f 0 : Nat)) := by rw [cell_in h0, numsC_at (by rw [hf.1]; omega)]
  obtain ⟨F, hF⟩ : ∃ F, F = mAt f 0 := ⟨_, rfl⟩
  rw [← hF] at x0
  have q0 : IntKind.u32.wrap ((F : Int) * (k : Int)) = ((A 0 : Nat) : Int) := by rw [wrap_mul, HA.out 0, hF]
  obtain ⟨Z, hZ⟩ : ∃ Z, Z = A 0 := ⟨_, rfl⟩
  rw [← hZ] at q0
  have HZ0 : Hid (f.set 0 Z = partF A (mAt f) 0) := Lib.hid (by rw [hZ]; exact partF_zero hf.1 A)
  obtain ⟨Q, hQ⟩ : ∃ Q, Q = bodyPost Try.prog Try.f16 (fun e w' => e = .returned (formV (mulF f k)) ∧ Below w.heap.size w w') := ⟨_, rfl⟩
  have HQ0 := Lib.hid hQ
  clear hf hA h0 h1 hb hF hZ
  go_enter Try.func16, Try.ntmps16
  rw [← hQ]
  clear hQ
  go_upto_region 1 with fail
  rw [zform, ← hW]
  clear hW
  go_wp2_with (refine st_num (n := Z) HX.out (by rw [HF.out.1]; omega) rfl rfl rfl rfl ?_; intro W2 hp2; have HP2 := Lib.hid hp2; clear hp2; rw [HZ0.out] at HP2)
  clear x0 q0
  go_loopw [5, 11] (fun _ i wr => ∃ m : Nat, m ≤ 34 ∧ i = .int .i64 m ∧ wr.heap[w.heap.size]? = some (formB (partF A (mAt f) m)) ∧ wr.heap[w.heap.size + 1]? = some (formB (constF 0)) ∧ Below w.heap.size w wr) (fun _ i _ => 34 - (intOf i).toNat)
  case atStart => exact ⟨0, by omega, rfl, HP2.out.row, HP2.out.keep (by omega) HO.out, HP2.out.below HB.out (Nat.le_refl _)⟩
  case round =>
    obtain ⟨m, hm, rfl, hX, hO, hB⟩ := hrel
    have HXr := Lib.hid hX
    have HOr := Lib.hid hO
    have HBr := Lib.hid hB
    clear hO hB HP2 HO HB HX
    by_cases hlt : m < 34
    · have x1 : wr.cell? ⟨w.heap.size, 1 + m, none⟩ = some (.int .u32 (mAt f (m + 1) : Nat)) := by rw [cell_in hX, numsC_at (by rw [partF_len]; omega), partF_at (by omega), if_neg (by omega), Nat.add_comm]
      have HS := Lib.hid (partF_succ A (mAt f) hlt)
      obtain ⟨X, hX⟩ : ∃ X, X = mAt f (m + 1) := ⟨_, rfl⟩
      rw [← hX] at x1
      have q1 : IntKind.u32.wrap ((X : Int) * (k : Int)) = ((A (m + 1) : Nat) : Int) := by rw [wrap_mul, HA.out (m + 1), hX]
      obtain ⟨Z, hZ⟩ : ∃ Z, Z = A (m + 1) := ⟨_, rfl⟩
      rw [← hZ] at q1 HS
      clear hX hZ
      go_wp2_with (refine st_num (n := Z) HXr.out (by rw [partF_len]; omega) rfl rfl rfl rfl ?_; intro W2 hp2; have HP2 := Lib.hid hp2; clear hp2; rw [HS.out] at HP2)
      go_roundw
      case rel => exact ⟨m + 1, by omega, by go_num, HP2.out.row, HP2.out.keep (by omega) HOr.out, HP2.out.below HBr.out (Nat.le_refl _)⟩
      case measure => simp [intOf]; omega
    · obtain rfl : m = 34 := by omega
      have e := partF_all A (mAt f)
      rw [e, ← HR.out] at HXr
      clear e hX
      go_wp2_with (first
        | (refine ld_form HXr.out HZ.out rfl rfl rfl ?_)
        | (refine st_form HOr.out rfl HZ.out rfl rfl rfl rfl ?_; intro W3 hp3; have HP3 := Lib.hid hp3; clear hp3))
      (try simp only [Exit.inBlock, Exit.then])
      rw [HQ0.out]
      exact bodyPost_ret (results_form rfl HZ.out rfl HP3.out.row) rfl ⟨rfl, HP3.out.below HBr.out (by omega)⟩
set_option maxHeartbeats 1000000 in
theorem aeval_any (f v : List Nat) (w : World) (hf : FOk f) (hv : VOk v) : Calls Try.prog 23 #[formV f, formV v] w fun e w' => e = .returned (.int .u32 (evalF f v : Nat)) ∧ Below w.heap.size w w' := by
  obtain ⟨T, hT⟩ : ∃ T, T = f.drop 1 := ⟨_, rfl⟩
  have HT : Hid (VOk T) := Lib.hid (hT ▸ tail_ok hf)
  have HTA : Hid (∀ i, mAt T i = mAt f (i + 1)) := Lib.hid fun i => by rw [hT, tail_at]
  have HTD := Lib.hid hT
  have HFL := Lib.hid hf.1
  have HVL := Lib.hid hv.1
  obtain ⟨W, hW, h0, h1, hb⟩ := box2 w (formB f) (rowB v)
  have HX := Lib.hid h0
  have HY := Lib.hid h1
  have HB := Lib.hid hb
  have x0 : W.cell? ⟨w.heap.size, 0, none⟩ = some (.int .u32 (mAt f 0 : Nat)) := by rw [cell_in h0, numsC_at (by rw [hf.1]; omega)]
  obtain ⟨F, hF⟩ : ∃ F, F = mAt f 0 := ⟨_, rfl⟩
  rw [← hF] at x0
  have HF0 : Hid (F = valN f v 0) := Lib.hid hF
  clear hf hv h0 h1 hb hF hT
  go_enter Try.func23, Try.ntmps23
  go_upto_region 1 with fail
  rw [← hW]
  clear hW
  go_wp2_with (refine ld_tail HTD.out HX.out HFL.out rfl rfl rfl ?_)
  clear x0
  go_loopw [5, 6, 7, 12] (fun n _ _ i wr => ∃ k : Nat, k ≤ 34 ∧ i = .int .i64 k ∧ n = .int .u32 (valN f v k : Nat) ∧ wr = W) (fun _ _ _ i _ => 34 - (intOf i).toNat)
  case atStart => exact ⟨0, by omega, rfl, by rw [← HF0.out], rfl⟩
  case round =>
    obtain ⟨k, hk, rfl, rfl, rfl⟩ := hrel
    by_cases hlt : k < 34
    · have hi := index34 HT.out.1 hlt
      rw [HTA.out] at hi
      have y1 : wr.cell? ⟨w.heap.size + 1, k, none⟩ = some (.int .u32 (mAt v k : Nat)) := by rw [cell_in HY.out, numsC_at (by rw [HVL.out]; omega)]
      obtain ⟨N, hN⟩ : ∃ N, N = valN f v k := ⟨_, rfl⟩
      have HN : Hid (valN f v (k + 1) = (N + mAt f (k + 1) * mAt v k % 4294967296) % 4294967296) := Lib.hid (by rw [hN]; rfl)
      rw [← hN]
      obtain ⟨X, hX⟩ : ∃ X, X = mAt f (k + 1) := ⟨_, rfl⟩
      obtain ⟨Y, hY⟩ : ∃ Y, Y = mAt v k := ⟨_, rfl⟩
      rw [← hY] at y1
      rw [← hX] at hi
      rw [← hX, ← hY] at HN
      have q1 := wrap_mul X Y
      obtain ⟨P, hP⟩ : ∃ P, P = X * Y % 4294967296 := ⟨_, rfl⟩
      rw [← hP] at q1 HN
      have q2 := wrap_add N P
      rw [← HN.out] at q2
      obtain ⟨Z, hZ⟩ : ∃ Z, Z = valN f v (k + 1) := ⟨_, rfl⟩
      rw [← hZ] at q2
      have HZ := Lib.hid hZ
      clear hX hY hZ hP hN
      go_wp2_with fail
      go_roundw
      case rel => exact ⟨k + 1, by omega, by go_num, by rw [HZ.out], trivial⟩
      case measure => simp [intOf]; omega
    · obtain rfl : k = 34 := by omega
      have HE : Hid (valN f v 34 = evalF f v) := Lib.hid rfl
      rw [HE.out]
      go_wp2_with fail
      go_ret
      exact ⟨rfl, HB.out⟩

/-! ### Constant -/
theorem zvec : formV zeros = .agg #[.int .u32 0, .int .u32 0, .int .u32 0, .int .u32 0, .int .u32 0, .int .u32 0, .int .u32 0, .int .u32 0, .int .u32 0, .int .u32 0, .int .u32 0, .int .u32 0, .int .u32 0, .int .u32 0, .int .u32 0, .int .u32 0, .int .u32 0, .int .u32 0, .int .u32 0, .int .u32 0, .int .u32 0, .int .u32 0, .int .u32 0, .int .u32 0, .int .u32 0, .int .u32 0, .int .u32 0, .int .u32 0, .int .u32 0, .int .u32 0, .int .u32 0, .int .u32 0, .int .u32 0, .int .u32 0] := rfl
theorem cnt_zero {f : List Nat} : ∀ n, cntN f n = 0 ↔ ∀ i, i < n → mAt f (i + 1) = 0
  | 0 => ⟨fun _ i hi => by omega, fun _ => rfl⟩
  | n + 1 => by
    have ih := cnt_zero (f := f) n
    unfold cntN
    constructor
    · intro h i hi
      rcases Nat.lt_or_eq_of_le (Nat.le_of_lt_succ hi) with h1 | rfl
      · exact ih.1 (by omega) i h1
      · split at h <;> omega
    · intro h
      rw [ih.2 fun i hi => h i (by omega), h n (by omega)]
      rfl
theorem tail_zero {f : List Nat} (hf : FOk f) : f.drop 1 = zeros ↔ cntN f 34 = 0 := by
  rw [cnt_zero]
  constructor
  · intro h i _
    rw [← tail_at, h, zeros_at]
  · intro h
    refine ext_mAt (by rw [(tail_ok hf).1]; rfl) fun i hi => ?_
    rw [(tail_ok hf).1] at hi
    rw [tail_at, h i hi, zeros_at]
theorem aconstant_any (f : List Nat) (w : World) (hf : FOk f) : Calls Try.prog 20 #[formV f] w fun e w' => e = .returned (.tuple #[.int .u32 ((constantF f).1 : Nat), .bool (constantF f).2]) ∧ Below w.heap.size w w' := by
  obtain ⟨T, hT⟩ : ∃ T, T = f.drop 1 := ⟨_, rfl⟩
  have HTD := Lib.hid hT
  have HFL := Lib.hid hf.1
  have h0 := heap_alloc_new w (formB f)
  have hb := ba (formB f) (Below.refl w.heap.size w)
  obtain ⟨W, hW⟩ : ∃ W, W = w.alloc (formB f) := ⟨_, rfl⟩
  rw [← hW] at h0 hb
  have x0 : W.cell? ⟨w.heap.size, 0, none⟩ = some (.int .u32 (mAt f 0 : Nat)) := by rw [cell_in h0, numsC_at (by rw [hf.1]; omega)]
  have HX := Lib.hid h0
  have HB := Lib.hid hb
  have e1 := eqIn_row (hT ▸ tail_ok hf : VOk T) zeros_ok
  by_cases hc : T = zeros
  · have HE : Hid (constantF f = (mAt f 0, true)) := Lib.hid (by unfold constantF; rw [if_pos ((tail_zero hf).1 (hT ▸ hc))])
    rw [HE.out]
    rw [decide_eq_true hc, zvec] at e1
    obtain ⟨F, hF⟩ : ∃ F, F = mAt f 0 := ⟨_, rfl⟩
    rw [← hF] at x0 ⊢
    clear hf h0 hb hT hc hF
    go_enter Try.func20, Try.ntmps20
    go_upto_region 1 with fail
    rw [← hW]
    clear hW
    go_wp2_with (refine ld_tail HTD.out HX.out HFL.out rfl rfl rfl ?_)
    go_ret2
    exact ⟨rfl, HB.out⟩
  · have HE : Hid (constantF f = (0, false)) := Lib.hid (by unfold constantF; rw [if_neg fun h => hc (hT ▸ (tail_zero hf).2 h)])
    rw [HE.out]
    rw [decide_eq_false hc, zvec] at e1
    clear hf h0 hb hT hc x0
    go_enter Try.func20, Try.ntmps20
    go_upto_region 1 with fail
    rw [← hW]
    clear hW
    go_wp2_with (refine ld_tail HTD.out HX.out HFL.out rfl rfl rfl ?_)
    go_ret2
    exact ⟨rfl, HB.out⟩

/-! ### Single -/
/-- The first place, from i on, where there is a 1; -1, if there is none. -/
def oneN (A : Nat → Nat) (i : Nat) : Nat → Int
  | 0 => -1
  | n + 1 => if A i = 1 then (i : Int) else oneN A (i + 1) n
theorem one_is (A : Nat → Nat) : ∀ n i, (oneN A i n = -1 ∧ ∀ j, i ≤ j → j < i + n → ¬ A j = 1) ∨ ∃ j : Nat, oneN A i n = j ∧ i ≤ j ∧ j < i + n ∧ A j = 1 ∧ ∀ m, i ≤ m → m < j → ¬ A m = 1
  | 0, i => .inl ⟨rfl, fun j h1 h2 => by omega⟩
  | n + 1, i => by
    unfold oneN
    by_cases h : A i = 1
    · rw [if_pos h]
      exact .inr ⟨i, rfl, by omega, by omega, h, fun m h1 h2 => by omega⟩
    · rw [if_neg h]
      rcases one_is A n (i + 1) with ⟨h1, h2⟩ | ⟨j, h1, h2, h3, h4, h5⟩
      · refine .inl ⟨h1, fun j h3 h4 => ?_⟩
        rcases Nat.lt_or_eq_of_le h3 with h5 | rfl
        · exact h2 j h5 (by omega)
        · exact h
      · refine .inr ⟨j, h1, by omega, by omega, h4, fun m h6 h7 => ?_⟩
        rcases Nat.lt_or_eq_of_le h6 with h8 | rfl
        · exact h5 m h8 h7
        · exact h
theorem sindex_any (u : Value) (n : Nat) (A : Nat → Nat) (w : World) (h : UAt w u n A) (hn : n < 9223372036854775808) : Calls Try.prog 29 #[u, .int .u32 1] w fun e w' => e = .returned (.int .i64 (oneN A 0 n)) ∧ Below w.heap.size w w' := by
  obtain ⟨b, o, cap, rfl, hl, hc⟩ := h
  have HC := Lib.hid hc
  obtain ⟨R, hR⟩ : ∃ R, R = oneN A 0 n := ⟨_, rfl⟩
  rw [← hR]
  have HR := Lib.hid hR
  clear hc hR
  go_enter Try.func29, Try.ntmps29
  go_wp2_with fail
  go_loopw [5, 8] (fun _ i wr => ∃ k : Nat, k ≤ n ∧ i = .int .i64 k ∧ Hid (R = oneN A k (n - k)) ∧ wr = w) (fun _ i _ => n - (intOf i).toNat)
  case atStart => exact ⟨0, Nat.zero_le _, rfl, HR, rfl⟩
  case round =>
    obtain ⟨k, hk, rfl, HK, rfl⟩ := hrel
    by_cases hlt : k < n
    · have x1 := HC.out k hlt
      have l0 : (k : Int) < (n : Int) := by omega
      have HS : Hid (oneN A k (n - k) = if A k = 1 then (k : Int) else oneN A (k + 1) (n - (k + 1))) := Lib.hid (by
        obtain ⟨m, hm⟩ : ∃ m, n - k = m + 1 := ⟨n - k - 1, by omega⟩
        rw [hm, show n - (k + 1) = m by omega]
        rfl)
      obtain ⟨X, hX⟩ : ∃ X, X = A k := ⟨_, rfl⟩
      rw [← hX] at x1 HS
      clear hX
      by_cases h1 : X = 1
      · have HE : Hid (R = (k : Int)) := Lib.hid (by rw [HK.out, HS.out, if_pos h1])
        have g1 : ((1 : Int) == (X : Int)) = true := by simp [h1]
        clear HS h1
        go_wp2_with fail
        go_ret
        exact ⟨by rw [HE.out]; rfl, Below.refl _ _⟩
      · have HE : Hid (R = oneN A (k + 1) (n - (k + 1))) := Lib.hid (by rw [HK.out, HS.out, if_neg h1])
        have g1 : ((1 : Int) == (X : Int)) = false := by simp; omega
        clear HS h1
        go_wp2_with fail
        go_roundw
        case rel => exact ⟨k + 1, by omega, by go_num, HE, trivial⟩
        case measure => simp [intOf]; omega
    · obtain rfl : k = n := by omega
      have HE : Hid (R = -1) := Lib.hid (by rw [HK.out, Nat.sub_self]; rfl)
      have hnl : decide ((k : Int) < (k : Int)) = false := by simp
      go_wp2_with fail
      go_ret
      exact ⟨by rw [HE.out]; rfl, Below.refl _ _⟩
theorem var_one (m i : Nat) (hi : i < 34) : mAt (varF m) (i + 1) = if i = m then 1 else 0 := by
  rw [varF, formOf_at (by omega)]
  by_cases h : i = m
  · rw [if_pos h, if_pos (by omega)]
  · rw [if_neg h, if_neg (by omega)]
set_option maxHeartbeats 1000000 in
theorem asingle_any (f : List Nat) (w : World) (hf : FOk f) : Calls Try.prog 21 #[formV f] w fun e w' => e = .returned (.tuple #[.int .i64 ((singleF f).getD 0 : Nat), .bool (singleF f).isSome]) ∧ Below w.heap.size w w' := by
  obtain ⟨S, hS⟩ : ∃ S, S = singleF f := ⟨_, rfl⟩
  rw [← hS]
  have h0 := heap_alloc_new w (formB f)
  have hb := ba (formB f) (Below.refl w.heap.size w)
  obtain ⟨W, hW⟩ : ∃ W, W = w.alloc (formB f) := ⟨_, rfl⟩
  rw [← hW] at h0 hb
  have hU : UAt W (.slice (some ⟨w.heap.size, 1, none⟩) 34 34) 34 (fun i => mAt f (i + 1)) := ⟨_, 1, 34, rfl, lt_of_block h0, fun i hi => by rw [cell_in h0, numsC_at (by rw [hf.1]; omega), Nat.add_comm]⟩
  have HI := Lib.hid (sindex_any _ 34 _ W hU (by omega))
  have HX := Lib.hid h0
  have HB := Lib.hid hb
  have HF := Lib.hid hf
  clear h0 hb hU hf
  go_enter Try.func21, Try.ntmps21
  go_upto_region 1 with fail
  rw [← hW]
  clear hW
  go_wp2_with fail
  refine HI.out.mono ?_
  rintro e w1 ⟨rfl, hb1⟩
  have HB1 := Lib.hid (below2 HB.out hb1)
  have HX1 := Lib.hid (kb hb1 HX.out)
  clear hb1 HI HX HB
  rcases one_is (fun i => mAt f (i + 1)) 34 0 with ⟨hR, hN⟩ | ⟨j, hR, _, hj, h1, h2⟩
  · have HE : Hid (S = none) := Lib.hid (hS.trans (single_none fun m hm e => hN m (by omega) (by omega) (by rw [e, var_one m m hm, if_pos rfl])))
    rw [hR]
    clear hN hR hS
    have HL := Lib.hid ((constF_ok (c := 0) (by omega)).1)
    go_wp2_with fail
    refine (avar_out (-1) _ (by omega)).mono ?_
    rintro e w2 ⟨rfl, hb2⟩
    have HB2 := Lib.hid (below2 HB1.out hb2)
    have hs := HB2.out.size
    clear hb2
    go_wp2_with (refine st_form (heap_alloc_new _ _) rfl HL.out rfl rfl rfl rfl ?_; intro W2 hp2; have HP2 := Lib.hid hp2; clear hp2)
    go_ret2
    exact ⟨by rw [HE.out]; rfl, HP2.out.below (ba _ HB2.out) hs⟩
  · rw [hR]
    obtain ⟨G, hG⟩ : ∃ G, G = varF j := ⟨_, rfl⟩
    have HG : Hid (FOk G) := Lib.hid (hG ▸ varF_ok j)
    have e1 := eqIn_form HF.out HG.out
    have hj' : j < 34 := by omega
    by_cases hfg : f = G
    · have HE : Hid (S = some j) := Lib.hid (hS.trans (single_some hj' (hfg.trans hG)))
      rw [decide_eq_true hfg] at e1
      clear hfg h1 h2 hR hS
      go_wp2_with fail
      refine (avar_in j _ hj').mono ?_
      rintro e w2 ⟨rfl, hb2⟩
      rw [← hG]
      clear hG
      have HB2 := Lib.hid (below2 HB1.out hb2)
      have HX2 := Lib.hid (ka (formB (constF 0)) (kb hb2 HX1.out))
      have hs := HB2.out.size
      have hl := lt_of_block (kb hb2 HX1.out)
      clear hb2
      go_wp2_with (first
        | (refine st_form (heap_alloc_new _ _) rfl HG.out.1 rfl rfl rfl rfl ?_; intro W2 hp2; have HP2 := Lib.hid hp2; clear hp2)
        | (refine ld_formg (HP2.out.keep (by omega) HX2.out) HF.out.1 rfl rfl rfl ?_)
        | (refine ld_formg HP2.out.row HG.out.1 rfl rfl rfl ?_))
      go_ret2
      exact ⟨by rw [HE.out]; rfl, HP2.out.below (ba _ HB2.out) hs⟩
    · have HE : Hid (S = none) := Lib.hid (hS.trans (single_none fun m _ e => hfg (by
        have e2 : j = m := by
          refine Classical.byContradiction fun h => ?_
          have e3 : mAt f (j + 1) = 1 := h1
          rw [e, var_one m j hj', if_neg h] at e3
          exact absurd e3 (by omega)
        rw [hG, e2]
        exact e)))
      rw [decide_eq_false hfg] at e1
      clear hfg h1 h2 hR hS
      go_wp2_with fail
      refine (avar_in j _ hj').mono ?_
      rintro e w2 ⟨rfl, hb2⟩
      rw [← hG]
      clear hG
      have HB2 := Lib.hid (below2 HB1.out hb2)
      have HX2 := Lib.hid (ka (formB (constF 0)) (kb hb2 HX1.out))
      have hs := HB2.out.size
      have hl := lt_of_block (kb hb2 HX1.out)
      clear hb2
      go_wp2_with (first
        | (refine st_form (heap_alloc_new _ _) rfl HG.out.1 rfl rfl rfl rfl ?_; intro W2 hp2; have HP2 := Lib.hid hp2; clear hp2)
        | (refine ld_formg (HP2.out.keep (by omega) HX2.out) HF.out.1 rfl rfl rfl ?_)
        | (refine ld_formg HP2.out.row HG.out.1 rfl rfl rfl ?_))
      go_ret2
      exact ⟨by rw [HE.out]; rfl, HP2.out.below (ba _ HB2.out) hs⟩

/-! ### Sub -/
theorem aneg_any (w : World) : Calls Try.prog 28 #[.int .u32 1] w fun e w' => e = .returned (.int .u32 4294967295) ∧ Below w.heap.size w w' := by
  have q : IntKind.u32.wrap (0 - 1) = 4294967295 := by rfl
  go_enter Try.func28, Try.ntmps28
  go_wp2_with fail
  go_ret
  exact ⟨rfl, Below.refl _ _⟩
theorem sub_is {f g : List Nat} (hg : FOk g) : addF f (mulF g 4294967295) = subF f g := by
  refine form_ext (addF_ok _ _).1 (subF_ok _ _).1 fun i hi => ?_
  rw [addF, formOf_at hi, mulF, formOf_at hi, subF, formOf_at hi]
  have := hg.lt i
  omega
set_option maxHeartbeats 1000000 in
theorem asub_any (f g : List Nat) (w : World) (hf : FOk f) (hg : FOk g) : Calls Try.prog 15 #[formV f, formV g] w fun e w' => e = .returned (formV (subF f g)) ∧ Below w.heap.size w w' := by
  obtain ⟨W, hW, h0, h1, h2, hb⟩ := box3 w (formB f) (formB g) (formB (constF 0))
  have HX := Lib.hid h0
  have HY := Lib.hid h1
  have HO := Lib.hid h2
  have HB := Lib.hid hb
  have hsz := lt_of_block h2
  have HF := Lib.hid hf
  have HG := Lib.hid hg
  have HM := Lib.hid (mulF_ok g 4294967295)
  have HR := Lib.hid (sub_is (f := f) hg)
  have HZ := Lib.hid (subF_ok f g).1
  clear hf hg h0 h1 h2 hb
  go_enter Try.func15, Try.ntmps15
  go_upto_region 1 with fail
  rw [zform, ← hW]
  clear hW
  refine wp_region_held_drew (S := fun V => Below (w.heap.size + 2) W V) (by kernel_rfl) (bdN (Below.refl _ _) 1) (fun hHeld => ?_)
  refine jheld_take (i := 0) (some 5) rfl rfl (by kernel_rfl) (by kernel_rfl) (by kernel_rfl) (fun _ _ _ h => h) (jyi_row (by rfl) (by rfl) (by rfl) (fun V hV => lv_form ((hV.block _ (by omega)).trans HX.out) HF.out.1)) hHeld ?_
  simp only [Act.put, List.setIfInBounds_toArray, List.set_cons_zero, List.set_cons_succ]
  refine jheld_take (i := 1) (some 6) rfl rfl (by kernel_rfl) (by kernel_rfl) (by kernel_rfl) (fun _ _ _ h => h) (jyi_row (by rfl) (by rfl) (by rfl) (fun V hV => lv_form ((hV.block _ (by omega)).trans HY.out) HG.out.1)) hHeld ?_
  simp only [Act.put, List.setIfInBounds_toArray, List.set_cons_zero, List.set_cons_succ]
  refine wpAnyH_ready (rs := [2]) (by kernel_rfl) (by simp) ?_
  refine AllReadyH.cons rfl (fun K hK => ?_) AllReadyH.nil
  go_simp
  refine (aneg_any _).mono ?_
  rintro e w2 ⟨rfl, hb2⟩
  go_simp
  refine hK.out _ _ (hHeld.trans (hb2.mono (Nat.le_of_lt (Nat.lt_of_lt_of_le hsz hHeld.size)))) (fun hHeld => ?_)
  clear hK K
  refine wpAnyH_ready (rs := [3]) (by kernel_rfl) (by simp) ?_
  refine AllReadyH.cons rfl (fun K hK => ?_) AllReadyH.nil
  go_simp
  refine (amul_any g 4294967295 _ HG.out (by omega)).mono ?_
  rintro e w3 ⟨rfl, hb3⟩
  go_simp
  refine hK.out _ _ (hHeld.trans (hb3.mono (Nat.le_of_lt (Nat.lt_of_lt_of_le hsz hHeld.size)))) (fun hHeld => ?_)
  clear hK K
  refine wpAnyH_ready (rs := [4]) (by kernel_rfl) (by simp) ?_
  refine AllReadyH.cons rfl (fun K hK => ?_) AllReadyH.nil
  go_simp
  refine (aadd_any f (mulF g 4294967295) _ HF.out HM.out).mono ?_
  rintro e w4 ⟨rfl, hb4⟩
  go_simp
  refine hK.out _ _ (hHeld.trans (hb4.mono (Nat.le_of_lt (Nat.lt_of_lt_of_le hsz hHeld.size)))) (fun hHeld => ?_)
  clear hK K
  refine wpAnyH_ready (rs := [5]) (by kernel_rfl) (by simp) ?_
  refine AllReadyH.cons rfl (fun K hK => ?_) AllReadyH.nil
  have hO : w4.heap[w.heap.size + 2]? = some (formB (constF 0)) := kb hb4 (kb hb3 (kb hb2 (show W.drew.heap[w.heap.size + 2]? = _ from HO.out)))
  refine wp_putf (f := subF f g) hO (by rfl) HZ.out (by rfl) (by rfl) (by rw [← HR.out]; rfl) ?_
  intro w5 hp5
  have HP5 := Lib.hid hp5
  refine hK.out _ _ (hp5.below hHeld (Nat.le_refl _)) (fun hHeld => ?_)
  clear hK K
  refine wpAnyH_done (by kernel_rfl) ?_ _
  go_wp2_with fail
  (try simp only [Exit.inBlock, Exit.then])
  exact bodyPost_ret (results_form rfl HZ.out rfl HP5.out.row) rfl ⟨rfl, (HB.out).trans (hHeld.mono (by omega))⟩

/-! ### Apart -/
theorem diff_at {f g : List Nat} {k : Nat} (hk : k < 34) (hA : ∀ j, j < k → mAt f (j + 1) = mAt g (j + 1)) (hx : ¬ mAt f (k + 1) = mAt g (k + 1)) : ∀ n i, i + n = 34 → i ≤ k → diffN f g i n = k
  | 0, i, hi, h => by omega
  | n + 1, i, hi, h => by
    unfold diffN
    rcases Nat.lt_or_eq_of_le h with h1 | rfl
    · rw [if_pos (hA i h1)]
      exact diff_at hk hA hx n (i + 1) (by omega) h1
    · rw [if_neg hx]
section
variable {o : Oper} {a : Act} {w : World} {K : Act → World → Prop} {Q : Exit → Act → World → Prop}
theorem wp_putr {g : Nat} {v : List Nat} {old : Array Value} {x y : Operand} (hG : w.heap[g]? = some (.cells old 23)) (hold : old.size = 34) (hv : v.length = 34) (ho : o.op = .store 23 x y) (hx : a.eval x = .pointer (some ⟨g, 0, none⟩)) (hy : a.eval y = formV v)
    (h : ∀ w', RowPut w w' g (rowB v) → K (a.put o.dst undef) w') : o.wp Try.prog a w K Q :=
  wp_store_row 23 x y ho g (numsC v) hx hy 23 old hG (by rw [numsC_size, hv]; exact infoV) (by rw [numsC_size, hv]; exact hold) (numsC_one v) (h _ (rowPut_set hG _))
end
set_option maxHeartbeats 4000000 in
theorem aapart_any (f g : List Nat) (w : World) (hf : FOk f) (hg : FOk g) : Calls Try.prog 26 #[formV f, formV g] w fun e w' => e = .returned (.tuple #[formV (apartF f g).1, .bool (apartF f g).2]) ∧ Below w.heap.size w w' := by
  obtain ⟨P, hP⟩ : ∃ P, P = apartF f g := ⟨_, rfl⟩
  rw [← hP]
  obtain ⟨W, hW, h0, h1, h2, h3, hb⟩ := box4 w (formB f) (formB g) (rowB zeros) (rowB zeros)
  have HX := Lib.hid h0
  have HY := Lib.hid h1
  have HO := Lib.hid h2
  have HV := Lib.hid h3
  have HB := Lib.hid hb
  have HF := Lib.hid hf
  have HG := Lib.hid hg
  have HFL := Lib.hid hf.1
  have HGL := Lib.hid hg.1
  have HP := Lib.hid hP
  obtain ⟨B, hB⟩ : ∃ B, B = decide (f = g) := ⟨_, rfl⟩
  have e1 : ∀ V : World, (Op.equalIn 10000 25 (formV f) (formV g)).run Try.prog V = .ok B V := fun V => by rw [eqIn_form hf hg, hB]
  have HS : Hid (P.2 = !B) := Lib.hid (by rw [hP, apart_snd, hB])
  clear hf hg h0 h1 h2 h3 hb hP hB
  go_enter Try.func26, Try.ntmps26
  go_upto_region 2 with fail
  rw [zrow, ← hW]
  clear hW
  go_wp2_with fail
  go_loopw [7, 8] (fun _ i wr => ∃ k : Nat, k ≤ 34 ∧ i = .int .i64 k ∧ (mAt f 0 = mAt g 0 → ∀ j, j < k → mAt f (j + 1) = mAt g (j + 1)) ∧ wr.heap[w.heap.size]? = some (formB f) ∧ wr.heap[w.heap.size + 1]? = some (formB g) ∧ wr.heap[w.heap.size + 2]? = some (rowB zeros) ∧ wr.heap[w.heap.size + 3]? = some (rowB zeros) ∧ Below w.heap.size w wr) (fun _ i _ => 34 - (intOf i).toNat)
  case atStart => exact ⟨0, by omega, rfl, fun _ j hj => by omega, HX.out, HY.out, HO.out, HV.out, HB.out⟩
  case round =>
    obtain ⟨k, hk, rfl, hA, hX, hY, hO, hV, hB⟩ := hrel
    have HA := Lib.hid hA
    have HFV := Lib.hid hX
    have HGV := Lib.hid hY
    have HOV := Lib.hid hO
    have HVV := Lib.hid hV
    have HBV := Lib.hid hB
    clear hA hO hV hB HX HY HO HV HB
    have x0 : wr.cell? ⟨w.heap.size, 0, none⟩ = some (.int .u32 (mAt f 0 : Nat)) := by rw [cell_in hX, numsC_at (by rw [HFL.out]; omega)]
    have y0 : wr.cell? ⟨w.heap.size + 1, 0, none⟩ = some (.int .u32 (mAt g 0 : Nat)) := by rw [cell_in hY, numsC_at (by rw [HGL.out]; omega)]
    by_cases hlt : k < 34
    · have x1 : wr.cell? ⟨w.heap.size, 1 + k, none⟩ = some (.int .u32 (mAt f (k + 1) : Nat)) := by rw [cell_in hX, numsC_at (by rw [HFL.out]; omega), Nat.add_comm]
      have y1 : wr.cell? ⟨w.heap.size + 1, 1 + k, none⟩ = some (.int .u32 (mAt g (k + 1) : Nat)) := by rw [cell_in hY, numsC_at (by rw [HGL.out]; omega), Nat.add_comm]
      clear hX hY
      obtain ⟨F, hF⟩ : ∃ F, F = mAt f 0 := ⟨_, rfl⟩
      obtain ⟨G, hG⟩ : ∃ G, G = mAt g 0 := ⟨_, rfl⟩
      obtain ⟨X, hX⟩ : ∃ X, X = mAt f (k + 1) := ⟨_, rfl⟩
      obtain ⟨Y, hY⟩ : ∃ Y, Y = mAt g (k + 1) := ⟨_, rfl⟩
      rw [← hF] at x0
      rw [← hG] at y0
      rw [← hX] at x1
      rw [← hY] at y1
      have HF0 := Lib.hid hF
      have HG0 := Lib.hid hG
      have HXk := Lib.hid hX
      have HYk := Lib.hid hY
      clear hF hG hX hY
      by_cases h0 : F = G
      · have g0 : ((F : Int) == (G : Int)) = true := by simp [h0]
        have h00 := Lib.hid h0
        by_cases h1 : X = Y
        · have g1 : ((X : Int) == (Y : Int)) = true := by simp [h1]
          have HXY := Lib.hid h1
          clear h0 h1 e1
          go_wp2_with (go_quiet (fail))
          go_roundw
          case rel => exact ⟨k + 1, by omega, by go_num, fun h j hj => by
            rcases Nat.lt_or_eq_of_le (Nat.le_of_lt_succ hj) with h2 | rfl
            · exact HA.out h j h2
            · rw [← HXk.out, ← HYk.out, HXY.out], HFV.out, HGV.out, HOV.out, HVV.out, bdN HBV.out _⟩
          case measure => simp [intOf]; omega
        · have g1 : ((X : Int) == (Y : Int)) = false := by simp; omega
          have HNE : Hid (¬ f = g) := Lib.hid fun h => h1 (by rw [HXk.out, HYk.out, h])
          have HE : Hid (P.1 = zeros.set k 1) := Lib.hid (by
            have e : mAt f 0 = mAt g 0 := by rw [← HF0.out, ← HG0.out, h00.out]
            rw [HP.out, apartF, if_neg HNE.out, if_pos e, diff_at hlt (HA.out e) (fun h => h1 (by rw [HXk.out, HYk.out, h])) 34 0 rfl (by omega)])
          obtain ⟨R, hR⟩ : ∃ R, R = zeros.set k 1 := ⟨_, rfl⟩
          have HRL : Hid (R.length = 34) := Lib.hid (by rw [hR]; exact (zset_ok k).1)
          rw [← hR] at HE
          have HRD := Lib.hid hR
          clear h0 h1 hR
          go_wp2_with (first
            | (go_quiet (fail))
            | (refine st_num (n := 1) (show _ = some (rowB zeros) from HVV.out) (by rw [zeros_ok.1]; omega) rfl rfl rfl rfl ?_; intro W2 hp2; have HP2 := Lib.hid hp2; clear hp2; rw [← HRD.out] at HP2))
          simp only [Act.put]
          have HFW := Lib.hid (HP2.out.keep (by omega) (show (wr.drewN nq).heap[w.heap.size]? = _ from HFV.out))
          have HGW := Lib.hid (HP2.out.keep (by omega) (show (wr.drewN nq).heap[w.heap.size + 1]? = _ from HGV.out))
          have HOW := Lib.hid (HP2.out.keep (by omega) (show (wr.drewN nq).heap[w.heap.size + 2]? = _ from HOV.out))
          have HVW := Lib.hid HP2.out.row
          have HBW := Lib.hid (HP2.out.below (bdN HBV.out nq) (by omega))
          clear HFV HGV HOV HVV HBV HP2
          refine wp_region_held_drew (S := fun V => V.heap[w.heap.size]? = some (formB f) ∧ V.heap[w.heap.size + 1]? = some (formB g) ∧ V.heap[w.heap.size + 3]? = some (rowB R)) (by kernel_rfl) ⟨HFW.out, HGW.out, HVW.out⟩ (fun hHeld => ?_)
          refine jheld_take (i := 0) (some 30) rfl rfl (by kernel_rfl) (by kernel_rfl) (by kernel_rfl) (fun _ _ _ h => h) (jyi_row (by rfl) (by rfl) (by rfl) (fun V hV => lv_row hV.2.2 HRL.out)) hHeld ?_
          simp only [Act.put, List.setIfInBounds_toArray, List.set_cons_zero, List.set_cons_succ]
          refine jheld_take (i := 1) (some 31) rfl rfl (by kernel_rfl) (by kernel_rfl) (by kernel_rfl) (fun _ _ _ h => h) (jyi_row (by rfl) (by rfl) (by rfl) (fun V hV => lv_form hV.1 HFL.out)) hHeld ?_
          simp only [Act.put, List.setIfInBounds_toArray, List.set_cons_zero, List.set_cons_succ]
          refine jheld_take (i := 2) (some 32) rfl rfl (by kernel_rfl) (by kernel_rfl) (by kernel_rfl) (fun _ _ _ h => h) (jyi_row (by rfl) (by rfl) (by rfl) (fun V hV => lv_form hV.2.1 HGL.out)) hHeld ?_
          simp only [Act.put, List.setIfInBounds_toArray, List.set_cons_zero, List.set_cons_succ]
          refine jheld_take (i := 3) (v := .bool (!B)) (some 33) rfl rfl (by kernel_rfl) (by kernel_rfl) (by kernel_rfl) (fun _ _ _ h => h) (.inl ⟨by rfl, fun V _ => by go_simp⟩) hHeld ?_
          simp only [Act.put, List.setIfInBounds_toArray, List.set_cons_zero, List.set_cons_succ]
          refine wpAnyH_ready (rs := [4]) (by kernel_rfl) (by simp) ?_
          refine AllReadyH.cons rfl (fun K hK => ?_) AllReadyH.nil
          refine wp_putr (v := R) (show _ = some (rowB zeros) from HOW.out) (by rfl) HRL.out (by rfl) (by rfl) (by rfl) ?_
          intro w5 hp5
          have HP5 := Lib.hid hp5
          refine hK.out _ _ ⟨hp5.keep (by omega) HFW.out, hp5.keep (by omega) HGW.out, hp5.keep (by omega) HVW.out⟩ (fun hHeld => ?_)
          clear hK K hp5
          refine wpAnyH_ready (rs := [5]) (by kernel_rfl) (by simp) ?_
          refine AllReadyH.cons rfl (fun K hK => ?_) AllReadyH.nil
          go_simp
          refine hK.out _ _ hHeld (fun _ => ?_)
          clear hK K
          refine wpAnyH_done (by kernel_rfl) ?_ _
          go_wp2_with fail
          (try simp only [Exit.inBlock, Exit.then])
          exact bodyPost_ret (results_rowb rfl HRL.out rfl rfl HP5.out.row) rfl ⟨by rw [HE.out, HS.out]; rfl, HP5.out.below (bdN HBW.out 1) (by omega)⟩
      · have g0 : ((F : Int) == (G : Int)) = false := by simp; omega
        have h00 := Lib.hid h0
        clear h0 e1
        go_wp2_with (go_quiet (fail))
        go_roundw
        case rel => exact ⟨k + 1, by omega, by go_num, fun h => absurd (by rw [HF0.out, HG0.out, h]) h00.out, HFV.out, HGV.out, HOV.out, HVV.out, bdN HBV.out _⟩
        case measure => simp [intOf]; omega
    · obtain rfl : k = 34 := by omega
      obtain ⟨R, hR⟩ : ∃ R, R = zeros := ⟨_, rfl⟩
      have HE : Hid (P.1 = R) := Lib.hid (by
        rw [HP.out, hR, apartF]
        by_cases h : f = g
        · rw [if_pos h]
        · rw [if_neg h]
          by_cases h0 : mAt f 0 = mAt g 0
          · exact absurd (form_ext HFL.out HGL.out fun i hi => match i, hi with
              | 0, _ => h0
              | j + 1, hj => HA.out h0 j (by omega)) h
          · rw [if_neg h0])
      have HRL : Hid (R.length = 34) := Lib.hid (by rw [hR]; exact zeros_ok.1)
      have HVR : Hid (wr.heap[w.heap.size + 3]? = some (rowB R)) := Lib.hid (by rw [hR]; exact HVV.out)
      clear hR x0 y0 HVV hX hY
      go_upto_region 8 with fail
      refine wp_region_held_drew (S := fun V => V.heap[w.heap.size]? = some (formB f) ∧ V.heap[w.heap.size + 1]? = some (formB g) ∧ V.heap[w.heap.size + 3]? = some (rowB R)) (by kernel_rfl) ⟨HFV.out, HGV.out, HVR.out⟩ (fun hHeld => ?_)
      refine jheld_take (i := 0) (some 30) rfl rfl (by kernel_rfl) (by kernel_rfl) (by kernel_rfl) (fun _ _ _ h => h) (jyi_row (by rfl) (by rfl) (by rfl) (fun V hV => lv_row hV.2.2 HRL.out)) hHeld ?_
      simp only [Act.put, List.setIfInBounds_toArray, List.set_cons_zero, List.set_cons_succ]
      refine jheld_take (i := 1) (some 31) rfl rfl (by kernel_rfl) (by kernel_rfl) (by kernel_rfl) (fun _ _ _ h => h) (jyi_row (by rfl) (by rfl) (by rfl) (fun V hV => lv_form hV.1 HFL.out)) hHeld ?_
      simp only [Act.put, List.setIfInBounds_toArray, List.set_cons_zero, List.set_cons_succ]
      refine jheld_take (i := 2) (some 32) rfl rfl (by kernel_rfl) (by kernel_rfl) (by kernel_rfl) (fun _ _ _ h => h) (jyi_row (by rfl) (by rfl) (by rfl) (fun V hV => lv_form hV.2.1 HGL.out)) hHeld ?_
      simp only [Act.put, List.setIfInBounds_toArray, List.set_cons_zero, List.set_cons_succ]
      refine jheld_take (i := 3) (v := .bool (!B)) (some 33) rfl rfl (by kernel_rfl) (by kernel_rfl) (by kernel_rfl) (fun _ _ _ h => h) (.inl ⟨by rfl, fun V _ => by go_simp⟩) hHeld ?_
      simp only [Act.put, List.setIfInBounds_toArray, List.set_cons_zero, List.set_cons_succ]
      refine wpAnyH_ready (rs := [4]) (by kernel_rfl) (by simp) ?_
      refine AllReadyH.cons rfl (fun K hK => ?_) AllReadyH.nil
      refine wp_putr (v := R) (show _ = some (rowB zeros) from HOV.out) (by rfl) HRL.out (by rfl) (by rfl) (by rfl) ?_
      intro w5 hp5
      have HP5 := Lib.hid hp5
      refine hK.out _ _ ⟨hp5.keep (by omega) HFV.out, hp5.keep (by omega) HGV.out, hp5.keep (by omega) HVR.out⟩ (fun hHeld => ?_)
      clear hK K hp5
      refine wpAnyH_ready (rs := [5]) (by kernel_rfl) (by simp) ?_
      refine AllReadyH.cons rfl (fun K hK => ?_) AllReadyH.nil
      go_simp
      refine hK.out _ _ hHeld (fun _ => ?_)
      clear hK K
      refine wpAnyH_done (by kernel_rfl) ?_ _
      go_wp2_with fail
      (try simp only [Exit.inBlock, Exit.then])
      exact bodyPost_ret (results_rowb rfl HRL.out rfl rfl HP5.out.row) rfl ⟨by rw [HE.out, HS.out]; rfl, HP5.out.below (bdN HBV.out 1) (by omega)⟩
end Go.Proofs.Ytkfhmcpdodnbhaa
/-
  Package hurdlelaw14: As, row.
-/
namespace Go.Proofs.Ytkfhmcpdodnbhaa
open Go.ChangeShapes Go.WideShapes Go.ChangeAt Go.RowKit
set_option maxRecDepth 100000

set_option maxHeartbeats 4000000 in
theorem as_any (f : List Nat) (w : World) (hf : f.length = 35) :
    Calls Try.prog 11 #[formV f] w fun e w' => ∃ v, e = .returned v ∧ RF w' v f ∧ Below w.heap.size w w' := by
  obtain ⟨i0, hi, hz0, hz1, hz2⟩ := info_parts infoN
  obtain ⟨W, hW, h0, h1, h2, hb⟩ := box3 w (formB f) (.cells #[.int .u32 0, .slice none 0 0] 32) (rfB (mAt f 0) (.slice none 0 0))
  have h2 : W.heap[w.heap.size + 1 + 1]? = some (rfB (mAt f 0) (.slice none 0 0)) := h2
  have HX1 := Lib.hid h0
  have HR := Lib.hid h1
  have HO := Lib.hid h2
  have HB := Lib.hid hb
  have hsz : w.heap.size + 1 + 1 < W.heap.size := lt_of_block h2
  have x0 : (w.alloc (formB f)).cell? ⟨w.heap.size, 0, none⟩ = some (.int .u32 (mAt f 0 : Nat)) := (cell_in (heap_alloc_new _ _) 0).trans (numsC_at (by omega))
  have x0' : ((w.alloc (formB f)).alloc (.cells #[.int .u32 0, .slice none 0 0] 32)).cell? ⟨w.heap.size, 0, none⟩ = some (.int .u32 (mAt f 0 : Nat)) := (cell_in (ka _ (heap_alloc_new _ _)) 0).trans (numsC_at (by omega))
  clear h0 h1 h2 hb
  go_enter Try.func11, Try.ntmps11
  go_upto_region 2 with fail
  rw [← hW]
  clear hW x0 x0'
  go_wp2_with fail
  obtain ⟨A, hA⟩ : ∃ A : Nat → Nat, ∀ i, A i = mAt f (i + 1) := ⟨_, fun _ => rfl⟩
  go_loopw [4] (fun i wr => ∃ (k : Nat) (u : Value), k ≤ 34 ∧ i = .int .i64 k ∧ wr.heap[w.heap.size]? = some (formB f) ∧ wr.heap[w.heap.size + 1]? = some (.cells #[.int .u32 0, .slice none 0 0] 32) ∧ W.heap.size ≤ wr.heap.size ∧ Made w wr W.heap.size (w.heap.size + 1 + 1) (mAt f 0) A k u) (fun i _ => 34 - (intOf i).toNat)
  case atStart => exact ⟨0, _, by omega, rfl, HX1.out, HR.out, Nat.le_refl _, ⟨HO.out, by simpa [segA, ucells] using World.ownsRow_nil _ _ _ _, HB.out⟩⟩
  case round =>
    clear HX1 HR HO HB
    obtain ⟨k, u, hk, rfl, g1, g3, hsr, hM⟩ := hrel
    have HX1 := Lib.hid g1
    have HR := Lib.hid g3
    have HM := Lib.hid hM
    by_cases hlt : k < 34
    · have xO : wr.cell? ⟨w.heap.size + 1 + 1, 1, none⟩ = some u := cell_in hM.block 1
      have x3 : wr.cell? ⟨w.heap.size, 1 + k, none⟩ = some (.int .u32 (A k : Nat)) := (cell_in g1 _).trans (by rw [numsC_at (by omega), hA, Nat.add_comm])
      obtain ⟨Z, hZ⟩ : ∃ Z, Z = A k := ⟨_, rfl⟩
      rw [← hZ] at x3
      have HZ2 := Lib.hid hZ
      clear g1 g3 hM hZ
      have sF : w.heap.size < W.heap.size := by omega
      go_upto_region 5 with fail
      refine wp_region_held_drew (S := fun V => V.cell? ⟨w.heap.size, 1 + k, none⟩ = some (.int .u32 (Z : Int))) (by kernel_rfl) x3 (fun hHeld => ?_)
      refine jheld_take (i := 0) (v := .pointer (some ⟨w.heap.size + 1 + 1, 1, none⟩)) (some 12) rfl rfl (by kernel_rfl) (by kernel_rfl) (by kernel_rfl) (fun _ _ _ h => h) (.inl ⟨by rfl, fun V hV => by go_simp⟩) hHeld ?_
      simp only [Act.put, List.setIfInBounds_toArray, List.set_cons_zero, List.set_cons_succ]
      refine jheld_take (i := 2) (v := .int .i64 (k : Int)) (some 14) rfl rfl (by kernel_rfl) (by kernel_rfl) (by kernel_rfl) (fun _ _ _ h => h) (.inl ⟨by rfl, fun V hV => by go_simp⟩) hHeld ?_
      simp only [Act.put, List.setIfInBounds_toArray, List.set_cons_zero, List.set_cons_succ]
      refine jheld_take (i := 3) (v := .pointer (some ⟨w.heap.size, 1, none⟩)) (some 15) rfl rfl (by kernel_rfl) (by kernel_rfl) (by kernel_rfl) (fun _ _ _ h => h) (.inl ⟨by rfl, fun V hV => by go_simp⟩) hHeld ?_
      simp only [Act.put, List.setIfInBounds_toArray, List.set_cons_zero, List.set_cons_succ]
      refine jheld_take (i := 4) (v := .pointer (some ⟨w.heap.size, 1 + k, none⟩)) (some 16) rfl rfl (by kernel_rfl) (by kernel_rfl) (by kernel_rfl) (fun _ _ _ h => h) (.inl ⟨by rfl, fun V hV => by go_simp⟩) hHeld ?_
      simp only [Act.put, List.setIfInBounds_toArray, List.set_cons_zero, List.set_cons_succ]
      refine jheld_take (i := 5) (v := .int .u32 (Z : Int)) (some 17) rfl rfl (by kernel_rfl) (by kernel_rfl) (by kernel_rfl) (fun _ _ _ h => h) (.inl ⟨by rfl, fun V hV => by go_simp⟩) hHeld ?_
      simp only [Act.put, List.setIfInBounds_toArray, List.set_cons_zero, List.set_cons_succ]
      have hV := ka (.cells #[.int .u32 (Z : Int)] 22) HM.out.block
      have xO2 : (wr.alloc (.cells #[.int .u32 (Z : Int)] 22)).cell? ⟨w.heap.size + 1 + 1, 1, none⟩ = some u := cell_in hV 1
      have hbV : Below W.heap.size wr (wr.alloc (.cells #[.int .u32 (Z : Int)] 22)).drew := ((Below.refl W.heap.size wr).alloc hsr _).drew
      have HS1 := Lib.hid ((hbV.cell (p := ⟨w.heap.size, 1 + k, none⟩) sF).trans x3)
      have HVB := Lib.hid hbV
      have hVs : W.heap.size ≤ (wr.alloc (.cells #[.int .u32 (Z : Int)] 22)).drew.heap.size := Nat.le_trans hsr hbV.size
      clear hV hbV
      refine wpAnyH_ready (rs := [1, 6]) (by kernel_rfl) (by simp) ?_
      refine AllReadyH.cons rfl (fun K hK => ?_) (AllReadyH.cons rfl (fun K hK => ?_) AllReadyH.nil)
      · go_simp
        refine hK.out _ _ hHeld (fun hHeld => ?_)
        clear hK K
        refine wpAnyH_ready (rs := [6]) (by kernel_rfl) (by simp) ?_
        refine AllReadyH.cons rfl (fun K hK => ?_) AllReadyH.nil
        go_simp
        refine hK.out _ _ HS1.out (fun hHeld => ?_)
        clear hK K
        refine wpAnyH_ready (rs := [7]) (by kernel_rfl) (by simp) ?_
        refine AllReadyH.cons rfl (fun K hK => ?_) AllReadyH.nil
        refine step_append_src _ (by rfl) _ _ 30 (by rfl) W.heap.size 22 i0 (.int .u32 0) 1 4 Try.underlying30 hi hz0 hz1 hz2 (by rfl) (by decide) u k (ucells (segA A k)) (by rfl) (HM.out.row.alloc _).drew _ 1 [.int .u32 (Z : Int)] (by rfl) (src_new _ _ _) (one_int _) (by unfold maxLen; omega) (by omega) hVs ?_
        intro u13 w13 hO13 hg13
        have hB13 := grown_below HVB.out (HM.out.row.alloc (.cells #[.int .u32 (Z : Int)] 22)).drew hg13 hVs
        obtain ⟨ao13, cap13, hu13⟩ := own_shape hO13
        subst hu13
        have HXO := Lib.hid ((hB13.block _ hsz).trans HM.out.block)
        have aO : w13.cell? ⟨w.heap.size + 1 + 1, 1, none⟩ = some u := cell_in HXO.out 1
        have hfO := free_in HXO.out 1
        have HS2 := Lib.hid ((hB13.cell (p := ⟨w.heap.size, 1 + k, none⟩) sF).trans x3)
        refine hK.out _ _ HS2.out (fun hHeld => ?_)
        clear hK K hHeld
        refine wpAnyH_ready (rs := [8]) (by kernel_rfl) (by simp) ?_
        refine AllReadyH.cons rfl (fun K hK => ?_) AllReadyH.nil
        go_simp
        refine hK.out _ _ HS2.out (fun hHeld => ?_)
        clear hK K hHeld
        refine wpAnyH_ready (rs := [9]) (by kernel_rfl) (by simp) ?_
        refine AllReadyH.cons rfl (fun K hK => ?_) AllReadyH.nil
        go_simp
        have hp := rf_put (v := .slice ao13 (k + 1) cap13) HXO.out
        have hO3 := ownsRow_setCell_below (a := ⟨w.heap.size + 1 + 1, 1, none⟩) hO13 hsz (.slice ao13 (k + 1) cap13)
        obtain ⟨V3, hV3⟩ : ∃ V3, V3 = w13.setCell ⟨w.heap.size + 1 + 1, 1, none⟩ (.slice ao13 (k + 1) cap13) := ⟨_, rfl⟩
        rw [← hV3] at hp hO3 ⊢
        have HO3 : Hid (V3.ownsRow W.heap.size 22 1 (.slice ao13 (k + 1) cap13) (k + 1) (ucells (segA A (k + 1)))) := Lib.hid (by
          rw [segA_succ, ucells_app, ← HZ2.out]
          exact hO3)
        have HP3 := Lib.hid hp
        have HM3 := Lib.hid (hp.below (HM.out.below.trans (hB13.mono (by omega))) (by omega))
        have HX13 := Lib.hid (hp.keep (by omega) ((hB13.block _ sF).trans HX1.out))
        have HR3 := Lib.hid (hp.keep (by omega) ((hB13.block _ (show w.heap.size + 1 < W.heap.size by omega)).trans HR.out))
        have hs3 : W.heap.size ≤ V3.heap.size := by rw [hp.size]; exact Nat.le_trans hsr hB13.size
        refine hK.out _ _ ((rp_cell hp (by first | (simp; done) | (simp; omega))).trans HS2.out) (fun hHeld => ?_)
        clear hK K hHeld hp hO3 hV3 hO13 hg13 hB13 aO hfO x3 xO xO2
        refine wpAnyH_done (by kernel_rfl) ?_ _
        go_wp2_with fail
        go_roundw
        case rel => exact ⟨k + 1, _, by omega, by go_num, HX13.out, HR3.out, hs3, ⟨HP3.out.row, HO3.out, HM3.out⟩⟩
        case measure => simp [intOf]; omega
      · go_simp
        refine hK.out _ _ HS1.out (fun hHeld => ?_)
        clear hK K
        refine wpAnyH_ready (rs := [1]) (by kernel_rfl) (by simp) ?_
        refine AllReadyH.cons rfl (fun K hK => ?_) AllReadyH.nil
        go_simp
        refine hK.out _ _ HS1.out (fun hHeld => ?_)
        clear hK K
        refine wpAnyH_ready (rs := [7]) (by kernel_rfl) (by simp) ?_
        refine AllReadyH.cons rfl (fun K hK => ?_) AllReadyH.nil
        refine step_append_src _ (by rfl) _ _ 30 (by rfl) W.heap.size 22 i0 (.int .u32 0) 1 4 Try.underlying30 hi hz0 hz1 hz2 (by rfl) (by decide) u k (ucells (segA A k)) (by rfl) (HM.out.row.alloc _).drew _ 1 [.int .u32 (Z : Int)] (by rfl) (src_new _ _ _) (one_int _) (by unfold maxLen; omega) (by omega) hVs ?_
        intro u13 w13 hO13 hg13
        have hB13 := grown_below HVB.out (HM.out.row.alloc (.cells #[.int .u32 (Z : Int)] 22)).drew hg13 hVs
        obtain ⟨ao13, cap13, hu13⟩ := own_shape hO13
        subst hu13
        have HXO := Lib.hid ((hB13.block _ hsz).trans HM.out.block)
        have aO : w13.cell? ⟨w.heap.size + 1 + 1, 1, none⟩ = some u := cell_in HXO.out 1
        have hfO := free_in HXO.out 1
        have HS2 := Lib.hid ((hB13.cell (p := ⟨w.heap.size, 1 + k, none⟩) sF).trans x3)
        refine hK.out _ _ HS2.out (fun hHeld => ?_)
        clear hK K hHeld
        refine wpAnyH_ready (rs := [8]) (by kernel_rfl) (by simp) ?_
        refine AllReadyH.cons rfl (fun K hK => ?_) AllReadyH.nil
        go_simp
        refine hK.out _ _ HS2.out (fun hHeld => ?_)
        clear hK K hHeld
        refine wpAnyH_ready (rs := [9]) (by kernel_rfl) (by simp) ?_
        refine AllReadyH.cons rfl (fun K hK => ?_) AllReadyH.nil
        go_simp
        have hp := rf_put (v := .slice ao13 (k + 1) cap13) HXO.out
        have hO3 := ownsRow_setCell_below (a := ⟨w.heap.size + 1 + 1, 1, none⟩) hO13 hsz (.slice ao13 (k + 1) cap13)
        obtain ⟨V3, hV3⟩ : ∃ V3, V3 = w13.setCell ⟨w.heap.size + 1 + 1, 1, none⟩ (.slice ao13 (k + 1) cap13) := ⟨_, rfl⟩
        rw [← hV3] at hp hO3 ⊢
        have HO3 : Hid (V3.ownsRow W.heap.size 22 1 (.slice ao13 (k + 1) cap13) (k + 1) (ucells (segA A (k + 1)))) := Lib.hid (by
          rw [segA_succ, ucells_app, ← HZ2.out]
          exact hO3)
        have HP3 := Lib.hid hp
        have HM3 := Lib.hid (hp.below (HM.out.below.trans (hB13.mono (by omega))) (by omega))
        have HX13 := Lib.hid (hp.keep (by omega) ((hB13.block _ sF).trans HX1.out))
        have HR3 := Lib.hid (hp.keep (by omega) ((hB13.block _ (show w.heap.size + 1 < W.heap.size by omega)).trans HR.out))
        have hs3 : W.heap.size ≤ V3.heap.size := by rw [hp.size]; exact Nat.le_trans hsr hB13.size
        refine hK.out _ _ ((rp_cell hp (by first | (simp; done) | (simp; omega))).trans HS2.out) (fun hHeld => ?_)
        clear hK K hHeld hp hO3 hV3 hO13 hg13 hB13 aO hfO x3 xO xO2
        refine wpAnyH_done (by kernel_rfl) ?_ _
        go_wp2_with fail
        go_roundw
        case rel => exact ⟨k + 1, _, by omega, by go_num, HX13.out, HR3.out, hs3, ⟨HP3.out.row, HO3.out, HM3.out⟩⟩
        case measure => simp [intOf]; omega
    · obtain rfl : k = 34 := by omega
      go_wp2_with (first
        | (refine ld_rf HM.out.block rfl rfl rfl ?_)
        | (refine st_rf HR.out rfl (by obtain ⟨a, c, h⟩ := own_shape HM.out.row; rw [h]; rfl) rfl rfl rfl rfl ?_; intro W2 hp2; have HP2 := Lib.hid hp2; clear hp2))
      (try simp only [Exit.inBlock, Exit.then])
      refine bodyPost_ret (results_rf rfl rfl HP2.out.row) rfl ⟨_, rfl, ⟨_, rfl, ?_⟩, HP2.out.below HM.out.below (by omega)⟩
      exact (UAt.own (ownsRow_put HM.out.row HP2.out (by omega)) (by omega)).congr fun i _ => hA i
theorem row_any (v : List Nat) (w : World) (hv : v.length = 34) :
    Calls Try.prog 25 #[formV v] w fun e w' => ∃ u, e = .returned u ∧ UAt w' u 34 (mAt v) ∧ Below w.heap.size w w' := by
  obtain ⟨i0, hi, hz0, hz1, hz2⟩ := info_parts infoN
  have h0 := heap_alloc_new w (rowB v)
  have hb := ba (rowB v) (Below.refl w.heap.size w)
  obtain ⟨W, hW⟩ : ∃ W, W = w.alloc (rowB v) := ⟨_, rfl⟩
  rw [← hW] at h0 hb
  have HX := Lib.hid h0
  have HB := Lib.hid hb
  clear h0 hb
  go_enter Try.func25, Try.ntmps25
  go_upto_region 1 with fail
  rw [← hW]
  clear hW
  go_wp2_with fail
  go_loopw [3, 4] (fun u i wr => ∃ k : Nat, k ≤ 34 ∧ i = .int .i64 k ∧ wr.ownsRow W.heap.size 22 1 u k (ucells (segA (mAt v) k)) ∧ Below W.heap.size W wr) (fun _ i _ => 34 - (intOf i).toNat)
  case atStart => exact ⟨0, by omega, rfl, by simpa [segA, ucells] using World.ownsRow_nil _ _ _ _, Below.refl _ _⟩
  case round =>
    obtain ⟨k, hk, rfl, hO, hB⟩ := hrel
    have HO := Lib.hid hO
    have HBr := Lib.hid hB
    have hbw := hB.size
    have x3 : wr.cell? ⟨w.heap.size, k, none⟩ = _ := (cell_in (kb hB HX.out) k)
    clear hO hB
    by_cases hlt : k < 34
    · rw [numsC_at (by omega)] at x3
      obtain ⟨Z, hZ⟩ : ∃ Z, Z = mAt v k := ⟨_, rfl⟩
      rw [← hZ] at x3
      have HZ := Lib.hid hZ
      clear hZ
      go_wp2_with (at_builtin; refine wpList_append_own _ rfl _ _ 30 rfl W.heap.size 22 i0 (.int .u32 0) 1 4 Try.underlying30 hi hz0 hz1 hz2 rfl (by decide) _ _ _ rfl (HO.out.alloc _) ⟨wr.heap.size, 0, none⟩ 1 1 [.int .u32 (Z : Int)] rfl rfl (new_at wr #[.int .u32 (Z : Int)] 22) (one_int _) (by unfold maxLen; omega) (by omega) (by rw [size_alloc]; omega) ?_)
      intro v2 w2 hown2 hgrow2 _
      have HB2 := Lib.hid (grown_below (HBr.out.alloc hbw (.cells #[.int .u32 (Z : Int)] 22)) (HO.out.alloc _) hgrow2 (by rw [size_alloc]; omega))
      have HO2 : Hid (w2.ownsRow W.heap.size 22 1 v2 (k + 1) (ucells (segA (mAt v) (k + 1)))) := Lib.hid (by
        rw [segA_succ, ucells_app, ← HZ.out]
        exact hown2)
      clear hgrow2 hown2 HO HBr x3
      go_wp2_with fail
      go_roundw
      case rel => exact ⟨k + 1, by omega, by go_num, HO2.out, HB2.out⟩
      case measure => simp [intOf]; omega
    · obtain rfl : k = 34 := by omega
      clear x3
      go_wp2_with fail
      go_ret
      exact ⟨_, rfl, UAt.own HO.out (by omega), below2 HB.out HBr.out⟩
end Go.Proofs.Ytkfhmcpdodnbhaa
/-
  What is the same for every law: what is owed once the call is known to return true and to leave all that was there as it was.
-/
namespace Go.Proofs.Ytkfhmcpdodnbhaa
open Go.ChangeShapes Go.WideShapes Go.ChangeAt Go.RowKit

section
variable {H : Type} {enc : TypeId × Value → H} {P : Program}
/-- Arguments read in a world that has only grown as they read before. -/
theorem args_stay (hl : laidOutB P = true) {W W' : World} (hb : Below W.heap.size W W') :
    ∀ (ts : List TypeId) (vs : List Value) (ds : List (DataW H)) (ps : List MemPlace), (∀ t ∈ ts, P.readableRec t = true ∧ t < P.types.size) → (∀ x ∈ ps, x.block < W.heap.size) →
      DataW.TrodAll enc P W 0 (fun _ => true) true ts vs ds ps → DataW.TrodAll enc P W' 0 (fun b => decide (b < W.heap.size)) true ts vs ds ps
  | [], _, _, _, _, _, h => by
    obtain ⟨rfl, rfl, rfl⟩ := trodAll_nil h
    exact trodAll_mk0
  | t :: ts, _, _, _, hts, hlt, h => by
    obtain ⟨v, vs, d, ds, p, q, rfl, rfl, rfl, h1, h2⟩ := trodAll_cons h
    have ht := hts t (List.mem_cons_self)
    exact trodAll_cons_mk (Below.trod hl ht.1 ht.2 h1 hb (fun x hx => hlt x (List.mem_append_left _ hx)))
      (args_stay hl hb ts vs ds q (fun u hu => hts u (List.mem_cons_of_mem _ hu)) (fun x hx => hlt x (List.mem_append_right _ hx)) h2)

/-- What a law owes behind its call: true was returned, and nothing below the heap's old size has changed. -/
theorem law_post {f : Func} {s : ChangeSpec} {tb : TypeId} (hl : laidOutB P = true) (hts : ∀ t ∈ f.params.toList, P.readableRec t = true ∧ t < P.types.size) (hrt : f.resultTypes = #[tb]) (htb : P.underlying tb = some .bool)
    (hv : s.vars = []) (hfn : ∀ ds : List (DataW H), ds.length = f.params.toList.length → s.fn H ds = { results := [.lit (.bool true)], args := ds })
    {W W' : World} {args : Array Value} {ds gs : List (DataW H)} {before : List MemPlace} (hW : DataW.Whole enc P f.params.toList s.vars false W args.toList ds gs before) (hB : Below W.heap.size W W') :
    s.post enc P f false true false false W args (.bool true) W' := by
  have hlt : ∀ x ∈ before, x.block < W.heap.size := fun x hx => by simpa using hW.lt x hx
  have hW' := hW
  obtain ⟨p, q, hA, hV, rfl, _, _⟩ := hW
  rw [hv] at hV
  obtain ⟨rfl, rfl⟩ := trodVars_none hV
  have hlen : ds.length = f.params.toList.length := by
    have aux : ∀ (ts : List TypeId) (vs : List Value) (ds : List (DataW H)) (ps : List MemPlace), DataW.TrodAll enc P W 0 (fun _ => true) true ts vs ds ps → ds.length = ts.length := by
      intro ts
      induction ts with
      | nil => intro vs ds ps h; obtain ⟨_, rfl, _⟩ := trodAll_nil h; rfl
      | cons t ts ih =>
        intro vs ds ps h
        obtain ⟨v, vs, d, ds, p, q, _, rfl, _, _, h2⟩ := trodAll_cons h
        simp [ih vs ds q h2]
    exact aux _ _ _ _ hA
  have e := hfn ds hlen
  refine ⟨ds, [], _, [], p, [], hW', ?_, ?_, ?_, ?_, fun h => by cases h⟩
  · rw [List.append_nil, e, hrt]
    exact trodAll_cons_mk (shut_bool htb _) trodAll_mk0
  · rw [List.append_nil, e]
    exact args_stay hl hB _ _ _ _ hts (fun x hx => hlt x (List.mem_append_left _ hx)) hA
  · rw [List.append_nil, e, hv]
    exact rfl
  · exact hB.frame _
end

theorem own : ownKnob Try.prog.godebug = none := by kernel_rfl
theorem laidOut : laidOutB Try.prog = true := by kernel_rfl

end Go.Proofs.Ytkfhmcpdodnbhaa

/-
  An argument that is bytes: what the row's reading of it gives of the world's cells.
-/
namespace Go.Proofs.Ytkfhmcpdodnbhaa
open Go.ChangeShapes Go.WideShapes Go.ChangeAt Go.RowKit Go.Deep
set_option maxRecDepth 100000

section
variable {H : Type} {enc : TypeId × Value → H} {W : World} {base : Nat} {v : Value} {d : DataW H} {p : List MemPlace}
end
end Go.Proofs.Ytkfhmcpdodnbhaa
/-
  The rows of examples at the end of each law of package hurdlelaw14: knows() answers true in every world; calls and whole loads in regions that draw.
-/
namespace Go.Proofs.Ytkfhmcpdodnbhaa
open Go.ChangeShapes Go.WideShapes Go.ChangeAt Go.RowKit
set_option maxRecDepth 100000

def zeroF : List Nat := List.replicate 35 0
/-- A world for the witness: the settled one. -/
noncomputable def laidWorldJ (os : Os) : World := World.holding Try.prog os ⟨#[], #[], []⟩

section
variable {ops : Array Oper} {rest : List Oper} {o : Oper} {a : Act} {W : World} {Q : Act → Prop}
theorem q_form {g : Nat} {f : List Nat} {x : Operand} (hG : W.heap[g]? = some (formB f)) (hf : f.length = 35) (hw : Region.wanted o (yielded ops a.tmps) = true) (ho : o.op = .load 25 x) (hx : a.eval x = .pointer (some ⟨g, 0, none⟩))
    (h : wpQuiet Try.prog ops (fun w' => ∃ p : Regrown, w' = Sort.grow (redrawn W p.d) p.os) Q rest (a.put o.dst (formV f))) : wpQuiet Try.prog ops (fun w' => ∃ p : Regrown, w' = Sort.grow (redrawn W p.d) p.os) Q (o :: rest) a := by
  unfold wpQuiet
  rw [if_pos hw]
  refine ⟨formV f, fun w' hw' => ?_, h⟩
  obtain ⟨p, rfl⟩ := hw'
  have hG' : (Sort.grow (redrawn W p.d) p.os).heap[g]? = some (formB f) := ((below_regrown W p.d p.os).block g (lt_of_block hG)).trans hG
  unfold Oper.quietAt execOp
  simp only [ho, hx, Instr.loadAt, Instr.sureAddr, Sem.run_bind, Sem.run_pure, Result.andThen_ok, run_loadVar_row _ g 25 25 (numsC f) (0, 0) _ hG' Try.underlying25 rfl (by rw [numsC_size, hf]; exact infoF)]
  exact ⟨rfl, rfl⟩
theorem q_row {g : Nat} {v : List Nat} {x : Operand} (hG : W.heap[g]? = some (rowB v)) (hv : v.length = 34) (hw : Region.wanted o (yielded ops a.tmps) = true) (ho : o.op = .load 23 x) (hx : a.eval x = .pointer (some ⟨g, 0, none⟩))
    (h : wpQuiet Try.prog ops (fun w' => ∃ p : Regrown, w' = Sort.grow (redrawn W p.d) p.os) Q rest (a.put o.dst (formV v))) : wpQuiet Try.prog ops (fun w' => ∃ p : Regrown, w' = Sort.grow (redrawn W p.d) p.os) Q (o :: rest) a := by
  unfold wpQuiet
  rw [if_pos hw]
  refine ⟨formV v, fun w' hw' => ?_, h⟩
  obtain ⟨p, rfl⟩ := hw'
  have hG' : (Sort.grow (redrawn W p.d) p.os).heap[g]? = some (rowB v) := ((below_regrown W p.d p.os).block g (lt_of_block hG)).trans hG
  unfold Oper.quietAt execOp
  simp only [ho, hx, Instr.loadAt, Instr.sureAddr, Sem.run_bind, Sem.run_pure, Result.andThen_ok, run_loadVar_row _ g 23 23 (numsC v) (0, 0) _ hG' Try.underlying23 rfl (by rw [numsC_size, hv]; exact infoV)]
  exact ⟨rfl, rfl⟩
end
section
variable {ops : Array Oper} {rest : List Oper} {o : Oper} {a : Act} {w : World} {Q : Exit → Act → World → Prop}
theorem ld_rowg {g : Nat} {v : List Nat} {x : Operand} (hG : w.heap[g]? = some (rowB v)) (hv : v.length = 34) (hw : Region.wanted o (yielded ops a.tmps) = true) (ho : o.op = .load 23 x) (hx : a.eval x = .pointer (some ⟨g, 0, none⟩))
    (h : wpList Try.prog ops Q rest (a.put o.dst (formV v)) w) : wpList Try.prog ops Q (o :: rest) a w := by
  unfold wpList
  rw [if_pos hw]
  exact .inl (wp_load_row 23 x ho g hx 23 (numsC v) (0, 0) _ hG Try.underlying23 rfl (by rw [numsC_size, hv]; exact infoV) h)
end
/-- The worlds of a quiet region's calls. -/
abbrev QC (W : World) (f : FuncId) (args : Array Value) (v : Value) : Prop := ∀ d os, Calls Try.prog f args (Sort.grow (redrawn W d) os) fun e w'' => e = .returned v ∧ ∃ p : Regrown, w'' = Sort.grow (redrawn W p.d) p.os
theorem q_add (W : World) {f g : List Nat} (hf : FOk f) (hg : FOk g) : QC W 13 #[formV f, formV g] (formV (addF f g)) := fun _ _ => Calls.regrown_of (aadd_any f g _ hf hg)
theorem q_sub (W : World) {f g : List Nat} (hf : FOk f) (hg : FOk g) : QC W 15 #[formV f, formV g] (formV (subF f g)) := fun _ _ => Calls.regrown_of (asub_any f g _ hf hg)
theorem q_mul (W : World) {f : List Nat} {k : Nat} (hf : FOk f) (hk : k < 4294967296) : QC W 16 #[formV f, .int .u32 (k : Nat)] (formV (mulF f k)) := fun _ _ => Calls.regrown_of (amul_any f k _ hf hk)
theorem q_eval (W : World) {f v : List Nat} (hf : FOk f) (hv : VOk v) : QC W 23 #[formV f, formV v] (.int .u32 (evalF f v : Nat)) := fun _ _ => Calls.regrown_of (aeval_any f v _ hf hv)
theorem q_const (W : World) {c : Nat} (hc : c < 4294967296) : QC W 17 #[.int .u32 (c : Nat)] (formV (constF c)) := fun _ _ => Calls.regrown_of (aconst_any c _ hc)
theorem q_single (W : World) {f : List Nat} (hf : FOk f) : QC W 21 #[formV f] (.tuple #[.int .i64 ((singleF f).getD 0 : Nat), .bool (singleF f).isSome]) := fun _ _ => Calls.regrown_of (asingle_any f _ hf)
/-! ### The examples -/
theorem ex_apart : apartF (mulF (varF 0) 3) (varF 0) = (zeros.set 0 1, true) := by decide +kernel
theorem ex_sub : subF (addF (varF 0) (varF 1)) (varF 0) = varF 1 := by decide +kernel
theorem ex_single : singleF (varF 1) = some 1 := single_some (by omega) rfl
theorem ex_const : constantF (constF 5) = (5, true) := by decide +kernel
theorem ex_eval : evalF (varF 0) (zeros.set 0 1) = 1 := by decide +kernel
theorem ex_cell : mAt (zeros.set 0 1) 0 = 1 := by decide
set_option maxHeartbeats 4000000 in
theorem jknows_any (w : World) : Calls Try.prog 19 #[] w fun e w' => e = .returned (.bool true) ∧ Below w.heap.size w w' := by
  obtain ⟨A, hA⟩ : ∃ A, A = varF 0 := ⟨_, rfl⟩
  obtain ⟨X, hX⟩ : ∃ X, X = varF 1 := ⟨_, rfl⟩
  have HAo := Lib.hid (hA ▸ varF_ok 0 : FOk A)
  have HXo := Lib.hid (hX ▸ varF_ok 1 : FOk X)
  have HA := Lib.hid hA
  have HX := Lib.hid hX
  have c0 : ∀ V, Calls Try.prog 9 #[.int .i64 0] V fun e w' => e = .returned (.tuple #[formV A, .int .i64 0]) ∧ Below V.heap.size V w' := fun V => by rw [hA]; exact avar_in 0 V (by omega)
  have c1 : ∀ V, Calls Try.prog 9 #[.int .i64 1] V fun e w' => e = .returned (.tuple #[formV X, .int .i64 0]) ∧ Below V.heap.size V w' := fun V => by rw [hX]; exact avar_in 1 V (by omega)
  have HC0 := Lib.hid c0
  have HC1 := Lib.hid c1
  clear c0 c1 hA hX
  go_enter Try.func19, Try.ntmps19
  go_wp2_with fail
  refine (HC0.out _).mono ?_
  rintro e w1 ⟨rfl, hb1⟩
  have HB1 := Lib.hid hb1
  have hs1 := hb1.size
  clear hb1
  go_wp2_with (refine st_form (heap_alloc_new _ _) rfl HAo.out.1 rfl rfl rfl rfl ?_; intro W1 hp1; have HP1 := Lib.hid hp1; clear hp1)
  have HA1 := Lib.hid HP1.out.row
  have HBW1 := Lib.hid (HP1.out.below (ba _ HB1.out) hs1)
  clear HP1 HB1
  refine (HC1.out _).mono ?_
  rintro e w2 ⟨rfl, hb2⟩
  have HB2 := Lib.hid (below2 HBW1.out hb2)
  have HA2 := Lib.hid (kb hb2 HA1.out)
  have hs2 := (below2 HBW1.out hb2).size
  have hl2 : w1.heap.size < w2.heap.size := lt_of_block (kb hb2 HA1.out)
  clear hb2 HA1 HBW1
  go_wp2_with (refine st_form (heap_alloc_new _ _) rfl HXo.out.1 rfl rfl rfl rfl ?_; intro W2 hp2; have HP2 := Lib.hid hp2; clear hp2)
  have HX2 := Lib.hid HP2.out.row
  have HA3 := Lib.hid (HP2.out.keep (by omega) (ka _ HA2.out))
  have HB3 := Lib.hid (HP2.out.below (ba _ HB2.out) hs2)
  clear HP2 HA2 HB2
  have HCM : Hid (∀ V, Below W2.heap.size W2 V → Calls Try.prog 16 #[formV A, .int .u32 3] V fun e w' => e = .returned (formV (mulF A 3)) ∧ Below W2.heap.size W2 w' ∧ Below V.heap.size V w') := Lib.hid (fun V hV => (amul_any A 3 V HAo.out (by omega)).mono fun e w' h => ⟨h.1, below2 hV h.2, h.2⟩)
  have HCA : Hid (∀ V, Below W2.heap.size W2 V → Calls Try.prog 26 #[formV (mulF A 3), formV A] V fun e w' => e = .returned (.tuple #[formV (zeros.set 0 1), .bool true]) ∧ Below W2.heap.size W2 w' ∧ Below V.heap.size V w') := Lib.hid (fun V hV => (aapart_any (mulF A 3) A V (mulF_ok _ _) HAo.out).mono fun e w' h => ⟨by rw [h.1, HA.out, ex_apart], below2 hV h.2, h.2⟩)
  refine wp_region_held_drew (S := fun V => Below W2.heap.size W2 V) (by kernel_rfl) ?_ (fun hHeld => ?_)
  · exact bdN (Below.refl _ _) 1
  refine jheld_take (i := 0) (some 20) rfl rfl (by kernel_rfl) (by kernel_rfl) (by kernel_rfl) (fun _ _ _ h => h) (jyi_row (by rfl) (by rfl) (by rfl) (fun V hV => lv_form (kb hV HA3.out) HAo.out.1)) hHeld ?_
  simp only [Act.put, List.setIfInBounds_toArray, List.set_cons_zero, List.set_cons_succ]
  refine jheld_take (i := 2) (some 22) rfl rfl (by kernel_rfl) (by kernel_rfl) (by kernel_rfl) (fun _ _ _ h => h) (jyi_row (by rfl) (by rfl) (by rfl) (fun V hV => lv_form (kb hV HA3.out) HAo.out.1)) hHeld ?_
  simp only [Act.put, List.setIfInBounds_toArray, List.set_cons_zero, List.set_cons_succ]
  refine wpAnyH_ready (rs := [1, 7]) (by kernel_rfl) (by simp) ?_
  refine AllReadyH.cons rfl (fun K hK => ?_) (AllReadyH.cons rfl (fun K hK => ?_) AllReadyH.nil)
  · go_simp
    refine (HCM.out _ hHeld).mono ?_
    rintro e wM ⟨rfl, hbM, hcM⟩
    go_simp
    refine hK.out _ _ hbM (fun hHeld => ?_)
    clear hK K
    refine wpAnyH_ready (rs := [3, 7]) (by kernel_rfl) (by simp) ?_
    refine AllReadyH.cons rfl (fun K hK => ?_) (AllReadyH.cons rfl (fun K hK => ?_) AllReadyH.nil)
    · go_simp
      refine (HCA.out _ hHeld).mono ?_
      rintro e wA ⟨rfl, hbA, hcA⟩
      go_simp
      refine hK.out _ _ hbA (fun hHeld => ?_)
      clear hK K
      refine jheld_take (i := 4) (v := .tuple #[formV (zeros.set 0 1), .bool true]) (some 19) rfl rfl (by kernel_rfl) (by kernel_rfl) (by kernel_rfl) (fun _ _ _ h => h) (.inl ⟨by rfl, fun V _ => by go_simp⟩) hHeld ?_
      simp only [Act.put, List.setIfInBounds_toArray, List.set_cons_zero, List.set_cons_succ]
      refine jheld_take (i := 5) (v := formV (zeros.set 0 1)) (some 24) rfl rfl (by kernel_rfl) (by kernel_rfl) (by kernel_rfl) (fun _ _ _ h => h) (.inl ⟨by rfl, fun V _ => by go_simp⟩) hHeld ?_
      simp only [Act.put, List.setIfInBounds_toArray, List.set_cons_zero, List.set_cons_succ]
      refine jheld_take (i := 6) (v := .bool true) (some 25) rfl rfl (by kernel_rfl) (by kernel_rfl) (by kernel_rfl) (fun _ _ _ h => h) (.inl ⟨by rfl, fun V _ => by go_simp⟩) hHeld ?_
      simp only [Act.put, List.setIfInBounds_toArray, List.set_cons_zero, List.set_cons_succ]
      refine wpAnyH_ready (rs := [7]) (by kernel_rfl) (by simp) ?_
      refine AllReadyH.cons rfl (fun K hK => ?_) AllReadyH.nil
      have hgq := hHeld.size
      go_simp
      refine hK.out _ _ (ba _ hHeld) (fun hHeld => ?_)
      clear hK K
      refine wpAnyH_ready (rs := [8]) (by kernel_rfl) (by simp) ?_
      refine AllReadyH.cons rfl (fun K hK => ?_) AllReadyH.nil
      rw [if_pos (by rfl)]
      refine wp_putr (v := zeros.set 0 1) (heap_alloc_new _ _) (by rfl) (by simp [zeros]) (by rfl) (by rfl) (by rfl) ?_
      intro W5 hput
      simp only [Act.put]
      obtain ⟨gq, hgq2⟩ : ∃ gq, gq = wA.heap.size := ⟨_, rfl⟩
      rw [← hgq2] at hput ⊢
      refine hK.out _ _ (hput.below hHeld (by rw [hgq2]; exact hgq)) (fun hHeld => ?_)
      clear hK K
      refine jheld_take (i := 9) (v := .bool true) (some 6) rfl rfl (by kernel_rfl) (by kernel_rfl) (by kernel_rfl) (fun _ _ _ h => h) (.inl ⟨by rfl, fun V _ => by go_simp⟩) hHeld ?_
      simp only [Act.put, List.setIfInBounds_toArray]
      refine wpAnyH_done (by kernel_rfl) ?_ _
      have HR5 := Lib.hid hput.row
      have HB5 := Lib.hid hHeld
      clear hHeld hput hgq2
      have HA5 := Lib.hid (kb HB5.out HA3.out)
      have HX5 := Lib.hid (kb HB5.out HX2.out)
      have HBW := Lib.hid (below2 HB3.out HB5.out)
      clear HB5
      have cA := q_add W5 HAo.out HXo.out
      have cS : QC W5 15 #[formV (addF A X), formV A] (formV X) := by
        have h := q_sub W5 (addF_ok A X) HAo.out
        rw [HA.out, HX.out, ex_sub, ← HX.out, ← HA.out] at h
        exact h
      have cI : QC W5 21 #[formV X] (.tuple #[.int .i64 1, .bool true]) := by
        have h := q_single W5 HXo.out
        rw [show singleF X = some 1 by rw [HX.out]; exact ex_single] at h
        exact h
      go_wp2_with fail
      refine wp_region_quiet_below (by kernel_rfl) (by kernel_rfl) ?_
      repeat (first | (refine q_form HA5.out HAo.out.1 rfl rfl rfl ?_) | (refine q_form HX5.out HXo.out.1 rfl rfl rfl ?_) | (quiet_step (first | with_reducible exact cA _ _ | with_reducible exact cS _ _ | with_reducible exact cI _ _)))
      refine wpQuiet_nil ?_
      intro _ hw'
      obtain ⟨⟨dq, osq⟩, hw''⟩ := hw'
      subst hw''
      have hbq := below_regrown W5 dq osq
      have HAq := Lib.hid (kb hbq HA5.out)
      have HRq := Lib.hid (kb hbq HR5.out)
      have HBq := Lib.hid (below2 HBW.out hbq)
      clear hbq cA cS cI HA5 HX5 HR5 HBW
      generalize Sort.grow (redrawn W5 dq) osq = Wq at *
      go_wp2_with fail
      refine (aconst_any 5 _ (by omega)).mono ?_
      rintro e w7 ⟨rfl, hb7⟩
      go_wp2_with fail
      refine (aconstant_any _ _ (constF_ok (by omega))).mono ?_
      rintro e w8 ⟨rfl, hb8⟩
      rw [ex_const]
      have hb78 := below2 hb7 hb8
      have HA8 := Lib.hid (kb hb78 HAq.out)
      have HR8 := Lib.hid (kb hb78 HRq.out)
      have HB8 := Lib.hid (below2 HBq.out hb78)
      have r0 := (cell_in HR8.out 0).trans (numsC_at (by simp [zeros]))
      rw [ex_cell] at r0
      clear hb7 hb8 hb78 HAq HRq HBq
      go_wp2_with (first | (refine ld_formg HA8.out HAo.out.1 (by rfl) rfl rfl ?_) | (refine ld_rowg HR8.out (by simp [zeros]) (by rfl) rfl rfl ?_))
      refine (aeval_any _ _ _ HAo.out (zset_ok 0)).mono ?_
      rintro e w9 ⟨rfl, hb9⟩
      rw [show evalF A (zeros.set 0 1) = 1 by rw [HA.out]; exact ex_eval]
      clear r0
      go_wp2_with fail
      go_ret
      exact ⟨rfl, below2 HB8.out hb9⟩
    · have hgq := hHeld.size
      go_simp
      refine hK.out _ _ (ba _ hHeld) (fun hHeld => ?_)
      clear hK K
      refine wpAnyH_ready (rs := [3]) (by kernel_rfl) (by simp) ?_
      refine AllReadyH.cons rfl (fun K hK => ?_) AllReadyH.nil
      go_simp
      refine (HCA.out _ hHeld).mono ?_
      rintro e wA ⟨rfl, hbA, hcA⟩
      go_simp
      refine hK.out _ _ hbA (fun hHeld => ?_)
      clear hK K
      refine jheld_take (i := 4) (v := .tuple #[formV (zeros.set 0 1), .bool true]) (some 19) rfl rfl (by kernel_rfl) (by kernel_rfl) (by kernel_rfl) (fun _ _ _ h => h) (.inl ⟨by rfl, fun V _ => by go_simp⟩) hHeld ?_
      simp only [Act.put, List.setIfInBounds_toArray, List.set_cons_zero, List.set_cons_succ]
      refine jheld_take (i := 5) (v := formV (zeros.set 0 1)) (some 24) rfl rfl (by kernel_rfl) (by kernel_rfl) (by kernel_rfl) (fun _ _ _ h => h) (.inl ⟨by rfl, fun V _ => by go_simp⟩) hHeld ?_
      simp only [Act.put, List.setIfInBounds_toArray, List.set_cons_zero, List.set_cons_succ]
      refine jheld_take (i := 6) (v := .bool true) (some 25) rfl rfl (by kernel_rfl) (by kernel_rfl) (by kernel_rfl) (fun _ _ _ h => h) (.inl ⟨by rfl, fun V _ => by go_simp⟩) hHeld ?_
      simp only [Act.put, List.setIfInBounds_toArray, List.set_cons_zero, List.set_cons_succ]
      refine wpAnyH_ready (rs := [8]) (by kernel_rfl) (by simp) ?_
      refine AllReadyH.cons rfl (fun K hK => ?_) AllReadyH.nil
      rw [if_pos (by rfl)]
      refine wp_putr (v := zeros.set 0 1) (kb hcA (heap_alloc_new wM _)) (by rfl) (by simp [zeros]) (by rfl) (by rfl) (by rfl) ?_
      intro W5 hput
      simp only [Act.put]
      obtain ⟨gq, hgq2⟩ : ∃ gq, gq = wM.heap.size := ⟨_, rfl⟩
      rw [← hgq2] at hput ⊢
      refine hK.out _ _ (hput.below hHeld (by rw [hgq2]; exact hgq)) (fun hHeld => ?_)
      clear hK K
      refine jheld_take (i := 9) (v := .bool true) (some 6) rfl rfl (by kernel_rfl) (by kernel_rfl) (by kernel_rfl) (fun _ _ _ h => h) (.inl ⟨by rfl, fun V _ => by go_simp⟩) hHeld ?_
      simp only [Act.put, List.setIfInBounds_toArray]
      refine wpAnyH_done (by kernel_rfl) ?_ _
      have HR5 := Lib.hid hput.row
      have HB5 := Lib.hid hHeld
      clear hHeld hput hgq2
      have HA5 := Lib.hid (kb HB5.out HA3.out)
      have HX5 := Lib.hid (kb HB5.out HX2.out)
      have HBW := Lib.hid (below2 HB3.out HB5.out)
      clear HB5
      have cA := q_add W5 HAo.out HXo.out
      have cS : QC W5 15 #[formV (addF A X), formV A] (formV X) := by
        have h := q_sub W5 (addF_ok A X) HAo.out
        rw [HA.out, HX.out, ex_sub, ← HX.out, ← HA.out] at h
        exact h
      have cI : QC W5 21 #[formV X] (.tuple #[.int .i64 1, .bool true]) := by
        have h := q_single W5 HXo.out
        rw [show singleF X = some 1 by rw [HX.out]; exact ex_single] at h
        exact h
      go_wp2_with fail
      refine wp_region_quiet_below (by kernel_rfl) (by kernel_rfl) ?_
      repeat (first | (refine q_form HA5.out HAo.out.1 rfl rfl rfl ?_) | (refine q_form HX5.out HXo.out.1 rfl rfl rfl ?_) | (quiet_step (first | with_reducible exact cA _ _ | with_reducible exact cS _ _ | with_reducible exact cI _ _)))
      refine wpQuiet_nil ?_
      intro _ hw'
      obtain ⟨⟨dq, osq⟩, hw''⟩ := hw'
      subst hw''
      have hbq := below_regrown W5 dq osq
      have HAq := Lib.hid (kb hbq HA5.out)
      have HRq := Lib.hid (kb hbq HR5.out)
      have HBq := Lib.hid (below2 HBW.out hbq)
      clear hbq cA cS cI HA5 HX5 HR5 HBW
      generalize Sort.grow (redrawn W5 dq) osq = Wq at *
      go_wp2_with fail
      refine (aconst_any 5 _ (by omega)).mono ?_
      rintro e w7 ⟨rfl, hb7⟩
      go_wp2_with fail
      refine (aconstant_any _ _ (constF_ok (by omega))).mono ?_
      rintro e w8 ⟨rfl, hb8⟩
      rw [ex_const]
      have hb78 := below2 hb7 hb8
      have HA8 := Lib.hid (kb hb78 HAq.out)
      have HR8 := Lib.hid (kb hb78 HRq.out)
      have HB8 := Lib.hid (below2 HBq.out hb78)
      have r0 := (cell_in HR8.out 0).trans (numsC_at (by simp [zeros]))
      rw [ex_cell] at r0
      clear hb7 hb8 hb78 HAq HRq HBq
      go_wp2_with (first | (refine ld_formg HA8.out HAo.out.1 (by rfl) rfl rfl ?_) | (refine ld_rowg HR8.out (by simp [zeros]) (by rfl) rfl rfl ?_))
      refine (aeval_any _ _ _ HAo.out (zset_ok 0)).mono ?_
      rintro e w9 ⟨rfl, hb9⟩
      rw [show evalF A (zeros.set 0 1) = 1 by rw [HA.out]; exact ex_eval]
      clear r0
      go_wp2_with fail
      go_ret
      exact ⟨rfl, below2 HB8.out hb9⟩
  · have hgq := hHeld.size
    go_simp
    refine hK.out _ _ (ba _ hHeld) (fun hHeld => ?_)
    clear hK K
    refine wpAnyH_ready (rs := [1]) (by kernel_rfl) (by simp) ?_
    refine AllReadyH.cons rfl (fun K hK => ?_) AllReadyH.nil
    go_simp
    refine (HCM.out _ hHeld).mono ?_
    rintro e wM ⟨rfl, hbM, hcM⟩
    go_simp
    refine hK.out _ _ hbM (fun hHeld => ?_)
    clear hK K
    refine wpAnyH_ready (rs := [3]) (by kernel_rfl) (by simp) ?_
    refine AllReadyH.cons rfl (fun K hK => ?_) AllReadyH.nil
    go_simp
    refine (HCA.out _ hHeld).mono ?_
    rintro e wA ⟨rfl, hbA, hcA⟩
    go_simp
    refine hK.out _ _ hbA (fun hHeld => ?_)
    clear hK K
    refine jheld_take (i := 4) (v := .tuple #[formV (zeros.set 0 1), .bool true]) (some 19) rfl rfl (by kernel_rfl) (by kernel_rfl) (by kernel_rfl) (fun _ _ _ h => h) (.inl ⟨by rfl, fun V _ => by go_simp⟩) hHeld ?_
    simp only [Act.put, List.setIfInBounds_toArray, List.set_cons_zero, List.set_cons_succ]
    refine jheld_take (i := 5) (v := formV (zeros.set 0 1)) (some 24) rfl rfl (by kernel_rfl) (by kernel_rfl) (by kernel_rfl) (fun _ _ _ h => h) (.inl ⟨by rfl, fun V _ => by go_simp⟩) hHeld ?_
    simp only [Act.put, List.setIfInBounds_toArray, List.set_cons_zero, List.set_cons_succ]
    refine jheld_take (i := 6) (v := .bool true) (some 25) rfl rfl (by kernel_rfl) (by kernel_rfl) (by kernel_rfl) (fun _ _ _ h => h) (.inl ⟨by rfl, fun V _ => by go_simp⟩) hHeld ?_
    simp only [Act.put, List.setIfInBounds_toArray, List.set_cons_zero, List.set_cons_succ]
    refine wpAnyH_ready (rs := [8]) (by kernel_rfl) (by simp) ?_
    refine AllReadyH.cons rfl (fun K hK => ?_) AllReadyH.nil
    rw [if_pos (by rfl)]
    refine wp_putr (v := zeros.set 0 1) (show wA.heap[W2.heap.size]? = some _ from kb hcA (kb hcM (heap_alloc_new W2.drew _))) (by rfl) (by simp [zeros]) (by rfl) (by rfl) (by rfl) ?_
    intro W5 hput
    simp only [Act.put]
    obtain ⟨gq, hgq2⟩ : ∃ gq, gq = W2.heap.size := ⟨_, rfl⟩
    rw [← hgq2] at hput ⊢
    refine hK.out _ _ (hput.below hHeld (by rw [hgq2]; exact hgq)) (fun hHeld => ?_)
    clear hK K
    refine jheld_take (i := 9) (v := .bool true) (some 6) rfl rfl (by kernel_rfl) (by kernel_rfl) (by kernel_rfl) (fun _ _ _ h => h) (.inl ⟨by rfl, fun V _ => by go_simp⟩) hHeld ?_
    simp only [Act.put, List.setIfInBounds_toArray]
    refine wpAnyH_done (by kernel_rfl) ?_ _
    have HR5 := Lib.hid hput.row
    have HB5 := Lib.hid hHeld
    clear hHeld hput hgq2
    have HA5 := Lib.hid (kb HB5.out HA3.out)
    have HX5 := Lib.hid (kb HB5.out HX2.out)
    have HBW := Lib.hid (below2 HB3.out HB5.out)
    clear HB5
    have cA := q_add W5 HAo.out HXo.out
    have cS : QC W5 15 #[formV (addF A X), formV A] (formV X) := by
      have h := q_sub W5 (addF_ok A X) HAo.out
      rw [HA.out, HX.out, ex_sub, ← HX.out, ← HA.out] at h
      exact h
    have cI : QC W5 21 #[formV X] (.tuple #[.int .i64 1, .bool true]) := by
      have h := q_single W5 HXo.out
      rw [show singleF X = some 1 by rw [HX.out]; exact ex_single] at h
      exact h
    go_wp2_with fail
    refine wp_region_quiet_below (by kernel_rfl) (by kernel_rfl) ?_
    repeat (first | (refine q_form HA5.out HAo.out.1 rfl rfl rfl ?_) | (refine q_form HX5.out HXo.out.1 rfl rfl rfl ?_) | (quiet_step (first | with_reducible exact cA _ _ | with_reducible exact cS _ _ | with_reducible exact cI _ _)))
    refine wpQuiet_nil ?_
    intro _ hw'
    obtain ⟨⟨dq, osq⟩, hw''⟩ := hw'
    subst hw''
    have hbq := below_regrown W5 dq osq
    have HAq := Lib.hid (kb hbq HA5.out)
    have HRq := Lib.hid (kb hbq HR5.out)
    have HBq := Lib.hid (below2 HBW.out hbq)
    clear hbq cA cS cI HA5 HX5 HR5 HBW
    generalize Sort.grow (redrawn W5 dq) osq = Wq at *
    go_wp2_with fail
    refine (aconst_any 5 _ (by omega)).mono ?_
    rintro e w7 ⟨rfl, hb7⟩
    go_wp2_with fail
    refine (aconstant_any _ _ (constF_ok (by omega))).mono ?_
    rintro e w8 ⟨rfl, hb8⟩
    rw [ex_const]
    have hb78 := below2 hb7 hb8
    have HA8 := Lib.hid (kb hb78 HAq.out)
    have HR8 := Lib.hid (kb hb78 HRq.out)
    have HB8 := Lib.hid (below2 HBq.out hb78)
    have r0 := (cell_in HR8.out 0).trans (numsC_at (by simp [zeros]))
    rw [ex_cell] at r0
    clear hb7 hb8 hb78 HAq HRq HBq
    go_wp2_with (first | (refine ld_formg HA8.out HAo.out.1 (by rfl) rfl rfl ?_) | (refine ld_rowg HR8.out (by simp [zeros]) (by rfl) rfl rfl ?_))
    refine (aeval_any _ _ _ HAo.out (zset_ok 0)).mono ?_
    rintro e w9 ⟨rfl, hb9⟩
    rw [show evalF A (zeros.set 0 1) = 1 by rw [HA.out]; exact ex_eval]
    clear r0
    go_wp2_with fail
    go_ret
    exact ⟨rfl, below2 HB8.out hb9⟩
/-- The last word of a law: the rows of examples. -/
theorem jknow_end {a w : World} (hb : Below a.heap.size a w) : Calls Try.prog 19 #[] w fun e w' => e = .returned (.bool true) ∧ Below a.heap.size a w' :=
  (jknows_any w).mono fun _ _ ⟨he, h⟩ => ⟨he, below2 hb h⟩
theorem q_knows (W : World) : QC W 19 #[] (.bool true) := fun _ _ => Calls.regrown_of (jknows_any _)
end Go.Proofs.Ytkfhmcpdodnbhaa
