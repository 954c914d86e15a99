/-
  States, as they lie in a world; what run.cell and run.withCell answer.
-/
import Derived.Test.YtmbegncnbjafdaaDoorBytes
import Derived.Laws.Tables
import Derived.Deep.DeepCutAuto
namespace Go.Proofs.YtmbegncnbjafdaaDoor
open Go.ChangeShapes Go.WideShapes Go.ChangeAt Go.RowKit
set_option maxRecDepth 20000

/-- A state. -/
structure St where
  a : Nat
  x : Nat
  m : List Nat
deriving DecidableEq
def St.ok (s : St) : Prop := s.a ≤ 4294967295 ∧ s.x ≤ 4294967295 ∧ s.m.length = 16 ∧ ∀ v ∈ s.m, v ≤ 4294967295
def zeroSt : St := ⟨0, 0, List.replicate 16 0⟩
theorem zeroSt_ok : zeroSt.ok := ⟨by decide, by decide, by decide, by decide⟩
/-- What is in a cell; 0, if there is none. -/
def mAt (m : List Nat) (i : Nat) : Nat := m.getD i 0
/-- Its eighteen cells (not to be opened by a walk). -/
def stC (s : St) : Array Value := #[.int .u32 s.a, .int .u32 s.x, .int .u32 (mAt s.m 0), .int .u32 (mAt s.m 1), .int .u32 (mAt s.m 2), .int .u32 (mAt s.m 3), .int .u32 (mAt s.m 4), .int .u32 (mAt s.m 5), .int .u32 (mAt s.m 6), .int .u32 (mAt s.m 7), .int .u32 (mAt s.m 8), .int .u32 (mAt s.m 9), .int .u32 (mAt s.m 10), .int .u32 (mAt s.m 11), .int .u32 (mAt s.m 12), .int .u32 (mAt s.m 13), .int .u32 (mAt s.m 14), .int .u32 (mAt s.m 15)]
abbrev St.val (s : St) : Value := .agg (stC s)
abbrev stB (s : St) : Obj := .cells (stC s) 42
theorem mAt_out {m : List Nat} {k : Nat} (h : m.length ≤ k) : mAt m k = 0 := by
  unfold mAt
  rw [List.getD_eq_getElem?_getD, List.getElem?_eq_none h]
  rfl
theorem mAt_set {m : List Nat} (k v i : Nat) (hk : k < m.length) : mAt (m.set k v) i = if i = k then v else mAt m i := by
  unfold mAt
  rw [List.getD_eq_getElem?_getD, List.getD_eq_getElem?_getD]
  by_cases h : i = k
  · subst h
    rw [if_pos rfl, List.getElem?_set_self hk]
    rfl
  · rw [if_neg h, List.getElem?_set_ne (by omega)]
theorem nat16 {k : Nat} (h : k < 16) : k = 0 ∨ k = 1 ∨ k = 2 ∨ k = 3 ∨ k = 4 ∨ k = 5 ∨ k = 6 ∨ k = 7 ∨ k = 8 ∨ k = 9 ∨ k = 10 ∨ k = 11 ∨ k = 12 ∨ k = 13 ∨ k = 14 ∨ k = 15 := by omega
theorem st_a (s : St) : (stC s)[0]? = some (.int .u32 (s.a : Nat)) := rfl
theorem st_x (s : St) : (stC s)[1]? = some (.int .u32 (s.x : Nat)) := rfl
theorem st_m (s : St) {k : Nat} (h : k < 16) : (stC s)[2 + k]? = some (.int .u32 (mAt s.m k : Nat)) := by
  rcases nat16 h with rfl | rfl | rfl | rfl | rfl | rfl | rfl | rfl | rfl | rfl | rfl | rfl | rfl | rfl | rfl | rfl <;> rfl
theorem set_a (s : St) (v : Nat) : (stC s).setIfInBounds 0 (.int .u32 (v : Int)) = stC ⟨v, s.x, s.m⟩ := rfl
theorem set_x (s : St) (v : Nat) : (stC s).setIfInBounds 1 (.int .u32 (v : Int)) = stC ⟨s.a, v, s.m⟩ := rfl
theorem set_m (s : St) {k : Nat} (v : Nat) (hl : s.m.length = 16) (h : k < 16) : (stC s).setIfInBounds (2 + k) (.int .u32 (v : Int)) = stC ⟨s.a, s.x, s.m.set k v⟩ := by
  have e : ∀ i, mAt (s.m.set k v) i = if i = k then v else mAt s.m i := fun i => mAt_set k v i (by omega)
  simp only [stC, e]
  rcases nat16 h with rfl | rfl | rfl | rfl | rfl | rfl | rfl | rfl | rfl | rfl | rfl | rfl | rfl | rfl | rfl | rfl <;> rfl
theorem st_one (s : St) : (stC s).all (·.oneCell') = true := by simp [stC, Value.oneCell']
theorem st_size (s : St) : (stC s).size = 18 := rfl
theorem infoSt : (Tryd.prog.info? 42).map (·.size) = some 18 := by kernel_rfl

/-! ### Rows of a call's own: one that has been written -/
/-- 'w' is written in one row alone, which then holds 'o'. -/
structure RowPut (w w' : World) (g : Nat) (o : Obj) : Prop where
  os : w'.os = w.os
  tape : w'.tape = w.tape
  output : w'.output = w.output
  size : w'.heap.size = w.heap.size
  row : w'.heap[g]? = some o
  rest : ∀ k, k ≠ g → w'.heap[k]? = w.heap[k]?
theorem RowPut.below {w w' a : World} {g B : Nat} {o : Obj} (h : RowPut w w' g o) (hb : Below B a w) (hg : B ≤ g) : Below B a w' :=
  ⟨h.os.trans hb.os, h.tape.trans hb.tape, h.output.trans hb.output, by rw [h.size]; exact hb.size, fun k hk => (h.rest k (by omega)).trans (hb.block k hk)⟩
theorem RowPut.keep {w w' : World} {g k : Nat} {o o' : Obj} (h : RowPut w w' g o) (hk : k ≠ g) (ho : w.heap[k]? = some o') : w'.heap[k]? = some o' := (h.rest k hk).trans ho
theorem rowPut_set {w : World} {g : Nat} {old : Array Value} {t : TypeId} (hg : w.heap[g]? = some (.cells old t)) (cs : Array Value) : RowPut w (w.setRow g cs) g (.cells cs t) :=
  ⟨rfl, rfl, rfl, by unfold World.setRow; simp, setRow_heap w g old cs t (0, 0) hg, fun k hk => setRow_other w g k cs hk⟩
section
variable {ops : Array Oper} {rest : List Oper} {o : Oper} {a : Act} {w : World} {Q : Exit → Act → World → Prop}
/-- A whole state is read. -/
theorem ld_st {g : Nat} {s : St} {x : Operand} (hG : w.heap[g]? = some (stB s)) (hgd : o.guard = none) (ho : o.op = .load 42 x) (hx : a.eval x = .pointer (some ⟨g, 0, none⟩))
    (h : wpList Tryd.prog ops Q rest (a.put o.dst s.val) w) : wpList Tryd.prog ops Q (o :: rest) a w :=
  wpList_load_row hgd 42 x ho g hx 42 (stC s) (0, 0) _ hG Tryd.underlying42 rfl (by rw [st_size]; exact infoSt) h
/-- A whole state is written. -/
theorem st_st {g : Nat} {s : St} {old : Array Value} {x y : Operand} (hG : w.heap[g]? = some (.cells old 42)) (hold : old.size = 18) (hgd : o.guard = none) (ho : o.op = .store 42 x y) (hx : a.eval x = .pointer (some ⟨g, 0, none⟩)) (hy : a.eval y = s.val)
    (h : ∀ w', RowPut w w' g (stB s) → wpList Tryd.prog ops Q rest (a.put o.dst undef) w') : wpList Tryd.prog ops Q (o :: rest) a w :=
  wpList_store_row hgd 42 x y ho g (stC s) hx hy 42 old hG (by rw [st_size]; exact infoSt) (by rw [st_size]; exact hold) (st_one s) (h _ (rowPut_set hG _))
/-- One number of a state is written. -/
theorem st_fld {g i : Nat} {s s' : St} {v : Int} {x y : Operand} (hs : (stC s).setIfInBounds i (.int .u32 v) = stC s') (hG : w.heap[g]? = some (stB s)) (hi : i < 18) (hgd : o.guard = none) (ho : o.op = .store 22 x y) (hx : a.eval x = .pointer (some ⟨g, i, none⟩)) (hy : a.eval y = .int .u32 v)
    (h : ∀ w', RowPut w w' g (stB s') → wpList Tryd.prog ops Q rest (a.put o.dst undef) w') : wpList Tryd.prog ops Q (o :: rest) a w := by
  have hc : ∃ u, w.cell? ⟨g, i, none⟩ = some u := by
    rw [cell_in hG]
    exact ⟨(stC s)[i]'(by rw [st_size]; exact hi), Array.getElem?_eq_getElem _⟩
  obtain ⟨u, hu⟩ := hc
  have hf : w.frozen? ⟨g, i, none⟩ = false := free_in hG i
  have hsc : w.setCell ⟨g, i, none⟩ (.int .u32 v) = w.setRow g (stC s') := by rw [setCell_eq_setRow w g i _ _ _ _ hG, hs]
  have hk := h _ (rowPut_set hG (stC s'))
  rw [← hsc] at hk
  refine wpList_plain hgd fun K hK => ?_
  unfold Oper.wp execOp
  have hz : (sizeOf 22).run Tryd.prog w = .ok 1 w := by kernel_rfl
  simp [ho, hx, hy, Instr.storeAt, Instr.sureAddr, Sem.run_bind, storeVar, hz, Value.cells, storeCells, Result.andThen]
  have hadd : (⟨g, i, none⟩ : Addr).add 0 = ⟨g, i, none⟩ := by unfold Addr.add; split <;> simp_all
  rw [hadd, run_store _ _ _ _ _ rfl, hu]
  simp only [hf, Bool.false_eq_true, if_false]
  exact hK _ _ hk
/-- The results: a state in a cell, and a bool. -/
theorem results_st {fn : Func} {p q : Tmp} (h : fn.results = #[.cell p 42, .tmp q]) {tmps : Array Value} {g : Nat} {s : St} {b : Bool}
    (hp : tmps.getD p undef = .pointer (some ⟨g, 0, none⟩)) (hq : tmps.getD q undef = .bool b) (hG : w.heap[g]? = some (stB s)) : (results fn tmps).run Tryd.prog w = .ok (.tuple #[s.val, .bool b]) w := by
  have hp' : tmps[p]?.getD undef = .pointer (some ⟨g, 0, none⟩) := by simpa using hp
  have hq' : tmps[q]?.getD undef = .bool b := by simpa using hq
  simp [results, h, hp', hq', asAddr, run_loadVar_row w g 42 42 (stC s) (0, 0) _ hG Tryd.underlying42 rfl (by rw [st_size]; exact infoSt)]
theorem results_st1 {fn : Func} {p : Tmp} (h : fn.results = #[.cell p 42]) {tmps : Array Value} {g : Nat} {s : St}
    (hp : tmps.getD p undef = .pointer (some ⟨g, 0, none⟩)) (hG : w.heap[g]? = some (stB s)) : (results fn tmps).run Tryd.prog w = .ok s.val w :=
  results_cell_row h tmps w g 42 (stC s) (0, 0) _ hp hG Tryd.underlying42 rfl (by rw [st_size]; exact infoSt)
end
theorem ka {w : World} {g : Nat} {o : Obj} (o' : Obj) (h : w.heap[g]? = some o) : (w.alloc o').heap[g]? = some o := (Below.heap_alloc w o' g (lt_of_block h)).trans h

theorem kb {w w' : World} {g : Nat} {o : Obj} (hb : Below w.heap.size w w') (h : w.heap[g]? = some o) : w'.heap[g]? = some o := (hb.block _ (lt_of_block h)).trans h
/-- Blocks that a call lays at its head. -/
theorem box2 (w : World) (A B : Obj) : ∃ W, W = (w.alloc A).alloc B ∧ W.heap[w.heap.size]? = some A ∧ W.heap[w.heap.size + 1]? = some B ∧ Below w.heap.size w W :=
  ⟨_, rfl, ka _ (heap_alloc_new _ _), by have h := heap_alloc_new (w.alloc A) B; rw [size_alloc] at h; exact h, ba _ (ba _ (Below.refl _ _))⟩
theorem box3 (w : World) (A B C : Obj) : ∃ W, W = ((w.alloc A).alloc B).alloc C ∧ W.heap[w.heap.size]? = some A ∧ W.heap[w.heap.size + 1]? = some B ∧ W.heap[w.heap.size + 2]? = some C ∧ Below w.heap.size w W := by
  obtain ⟨W, hW, h0, h1, hb⟩ := box2 w A B
  refine ⟨_, rfl, ?_, ?_, ?_, ?_⟩
  · rw [← hW]; exact ka _ h0
  · rw [← hW]; exact ka _ h1
  · have h := heap_alloc_new ((w.alloc A).alloc B) C
    rw [size_alloc, size_alloc] at h
    exact h
  · rw [← hW]; exact ba _ hb
theorem box4 (w : World) (A B C D : Obj) : ∃ W, W = (((w.alloc A).alloc B).alloc C).alloc D ∧ W.heap[w.heap.size]? = some A ∧ W.heap[w.heap.size + 1]? = some B ∧ W.heap[w.heap.size + 2]? = some C ∧ W.heap[w.heap.size + 3]? = some D ∧ Below w.heap.size w W := by
  obtain ⟨W, hW, h0, h1, h2, hb⟩ := box3 w A B C
  refine ⟨_, rfl, ?_, ?_, ?_, ?_, ?_⟩
  · rw [← hW]; exact ka _ h0
  · rw [← hW]; exact ka _ h1
  · rw [← hW]; exact ka _ h2
  · have h := heap_alloc_new (((w.alloc A).alloc B).alloc C) D
    rw [size_alloc, size_alloc, size_alloc] at h
    exact h
  · rw [← hW]; exact ba _ hb

theorem cell_any (s : St) (k : Nat) (w : World) (hs : s.ok) (hk : k < 4294967296) :
    Calls Tryd.prog 37 #[s.val, .int .u32 k] w fun e w' => e = .returned (.int .u32 (mAt s.m k : Nat)) ∧ Below w.heap.size w w' := by
  by_cases h : 16 ≤ k
  · have HE : Hid (mAt s.m k = 0) := Lib.hid (mAt_out (by have := hs.2.2.1; omega))
    have h1 : (16 : Int) ≤ (k : Int) := by omega
    clear hs
    go_enter Tryd.func37, Tryd.ntmps37
    go_wp2_with fail
    go_ret
    exact ⟨by rw [HE.out]; rfl, ba _ (Below.refl _ _)⟩
  · have h16 : k < 16 := by omega
    have h1 : ¬ (16 : Int) ≤ (k : Int) := by omega
    have hc : (w.alloc (stB s)).cell? ⟨w.heap.size, 2 + k, none⟩ = some (.int .u32 (mAt s.m k : Nat)) := by
      rw [cell_in (heap_alloc_new _ _), st_m s h16]
    have hm := st_m s h16
    clear hs
    go_enter Tryd.func37, Tryd.ntmps37
    go_wp2_with fail
    go_ret
    exact ⟨rfl, ba _ (Below.refl _ _)⟩

theorem st_zero : (#[.int .u32 0, .int .u32 0, .int .u32 0, .int .u32 0, .int .u32 0, .int .u32 0, .int .u32 0, .int .u32 0, .int .u32 0, .int .u32 0, .int .u32 0, .int .u32 0, .int .u32 0, .int .u32 0, .int .u32 0, .int .u32 0, .int .u32 0, .int .u32 0] : Array Value) = stC zeroSt := rfl
set_option maxHeartbeats 1000000 in
theorem withCell_any (s : St) (k v : Nat) (w : World) (hs : s.ok) (hk : k < 4294967296) :
    Calls Tryd.prog 38 #[s.val, .int .u32 k, .int .u32 v] w fun e w' => e = .returned (⟨s.a, s.x, s.m.set k v⟩ : St).val ∧ Below w.heap.size w w' := by
  have hG := ka (stB zeroSt) (heap_alloc_new w (stB s))
  have hR := heap_alloc_new (w.alloc (stB s)) (stB zeroSt)
  have hb := ba (stB zeroSt) (ba (stB s) (Below.refl w.heap.size w))
  rw [size_alloc] at hR
  have hz := st_zero
  by_cases h : 16 ≤ k
  · have HE : Hid (s.m.set k v = s.m) := Lib.hid (List.set_eq_of_length_le (by have := hs.2.2.1; omega))
    have h1 : ¬ (k : Int) < 16 := by omega
    clear hs
    go_enter Tryd.func38, Tryd.ntmps38
    go_upto_region 1 with fail
    obtain ⟨W, hW⟩ : ∃ W, W = (w.alloc (stB s)).alloc (stB zeroSt) := ⟨_, rfl⟩
    rw [← hW] at hG hR hb ⊢
    have HG := Lib.hid hG
    have HR := Lib.hid hR
    have HB := Lib.hid hb
    clear hG hR hb hW
    go_wp2_with (first | (refine ld_st HG.out rfl rfl rfl ?_) | (refine st_st HR.out rfl rfl rfl rfl rfl ?_; intro W2 hp2; have HP2 := Lib.hid hp2; clear hp2))
    (try simp only [Exit.inBlock, Exit.then])
    exact bodyPost_ret (results_st1 rfl rfl HP2.out.row) rfl ⟨by rw [HE.out], HP2.out.below HB.out (by omega)⟩
  · have h16 : k < 16 := by omega
    have h1 : (k : Int) < 16 := by omega
    have HS := Lib.hid (set_m s v hs.2.2.1 h16)
    clear hs
    go_enter Tryd.func38, Tryd.ntmps38
    go_upto_region 1 with fail
    obtain ⟨W, hW⟩ : ∃ W, W = (w.alloc (stB s)).alloc (stB zeroSt) := ⟨_, rfl⟩
    rw [← hW] at hG hR hb ⊢
    have HG := Lib.hid hG
    have HR := Lib.hid hR
    have HB := Lib.hid hb
    clear hG hR hb hW
    go_wp2_with (first | (refine st_fld HS.out HG.out (by omega) rfl rfl rfl rfl ?_; intro W1 hp1; have HP1 := Lib.hid hp1; clear hp1) | (refine ld_st HP1.out.row rfl rfl rfl ?_) | (refine st_st (HP1.out.keep (by omega) HR.out) rfl rfl rfl rfl rfl ?_; intro W2 hp2; have HP2 := Lib.hid hp2; clear hp2))
    (try simp only [Exit.inBlock, Exit.then])
    exact bodyPost_ret (results_st1 rfl rfl HP2.out.row) rfl ⟨rfl, HP2.out.below (HP1.out.below HB.out (by omega)) (by omega)⟩
end Go.Proofs.YtmbegncnbjafdaaDoor
