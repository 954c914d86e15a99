/-
  Which filters are sound, plainly: the error of one instruction, of a filter, and where a run may go.
-/
import Derived.Test.YtmbegncnbjafdaaDoorCPlain
import Derived.Test.YtmbegncnbjafdaaDoorIAlu
import Derived.Maps.OwnSet
namespace Go.Proofs.YtmbegncnbjafdaaDoor
open Go.RowKit

def endsE (x : X4) : Bool := x.op == 6 || x.op == 22
/-- The error of an instruction that so many follow. -/
def oneE (x : X4) (left : Int) : Int :=
  if !x.right then 1
  else if x.op == 32 && (x.k % 4 != 0 || decide (60 < x.k)) then 6
  else if (x.op == 2 || x.op == 3 || x.op == 96 || x.op == 97) && decide (15 < x.k) then 7
  else if x.op == 52 && x.k == 0 then 8
  else if (x.op == 100 || x.op == 116) && decide (31 < x.k) then 1
  else if x.op == 5 && decide (left ≤ x.k) then 4
  else if isBranch x.op && (decide (left ≤ x.jt) || decide (left ≤ x.jf)) then 4
  else 0
def zeroX : X4 := ⟨0, 0, 0, 0⟩
/-- The error at a place of a filter. -/
def badAt (l : List X4) (i : Nat) : Int := oneE (l.getD i zeroX) ((l.length : Int) - 1 - i)
/-- All places ahead of one are right. -/
def goodTo (l : List X4) (n : Nat) : Prop := ∀ i, i < n → badAt l i = 0
def lastX (l : List X4) : X4 := l.getD (l.length - 1) zeroX
/-- What comes of a filter: the place, and the error. -/
def CheckIs (l : List X4) (p e : Int) : Prop :=
  (l.length = 0 ∧ p = 0 ∧ e = 5) ∨ (4096 < l.length ∧ p = 0 ∧ e = 3) ∨
  (0 < l.length ∧ l.length ≤ 4096 ∧ ∃ i : Nat, i < l.length ∧ goodTo l i ∧ badAt l i ≠ 0 ∧ p = i ∧ e = badAt l i) ∨
  (0 < l.length ∧ l.length ≤ 4096 ∧ goodTo l l.length ∧ endsE (lastX l) = false ∧ p = (l.length : Int) - 1 ∧ e = 5) ∨
  (0 < l.length ∧ l.length ≤ 4096 ∧ goodTo l l.length ∧ endsE (lastX l) = true ∧ p = 0 ∧ e = 0)
theorem goodTo_or (l : List X4) : ∀ n, goodTo l n ∨ ∃ i, i < n ∧ goodTo l i ∧ badAt l i ≠ 0
  | 0 => .inl fun i hi => by omega
  | n + 1 => by
    rcases goodTo_or l n with h | ⟨i, hi, hg, hb⟩
    · by_cases hb : badAt l n = 0
      · left
        intro i hi
        by_cases he : i = n
        · rw [he]; exact hb
        · exact h i (by omega)
      · exact .inr ⟨n, by omega, h, hb⟩
    · exact .inr ⟨i, by omega, hg, hb⟩
theorem check_is (l : List X4) : ∃ p e, CheckIs l p e := by
  by_cases h0 : l.length = 0
  · exact ⟨0, 5, .inl ⟨h0, rfl, rfl⟩⟩
  by_cases h1 : 4096 < l.length
  · exact ⟨0, 3, .inr (.inl ⟨h1, rfl, rfl⟩)⟩
  rcases goodTo_or l l.length with h | ⟨i, hi, hg, hb⟩
  · cases he : endsE (lastX l)
    · exact ⟨_, _, .inr (.inr (.inr (.inl ⟨by omega, by omega, h, he, rfl, rfl⟩)))⟩
    · exact ⟨_, _, .inr (.inr (.inr (.inr ⟨by omega, by omega, h, he, rfl, rfl⟩)))⟩
  · exact ⟨_, _, .inr (.inr (.inl ⟨by omega, by omega, i, hi, hg, hb, rfl, rfl⟩))⟩
theorem check_one {l : List X4} {p e p' e' : Int} (h : CheckIs l p e) (h' : CheckIs l p' e') : p = p' ∧ e = e' := by
  rcases h with ⟨a, rfl, rfl⟩ | ⟨a, rfl, rfl⟩ | ⟨a, b, i, hi, hg, hb, rfl, rfl⟩ | ⟨a, b, hg, he, rfl, rfl⟩ | ⟨a, b, hg, he, rfl, rfl⟩ <;>
    rcases h' with ⟨c, rfl, rfl⟩ | ⟨c, rfl, rfl⟩ | ⟨c, f, j, hj, hg', hb', rfl, rfl⟩ | ⟨c, f, hg', he', rfl, rfl⟩ | ⟨c, f, hg', he', rfl, rfl⟩ <;> try omega
  · rcases Nat.lt_trichotomy i j with h | h | h
    · exact absurd (hg' i h) hb
    · subst h; exact ⟨rfl, rfl⟩
    · exact absurd (hg j h) hb'
  · exact absurd (hg' i hi) hb
  · exact absurd (hg' i hi) hb
  · exact absurd (hg j hj) hb'
  · rw [he] at he'; cases he'
  · exact absurd (hg j hj) hb'
  · rw [he] at he'; cases he'
/-- A sound filter. -/
def SoundL (l : List X4) : Prop := 0 < l.length ∧ l.length ≤ 4096 ∧ goodTo l l.length ∧ endsE (lastX l) = true
theorem badAt_ne {l : List X4} {i : Nat} : badAt l i = 0 ∨ badAt l i = 1 ∨ badAt l i = 4 ∨ badAt l i = 6 ∨ badAt l i = 7 ∨ badAt l i = 8 := by
  unfold badAt oneE
  repeat' split
  all_goals simp
theorem sound_iff {l : List X4} {p e : Int} (h : CheckIs l p e) : e = 0 ↔ SoundL l := by
  unfold SoundL
  rcases h with ⟨a, rfl, rfl⟩ | ⟨a, rfl, rfl⟩ | ⟨a, b, i, hi, hg, hb, rfl, rfl⟩ | ⟨a, b, hg, he, rfl, rfl⟩ | ⟨a, b, hg, he, rfl, rfl⟩
  · constructor
    · intro h; omega
    · intro h; omega
  · constructor
    · intro h; omega
    · intro h; omega
  · constructor
    · intro h; exact absurd h hb
    · intro h; exact absurd (h.2.2.1 i hi) hb
  · constructor
    · intro h; omega
    · intro h; rw [he] at h; cases h.2.2.2
  · exact ⟨fun _ => ⟨a, b, hg, he⟩, fun _ => rfl⟩
/-- Nothing hangs on the filter but how many follow. -/
theorem one_right {x : X4} {n : Int} (h : oneE x n = 0) : x.right = true := by
  unfold oneE at h
  cases hr : x.right
  · rw [hr] at h; simp at h
  · rfl
theorem one_more {x : X4} {m n : Int} (h : oneE x m = 0) (hmn : m ≤ n) : oneE x n = 0 := by
  have hr := one_right h
  unfold oneE at h ⊢
  simp only [hr, Bool.not_true, Bool.false_eq_true, if_false] at h ⊢
  generalize (x.op == 32 && (x.k % 4 != 0 || decide (60 < x.k))) = c1 at h ⊢
  generalize ((x.op == 2 || x.op == 3 || x.op == 96 || x.op == 97) && decide (15 < x.k)) = c2 at h ⊢
  generalize (x.op == 52 && x.k == 0) = c3 at h ⊢
  generalize ((x.op == 100 || x.op == 116) && decide (31 < x.k)) = c4 at h ⊢
  cases c1 <;> cases c2 <;> cases c3 <;> cases c4 <;> simp only [if_true, if_false, Bool.false_eq_true] at h ⊢ <;> try (exact absurd h (by decide))
  by_cases a : (x.op == 5 && decide (m ≤ x.k)) = true
  · rw [if_pos a] at h
    exact absurd h (by decide)
  rw [if_neg a] at h
  by_cases b : (isBranch x.op && (decide (m ≤ x.jt) || decide (m ≤ x.jf))) = true
  · rw [if_pos b] at h
    exact absurd h (by decide)
  rw [if_neg, if_neg]
  · intro b'
    apply b
    simp only [Bool.and_eq_true, Bool.or_eq_true, decide_eq_true_eq] at b' ⊢
    exact ⟨b'.1, b'.2.imp (fun h => by omega) (fun h => by omega)⟩
  · intro a'
    apply a
    simp only [Bool.and_eq_true, decide_eq_true_eq] at a' ⊢
    exact ⟨a'.1, by omega⟩
theorem sound_app {f g : List X4} (hf : SoundL f) (hg : SoundL g) (hn : f.length + g.length ≤ 4096) : SoundL (f ++ g) := by
  obtain ⟨f0, f1, f2, f3⟩ := hf
  obtain ⟨g0, g1, g2, g3⟩ := hg
  refine ⟨by rw [List.length_append]; omega, by rw [List.length_append]; omega, fun i hi => ?_, ?_⟩
  · rw [List.length_append] at hi
    unfold badAt
    rw [List.length_append]
    by_cases h : i < f.length
    · have h1 := f2 i h
      unfold badAt at h1
      rw [List.getD_eq_getElem?_getD, List.getElem?_append_left h, ← List.getD_eq_getElem?_getD]
      exact one_more h1 (by omega)
    · have h1 := g2 (i - f.length) (by omega)
      unfold badAt at h1
      rw [List.getD_eq_getElem?_getD, List.getElem?_append_right (by omega), ← List.getD_eq_getElem?_getD]
      rw [show (((f.length + g.length : Nat) : Int) - 1 - (i : Int)) = (g.length : Int) - 1 - ((i - f.length : Nat) : Int) by omega]
      exact h1
  · unfold lastX at g3 ⊢
    rw [List.length_append, List.getD_eq_getElem?_getD, List.getElem?_append_right (by omega), ← List.getD_eq_getElem?_getD, show f.length + g.length - 1 - f.length = g.length - 1 by omega]
    exact g3
end Go.Proofs.YtmbegncnbjafdaaDoor

/-
  The conditions of package check, one by one: what readsWord, hasCell, hasDivisor, hasShift, jumpsInside and branchesInside answer.
-/
namespace Go.Proofs.YtmbegncnbjafdaaDoor
open Go.ChangeShapes Go.WideShapes Go.ChangeAt Go.RowKit
set_option maxRecDepth 20000

theorem hasCell_any (op jt jf k n : Int) (w : World) :
    Calls Tryd.prog 80 #[insV op jt jf k, .int .i64 n] w fun e w' => e = .returned (.bool (decide (k < 16))) ∧ Below w.heap.size w w' := by
  have hb := ba (insB op jt jf k) (Below.refl w.heap.size w)
  go_enter Tryd.func80, Tryd.ntmps80
  go_wp2
  go_ret
  exact ⟨rfl, hb⟩
theorem hasShift_any (op jt jf k n : Int) (w : World) :
    Calls Tryd.prog 82 #[insV op jt jf k, .int .i64 n] w fun e w' => e = .returned (.bool (decide (k < 32))) ∧ Below w.heap.size w w' := by
  have hb := ba (insB op jt jf k) (Below.refl w.heap.size w)
  go_enter Tryd.func82, Tryd.ntmps82
  go_wp2
  go_ret
  exact ⟨rfl, hb⟩
theorem hasDivisor_any (op jt jf k n : Int) (w : World) :
    Calls Tryd.prog 81 #[insV op jt jf k, .int .i64 n] w fun e w' => e = .returned (.bool (k != 0)) ∧ Below w.heap.size w w' := by
  have hb := ba (insB op jt jf k) (Below.refl w.heap.size w)
  go_enter Tryd.func81, Tryd.ntmps81
  go_wp2
  go_ret
  exact ⟨rfl, hb⟩
theorem jumpsInside_any (op jt jf k n : Int) (hk : 0 ≤ k) (hk' : k ≤ 4294967295) (hn : 0 ≤ n) (hn' : n ≤ 9223372036854775807) (w : World) :
    Calls Tryd.prog 83 #[insV op jt jf k, .int .i64 n] w fun e w' => e = .returned (.bool (decide (k < n))) ∧ Below w.heap.size w w' := by
  have hb := ba (insB op jt jf k) (Below.refl w.heap.size w)
  have h1 : IntKind.u64.wrap k = k := by rw [IntKind.wrap_u64]; omega
  have h2 : IntKind.u64.wrap n = n := by rw [IntKind.wrap_u64]; omega
  go_enter Tryd.func83, Tryd.ntmps83
  go_wp2
  go_ret
  exact ⟨rfl, hb⟩
theorem readsWord_any (op jt jf k n : Int) (w : World) :
    Calls Tryd.prog 79 #[insV op jt jf k, .int .i64 n] w fun e w' => e = .returned (.bool (k.tmod 4 == 0 && decide (k < 64))) ∧ Below w.heap.size w w' := by
  have hb := ba (insB op jt jf k) (Below.refl w.heap.size w)
  go_enter Tryd.func79, Tryd.ntmps79
  go_wp2
  all_goals go_ret
  · rename_i h
    exact ⟨ret1 (by rw [h]; rfl), hb⟩
  · rename_i h
    exact ⟨ret1 (by rw [show (k.tmod 4 == 0) = false by simpa using h]; rfl), hb⟩
theorem branchesInside_any (op jt jf k n : Int) (w : World) :
    Calls Tryd.prog 84 #[insV op jt jf k, .int .i64 n] w fun e w' => e = .returned (.bool (decide (jt < n) && decide (jf < n))) ∧ Below w.heap.size w w' := by
  have hb := ba (insB op jt jf k) (Below.refl w.heap.size w)
  have go : ∀ b : Bool, decide (jt < n) = b → Calls Tryd.prog 84 #[insV op jt jf k, .int .i64 n] w fun e w' => e = .returned (.bool (b && decide (jf < n))) ∧ Below w.heap.size w w' := by
    intro b h
    cases b
    · go_enter Tryd.func84, Tryd.ntmps84
      go_wp2
      go_ret
      exact ⟨rfl, hb⟩
    · go_enter Tryd.func84, Tryd.ntmps84
      go_wp2
      go_ret
      exact ⟨rfl, hb⟩
  exact go _ rfl
end Go.Proofs.YtmbegncnbjafdaaDoor

/-
  Conditions as function values: what unless makes, and what comes of calling it.
-/
namespace Go.Proofs.YtmbegncnbjafdaaDoor
open Go.ChangeShapes Go.WideShapes Go.ChangeAt Go.RowKit
set_option maxRecDepth 20000

/-- The conditions by number: whether they hold, which function tells it, and their errors. -/
def holdsB (c : Nat) (jt jf k n : Int) : Bool := match c with
  | 1 => k.tmod 4 == 0 && decide (k < 64)
  | 2 => decide (k < 16)
  | 3 => k != 0
  | 4 => decide (k < 32)
  | 5 => decide (k < n)
  | _ => decide (jt < n) && decide (jf < n)
def fnB (c : Nat) : Nat := match c with
  | 1 => 79
  | 2 => 80
  | 3 => 81
  | 4 => 82
  | 5 => 83
  | _ => 84
def errB (c : Nat) : Int := match c with
  | 1 => 6
  | 2 => 7
  | 3 => 8
  | 4 => 1
  | _ => 4
theorem holds_any (c : Nat) (op jt jf k n : Int) (hk : 0 ≤ k) (hk' : k ≤ 4294967295) (hn : 0 ≤ n) (hn' : n ≤ 9223372036854775807) (w : World) :
    Calls Tryd.prog (fnB c) #[insV op jt jf k, .int .i64 n] w fun e w' => e = .returned (.bool (holdsB c jt jf k n)) ∧ Below w.heap.size w w' := by
  unfold fnB holdsB
  split
  · exact readsWord_any op jt jf k n w
  · exact hasCell_any op jt jf k n w
  · exact hasDivisor_any op jt jf k n w
  · exact hasShift_any op jt jf k n w
  · exact jumpsInside_any op jt jf k n hk hk' hn hn' w
  · exact branchesInside_any op jt jf k n w

/-- A condition that was made: a function value with two captured variables. -/
def CondAt (w : World) (v : Value) (c : Nat) : Prop :=
  ∃ a b : Nat, v = .func (.func 94) #[] #[.pointer (some ⟨a, 0, none⟩), .pointer (some ⟨b, 0, none⟩)] ∧ w.cell? ⟨a, 0, none⟩ = some (.func (.func (fnB c)) #[] #[]) ∧ w.cell? ⟨b, 0, none⟩ = some (.int .i64 (errB c)) ∧ a < w.heap.size ∧ b < w.heap.size
theorem CondAt.below {w w' : World} {v : Value} {c : Nat} (h : CondAt w v c) (hb : Below w.heap.size w w') : CondAt w' v c := by
  obtain ⟨a, b, rfl, ha, hb', la, lb⟩ := h
  exact ⟨a, b, rfl, (hb.cell (p := ⟨a, _, none⟩) la).trans ha, (hb.cell (p := ⟨b, _, none⟩) lb).trans hb', Nat.lt_of_lt_of_le la hb.size, Nat.lt_of_lt_of_le lb hb.size⟩
def UnlessEnd (c : Nat) (w : World) (e : Ending) (w' : World) : Prop := ∃ v, e = .returned v ∧ CondAt w' v c ∧ Below w.heap.size w w'
theorem unless_any (c : Nat) (w : World) :
    Calls Tryd.prog 78 #[.func (.func (fnB c)) #[] #[], .int .i64 (errB c)] w (UnlessEnd c w) := by
  have hmf : ∀ (fn : Fn) (first cap : Array Value) (w : World), (Instr.makeFunc fn first cap).run Tryd.prog w = .ok (.func fn first cap) w := fun _ _ _ _ => rfl
  have hend : ∀ g ev, fnB c = g → errB c = ev → UnlessEnd c w (.returned (Value.func (.func 94) #[] #[.pointer (some ⟨w.heap.size, 0, none⟩), .pointer (some ⟨w.heap.size + 1, 0, none⟩)])) ((w.alloc (.cells #[.func (.func g) #[] #[]] 57)).alloc (.cells #[.int .i64 ev] 32)) := by
    rintro _ _ rfl rfl
    refine ⟨_, rfl, ⟨w.heap.size, w.heap.size + 1, rfl, ?_, ?_, ?_, ?_⟩, ba _ (ba _ (Below.refl _ _))⟩
    · have h1 := ba (.cells #[.int .i64 (errB c)] 32) (Below.refl (w.alloc (.cells #[.func (.func (fnB c)) #[] #[]] 57)).heap.size (w.alloc (.cells #[.func (.func (fnB c)) #[] #[]] 57)))
      exact (h1.cell (p := ⟨w.heap.size, 0, none⟩) (by rw [size_alloc]; exact Nat.lt_succ_self _)).trans (cell_in (heap_alloc_new w (.cells #[.func (.func (fnB c)) #[] #[]] 57)) 0)
    · have h2 := cell_in (heap_alloc_new (w.alloc (.cells #[.func (.func (fnB c)) #[] #[]] 57)) (.cells #[.int .i64 (errB c)] 32)) 0
      rw [size_alloc] at h2
      exact h2
    · rw [size_alloc, size_alloc]; omega
    · rw [size_alloc, size_alloc]; omega
  generalize hf : fnB c = g
  have HF := Lib.hid hf
  clear hf
  generalize he : errB c = ev
  have HE := Lib.hid he
  clear he
  go_enter Tryd.func78, Tryd.ntmps78
  go_wp2
  go_ret
  exact hend _ _ HF.out HE.out
theorem unless1_readsWord (q : Bool) (ev : Int) (op jt jf k n : Int) (HC : ∀ w, Calls Tryd.prog 79 #[insV op jt jf k, .int .i64 n] w fun e w' => e = .returned (.bool q) ∧ Below w.heap.size w w') (w : World) (a b : Nat) (ha : w.cell? ⟨a, 0, none⟩ = some (.func (.func 79) #[] #[])) (hb : w.cell? ⟨b, 0, none⟩ = some (.int .i64 ev)) (la : a < w.heap.size) (lb : b < w.heap.size) :
    Calls Tryd.prog 94 #[insV op jt jf k, .int .i64 n, .pointer (some ⟨a, 0, none⟩), .pointer (some ⟨b, 0, none⟩)] w fun e w' => e = .returned (.int .i64 (if q then 0 else ev)) ∧ Below w.heap.size w w' := by
  have HB0 := Lib.hid (ba (insB op jt jf k) (Below.refl w.heap.size w))
  have ha1 := (HB0.out.cell (p := ⟨a, 0, none⟩) la).trans ha
  have HG := Lib.hid hb
  clear ha hb
  go_enter Tryd.func94, Tryd.ntmps94
  go_wp2_with fail
  refine (HC _).mono ?_
  rintro e w1 ⟨rfl, hb1⟩
  have HB1 := Lib.hid (HB0.out.trans (hb1.mono HB0.out.size))
  have hb2 := (HB1.out.cell (p := ⟨b, 0, none⟩) lb).trans HG.out
  clear hb1 ha1
  cases q
  · go_wp2_with fail
    go_ret
    exact ⟨rfl, HB1.out⟩
  · go_wp2_with fail
    go_ret
    exact ⟨rfl, HB1.out⟩
theorem unless1_hasCell (q : Bool) (ev : Int) (op jt jf k n : Int) (HC : ∀ w, Calls Tryd.prog 80 #[insV op jt jf k, .int .i64 n] w fun e w' => e = .returned (.bool q) ∧ Below w.heap.size w w') (w : World) (a b : Nat) (ha : w.cell? ⟨a, 0, none⟩ = some (.func (.func 80) #[] #[])) (hb : w.cell? ⟨b, 0, none⟩ = some (.int .i64 ev)) (la : a < w.heap.size) (lb : b < w.heap.size) :
    Calls Tryd.prog 94 #[insV op jt jf k, .int .i64 n, .pointer (some ⟨a, 0, none⟩), .pointer (some ⟨b, 0, none⟩)] w fun e w' => e = .returned (.int .i64 (if q then 0 else ev)) ∧ Below w.heap.size w w' := by
  have HB0 := Lib.hid (ba (insB op jt jf k) (Below.refl w.heap.size w))
  have ha1 := (HB0.out.cell (p := ⟨a, 0, none⟩) la).trans ha
  have HG := Lib.hid hb
  clear ha hb
  go_enter Tryd.func94, Tryd.ntmps94
  go_wp2_with fail
  refine (HC _).mono ?_
  rintro e w1 ⟨rfl, hb1⟩
  have HB1 := Lib.hid (HB0.out.trans (hb1.mono HB0.out.size))
  have hb2 := (HB1.out.cell (p := ⟨b, 0, none⟩) lb).trans HG.out
  clear hb1 ha1
  cases q
  · go_wp2_with fail
    go_ret
    exact ⟨rfl, HB1.out⟩
  · go_wp2_with fail
    go_ret
    exact ⟨rfl, HB1.out⟩
theorem unless1_hasDivisor (q : Bool) (ev : Int) (op jt jf k n : Int) (HC : ∀ w, Calls Tryd.prog 81 #[insV op jt jf k, .int .i64 n] w fun e w' => e = .returned (.bool q) ∧ Below w.heap.size w w') (w : World) (a b : Nat) (ha : w.cell? ⟨a, 0, none⟩ = some (.func (.func 81) #[] #[])) (hb : w.cell? ⟨b, 0, none⟩ = some (.int .i64 ev)) (la : a < w.heap.size) (lb : b < w.heap.size) :
    Calls Tryd.prog 94 #[insV op jt jf k, .int .i64 n, .pointer (some ⟨a, 0, none⟩), .pointer (some ⟨b, 0, none⟩)] w fun e w' => e = .returned (.int .i64 (if q then 0 else ev)) ∧ Below w.heap.size w w' := by
  have HB0 := Lib.hid (ba (insB op jt jf k) (Below.refl w.heap.size w))
  have ha1 := (HB0.out.cell (p := ⟨a, 0, none⟩) la).trans ha
  have HG := Lib.hid hb
  clear ha hb
  go_enter Tryd.func94, Tryd.ntmps94
  go_wp2_with fail
  refine (HC _).mono ?_
  rintro e w1 ⟨rfl, hb1⟩
  have HB1 := Lib.hid (HB0.out.trans (hb1.mono HB0.out.size))
  have hb2 := (HB1.out.cell (p := ⟨b, 0, none⟩) lb).trans HG.out
  clear hb1 ha1
  cases q
  · go_wp2_with fail
    go_ret
    exact ⟨rfl, HB1.out⟩
  · go_wp2_with fail
    go_ret
    exact ⟨rfl, HB1.out⟩
theorem unless1_hasShift (q : Bool) (ev : Int) (op jt jf k n : Int) (HC : ∀ w, Calls Tryd.prog 82 #[insV op jt jf k, .int .i64 n] w fun e w' => e = .returned (.bool q) ∧ Below w.heap.size w w') (w : World) (a b : Nat) (ha : w.cell? ⟨a, 0, none⟩ = some (.func (.func 82) #[] #[])) (hb : w.cell? ⟨b, 0, none⟩ = some (.int .i64 ev)) (la : a < w.heap.size) (lb : b < w.heap.size) :
    Calls Tryd.prog 94 #[insV op jt jf k, .int .i64 n, .pointer (some ⟨a, 0, none⟩), .pointer (some ⟨b, 0, none⟩)] w fun e w' => e = .returned (.int .i64 (if q then 0 else ev)) ∧ Below w.heap.size w w' := by
  have HB0 := Lib.hid (ba (insB op jt jf k) (Below.refl w.heap.size w))
  have ha1 := (HB0.out.cell (p := ⟨a, 0, none⟩) la).trans ha
  have HG := Lib.hid hb
  clear ha hb
  go_enter Tryd.func94, Tryd.ntmps94
  go_wp2_with fail
  refine (HC _).mono ?_
  rintro e w1 ⟨rfl, hb1⟩
  have HB1 := Lib.hid (HB0.out.trans (hb1.mono HB0.out.size))
  have hb2 := (HB1.out.cell (p := ⟨b, 0, none⟩) lb).trans HG.out
  clear hb1 ha1
  cases q
  · go_wp2_with fail
    go_ret
    exact ⟨rfl, HB1.out⟩
  · go_wp2_with fail
    go_ret
    exact ⟨rfl, HB1.out⟩
theorem unless1_jumpsInside (q : Bool) (ev : Int) (op jt jf k n : Int) (HC : ∀ w, Calls Tryd.prog 83 #[insV op jt jf k, .int .i64 n] w fun e w' => e = .returned (.bool q) ∧ Below w.heap.size w w') (w : World) (a b : Nat) (ha : w.cell? ⟨a, 0, none⟩ = some (.func (.func 83) #[] #[])) (hb : w.cell? ⟨b, 0, none⟩ = some (.int .i64 ev)) (la : a < w.heap.size) (lb : b < w.heap.size) :
    Calls Tryd.prog 94 #[insV op jt jf k, .int .i64 n, .pointer (some ⟨a, 0, none⟩), .pointer (some ⟨b, 0, none⟩)] w fun e w' => e = .returned (.int .i64 (if q then 0 else ev)) ∧ Below w.heap.size w w' := by
  have HB0 := Lib.hid (ba (insB op jt jf k) (Below.refl w.heap.size w))
  have ha1 := (HB0.out.cell (p := ⟨a, 0, none⟩) la).trans ha
  have HG := Lib.hid hb
  clear ha hb
  go_enter Tryd.func94, Tryd.ntmps94
  go_wp2_with fail
  refine (HC _).mono ?_
  rintro e w1 ⟨rfl, hb1⟩
  have HB1 := Lib.hid (HB0.out.trans (hb1.mono HB0.out.size))
  have hb2 := (HB1.out.cell (p := ⟨b, 0, none⟩) lb).trans HG.out
  clear hb1 ha1
  cases q
  · go_wp2_with fail
    go_ret
    exact ⟨rfl, HB1.out⟩
  · go_wp2_with fail
    go_ret
    exact ⟨rfl, HB1.out⟩
theorem unless1_branchesInside (q : Bool) (ev : Int) (op jt jf k n : Int) (HC : ∀ w, Calls Tryd.prog 84 #[insV op jt jf k, .int .i64 n] w fun e w' => e = .returned (.bool q) ∧ Below w.heap.size w w') (w : World) (a b : Nat) (ha : w.cell? ⟨a, 0, none⟩ = some (.func (.func 84) #[] #[])) (hb : w.cell? ⟨b, 0, none⟩ = some (.int .i64 ev)) (la : a < w.heap.size) (lb : b < w.heap.size) :
    Calls Tryd.prog 94 #[insV op jt jf k, .int .i64 n, .pointer (some ⟨a, 0, none⟩), .pointer (some ⟨b, 0, none⟩)] w fun e w' => e = .returned (.int .i64 (if q then 0 else ev)) ∧ Below w.heap.size w w' := by
  have HB0 := Lib.hid (ba (insB op jt jf k) (Below.refl w.heap.size w))
  have ha1 := (HB0.out.cell (p := ⟨a, 0, none⟩) la).trans ha
  have HG := Lib.hid hb
  clear ha hb
  go_enter Tryd.func94, Tryd.ntmps94
  go_wp2_with fail
  refine (HC _).mono ?_
  rintro e w1 ⟨rfl, hb1⟩
  have HB1 := Lib.hid (HB0.out.trans (hb1.mono HB0.out.size))
  have hb2 := (HB1.out.cell (p := ⟨b, 0, none⟩) lb).trans HG.out
  clear hb1 ha1
  cases q
  · go_wp2_with fail
    go_ret
    exact ⟨rfl, HB1.out⟩
  · go_wp2_with fail
    go_ret
    exact ⟨rfl, HB1.out⟩
theorem unless1_any (c : Nat) (op jt jf k n : Int) (hk : 0 ≤ k) (hk' : k ≤ 4294967295) (hn : 0 ≤ n) (hn' : n ≤ 9223372036854775807) (w : World) (a b : Nat) (ha : w.cell? ⟨a, 0, none⟩ = some (.func (.func (fnB c)) #[] #[])) (hb : w.cell? ⟨b, 0, none⟩ = some (.int .i64 (errB c))) (la : a < w.heap.size) (lb : b < w.heap.size) :
    Calls Tryd.prog 94 #[insV op jt jf k, .int .i64 n, .pointer (some ⟨a, 0, none⟩), .pointer (some ⟨b, 0, none⟩)] w fun e w' => e = .returned (.int .i64 (if holdsB c jt jf k n then 0 else errB c)) ∧ Below w.heap.size w w' := by
  have HC := holds_any c op jt jf k n hk hk' hn hn'
  generalize holdsB c jt jf k n = q at *
  generalize errB c = ev at *
  unfold fnB at HC ha
  split at HC
  · exact unless1_readsWord q ev op jt jf k n HC w a b ha hb la lb
  · exact unless1_hasCell q ev op jt jf k n HC w a b ha hb la lb
  · exact unless1_hasDivisor q ev op jt jf k n HC w a b ha hb la lb
  · exact unless1_hasShift q ev op jt jf k n HC w a b ha hb la lb
  · exact unless1_jumpsInside q ev op jt jf k n HC w a b ha hb la lb
  · rename_i h1 h2 h3 h4 h5
    have ha' : w.cell? ⟨a, 0, none⟩ = some (.func (.func 84) #[] #[]) := by
      rw [ha]
      split <;> first | contradiction | rfl
    exact unless1_branchesInside q ev op jt jf k n HC w a b ha' hb la lb
end Go.Proofs.YtmbegncnbjafdaaDoor
