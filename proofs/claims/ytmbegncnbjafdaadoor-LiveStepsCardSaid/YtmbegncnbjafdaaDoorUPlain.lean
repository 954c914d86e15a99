/-
  Runs of filters, plainly: states, what an instruction makes of one, which way a branch goes, and what comes of a run.
-/
import Derived.Test.YtmbegncnbjafdaaDoorKNextP
import Derived.Test.YtmbegncnbjafdaaDoorAluP
import Derived.Test.YtmbegncnbjafdaaDoorDWord
import Derived.Test.YtmbegncnbjafdaaDoorUState
namespace Go.Proofs.YtmbegncnbjafdaaDoor
open Go.RowKit

/-- What arithmetic takes beside A. -/
def argS (s : St) (x : X4) : Int := if aluX x.op then (s.x : Int) else x.k
/-- Whether the run goes on. -/
def goesS (s : St) (x : X4) : Bool := !aluB x.op || Wd.doB (aluV x.op) (argS s x)
/-- The state behind an instruction, if the run goes on. -/
def stepS (s : St) (x : X4) (d : Rec) : St :=
  if aluB x.op then (if goesS s x then ⟨(Wd.doV (aluV x.op) s.a (argS s x)).toNat, s.x, s.m⟩ else s)
  else if x.op = 0 then ⟨x.k.toNat, s.x, s.m⟩
  else if x.op = 1 then ⟨s.a, x.k.toNat, s.m⟩
  else if x.op = 32 then ⟨wordAtD d x.k.toNat, s.x, s.m⟩
  else if x.op = 96 then ⟨s.m.getD x.k.toNat 0, s.x, s.m⟩
  else if x.op = 97 then ⟨s.a, s.m.getD x.k.toNat 0, s.m⟩
  else if x.op = 2 then ⟨s.a, s.x, s.m.set x.k.toNat s.a⟩
  else if x.op = 3 then ⟨s.a, s.x, s.m.set x.k.toNat s.x⟩
  else if x.op = 7 then ⟨s.a, s.a, s.m⟩
  else if x.op = 135 then ⟨s.x, s.x, s.m⟩
  else if x.op = 132 then ⟨((-(s.a : Int)) % 4294967296).toNat, s.x, s.m⟩
  else s
/-- Which way a branch goes. -/
def takesS (s : St) (x : X4) : Bool :=
  if x.op = 21 then (s.a : Int) == x.k else if x.op = 37 then decide (x.k < s.a) else if x.op = 53 then decide (x.k ≤ s.a) else if x.op = 69 then bits .and .u32 (s.a : Int) x.k != 0
  else if x.op = 29 then s.a == s.x else if x.op = 45 then decide (s.x < s.a) else if x.op = 61 then decide (s.x ≤ s.a) else if x.op = 77 then bits .and .u32 (s.a : Int) (s.x : Int) != 0
  else false
/-- Where the run goes on. -/
def placeS (s : St) (x : X4) (p : Nat) : Nat := p + 1 + (if x.op = 5 then x.k.toNat else if isBranch x.op then (if takesS s x then x.jt.toNat else x.jf.toNat) else 0)
/-- What comes of a run of at most so many instructions, and how many were done. -/
def fromS (f : List X4) (d : Rec) : Nat → St → Nat → Nat × Nat
  | 0, _, _ => (0, 0)
  | n + 1, s, p =>
    let x := f.getD p zeroX
    if x.op = 6 then (x.k.toNat, 1) else if x.op = 22 then (s.a, 1) else if goesS s x = false then (0, 1)
    else ((fromS f d n (stepS s x d) (placeS s x p)).1, (fromS f d n (stepS s x d) (placeS s x p)).2 + 1)
theorem fromS_succ (f : List X4) (d : Rec) (n : Nat) (s : St) (p : Nat) : fromS f d (n + 1) s p = if (f.getD p zeroX).op = 6 then ((f.getD p zeroX).k.toNat, 1) else if (f.getD p zeroX).op = 22 then (s.a, 1) else if goesS s (f.getD p zeroX) = false then (0, 1)
    else ((fromS f d n (stepS s (f.getD p zeroX) d) (placeS s (f.getD p zeroX) p)).1, (fromS f d n (stepS s (f.getD p zeroX) d) (placeS s (f.getD p zeroX) p)).2 + 1) := rfl
def runS (f : List X4) (d : Rec) : Nat × Nat := fromS f d f.length zeroSt 0

theorem doV_nat {k a b : Int} (h0 : 0 ≤ a) (h1 : a ≤ 4294967295) (h2 : 0 ≤ b) : (Wd.doV k a b).toNat ≤ 4294967295 := by
  have := Wd.doV_bd k a b h0 h1 h2
  omega
theorem argS_bd {s : St} {x : X4} (hs : s.ok) (hx : x.ok) : 0 ≤ argS s x ∧ argS s x ≤ 4294967295 := by
  obtain ⟨_, h, _⟩ := hs
  obtain ⟨h0, h1⟩ := hx
  unfold argS
  split <;> omega
theorem wordAtD_le {d : Rec} (h : d.ok) (k : Nat) : wordAtD d k ≤ 4294967295 := by
  unfold wordAtD
  split
  · rw [List.getD_eq_getElem?_getD]
    cases hg : (wordsD d)[k / 4]? with
    | none => simp
    | some v =>
      have := words_lt h v (List.mem_of_getElem? hg)
      simp; omega
  · omega
theorem getD_le {l : List Nat} (h : ∀ v ∈ l, v ≤ 4294967295) (i : Nat) : l.getD i 0 ≤ 4294967295 := by
  rw [List.getD_eq_getElem?_getD]
  cases hg : l[i]? with
  | none => simp
  | some v => simpa using h v (List.mem_of_getElem? hg)
theorem set_le {l : List Nat} (h : ∀ v ∈ l, v ≤ 4294967295) (i a : Nat) (ha : a ≤ 4294967295) : ∀ v ∈ l.set i a, v ≤ 4294967295 := fun v hv => by
  rcases List.mem_or_eq_of_mem_set hv with h1 | rfl
  · exact h v h1
  · exact ha
theorem stepS_ok {s : St} {x : X4} {d : Rec} (hs : s.ok) (hx : x.ok) (hd : d.ok) : (stepS s x d).ok := by
  have hb := argS_bd hs hx
  obtain ⟨h1, h2, h3, h4⟩ := hs
  obtain ⟨k0, k1⟩ := hx
  have hk : x.k.toNat ≤ 4294967295 := by omega
  unfold stepS
  by_cases e : aluB x.op = true
  · rw [if_pos e]
    by_cases g : goesS s x = true
    · rw [if_pos g]; exact ⟨doV_nat (by omega) (by omega) hb.1, h2, h3, h4⟩
    · rw [if_neg g]; exact ⟨h1, h2, h3, h4⟩
  rw [if_neg e]
  by_cases e0 : x.op = 0
  · rw [if_pos e0]; exact ⟨hk, h2, h3, h4⟩
  rw [if_neg e0]
  by_cases e1 : x.op = 1
  · rw [if_pos e1]; exact ⟨h1, hk, h3, h4⟩
  rw [if_neg e1]
  by_cases e32 : x.op = 32
  · rw [if_pos e32]; exact ⟨wordAtD_le hd _, h2, h3, h4⟩
  rw [if_neg e32]
  by_cases e96 : x.op = 96
  · rw [if_pos e96]; exact ⟨getD_le h4 _, h2, h3, h4⟩
  rw [if_neg e96]
  by_cases e97 : x.op = 97
  · rw [if_pos e97]; exact ⟨h1, getD_le h4 _, h3, h4⟩
  rw [if_neg e97]
  by_cases e2 : x.op = 2
  · rw [if_pos e2]; exact ⟨h1, h2, by rw [List.length_set]; exact h3, set_le h4 _ _ h1⟩
  rw [if_neg e2]
  by_cases e3 : x.op = 3
  · rw [if_pos e3]; exact ⟨h1, h2, by rw [List.length_set]; exact h3, set_le h4 _ _ h2⟩
  rw [if_neg e3]
  by_cases e7 : x.op = 7
  · rw [if_pos e7]; exact ⟨h1, h1, h3, h4⟩
  rw [if_neg e7]
  by_cases e135 : x.op = 135
  · rw [if_pos e135]; exact ⟨h2, h2, h3, h4⟩
  rw [if_neg e135]
  by_cases e132 : x.op = 132
  · rw [if_pos e132]; exact ⟨by simp only; omega, h2, h3, h4⟩
  rw [if_neg e132]; exact ⟨h1, h2, h3, h4⟩
/-- The next place is one where a run may go. -/
theorem placeS_next {s : St} {x : X4} {p : Nat} (hr : x.right = true) (hx : x.ok) (he : endsE x = false) : ((placeS s x p : Nat) : Int) ∈ nextX x p := by
  obtain ⟨j0, j1, _, _⟩ := right_jumps hr
  have hk := hx.1
  unfold placeS nextX
  rw [he]
  simp only [Bool.false_eq_true, if_false]
  by_cases h5 : x.op = 5
  · have : (x.op == 5) = true := by simpa using h5
    rw [this, if_pos h5]
    simp only [if_true, List.mem_singleton]
    omega
  · have : (x.op == 5) = false := by simpa using h5
    rw [this, if_neg h5]
    simp only [Bool.false_eq_true, if_false]
    cases isBranch x.op
    · simp
    · simp only [if_true]
      by_cases hJ : x.jt = x.jf
      · have : (x.jt == x.jf) = true := by simpa using hJ
        rw [this]
        simp only [if_true, List.mem_singleton]
        split <;> omega
      · have : (x.jt == x.jf) = false := by simpa using hJ
        rw [this]
        simp only [Bool.false_eq_true, if_false, List.mem_cons, List.not_mem_nil, or_false]
        split <;> omega
theorem ends_op {x : X4} : endsE x = false ↔ ¬ x.op = 6 ∧ ¬ x.op = 22 := by
  unfold endsE
  simp
/-- In a sound filter, from each place on: the next place is behind, and within. -/
theorem placeS_in {f : List X4} (hs : SoundL f) (hok : ∀ x ∈ f, x.ok) {p : Nat} (hp : p < f.length) (s : St) (he : endsE (f.getD p zeroX) = false) : p < placeS s (f.getD p zeroX) p ∧ placeS s (f.getD p zeroX) p < f.length := by
  rw [getD_at hp] at he ⊢
  have hb := hs.2.2.1 p hp
  rw [badAt_at hp] at hb
  have h := next_in hs hok hp _ (placeS_next (s := s) (p := p) (one_right hb) (hok _ (List.getElem_mem hp)) he)
  omega
/-- A sound filter's run hangs not on how many instructions it may take, if these are enough. -/
theorem fromS_more {f : List X4} (hs : SoundL f) (hok : ∀ x ∈ f, x.ok) (d : Rec) : ∀ (n m : Nat) (s : St) (p : Nat), p < f.length → f.length - p ≤ n → f.length - p ≤ m → fromS f d n s p = fromS f d m s p
  | 0, _, _, _, h, h1, _ => by omega
  | _, 0, _, _, h, _, h2 => by omega
  | n + 1, m + 1, s, p, h, h1, h2 => by
    unfold fromS
    simp only
    by_cases h6 : (f.getD p zeroX).op = 6
    · rw [if_pos h6, if_pos h6]
    by_cases h22 : (f.getD p zeroX).op = 22
    · rw [if_neg h6, if_neg h6, if_pos h22, if_pos h22]
    obtain ⟨q1, q2⟩ := placeS_in hs hok h s (ends_op.2 ⟨h6, h22⟩)
    rw [fromS_more hs hok d n m _ _ q2 (by omega) (by omega)]
/-- At least one instruction is done, and at most as many as are left. -/
theorem fromS_len {f : List X4} (hs : SoundL f) (hok : ∀ x ∈ f, x.ok) (d : Rec) : ∀ (n : Nat) (s : St) (p : Nat), p < f.length → f.length - p ≤ n → 1 ≤ (fromS f d n s p).2 ∧ (fromS f d n s p).2 ≤ f.length - p
  | 0, _, _, h, h1 => by omega
  | n + 1, s, p, h, h1 => by
    unfold fromS
    simp only
    by_cases h6 : (f.getD p zeroX).op = 6
    · rw [if_pos h6]; simp only; omega
    by_cases h22 : (f.getD p zeroX).op = 22
    · rw [if_neg h6, if_pos h22]; simp only; omega
    obtain ⟨q1, q2⟩ := placeS_in hs hok h s (ends_op.2 ⟨h6, h22⟩)
    have ih := fromS_len hs hok d n (stepS s (f.getD p zeroX) d) (placeS s (f.getD p zeroX) p) q2 (by omega)
    rw [if_neg h6, if_neg h22]
    split
    · simp only; omega
    · simp only; omega
/-- What is no word that the filter loads makes no difference. -/
theorem fromS_word {f : List X4} {d d' : Rec} (h : ∀ x ∈ f, x.op = 32 → wordAtD d x.k.toNat = wordAtD d' x.k.toNat) : ∀ (n : Nat) (s : St) (p : Nat), fromS f d n s p = fromS f d' n s p
  | 0, _, _ => rfl
  | n + 1, s, p => by
    have hst : stepS s (f.getD p zeroX) d = stepS s (f.getD p zeroX) d' := by
      by_cases h32 : (f.getD p zeroX).op = 32
      · have hm : f.getD p zeroX ∈ f := by
          by_cases hp : p < f.length
          · rw [getD_at hp]; exact List.getElem_mem hp
          · rw [List.getD_eq_getElem?_getD, List.getElem?_eq_none (by omega)] at h32
            exact absurd h32 (by decide)
        unfold stepS
        rw [h _ hm h32]
      · unfold stepS
        simp only [if_neg h32]
    unfold fromS
    simp only
    rw [hst, fromS_word h n _ _]
theorem word_other {d : Rec} (hd : d.ok) {q v k : Nat} (hv : v < 4294967296) (h : k ≠ q) : wordAtD (withD d q v) k = wordAtD d k := by
  by_cases ha : hasW q = true
  · unfold wordAtD
    rw [withD_words hd hv ha]
    by_cases hk : hasW k = true
    · rw [if_pos hk, if_pos hk]
      unfold hasW at ha hk
      simp only [Bool.and_eq_true, beq_iff_eq, decide_eq_true_eq] at ha hk
      rw [List.getD_eq_getElem?_getD, List.getElem?_set_ne (by omega), List.getD_eq_getElem?_getD]
    · rw [if_neg hk, if_neg hk]
  · unfold withD
    rw [if_neg ha]
/-- What stands ahead, and is gone past, makes no difference. -/
theorem getD_behind (l f : List X4) (p : Nat) : (l ++ f).getD (l.length + p) zeroX = f.getD p zeroX := by
  rw [List.getD_eq_getElem?_getD, List.getElem?_append_right (by omega), List.getD_eq_getElem?_getD, Nat.add_sub_cancel_left]
theorem placeS_shift (s : St) (x : X4) (l p : Nat) : placeS s x (l + p) = l + placeS s x p := by unfold placeS; omega
theorem fromS_behind (l f : List X4) (d : Rec) : ∀ (n : Nat) (s : St) (p : Nat), fromS (l ++ f) d n s (l.length + p) = fromS f d n s p
  | 0, _, _ => rfl
  | n + 1, s, p => by
    unfold fromS
    simp only
    rw [getD_behind, placeS_shift, fromS_behind l f d n]
/-- What stands behind a sound filter makes no difference. -/
theorem fromS_front {f : List X4} (hs : SoundL f) (hok : ∀ x ∈ f, x.ok) (l : List X4) (d : Rec) : ∀ (n : Nat) (s : St) (p : Nat), p < f.length → fromS (f ++ l) d n s p = fromS f d n s p
  | 0, _, _, _ => rfl
  | n + 1, s, p, h => by
    have e : (f ++ l).getD p zeroX = f.getD p zeroX := by
      rw [List.getD_eq_getElem?_getD, List.getElem?_append_left h, List.getD_eq_getElem?_getD]
    unfold fromS
    simp only
    rw [e]
    by_cases h6 : (f.getD p zeroX).op = 6
    · rw [if_pos h6, if_pos h6]
    by_cases h22 : (f.getD p zeroX).op = 22
    · rw [if_neg h6, if_neg h6, if_pos h22, if_pos h22]
    obtain ⟨q1, q2⟩ := placeS_in hs hok h s (ends_op.2 ⟨h6, h22⟩)
    rw [fromS_front hs hok l d n _ _ q2]
theorem run_behind {f l : List X4} (hs : SoundL f) (hok : ∀ x ∈ f, x.ok) (d : Rec) : runS (f ++ l) d = runS f d := by
  unfold runS
  rw [fromS_front hs hok l d _ _ _ hs.1]
  exact fromS_more hs hok d _ _ _ _ hs.1 (by rw [List.length_append]; omega) (by omega)
/-- A jump ahead, over what is never come to. -/
theorem alu5 : aluB 5 = false := by decide
theorem run_jump {f : List X4} (hs : SoundL f) (hok : ∀ x ∈ f, x.ok) (l : List X4) (d : Rec) : runS (⟨5, 0, 0, (l.length : Int)⟩ :: l ++ f) d = ((runS f d).1, (runS f d).2 + 1) := by
  have hg : goesS zeroSt ⟨5, 0, 0, (l.length : Int)⟩ = true := by unfold goesS; rw [alu5]; rfl
  have hp : placeS zeroSt ⟨5, 0, 0, (l.length : Int)⟩ 0 = (⟨5, 0, 0, (l.length : Int)⟩ :: l : List X4).length + 0 := by
    unfold placeS
    rw [if_pos rfl, List.length_cons]
    show 0 + 1 + (l.length : Int).toNat = _
    omega
  have hst : stepS zeroSt ⟨5, 0, 0, (l.length : Int)⟩ d = zeroSt := by
    unfold stepS
    rw [alu5]
    rfl
  unfold runS
  rw [show ((⟨5, 0, 0, (l.length : Int)⟩ :: l ++ f : List X4).length) = (l.length + f.length) + 1 by simp]
  rw [fromS_succ, show ((⟨5, 0, 0, (l.length : Int)⟩ :: l ++ f : List X4).getD 0 zeroX) = ⟨5, 0, 0, (l.length : Int)⟩ from rfl, hg, hp, hst]
  rw [if_neg (by simp), if_neg (by simp), if_neg (by simp)]
  rw [fromS_behind, fromS_more hs hok d _ f.length _ _ hs.1 (by omega) (by omega)]
end Go.Proofs.YtmbegncnbjafdaaDoor
