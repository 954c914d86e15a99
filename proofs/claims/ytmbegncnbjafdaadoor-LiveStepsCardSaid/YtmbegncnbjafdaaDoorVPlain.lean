/-
  What is needed of a state, plainly: what an instruction uses and sets, what is needed at a place, and that runs hang on nothing else.
-/
import Derived.Test.YtmbegncnbjafdaaDoorUPlain
namespace Go.Proofs.YtmbegncnbjafdaaDoor
open Go.RowKit

/-- A state's parts: 0 is A, 1 is X, 2 + i is cell i. -/
def partS (s : St) (i : Nat) : Nat := if i = 0 then s.a else if i = 1 then s.x else s.m.getD (i - 2) 0
def inL (n : Int) (l : List Int) : Bool := l.contains n
def usesP (x : X4) (i : Nat) : Bool :=
  if i = 0 then aluB x.op || isBranch x.op || inL x.op [2, 7, 132, 22]
  else if i = 1 then (aluB x.op && aluX x.op) || (isBranch x.op && x.op % 16 == 13) || inL x.op [3, 135]
  else (x.op == 96 || x.op == 97) && x.k.toNat + 2 == i
def setsP (x : X4) (i : Nat) : Bool :=
  if i = 0 then aluB x.op || inL x.op [0, 32, 96, 135, 132]
  else if i = 1 then inL x.op [1, 97, 7]
  else (x.op == 2 || x.op == 3) && x.k.toNat + 2 == i
/-- No arithmetic, and no branch, is another one. -/
def othersL : List Int := [0, 1, 2, 3, 5, 6, 7, 22, 32, 96, 97, 132, 135]
theorem op_kinds : ∀ i, i < 39 → (aluB (Ip.refOps.getD i 0) = true → isBranch (Ip.refOps.getD i 0) = false ∧ Ip.refOps.getD i 0 ∉ othersL) ∧ (isBranch (Ip.refOps.getD i 0) = true → Ip.refOps.getD i 0 ∉ othersL ∧ Ip.refOps.getD i 0 ∈ ([21, 37, 53, 69, 29, 45, 61, 77] : List Int)) := by decide
theorem alu_other {op : Int} (h : aluB op = true) : isBranch op = false ∧ op ∉ othersL := by
  rcases Ip.plc_cases op with ⟨i, hi, _, rfl, _, _⟩ | ⟨_, hb⟩
  · exact (op_kinds i hi).1 h
  · rw [(alu_none hb).2.2] at h; cases h
theorem branch_other {op : Int} (h : isBranch op = true) : op ∉ othersL ∧ op ∈ ([21, 37, 53, 69, 29, 45, 61, 77] : List Int) := by
  rcases Ip.plc_cases op with ⟨i, hi, _, rfl, _, _⟩ | ⟨_, hb⟩
  · exact (op_kinds i hi).2 h
  · unfold isBranch at h; rw [hb] at h; cases h
def agreeS (P : Nat → Bool) (s t : St) : Prop := ∀ i, i < 18 → P i = true → partS s i = partS t i
theorem agree_a {P : Nat → Bool} {s t : St} (h : agreeS P s t) (h0 : P 0 = true) : s.a = t.a := h 0 (by omega) h0
theorem agree_x {P : Nat → Bool} {s t : St} (h : agreeS P s t) (h1 : P 1 = true) : s.x = t.x := h 1 (by omega) h1
theorem agree_m {P : Nat → Bool} {s t : St} (h : agreeS P s t) (hs : s.m.length = 16) (ht : t.m.length = 16) (k : Nat) (hk : P (k + 2) = true) : s.m.getD k 0 = t.m.getD k 0 := by
  by_cases h16 : k < 16
  · have := h (k + 2) (by omega) hk
    unfold partS at this
    rw [if_neg (by omega), if_neg (by omega), if_neg (by omega), if_neg (by omega)] at this
    exact this
  · rw [List.getD_eq_getElem?_getD, List.getD_eq_getElem?_getD, List.getElem?_eq_none (by omega), List.getElem?_eq_none (by omega)]
theorem goes_agree {s t : St} {x : X4} (h : agreeS (usesP x) s t) : goesS s x = goesS t x := by
  unfold goesS
  by_cases hA : aluB x.op = true
  · have e : argS s x = argS t x := by
      unfold argS
      by_cases hX : aluX x.op = true
      · rw [if_pos hX, if_pos hX, agree_x h (by unfold usesP; simp [hA, hX])]
      · rw [if_neg hX, if_neg hX]
    rw [e]
  · have : aluB x.op = false := by simpa using hA
    rw [this]
    rfl
theorem takes_agree {s t : St} {x : X4} (h : agreeS (usesP x) s t) : takesS s x = takesS t x := by
  by_cases hB : isBranch x.op = true
  · have ha := agree_a h (by unfold usesP; simp [hB])
    have hx : x.op % 16 = 13 → s.x = t.x := fun h13 => agree_x h (by unfold usesP; simp [hB, h13])
    obtain ⟨_, hm⟩ := branch_other hB
    unfold takesS
    rw [ha]
    simp only [List.mem_cons, List.not_mem_nil, or_false] at hm
    rcases hm with e | e | e | e | e | e | e | e <;> rw [e] at hx ⊢ <;> first | rfl | (rw [hx (by decide)])
  · have h6 : ¬ kindOf x.op = 6 := fun h6 => hB (by rw [branch_kind, h6]; rfl)
    unfold takesS
    unfold kindOf at h6
    have hn : ¬ (x.op = 21 ∨ x.op = 37 ∨ x.op = 53 ∨ x.op = 69 ∨ x.op = 29 ∨ x.op = 45 ∨ x.op = 61 ∨ x.op = 77) := fun hh => hB (by rw [branch_kind]; rcases hh with e | e | e | e | e | e | e | e <;> rw [e] <;> decide)
    simp only [not_or] at hn
    obtain ⟨n1, n2, n3, n4, n5, n6, n7, n8⟩ := hn
    rw [if_neg n1, if_neg n2, if_neg n3, if_neg n4, if_neg n5, if_neg n6, if_neg n7, if_neg n8, if_neg n1, if_neg n2, if_neg n3, if_neg n4, if_neg n5, if_neg n6, if_neg n7, if_neg n8]
/-- The parts behind a change of one cell. -/
theorem part_set {a x : Nat} {m : List Nat} (k v i : Nat) (h : i ≠ k + 2) : partS ⟨a, x, m.set k v⟩ i = partS ⟨a, x, m⟩ i := by
  unfold partS
  by_cases h0 : i = 0
  · rw [if_pos h0, if_pos h0]
  by_cases h1 : i = 1
  · rw [if_neg h0, if_neg h0, if_pos h1, if_pos h1]
  rw [if_neg h0, if_neg h0, if_neg h1, if_neg h1, List.getD_eq_getElem?_getD, List.getElem?_set_ne (by omega), List.getD_eq_getElem?_getD]
theorem part_a {a a' x : Nat} {m : List Nat} {i : Nat} (h : i ≠ 0) : partS ⟨a', x, m⟩ i = partS ⟨a, x, m⟩ i := by
  unfold partS
  rw [if_neg h, if_neg h]
theorem part_x {a x x' : Nat} {m : List Nat} {i : Nat} (h : i ≠ 1) : partS ⟨a, x', m⟩ i = partS ⟨a, x, m⟩ i := by
  unfold partS
  by_cases h0 : i = 0
  · rw [if_pos h0, if_pos h0]
  · rw [if_neg h0, if_neg h0, if_neg h, if_neg h]
/-- What an instruction does not set stays. -/
theorem step_keeps {s : St} {x : X4} {d : Rec} {i : Nat} (h : setsP x i = false) : partS (stepS s x d) i = partS s i := by
  obtain ⟨a, xx, m⟩ := s
  have hi0 : (i = 0 → aluB x.op = false ∧ inL x.op [0, 32, 96, 135, 132] = false) := fun e => by
    unfold setsP at h; rw [if_pos e] at h; simpa using h
  have hi1 : (i = 1 → inL x.op [1, 97, 7] = false) := fun e => by
    unfold setsP at h; rw [if_neg (by omega), if_pos e] at h; exact h
  have hi2 : (2 ≤ i → x.op = 2 ∨ x.op = 3 → i ≠ x.k.toNat + 2) := fun e ho e2 => by
    unfold setsP at h; rw [if_neg (by omega), if_neg (by omega)] at h
    rcases ho with ho | ho <;> rw [ho, e2] at h <;> simp at h
  have na : aluB x.op = true → i ≠ 0 := fun e e0 => by rw [(hi0 e0).1] at e; cases e
  have n0 : ∀ o : Int, o ∈ ([0, 32, 96, 135, 132] : List Int) → x.op = o → i ≠ 0 := fun o ho e e0 => by
    have h2 := (hi0 e0).2
    unfold inL at h2
    rw [e] at h2
    rw [List.contains_iff_mem.2 ho] at h2
    cases h2
  have n1 : ∀ o : Int, o ∈ ([1, 97, 7] : List Int) → x.op = o → i ≠ 1 := fun o ho e e0 => by
    have h2 := hi1 e0
    unfold inL at h2
    rw [e] at h2
    rw [List.contains_iff_mem.2 ho] at h2
    cases h2
  have n2 : x.op = 2 ∨ x.op = 3 → i ≠ x.k.toNat + 2 := fun e e2 => hi2 (by omega) e e2
  unfold stepS
  by_cases e : aluB x.op = true
  · rw [if_pos e]
    split
    · exact part_a (na e)
    · rfl
  rw [if_neg e]
  by_cases e0 : x.op = 0
  · rw [if_pos e0]; exact part_a (n0 0 (by decide) e0)
  rw [if_neg e0]
  by_cases e1 : x.op = 1
  · rw [if_pos e1]; exact part_x (n1 1 (by decide) e1)
  rw [if_neg e1]
  by_cases e32 : x.op = 32
  · rw [if_pos e32]; exact part_a (n0 32 (by decide) e32)
  rw [if_neg e32]
  by_cases e96 : x.op = 96
  · rw [if_pos e96]; exact part_a (n0 96 (by decide) e96)
  rw [if_neg e96]
  by_cases e97 : x.op = 97
  · rw [if_pos e97]; exact part_x (n1 97 (by decide) e97)
  rw [if_neg e97]
  by_cases e2 : x.op = 2
  · rw [if_pos e2]; exact part_set _ _ _ (n2 (.inl e2))
  rw [if_neg e2]
  by_cases e3 : x.op = 3
  · rw [if_pos e3]; exact part_set _ _ _ (n2 (.inr e3))
  rw [if_neg e3]
  by_cases e7 : x.op = 7
  · rw [if_pos e7]; exact part_x (n1 7 (by decide) e7)
  rw [if_neg e7]
  by_cases e135 : x.op = 135
  · rw [if_pos e135]; exact part_a (n0 135 (by decide) e135)
  rw [if_neg e135]
  by_cases e132 : x.op = 132
  · rw [if_pos e132]; exact part_a (n0 132 (by decide) e132)
  rw [if_neg e132]
theorem part0 (s : St) : partS s 0 = s.a := rfl
theorem part1 (s : St) : partS s 1 = s.x := rfl
theorem part_cell {s : St} {i : Nat} (h : 2 ≤ i) : partS s i = s.m.getD (i - 2) 0 := by unfold partS; rw [if_neg (by omega), if_neg (by omega)]
/-- What it makes of what it sets hangs only on what it uses. -/
theorem step_makes {s t : St} {x : X4} {d : Rec} (hs : s.m.length = 16) (ht : t.m.length = 16) (h : agreeS (usesP x) s t) (hg : goesS s x = true) {i : Nat} (hi : i < 18) (hset : setsP x i = true) : partS (stepS s x d) i = partS (stepS t x d) i := by
  have hg' : goesS t x = true := (goes_agree h).symm.trans hg
  by_cases e : aluB x.op = true
  · obtain ⟨_, hno⟩ := alu_other e
    have hi0 : i = 0 := by
      rcases Nat.lt_or_ge i 2 with h2 | h2
      · rcases Nat.lt_or_ge i 1 with h1 | h1
        · omega
        · obtain rfl : i = 1 := by omega
          unfold setsP inL at hset
          rw [if_neg (by omega), if_pos rfl, List.contains_iff_mem] at hset
          refine absurd ?_ hno
          simp only [List.mem_cons, List.not_mem_nil, or_false] at hset
          rcases hset with e | e | e <;> rw [e] <;> decide
      · unfold setsP at hset
        rw [if_neg (by omega), if_neg (by omega)] at hset
        simp only [Bool.and_eq_true, Bool.or_eq_true, beq_iff_eq] at hset
        refine absurd ?_ hno
        rcases hset.1 with e | e <;> rw [e] <;> decide
    subst hi0
    have ha := agree_a h (by unfold usesP; simp [e])
    have hq : argS s x = argS t x := by
      unfold argS
      by_cases hX : aluX x.op = true
      · rw [if_pos hX, if_pos hX, agree_x h (by unfold usesP; simp [e, hX])]
      · rw [if_neg hX, if_neg hX]
    unfold stepS
    rw [if_pos e, if_pos e, if_pos hg, if_pos hg', hq, ha]
    rfl
  have e' : aluB x.op = false := by simpa using e
  have u0 : x.op ∈ ([2, 7, 132, 22] : List Int) → s.a = t.a := fun hm => agree_a h (by unfold usesP inL; rw [if_pos rfl, List.contains_iff_mem.2 hm, Bool.or_true])
  have u1 : x.op ∈ ([3, 135] : List Int) → s.x = t.x := fun hm => agree_x h (by unfold usesP inL; rw [if_neg (by omega), if_pos rfl, List.contains_iff_mem.2 hm, Bool.or_true])
  have um : x.op = 96 ∨ x.op = 97 → s.m.getD x.k.toNat 0 = t.m.getD x.k.toNat 0 := fun hm => agree_m h hs ht _ (by
    unfold usesP
    rw [if_neg (by omega), if_neg (by omega)]
    rcases hm with e | e <;> rw [e] <;> simp)
  rcases Nat.lt_or_ge i 2 with h2 | h2
  · rcases Nat.lt_or_ge i 1 with h1 | h1
    · obtain rfl : i = 0 := by omega
      unfold setsP inL at hset
      rw [if_pos rfl, e', Bool.false_or, List.contains_iff_mem] at hset
      rw [part0, part0]
      unfold stepS
      rw [if_neg e, if_neg e]
      simp only [List.mem_cons, List.not_mem_nil, or_false] at hset
      rcases hset with o | o | o | o | o
      · rw [if_pos o, if_pos o]
      · rw [o]; rfl
      · rw [o] at um ⊢; exact um (.inl rfl)
      · rw [o] at u1 ⊢; exact u1 (by decide)
      · rw [o] at u0 ⊢
        have ha := u0 (by decide)
        show ((-(s.a : Int)) % 4294967296).toNat = ((-(t.a : Int)) % 4294967296).toNat
        rw [ha]
    · obtain rfl : i = 1 := by omega
      unfold setsP inL at hset
      rw [if_neg (by omega), if_pos rfl, List.contains_iff_mem] at hset
      rw [part1, part1]
      unfold stepS
      rw [if_neg e, if_neg e]
      simp only [List.mem_cons, List.not_mem_nil, or_false] at hset
      rcases hset with o | o | o
      · rw [o]; rfl
      · rw [o] at um ⊢; exact um (.inr rfl)
      · rw [o] at u0 ⊢; exact u0 (by decide)
  · unfold setsP at hset
    rw [if_neg (by omega), if_neg (by omega)] at hset
    simp only [Bool.and_eq_true, Bool.or_eq_true, beq_iff_eq] at hset
    obtain ⟨ho, rfl⟩ := hset
    rw [part_cell h2, part_cell h2, Nat.add_sub_cancel]
    unfold stepS
    rw [if_neg e, if_neg e]
    rcases ho with o | o
    · rw [o] at u0 ⊢
      have ha := u0 (by decide)
      show (s.m.set x.k.toNat s.a).getD x.k.toNat 0 = (t.m.set x.k.toNat t.a).getD x.k.toNat 0
      rw [List.getD_eq_getElem?_getD, List.getD_eq_getElem?_getD, List.getElem?_set_self (by omega), List.getElem?_set_self (by omega), ha]
    · rw [o] at u1 ⊢
      have hx := u1 (by decide)
      show (s.m.set x.k.toNat s.x).getD x.k.toNat 0 = (t.m.set x.k.toNat t.x).getD x.k.toNat 0
      rw [List.getD_eq_getElem?_getD, List.getD_eq_getElem?_getD, List.getElem?_set_self (by omega), List.getElem?_set_self (by omega), hx]
theorem stepS_len {s : St} {x : X4} {d : Rec} (h : s.m.length = 16) : (stepS s x d).m.length = 16 := by
  unfold stepS
  repeat' split
  all_goals first | exact h | (rw [List.length_set]; exact h)
/-- What is needed at a place: what its instruction uses; and what is needed where the run may go on, and it does not set. -/
def liveP (f : List X4) : Nat → Nat → Nat → Bool
  | 0, _, _ => false
  | n + 1, p, i => usesP (f.getD p zeroX) i || ((nextX (f.getD p zeroX) p).any (fun q => liveP f n q.toNat i) && !setsP (f.getD p zeroX) i)
theorem liveP_succ (f : List X4) (n p i : Nat) : liveP f (n + 1) p i = (usesP (f.getD p zeroX) i || ((nextX (f.getD p zeroX) p).any (fun q => liveP f n q.toNat i) && !setsP (f.getD p zeroX) i)) := rfl
/-- From two states that are alike in what is needed at a place, runs come to the same. -/
theorem live_runs {f : List X4} (hs : SoundL f) (hok : ∀ x ∈ f, x.ok) (d : Rec) : ∀ (n : Nat) (s t : St) (p : Nat), p < f.length → f.length - p ≤ n → s.m.length = 16 → t.m.length = 16 → agreeS (liveP f n p) s t → fromS f d n s p = fromS f d n t p
  | 0, _, _, _, h, h1, _, _, _ => by omega
  | n + 1, s, t, p, h, h1, hl, hl', ha => by
    have hu : agreeS (usesP (f.getD p zeroX)) s t := fun i hi hp => ha i hi (by rw [liveP_succ, hp, Bool.true_or])
    rw [fromS_succ, fromS_succ]
    by_cases h6 : (f.getD p zeroX).op = 6
    · rw [if_pos h6, if_pos h6]
    rw [if_neg h6, if_neg h6]
    by_cases h22 : (f.getD p zeroX).op = 22
    · rw [if_pos h22, if_pos h22, agree_a hu (by unfold usesP inL; rw [h22, if_pos rfl]; decide)]
    rw [if_neg h22, if_neg h22]
    rw [← goes_agree hu]
    by_cases hg : goesS s (f.getD p zeroX) = false
    · rw [if_pos hg, if_pos hg]
    rw [if_neg hg, if_neg hg]
    have hg' : goesS s (f.getD p zeroX) = true := by simpa using hg
    have hpl : placeS t (f.getD p zeroX) p = placeS s (f.getD p zeroX) p := by unfold placeS; rw [takes_agree hu]
    obtain ⟨q1, q2⟩ := placeS_in hs hok h s (ends_op.2 ⟨h6, h22⟩)
    have hmem : ((placeS s (f.getD p zeroX) p : Nat) : Int) ∈ nextX (f.getD p zeroX) p := by
      have hb := hs.2.2.1 p h
      rw [badAt_at h] at hb
      have he := ends_op.2 ⟨h6, h22⟩
      rw [getD_at h] at he ⊢
      exact placeS_next (one_right hb) (hok _ (List.getElem_mem h)) he
    rw [hpl, live_runs hs hok d n (stepS s (f.getD p zeroX) d) (stepS t (f.getD p zeroX) d) (placeS s (f.getD p zeroX) p) q2 (by omega) (stepS_len hl) (stepS_len hl') ?_]
    intro i hi hp
    by_cases hset : setsP (f.getD p zeroX) i = true
    · exact step_makes hl hl' hu hg' hi hset
    · have hset' : setsP (f.getD p zeroX) i = false := by simpa using hset
      rw [step_keeps hset', step_keeps hset']
      refine ha i hi ?_
      rw [liveP_succ, hset']
      have : (nextX (f.getD p zeroX) p).any (fun q => liveP f n q.toNat i) = true := List.any_eq_true.2 ⟨_, hmem, by simpa using hp⟩
      rw [this]
      simp
/-- The parts of one state, all others of another one. -/
def mixS (P : Nat → Bool) (s t : St) : St := ⟨if P 0 then s.a else t.a, if P 1 then s.x else t.x, (List.range 16).map fun i => if P (i + 2) then s.m.getD i 0 else t.m.getD i 0⟩
theorem mix_len (P : Nat → Bool) (s t : St) : (mixS P s t).m.length = 16 := by simp [mixS]
theorem mix_part (P : Nat → Bool) (s t : St) {i : Nat} (h : i < 18) : partS (mixS P s t) i = if P i then partS s i else partS t i := by
  rcases Nat.lt_or_ge i 2 with h2 | h2
  · rcases Nat.lt_or_ge i 1 with h1 | h1
    · obtain rfl : i = 0 := by omega
      rfl
    · obtain rfl : i = 1 := by omega
      rfl
  · rw [part_cell h2, part_cell h2, part_cell h2]
    show ((List.range 16).map fun i => if P (i + 2) then s.m.getD i 0 else t.m.getD i 0).getD (i - 2) 0 = _
    rw [List.getD_eq_getElem?_getD, List.getElem?_map, List.getElem?_range (by omega)]
    show (if P (i - 2 + 2) then s.m.getD (i - 2) 0 else t.m.getD (i - 2) 0) = _
    rw [show i - 2 + 2 = i by omega]
theorem st_ext {s t : St} (hs : s.m.length = 16) (ht : t.m.length = 16) (h : ∀ i, i < 18 → partS s i = partS t i) : s = t := by
  obtain ⟨a, x, m⟩ := s
  obtain ⟨a', x', m'⟩ := t
  have h0 : a = a' := h 0 (by omega)
  have h1 : x = x' := h 1 (by omega)
  have h2 : m = m' := by
    apply List.ext_getElem?
    intro j
    by_cases hj : j < 16
    · have := h (j + 2) (by omega)
      rw [part_cell (by omega), part_cell (by omega), Nat.add_sub_cancel] at this
      simp only [List.getD_eq_getElem?_getD] at this hs ht
      rw [List.getElem?_eq_getElem (by omega), List.getElem?_eq_getElem (by omega)] at this ⊢
      simpa using this
    · simp only at hs ht
      rw [List.getElem?_eq_none (by omega), List.getElem?_eq_none (by omega)]
  rw [h0, h1, h2]
theorem mix_agree (P : Nat → Bool) (s t : St) : agreeS P s (mixS P s t) := fun i hi hp => by rw [mix_part P s t hi, hp]; rfl
/-- An instruction changes nothing but what it sets. -/
theorem step_mix (s : St) (x : X4) (d : Rec) (hs : s.m.length = 16) : mixS (setsP x) (stepS s x d) s = stepS s x d :=
  st_ext (mix_len _ _ _) (stepS_len hs) fun i hi => by
    rw [mix_part _ _ _ hi]
    by_cases h : setsP x i = true
    · rw [if_pos h]
    · rw [if_neg h, step_keeps (by simpa using h)]
/-- .. and what it makes of that hangs only on what it uses. -/
theorem step_mix2 (s t : St) (x : X4) (d : Rec) (hs : s.m.length = 16) (hg : goesS s x = true) : mixS (setsP x) (stepS (mixS (usesP x) s t) x d) (stepS s x d) = stepS s x d :=
  st_ext (mix_len _ _ _) (stepS_len hs) fun i hi => by
    rw [mix_part _ _ _ hi]
    by_cases h : setsP x i = true
    · rw [if_pos h, step_makes hs (mix_len _ _ _) (mix_agree (usesP x) s t) hg hi h]
    · rw [if_neg h]
theorem goes_mix (s t : St) (x : X4) : goesS (mixS (usesP x) s t) x = goesS s x := (goes_agree (mix_agree (usesP x) s t)).symm
theorem takes_mix (s t : St) (x : X4) : takesS (mixS (usesP x) s t) x = takesS s x := (takes_agree (mix_agree (usesP x) s t)).symm
theorem runs_mix {f : List X4} (hs : SoundL f) (hok : ∀ x ∈ f, x.ok) (d : Rec) (n : Nat) (s t : St) (p : Nat) (hp : p < f.length) (hn : f.length - p ≤ n) (hl : s.m.length = 16) : fromS f d n (mixS (liveP f n p) s t) p = fromS f d n s p :=
  (live_runs hs hok d n s (mixS (liveP f n p) s t) p hp hn hl (mix_len _ _ _) (mix_agree _ _ _)).symm
/-- At a place whose instruction ends the run at most A is needed. -/
theorem live_end {f : List X4} {n p i : Nat} (he : endsE (f.getD p zeroX) = true) (hi : i ≠ 0) : liveP f n p i = false := by
  cases n with
  | zero => rfl
  | succ n =>
    have hn : nextX (f.getD p zeroX) p = [] := by unfold nextX; rw [if_pos he]
    rw [liveP_succ, hn]
    simp only [List.any_nil, Bool.false_and, Bool.or_false]
    have ho : (f.getD p zeroX).op = 6 ∨ (f.getD p zeroX).op = 22 := by
      unfold endsE at he
      simpa using he
    unfold usesP inL
    rw [if_neg hi]
    by_cases h1 : i = 1
    · rw [if_pos h1]
      rcases ho with o | o <;> rw [o] <;> decide
    · rw [if_neg h1]
      rcases ho with o | o <;> rw [o] <;> simp
/-- What is needed hangs not on how far one looks, if it is to the end. -/
theorem live_more {f : List X4} (hs : SoundL f) (hok : ∀ x ∈ f, x.ok) (i : Nat) : ∀ (n m p : Nat), p < f.length → f.length - p ≤ n → f.length - p ≤ m → liveP f n p i = liveP f m p i
  | 0, _, _, h, h1, _ => by omega
  | _, 0, _, h, _, h2 => by omega
  | n + 1, m + 1, p, h, h1, h2 => by
    rw [liveP_succ, liveP_succ]
    congr 2
    rw [Bool.eq_iff_iff]
    simp only [List.any_eq_true]
    have hin := next_in hs hok h
    rw [getD_at h]
    constructor
    · rintro ⟨q, hq, hl⟩
      have := hin q hq
      exact ⟨q, hq, by rw [← live_more hs hok i n m q.toNat (by omega) (by omega) (by omega)]; exact hl⟩
    · rintro ⟨q, hq, hl⟩
      have := hin q hq
      exact ⟨q, hq, by rw [live_more hs hok i n m q.toNat (by omega) (by omega) (by omega)]; exact hl⟩
/-- A mask's number. -/
def maskN (P : Nat → Bool) : Nat → Nat
  | 0 => 0
  | n + 1 => maskN P n + (if P n then 2 ^ n else 0)
theorem maskN_lt (P : Nat → Bool) : ∀ n, maskN P n < 2 ^ n
  | 0 => by simp [maskN]
  | n + 1 => by
    have := maskN_lt P n
    rw [maskN, Nat.pow_succ]
    split <;> omega
theorem maskN_bit (P : Nat → Bool) : ∀ n i, i < n → (maskN P n).testBit i = P i
  | 0, _, h => by omega
  | n + 1, i, h => by
    have hlt := maskN_lt P n
    rw [maskN]
    by_cases hi : i = n
    · subst hi
      cases hP : P i
      · rw [if_neg (by decide), Nat.add_zero]
        exact Nat.testBit_lt_two_pow hlt
      · rw [if_pos rfl, Nat.add_comm, Nat.testBit_two_pow_add_eq, Nat.testBit_lt_two_pow hlt]
        rfl
    · cases hP : P n
      · rw [if_neg (by decide), Nat.add_zero]
        exact maskN_bit P n i (by omega)
      · rw [if_pos rfl, Nat.add_comm, Nat.testBit_two_pow_add_gt (by omega)]
        exact maskN_bit P n i (by omega)
end Go.Proofs.YtmbegncnbjafdaaDoor
