/-
  What check.Check, and Sound, answer, for any filter that lies in a world.
-/
import Derived.Test.YtmbegncnbjafdaaDoorKOne
import Derived.BigQuiet
namespace Go.Proofs.YtmbegncnbjafdaaDoor
open Go.ChangeShapes Go.WideShapes Go.ChangeAt Go.RowKit
set_option maxRecDepth 20000

theorem getD_at {l : List X4} {n : Nat} (h : n < l.length) : l.getD n zeroX = l[n] := by
  rw [List.getD_eq_getElem?_getD, List.getElem?_eq_getElem h]
  rfl
theorem badAt_at {l : List X4} {n : Nat} (h : n < l.length) : badAt l n = oneE l[n] ((l.length : Int) - 1 - n) := by
  unfold badAt
  rw [getD_at h]
theorem goodTo_succ {l : List X4} {n : Nat} (h : goodTo l n) (hb : badAt l n = 0) : goodTo l (n + 1) := by
  intro i hi
  by_cases e : i = n
  · rw [e]; exact hb
  · exact h i (by omega)
def CheckEnd (l : List X4) (w : World) (e : Ending) (w' : World) : Prop := ∃ p er, CheckIs l p er ∧ e = .returned (.tuple #[.int .i64 p, .int .i64 er]) ∧ Below w.heap.size w w'
theorem checkEnd {l : List X4} {w w' : World} {p er : Int} (h : CheckIs l p er) (hb : Below w.heap.size w w') : CheckEnd l w (.returned (.tuple #[.int .i64 p, .int .i64 er])) w' := ⟨p, er, h, rfl, hb⟩

set_option maxHeartbeats 1000000 in
theorem check_any (v : Value) (l : List X4) (w : World) (hF : FAt w v l) (hok : ∀ x ∈ l, x.ok) (ht : OTab w) :
    Calls Tryd.prog 46 #[v] w (CheckEnd l w) := by
  obtain ⟨ao, cap, rfl, hF⟩ := hF
  by_cases h0 : l.length = 0
  · have HC : Hid (CheckIs l 0 5) := Lib.hid (.inl ⟨h0, rfl, rfl⟩)
    go_enter Tryd.func46, Tryd.ntmps46
    go_wp2_with fail
    go_ret2
    exact checkEnd HC.out (Below.refl _ _)
  by_cases hbig : 4096 < l.length
  · have HC : Hid (CheckIs l 0 3) := Lib.hid (.inr (.inl ⟨hbig, rfl, rfl⟩))
    go_enter Tryd.func46, Tryd.ntmps46
    go_wp2_with fail
    go_ret2
    exact checkEnd HC.out (Below.refl _ _)
  · have HF := Lib.hid hF
    have HO := Lib.hid hok
    have hlen : l.length ≤ 4096 := by omega
    have hpos : 0 < l.length := by omega
    clear hF hok
    go_enter Tryd.func46, Tryd.ntmps46
    go_wp2_with fail
    refine (conditions_any _).mono ?_
    rintro e w1 ⟨vm, rfl, hM, hB0⟩
    have HM := Lib.hid hM
    have HB0 := Lib.hid hB0
    have ht1 := ht.below hB0
    have HT := Lib.hid ht1
    clear hM hB0 ht1 ht
    go_wp2_with fail
    go_loopw [21] (fun i wr => ∃ n : Nat, n ≤ l.length ∧ i = .int .i64 n ∧ Below w1.heap.size w1 wr ∧ goodTo l n) (fun i _ => l.length - (intOf i).toNat)
    case atStart => exact ⟨0, by omega, rfl, Below.refl _ _, fun i hi => by omega⟩
    case round =>
      obtain ⟨n, hn, rfl, hB, hall⟩ := hrel
      have HB := Lib.hid hB
      have HA := Lib.hid hall
      by_cases hlt : n < l.length
      · rcases HF.out with h0 | ⟨b, off, rfl, hb, hc⟩
        · rw [h0] at hlt; simp at hlt
        have hb' : b < w1.heap.size := Nat.lt_of_lt_of_le hb HB0.out.size
        obtain ⟨c0, c1, c2, c3⟩ := hc n hlt
        have d0 := (hB.cell (p := ⟨b, _, none⟩) hb').trans ((HB0.out.cell (p := ⟨b, _, none⟩) hb).trans c0)
        have d1 := (hB.cell (p := ⟨b, _, none⟩) hb').trans ((HB0.out.cell (p := ⟨b, _, none⟩) hb).trans c1)
        have d2 := (hB.cell (p := ⟨b, _, none⟩) hb').trans ((HB0.out.cell (p := ⟨b, _, none⟩) hb).trans c2)
        have d3 := (hB.cell (p := ⟨b, _, none⟩) hb').trans ((HB0.out.cell (p := ⟨b, _, none⟩) hb).trans c3)
        have HO1 := Lib.hid (HO.out _ (List.getElem_mem hlt))
        have HE := Lib.hid (badAt_at hlt)
        clear hc c0 c1 c2 c3 hB hall HF
        go_wp2_with fail
        have hB2 := ba (insB l[n].op l[n].jt l[n].jf l[n].k) HB.out
        refine (kfault_any l[n] HO1.out ((l.length : Int) - 1 - n) (by omega) (by omega) vm _ (HM.out.below hB2) (HT.out.below hB2)).mono ?_
        rintro e w2 ⟨rfl, hb1⟩
        have HB1 := Lib.hid (hB2.trans (hb1.mono hB2.size))
        clear hB2 hb1 d0 d1 d2 d3
        rw [← HE.out]
        have HW := Lib.hid (HB0.out.trans (HB1.out.mono HB0.out.size))
        cases hz : (badAt l n == 0)
        · have HC : Hid (CheckIs l n (badAt l n)) := Lib.hid (.inr (.inr (.inl ⟨hpos, hlen, n, hlt, HA.out, by simpa using hz, rfl, rfl⟩)))
          go_wp2_with fail
          go_ret2
          exact checkEnd HC.out HW.out
        · have HN := Lib.hid (goodTo_succ HA.out (by simpa using hz))
          go_wp2_with fail
          go_roundw
          case rel => exact ⟨n + 1, by omega, by go_num, HB1.out, HN.out⟩
          case measure => simp [intOf]; omega
      · have hnl : n = l.length := by omega
        subst hnl
        have HW := Lib.hid (HB0.out.trans (HB.out.mono HB0.out.size))
        rcases HF.out with h0 | ⟨b, off, rfl, hb, hc⟩
        · rw [h0] at hpos; simp at hpos
        have hb' : b < w1.heap.size := Nat.lt_of_lt_of_le hb HB0.out.size
        have hll : l.length - 1 < l.length := by omega
        have HL := Lib.hid (getD_at hll)
        obtain ⟨c0, c1, c2, c3⟩ := hc (l.length - 1) hll
        have d0 := (hB.cell (p := ⟨b, _, none⟩) hb').trans ((HB0.out.cell (p := ⟨b, _, none⟩) hb).trans c0)
        have d1 := (hB.cell (p := ⟨b, _, none⟩) hb').trans ((HB0.out.cell (p := ⟨b, _, none⟩) hb).trans c1)
        have d2 := (hB.cell (p := ⟨b, _, none⟩) hb').trans ((HB0.out.cell (p := ⟨b, _, none⟩) hb).trans c2)
        have d3 := (hB.cell (p := ⟨b, _, none⟩) hb').trans ((HB0.out.cell (p := ⟨b, _, none⟩) hb).trans c3)
        generalize l[l.length - 1] = x at d0 d1 d2 d3 HL
        clear hc c0 c1 c2 c3 hB hall HF
        go_wp2_with fail
        refine (ends_any x.op x.jt x.jf x.k _).mono ?_
        rintro e w2 ⟨rfl, hb1⟩
        have HW2 := Lib.hid (HW.out.trans (hb1.mono HW.out.size))
        have HLX : Hid (endsE (lastX l) = (x.op == 6 || x.op == 22)) := Lib.hid (by unfold lastX; rw [HL.out]; rfl)
        clear hb1 d0 d1 d2 d3
        cases he : (x.op == 6 || x.op == 22)
        · have HC : Hid (CheckIs l ((l.length : Int) - 1) 5) := Lib.hid (.inr (.inr (.inr (.inl ⟨hpos, hlen, HA.out, HLX.out.trans he, rfl, rfl⟩))))
          clear he
          go_wp2_with fail
          go_ret2
          exact checkEnd HC.out HW2.out
        · have HC : Hid (CheckIs l 0 0) := Lib.hid (.inr (.inr (.inr (.inr ⟨hpos, hlen, HA.out, HLX.out.trans he, rfl, rfl⟩))))
          clear he
          go_wp2_with fail
          go_ret2
          exact checkEnd HC.out HW2.out

/-- Whether a filter is sound. -/
def soundB (l : List X4) : Bool := decide (0 < l.length) && decide (l.length ≤ 4096) && ((List.range l.length).all fun i => badAt l i == 0) && endsE (lastX l)
theorem soundB_iff {l : List X4} : soundB l = true ↔ SoundL l := by
  unfold soundB SoundL goodTo
  simp only [Bool.and_eq_true, decide_eq_true_eq, List.all_eq_true, List.mem_range, beq_iff_eq, and_assoc]
theorem sound_err {l : List X4} {p e : Int} (h : CheckIs l p e) : (e == 0) = soundB l := by
  cases hs : soundB l
  · have : ¬ SoundL l := fun h' => by rw [soundB_iff.2 h'] at hs; cases hs
    have : ¬ e = 0 := fun h' => this ((sound_iff h).1 h')
    simpa using this
  · have := (sound_iff h).2 (soundB_iff.1 hs)
    simpa using this
theorem sound_any (v : Value) (l : List X4) (w : World) (hF : FAt w v l) (hok : ∀ x ∈ l, x.ok) (ht : OTab w) :
    Calls Tryd.prog 28 #[v] w fun e w' => e = .returned (.bool (soundB l)) ∧ Below w.heap.size w w' := by
  have HF := Lib.hid hF
  have HO := Lib.hid hok
  have HT := Lib.hid ht
  clear hF hok ht
  go_enter Tryd.func28, Tryd.ntmps28
  go_wp2_with fail
  refine (check_any v l w HF.out HO.out HT.out).mono ?_
  rintro e w1 ⟨p, er, hc, rfl, hb1⟩
  have HB1 := Lib.hid hb1
  have HE := Lib.hid (sound_err hc)
  clear hb1 hc
  go_wp2_with fail
  go_ret
  exact ⟨ret1 HE.out, HB1.out⟩
end Go.Proofs.YtmbegncnbjafdaaDoor

/-
  Where a run may go, plainly; integers that lie in a world.
-/
namespace Go.Proofs.YtmbegncnbjafdaaDoor
open Go.ChangeShapes Go.WideShapes Go.ChangeAt Go.RowKit
set_option maxRecDepth 20000

/-- Integers that lie in a world. -/
def IAt (w : World) (v : Value) (l : List Int) : Prop :=
  ∃ ao cap, v = .slice ao l.length cap ∧ (l = [] ∨ ∃ b off, ao = some ⟨b, off, none⟩ ∧ b < w.heap.size ∧ ∀ i (h : i < l.length), w.cell? ⟨b, off + i, none⟩ = some (.int .i64 l[i]))
theorem IAt.nil (w : World) : IAt w (.slice none 0 0) [] := ⟨none, 0, rfl, .inl rfl⟩
theorem IAt.below {w w' : World} {v : Value} {l : List Int} (h : IAt w v l) (hb : Below w.heap.size w w') : IAt w' v l := by
  obtain ⟨ao, cap, rfl, h⟩ := h
  refine ⟨ao, cap, rfl, h.imp id ?_⟩
  rintro ⟨b, off, rfl, hl, hc⟩
  exact ⟨b, off, rfl, Nat.lt_of_lt_of_le hl hb.size, fun i hi => (hb.cell (p := ⟨b, _, none⟩) hl).trans (hc i hi)⟩
theorem IAt.shape {w : World} {v : Value} {l : List Int} (h : IAt w v l) : ∃ ao cap, v = .slice ao l.length cap := by
  obtain ⟨ao, cap, rfl, _⟩ := h
  exact ⟨ao, cap, rfl⟩
theorem IAt.one (w : World) (a : Int) (t : TypeId) (cap : Nat) : IAt (w.alloc (.cells #[.int .i64 a] t)) (.slice (some ⟨w.heap.size, 0, none⟩) 1 cap) [a] :=
  ⟨_, _, rfl, .inr ⟨w.heap.size, 0, rfl, by rw [size_alloc]; omega, fun i hi => by
    have h0 : i = 0 := by simpa using hi
    subst h0
    rw [cell_in (heap_alloc_new w (.cells #[.int .i64 a] t)) (0 + 0)]
    rfl⟩⟩
theorem IAt.two (w : World) (a b : Int) (t : TypeId) (cap : Nat) : IAt (w.alloc (.cells #[.int .i64 a, .int .i64 b] t)) (.slice (some ⟨w.heap.size, 0, none⟩) 2 cap) [a, b] :=
  ⟨_, _, rfl, .inr ⟨w.heap.size, 0, rfl, by rw [size_alloc]; omega, fun i hi => by
    have h0 : i = 0 ∨ i = 1 := by simp at hi; omega
    rcases h0 with rfl | rfl
    · rw [cell_in (heap_alloc_new w (.cells #[.int .i64 a, .int .i64 b] t)) (0 + 0)]
      rfl
    · rw [cell_in (heap_alloc_new w (.cells #[.int .i64 a, .int .i64 b] t)) (0 + 1)]
      rfl⟩⟩
def IEnd (l : List Int) (w : World) (e : Ending) (w' : World) : Prop := ∃ u, e = .returned u ∧ IAt w' u l ∧ Below w.heap.size w w'
abbrev icells (l : List Int) : List Value := l.map fun a => Value.int .i64 a
theorem IAt.own {w : World} {base : Nat} {e : TypeId} {v : Value} {n : Nat} {l : List Int} (h : w.ownsRow base e 1 v n (icells l)) (hn : n = l.length) : IAt w v l := by
  subst hn
  rcases h.2 with ⟨rfl, h0⟩ | ⟨g, cap, cur, rfl, _, hg, hc, hm, _, ht⟩
  · obtain rfl := List.length_eq_zero_iff.1 h0
    exact IAt.nil w
  · refine ⟨_, _, rfl, .inr ⟨g, 0, rfl, lt_of_block hg, fun i hi => ?_⟩⟩
    rw [Nat.zero_add, cell_in hg i, ← Array.getElem?_toList]
    have hu : (icells l)[i]? = some (.int .i64 l[i]) := by simp [hi]
    rw [← ht, List.getElem?_take, if_pos (by omega)] at hu
    exact hu

/-- Where a run may go from a place that has this instruction. -/
def nextX (x : X4) (p : Int) : List Int :=
  if endsE x then [] else if x.op == 5 then [p + 1 + x.k] else if isBranch x.op then (if x.jt == x.jf then [p + 1 + x.jt] else [min (p + 1 + x.jt) (p + 1 + x.jf), max (p + 1 + x.jt) (p + 1 + x.jf)]) else [p + 1]
theorem nextX_short (x : X4) (p : Int) : (nextX x p).length ≤ 2 := by
  unfold nextX
  repeat' split
  all_goals simp
theorem nextX_none (x : X4) (p : Int) : ((nextX x p).length == 0) = endsE x := by
  unfold nextX
  cases endsE x
  · simp only [Bool.false_eq_true, if_false]
    repeat' split
    all_goals rfl
  · rfl
theorem right_jumps {x : X4} (h : x.right = true) : 0 ≤ x.jt ∧ 0 ≤ x.jf ∧ x.jt ≤ 255 ∧ x.jf ≤ 255 := by
  unfold X4.right right Ip.fits Ip.isJ at h
  simp only [Bool.and_eq_true] at h
  have h2 := h.2.2
  split at h2
  · simp only [Bool.and_eq_true, decide_eq_true_eq] at h2
    omega
  · simp only [Bool.and_eq_true, beq_iff_eq] at h2
    omega
/-- Where a run may go is behind the place, and within. -/
theorem next_in {l : List X4} {i : Nat} (hs : SoundL l) (hok : ∀ x ∈ l, x.ok) (hi : i < l.length) : ∀ q ∈ nextX l[i] i, (i : Int) < q ∧ q < l.length := by
  obtain ⟨h0, _, hg, he⟩ := hs
  have hb := hg i hi
  rw [badAt_at hi] at hb
  have hr := one_right hb
  obtain ⟨j0, j1, j2, j3⟩ := right_jumps hr
  have hk := (hok _ (List.getElem_mem hi)).1
  rw [one_kind _ _ hk, hr] at hb
  simp only [Bool.true_eq_false, if_false] at hb
  intro q hq
  unfold nextX at hq
  cases hE : endsE l[i]
  · rw [hE] at hq
    have hlast : i + 1 < l.length := by
      rcases Nat.lt_or_ge (i + 1) l.length with h | h
      · exact h
      · have e : i = l.length - 1 := by omega
        subst e
        unfold lastX at he
        rw [getD_at hi, hE] at he
        cases he
    simp only [Bool.false_eq_true, if_false] at hq
    cases h5 : (l[i].op == 5)
    · rw [h5] at hq
      simp only [Bool.false_eq_true, if_false] at hq
      cases hB : isBranch l[i].op
      · rw [hB] at hq
        simp only [Bool.false_eq_true, if_false, List.mem_singleton] at hq
        omega
      · rw [hB] at hq
        have h6 : kindOf l[i].op = 6 := by rw [branch_kind] at hB; simpa using hB
        rw [h6] at hb
        have hb : (if (decide (l[i].jt < (l.length : Int) - 1 - i) && decide (l[i].jf < (l.length : Int) - 1 - i)) = true then (0 : Int) else 4) = 0 := hb
        have hc : l[i].jt < (l.length : Int) - 1 - i ∧ l[i].jf < (l.length : Int) - 1 - i := by
          by_cases h : (decide (l[i].jt < (l.length : Int) - 1 - i) && decide (l[i].jf < (l.length : Int) - 1 - i)) = true
          · simpa using h
          · rw [if_neg h] at hb; cases hb
        simp only [if_true] at hq
        cases hJ : (l[i].jt == l[i].jf)
        · rw [hJ] at hq
          simp only [Bool.false_eq_true, if_false, List.mem_cons, List.not_mem_nil, or_false] at hq
          omega
        · rw [hJ] at hq
          simp only [if_true, List.mem_singleton] at hq
          omega
    · rw [h5] at hq
      simp only [if_true, List.mem_singleton] at hq
      have e5 : l[i].op = 5 := by simpa using h5
      rw [e5] at hb
      have hb : (if decide (l[i].k < (l.length : Int) - 1 - i) = true then (0 : Int) else 4) = 0 := hb
      have hc : l[i].k < (l.length : Int) - 1 - i := by
        by_cases h : decide (l[i].k < (l.length : Int) - 1 - i) = true
        · simpa using h
        · rw [if_neg h] at hb; cases hb
      omega
  · rw [hE] at hq
    simp at hq
/-- .. in increasing order. -/
theorem next_pair (x : X4) (p : Int) : (nextX x p).Pairwise (· < ·) := by
  unfold nextX
  cases endsE x
  · simp only [Bool.false_eq_true, if_false]
    cases (x.op == 5)
    · simp only [Bool.false_eq_true, if_false]
      cases isBranch x.op
      · simp
      · simp only [if_true]
        cases hJ : (x.jt == x.jf)
        · simp only [Bool.false_eq_true, if_false]
          have : ¬ x.jt = x.jf := by simpa using hJ
          simp only [List.pairwise_cons, List.mem_cons, List.not_mem_nil, or_false, forall_eq, List.Pairwise.nil, and_true, false_implies, implies_true]
          omega
        · simp
    · simp
  · simp
theorem next_order (x : X4) (p : Int) (i : Nat) (h : i + 1 < (nextX x p).length) : (nextX x p)[i] < (nextX x p)[i + 1] :=
  List.pairwise_iff_getElem.1 (next_pair x p) i (i + 1) (by omega) h (by omega)
end Go.Proofs.YtmbegncnbjafdaaDoor
