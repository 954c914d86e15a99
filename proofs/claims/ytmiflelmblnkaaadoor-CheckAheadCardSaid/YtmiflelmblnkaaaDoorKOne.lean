/-
  The error of one instruction, by the condition of its operation; and what check.fault answers.
-/
import Derived.Test.YtmiflelmblnkaaaDoorKCond
namespace Go.Proofs.YtmiflelmblnkaaaDoor
open Go.ChangeShapes Go.WideShapes Go.ChangeAt Go.RowKit
set_option maxRecDepth 20000

theorem branch_rows : ∀ i, i < 39 → isBranch (Ip.refOps.getD i 0) = decide (kindOf (Ip.refOps.getD i 0) = 6) := by decide
theorem kind6_some {op : Int} (h : kindOf op = 6) : (Ip.byOp op).isSome = true := by
  have h' : op = 21 ∨ op = 37 ∨ op = 53 ∨ op = 69 ∨ op = 29 ∨ op = 45 ∨ op = 61 ∨ op = 77 := by
    unfold kindOf at h
    repeat' split at h
    all_goals first | assumption | (exact absurd h (by decide))
  rcases h' with rfl | rfl | rfl | rfl | rfl | rfl | rfl | rfl <;> decide
theorem branch_kind (op : Int) : isBranch op = decide (kindOf op = 6) := by
  rcases Ip.plc_cases op with ⟨i, hi, _, rfl, _, _⟩ | ⟨_, hb⟩
  · exact branch_rows i hi
  · unfold isBranch
    rw [hb]
    cases h : decide (kindOf op = 6)
    · rfl
    · have := kind6_some (of_decide_eq_true h)
      rw [hb] at this
      cases this
theorem tmod4 {k : Int} (hk : 0 ≤ k) : (k.tmod 4 == 0 && decide (k < 64)) = !(k % 4 != 0 || decide (60 < k)) := by
  rw [Int.tmod_eq_emod_of_nonneg hk]
  by_cases h : k % 4 = 0
  · by_cases h2 : k < 64
    · have : ¬ 60 < k := by omega
      simp [h, h2, this]
    · have : 60 < k := by omega
      simp [h, h2, this]
  · have e1 : (k % 4 == 0) = false := by simpa using h
    have e2 : (k % 4 != 0) = true := by simpa using h
    rw [e1, e2]
    rfl
theorem one_kind (x : X4) (n : Int) (hk : 0 ≤ x.k) : oneE x n = if x.right = false then 1 else if kindOf x.op = 0 then 0 else if holdsB (kindOf x.op) x.jt x.jf x.k n = true then 0 else errB (kindOf x.op) := by
  unfold oneE
  cases hr : x.right
  · rfl
  simp only [Bool.not_true, Bool.false_eq_true, if_false, Bool.true_eq_false]
  rw [branch_kind]
  obtain ⟨op, jt, jf, k⟩ := x
  simp only at hk ⊢
  clear hr
  by_cases h1 : op = 32
  · subst h1
    rw [show kindOf 32 = 1 from rfl]
    show (if (true && (k % 4 != 0 || decide (60 < k))) = true then (6 : Int) else _) = if (1 : Nat) = 0 then 0 else if (k.tmod 4 == 0 && decide (k < 64)) = true then 0 else 6
    rw [tmod4 hk]
    cases (k % 4 != 0 || decide (60 < k)) <;> simp
  by_cases h2 : op = 2 ∨ op = 3 ∨ op = 96 ∨ op = 97
  · have h : ∀ o, kindOf o = 2 → kindOf op = 2 := fun o h => by unfold kindOf; simp [h1, h2]
    rw [h 2 rfl]
    have e : (op == 2 || op == 3 || op == 96 || op == 97) = true := by rcases h2 with h | h | h | h <;> subst h <;> rfl
    rw [e]
    have e' : (op == 32) = false := by simpa using h1
    have e3 : (op == 52) = false := by rcases h2 with h | h | h | h <;> subst h <;> rfl
    have e4 : (op == 100 || op == 116) = false := by rcases h2 with h | h | h | h <;> subst h <;> rfl
    have e5 : (op == 5) = false := by rcases h2 with h | h | h | h <;> subst h <;> rfl
    rw [e', e3, e4, e5]
    show (if _ then _ else if (true && decide (15 < k)) = true then (7 : Int) else _) = if (2 : Nat) = 0 then 0 else if decide (k < 16) = true then 0 else 7
    by_cases h : k < 16
    · have : ¬ 15 < k := by omega
      simp [h, this]
    · have : 15 < k := by omega
      simp [h, this]
  by_cases h3 : op = 52
  · subst h3
    rw [show kindOf 52 = 3 from rfl]
    show (if (true && k == 0) = true then (8 : Int) else _) = if (3 : Nat) = 0 then 0 else if (k != 0) = true then 0 else 8
    cases h : (k == 0) <;> simp_all
  by_cases h4 : op = 100 ∨ op = 116
  · have h : kindOf op = 4 := by unfold kindOf; rcases h4 with h | h <;> subst h <;> rfl
    rw [h]
    have e : (op == 100 || op == 116) = true := by rcases h4 with h | h <;> subst h <;> rfl
    rw [e]
    have e' : (op == 32) = false := by simpa using h1
    have e2 : (op == 2 || op == 3 || op == 96 || op == 97) = false := by rcases h4 with h | h <;> subst h <;> rfl
    have e3 : (op == 52) = false := by simpa using h3
    have e5 : (op == 5) = false := by rcases h4 with h | h <;> subst h <;> rfl
    rw [e', e2, e3, e5]
    show (if _ then _ else if _ then _ else if _ then _ else if (true && decide (31 < k)) = true then (1 : Int) else _) = if (4 : Nat) = 0 then 0 else if decide (k < 32) = true then 0 else 1
    by_cases h : k < 32
    · have : ¬ 31 < k := by omega
      simp [h, this]
    · have : 31 < k := by omega
      simp [h, this]
  have e' : (op == 32) = false := by simpa using h1
  have e2 : (op == 2 || op == 3 || op == 96 || op == 97) = false := by simpa [and_assoc] using h2
  have e3 : (op == 52) = false := by simpa using h3
  have e4 : (op == 100 || op == 116) = false := by simpa using h4
  rw [e', e2, e3, e4]
  simp only [Bool.false_and, Bool.false_eq_true, if_false]
  by_cases h5 : op = 5
  · subst h5
    rw [show kindOf 5 = 5 from rfl]
    show (if (true && decide (n ≤ k)) = true then (4 : Int) else _) = if (5 : Nat) = 0 then 0 else if decide (k < n) = true then 0 else 4
    by_cases h : k < n
    · have : ¬ n ≤ k := by omega
      simp [h, this]
    · have : n ≤ k := by omega
      simp [h, this]
  have e5 : (op == 5) = false := by simpa using h5
  rw [e5]
  simp only [Bool.false_and, Bool.false_eq_true, if_false]
  by_cases h6 : kindOf op = 6
  · rw [h6]
    show (if (true && (decide (n ≤ jt) || decide (n ≤ jf))) = true then (4 : Int) else 0) = if (6 : Nat) = 0 then 0 else if (decide (jt < n) && decide (jf < n)) = true then 0 else 4
    by_cases a : jt < n <;> by_cases b : jf < n <;> simp [a, b, Int.not_le.2, Int.not_lt.1] <;> omega
  · have h0 : kindOf op = 0 := by
      unfold kindOf at h6 ⊢
      rw [if_neg h1, if_neg h2, if_neg h3, if_neg h4, if_neg h5] at h6 ⊢
      by_cases h : op = 21 ∨ op = 37 ∨ op = 53 ∨ op = 69 ∨ op = 29 ∨ op = 45 ∨ op = 61 ∨ op = 77
      · rw [if_pos h] at h6; exact absurd rfl h6
      · rw [if_neg h]
    rw [h0]
    rfl

theorem right_op {op jt jf k : Int} (h : right op jt jf k = true) : -9223372036854775808 ≤ op ∧ op ≤ 9223372036854775807 := by
  unfold right at h
  cases hb : Ip.byOp op with
  | none => rw [hb] at h; cases h
  | some r =>
    obtain ⟨hr, rfl⟩ := Ip.byOp_op hb
    have := Ip.byOp_bd r.op
    rw [hb] at this
    simp only [Option.getD_some] at this
    omega
/-- What check.fault answers. -/
theorem kfault_any (x : X4) (hx : x.ok) (n : Int) (hn : 0 ≤ n) (hn' : n ≤ 9223372036854775807) (v : Value) (w : World) (hM : MapAt w v) (ht : OTab w) :
    Calls Tryd.prog 24 #[x.val, .int .i64 n, v] w fun e w' => e = .returned (.int .i64 (oneE x n)) ∧ Below w.heap.size w w' := by
  have HE := Lib.hid (one_kind x n hx.1)
  generalize oneE x n = ev at HE ⊢
  obtain ⟨op, jt, jf, k⟩ := x
  obtain ⟨hk, hk'⟩ := hx
  simp only at hk hk' HE
  have hb := ba (insB op jt jf k) (Below.refl w.heap.size w)
  have hH : (w.alloc (insB op jt jf k)).heap[w.heap.size]? = some (insB op jt jf k) := heap_alloc_new _ _
  have ht1 := ht.alloc (insB op jt jf k)
  have HM := Lib.hid (hM.below hb)
  clear hM
  go_enter Tryd.func24, Tryd.ntmps24
  go_wp2_with fail
  refine (right_any op jt jf k _ ht1).mono ?_
  rintro e w1 ⟨rfl, hB⟩
  have hH1 : w1.heap[w.heap.size]? = some (insB op jt jf k) := (hB.block _ (lt_of_block hH)).trans hH
  have hsz := lt_of_block hH1
  have HM1 := Lib.hid (HM.out.below hB)
  have HB1 := Lib.hid (hb.trans (hB.mono hb.size))
  change Hid (ev = if right op jt jf k = false then 1 else if kindOf op = 0 then 0 else if holdsB (kindOf op) jt jf k n = true then 0 else errB (kindOf op)) at HE
  have HX := Lib.hid hH1
  clear hH1 hB hb hH ht1 HM
  cases hr : right op jt jf k
  · have HF := Lib.hid (HE.out.trans (by rw [hr]; rfl) : ev = 1)
    clear hr
    go_wp2_with fail
    go_ret
    exact ⟨retI HF.out, HB1.out⟩
  · have HR := Lib.hid hr
    have hop : -9223372036854775808 ≤ op ∧ op ≤ 9223372036854775807 := right_op hr
    have HE' := Lib.hid (HE.out.trans (by rw [hr]; rfl) : ev = if kindOf op = 0 then 0 else if holdsB (kindOf op) jt jf k n = true then 0 else errB (kindOf op))
    clear hr HE
    obtain ⟨mb, s, rfl, hm, hs⟩ := HM1.out
    have hl := look_map hm op hop
    have c0 : w1.cell? ⟨w.heap.size, 0, none⟩ = some (.int .i64 op) := cell_in HX.out 0
    by_cases h0 : kindOf op = 0
    · rw [h0] at hl
      have HF := Lib.hid (HE'.out.trans (by rw [h0]; rfl) : ev = 0)
      simp only [if_true, bne_self_eq_false] at hl
      have HS := Lib.hid hs
      have HO := Lib.hid hop
      have HZ := Lib.hid h0
      clear hm hs hop h0
      go_wp2_with fail
      go_ret
      exact ⟨retI HF.out, HB1.out⟩
    · obtain ⟨a, b, hv, ca, cb, la, lb⟩ := hs _ (by omega) (kindOf_le op)
      have hne : (kindOf op != 0) = true := by simpa using h0
      rw [if_neg h0, hv, hne] at hl
      have HF := Lib.hid (HE'.out.trans (by rw [if_neg h0]) : ev = if holdsB (kindOf op) jt jf k n = true then 0 else errB (kindOf op))
      have c1 : w1.cell? ⟨w.heap.size, 1, none⟩ = some (.int .i64 jt) := cell_in HX.out 1
      have c2 : w1.cell? ⟨w.heap.size, 2, none⟩ = some (.int .i64 jf) := cell_in HX.out 2
      have c3 : w1.cell? ⟨w.heap.size, 3, none⟩ = some (.int .u32 k) := cell_in HX.out 3
      have HK := Lib.hid (unless1_any (kindOf op) op jt jf k n hk hk' hn hn' w1 a b ca cb la lb)
      generalize (if holdsB (kindOf op) jt jf k n = true then 0 else errB (kindOf op)) = q at HK HF
      clear hm hs hop h0 hv ca cb la lb hne HE' HM1
      go_wp2_with fail
      refine HK.out.mono ?_
      rintro e w2 ⟨rfl, hB2⟩
      have HB2 := Lib.hid (HB1.out.trans (hB2.mono HB1.out.size))
      clear hB2 c0 c1 c2 c3 hl
      go_wp2_with fail
      go_ret
      exact ⟨retI HF.out, HB2.out⟩
end Go.Proofs.YtmiflelmblnkaaaDoor
