/-
  The document's Mask and Mix (package hurdleref07).
-/
import Derived.Test.YtmbegncnbjafdaaDoorVRUses
namespace Go.Proofs.YtmbegncnbjafdaaDoor
open Go.ChangeShapes Go.WideShapes Go.ChangeAt Go.RowKit
set_option maxRecDepth 20000

/-- Truth values that lie in a world. -/
def TAt (w : World) (v : Value) (l : List Bool) : Prop :=
  ∃ ao cap, v = .slice ao l.length cap ∧ (l = [] ∨ ∃ b off, ao = some ⟨b, off, none⟩ ∧ b < w.heap.size ∧ ∀ i (h : i < l.length), w.cell? ⟨b, off + i, none⟩ = some (.bool l[i]))
theorem TAt.below {w w' : World} {v : Value} {l : List Bool} (h : TAt w v l) (hb : Below w.heap.size w w') : TAt w' v l := by
  obtain ⟨ao, cap, rfl, h⟩ := h
  refine ⟨ao, cap, rfl, h.imp id ?_⟩
  rintro ⟨b, off, rfl, hl, hc⟩
  exact ⟨b, off, rfl, Nat.lt_of_lt_of_le hl hb.size, fun i hi => (hb.cell (p := ⟨b, _, none⟩) hl).trans (hc i hi)⟩
abbrev tcells (l : List Bool) : List Value := l.map fun a => Value.bool a
theorem TAt.own {w : World} {base : Nat} {e : TypeId} {v : Value} {n : Nat} {l : List Bool} (h : w.ownsRow base e 1 v n (tcells l)) (hn : n = l.length) : TAt w v l := by
  subst hn
  rcases h.2 with ⟨rfl, h0⟩ | ⟨g, cap, cur, rfl, _, hg, hc, hm, _, ht⟩
  · obtain rfl := List.length_eq_zero_iff.1 h0
    exact ⟨none, 0, rfl, .inl rfl⟩
  · refine ⟨_, _, rfl, .inr ⟨g, 0, rfl, lt_of_block hg, fun i hi => ?_⟩⟩
    rw [Nat.zero_add, cell_in hg i, ← Array.getElem?_toList]
    have hu : (tcells l)[i]? = some (.bool l[i]) := by simp [hi]
    rw [← ht, List.getElem?_take, if_pos (by omega)] at hu
    exact hu
/-- The truth values of the first so many parts. -/
def bitsL (P : Nat → Bool) (n : Nat) : List Bool := (List.range n).map P
theorem bitsL_len (P : Nat → Bool) (n : Nat) : (bitsL P n).length = n := by simp [bitsL]
theorem bitsL_succ (P : Nat → Bool) (n : Nat) : bitsL P (n + 1) = bitsL P n ++ [P n] := by simp [bitsL, List.range_succ]
theorem bitsL_at (P : Nat → Bool) (n i : Nat) (h : i < (bitsL P n).length) : (bitsL P n)[i] = P i := by simp [bitsL]

theorem pow17 {j : Nat} (h : j < 18) : 2 ^ j ≤ 131072 := Nat.pow_le_pow_right (n := 2) (by omega) (show j ≤ 17 by omega)
theorem rmask_any (v : Value) (P : Nat → Bool) (w : World) (hF : TAt w v (bitsL P 18)) :
    Calls Tryd.prog 24 #[v] w fun e w' => e = .returned (.int .u32 (maskN P 18 : Nat)) ∧ Below w.heap.size w w' := by
  obtain ⟨ao, cap, rfl, hF⟩ := hF
  have HF : Hid (∃ b off, ao = some ⟨b, off, none⟩ ∧ b < w.heap.size ∧ ∀ i, i < 18 → w.cell? ⟨b, off + i, none⟩ = some (.bool (P i))) := Lib.hid (by
    rcases hF with h0 | ⟨b, off, rfl, hb, hc⟩
    · have := congrArg List.length h0
      rw [bitsL_len] at this
      simp at this
    · refine ⟨b, off, rfl, hb, fun i hi => ?_⟩
      have := hc i (by rw [bitsL_len]; exact hi)
      rw [bitsL_at] at this
      exact this)
  rw [bitsL_len]
  clear hF
  go_enter Tryd.func24, Tryd.ntmps24
  go_wp2_with fail
  go_loopw [3, 4, 5] (fun o b i wr => ∃ j : Nat, j ≤ 18 ∧ i = .int .i64 j ∧ o = .int .u32 (maskN P j : Nat) ∧ b = .int .u32 ((2 ^ j : Nat) : Int) ∧ Below w.heap.size w wr) (fun _ _ i _ => 18 - (intOf i).toNat)
  case atStart => exact ⟨0, by omega, rfl, rfl, rfl, Below.refl _ _⟩
  case round =>
    obtain ⟨j, hj, rfl, rfl, rfl, hbw⟩ := hrel
    have HB := Lib.hid hbw
    clear hbw
    by_cases hlt : j < 18
    · obtain ⟨b, off, rfl, hb, hc⟩ := HF.out
      have hc' := hc j hlt
      have d0 := (HB.out.cell (p := ⟨b, _, none⟩) hb).trans hc'
      have hM := maskN_lt P j
      have hp := pow17 hlt
      have HN : Hid (maskN P (j + 1) = maskN P j + (if P j then 2 ^ j else 0)) := Lib.hid rfl
      have HP : Hid (2 ^ (j + 1) = 2 ^ j * 2) := Lib.hid (Nat.pow_succ 2 j)
      generalize maskN P j = m at *
      generalize 2 ^ j = q at *
      have hm1 : (m : Int) ≤ 131072 := by omega
      have hq1 : (q : Int) ≤ 131072 := by omega
      clear hc hc' hM hp
      cases hP : P j
      · rw [hP] at HN d0
        go_wp2_with fail
        go_roundw
        case rel => exact ⟨j + 1, by omega, by go_num, by rw [HN.out]; rfl, by rw [HP.out]; go_num, HB.out⟩
        case measure => simp [intOf]; omega
      · rw [hP] at HN d0
        go_wp2_with fail
        go_roundw
        case rel => exact ⟨j + 1, by omega, by go_num, by rw [HN.out]; go_num, by rw [HP.out]; go_num, HB.out⟩
        case measure => simp [intOf]; omega
    · obtain rfl : j = 18 := by omega
      go_wp2_with fail
      go_ret
      exact ⟨rfl, HB.out⟩
theorem mix_bit (m j : Nat) : m.testBit (j + 2) = (((m / 4 / 2 ^ j : Nat) : Int) % 2 == 1) := by
  have e : m / 2 ^ (j + 2) = m / 4 / 2 ^ j := by rw [Nat.div_div_eq_div_mul, Nat.pow_add, Nat.mul_comm]
  rw [Nat.testBit_eq_decide_div_mod_eq, e]
  generalize m / 4 / 2 ^ j = q
  rw [Bool.eq_iff_iff]
  simp
  omega
theorem bit0 (m : Nat) : m.testBit 0 = ((m : Int) % 2 == 1) := by
  rw [Nat.testBit_eq_decide_div_mod_eq, Nat.pow_zero, Nat.div_one, Bool.eq_iff_iff]
  simp
  omega
theorem bit1 (m : Nat) : m.testBit 1 = ((m : Int) / 2 % 2 == 1) := by
  rw [Nat.testBit_eq_decide_div_mod_eq, Nat.pow_one, Bool.eq_iff_iff]
  simp
  omega
/-- The cells of a mix, the first so many of them done. -/
def mixM (m : Nat) (s t : St) (j : Nat) : List Nat := (List.range 16).map fun i => if i < j ∧ m.testBit (i + 2) = true then mAt s.m i else mAt t.m i
theorem mixM_len (m : Nat) (s t : St) (j : Nat) : (mixM m s t j).length = 16 := by simp [mixM]
theorem mixM_at {m : Nat} {s t : St} {j i : Nat} (h : i < 16) : (mixM m s t j)[i]? = some (if i < j ∧ m.testBit (i + 2) = true then mAt s.m i else mAt t.m i) := by
  unfold mixM
  rw [List.getElem?_map, List.getElem?_range h]
  rfl
theorem mixM_zero {m : Nat} {s t : St} (h : t.m.length = 16) : mixM m s t 0 = t.m := by
  apply List.ext_getElem?
  intro i
  by_cases hi : i < 16
  · rw [mixM_at hi, if_neg (by omega)]
    unfold mAt
    rw [List.getD_eq_getElem?_getD, List.getElem?_eq_getElem (by omega)]
    rfl
  · rw [List.getElem?_eq_none (by rw [mixM_len]; omega), List.getElem?_eq_none (by omega)]
theorem mixM_no {m : Nat} {s t : St} {j : Nat} (_h : j < 16) (hb : m.testBit (j + 2) = false) : mixM m s t (j + 1) = mixM m s t j := by
  unfold mixM
  apply List.map_congr_left
  intro i _
  by_cases hi : i = j
  · subst hi
    rw [hb]
    simp
  · have : (i < j + 1 ∧ m.testBit (i + 2) = true) ↔ (i < j ∧ m.testBit (i + 2) = true) := ⟨fun h => ⟨by omega, h.2⟩, fun h => ⟨by omega, h.2⟩⟩
    simp only [this]
theorem mixM_yes {m : Nat} {s t : St} {j : Nat} (h : j < 16) (hb : m.testBit (j + 2) = true) : (mixM m s t j).set j (mAt s.m j) = mixM m s t (j + 1) := by
  apply List.ext_getElem?
  intro i
  by_cases hi : i < 16
  · by_cases hij : i = j
    · subst hij
      rw [List.getElem?_set_self (by rw [mixM_len]; exact hi), mixM_at hi, if_pos ⟨by omega, hb⟩]
    · rw [List.getElem?_set_ne (by omega), mixM_at hi, mixM_at hi]
      have : (i < j + 1 ∧ m.testBit (i + 2) = true) ↔ (i < j ∧ m.testBit (i + 2) = true) := ⟨fun h => ⟨by omega, h.2⟩, fun h => ⟨by omega, h.2⟩⟩
      simp only [this]
  · rw [List.getElem?_eq_none (by rw [List.length_set, mixM_len]; omega), List.getElem?_eq_none (by rw [mixM_len]; omega)]
theorem mix_end (m : Nat) (s t : St) : (⟨if m.testBit 0 then s.a else t.a, if m.testBit 1 then s.x else t.x, mixM m s t 16⟩ : St) = mixS (fun i => m.testBit i) s t := by
  unfold mixS mixM
  congr 1
  apply List.map_congr_left
  intro i hi
  have := List.mem_range.1 hi
  simp only [this, true_and]
  rfl
set_option maxHeartbeats 4000000 in
theorem rmix_any (m : Nat) (s t : St) (w : World) (hm : m < 4294967296) (ht16 : t.m.length = 16) :
    Calls Tryd.prog 19 #[.int .u32 m, s.val, t.val] w fun e w' => e = .returned (mixS (fun i => m.testBit i) s t).val ∧ Below w.heap.size w w' := by
  obtain ⟨W, hW, hs, ht, hr, hb⟩ := box3 w (stB s) (stB t) (stB zeroSt)
  have hz := st_zero
  have HS0 := Lib.hid hs
  have HT0 := Lib.hid ht
  have HR0 := Lib.hid hr
  have HB0 := Lib.hid hb
  have HM0 := Lib.hid (mixM_zero (m := m) (s := s) ht16)
  have hm1 : (m : Int) ≤ 4294967295 := by omega
  clear hs ht hr hb ht16
  go_enter Tryd.func19, Tryd.ntmps19
  go_upto_region 1 with fail
  rw [← hW]
  clear hW hz
  have a0 := (cell_in HS0.out 0).trans (st_a s)
  have x0 := (cell_in HS0.out 1).trans (st_x s)
  cases h1 : ((m : Int) % 2 == 1)
  · cases h2 : ((m : Int) / 2 % 2 == 1)
    · have HA : Hid (t.a = (if m.testBit 0 then s.a else t.a)) := Lib.hid (by rw [bit0 m, h1]; rfl)
      have HXx : Hid (t.x = (if m.testBit 1 then s.x else t.x)) := Lib.hid (by rw [bit1 m, h2]; rfl)
      go_upto_region 5 with fail
      have HS1 := HS0
      have HT1 := HT0
      have HR1 := HR0
      have HB1 := HB0
      clear a0 x0 h1 h2
      go_wp2_with fail
      go_loopw [0, 7] (fun q i wr => ∃ j : Nat, j ≤ 16 ∧ i = .int .i64 j ∧ q = .int .u32 ((m / 4 / 2 ^ j : Nat) : Int) ∧ wr.heap[w.heap.size]? = some (stB s) ∧ wr.heap[w.heap.size + 1]? = some (stB ⟨t.a, t.x, mixM m s t j⟩) ∧ wr.heap[w.heap.size + 2]? = some (stB zeroSt) ∧ Below w.heap.size w wr) (fun _ i _ => 16 - (intOf i).toNat)
      case atStart => exact ⟨0, by omega, rfl, by rw [Nat.pow_zero, Nat.div_one]; go_num, HS1.out, by rw [HM0.out]; exact HT1.out, HR1.out, HB1.out⟩
      case round =>
        clear HS1 HT1 HR1 HB1
        obtain ⟨j, hj, rfl, rfl, hs, ht, hr, hbw⟩ := hrel
        have HS := Lib.hid hs
        have HT := Lib.hid ht
        have HR := Lib.hid hr
        have HB := Lib.hid hbw
        clear hs ht hr hbw
        by_cases hlt : j < 16
        · have HQ : Hid (m / 4 / 2 ^ (j + 1) = m / 4 / 2 ^ j / 2) := Lib.hid (by rw [Nat.pow_succ, Nat.div_div_eq_div_mul (m / 4)])
          have HBIT := Lib.hid (mix_bit m j)
          have hq1 : ((m / 4 / 2 ^ j : Nat) : Int) ≤ 4294967295 := by
            have h2 : m / 4 / 2 ^ j ≤ m := Nat.le_trans (Nat.div_le_self _ _) (Nat.div_le_self _ _)
            omega
          have hml := mixM_len m s t j
          generalize m / 4 / 2 ^ j = q at *
          cases hq : ((q : Int) % 2 == 1)
          · have HN := Lib.hid (mixM_no (s := s) (t := t) hlt (HBIT.out.trans hq))
            clear HBIT hml
            go_wp2_with fail
            go_roundw
            case rel => exact ⟨j + 1, by omega, by go_num, by rw [HQ.out]; go_num, HS.out, by rw [HN.out]; exact HT.out, HR.out, HB.out⟩
            case measure => simp [intOf]; omega
          · have HN := Lib.hid (mixM_yes (s := s) (t := t) hlt (HBIT.out.trans hq))
            have HSET := Lib.hid (set_m ⟨t.a, t.x, mixM m s t j⟩ (mAt s.m j) hml hlt)
            have d0 := (cell_in HS.out (2 + j)).trans (st_m s hlt)
            clear HBIT hml
            go_wp2_with (refine st_fld HSET.out HT.out (by omega) rfl rfl rfl rfl ?_; intro W2 hp2; have HP2 := Lib.hid hp2; clear hp2)
            go_roundw
            case rel => exact ⟨j + 1, by omega, by go_num, by rw [HQ.out]; go_num, HP2.out.keep (by omega) HS.out, by rw [← HN.out]; exact HP2.out.row, HP2.out.keep (by omega) HR.out, HP2.out.below HB.out (by omega)⟩
            case measure => simp [intOf]; omega
        · obtain rfl : j = 16 := by omega
          have HE : Hid ((⟨t.a, t.x, mixM m s t 16⟩ : St) = mixS (fun i => m.testBit i) s t) := Lib.hid (by rw [HA.out, HXx.out]; exact mix_end m s t)
          rw [HE.out] at HT
          go_wp2_with (first | (refine ld_st HT.out rfl rfl rfl ?_) | (refine st_st HR.out rfl rfl rfl rfl rfl ?_; intro W3 hp3; have HP3 := Lib.hid hp3; clear hp3))
          (try simp only [Exit.inBlock, Exit.then])
          exact bodyPost_ret (results_st1 rfl rfl HP3.out.row) rfl ⟨rfl, HP3.out.below HB.out (by omega)⟩
    · have HA : Hid (t.a = (if m.testBit 0 then s.a else t.a)) := Lib.hid (by rw [bit0 m, h1]; rfl)
      have HXx : Hid (s.x = (if m.testBit 1 then s.x else t.x)) := Lib.hid (by rw [bit1 m, h2]; rfl)
      go_upto_region 5 with (refine st_fld (set_x t s.x) HT0.out (by omega) rfl rfl rfl rfl ?_; intro W2 hp2; have HP2 := Lib.hid hp2; clear hp2)
      have HS1 := Lib.hid (HP2.out.keep (by omega) HS0.out)
      have HT1 := Lib.hid HP2.out.row
      have HR1 := Lib.hid (HP2.out.keep (by omega) HR0.out)
      have HB1 := Lib.hid (HP2.out.below HB0.out (by omega))
      clear a0 x0 h1 h2
      go_wp2_with fail
      go_loopw [0, 7] (fun q i wr => ∃ j : Nat, j ≤ 16 ∧ i = .int .i64 j ∧ q = .int .u32 ((m / 4 / 2 ^ j : Nat) : Int) ∧ wr.heap[w.heap.size]? = some (stB s) ∧ wr.heap[w.heap.size + 1]? = some (stB ⟨t.a, s.x, mixM m s t j⟩) ∧ wr.heap[w.heap.size + 2]? = some (stB zeroSt) ∧ Below w.heap.size w wr) (fun _ i _ => 16 - (intOf i).toNat)
      case atStart => exact ⟨0, by omega, rfl, by rw [Nat.pow_zero, Nat.div_one]; go_num, HS1.out, by rw [HM0.out]; exact HT1.out, HR1.out, HB1.out⟩
      case round =>
        clear HS1 HT1 HR1 HB1
        obtain ⟨j, hj, rfl, rfl, hs, ht, hr, hbw⟩ := hrel
        have HS := Lib.hid hs
        have HT := Lib.hid ht
        have HR := Lib.hid hr
        have HB := Lib.hid hbw
        clear hs ht hr hbw
        by_cases hlt : j < 16
        · have HQ : Hid (m / 4 / 2 ^ (j + 1) = m / 4 / 2 ^ j / 2) := Lib.hid (by rw [Nat.pow_succ, Nat.div_div_eq_div_mul (m / 4)])
          have HBIT := Lib.hid (mix_bit m j)
          have hq1 : ((m / 4 / 2 ^ j : Nat) : Int) ≤ 4294967295 := by
            have h2 : m / 4 / 2 ^ j ≤ m := Nat.le_trans (Nat.div_le_self _ _) (Nat.div_le_self _ _)
            omega
          have hml := mixM_len m s t j
          generalize m / 4 / 2 ^ j = q at *
          cases hq : ((q : Int) % 2 == 1)
          · have HN := Lib.hid (mixM_no (s := s) (t := t) hlt (HBIT.out.trans hq))
            clear HBIT hml
            go_wp2_with fail
            go_roundw
            case rel => exact ⟨j + 1, by omega, by go_num, by rw [HQ.out]; go_num, HS.out, by rw [HN.out]; exact HT.out, HR.out, HB.out⟩
            case measure => simp [intOf]; omega
          · have HN := Lib.hid (mixM_yes (s := s) (t := t) hlt (HBIT.out.trans hq))
            have HSET := Lib.hid (set_m ⟨t.a, s.x, mixM m s t j⟩ (mAt s.m j) hml hlt)
            have d0 := (cell_in HS.out (2 + j)).trans (st_m s hlt)
            clear HBIT hml
            go_wp2_with (refine st_fld HSET.out HT.out (by omega) rfl rfl rfl rfl ?_; intro W2 hp2; have HP2 := Lib.hid hp2; clear hp2)
            go_roundw
            case rel => exact ⟨j + 1, by omega, by go_num, by rw [HQ.out]; go_num, HP2.out.keep (by omega) HS.out, by rw [← HN.out]; exact HP2.out.row, HP2.out.keep (by omega) HR.out, HP2.out.below HB.out (by omega)⟩
            case measure => simp [intOf]; omega
        · obtain rfl : j = 16 := by omega
          have HE : Hid ((⟨t.a, s.x, mixM m s t 16⟩ : St) = mixS (fun i => m.testBit i) s t) := Lib.hid (by rw [HA.out, HXx.out]; exact mix_end m s t)
          rw [HE.out] at HT
          go_wp2_with (first | (refine ld_st HT.out rfl rfl rfl ?_) | (refine st_st HR.out rfl rfl rfl rfl rfl ?_; intro W3 hp3; have HP3 := Lib.hid hp3; clear hp3))
          (try simp only [Exit.inBlock, Exit.then])
          exact bodyPost_ret (results_st1 rfl rfl HP3.out.row) rfl ⟨rfl, HP3.out.below HB.out (by omega)⟩
  · cases h2 : ((m : Int) / 2 % 2 == 1)
    · have HA : Hid (s.a = (if m.testBit 0 then s.a else t.a)) := Lib.hid (by rw [bit0 m, h1]; rfl)
      have HXx : Hid (t.x = (if m.testBit 1 then s.x else t.x)) := Lib.hid (by rw [bit1 m, h2]; rfl)
      go_upto_region 5 with (refine st_fld (set_a t s.a) HT0.out (by omega) rfl rfl rfl rfl ?_; intro W1 hp1; have HP1 := Lib.hid hp1; clear hp1; have x1 := (cell_in (HP1.out.keep (by omega) HS0.out) 1).trans (st_x s))
      have HS1 := Lib.hid (HP1.out.keep (by omega) HS0.out)
      have HT1 := Lib.hid HP1.out.row
      have HR1 := Lib.hid (HP1.out.keep (by omega) HR0.out)
      have HB1 := Lib.hid (HP1.out.below HB0.out (by omega))
      clear a0 x0 x1 h1 h2
      go_wp2_with fail
      go_loopw [0, 7] (fun q i wr => ∃ j : Nat, j ≤ 16 ∧ i = .int .i64 j ∧ q = .int .u32 ((m / 4 / 2 ^ j : Nat) : Int) ∧ wr.heap[w.heap.size]? = some (stB s) ∧ wr.heap[w.heap.size + 1]? = some (stB ⟨s.a, t.x, mixM m s t j⟩) ∧ wr.heap[w.heap.size + 2]? = some (stB zeroSt) ∧ Below w.heap.size w wr) (fun _ i _ => 16 - (intOf i).toNat)
      case atStart => exact ⟨0, by omega, rfl, by rw [Nat.pow_zero, Nat.div_one]; go_num, HS1.out, by rw [HM0.out]; exact HT1.out, HR1.out, HB1.out⟩
      case round =>
        clear HS1 HT1 HR1 HB1
        obtain ⟨j, hj, rfl, rfl, hs, ht, hr, hbw⟩ := hrel
        have HS := Lib.hid hs
        have HT := Lib.hid ht
        have HR := Lib.hid hr
        have HB := Lib.hid hbw
        clear hs ht hr hbw
        by_cases hlt : j < 16
        · have HQ : Hid (m / 4 / 2 ^ (j + 1) = m / 4 / 2 ^ j / 2) := Lib.hid (by rw [Nat.pow_succ, Nat.div_div_eq_div_mul (m / 4)])
          have HBIT := Lib.hid (mix_bit m j)
          have hq1 : ((m / 4 / 2 ^ j : Nat) : Int) ≤ 4294967295 := by
            have h2 : m / 4 / 2 ^ j ≤ m := Nat.le_trans (Nat.div_le_self _ _) (Nat.div_le_self _ _)
            omega
          have hml := mixM_len m s t j
          generalize m / 4 / 2 ^ j = q at *
          cases hq : ((q : Int) % 2 == 1)
          · have HN := Lib.hid (mixM_no (s := s) (t := t) hlt (HBIT.out.trans hq))
            clear HBIT hml
            go_wp2_with fail
            go_roundw
            case rel => exact ⟨j + 1, by omega, by go_num, by rw [HQ.out]; go_num, HS.out, by rw [HN.out]; exact HT.out, HR.out, HB.out⟩
            case measure => simp [intOf]; omega
          · have HN := Lib.hid (mixM_yes (s := s) (t := t) hlt (HBIT.out.trans hq))
            have HSET := Lib.hid (set_m ⟨s.a, t.x, mixM m s t j⟩ (mAt s.m j) hml hlt)
            have d0 := (cell_in HS.out (2 + j)).trans (st_m s hlt)
            clear HBIT hml
            go_wp2_with (refine st_fld HSET.out HT.out (by omega) rfl rfl rfl rfl ?_; intro W2 hp2; have HP2 := Lib.hid hp2; clear hp2)
            go_roundw
            case rel => exact ⟨j + 1, by omega, by go_num, by rw [HQ.out]; go_num, HP2.out.keep (by omega) HS.out, by rw [← HN.out]; exact HP2.out.row, HP2.out.keep (by omega) HR.out, HP2.out.below HB.out (by omega)⟩
            case measure => simp [intOf]; omega
        · obtain rfl : j = 16 := by omega
          have HE : Hid ((⟨s.a, t.x, mixM m s t 16⟩ : St) = mixS (fun i => m.testBit i) s t) := Lib.hid (by rw [HA.out, HXx.out]; exact mix_end m s t)
          rw [HE.out] at HT
          go_wp2_with (first | (refine ld_st HT.out rfl rfl rfl ?_) | (refine st_st HR.out rfl rfl rfl rfl rfl ?_; intro W3 hp3; have HP3 := Lib.hid hp3; clear hp3))
          (try simp only [Exit.inBlock, Exit.then])
          exact bodyPost_ret (results_st1 rfl rfl HP3.out.row) rfl ⟨rfl, HP3.out.below HB.out (by omega)⟩
    · have HA : Hid (s.a = (if m.testBit 0 then s.a else t.a)) := Lib.hid (by rw [bit0 m, h1]; rfl)
      have HXx : Hid (s.x = (if m.testBit 1 then s.x else t.x)) := Lib.hid (by rw [bit1 m, h2]; rfl)
      go_upto_region 5 with (first | (refine st_fld (set_a t s.a) HT0.out (by omega) rfl rfl rfl rfl ?_; intro W1 hp1; have HP1 := Lib.hid hp1; clear hp1; have x1 := (cell_in (HP1.out.keep (by omega) HS0.out) 1).trans (st_x s)) | (refine st_fld (set_x ⟨s.a, t.x, t.m⟩ s.x) HP1.out.row (by omega) rfl rfl rfl rfl ?_; intro W2 hp2; have HP2 := Lib.hid hp2; clear hp2))
      have HS1 := Lib.hid (HP2.out.keep (by omega) (HP1.out.keep (by omega) HS0.out))
      have HT1 := Lib.hid HP2.out.row
      have HR1 := Lib.hid (HP2.out.keep (by omega) (HP1.out.keep (by omega) HR0.out))
      have HB1 := Lib.hid (HP2.out.below (HP1.out.below HB0.out (by omega)) (by omega))
      clear a0 x0 x1 h1 h2
      go_wp2_with fail
      go_loopw [0, 7] (fun q i wr => ∃ j : Nat, j ≤ 16 ∧ i = .int .i64 j ∧ q = .int .u32 ((m / 4 / 2 ^ j : Nat) : Int) ∧ wr.heap[w.heap.size]? = some (stB s) ∧ wr.heap[w.heap.size + 1]? = some (stB ⟨s.a, s.x, mixM m s t j⟩) ∧ wr.heap[w.heap.size + 2]? = some (stB zeroSt) ∧ Below w.heap.size w wr) (fun _ i _ => 16 - (intOf i).toNat)
      case atStart => exact ⟨0, by omega, rfl, by rw [Nat.pow_zero, Nat.div_one]; go_num, HS1.out, by rw [HM0.out]; exact HT1.out, HR1.out, HB1.out⟩
      case round =>
        clear HS1 HT1 HR1 HB1
        obtain ⟨j, hj, rfl, rfl, hs, ht, hr, hbw⟩ := hrel
        have HS := Lib.hid hs
        have HT := Lib.hid ht
        have HR := Lib.hid hr
        have HB := Lib.hid hbw
        clear hs ht hr hbw
        by_cases hlt : j < 16
        · have HQ : Hid (m / 4 / 2 ^ (j + 1) = m / 4 / 2 ^ j / 2) := Lib.hid (by rw [Nat.pow_succ, Nat.div_div_eq_div_mul (m / 4)])
          have HBIT := Lib.hid (mix_bit m j)
          have hq1 : ((m / 4 / 2 ^ j : Nat) : Int) ≤ 4294967295 := by
            have h2 : m / 4 / 2 ^ j ≤ m := Nat.le_trans (Nat.div_le_self _ _) (Nat.div_le_self _ _)
            omega
          have hml := mixM_len m s t j
          generalize m / 4 / 2 ^ j = q at *
          cases hq : ((q : Int) % 2 == 1)
          · have HN := Lib.hid (mixM_no (s := s) (t := t) hlt (HBIT.out.trans hq))
            clear HBIT hml
            go_wp2_with fail
            go_roundw
            case rel => exact ⟨j + 1, by omega, by go_num, by rw [HQ.out]; go_num, HS.out, by rw [HN.out]; exact HT.out, HR.out, HB.out⟩
            case measure => simp [intOf]; omega
          · have HN := Lib.hid (mixM_yes (s := s) (t := t) hlt (HBIT.out.trans hq))
            have HSET := Lib.hid (set_m ⟨s.a, s.x, mixM m s t j⟩ (mAt s.m j) hml hlt)
            have d0 := (cell_in HS.out (2 + j)).trans (st_m s hlt)
            clear HBIT hml
            go_wp2_with (refine st_fld HSET.out HT.out (by omega) rfl rfl rfl rfl ?_; intro W2 hp2; have HP2 := Lib.hid hp2; clear hp2)
            go_roundw
            case rel => exact ⟨j + 1, by omega, by go_num, by rw [HQ.out]; go_num, HP2.out.keep (by omega) HS.out, by rw [← HN.out]; exact HP2.out.row, HP2.out.keep (by omega) HR.out, HP2.out.below HB.out (by omega)⟩
            case measure => simp [intOf]; omega
        · obtain rfl : j = 16 := by omega
          have HE : Hid ((⟨s.a, s.x, mixM m s t 16⟩ : St) = mixS (fun i => m.testBit i) s t) := Lib.hid (by rw [HA.out, HXx.out]; exact mix_end m s t)
          rw [HE.out] at HT
          go_wp2_with (first | (refine ld_st HT.out rfl rfl rfl ?_) | (refine st_st HR.out rfl rfl rfl rfl rfl ?_; intro W3 hp3; have HP3 := Lib.hid hp3; clear hp3))
          (try simp only [Exit.inBlock, Exit.then])
          exact bodyPost_ret (results_st1 rfl rfl HP3.out.row) rfl ⟨rfl, HP3.out.below HB.out (by omega)⟩
end Go.Proofs.YtmbegncnbjafdaaDoor
