/-
  The document's own answers on conditions (package hurdleref08): Right, masked, Holds, part.
-/
import Derived.Test.YtlhpdjafhjfcoaaDoorQPlain
import Derived.Test.YtlhpdjafhjfcoaaDoorDWord
import Derived.BigQuiet
import Derived.Lib.QuietBelow
import Derived.Test.YtlhpdjafhjfcoaaDoorRefText
import Derived.Test.YtlhpdjafhjfcoaaDoorUState
namespace Go.Proofs.YtlhpdjafhjfcoaaDoor
open Go.ChangeShapes Go.WideShapes Go.ChangeAt Go.RowKit
set_option maxRecDepth 20000

theorem cdX {w : World} {g : Nat} {c : Cd} (h : w.heap[g]? = some (cdB c)) : w.cell? ⟨g, 0, none⟩ = some (.int .i64 c.arg) ∧ w.cell? ⟨g, 1, none⟩ = some (.int .i64 c.cmp) ∧ w.cell? ⟨g, 2, none⟩ = some (.int .u64 (c.mask : Nat)) ∧ w.cell? ⟨g, 3, none⟩ = some (.int .u64 (c.value : Nat)) :=
  ⟨cell_in h 0, cell_in h 1, cell_in h 2, cell_in h 3⟩
theorem rright8_any (c : Cd) (w : World) :
    Calls Tryd.prog 10 #[c.val] w fun e w' => e = .returned (.bool c.right) ∧ Below w.heap.size w w' := by
  have HB := Lib.hid (ba (cdB c) (Below.refl w.heap.size w))
  have HX := Lib.hid (heap_alloc_new w (cdB c))
  obtain ⟨c0, c1, c2, c3⟩ := cdX HX.out
  obtain ⟨arg, cmp, mask, value⟩ := c
  by_cases h0 : 0 ≤ arg
  · by_cases h1 : arg ≤ 5
    · by_cases h2 : 0 ≤ cmp
      · by_cases h3 : cmp ≤ 5
        · have HR : Hid ((⟨arg, cmp, mask, value⟩ : Cd).right = true) := Lib.hid (by rw [Cd.right_iff]; exact ⟨h0, h1, h2, h3⟩)
          go_enter Tryd.func10, Tryd.ntmps10
          go_wp2_with fail
          go_ret
          exact ⟨by rw [HR.out]; rfl, HB.out⟩
        · have HR : Hid ((⟨arg, cmp, mask, value⟩ : Cd).right = false) := Lib.hid (by rw [Bool.eq_false_iff, ne_eq, Cd.right_iff]; simp only; omega)
          go_enter Tryd.func10, Tryd.ntmps10
          go_wp2_with fail
          go_ret
          exact ⟨by rw [HR.out]; rfl, HB.out⟩
      · have HR : Hid ((⟨arg, cmp, mask, value⟩ : Cd).right = false) := Lib.hid (by rw [Bool.eq_false_iff, ne_eq, Cd.right_iff]; simp only; omega)
        go_enter Tryd.func10, Tryd.ntmps10
        go_wp2_with fail
        go_ret
        exact ⟨by rw [HR.out]; rfl, HB.out⟩
    · have HR : Hid ((⟨arg, cmp, mask, value⟩ : Cd).right = false) := Lib.hid (by rw [Bool.eq_false_iff, ne_eq, Cd.right_iff]; simp only; omega)
      go_enter Tryd.func10, Tryd.ntmps10
      go_wp2_with fail
      go_ret
      exact ⟨by rw [HR.out]; rfl, HB.out⟩
  · have HR : Hid ((⟨arg, cmp, mask, value⟩ : Cd).right = false) := Lib.hid (by rw [Bool.eq_false_iff, ne_eq, Cd.right_iff]; simp only; omega)
    go_enter Tryd.func10, Tryd.ntmps10
    go_wp2_with fail
    go_ret
    exact ⟨by rw [HR.out]; rfl, HB.out⟩

theorem div_pow (a j : Nat) : a / 2 ^ (j + 1) = a / 2 ^ j / 2 := by rw [Nat.pow_succ, Nat.div_div_eq_div_mul]
theorem bit_div (a j : Nat) : a.testBit j = ((a / 2 ^ j : Nat) % 2 == 1) := by
  rw [Nat.testBit_eq_decide_div_mod_eq]
  generalize a / 2 ^ j = q
  rw [Bool.eq_iff_iff]
  simp
set_option maxHeartbeats 1000000 in
theorem rmasked_any (a b : Nat) (w : World) (ha : a < 18446744073709551616) (hb : b < 18446744073709551616) :
    Calls Tryd.prog 20 #[.int .u64 a, .int .u64 b] w fun e w' => e = .returned (.int .u64 (a &&& b : Nat)) ∧ Below w.heap.size w w' := by
  obtain ⟨P, hP⟩ : ∃ P : Nat → Bool, P = fun i => a.testBit i && b.testBit i := ⟨_, rfl⟩
  have HM : Hid (maskN P 64 = a &&& b) := Lib.hid (by rw [hP]; exact mask_and64 ha)
  have HP : Hid (∀ j, P j = (((a / 2 ^ j : Nat) % 2 == 1) && ((b / 2 ^ j : Nat) % 2 == 1))) := Lib.hid (fun j => by rw [hP]; simp only; rw [bit_div, bit_div])
  clear hP
  go_enter Tryd.func20, Tryd.ntmps20
  go_wp2_with fail
  go_loopw [0, 1, 5, 6, 7] (fun x y o p i wr => ∃ j : Nat, j ≤ 64 ∧ i = .int .i64 j ∧ x = .int .u64 ((a / 2 ^ j : Nat) : Int) ∧ y = .int .u64 ((b / 2 ^ j : Nat) : Int) ∧ o = .int .u64 ((maskN P j : Nat) : Int) ∧ p = .int .u64 ((2 ^ j % 18446744073709551616 : Nat) : Int) ∧ Below w.heap.size w wr) (fun _ _ _ _ i _ => 64 - (intOf i).toNat)
  case atStart => exact ⟨0, by omega, rfl, by rw [Nat.pow_zero, Nat.div_one], by rw [Nat.pow_zero, Nat.div_one], rfl, rfl, Below.refl _ _⟩
  case round =>
    obtain ⟨j, hj, rfl, rfl, rfl, rfl, rfl, hbw⟩ := hrel
    have HB := Lib.hid hbw
    clear hbw
    by_cases hlt : j < 64
    · have HX := Lib.hid (div_pow a j)
      have HY := Lib.hid (div_pow b j)
      have hx1 : a / 2 ^ j ≤ a := Nat.div_le_self _ _
      have hy1 : b / 2 ^ j ≤ b := Nat.div_le_self _ _
      have HPJ := Lib.hid (HP.out j)
      have hpow : 2 ^ j < 18446744073709551616 := Nat.lt_of_lt_of_le (Nat.pow_lt_pow_right (by omega) hlt) (show 2 ^ 64 ≤ 18446744073709551616 by decide)
      have hM := maskN_lt P j
      have HPW : Hid (2 ^ (j + 1) = 2 ^ j * 2) := Lib.hid (Nat.pow_succ 2 j)
      have HMN : Hid (maskN P (j + 1) = maskN P j + (if P j then 2 ^ j else 0)) := Lib.hid rfl
      have e1 : 2 ^ j % 18446744073709551616 = 2 ^ j := Nat.mod_eq_of_lt hpow
      have hpow2 : 2 ^ j ≤ 9223372036854775808 := Nat.pow_le_pow_right (n := 2) (by omega) (show j ≤ 63 by omega)
      rw [e1]
      clear e1 hpow
      generalize a / 2 ^ j = x at *
      generalize b / 2 ^ j = y at *
      generalize maskN P j = m at *
      generalize 2 ^ j = q at *
      have hx2 : (x : Int) ≤ 18446744073709551615 := by omega
      have hy2 : (y : Int) ≤ 18446744073709551615 := by omega
      have hq2 : (q : Int) ≤ 9223372036854775808 := by omega
      have hm2 : (m : Int) < q := by omega
      clear hx1 hy1 hM hpow2
      have hxe : ((x : Int) % 2 == 1) = (x % 2 == 1) := by rw [Bool.eq_iff_iff]; simp; omega
      have hye : ((y : Int) % 2 == 1) = (y % 2 == 1) := by rw [Bool.eq_iff_iff]; simp; omega
      cases hx : (x % 2 == 1)
      · rw [hx] at hxe HPJ
        rw [Bool.false_and] at HPJ
        rw [HPJ.out] at HMN
        clear hye hx
        go_wp2_with fail
        go_roundw
        case rel => exact ⟨j + 1, by omega, by go_num, by rw [HX.out]; go_num, by rw [HY.out]; go_num, by rw [HMN.out]; rfl, by rw [HPW.out]; go_num, HB.out⟩
        case measure => simp [intOf]; omega
      · rw [hx] at hxe HPJ
        rw [Bool.true_and] at HPJ
        clear hx
        cases hy : (y % 2 == 1)
        · rw [hy] at hye HPJ
          rw [HPJ.out] at HMN
          clear hy
          go_wp2_with fail
          go_roundw
          case rel => exact ⟨j + 1, by omega, by go_num, by rw [HX.out]; go_num, by rw [HY.out]; go_num, by rw [HMN.out]; rfl, by rw [HPW.out]; go_num, HB.out⟩
          case measure => simp [intOf]; omega
        · rw [hy] at hye HPJ
          rw [HPJ.out] at HMN
          clear hy
          go_wp2_with fail
          go_roundw
          case rel => exact ⟨j + 1, by omega, by go_num, by rw [HX.out]; go_num, by rw [HY.out]; go_num, by rw [HMN.out]; go_num, by rw [HPW.out]; go_num, HB.out⟩
          case measure => simp [intOf]; omega
    · obtain rfl : j = 64 := by omega
      rw [HM.out]
      go_wp2_with fail
      go_ret
      exact ⟨rfl, HB.out⟩
theorem cmp_lt {v x : Nat} (h : v < x) : cmpB 0 v x = false ∧ cmpB 1 v x = true ∧ cmpB 2 v x = true ∧ cmpB 3 v x = true ∧ cmpB 4 v x = false ∧ cmpB 5 v x = false := by
  refine ⟨?_, ?_, ?_, ?_, ?_, ?_⟩ <;> simp [cmpB] <;> omega
theorem cmp_gt {v x : Nat} (h : x < v) : cmpB 0 v x = false ∧ cmpB 1 v x = true ∧ cmpB 2 v x = false ∧ cmpB 3 v x = false ∧ cmpB 4 v x = true ∧ cmpB 5 v x = true := by
  refine ⟨?_, ?_, ?_, ?_, ?_, ?_⟩ <;> simp [cmpB] <;> omega
theorem cmp_same (v : Nat) : cmpB 0 v v = true ∧ cmpB 1 v v = false ∧ cmpB 2 v v = false ∧ cmpB 3 v v = true ∧ cmpB 4 v v = false ∧ cmpB 5 v v = true := by
  refine ⟨?_, ?_, ?_, ?_, ?_, ?_⟩ <;> simp [cmpB]
theorem bits_lt {c : Cd} {d : Rec} (hd : d.ok) : c.bits d < 18446744073709551616 := by
  have h := args_lt hd c.arg.toNat
  unfold Cd.bits
  exact Nat.lt_of_le_of_lt Nat.and_le_left h
set_option maxHeartbeats 4000000 in
theorem rholds8_any (c : Cd) (d : Rec) (w : World) (hc : c.ok) (hd : d.ok) :
    Calls Tryd.prog 12 #[c.val, d.val] w fun e w' => e = .returned (.bool (c.holds d)) ∧ Below w.heap.size w w' := by
  have HX0 := Lib.hid (ka (.cells d.cells 28) (heap_alloc_new w (cdB c)))
  have hD0 := heap_alloc_new (w.alloc (cdB c)) (.cells d.cells 28)
  rw [size_alloc] at hD0
  have HD0 := Lib.hid hD0
  have HB0 := Lib.hid (ba (.cells d.cells 28) (ba (cdB c) (Below.refl w.heap.size w)))
  obtain ⟨W, hW⟩ : ∃ W, W = (w.alloc (cdB c)).alloc (.cells d.cells 28) := ⟨_, rfl⟩
  rw [← hW] at HX0 HD0 HB0
  clear hD0
  go_enter Tryd.func12, Tryd.ntmps12
  go_upto_region 1 with fail
  rw [← hW]
  clear hW
  obtain ⟨c0, c1, c2, c3⟩ := cdX HX0.out
  go_wp2_with fail
  refine (rright8_any c _).mono ?_
  rintro e w1 ⟨rfl, hb1⟩
  have HX1 := Lib.hid (kb hb1 HX0.out)
  have HD1 := Lib.hid (kb hb1 HD0.out)
  have HB1 := Lib.hid (below2 HB0.out hb1)
  clear hb1 c0 c1 c2 c3 HX0 HD0 HB0
  cases hr : c.right
  · have HR := Lib.hid (holds_bad hr d)
    clear hr
    go_wp2_with fail
    go_ret
    exact ⟨by rw [HR.out]; rfl, HB1.out⟩
  · obtain ⟨a0, a5, k0, k5⟩ := (c.right_iff).1 hr
    have HR : Hid (c.holds d = cmpB c.cmp (c.bits d) c.value) := Lib.hid (by unfold Cd.holds; rw [hr]; rfl)
    obtain ⟨n, hn⟩ : ∃ n : Nat, c.arg = n := ⟨c.arg.toNat, by omega⟩
    have hn6 : n < 6 := by omega
    have HBT : Hid (c.bits d = (argsD d).getD n 0 &&& c.mask) := Lib.hid (by unfold Cd.bits; rw [hn]; rfl)
    have HBL := Lib.hid (bits_lt (c := c) hd)
    have HAL := Lib.hid (args_lt hd n)
    obtain ⟨c0, c1, c2, c3⟩ := cdX HX1.out
    have x3 := (cell_in HD1.out (3 + n)).trans (args_cell d n hn6)
    rw [hn] at c0
    clear hn
    have y0 := cell_regrown c0
    have y2 := cell_regrown c2
    have y3 := cell_regrown x3
    obtain ⟨A, hA⟩ : ∃ A, A = (argsD d).getD n 0 := ⟨_, rfl⟩
    rw [← hA] at HBT HAL y3
    have cM : ∀ d' os, Calls Tryd.prog 20 #[.int .u64 (A : Nat), .int .u64 (c.mask : Nat)] (Sort.grow (redrawn w1 d') os) fun e w'' => e = .returned (.int .u64 (c.bits d : Nat)) ∧ ∃ p : Regrown, w'' = Sort.grow (redrawn w1 p.d) p.os := fun d' os => Calls.regrown_of ((rmasked_any A c.mask _ HAL.out hc.1).mono fun e w' h => ⟨by rw [HBT.out]; exact h.1, h.2⟩)
    generalize c.bits d = V at *
    clear hA hr c0 c1 c2 c3 x3
    go_wp2_with fail
    have l0 : (0 : Int) ≤ (n : Int) := by omega
    have l1 : (n : Int) < 6 := by omega
    have t1 : (n : Int).toNat = n := by omega
    refine wp_region_quiet_below (by kernel_rfl) (by kernel_rfl) ?_
    repeat (quiet_step (with_reducible exact cM _ _))
    refine wpQuiet_nil ?_
    intro _ hw'
    obtain ⟨⟨dq, osq⟩, hw''⟩ := hw'
    subst hw''
    have hbq := below_regrown w1 dq osq
    have HBq := Lib.hid (below2 HB1.out hbq)
    have HXq := Lib.hid (kb hbq HX1.out)
    clear hbq y0 y2 y3 cM l0 l1 t1
    generalize Sort.grow (redrawn w1 dq) osq = Wq at *
    obtain ⟨c0, c1, c2, c3⟩ := cdX HXq.out
    obtain ⟨arg, cmp, mask, x⟩ := c
    simp only at c1 c3 k0 k5 HR
    clear c0 c2
    have HK := Lib.hid (six k0 k5)
    clear k0 k5
    rcases Nat.lt_trichotomy V x with h | h | h
    · obtain ⟨q0, q1, q2, q3, q4, q5⟩ := cmp_lt h
      have i1 : (V : Int) < (x : Int) := by omega
      have i2 : ¬ (x : Int) < (V : Int) := by omega
      have Q := Lib.hid (And.intro q0 (And.intro q1 (And.intro q2 (And.intro q3 (And.intro q4 q5)))))
      clear q0 q1 q2 q3 q4 q5
      rcases HK.out with rfl | rfl | rfl | rfl | rfl | rfl
      · rw [Q.out.1] at HR
        go_wp2_with fail
        go_ret
        exact ⟨by rw [HR.out]; rfl, HBq.out⟩
      · rw [Q.out.2.1] at HR
        go_wp2_with fail
        go_ret
        exact ⟨by rw [HR.out]; rfl, HBq.out⟩
      · rw [Q.out.2.2.1] at HR
        go_wp2_with fail
        go_ret
        exact ⟨by rw [HR.out]; rfl, HBq.out⟩
      · rw [Q.out.2.2.2.1] at HR
        go_wp2_with fail
        go_ret
        exact ⟨by rw [HR.out]; rfl, HBq.out⟩
      · rw [Q.out.2.2.2.2.1] at HR
        go_wp2_with fail
        go_ret
        exact ⟨by rw [HR.out]; rfl, HBq.out⟩
      · rw [Q.out.2.2.2.2.2] at HR
        go_wp2_with fail
        go_ret
        exact ⟨by rw [HR.out]; rfl, HBq.out⟩
    · subst h
      obtain ⟨q0, q1, q2, q3, q4, q5⟩ := cmp_same V
      have i1 : ¬ (V : Int) < (V : Int) := by omega
      have Q := Lib.hid (And.intro q0 (And.intro q1 (And.intro q2 (And.intro q3 (And.intro q4 q5)))))
      clear q0 q1 q2 q3 q4 q5
      rcases HK.out with rfl | rfl | rfl | rfl | rfl | rfl
      · rw [Q.out.1] at HR
        go_wp2_with fail
        go_ret
        exact ⟨by rw [HR.out]; rfl, HBq.out⟩
      · rw [Q.out.2.1] at HR
        go_wp2_with fail
        go_ret
        exact ⟨by rw [HR.out]; rfl, HBq.out⟩
      · rw [Q.out.2.2.1] at HR
        go_wp2_with fail
        go_ret
        exact ⟨by rw [HR.out]; rfl, HBq.out⟩
      · rw [Q.out.2.2.2.1] at HR
        go_wp2_with fail
        go_ret
        exact ⟨by rw [HR.out]; rfl, HBq.out⟩
      · rw [Q.out.2.2.2.2.1] at HR
        go_wp2_with fail
        go_ret
        exact ⟨by rw [HR.out]; rfl, HBq.out⟩
      · rw [Q.out.2.2.2.2.2] at HR
        go_wp2_with fail
        go_ret
        exact ⟨by rw [HR.out]; rfl, HBq.out⟩
    · obtain ⟨q0, q1, q2, q3, q4, q5⟩ := cmp_gt h
      have i1 : ¬ (V : Int) < (x : Int) := by omega
      have i2 : (x : Int) < (V : Int) := by omega
      have Q := Lib.hid (And.intro q0 (And.intro q1 (And.intro q2 (And.intro q3 (And.intro q4 q5)))))
      clear q0 q1 q2 q3 q4 q5
      rcases HK.out with rfl | rfl | rfl | rfl | rfl | rfl
      · rw [Q.out.1] at HR
        go_wp2_with fail
        go_ret
        exact ⟨by rw [HR.out]; rfl, HBq.out⟩
      · rw [Q.out.2.1] at HR
        go_wp2_with fail
        go_ret
        exact ⟨by rw [HR.out]; rfl, HBq.out⟩
      · rw [Q.out.2.2.1] at HR
        go_wp2_with fail
        go_ret
        exact ⟨by rw [HR.out]; rfl, HBq.out⟩
      · rw [Q.out.2.2.2.1] at HR
        go_wp2_with fail
        go_ret
        exact ⟨by rw [HR.out]; rfl, HBq.out⟩
      · rw [Q.out.2.2.2.2.1] at HR
        go_wp2_with fail
        go_ret
        exact ⟨by rw [HR.out]; rfl, HBq.out⟩
      · rw [Q.out.2.2.2.2.2] at HR
        go_wp2_with fail
        go_ret
        exact ⟨by rw [HR.out]; rfl, HBq.out⟩

/-- What is scanned up to a place. -/
theorem upto_scan {l : List UInt8} {p j : Nat} (hp : p ≤ j) (hj : j < l.length) (h : ∀ i, p ≤ i → i < j → l[i]? ≠ some 32) (hc : l[j] = 32) : uptoS (l.drop p) = (l.drop p).take (j - p) := by
  have e : l.drop p = (l.drop p).take (j - p) ++ 32 :: (l.drop p).drop (j - p + 1) := by
    have h1 := List.take_append_drop (j - p) (l.drop p)
    have h2 : (l.drop p).drop (j - p) = 32 :: (l.drop p).drop (j - p + 1) := by
      rw [List.drop_drop, List.drop_drop, show p + (j - p) = j by omega, show p + (j - p + 1) = j + 1 by omega, List.drop_eq_getElem_cons hj, hc]
    rw [← h2]
    exact h1.symm
  conv => lhs; rw [e]
  refine uptoS_app fun c hc' => ?_
  obtain ⟨i, hi, rfl⟩ := List.mem_iff_getElem.1 hc'
  intro he
  have hi2 : i < j - p := by
    have := hi
    rw [List.length_take] at this
    omega
  refine h (p + i) (by omega) (by omega) ?_
  rw [← he, List.getElem_take, List.getElem_drop, List.getElem?_eq_getElem (by omega)]
theorem upto_scan_end {l : List UInt8} {p : Nat} (h : ∀ i, p ≤ i → i < l.length → l[i]? ≠ some 32) : uptoS (l.drop p) = l.drop p := by
  refine uptoS_all fun c hc' => ?_
  obtain ⟨i, hi, rfl⟩ := List.mem_iff_getElem.1 hc'
  intro he
  rw [List.length_drop] at hi
  refine h (p + i) (by omega) (by omega) ?_
  rw [← he, List.getElem_drop, List.getElem?_eq_getElem (by omega)]
theorem extract_take (s : ByteArray) (a b : Nat) : s.extract a b = ⟨((s.data.toList.drop a).take (b - a)).toArray⟩ := by
  apply ByteArray.ext
  apply Array.ext'
  simp [ByteArray.data_extract, List.extract_eq_take_drop]
/-- A piece of a text, as a text. -/
def pieceT (s : ByteArray) (p : Nat) : ByteArray := ⟨(pieceL s.data.toList p).toArray⟩
theorem pieceT_size (s : ByteArray) (p : Nat) : (pieceT s p).size ≤ s.size := by
  show (pieceL s.data.toList p).length ≤ s.data.toList.length
  unfold pieceL
  split
  · simp
  · refine Nat.le_trans (List.IsPrefix.length_le (List.takeWhile_prefix _)) ?_
    rw [List.length_drop]
    omega
theorem nextP_le (s : ByteArray) (p : Nat) (h : p ≤ s.size + 1) : nextP s.data.toList p ≤ s.size + 1 := by
  have hl : s.data.toList.length = s.size := rfl
  unfold nextP
  split
  · exact h
  · have : (uptoS (s.data.toList.drop p)).length ≤ (s.data.toList.drop p).length := List.IsPrefix.length_le (List.takeWhile_prefix _)
    rw [List.length_drop] at this
    omega
set_option maxHeartbeats 1000000 in
theorem rpart_any (s : ByteArray) (p : Nat) (w : World) (hs : s.size ≤ 4611686018427387904) (hp : p ≤ s.size + 1) :
    Calls Tryd.prog 28 #[.string s, .int .i64 p] w fun e w' => e = .returned (.tuple #[.string (pieceT s p), .int .i64 (nextP s.data.toList p : Nat)]) ∧ Below w.heap.size w w' := by
  have hl : s.data.toList.length = s.size := rfl
  by_cases hge : s.size ≤ p
  · have HE : Hid (pieceT s p = ⟨#[]⟩ ∧ nextP s.data.toList p = p) := Lib.hid (by
      unfold pieceT pieceL nextP
      rw [if_pos (by omega), if_pos (by omega)]
      exact ⟨rfl, rfl⟩)
    rw [HE.out.1, HE.out.2]
    have h1 : ¬ (p : Int) < (s.size : Int) := by omega
    have h2 : (s.size : Int) ≤ (p : Int) := by omega
    clear hl
    go_enter Tryd.func28, Tryd.ntmps28
    go_wp2_with fail
    go_loopw [6] (fun i wr => i = .int .i64 p ∧ Below w.heap.size w wr) (fun i _ => 0)
    case atStart => exact ⟨rfl, Below.refl _ _⟩
    case round =>
      obtain ⟨rfl, hbw⟩ := hrel
      have HB := Lib.hid hbw
      clear hbw
      go_wp2_with fail
      go_ret2
      exact ⟨rfl, HB.out⟩
  · have hlt0 : p < s.size := by omega
    go_enter Tryd.func28, Tryd.ntmps28
    go_wp2_with fail
    go_loopw [6] (fun i wr => ∃ j : Nat, p ≤ j ∧ j ≤ s.size ∧ i = .int .i64 j ∧ Below w.heap.size w wr ∧ ∀ i, p ≤ i → i < j → s.data.toList[i]? ≠ some 32) (fun i _ => s.size - (intOf i).toNat)
    case atStart => exact ⟨p, by omega, by omega, rfl, Below.refl _ _, fun i h1 h2 => by omega⟩
    case round =>
      obtain ⟨j, hj0, hj1, rfl, hbw, hno⟩ := hrel
      have HB := Lib.hid hbw
      have HN := Lib.hid hno
      clear hbw hno
      have fin : ∀ j', p ≤ j' → j' ≤ s.size → uptoS (s.data.toList.drop p) = (s.data.toList.drop p).take (j' - p) → pieceT s p = s.extract p j' ∧ nextP s.data.toList p = j' + 1 := by
        intro j' h0 h1 hu
        unfold pieceT pieceL nextP
        rw [if_neg (by omega), if_neg (by omega), hu, extract_take]
        refine ⟨rfl, ?_⟩
        rw [List.length_take, List.length_drop]
        omega
      have FIN := Lib.hid fin
      clear fin
      have hsl : ∀ W, (Instr.slice 9 (.string s) (some (.int .i64 (p : Int))) (some (.int .i64 (j : Int))) none).run Tryd.prog W = .ok (.string (s.extract p j)) W := fun W => by
        have h := run_slice_string (P := Tryd.prog) W 9 s .i64 .i64 (p : Int) (j : Int) Tryd.underlying9 (by omega) (by omega) (by omega)
        rw [h]
        rfl
      by_cases hlt : j < s.size
      · by_cases hm : s.data.toList[j]'hlt = 32
        · have hbq : (((s[j]'hlt).toNat : Int) == 32) = true := by
            have e : s[j]'hlt = 32 := hm
            rw [e]
            rfl
          have HF := Lib.hid (FIN.out j hj0 hj1 (upto_scan hj0 hlt HN.out hm))
          clear hm FIN HN
          go_wp2_with fail
          go_ret2
          exact ⟨by rw [HF.out.1, HF.out.2]; first | (simp; done) | (simp; omega), HB.out⟩
        · have hbq : (((s[j]'hlt).toNat : Int) == 32) = false := by
            rw [beq_eq_false_iff_ne]
            intro e
            apply hm
            apply UInt8.toNat_inj.1
            exact Int.ofNat.inj e
          have HN' : Hid (∀ i, p ≤ i → i < j + 1 → s.data.toList[i]? ≠ some 32) := Lib.hid (by
            intro i h1 h2
            by_cases hij : i < j
            · exact HN.out i h1 hij
            · obtain rfl : i = j := by omega
              rw [List.getElem?_eq_getElem hlt]
              intro e
              exact hm (Option.some.inj e))
          clear hm FIN HN hsl
          go_wp2_with fail
          go_roundw
          case rel => exact ⟨j + 1, by omega, by omega, by go_num, HB.out, HN'.out⟩
          case measure => simp [intOf]; omega
      · have hj : j = s.size := by omega
        have HF := Lib.hid (FIN.out j hj0 hj1 (by
          rw [upto_scan_end fun i h1 h2 => HN.out i h1 (by omega), List.take_of_length_le]
          rw [List.length_drop]
          omega))
        have h1 : ¬ (j : Int) < (s.size : Int) := by omega
        clear FIN HN hj
        go_wp2_with fail
        go_ret2
        exact ⟨by rw [HF.out.1, HF.out.2]; first | (simp; done) | (simp; omega), HB.out⟩
end Go.Proofs.YtlhpdjafhjfcoaaDoor
