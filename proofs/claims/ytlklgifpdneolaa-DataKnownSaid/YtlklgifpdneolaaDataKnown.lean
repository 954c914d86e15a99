/-
  For any two records and any number: the law DataKnown returns true and changes nothing that was there.
-/
import Derived.Test.YtlklgifpdneolaaDFrame
import Derived.Test.YtlklgifpdneolaaDWord
import Derived.Test.YtlklgifpdneolaaDEq
import Derived.Test.YtlklgifpdneolaaDRBytes
import Derived.Deep.RegionHeld3
import Derived.BigRegion
namespace Go.Proofs.Ytlklgifpdneolaa.dataKnown
open Go.ChangeShapes Go.WideShapes Go.ChangeAt Go.RowKit

def likeK (d e : Rec) (k : Nat) : Bool := decide ((wordsD d).take k = (wordsD e).take k)
theorem like_zero (d e : Rec) : likeK d e 0 = true := by simp [likeK]
theorem hasW_at {k : Nat} (hk : k < 16) : hasW (4 * k) = true := by simp [hasW]; omega
theorem wordAt_at (d : Rec) {k : Nat} (hk : k < 16) : wordAtD d (4 * k) = (wordsD d)[k]'(by rw [words_len]; exact hk) := by
  unfold wordAtD
  rw [if_pos (hasW_at hk), show 4 * k / 4 = k by omega, List.getD_eq_getElem?_getD, List.getElem?_eq_getElem (by rw [words_len]; exact hk)]
  rfl
theorem like_next (d e : Rec) {k : Nat} (hk : k < 16) : likeK d e (k + 1) = (likeK d e k && ((wordAtD d (4 * k) : Int) == (wordAtD e (4 * k) : Int))) := by
  have h1 : k < (wordsD d).length := by rw [words_len]; exact hk
  have h2 : k < (wordsD e).length := by rw [words_len]; exact hk
  rw [wordAt_at d hk, wordAt_at e hk]
  unfold likeK
  rw [List.take_succ_eq_append_getElem h1, List.take_succ_eq_append_getElem h2]
  apply Bool.eq_iff_iff.2
  rw [decide_eq_true_iff, Bool.and_eq_true, decide_eq_true_iff, beq_iff_eq]
  constructor
  · intro h
    have h3 := List.append_inj h (by rw [List.length_take, List.length_take, words_len, words_len])
    exact ⟨h3.1, by have := List.cons.inj h3.2; rw [this.1]⟩
  · rintro ⟨h3, h4⟩
    rw [h3, Int.ofNat.inj h4]
theorem like_all (d e : Rec) : likeK d e 16 = decide (d = e) := by
  unfold likeK
  rw [List.take_of_length_le (by rw [words_len]; omega), List.take_of_length_le (by rw [words_len]; omega)]
  apply Bool.eq_iff_iff.2
  rw [decide_eq_true_iff, decide_eq_true_iff]
  exact ⟨rec_of_words, fun h => by rw [h]⟩
theorem low_word (d : Rec) {k : Nat} (hk : k < 6) : wordAtD d (16 + 8 * k) = (argsD d).getD k 0 % 4294967296 := by
  obtain rfl | rfl | rfl | rfl | rfl | rfl : k = 0 ∨ k = 1 ∨ k = 2 ∨ k = 3 ∨ k = 4 ∨ k = 5 := by omega
  all_goals rfl
theorem high_word (d : Rec) {k : Nat} (hk : k < 6) : wordAtD d (20 + 8 * k) = (argsD d).getD k 0 / 4294967296 := by
  obtain rfl | rfl | rfl | rfl | rfl | rfl : k = 0 ∨ k = 1 ∨ k = 2 ∨ k = 3 ∨ k = 4 ∨ k = 5 := by omega
  all_goals rfl
theorem low_in {k p : Nat} (hk : k < 6) (hp : p = 16 + 8 * k) (w : World) : Calls Try.prog 18 #[.int .i64 k] w fun e w' => e = .returned (.int .u32 p) ∧ w = w' := by
  refine (low_any k w).mono ?_
  rintro e w' ⟨rfl, rfl⟩
  exact ⟨retU32 (by rw [argAt_in (by omega) (by omega), hp]; omega), rfl⟩
theorem high_in {k p : Nat} (hk : k < 6) (hp : p = 20 + 8 * k) (w : World) : Calls Try.prog 19 #[.int .i64 k] w fun e w' => e = .returned (.int .u32 p) ∧ w = w' := by
  refine (high_any k w).mono ?_
  rintro e w' ⟨rfl, rfl⟩
  exact ⟨retU32 (by rw [argAt_in (by omega) (by omega), hp]; omega), rfl⟩
theorem word_as {d : Rec} (hd : d.ok) {p x : Nat} (hp : p < 4294967296) (hh : hasW p = true) (hx : x = wordAtD d p) (w : World) : Calls Try.prog 13 #[d.val, .int .u32 p] w fun e w' => e = .returned (.tuple #[.int .u32 x, .bool true]) ∧ Below w.heap.size w w' := by
  refine (word_any d p w hd hp).mono ?_
  rintro e w' ⟨rfl, hb⟩
  rw [hh, hx]
  exact ⟨rfl, hb⟩

set_option maxHeartbeats 8000000 in
theorem walk (d e : Rec) (arg : Int) (w : World) (hd : d.ok) (he : e.ok) (_ : -9223372036854775808 ≤ arg) (_ : arg ≤ 9223372036854775807) :
    Calls Try.prog 7 #[d.val, e.val, .int .i64 arg] w fun e w' => e = .returned (.bool true) ∧ Below w.heap.size w w' := by
  have HD := Lib.hid hd
  have HE := Lib.hid he
  clear hd he
  go_enter Try.func7, Try.ntmps7
  go_wp2_with fail
  go_loopw [7, 8] (fun u i wr => ∃ k p : Nat, k ≤ 16 ∧ p = 4 * k ∧ u = .bool (likeK d e k) ∧ i = .int .u32 p ∧ wr.heap[w.heap.size]? = some (.cells d.cells 26) ∧ wr.heap[w.heap.size + 1]? = some (.cells e.cells 26) ∧ Below w.heap.size w wr) (fun _ i _ => 64 - (intOf i).toNat)
  case atStart =>
    refine ⟨0, 0, by omega, rfl, by rw [like_zero], rfl, ?_, ?_, ba _ (ba _ (Below.refl _ _))⟩
    · exact (Below.heap_alloc _ _ _ (by rw [size_alloc]; omega)).trans (heap_alloc_new _ _)
    · have h := heap_alloc_new (w.alloc (.cells d.cells 26)) (.cells e.cells 26)
      rw [size_alloc] at h
      exact h
  case round =>
    obtain ⟨k, p, hk, hp, rfl, rfl, hX, hY, hB⟩ := hrel
    have HX := Lib.hid hX
    have HY := Lib.hid hY
    have HB := Lib.hid hB
    clear hX hY hB
    by_cases hlt : k < 16
    · have hp2 : p ≤ 60 := by omega
      have HP := Lib.hid hp
      have HN : Hid (likeK d e (k + 1) = (likeK d e k && ((wordAtD d p : Int) == (wordAtD e p : Int)))) := Lib.hid (by rw [hp]; exact like_next d e hlt)
      clear hp
      obtain ⟨x0, x1, x2, x3, x4, x5, x6, x7, x8⟩ := rec_cells HX.out
      go_wp2_with fail
      refine (word_any d p _ HD.out (by omega)).mono ?_
      rintro e' w1 ⟨rfl, hb1⟩
      have HX1 := Lib.hid (keep_block hb1 HX.out)
      have HY1 := Lib.hid (keep_block hb1 HY.out)
      have HB1 := Lib.hid (below2 HB.out hb1)
      clear hb1 x0 x1 x2 x3 x4 x5 x6 x7 x8
      obtain ⟨y0, y1, y2, y3, y4, y5, y6, y7, y8⟩ := rec_cells HY1.out
      go_wp2_with fail
      refine (word_any e p _ HE.out (by omega)).mono ?_
      rintro e' w2 ⟨rfl, hb2⟩
      have HX2 := Lib.hid (keep_block hb2 HX1.out)
      have HY2 := Lib.hid (keep_block hb2 HY1.out)
      have HB2 := Lib.hid (below2 HB1.out hb2)
      clear hb2 y0 y1 y2 y3 y4 y5 y6 y7 y8
      obtain ⟨z, hz⟩ : ∃ z, z = likeK d e k := ⟨_, rfl⟩
      obtain ⟨a, ha⟩ : ∃ a, a = wordAtD d p := ⟨_, rfl⟩
      obtain ⟨b, hb⟩ : ∃ b, b = wordAtD e p := ⟨_, rfl⟩
      rw [← hz, ← ha, ← hb] at HN
      rw [← ha, ← hb]
      have HZ := Lib.hid hz
      clear ha hb hz
      rw [← HZ.out]
      cases z
      · go_wp2_with fail
        go_roundw
        case rel => exact ⟨k + 1, p + 4, by omega, by have := HP.out; omega, by rw [HN.out]; rfl, by go_num, HX2.out, HY2.out, HB2.out⟩
        case measure => simp [intOf]; omega
      · go_wp2_with fail
        go_roundw
        case rel => exact ⟨k + 1, p + 4, by omega, by have := HP.out; omega, by rw [HN.out]; simp, by go_num, HX2.out, HY2.out, HB2.out⟩
        case measure => simp [intOf]; omega
    · obtain rfl : k = 16 := by omega
      obtain rfl : p = 64 := by omega
      obtain ⟨x0, x1, x2, x3, x4, x5, x6, x7, x8⟩ := rec_cells HX.out
      obtain ⟨y0, y1, y2, y3, y4, y5, y6, y7, y8⟩ := rec_cells HY.out
      have hq := eq_rec d e HD.out HE.out
      have hq2 := eqIn_rec d e HD.out HE.out
      rw [like_all]
      generalize decide (d = e) = z at *
      clear hp
      by_cases h0 : arg < 0
      · go_wp2_with fail
        refine (low_any arg _).mono ?_
        rintro e' w1 ⟨rfl, rfl⟩
        rw [argAt_out (.inl h0)]
        go_wp2_with fail
        refine (high_any arg _).mono ?_
        rintro e' w1 ⟨rfl, rfl⟩
        rw [argAt_out (.inl h0)]
        go_wp2_with fail
        refine (dknows_any _).mono ?_
        rintro e' w2 ⟨rfl, hb2⟩
        go_wp2_with fail
        go_ret
        exact ⟨rfl, below2 HB.out hb2⟩
      by_cases h6 : 5 < arg
      · go_wp2_with fail
        refine (low_any arg _).mono ?_
        rintro e' w1 ⟨rfl, rfl⟩
        rw [argAt_out (.inr (by omega))]
        go_wp2_with fail
        refine (high_any arg _).mono ?_
        rintro e' w1 ⟨rfl, rfl⟩
        rw [argAt_out (.inr (by omega))]
        go_wp2_with fail
        refine (dknows_any _).mono ?_
        rintro e' w2 ⟨rfl, hb2⟩
        go_wp2_with fail
        go_ret
        exact ⟨rfl, below2 HB.out hb2⟩
      obtain ⟨k, rfl⟩ : ∃ k : Nat, arg = k := ⟨arg.toNat, by omega⟩
      have hk6 : k < 6 := by omega
      have HC := Lib.hid (args_cell d k hk6)
      have hA := args_lt HD.out k
      obtain ⟨a, ha⟩ : ∃ a, a = (argsD d).getD k 0 := ⟨_, rfl⟩
      rw [← ha] at HC hA
      obtain ⟨l, hl⟩ : ∃ l, l = a % 4294967296 := ⟨_, rfl⟩
      obtain ⟨h, hh⟩ : ∃ h, h = a / 4294967296 := ⟨_, rfl⟩
      obtain ⟨p, hp⟩ : ∃ p, p = 16 + 8 * k := ⟨_, rfl⟩
      obtain ⟨q, hqq⟩ : ∃ q, q = 20 + 8 * k := ⟨_, rfl⟩
      have HL : Hid (∀ W, Calls Try.prog 18 #[.int .i64 k] W fun e w' => e = .returned (.int .u32 p) ∧ W = w') := Lib.hid (low_in hk6 hp)
      have HH : Hid (∀ W, Calls Try.prog 19 #[.int .i64 k] W fun e w' => e = .returned (.int .u32 q) ∧ W = w') := Lib.hid (high_in hk6 hqq)
      have HW1 : Hid (∀ W, Calls Try.prog 13 #[d.val, .int .u32 p] W fun e w' => e = .returned (.tuple #[.int .u32 l, .bool true]) ∧ Below W.heap.size W w') := Lib.hid (word_as HD.out (by omega) (by rw [hp]; simp [hasW]; omega) (by rw [hl, ha, hp, low_word d hk6]))
      have HW2 : Hid (∀ W, Calls Try.prog 13 #[d.val, .int .u32 q] W fun e w' => e = .returned (.tuple #[.int .u32 h, .bool true]) ∧ Below W.heap.size W w') := Lib.hid (word_as HD.out (by omega) (by rw [hqq]; simp [hasW]; omega) (by rw [hh, ha, hqq, high_word d hk6]))
      have hll : l < 4294967296 := by omega
      have hhl : h < 4294967296 := by omega
      have HS : Hid (a = h * 4294967296 + l) := Lib.hid (by omega)
      have sx := lt_of_block HX.out
      clear hl hh hp hqq ha hq2
      go_wp2_with fail
      clear hq y0 y1 y2 y3 y4 y5 y6 y7 y8
      go_region_held3 (fun w' => w'.cell? ⟨w.heap.size, 0, none⟩ = some (.int .u32 d.nr) ∧ w'.cell? ⟨w.heap.size, 1, none⟩ = some (.int .u32 d.arch) ∧ w'.cell? ⟨w.heap.size, 2, none⟩ = some (.int .u64 d.ip) ∧ w'.cell? ⟨w.heap.size, 3, none⟩ = some (.int .u64 d.a0) ∧ w'.cell? ⟨w.heap.size, 4, none⟩ = some (.int .u64 d.a1) ∧ w'.cell? ⟨w.heap.size, 5, none⟩ = some (.int .u64 d.a2) ∧ w'.cell? ⟨w.heap.size, 6, none⟩ = some (.int .u64 d.a3) ∧ w'.cell? ⟨w.heap.size, 7, none⟩ = some (.int .u64 d.a4) ∧ w'.cell? ⟨w.heap.size, 8, none⟩ = some (.int .u64 d.a5)) (first | exact ⟨x0, x1, x2, x3, x4, x5, x6, x7, x8⟩ | exact rec_cells HX3.out | go_keep)
        (first
          | (go_at_call 18; refine (HL.out _).mono ?_; rintro e' w' ⟨rfl, rfl⟩)
          | (go_at_call 13; refine (HW1.out _).mono ?_; rintro e' w3 ⟨rfl, hb3⟩; have HX3 := Lib.hid (keep_block hb3 (show wr.drew.heap[w.heap.size]? = some (.cells d.cells 26) from HX.out)); have HB3 := Lib.hid (below2 (bdN HB.out 1) hb3); clear hb3))
      rename_i hh
      clear hh x0 x1 x2 x3 x4 x5 x6 x7 x8 HB HX HY HL HW1
      obtain ⟨x0, x1, x2, x3, x4, x5, x6, x7, x8⟩ := rec_cells HX3.out
      go_wp2_with fail
      go_region_held3 (fun w' => w'.cell? ⟨w.heap.size, 0, none⟩ = some (.int .u32 d.nr) ∧ w'.cell? ⟨w.heap.size, 1, none⟩ = some (.int .u32 d.arch) ∧ w'.cell? ⟨w.heap.size, 2, none⟩ = some (.int .u64 d.ip) ∧ w'.cell? ⟨w.heap.size, 3, none⟩ = some (.int .u64 d.a0) ∧ w'.cell? ⟨w.heap.size, 4, none⟩ = some (.int .u64 d.a1) ∧ w'.cell? ⟨w.heap.size, 5, none⟩ = some (.int .u64 d.a2) ∧ w'.cell? ⟨w.heap.size, 6, none⟩ = some (.int .u64 d.a3) ∧ w'.cell? ⟨w.heap.size, 7, none⟩ = some (.int .u64 d.a4) ∧ w'.cell? ⟨w.heap.size, 8, none⟩ = some (.int .u64 d.a5)) (first | exact ⟨x0, x1, x2, x3, x4, x5, x6, x7, x8⟩ | exact rec_cells HX4.out | go_keep)
        (first
          | (go_at_call 19; refine (HH.out _).mono ?_; rintro e' w' ⟨rfl, rfl⟩)
          | (go_at_call 13; refine (HW2.out _).mono ?_; rintro e' w4 ⟨rfl, hb4⟩; have HX4 := Lib.hid (keep_block hb4 (show w3.drew.heap[w.heap.size]? = some (.cells d.cells 26) from HX3.out)); have HB4 := Lib.hid (below2 (bdN HB3.out 1) hb4); clear hb4))
      rename_i hh
      clear hh x0 x1 x2 x3 x4 x5 x6 x7 x8 HB3 HX3 HH HW2
      have xk : w4.cell? ⟨w.heap.size, 3 + k, none⟩ = some (.int .u64 a) := (cell_in HX4.out (3 + k)).trans HC.out
      have hs : ((a : Int) == (h : Int) * 4294967296 + (l : Int)) = true := by
        have := HS.out
        simp
        omega
      go_wp2_with fail
      refine (dknows_any _).mono ?_
      rintro e' w5 ⟨rfl, hb5⟩
      go_wp2_with fail
      go_ret
      exact ⟨rfl, below2 HB4.out hb5⟩

set_option maxRecDepth 100000 in
/-- The row's contract, for every argument and every world. -/
theorem contract (H : Type) (enc : TypeId × Value → H) (W : World) (base : Nat) (args : Array Value) (ds gs : List (DataW H)) (before : List MemPlace)
    (hval : ∀ (j : Nat) t v, Try.f7.params[j]? = some t → args[j]? = some v → Value.okWide Try.prog W .any base t v)
    (hW : DataW.Whole enc Try.prog Try.f7.params.toList Rows.dataKnownSpec.vars false W args.toList ds gs before) (hL : laidMetH Try.prog Rows.dataKnownRow.laid W) :
    Calls Try.prog 7 args W fun e W' => ∃ v, e = .returned v ∧ Rows.dataKnownSpec.post enc Try.prog Try.f7 false true false false W args v W' := by
  have hW' := hW
  obtain ⟨p, q, hA0, hV, rfl, hfz, hnd⟩ := hW
  have hA : DataW.TrodAll enc Try.prog W 0 (fun _ => true) true Try.f7.params.toList args.toList ds p := hA0
  rw [Try.params7] at hA hval
  obtain ⟨v0, vs0, d0, ds0, p0, q0, hargs0, rfl, rfl, t0, r0⟩ := trodAll_cons hA
  obtain ⟨v1, vs1, d1, ds1, p1, q1, hargs1, rfl, rfl, t1, r1⟩ := trodAll_cons r0
  obtain ⟨v2, vs2, d2, ds2, p2, q2, hargs2, rfl, rfl, t2, r2⟩ := trodAll_cons r1
  obtain ⟨rfl, rfl, rfl⟩ := trodAll_nil r2
  obtain rfl : args = #[v0, v1, v2] := by cases args; simp_all
  obtain ⟨d, rfl, hd0⟩ := open_data (hval 0 26 v0 rfl rfl) t0
  obtain ⟨e, rfl, hd1⟩ := open_data (hval 1 26 v1 rfl rfl) t1
  obtain ⟨arg, rfl, rfl, rfl, wf2⟩ := open_int Try.underlying3 (hval 2 3 v2 rfl rfl) t2
  have bd2 := bounds_i64 wf2
  refine (walk d e arg W hd0 hd1 bd2.1 bd2.2).mono fun e W' ⟨he, hg⟩ => ?_
  subst he
  exact ⟨_, rfl, law_post (tb := 4) laidOut (fun t ht => by rw [Try.params7] at ht; revert t; exact of_decide_eq_true (by kernel_rfl)) (by kernel_rfl) Try.underlying4 rfl
    (fun ds h => by rw [Try.params7] at h; match ds, h with | [_, _, _], _ => rfl) hW' hg⟩

theorem laid_met (os : Os) : laidMet Try.prog Rows.dataKnownRow.laid ((laidWorld os).forCall (fun _ _ => 0) ⟨#[], #[.agg #[.int .u32 0, .int .u32 0, .int .u64 0, .int .u64 0, .int .u64 0, .int .u64 0, .int .u64 0, .int .u64 0, .int .u64 0], .agg #[.int .u32 0, .int .u32 0, .int .u64 0, .int .u64 0, .int .u64 0, .int .u64 0, .int .u64 0, .int .u64 0, .int .u64 0], .int .i64 0], []⟩).memory :=
  laidMet_nil _ _
theorem reads (os : Os) {H : Type} (enc : TypeId × Value → H) : ∃ places, DataW.whole enc Try.prog ((laidWorld os).forCall (fun _ _ => 0) ⟨#[], #[.agg #[.int .u32 0, .int .u32 0, .int .u64 0, .int .u64 0, .int .u64 0, .int .u64 0, .int .u64 0, .int .u64 0, .int .u64 0], .agg #[.int .u32 0, .int .u32 0, .int .u64 0, .int .u64 0, .int .u64 0, .int .u64 0, .int .u64 0, .int .u64 0, .int .u64 0], .int .i64 0], []⟩).memory Try.f7.params.toList Rows.dataKnownSpec.vars false #[Value.agg #[.int .u32 0, .int .u32 0, .int .u64 0, .int .u64 0, .int .u64 0, .int .u64 0, .int .u64 0, .int .u64 0, .int .u64 0], Value.agg #[.int .u32 0, .int .u32 0, .int .u64 0, .int .u64 0, .int .u64 0, .int .u64 0, .int .u64 0, .int .u64 0, .int .u64 0], Value.int .i64 0].toList 8 = some ([.agg [.lit (.int .u32 0), .lit (.int .u32 0), .lit (.int .u64 0), .agg [.lit (.int .u64 0), .lit (.int .u64 0), .lit (.int .u64 0), .lit (.int .u64 0), .lit (.int .u64 0), .lit (.int .u64 0)]], .agg [.lit (.int .u32 0), .lit (.int .u32 0), .lit (.int .u64 0), .agg [.lit (.int .u64 0), .lit (.int .u64 0), .lit (.int .u64 0), .lit (.int .u64 0), .lit (.int .u64 0), .lit (.int .u64 0)]], .lit (.int .i64 0)], [], places) :=
  ⟨[], by kernel_rfl⟩

set_option maxRecDepth 100000 in
theorem lifted (os : Os) (started : os.Started) (H : Type) (enc : TypeId × Value → H) (F : Stop.Interp) :
    ReturnsInHanded {} Try.checked os 7 .any ((OpenSpec.ofChange Rows.dataKnownSpec).preRow enc Try.prog Try.f7 Rows.dataKnownRow.domain false Rows.dataKnownRow.laid) (((OpenSpec.ofChange Rows.dataKnownSpec).at F).post enc Try.prog Try.f7 false true false false) := by
  obtain ⟨places, hx⟩ := reads os enc
  refine returnsInHanded_of_row (C := Try.checked) (s := OpenSpec.ofChange Rows.dataKnownSpec) own started (by kernel_rfl) Try.func7
    (witness_row_at (enc := enc) (C := Try.checked) false (laidWorld os) #[.agg #[.int .u32 0, .int .u32 0, .int .u64 0, .int .u64 0, .int .u64 0, .int .u64 0, .int .u64 0, .int .u64 0, .int .u64 0], .agg #[.int .u32 0, .int .u32 0, .int .u64 0, .int .u64 0, .int .u64 0, .int .u64 0, .int .u64 0, .int .u64 0, .int .u64 0], .int .i64 0] rfl (by kernel_rfl) (by kernel_rfl) (by kernel_rfl)
      (OpenSpec.preRow_of_cond 8 hx (by kernel_rfl) (fun k hk => by cases hk) (by kernel_rfl) (laid_met os))) ?_
  intro W base args ds gs before hval hW _ _ _ hL _ _
  exact contract H enc W base args ds gs before hval hW hL

theorem said : Rows.DataKnownSaid :=
  OpenClaim.holds_of_cond 7 Try.f7 rfl rfl rfl rfl rfl rfl rfl ⟨rfl, rfl, rfl, rfl, rfl⟩ rfl rfl rfl rfl rfl (by kernel_rfl) Try.func7 (by kernel_rfl)
    (of_decide_eq_true (by kernel_rfl)) (by unfold Func.isWrapper; first | (rw [if_pos (by decide +kernel)]; kernel_rfl) | (rw [if_neg (by decide +kernel)]; exact ⟨rfl, rfl⟩))
    (fun os started H enc _ F => by rw [OpenClaim.pre_eq_preRow]; exact lifted os started H enc F)

end Go.Proofs.Ytlklgifpdneolaa.dataKnown
