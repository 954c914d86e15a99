/-
  The document's own text of an instruction (package hurdleref02): Print, of a right one, is what package ins prints.
-/
import Derived.Test.YtbndnkicmlecoaaDoorRRight
import Derived.Test.YtbndnkicmlecoaaDoorITexts
import Derived.Test.YtbndnkicmlecoaaDoorRefText
namespace Go.Proofs.YtbndnkicmlecoaaDoor
open Go.ChangeShapes Go.WideShapes Go.ChangeAt Go.RowKit
set_option maxRecDepth 20000

theorem itxt_KJ {r : Ip.Row} (a b c : Nat) (hK : Ip.hasK r.fmt = true) (hJ : Ip.hasJ r.fmt = true) : itxt r a b c = ⟨(r.word ++ 32 :: Ip.tx c ++ 32 :: Ip.tx a ++ 32 :: Ip.tx b).toArray⟩ := by
  unfold itxt
  rw [Ip.parts_join]
  unfold Ip.tail
  rw [hK, hJ]
  simp [Ip.tl_tx]
theorem itxt_K {r : Ip.Row} (a b c : Nat) (hK : Ip.hasK r.fmt = true) (hJ : Ip.hasJ r.fmt = false) : itxt r a b c = ⟨(r.word ++ 32 :: Ip.tx c).toArray⟩ := by
  unfold itxt
  rw [Ip.parts_join]
  unfold Ip.tail
  rw [hK, hJ]
  simp [Ip.tl_tx]
theorem itxt_J {r : Ip.Row} (a b c : Nat) (hK : Ip.hasK r.fmt = false) (hJ : Ip.hasJ r.fmt = true) : itxt r a b c = ⟨(r.word ++ 32 :: Ip.tx a ++ 32 :: Ip.tx b).toArray⟩ := by
  unfold itxt
  rw [Ip.parts_join]
  unfold Ip.tail
  rw [hK, hJ]
  simp [Ip.tl_tx]
theorem itxt_no {r : Ip.Row} (a b c : Nat) (hK : Ip.hasK r.fmt = false) (hJ : Ip.hasJ r.fmt = false) : itxt r a b c = ⟨r.word.toArray⟩ := by
  unfold itxt
  rw [Ip.parts_join]
  unfold Ip.tail
  rw [hK, hJ]
  simp

theorem cat (l : List UInt8) (n : Nat) : (⟨l.toArray⟩ : ByteArray) ++ (⟨#[32]⟩ : ByteArray) ++ Wd.txt n = ⟨(l ++ 32 :: Ip.tx n).toArray⟩ := by
  rw [show (⟨#[32]⟩ : ByteArray) = ⟨([32] : List UInt8).toArray⟩ from rfl, show Wd.txt n = ⟨(Ip.tx n).toArray⟩ from rfl, Wd.joined, Wd.joined]
  simp
theorem retStr {s s' : ByteArray} (h : s = s') : Ending.returned (.string s) = .returned (.string s') := by rw [h]

set_option maxHeartbeats 2000000 in
theorem refPrint_at {i : Nat} (hi : i < 39) {a b c : Nat} (hf : Ip.Fine (Ip.refRow i).fmt a b c) (w : World) :
    Calls Tryd.prog 28 #[insV (Ip.refRow i).op a b c] w fun e w' => e = .returned (.string (itxt (Ip.refRow i) a b c)) ∧ Below w.heap.size w w' := by
  obtain ⟨_, h2, h3, h4, h5, _⟩ := Ip.ref_all i hi
  have hp : Ip.plc (Ip.refRow i).op = i := by
    rw [h2]
    rcases Ip.plc_cases (Ip.refOps.getD i 0) with ⟨j, hj, hp, hq, _⟩ | ⟨_, hb⟩
    · rw [hp]
      have e : i = j := by
        have hl : Ip.refOps.length = 39 := rfl
        refine (List.getElem_inj (h₀ := (by omega : i < Ip.refOps.length)) (h₁ := (by omega : j < Ip.refOps.length)) Ip.refOps_nodup).1 ?_
        simpa [List.getD, hl, hi, hj] using hq
      rw [e]
    · have h1 := (Ip.ref_all i hi).1
      rw [hb] at h1
      cases h1
  have hw : wordAt i = (Ip.refRow i).str := by unfold wordAt; rw [← h3]; rfl
  have hwl := Ip.word_len (Ip.refRow i) (by
    have h1 := (Ip.ref_all i hi).1
    unfold Ip.refRow
    cases hb : Ip.byOp (Ip.refOps.getD i 0) with
    | none => rw [hb] at h1; cases h1
    | some r => exact (Ip.byOp_op hb).1)
  have hfb := fine_bd hf
  have hcb := hf.2
  clear h2 h3
  generalize Ip.refRow i = r at *
  have hz : r.str.size ≤ 5 := hwl
  have la := Wd.hex_len16 a (by omega)
  have lb := Wd.hex_len16 b (by omega)
  have lc := Wd.hex_len16 c (by omega)
  have za := txt_size a
  have zb := txt_size b
  have zc := txt_size c
  have HP := Lib.hid hp
  have HW := Lib.hid hw
  have HB0 := Lib.hid (ba (insB r.op a b c) (Below.refl w.heap.size w))
  have HX0 : Hid ((w.alloc (insB r.op a b c)).heap[w.heap.size]? = some (insB r.op a b c)) := Lib.hid (heap_alloc_new _ _)
  clear hp hw hf hwl
  cases hK : Ip.hasK r.fmt <;> cases hJ : Ip.hasJ r.fmt
  all_goals
    rw [hK] at h4
    rw [hJ] at h5
    have hpl : Ip.plainB i = _ := (Bool.not_eq_eq_eq_not.1 h4.symm)
    have hbr : Ip.branchB i = _ := h5.symm
    simp only [Bool.not_true, Bool.not_false] at hpl
    clear h4 h5
    go_enter Tryd.func28, Tryd.ntmps28
    go_wp2_with fail
    refine (place_is HP.out _).mono ?_
    rintro e w1 ⟨rfl, hb1⟩
    have HX1 := Lib.hid ((hb1.block _ (lt_of_block HX0.out)).trans HX0.out)
    have HB1 := Lib.hid (HB0.out.trans (hb1.mono HB0.out.size))
    clear hb1
    go_wp2_with fail
    refine (words_any _).mono ?_
    rintro e w2 ⟨rfl, hH2, hb2⟩
    have hX2 := (hb2.block _ (lt_of_block HX1.out)).trans HX1.out
    have HB2 := Lib.hid (HB1.out.trans (hb2.mono HB1.out.size))
    have hc : w2.cell? ⟨w1.heap.size, i, none⟩ = some (.string r.str) := by rw [← HW.out]; exact (cell_in hH2 i).trans (wordsC_at i hi)
    have c1 : w2.cell? ⟨w.heap.size, 1, none⟩ = some (.int .i64 a) := cell_in hX2 1
    have c2 : w2.cell? ⟨w.heap.size, 2, none⟩ = some (.int .i64 b) := cell_in hX2 2
    have c3 : w2.cell? ⟨w.heap.size, 3, none⟩ = some (.int .u32 c) := cell_in hX2 3
    have HX2 := Lib.hid hX2
    clear hb2 hH2 hX2 HX1 HB1
    go_wp2_with fail
    refine (plain_any _ _).mono ?_
    rintro e w3 ⟨rfl, rfl⟩
    go_wp2_with fail
  · refine (rbranch_any _ _).mono ?_
    rintro e w3 ⟨rfl, rfl⟩
    go_wp2_with fail
    go_ret
    refine ⟨?_, HB2.out⟩
    rw [itxt_no a b c hK hJ]
    rfl
  · refine (rbranch_any _ _).mono ?_
    rintro e w3 ⟨rfl, rfl⟩
    go_wp2_with fail
    have y1 := cell_regrown (cell_in HX2.out 1)
    have y2 := cell_regrown (cell_in HX2.out 2)
    have HTX := Lib.hid (itxt_J a b c hK hJ)
    have ua : IntKind.u64.wrap (a : Int) = a := by rw [IntKind.wrap_u64]; omega
    have ub : IntKind.u64.wrap (b : Int) = b := by rw [IntKind.wrap_u64]; omega
    have cA : ∀ d os, Calls Tryd.prog 45 #[.int .u64 a] (Sort.grow (redrawn w2 d) os) fun e w'' => e = .returned (.string (Wd.txt a)) ∧ ∃ p : Regrown, w'' = Sort.grow (redrawn w2 p.d) p.os := fun d os => Calls.regrown_of (refText_any a (by omega) _)
    have cB : ∀ d os, Calls Tryd.prog 45 #[.int .u64 b] (Sort.grow (redrawn w2 d) os) fun e w'' => e = .returned (.string (Wd.txt b)) ∧ ∃ p : Regrown, w'' = Sort.grow (redrawn w2 p.d) p.os := fun d os => Calls.regrown_of (refText_any b (by omega) _)
    clear c1 c2 c3 hc
    have za' : (Wd.txt a).size ≤ 18 := by omega
    have zb' : (Wd.txt b).size ≤ 18 := by omega
    clear za zb zc
    have HC1 := Lib.hid (cat r.word a)
    have HC2 := Lib.hid (cat (r.word ++ 32 :: Ip.tx a) b)
    generalize hsA : Wd.txt a = sA at *
    generalize hsB : Wd.txt b = sB at *
    generalize hsR : r.str = sR at *
    have HSA := Lib.hid hsA
    have HSB := Lib.hid hsB
    have HSR := Lib.hid hsR
    clear hsA hsB hsR
    have n0 : ¬ 9223372036854775807 < sR.size + 1 := by omega
    have n1 : ¬ 9223372036854775807 < sR.size + 1 + sA.size := by omega
    have n2 : ¬ 9223372036854775807 < sR.size + 1 + sA.size + 1 := by omega
    have n3 : ¬ 9223372036854775807 < sR.size + 1 + sA.size + 1 + sB.size := by omega
    refine wp_region_quiet_below (by kernel_rfl) (by kernel_rfl) ?_
    repeat (quiet_step (first | exact cA _ _ | exact cB _ _))
    refine wpQuiet_nil ?_
    intro _ hw'
    obtain ⟨⟨dq, osq⟩, hw''⟩ := hw'
    subst hw''
    have hbq := below_regrown w2 dq osq
    generalize Sort.grow (redrawn w2 dq) osq = Wq at *
    go_wp2_with fail
    go_ret
    refine ⟨?_, HB2.out.trans (hbq.mono HB2.out.size)⟩
    rw [HTX.out, ← HC2.out, ← HC1.out]
    exact retStr (by rw [← HSR.out]; rfl)
  · refine (refText_any c (by omega) _).mono ?_
    rintro e w3 ⟨rfl, hb3⟩
    have HB3 := Lib.hid (HB2.out.trans (hb3.mono HB2.out.size))
    clear hb3 hc c1 c2 c3
    go_wp2_with fail
    refine (rbranch_any _ _).mono ?_
    rintro e w4 ⟨rfl, rfl⟩
    go_wp2_with fail
    go_ret
    refine ⟨?_, HB3.out⟩
    rw [itxt_K a b c hK hJ]
    exact retStr (cat r.word c)
  · refine (refText_any c (by omega) _).mono ?_
    rintro e w3 ⟨rfl, hb3⟩
    have HB3 := Lib.hid (HB2.out.trans (hb3.mono HB2.out.size))
    have HX3 := Lib.hid ((hb3.block _ (lt_of_block HX2.out)).trans HX2.out)
    have HC0 := Lib.hid (cat r.word c)
    have zz : (r.str ++ (⟨#[32]⟩ : ByteArray) ++ Wd.txt c).size ≤ 24 := by
      rw [show r.str = ⟨r.word.toArray⟩ from rfl, HC0.out]
      show (r.word ++ 32 :: 48 :: 120 :: Wd.hex c).length ≤ _
      have hz' : r.word.length ≤ 5 := hz
      simp
      omega
    clear hb3 hc c1 c2 c3
    go_wp2_with fail
    refine (rbranch_any _ _).mono ?_
    rintro e w4 ⟨rfl, rfl⟩
    go_wp2_with fail
    have y1 := cell_regrown (cell_in HX3.out 1)
    have y2 := cell_regrown (cell_in HX3.out 2)
    have HTX := Lib.hid (itxt_KJ a b c hK hJ)
    have ua : IntKind.u64.wrap (a : Int) = a := by rw [IntKind.wrap_u64]; omega
    have ub : IntKind.u64.wrap (b : Int) = b := by rw [IntKind.wrap_u64]; omega
    have cA : ∀ d os, Calls Tryd.prog 45 #[.int .u64 a] (Sort.grow (redrawn w3 d) os) fun e w'' => e = .returned (.string (Wd.txt a)) ∧ ∃ p : Regrown, w'' = Sort.grow (redrawn w3 p.d) p.os := fun d os => Calls.regrown_of (refText_any a (by omega) _)
    have cB : ∀ d os, Calls Tryd.prog 45 #[.int .u64 b] (Sort.grow (redrawn w3 d) os) fun e w'' => e = .returned (.string (Wd.txt b)) ∧ ∃ p : Regrown, w'' = Sort.grow (redrawn w3 p.d) p.os := fun d os => Calls.regrown_of (refText_any b (by omega) _)
    have za' : (Wd.txt a).size ≤ 18 := by omega
    have zb' : (Wd.txt b).size ≤ 18 := by omega
    clear za zb zc
    have HC1 := Lib.hid (cat (r.word ++ 32 :: Ip.tx c) a)
    have HC2 := Lib.hid (cat (r.word ++ 32 :: Ip.tx c ++ 32 :: Ip.tx a) b)
    generalize hsR : r.str ++ (⟨#[32]⟩ : ByteArray) ++ Wd.txt c = sR at *
    have HSR : Hid (sR = _) := Lib.hid (hsR.symm.trans (cat r.word c))
    clear hsR
    generalize hsA : Wd.txt a = sA at *
    generalize hsB : Wd.txt b = sB at *
    clear hsA hsB
    have n0 : ¬ 9223372036854775807 < sR.size + 1 := by omega
    have n1 : ¬ 9223372036854775807 < sR.size + 1 + sA.size := by omega
    have n2 : ¬ 9223372036854775807 < sR.size + 1 + sA.size + 1 := by omega
    have n3 : ¬ 9223372036854775807 < sR.size + 1 + sA.size + 1 + sB.size := by omega
    refine wp_region_quiet_below (by kernel_rfl) (by kernel_rfl) ?_
    repeat (quiet_step (first | exact cA _ _ | exact cB _ _))
    refine wpQuiet_nil ?_
    intro _ hw'
    obtain ⟨⟨dq, osq⟩, hw''⟩ := hw'
    subst hw''
    have hbq := below_regrown w3 dq osq
    generalize Sort.grow (redrawn w3 dq) osq = Wq at *
    go_wp2_with fail
    go_ret
    refine ⟨?_, HB3.out.trans (hbq.mono HB3.out.size)⟩
    rw [HTX.out, ← HC2.out, ← HC1.out]
    exact retStr (by rw [HSR.out])
theorem row_ref {r : Ip.Row} (hr : r ∈ Ip.rows) : ∃ i, i < 39 ∧ r = Ip.refRow i := by
  rcases Ip.plc_cases r.op with ⟨i, hi, _, _, hb, _⟩ | ⟨_, hb⟩
  · rw [Ip.byOp_row hr] at hb
    exact ⟨i, hi, Option.some.inj hb⟩
  · rw [Ip.byOp_row hr] at hb
    cases hb
theorem refPrint_row {r : Ip.Row} {a b c : Nat} (hr : r ∈ Ip.rows) (hf : Ip.Fine r.fmt a b c) (w : World) :
    Calls Tryd.prog 28 #[insV r.op a b c] w fun e w' => e = .returned (.string (itxt r a b c)) ∧ Below w.heap.size w w' := by
  obtain ⟨i, hi, rfl⟩ := row_ref hr
  exact refPrint_at hi hf w
end Go.Proofs.YtbndnkicmlecoaaDoor
