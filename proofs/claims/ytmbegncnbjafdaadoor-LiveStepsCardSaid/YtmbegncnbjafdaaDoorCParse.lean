/-
  What codec.Parse answers, for any text.
-/
import Derived.Test.YtmbegncnbjafdaaDoorCLines
import Derived.Test.YtmbegncnbjafdaaDoorSCut
import Derived.Test.YtmbegncnbjafdaaDoorCDec
import Derived.Test.YtmbegncnbjafdaaDoorIParse
namespace Go.Proofs.YtmbegncnbjafdaaDoor
open Go.ChangeShapes Go.WideShapes Go.ChangeAt Go.RowKit
set_option maxRecDepth 20000

def CParseEnd (s : List UInt8) (w : World) (e : Ending) (w' : World) : Prop := ∃ u, e = .returned (.tuple #[u, .int .i64 ((rdL s).2.1 : Nat), .int .i64 (rdL s).2.2]) ∧ FAt w' u (rdL s).1 ∧ Below w.heap.size w w'
theorem cparseEnd {s : List UInt8} {w w' : World} {u : Value} {xs : List X4} {i : Nat} {n : Int} (h : rdL s = (xs, i, n)) (hF : FAt w' u xs) (hB : Below w.heap.size w w') : CParseEnd s w (.returned (.tuple #[u, .int .i64 i, .int .i64 n])) w' := by
  refine ⟨u, ?_, ?_, hB⟩
  · rw [h]
  · rw [h]; exact hF
theorem cparseEnd_bad {s : List UInt8} {w w' : World} {i : Nat} {n : Int} (h : rdL s = ([], i, n)) (hB : Below w.heap.size w w') : CParseEnd s w (.returned (.tuple #[.slice none 0 0, .int .i64 i, .int .i64 n])) w'   := cparseEnd h (FAt.nil _) hB
theorem lines_empty {s : List UInt8} (h : s ≠ []) {p : List UInt8} {rest : List (List UInt8)} (hl : linesOf s = p :: rest) : ¬ (rest = [] ∧ p = []) := by
  rintro ⟨rfl, rfl⟩
  have e := joinL_cut s []
  unfold linesOf at hl
  rw [hl] at e
  simp [joinL] at e
  exact h e
def strLen : Value → Nat
  | .string b => b.size
  | _ => 0

set_option maxHeartbeats 4000000 in
theorem cparse_any (s : ByteArray) (w : World) (hs : s.size ≤ 1099511627776) (ht : OTab w) :
    Calls Tryd.prog 27 #[.string s] w (CParseEnd s.data.toList w) := by
  obtain ⟨i0, hi, hz0, hz1, hz2⟩ := info_parts infoX
  go_enter Tryd.func27, Tryd.ntmps27
  go_wp2_with fail
  go_loopw [0, 5] (fun t u wr => ∃ (l : List UInt8) (acc : List X4), t = .string ⟨l.toArray⟩ ∧ l.length ≤ 1099511627776 ∧ acc.length ≤ 4096 ∧ wr.ownsRow w.heap.size 24 4 u acc.length (fcells acc) ∧ rdL s.data.toList = rd acc (linesOf l) ∧ Below w.heap.size w wr) (fun t _ _ => strLen t)
  case atStart => exact ⟨s.data.toList, [], rfl, hs, by simp, World.ownsRow_nil _ _ _ _, rfl, Below.refl _ _⟩
  case round =>
    obtain ⟨l, acc, rfl, hl, ha, hO, hR, hB⟩ := hrel
    obtain ⟨ao, cap, rfl⟩ := own_shape hO
    have HO := Lib.hid hO
    have HR := Lib.hid hR
    have HB := Lib.hid hB
    have hsr := hB.size
    clear hO hR hB
    by_cases h0 : l = []
    · subst h0
      have HE : Hid (rdL s.data.toList = (acc, 0, 0)) := Lib.hid (by rw [HR.out, lines_one (by simp), rd_end])
      have HF := Lib.hid (FAt.own HO.out rfl)
      go_wp2_with fail
      go_ret3
      exact cparseEnd HE.out HF.out HB.out
    · have hl1 : (!l.isEmpty) = true := by simpa using h0
      obtain ⟨p0, rest0, hpr⟩ : ∃ p rest, linesOf l = p :: rest := by
        cases e : linesOf l with
        | nil => exact absurd e (lines_ne l)
        | cons p rest => exact ⟨p, rest, rfl⟩
      have HP := Lib.hid hpr
      have HNE := Lib.hid (lines_empty h0 hpr)
      have H0 := Lib.hid h0
      clear hpr h0
      by_cases hfull : acc.length = 4096
      · have hf : ((acc.length : Int) == 4096) = true := by simp; omega
        have HE : Hid (rdL s.data.toList = ([], acc.length, 3)) := Lib.hid (by rw [HR.out, HP.out, rd_full HNE.out (by omega)])
        clear hfull
        go_wp2_with fail
        go_ret3
        exact cparseEnd_bad HE.out HB.out
      · have hf : ((acc.length : Int) == 4096) = false := by simp; omega
        have ha' : acc.length < 4096 := by omega
        clear hfull
        go_wp2_with fail
        refine (strCut_any _ 10 wr (show l.length ≤ _ by omega)).mono ?_
        rintro e w1 ⟨hc, n, rfl⟩
        have HB1 := Lib.hid (bdN HB.out n)
        have HO1 : Hid ((wr.drewN n).ownsRow w.heap.size 24 4 (.slice ao acc.length cap) acc.length (fcells acc)) := HO
        have hs1 : w.heap.size ≤ (wr.drewN n).heap.size := hsr
        clear HB HO hsr
        generalize wr.drewN n = w1 at *
        rcases hc with ⟨hno, rfl⟩ | ⟨p, q, hpq, hno, rfl⟩
        · have HE : Hid (rdL s.data.toList = ([], acc.length, 2)) := Lib.hid (by
            rw [HR.out, lines_one hno]
            exact rd_last H0.out ha')
          clear hno
          go_wp2_with fail
          refine (iparse_any _ _ (show l.length ≤ _ by omega) (ht.below HB1.out)).mono ?_
          rintro e w2 ⟨he2, hb2⟩
          have HB2 := Lib.hid (HB1.out.trans (hb2.mono HB1.out.size))
          clear hb2
          rcases he2 with ⟨r, a, b, c, _, _, _, rfl⟩ | ⟨_, rfl⟩
          · go_wp2_with fail
            go_ret3
            exact cparseEnd_bad HE.out (ba (insB r.op a b c) HB2.out)
          · go_wp2_with fail
            go_ret3
            exact cparseEnd_bad HE.out (ba (insB 0 0 0 0) HB2.out)
        · have hpl : p.length ≤ l.length ∧ q.length < l.length := by
            have h := congrArg List.length hpq
            simp at h
            omega
          have HPQ : Hid (linesOf l = p :: linesOf q) := Lib.hid (by
            have h : l = p ++ 10 :: q := hpq
            rw [h]
            exact lines_cut hno)
          clear hpq hno
          go_wp2_with fail
          refine (iparse_any _ _ (show p.length ≤ _ by omega) (ht.below HB1.out)).mono ?_
          rintro e w2 ⟨he2, hb2⟩
          have HB2 := Lib.hid (HB1.out.trans (hb2.mono HB1.out.size))
          have HO2 := Lib.hid (own_below HO1.out hb2)
          have hs2 := HB2.out.size
          clear hb2 HO1 HB1
          rcases he2 with ⟨r, a, b, c, hr, hfi, hp, rfl⟩ | ⟨hno, rfl⟩
          · have HN : Hid (rdL s.data.toList = rd (acc ++ [⟨r.op, a, b, c⟩]) (linesOf q)) := Lib.hid (by
              rw [HR.out, HPQ.out]
              exact rd_next (lines_ne q) ha' (insOf_row hr hfi hp))
            clear hr hfi hp
            go_wp2_with (at_builtin; refine wpList_append_own _ rfl _ _ 30 rfl w.heap.size 24 i0 (.agg #[.int .i64 0, .int .i64 0, .int .i64 0, .int .u32 0]) 4 32 Tryd.underlying30 hi hz0 hz1 hz2 rfl (by decide) _ _ _ rfl ((HO2.out.alloc (insB r.op a b c)).alloc _) ⟨w2.heap.size + 1, 0, none⟩ 1 1 (X4.mk r.op a b c).cells rfl rfl (by have h := new_at (w2.alloc (insB r.op a b c)) #[.int .i64 r.op, .int .i64 a, .int .i64 b, .int .u32 c] 24; rw [size_alloc] at h; exact h) (by simp [Value.oneCell']) (by unfold maxLen; omega) (by omega) (by rw [size_alloc, size_alloc]; omega) ?_)
            intro v3 w3 hown3 hgrow3 _
            have HB3 := Lib.hid (grown_below ((HB2.out.alloc hs2 (insB r.op a b c)).alloc (by rw [size_alloc]; omega) (.cells #[.int .i64 r.op, .int .i64 a, .int .i64 b, .int .u32 c] 24)) ((HO2.out.alloc (insB r.op a b c)).alloc _) hgrow3 (by rw [size_alloc, size_alloc]; omega))
            have HO3 : Hid (w3.ownsRow w.heap.size 24 4 v3 (acc ++ [X4.mk r.op a b c]).length (fcells (acc ++ [X4.mk r.op a b c]))) := Lib.hid (by
              rw [fcells_app, fcells_one, List.length_append]
              exact hown3)
            clear hown3 hgrow3 HO2
            go_wp2_with fail
            go_roundw
            case rel => exact ⟨q, acc ++ [X4.mk r.op a b c], rfl, by omega, by rw [List.length_append]; simp; omega, HO3.out, HN.out, HB3.out⟩
            case measure => exact hpl.2
          · have HE : Hid (rdL s.data.toList = ([], acc.length, 2)) := Lib.hid (by
              rw [HR.out, HPQ.out]
              exact rd_bad (fun h => lines_ne q h.1) ha' (insOf_no hno))
            clear hno
            go_wp2_with fail
            go_ret3
            exact cparseEnd_bad HE.out (ba (insB 0 0 0 0) HB2.out)
end Go.Proofs.YtmbegncnbjafdaaDoor
