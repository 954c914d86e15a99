/-
  What the laws' texts use, joined.
-/
import Derived.Test.YtlgoeegpgcilbaaProg
import Derived.WalkKit
import Derived.Laws.BitsAllLaws
import Derived.ProofKit
import Derived.Lib.Hide
import Derived.Laws.Rows
import Derived.Laws.ResultCell
import Derived.Laws.Entries
import Derived.Handy
import Derived.OwnWalk
import Derived.Laws.OwnMore
import Derived.Deep.Draws
import Derived.Laws.IdiomStrings
import Derived.Lib.BufferRead
import Derived.Maps.OwnSet
import Derived.Laws.Tables
import Derived.Deep.DeepCutAuto
import Derived.DeepKeys
import Derived.Laws.StructEq
import Derived.Deep.RegionHeld3
import Derived.BigRegion
import Derived.BigQuiet
import Derived.Test.YtlgoeegpgcilbaaRows
import Derived.OpenShut
import Derived.Carry
import Derived.Deep.DeepHandedRow
import Derived.Lib.SmallJoins
import Derived.Deep.OwnRows
import Derived.Lib.QuietBelow
import Derived.RowKit
import Derived.Deep.QuietTactic
import Derived.Test.YtlgoeegpgcilbaaPk1
/-
  Package hurdleref15: Same, of any two forms.
-/
namespace Go.Proofs.Ytlgoeegpgcilbaa
open Go.ChangeShapes Go.WideShapes Go.ChangeAt Go.RowKit
set_option maxRecDepth 100000

def iAt (l : List Int) (i : Nat) : Int := l.getD i 0
theorem iAt_get {l : List Int} {i : Nat} (h : i < l.length) : iAt l i = l[i] := by
  unfold iAt
  rw [List.getD_eq_getElem?_getD, List.getElem?_eq_getElem h]
  rfl
theorem ext_iAt {l l' : List Int} (hl : l.length = l'.length) (h : ∀ i, i < l.length → iAt l i = iAt l' i) : l = l' := by
  refine List.ext_getElem hl fun i h1 h2 => ?_
  have := h i h1
  rwa [iAt_get h1, iAt_get h2] at this
theorem natsI_iAt {t : List Nat} {i : Nat} (h : i < t.length) : iAt (natsI t) i = ((mAt t i : Nat) : Int) := by
  rw [iAt_get (by rw [natsI_len]; exact h), natsI_at]
theorem NRow.at2 {k : IntKind} {w : World} {u : Value} {ao : Option Addr} {n cap : Nat} {l : List Int} (h : NRow k w u l) (hu : u = .slice ao n cap) :
    n = l.length ∧ (0 < l.length → ∃ b off, ao = some ⟨b, off, none⟩ ∧ b < w.heap.size ∧ ∀ i, i < l.length → w.cell? ⟨b, off + i, none⟩ = some (.int k (iAt l i))) := by
  subst hu
  obtain ⟨ao', cap', he⟩ := h.shape
  simp only [Value.slice.injEq] at he
  obtain ⟨rfl, rfl, rfl⟩ := he
  refine ⟨rfl, fun hp => ?_⟩
  obtain ⟨_, b, off, e, hb, hc⟩ := h.at hp
  exact ⟨b, off, e, hb, fun i hi => (hc i hi).trans (by rw [iAt_get hi])⟩
set_option maxHeartbeats 4000000 in
theorem gsame_any (v1 v2 : Value) (l m : List Int) (t s : List Nat) (w : World) (h1 : GF w v1 l t) (h2 : GF w v2 m s) (hl : l.length ≤ 1000) (ht : t.length ≤ 1000) :
    Calls Try.prog 18 #[v1, v2] w fun e w' => e = .returned (.bool (decide (l = m ∧ t = s))) ∧ Below w.heap.size w w' := by
  obtain ⟨_, _, rfl, hs1, hs2⟩ := h1
  obtain ⟨_, _, rfl, hs3, hs4⟩ := h2
  obtain ⟨ao1, cap1, rfl⟩ := hs1.shape
  obtain ⟨ao2, cap2, rfl⟩ := hs2.shape
  obtain ⟨ao3, cap3, rfl⟩ := hs3.shape
  obtain ⟨ao4, cap4, rfl⟩ := hs4.shape
  have HC1 := Lib.hid (hs1.at2 rfl).2
  have HC2 := Lib.hid (hs2.at2 rfl).2
  have HC3 := Lib.hid (hs3.at2 rfl).2
  have HC4 := Lib.hid (hs4.at2 rfl).2
  rw [natsI_len] at HC2 HC4
  rw [natsI_len, natsI_len]
  have HE1 := Lib.hid (fun (h : ¬ l.length = m.length) => decide_eq_false (p := (l = m ∧ t = s)) fun hh => h (by rw [hh.1]))
  have HE2 := Lib.hid (fun (h : ¬ t.length = s.length) => decide_eq_false (p := (l = m ∧ t = s)) fun hh => h (by rw [hh.2]))
  have HE3 := Lib.hid (fun (i : Nat) (h : ¬ iAt l i = iAt m i) => decide_eq_false (p := (l = m ∧ t = s)) fun hh => h (by rw [hh.1]))
  have HE4 := Lib.hid (fun (i : Nat) (h : ¬ mAt t i = mAt s i) => decide_eq_false (p := (l = m ∧ t = s)) fun hh => h (by rw [hh.2]))
  have HE5 := Lib.hid (fun (h1 : l.length = m.length) (h2 : ∀ i, i < l.length → iAt l i = iAt m i) (h3 : t.length = s.length) (h4 : ∀ i, i < t.length → mAt t i = mAt s i) => decide_eq_true (p := (l = m ∧ t = s)) ⟨ext_iAt h1 h2, ext_mAt h3 h4⟩)
  have HT2 := Lib.hid (fun (i : Nat) (h : i < t.length) => natsI_iAt h)
  have HT4 := Lib.hid (fun (i : Nat) (h : i < s.length) => natsI_iAt h)
  generalize decide (l = m ∧ t = s) = R at *
  obtain ⟨W, hW, x0, x1, hB⟩ := box2 w (.cells #[.slice ao1 l.length cap1, .slice ao2 t.length cap2] 37) (.cells #[.slice ao3 m.length cap3, .slice ao4 s.length cap4] 37)
  have HX1 := Lib.hid x0
  have HX2 := Lib.hid x1
  have HB := Lib.hid hB
  have hsW := hB.size
  clear hs1 hs2 hs3 hs4 x0 x1 hB
  generalize l.length = Ll at *
  generalize m.length = Lm at *
  generalize t.length = Lt at *
  generalize s.length = Ls at *
  go_enter Try.func18, Try.ntmps18
  go_upto_region 1 with fail
  rw [← hW]
  clear hW
  have y1 := (cell_in HX1.out 0).trans rfl
  have y2 := (cell_in HX1.out 1).trans rfl
  have y3 := (cell_in HX2.out 0).trans rfl
  have y4 := (cell_in HX2.out 1).trans rfl
  by_cases e1 : Ll = Lm
  · by_cases e2 : Lt = Ls
    · subst e1
      subst e2
      go_wp2_with fail
      clear y1 y2 y3 y4
      go_loopw [5] (fun i wr => ∃ k : Nat, k ≤ Ll ∧ i = .int .i64 k ∧ (∀ j, j < k → iAt l j = iAt m j) ∧ Below W.heap.size W wr) (fun i _ => Ll - (intOf i).toNat)
      case atStart => exact ⟨0, by omega, rfl, fun j hj => by omega, Below.refl _ _⟩
      case round =>
        obtain ⟨k, hk, rfl, hA, hBr⟩ := hrel
        have HA := Lib.hid hA
        have HBr := Lib.hid hBr
        have y1 := (cell_in (kb hBr HX1.out) 0).trans rfl
        have y3 := (cell_in (kb hBr HX2.out) 0).trans rfl
        clear hA
        by_cases hlt : k < Ll
        · obtain ⟨b1, o1, rfl, hb1, hc1⟩ := HC1.out (by omega)
          obtain ⟨b3, o3, rfl, hb3, hc3⟩ := HC3.out (by omega)
          have x2 := ((hBr.cell (p := ⟨b1, o1 + k, none⟩) (Nat.lt_of_lt_of_le hb1 hsW)).trans (HB.out.cell (p := ⟨b1, o1 + k, none⟩) hb1)).trans (hc1 k hlt)
          have x4 := ((hBr.cell (p := ⟨b3, o3 + k, none⟩) (Nat.lt_of_lt_of_le hb3 hsW)).trans (HB.out.cell (p := ⟨b3, o3 + k, none⟩) hb3)).trans (hc3 k hlt)
          have HEk := Lib.hid (HE3.out k)
          obtain ⟨X, hX⟩ : ∃ X, X = iAt l k := ⟨_, rfl⟩
          obtain ⟨Y, hY⟩ : ∃ Y, Y = iAt m k := ⟨_, rfl⟩
          rw [← hX] at x2 HEk
          rw [← hY] at x4 HEk
          have HX := Lib.hid hX
          have HY := Lib.hid hY
          clear hc1 hc3 hX hY hBr
          by_cases hxy : X = Y
          · have e1 : (X == Y) = true := by simp [hxy]
            have HXY := Lib.hid hxy
            clear hxy
            go_wp2_with (go_quiet (fail))
            go_roundw
            case rel => exact ⟨k + 1, by omega, by go_num, fun j hj => by
              rcases Nat.lt_or_eq_of_le (Nat.le_of_lt_succ hj) with h | rfl
              · exact HA.out j h
              · rw [← HX.out, ← HY.out, HXY.out], bdN HBr.out _⟩
            case measure => simp [intOf]; omega
          · have e1 : (X == Y) = false := by simp [hxy]
            have HR := Lib.hid (HEk.out hxy)
            clear hxy
            go_wp2_with (go_quiet (fail))
            go_ret
            exact ⟨retB HR.out, below2 HB.out (bdN HBr.out _)⟩
        · obtain rfl : k = Ll := by omega
          clear hBr
          go_wp2_with fail
          clear y1 y3
          go_loopw [6] (fun i wx => ∃ k2 : Nat, k2 ≤ Lt ∧ i = .int .i64 k2 ∧ (∀ j, j < k2 → mAt t j = mAt s j) ∧ Below W.heap.size W wx) (fun i _ => Lt - (intOf i).toNat)
          case atStart => exact ⟨0, by omega, rfl, fun j hj => by omega, HBr.out⟩
          case round =>
            obtain ⟨k2, hk2, rfl, hA2, hBx⟩ := hrel
            have HA2 := Lib.hid hA2
            have HBx := Lib.hid hBx
            have y2 := (cell_in (kb hBx HX1.out) 1).trans rfl
            have y4 := (cell_in (kb hBx HX2.out) 1).trans rfl
            clear hA2
            by_cases hlt2 : k2 < Lt
            · obtain ⟨b2, o2, rfl, hb2, hc2⟩ := HC2.out (by omega)
              obtain ⟨b4, o4, rfl, hb4, hc4⟩ := HC4.out (by omega)
              have x2 := ((hBx.cell (p := ⟨b2, o2 + k2, none⟩) (Nat.lt_of_lt_of_le hb2 hsW)).trans (HB.out.cell (p := ⟨b2, o2 + k2, none⟩) hb2)).trans (hc2 k2 hlt2)
              have x4 := ((hBx.cell (p := ⟨b4, o4 + k2, none⟩) (Nat.lt_of_lt_of_le hb4 hsW)).trans (HB.out.cell (p := ⟨b4, o4 + k2, none⟩) hb4)).trans (hc4 k2 hlt2)
              rw [HT2.out k2 hlt2] at x2
              rw [HT4.out k2 hlt2] at x4
              have HEk := Lib.hid (HE4.out k2)
              obtain ⟨X, hX⟩ : ∃ X, X = mAt t k2 := ⟨_, rfl⟩
              obtain ⟨Y, hY⟩ : ∃ Y, Y = mAt s k2 := ⟨_, rfl⟩
              rw [← hX] at x2 HEk
              rw [← hY] at x4 HEk
              have HX := Lib.hid hX
              have HY := Lib.hid hY
              clear hc2 hc4 hX hY hBx
              by_cases hxy : X = Y
              · have e1 : ((X : Int) == (Y : Int)) = true := by simp [hxy]
                have HXY := Lib.hid hxy
                clear hxy
                go_wp2_with (go_quiet (fail))
                go_roundw
                case rel => exact ⟨k2 + 1, by omega, by go_num, fun j hj => by
                  rcases Nat.lt_or_eq_of_le (Nat.le_of_lt_succ hj) with h | rfl
                  · exact HA2.out j h
                  · rw [← HX.out, ← HY.out, HXY.out], bdN HBx.out _⟩
                case measure => simp [intOf]; omega
              · have e1 : ((X : Int) == (Y : Int)) = false := by simp; omega
                have HR := Lib.hid (HEk.out hxy)
                clear hxy
                go_wp2_with (go_quiet (fail))
                go_ret
                exact ⟨retB HR.out, below2 HB.out (bdN HBx.out _)⟩
            · obtain rfl : k2 = Lt := by omega
              have HR := Lib.hid (HE5.out (by trivial) HA.out (by trivial) HA2.out)
              clear hBx
              go_wp2_with fail
              go_ret
              exact ⟨retB HR.out, below2 HB.out HBx.out⟩
    · have HR := Lib.hid (HE2.out e2)
      subst e1
      have e3 : ((Lt : Int) == (Ls : Int)) = false := by simp; omega
      clear e2
      go_wp2_with fail
      go_ret
      exact ⟨retB HR.out, HB.out⟩
  · have HR := Lib.hid (HE1.out e1)
    have e3 : ((Ll : Int) == (Lm : Int)) = false := by simp; omega
    clear e1
    go_wp2_with fail
    go_ret
    exact ⟨retB HR.out, HB.out⟩
end Go.Proofs.Ytlgoeegpgcilbaa
/-
  Package hurdleref15: Right, of any form.
-/
namespace Go.Proofs.Ytlgoeegpgcilbaa
open Go.ChangeShapes Go.WideShapes Go.ChangeAt Go.RowKit
set_option maxRecDepth 100000

/-- Does one of the first words differ from the one that a variable turns it to? -/
def cntK (t : List Nat) (k m : Nat) : Bool := (List.range m).any fun n => mAt t n != mAt t (n ^^^ 2 ^ k)
theorem cntK_next (t : List Nat) (k m : Nat) : cntK t k (m + 1) = (cntK t k m || mAt t m != mAt t (m ^^^ 2 ^ k)) := by
  unfold cntK
  rw [List.range_succ, List.any_append]
  simp
/-- What is so of each variable of a form that is right. -/
def GoodJ (l : List Int) (t : List Nat) (j : Nat) : Prop := 0 ≤ iAt l j ∧ iAt l j ≤ 33 ∧ (0 < j → iAt l (j - 1) < iAt l j) ∧ cntK t j (2 ^ l.length) = true
def RightP (l : List Int) (t : List Nat) : Prop := l.length ≤ 4 ∧ t.length = 2 ^ l.length ∧ ∀ j, j < l.length → GoodJ l t j
noncomputable def rightB (l : List Int) (t : List Nat) : Bool := @decide (RightP l t) (Classical.propDecidable _)
theorem rightB_no {l : List Int} {t : List Nat} (h : ¬ RightP l t) : rightB l t = false := @decide_eq_false _ (Classical.propDecidable _) h
theorem rightB_yes {l : List Int} {t : List Nat} (h : RightP l t) : rightB l t = true := @decide_eq_true _ (Classical.propDecidable _) h
set_option maxHeartbeats 8000000 in
theorem gright_any (v : Value) (l : List Int) (t : List Nat) (w : World) (h1 : GF w v l t) :
    Calls Try.prog 15 #[v] w fun e w' => e = .returned (.bool (rightB l t)) ∧ Below w.heap.size w w' := by
  obtain ⟨_, _, rfl, hs1, hs2⟩ := h1
  obtain ⟨ao1, cap1, rfl⟩ := hs1.shape
  obtain ⟨ao2, cap2, rfl⟩ := hs2.shape
  have HC1 := Lib.hid (hs1.at2 rfl).2
  have HC2 := Lib.hid (hs2.at2 rfl).2
  rw [natsI_len] at HC2
  rw [natsI_len]
  have hno : ¬ RightP l t → rightB l t = false := fun h => rightB_no h
  have H0 := Lib.hid (fun h : ¬ l.length ≤ 4 => hno fun hr => h hr.1)
  have H1 := Lib.hid (fun h : ¬ t.length = 2 ^ l.length => hno fun hr => h hr.2.1)
  have H2 := Lib.hid (fun (j : Nat) (hj : j < l.length) (h : ¬ GoodJ l t j) => hno fun hr => h (hr.2.2 j hj))
  have H3 := Lib.hid (fun (a : l.length ≤ 4) (b : t.length = 2 ^ l.length) (c : ∀ j, j < l.length → GoodJ l t j) => rightB_yes ⟨a, b, c⟩)
  have HG : Hid (∀ j, GoodJ l t j ↔ 0 ≤ iAt l j ∧ iAt l j ≤ 33 ∧ (0 < j → iAt l (j - 1) < iAt l j) ∧ cntK t j (2 ^ l.length) = true) := Lib.hid (fun j => Iff.rfl)
  have HT2 := Lib.hid (fun (i : Nat) (h : i < t.length) => natsI_iAt h)
  generalize rightB l t = R at *
  have h0 := heap_alloc_new w (.cells #[.slice ao1 l.length cap1, .slice ao2 t.length cap2] 37)
  have hb := ba (.cells #[.slice ao1 l.length cap1, .slice ao2 t.length cap2] 37) (Below.refl w.heap.size w)
  obtain ⟨W, hW⟩ : ∃ W, W = w.alloc (.cells #[.slice ao1 l.length cap1, .slice ao2 t.length cap2] 37) := ⟨_, rfl⟩
  rw [← hW] at h0 hb
  have HX := Lib.hid h0
  have HB := Lib.hid hb
  have hsW := hb.size
  clear hs1 hs2 h0 hb hno
  generalize l.length = L at *
  generalize t.length = T at *
  go_enter Try.func15, Try.ntmps15
  go_upto_region 1 with fail
  rw [← hW]
  clear hW
  have y1 := (cell_in HX.out 0).trans rfl
  have y2 := (cell_in HX.out 1).trans rfl
  by_cases hL : L ≤ 4
  · have g1 : ¬ (4 : Int) < (L : Int) := by omega
    have g2 : decide ((4 : Int) < (L : Int)) = false := decide_eq_false g1
    have HSz := Lib.hid (gsize_any L (by omega))
    have l16 : 2 ^ L ≤ 16 := Nat.pow_le_pow_right (n := 2) (by omega) (show L ≤ 4 from hL)
    obtain ⟨P, hP⟩ : ∃ P, P = 2 ^ L := ⟨_, rfl⟩
    rw [← hP] at HSz H1 H3 HG l16
    have HP := Lib.hid hP
    clear hP
    by_cases hT : T = P
    · subst hT
      go_wp2_with (go_quiet (first | (go_at_call 31; refine Calls.quiet_of_same (HSz.out _))))
      clear y1 y2
      go_loopw [3] (fun i wr => ∃ k : Nat, k ≤ L ∧ i = .int .i64 k ∧ (∀ j, j < k → GoodJ l t j) ∧ Below W.heap.size W wr) (fun i _ => L - (intOf i).toNat)
      case atStart => exact ⟨0, by omega, rfl, fun j hj => by omega, bdN (Below.refl _ _) _⟩
      case round =>
        obtain ⟨k, hk, rfl, hA, hBr⟩ := hrel
        have HA := Lib.hid hA
        have HBr := Lib.hid hBr
        have y1 := (cell_in (kb hBr HX.out) 0).trans rfl
        clear hA
        by_cases hlt : k < L
        · obtain ⟨b1, o1, rfl, hb1, hc1⟩ := HC1.out (by omega)
          have x2 := ((hBr.cell (p := ⟨b1, o1 + k, none⟩) (Nat.lt_of_lt_of_le hb1 hsW)).trans (HB.out.cell (p := ⟨b1, o1 + k, none⟩) hb1)).trans (hc1 k hlt)
          have HGk := Lib.hid (HG.out k)
          have H2k := Lib.hid (H2.out k hlt)
          obtain ⟨X, hX⟩ : ∃ X, X = iAt l k := ⟨_, rfl⟩
          rw [← hX] at x2 HGk
          clear hX
          by_cases hneg : X < 0
          · have n1 : decide (X < 0) = true := decide_eq_true hneg
            have HR := Lib.hid (H2k.out fun h => by have := (HGk.out.1 h).1; omega)
            clear hBr hc1
            go_wp2_with (go_quiet (fail))
            go_ret
            exact ⟨retB HR.out, below2 HB.out (bdN HBr.out _)⟩
          · have n1 : decide (X < 0) = false := decide_eq_false hneg
            by_cases hbig : 33 < X
            · have n2 : decide (33 < X) = true := decide_eq_true hbig
              have HR := Lib.hid (H2k.out fun h => by have := (HGk.out.1 h).2.1; omega)
              clear hBr hc1
              go_wp2_with (go_quiet (fail))
              go_ret
              exact ⟨retB HR.out, below2 HB.out (bdN HBr.out _)⟩
            · have n2 : decide (33 < X) = false := decide_eq_false hbig
              by_cases h0 : k = 0
              · have HRise : Hid (0 < k → iAt l (k - 1) < X) := Lib.hid (fun h => absurd h (by omega))
                have gk : ¬ (0 : Int) < (k : Int) := by omega
                have gk2 : decide (0 < k) = false := decide_eq_false (by omega)
                have H0K := Lib.hid h0
                clear h0
                clear hBr hc1
                go_wp2_with (go_quiet (fail))
                clear y1 x2
                go_loopw [4, 5] (fun q i wx => ∃ (m : Nat) (B : Bool), m ≤ T ∧ i = .int .i64 m ∧ q = .bool B ∧ B = cntK t k m ∧ Below W.heap.size W wx) (fun _ i _ => T - (intOf i).toNat)
                case atStart => exact ⟨0, false, by omega, rfl, rfl, rfl, bdN HBr.out _⟩
                case round =>
                  obtain ⟨m, B, hm, rfl, rfl, hBv, hBx⟩ := hrel
                  have HBv := Lib.hid hBv
                  have HBx := Lib.hid hBx
                  have y2 := (cell_in (kb hBx HX.out) 1).trans rfl
                  clear hBv
                  by_cases hlm : m < T
                  · obtain ⟨b2, o2, rfl, hb2, hc2⟩ := HC2.out (by omega)
                    have x4 := ((hBx.cell (p := ⟨b2, o2 + m, none⟩) (Nat.lt_of_lt_of_le hb2 hsW)).trans (HB.out.cell (p := ⟨b2, o2 + m, none⟩) hb2)).trans (hc2 m hlm)
                    rw [HT2.out m hlm] at x4
                    have hn2 : m ^^^ 2 ^ k < T := by rw [HP.out] at hlm ⊢; exact Bf.turn_lt hlm hlt
                    have x5 := ((hBx.cell (p := ⟨b2, o2 + (m ^^^ 2 ^ k), none⟩) (Nat.lt_of_lt_of_le hb2 hsW)).trans (HB.out.cell (p := ⟨b2, o2 + (m ^^^ 2 ^ k), none⟩) hb2)).trans (hc2 _ hn2)
                    rw [HT2.out _ hn2] at x5
                    have HTu := Lib.hid (gturned_any m k (by omega) (by omega))
                    have HN := Lib.hid (cntK_next t k m)
                    generalize m ^^^ 2 ^ k = N at *
                    generalize mAt t m = Y at *
                    generalize mAt t N = Z at *
                    clear hc2 hBx
                    cases B
                    · go_wp2_with (go_quiet (first | (go_at_call 32; refine Calls.quiet_of_same (HTu.out _))))
                      go_roundw
                      case rel => exact ⟨m + 1, _, by omega, by go_num, rfl, by rw [HN.out, ← HBv.out, Bool.false_or]; apply Bool.eq_iff_iff.2; rw [bne_iff_ne, bne_iff_ne]; omega, bdN HBx.out _⟩
                      case measure => simp [intOf]; omega
                    · go_wp2_with (go_quiet (first | (go_at_call 32; refine Calls.quiet_of_same (HTu.out _))))
                      go_roundw
                      case rel => exact ⟨m + 1, _, by omega, by go_num, rfl, by rw [HN.out, ← HBv.out, Bool.true_or], bdN HBx.out _⟩
                      case measure => simp [intOf]; omega
                  · obtain rfl : m = T := by omega
                    clear hBx
                    cases B
                    · have HR := Lib.hid (H2k.out fun h => by have h2 := (HGk.out.1 h).2.2.2; rw [← HBv.out] at h2; exact absurd h2 (by decide))
                      go_wp2_with fail
                      go_ret
                      exact ⟨retB HR.out, below2 HB.out HBx.out⟩
                    · go_wp2_with fail
                      go_roundw
                      case rel => exact ⟨k + 1, by omega, by go_num, fun j hj => by
                        rcases Nat.lt_or_eq_of_le (Nat.le_of_lt_succ hj) with h | rfl
                        · exact HA.out j h
                        · exact HGk.out.2 ⟨by omega, by omega, HRise.out, HBv.out.symm⟩, HBx.out⟩
                      case measure => simp [intOf]; omega
              · obtain ⟨k1, hk1⟩ : ∃ k1, k1 = k - 1 := ⟨_, rfl⟩
                have x3 := ((hBr.cell (p := ⟨b1, o1 + k1, none⟩) (Nat.lt_of_lt_of_le hb1 hsW)).trans (HB.out.cell (p := ⟨b1, o1 + k1, none⟩) hb1)).trans (hc1 k1 (by omega))
                rw [← hk1] at HGk
                obtain ⟨Y, hY⟩ : ∃ Y, Y = iAt l k1 := ⟨_, rfl⟩
                rw [← hY] at x3 HGk
                have q1 : IntKind.i64.wrap ((k : Int) - 1) = (k1 : Int) := by rw [wrap_fit (by omega)]; omega
                have q2 : (k : Int) - 1 = (k1 : Int) := by omega
                have lk1 : k1 < L := by omega
                have gk : (0 : Int) < (k : Int) := by omega
                have gk2 : decide (0 < k) = true := decide_eq_true (by omega)
                have H1K := Lib.hid hk1
                have HY := Lib.hid hY
                clear hk1 h0 hY
                by_cases hle : X ≤ Y
                · have n3 : decide (X ≤ Y) = true := decide_eq_true hle
                  have HR := Lib.hid (H2k.out fun h => by have := (HGk.out.1 h).2.2.1 (by omega); omega)
                  clear hBr hc1
                  go_wp2_with (go_quiet (fail))
                  go_ret
                  exact ⟨retB HR.out, below2 HB.out (bdN HBr.out _)⟩
                · have n3 : decide (X ≤ Y) = false := decide_eq_false hle
                  have HRise : Hid (0 < k → Y < X) := Lib.hid (fun _ => by omega)
                  clear hBr hc1
                  go_wp2_with (go_quiet (fail))
                  clear x3 q1 q2
                  clear y1 x2
                  go_loopw [4, 5] (fun q i wx => ∃ (m : Nat) (B : Bool), m ≤ T ∧ i = .int .i64 m ∧ q = .bool B ∧ B = cntK t k m ∧ Below W.heap.size W wx) (fun _ i _ => T - (intOf i).toNat)
                  case atStart => exact ⟨0, false, by omega, rfl, rfl, rfl, bdN HBr.out _⟩
                  case round =>
                    obtain ⟨m, B, hm, rfl, rfl, hBv, hBx⟩ := hrel
                    have HBv := Lib.hid hBv
                    have HBx := Lib.hid hBx
                    have y2 := (cell_in (kb hBx HX.out) 1).trans rfl
                    clear hBv
                    by_cases hlm : m < T
                    · obtain ⟨b2, o2, rfl, hb2, hc2⟩ := HC2.out (by omega)
                      have x4 := ((hBx.cell (p := ⟨b2, o2 + m, none⟩) (Nat.lt_of_lt_of_le hb2 hsW)).trans (HB.out.cell (p := ⟨b2, o2 + m, none⟩) hb2)).trans (hc2 m hlm)
                      rw [HT2.out m hlm] at x4
                      have hn2 : m ^^^ 2 ^ k < T := by rw [HP.out] at hlm ⊢; exact Bf.turn_lt hlm hlt
                      have x5 := ((hBx.cell (p := ⟨b2, o2 + (m ^^^ 2 ^ k), none⟩) (Nat.lt_of_lt_of_le hb2 hsW)).trans (HB.out.cell (p := ⟨b2, o2 + (m ^^^ 2 ^ k), none⟩) hb2)).trans (hc2 _ hn2)
                      rw [HT2.out _ hn2] at x5
                      have HTu := Lib.hid (gturned_any m k (by omega) (by omega))
                      have HN := Lib.hid (cntK_next t k m)
                      generalize m ^^^ 2 ^ k = N at *
                      generalize mAt t m = Y at *
                      generalize mAt t N = Z at *
                      clear hc2 hBx
                      cases B
                      · go_wp2_with (go_quiet (first | (go_at_call 32; refine Calls.quiet_of_same (HTu.out _))))
                        go_roundw
                        case rel => exact ⟨m + 1, _, by omega, by go_num, rfl, by rw [HN.out, ← HBv.out, Bool.false_or]; apply Bool.eq_iff_iff.2; rw [bne_iff_ne, bne_iff_ne]; omega, bdN HBx.out _⟩
                        case measure => simp [intOf]; omega
                      · go_wp2_with (go_quiet (first | (go_at_call 32; refine Calls.quiet_of_same (HTu.out _))))
                        go_roundw
                        case rel => exact ⟨m + 1, _, by omega, by go_num, rfl, by rw [HN.out, ← HBv.out, Bool.true_or], bdN HBx.out _⟩
                        case measure => simp [intOf]; omega
                    · obtain rfl : m = T := by omega
                      clear hBx
                      cases B
                      · have HR := Lib.hid (H2k.out fun h => by have h2 := (HGk.out.1 h).2.2.2; rw [← HBv.out] at h2; exact absurd h2 (by decide))
                        go_wp2_with fail
                        go_ret
                        exact ⟨retB HR.out, below2 HB.out HBx.out⟩
                      · go_wp2_with fail
                        go_roundw
                        case rel => exact ⟨k + 1, by omega, by go_num, fun j hj => by
                          rcases Nat.lt_or_eq_of_le (Nat.le_of_lt_succ hj) with h | rfl
                          · exact HA.out j h
                          · exact HGk.out.2 ⟨by omega, by omega, HRise.out, HBv.out.symm⟩, HBx.out⟩
                        case measure => simp [intOf]; omega
        · obtain rfl : k = L := by omega
          have HR := Lib.hid (H3.out (by trivial) (by trivial) HA.out)
          clear hBr
          go_wp2_with fail
          go_ret
          exact ⟨retB HR.out, below2 HB.out HBr.out⟩
    · have HR := Lib.hid (H1.out hT)
      have e1 : ((T : Int) == (P : Int)) = false := by simp; omega
      go_wp2_with (go_quiet (first | (go_at_call 31; refine Calls.quiet_of_same (HSz.out _))))
      go_ret
      exact ⟨retB HR.out, bdN HB.out _⟩
  · have HR := Lib.hid (H0.out hL)
    have g1 : (4 : Int) < (L : Int) := by omega
    have g2 : decide ((4 : Int) < (L : Int)) = true := decide_eq_true g1
    clear hL
    go_wp2_with (go_quiet (fail))
    go_ret
    exact ⟨retB HR.out, bdN HB.out _⟩
end Go.Proofs.Ytlgoeegpgcilbaa
/-
  Forms that are right are those of the plain text; which rows of whole numbers they are.
-/
namespace Go.Proofs.Ytlgoeegpgcilbaa
open Go.ChangeShapes Go.WideShapes Go.ChangeAt Go.RowKit
set_option maxRecDepth 100000

theorem cnt_iff {vs t : List Nat} {j : Nat} : cntK t j (2 ^ vs.length) = true ↔ Bf.Counts ⟨vs, t⟩ j := by
  unfold cntK
  rw [List.any_eq_true]
  constructor
  · rintro ⟨n, hn, h⟩
    exact ⟨n, List.mem_range.1 hn, by simpa using h⟩
  · rintro ⟨n, hn, h⟩
    exact ⟨n, List.mem_range.2 hn, by simpa using h⟩
theorem natsI_inj {a b : List Nat} (h : natsI a = natsI b) : a = b := by
  have hl : a.length = b.length := by rw [← natsI_len a, ← natsI_len b, h]
  refine ext_mAt hl fun i hi => ?_
  have e1 := natsI_iAt hi
  have e2 := natsI_iAt (t := b) (i := i) (by omega)
  rw [h, e2] at e1
  omega
theorem rise_step {l : List Nat} (h : ∀ j, j + 1 < l.length → mAt l j < mAt l (j + 1)) : Bf.Rise l := by
  intro j k hjk
  induction k with
  | zero => omega
  | succ k ih =>
    intro hk
    rcases Nat.lt_or_eq_of_le (Nat.le_of_lt_succ hjk) with h2 | rfl
    · exact Nat.lt_trans (ih h2 (by omega)) (h k hk)
    · exact h j hk
/-- A form is right just if it is one of the plain text. -/
theorem right_iff {l : List Int} {t : List Nat} (ht : ∀ n ∈ t, n < 4294967296) : RightP l t ↔ ∃ f : Bf.BF, Bf.Valid f ∧ l = natsI f.vs ∧ t = f.tb := by
  constructor
  · rintro ⟨h4, hsz, hg⟩
    have hnn : l = natsI (l.map Int.toNat) := by
      refine ext_iAt (by simp [natsI]) fun i hi => ?_
      have h := (hg i hi).1
      rw [natsI_iAt (by simpa using hi), mAt_get (by simpa using hi), List.getElem_map, ← iAt_get hi]
      omega
    obtain ⟨vs, hvs⟩ : ∃ vs, vs = l.map Int.toNat := ⟨_, rfl⟩
    rw [← hvs] at hnn
    have hl : l.length = vs.length := by rw [hnn, natsI_len]
    have hv : ∀ j, j < vs.length → iAt l j = ((mAt vs j : Nat) : Int) := fun j hj => by rw [hnn, natsI_iAt hj]
    refine ⟨⟨vs, t⟩, ⟨⟨rise_step fun j hj => ?_, fun j hj => ?_, by show vs.length ≤ 4; omega, by show t.length = 2 ^ vs.length; rw [← hl]; exact hsz, fun n => mAt_in ht (by omega) n⟩, fun j hj => ?_⟩, hnn, rfl⟩
    · have hj : j + 1 < vs.length := hj
      show mAt vs j < mAt vs (j + 1)
      have h := (hg (j + 1) (by rw [hl]; exact hj)).2.2.1 (by omega)
      rw [Nat.add_sub_cancel, hv j (by omega), hv (j + 1) hj] at h
      omega
    · have h := (hg j (by rw [hl]; exact hj)).2.1
      rw [hv j hj] at h
      show mAt vs j < 34
      omega
    · have h := (hg j (by rw [hl]; exact hj)).2.2.2
      rw [hl] at h
      exact cnt_iff.1 h
  · rintro ⟨f, hf, rfl, rfl⟩
    refine ⟨by rw [natsI_len]; exact hf.most, by rw [natsI_len]; exact hf.size, fun j hj => ?_⟩
    rw [natsI_len] at hj
    unfold GoodJ
    rw [natsI_iAt hj, natsI_len]
    have := hf.small j hj
    refine ⟨by omega, by omega, fun h0 => ?_, cnt_iff.2 (hf.counts j hj)⟩
    rw [natsI_iAt (by omega)]
    have := hf.rise (j - 1) j (by omega) hj
    omega
theorem same_iff {f g : Bf.BF} : (natsI f.vs = natsI g.vs ∧ f.tb = g.tb) ↔ f = g := by
  constructor
  · rintro ⟨h1, h2⟩
    obtain ⟨fv, ft⟩ := f
    obtain ⟨gv, gt⟩ := g
    have := natsI_inj h1
    simp only at this h2
    rw [this, h2]
  · rintro rfl
    exact ⟨rfl, rfl⟩
/-- What Apart answers. -/
def ApartP (l : List Int) (t : List Nat) (m : List Int) (s : List Nat) (A : Nat → Nat) (b : Bool) : Prop :=
  (¬ (RightP l t ∧ RightP m s ∧ ¬ (l = m ∧ t = s)) ∧ (∀ x, x < 34 → A x = 0) ∧ b = false) ∨
  (b = true ∧ ∃ f g : Bf.BF, Bf.Valid f ∧ Bf.Valid g ∧ l = natsI f.vs ∧ t = f.tb ∧ m = natsI g.vs ∧ s = g.tb ∧ ¬ f = g ∧
    ∃ n, n < 2 ^ (Bf.bothF f.vs g.vs).length ∧ (∀ x, x < 34 → A x = Bf.asgF (Bf.bothF f.vs g.vs) n x) ∧ ¬ Bf.valF f (Bf.asgF (Bf.bothF f.vs g.vs) n) = Bf.valF g (Bf.asgF (Bf.bothF f.vs g.vs) n) ∧
      ∀ k, k < n → Bf.valF f (Bf.asgF (Bf.bothF f.vs g.vs) k) = Bf.valF g (Bf.asgF (Bf.bothF f.vs g.vs) k))
theorem rise_sub : ∀ {U L : List Nat}, Bf.Rise U → (∀ x, x ∈ U → x ∈ L) → U.length ≤ L.length
  | [], L, _, _ => by simp
  | a :: U, L, h, hs => by
    have ha := hs a (List.mem_cons_self ..)
    have h2 : U.length ≤ (L.erase a).length := rise_sub (Bf.rise_tail h) fun x hx => by
      have := Bf.rise_head h hx
      exact (List.mem_erase_of_ne (by omega)).2 (hs x (List.mem_cons_of_mem _ hx))
    rw [List.length_erase_of_mem ha] at h2
    have : 0 < L.length := List.length_pos_of_mem ha
    simp only [List.length_cons]
    omega
theorem both_len {f g : Bf.BF} (hf : Bf.Valid f) (hg : Bf.Valid g) : (Bf.bothF f.vs g.vs).length ≤ 8 := by
  have h := rise_sub (L := f.vs ++ g.vs) (Bf.both_rise f.vs g.vs) fun x hx => List.mem_append.2 (Bf.both_mem.1 hx).2
  rw [List.length_append] at h
  have := hf.most
  have := hg.most
  omega
end Go.Proofs.Ytlgoeegpgcilbaa
/-
  Package hurdleref15: Apart, of any two forms.
-/
namespace Go.Proofs.Ytlgoeegpgcilbaa
open Go.ChangeShapes Go.WideShapes Go.ChangeAt Go.RowKit
set_option maxRecDepth 100000

theorem asgF_lt (vs : List Nat) (n x : Nat) : Bf.asgF vs n x < 4294967296 := by unfold Bf.asgF; split <;> omega
set_option maxHeartbeats 8000000 in
theorem gapart_any (v1 v2 : Value) (l m : List Int) (t s : List Nat) (w : World) (h1 : GF w v1 l t) (h2 : GF w v2 m s) (hl : l.length ≤ 1000) (ht : t.length ≤ 1000) (htw : ∀ n ∈ t, n < 4294967296) (hsw : ∀ n ∈ s, n < 4294967296) :
    Calls Try.prog 24 #[v1, v2] w fun e w' => ∃ (u : Value) (A : Nat → Nat) (b : Bool), e = .returned (.tuple #[u, .bool b]) ∧ UAt w' u 34 A ∧ Below w.heap.size w w' ∧ ApartP l t m s A b := by
  have H1 := Lib.hid h1
  have H2 := Lib.hid h2
  obtain ⟨s1, s2, rfl, hs1, hs2⟩ := h1
  obtain ⟨s3, s4, rfl, hs3, hs4⟩ := h2
  obtain ⟨ao1, cap1, rfl⟩ := hs1.shape
  obtain ⟨ao2, cap2, rfl⟩ := hs2.shape
  obtain ⟨ao3, cap3, rfl⟩ := hs3.shape
  obtain ⟨ao4, cap4, rfl⟩ := hs4.shape
  clear hs1 hs2 hs3 hs4
  obtain ⟨W, hW, x0, x1, hB⟩ := box2 w (.cells #[.slice ao1 l.length cap1, .slice ao2 (natsI t).length cap2] 37) (.cells #[.slice ao3 m.length cap3, .slice ao4 (natsI s).length cap4] 37)
  have HX1 := Lib.hid x0
  have HX2 := Lib.hid x1
  have HB := Lib.hid hB
  have hmk := mk34
  have HEnd := Lib.hid (fun (R : Prop) (h : ¬ R) (e : R ↔ (RightP l t ∧ RightP m s ∧ ¬ (l = m ∧ t = s))) => (.inl ⟨fun hh => h (e.2 hh), fun _ _ => rfl, rfl⟩ : ApartP l t m s (fun _ => 0) false))
  have y1 := (cell_in x0 0).trans rfl
  have y2 := (cell_in x0 1).trans rfl
  clear x0 x1 hB
  obtain ⟨R1, hR1⟩ : ∃ R1, R1 = rightB l t := ⟨_, rfl⟩
  obtain ⟨R2, hR2⟩ : ∃ R2, R2 = rightB m s := ⟨_, rfl⟩
  have HR1 := Lib.hid hR1
  have HR2 := Lib.hid hR2
  go_enter Try.func24, Try.ntmps24
  go_upto_region 1 with fail
  rw [← hW]
  clear hW hR1 hR2
  go_wp2_with fail
  refine (gright_any _ l t _ (H1.out.below HB.out)).mono ?_
  rintro e w1 ⟨rfl, hb1⟩
  rw [← HR1.out]
  have HX11 := Lib.hid (kb hb1 HX1.out)
  have HX21 := Lib.hid (kb hb1 HX2.out)
  have HB1 := Lib.hid (below2 HB.out hb1)
  clear hb1 y1 y2
  have y3 := (cell_in HX21.out 0).trans rfl
  have y4 := (cell_in HX21.out 1).trans rfl
  cases R1
  · have HP : Hid (ApartP l t m s (fun _ => 0) false) := Lib.hid (.inl ⟨fun h => by have := rightB_yes h.1; rw [← HR1.out] at this; exact absurd this (by decide), fun _ _ => rfl, rfl⟩)
    go_wp2_with fail
    go_ret2
    exact ⟨_, fun _ => 0, false, rfl, UAt.block (heap_alloc_new _ _) (by simp [zeros]) (fun i _ => zeros_at i), ba _ HB1.out, HP.out⟩
  · go_wp2_with fail
    refine (gright_any _ m s _ (H2.out.below HB1.out)).mono ?_
    rintro e w2 ⟨rfl, hb2⟩
    rw [← HR2.out]
    have HX12 := Lib.hid (kb hb2 HX11.out)
    have HX22 := Lib.hid (kb hb2 HX21.out)
    have HB2 := Lib.hid (below2 HB1.out hb2)
    clear hb2 y3 y4
    have y1 := (cell_in HX12.out 0).trans rfl
    have y2 := (cell_in HX12.out 1).trans rfl
    have y3 := (cell_in HX22.out 0).trans rfl
    have y4 := (cell_in HX22.out 1).trans rfl
    cases R2
    · have HP : Hid (ApartP l t m s (fun _ => 0) false) := Lib.hid (.inl ⟨fun h => by have := rightB_yes h.2.1; rw [← HR2.out] at this; exact absurd this (by decide), fun _ _ => rfl, rfl⟩)
      go_wp2_with fail
      go_ret2
      exact ⟨_, fun _ => 0, false, rfl, UAt.block (heap_alloc_new _ _) (by simp [zeros]) (fun i _ => zeros_at i), ba _ HB2.out, HP.out⟩
    · go_wp2_with fail
      refine (gsame_any _ _ l m t s _ (H1.out.below HB2.out) (H2.out.below HB2.out) hl ht).mono ?_
      rintro e w3 ⟨rfl, hb3⟩
      have HX13 := Lib.hid (kb hb3 HX12.out)
      have HX23 := Lib.hid (kb hb3 HX22.out)
      have HB3 := Lib.hid (below2 HB2.out hb3)
      clear hb3 y1 y2 y3 y4
      by_cases hsame : l = m ∧ t = s
      · rw [decide_eq_true hsame]
        have HP : Hid (ApartP l t m s (fun _ => 0) false) := Lib.hid (.inl ⟨fun h => h.2.2 hsame, fun _ _ => rfl, rfl⟩)
        clear hsame
        go_wp2_with fail
        go_ret2
        exact ⟨_, fun _ => 0, false, rfl, UAt.block (heap_alloc_new _ _) (by simp [zeros]) (fun i _ => zeros_at i), ba _ HB3.out, HP.out⟩
      · rw [decide_eq_false hsame]
        have hr1 : RightP l t := Classical.byContradiction fun h => by have := rightB_no h; rw [← HR1.out] at this; exact absurd this (by decide)
        have hr2 : RightP m s := Classical.byContradiction fun h => by have := rightB_no h; rw [← HR2.out] at this; exact absurd this (by decide)
        obtain ⟨f, hf, rfl, rfl⟩ := (right_iff htw).1 hr1
        obtain ⟨g, hg, rfl, rfl⟩ := (right_iff hsw).1 hr2
        have hne : ¬ f = g := fun h => hsame (same_iff.2 h)
        have HFG := Lib.hid (And.intro hf (And.intro hg hne))
        have hU8 := both_len hf hg
        have HTold := Lib.hid (Bf.told hf hg hne)
        have HUs := Lib.hid (fun j (hj : j < (Bf.bothF f.vs g.vs).length) => (Bf.both_mem.1 (Bf.mem_mAt hj)).1)
        have y1 := (cell_in HX13.out 0).trans rfl
        have y2 := (cell_in HX13.out 1).trans rfl
        have y3 := (cell_in HX23.out 0).trans rfl
        have y4 := (cell_in HX23.out 1).trans rfl
        clear hr1 hr2 hf hg hne hsame HR1 HR2 HEnd
        go_wp2_with fail
        refine (gboth_any _ _ f.vs g.vs f.tb g.tb _ (H1.out.below HB3.out) (H2.out.below HB3.out) HFG.out.1.most HFG.out.2.1.most).mono ?_
        rintro e w4 ⟨uU, rfl, hU, hb4⟩
        have HU := Lib.hid hU
        have HX14 := Lib.hid (kb hb4 HX13.out)
        have HX24 := Lib.hid (kb hb4 HX23.out)
        have HB4 := Lib.hid (below2 HB3.out hb4)
        obtain ⟨aoU, capU, rfl⟩ := hU.shape
        rw [natsI_len] at HU ⊢
        clear hb4 hU y1 y2 y3 y4
        have HAll : Hid (∀ (A : Nat → Nat) (n : Nat), n < 2 ^ (Bf.bothF f.vs g.vs).length → (∀ x, x < 34 → A x = Bf.asgF (Bf.bothF f.vs g.vs) n x) → ¬ Bf.valF f (Bf.asgF (Bf.bothF f.vs g.vs) n) = Bf.valF g (Bf.asgF (Bf.bothF f.vs g.vs) n) →
            (∀ k, k < n → Bf.valF f (Bf.asgF (Bf.bothF f.vs g.vs) k) = Bf.valF g (Bf.asgF (Bf.bothF f.vs g.vs) k)) → ApartP (natsI f.vs) f.tb (natsI g.vs) g.tb A true) :=
          Lib.hid (fun A n h1 h2 h3 h4 => .inr ⟨rfl, f, g, HFG.out.1, HFG.out.2.1, rfl, rfl, rfl, rfl, HFG.out.2.2, n, h1, h2, h3, h4⟩)
        obtain ⟨U, hUd⟩ : ∃ U, U = Bf.bothF f.vs g.vs := ⟨_, rfl⟩
        rw [← hUd] at hU8 HTold HUs HU HAll ⊢
        clear hUd
        have HSz := Lib.hid (gsize_any U.length (by omega))
        have lP : 2 ^ U.length ≤ 256 := Nat.pow_le_pow_right (n := 2) (by omega) (show U.length ≤ 8 from hU8)
        obtain ⟨P, hP⟩ : ∃ P, P = 2 ^ U.length := ⟨_, rfl⟩
        rw [← hP] at HTold HAll HSz lP
        clear hP
        go_wp2_with fail
        go_loopw [7] (fun i wr => ∃ k : Nat, k ≤ P ∧ i = .int .i64 k ∧ (∀ j, j < k → Bf.valF f (Bf.asgF U j) = Bf.valF g (Bf.asgF U j)) ∧ Below w4.heap.size w4 wr) (fun i _ => P - (intOf i).toNat)
        case atStart => exact ⟨0, by omega, rfl, fun j hj => by omega, Below.refl _ _⟩
        case round =>
          obtain ⟨k, hk, rfl, hA, hBr⟩ := hrel
          have HA := Lib.hid hA
          have HBr := Lib.hid hBr
          clear hA hBr
          by_cases hlt : k < P
          · go_wp2_with fail
            refine (HSz.out _).mono ?_
            rintro e w5 ⟨rfl, rfl⟩
            go_wp2_with fail
            refine (gassign_any _ U k _ (HU.out.below HBr.out) hU8 HUs.out (by omega)).mono ?_
            rintro e w6 ⟨u6, rfl, hu6, hb6⟩
            have HBw := Lib.hid (below2 HBr.out hb6)
            have HX16 := Lib.hid (kb HBw.out HX14.out)
            have HX26 := Lib.hid (kb HBw.out HX24.out)
            have HBa := Lib.hid (below2 HB4.out HBw.out)
            have HU6 := Lib.hid hu6
            have y1 := cell_regrown (cell_in HX16.out 0)
            have y2 := cell_regrown (cell_in HX16.out 1)
            have y3 := cell_regrown (cell_in HX26.out 0)
            have y4 := cell_regrown (cell_in HX26.out 1)
            have c1 : ∀ d os, Calls Try.prog 19 #[.agg #[.slice ao1 (natsI f.vs).length cap1, .slice ao2 (natsI f.tb).length cap2], u6] (Sort.grow (redrawn w6 d) os) fun e w'' => e = .returned (.int .u32 (Bf.valF f (Bf.asgF U k) : Nat)) ∧ ∃ p : Regrown, w'' = Sort.grow (redrawn w6 p.d) p.os := fun d os => Calls.regrown_of (geval_any _ _ f (Bf.asgF U k) _ (H1.out.below (HBa.out.trans ((below_regrown w6 d os).mono HBa.out.size))) (HU6.out.below (below_regrown w6 d os)) HFG.out.1.toFine (fun i _ => asgF_lt U k i))
            have c2 : ∀ d os, Calls Try.prog 19 #[.agg #[.slice ao3 (natsI g.vs).length cap3, .slice ao4 (natsI g.tb).length cap4], u6] (Sort.grow (redrawn w6 d) os) fun e w'' => e = .returned (.int .u32 (Bf.valF g (Bf.asgF U k) : Nat)) ∧ ∃ p : Regrown, w'' = Sort.grow (redrawn w6 p.d) p.os := fun d os => Calls.regrown_of (geval_any _ _ g (Bf.asgF U k) _ (H2.out.below (HBa.out.trans ((below_regrown w6 d os).mono HBa.out.size))) (HU6.out.below (below_regrown w6 d os)) HFG.out.2.1.toFine (fun i _ => asgF_lt U k i))
            have HEq := Lib.hid (fun (h : ¬ Bf.valF f (Bf.asgF U k) = Bf.valF g (Bf.asgF U k)) => HAll.out (Bf.asgF U k) k hlt (fun _ _ => rfl) h HA.out)
            obtain ⟨E, hE⟩ : ∃ E, E = Bf.valF f (Bf.asgF U k) := ⟨_, rfl⟩
            obtain ⟨G, hG⟩ : ∃ G, G = Bf.valF g (Bf.asgF U k) := ⟨_, rfl⟩
            rw [← hE] at c1 HEq
            rw [← hG] at c2 HEq
            have HE := Lib.hid hE
            have HGv := Lib.hid hG
            clear hE hG hu6 hb6
            go_wp2_with fail
            by_cases hEG : E = G
            · have e1 : ((E : Int) == (G : Int)) = true := by simp [hEG]
              have e2 : ((E : Int) != (G : Int)) = false := by simp [hEG]
              have HEG := Lib.hid hEG
              clear hEG
              refine wp_region_quiet_below (by kernel_rfl) (by kernel_rfl) ?_
              repeat (quiet_step (first | with_reducible exact c1 _ _ | with_reducible exact c2 _ _))
              refine wpQuiet_nil ?_
              intro _ hw'
              obtain ⟨⟨dq, osq⟩, hw''⟩ := hw'
              subst hw''
              have HBq := Lib.hid (below2 HBw.out (below_regrown w6 dq osq))
              clear c1 c2 y1 y2 y3 y4
              generalize Sort.grow (redrawn w6 dq) osq = Wq at *
              go_wp2_with fail
              go_roundw
              case rel => exact ⟨k + 1, by omega, by go_num, fun j hj => by
                rcases Nat.lt_or_eq_of_le (Nat.le_of_lt_succ hj) with h | rfl
                · exact HA.out j h
                · rw [← HE.out, ← HGv.out, HEG.out], HBq.out⟩
              case measure => simp [intOf]; omega
            · have e1 : ((E : Int) == (G : Int)) = false := by simp; omega
              have e2 : ((E : Int) != (G : Int)) = true := by simp; omega
              have HP := Lib.hid (HEq.out hEG)
              clear hEG HEq
              refine wp_region_quiet_below (by kernel_rfl) (by kernel_rfl) ?_
              repeat (quiet_step (first | with_reducible exact c1 _ _ | with_reducible exact c2 _ _))
              refine wpQuiet_nil ?_
              intro _ hw'
              obtain ⟨⟨dq, osq⟩, hw''⟩ := hw'
              subst hw''
              have HBq := Lib.hid (below2 HBa.out (below_regrown w6 dq osq))
              have HUq := Lib.hid (HU6.out.below (below_regrown w6 dq osq))
              clear c1 c2 y1 y2 y3 y4
              generalize Sort.grow (redrawn w6 dq) osq = Wq at *
              go_wp2_with fail
              go_ret2
              exact ⟨_, Bf.asgF U k, true, rfl, HUq.out, HBq.out, HP.out⟩
          · obtain rfl : k = P := by omega
            obtain ⟨n, hn, hd⟩ := HTold.out
            exact absurd (HA.out n hn) hd
end Go.Proofs.Ytlgoeegpgcilbaa
/-
  Package hurdleref15: without.
-/
namespace Go.Proofs.Ytlgoeegpgcilbaa
open Go.ChangeShapes Go.WideShapes Go.ChangeAt Go.RowKit
set_option maxRecDepth 100000

/-! ### Rows without -/
def vsK (vs : List Nat) (j k : Nat) : List Nat := ((List.range k).filter fun i => i != j).map (mAt vs)
def tbK (tb : List Nat) (j m : Nat) : List Nat := ((List.range m).filter fun n => n / 2 ^ j % 2 == 0).map (mAt tb)
theorem vsK_in {vs : List Nat} {j k : Nat} (h : k ≠ j) : vsK vs j (k + 1) = vsK vs j k ++ [mAt vs k] := by
  unfold vsK
  rw [List.range_succ, List.filter_append, List.filter_cons_of_pos (by simp [h]), List.map_append]
  rfl
theorem vsK_out {vs : List Nat} {j : Nat} : vsK vs j (j + 1) = vsK vs j j := by
  unfold vsK
  rw [List.range_succ, List.filter_append, List.filter_cons_of_neg (by simp)]
  simp
theorem tbK_in {tb : List Nat} {j m : Nat} (h : m / 2 ^ j % 2 = 0) : tbK tb j (m + 1) = tbK tb j m ++ [mAt tb m] := by
  unfold tbK
  rw [List.range_succ, List.filter_append, List.filter_cons_of_pos (by simp [h]), List.map_append]
  rfl
theorem tbK_out {tb : List Nat} {j m : Nat} (h : ¬ m / 2 ^ j % 2 = 0) : tbK tb j (m + 1) = tbK tb j m := by
  unfold tbK
  rw [List.range_succ, List.filter_append, List.filter_cons_of_neg (by simp [h])]
  simp
theorem vsK_len (vs : List Nat) (j k : Nat) : (vsK vs j k).length ≤ k := by
  unfold vsK
  rw [List.length_map]
  exact Nat.le_trans (List.length_filter_le _ _) (by simp)
theorem tbK_len (tb : List Nat) (j m : Nat) : (tbK tb j m).length ≤ m := by
  unfold tbK
  rw [List.length_map]
  exact Nat.le_trans (List.length_filter_le _ _) (by simp)
theorem vs_ix : ∀ L, L < 5 → ∀ j, j < L → ((List.range L).filter fun i => i != j) = (List.range (L - 1)).map fun k => if k < j then k else k + 1 := by decide +kernel
theorem tb_ix : ∀ L, L < 5 → ∀ j, j < L → ((List.range (2 ^ L)).filter fun n => n / 2 ^ j % 2 == 0) = (List.range (2 ^ (L - 1))).map (Bf.ins j) := by decide +kernel
theorem drop_vs {f : Bf.BF} {j : Nat} (h4 : f.vs.length ≤ 4) (hj : j < f.vs.length) : vsK f.vs j f.vs.length = (Bf.dropF f j).vs := by
  unfold vsK
  rw [vs_ix _ (by omega) j hj, List.map_map]
  refine ext_mAt (by rw [Bf.drop_len hj]; simp) fun i hi => ?_
  have hi : i < f.vs.length - 1 := by simpa using hi
  rw [mAt_get (by simpa using hi)]
  show _ = mAt (f.vs.eraseIdx j) i
  rw [Bf.erase_at]
  simp only [List.getElem_map, List.getElem_range, Function.comp]
  split <;> rfl
theorem drop_tbs {f : Bf.BF} {j : Nat} (h4 : f.vs.length ≤ 4) (hj : j < f.vs.length) : tbK f.tb j (2 ^ f.vs.length) = (Bf.dropF f j).tb := by
  unfold tbK
  rw [tb_ix _ (by omega) j hj, List.map_map]
  rfl
/-! ### Variables that are forms -/
abbrev gfB (u1 u2 : Value) : Obj := .cells #[u1, u2] 37
theorem infoG : (Try.prog.info? 37).map (·.size) = some 2 := by kernel_rfl
theorem g0_put {w : World} {g : Nat} {u1 u2 v : Value} (h : w.heap[g]? = some (gfB u1 u2)) : RowPut w (w.setCell ⟨g, 0, none⟩ v) g (gfB v u2) := by
  rw [setCell_eq_setRow w g 0 _ _ _ _ h]
  exact rowPut_set h _
theorem g1_put {w : World} {g : Nat} {u1 u2 v : Value} (h : w.heap[g]? = some (gfB u1 u2)) : RowPut w (w.setCell ⟨g, 1, none⟩ v) g (gfB u1 v) := by
  rw [setCell_eq_setRow w g 1 _ _ _ _ h]
  exact rowPut_set h _
section
variable {ops : Array Oper} {rest : List Oper} {o : Oper} {a : Act} {w : World} {Q : Exit → Act → World → Prop}
theorem ld_gf {g : Nat} {u1 u2 : Value} {x : Operand} (hG : w.heap[g]? = some (gfB u1 u2)) (hgd : o.guard = none) (ho : o.op = .load 37 x) (hx : a.eval x = .pointer (some ⟨g, 0, none⟩))
    (h : wpList Try.prog ops Q rest (a.put o.dst (.agg #[u1, u2])) w) : wpList Try.prog ops Q (o :: rest) a w :=
  wpList_load_row hgd 37 x ho g hx 37 #[u1, u2] (0, 0) _ hG Try.underlying37 rfl infoG h
theorem st_gf {g : Nat} {u1 u2 : Value} {old : Array Value} {x y : Operand} (hG : w.heap[g]? = some (.cells old 37)) (hold : old.size = 2) (h1 : u1.oneCell' = true) (h2 : u2.oneCell' = true) (hgd : o.guard = none) (ho : o.op = .store 37 x y) (hx : a.eval x = .pointer (some ⟨g, 0, none⟩)) (hy : a.eval y = .agg #[u1, u2])
    (h : ∀ w', RowPut w w' g (gfB u1 u2) → wpList Try.prog ops Q rest (a.put o.dst undef) w') : wpList Try.prog ops Q (o :: rest) a w :=
  wpList_store_row hgd 37 x y ho g #[u1, u2] hx hy 37 old hG infoG hold (by simp [h1, h2]) (h _ (rowPut_set hG _))
end
theorem results_gf {fn : Func} {p : Tmp} (h : fn.results = #[.cell p 37]) {tmps : Array Value} {w : World} {g : Nat} {u1 u2 : Value}
    (hp : tmps.getD p undef = .pointer (some ⟨g, 0, none⟩)) (hG : w.heap[g]? = some (gfB u1 u2)) : (results fn tmps).run Try.prog w = .ok (.agg #[u1, u2]) w :=
  results_cell_row h tmps w g 37 #[u1, u2] (0, 0) _ hp hG Try.underlying37 rfl infoG
set_option maxHeartbeats 8000000 in
theorem gwithout_any (v : Value) (f : Bf.BF) (j : Nat) (w : World) (h1 : GF w v (natsI f.vs) f.tb) (hf : Bf.Fine f) (hj : j < f.vs.length) :
    Calls Try.prog 43 #[v, .int .i64 j] w fun e w' => ∃ s1 s2, e = .returned (.agg #[s1, s2]) ∧ NRowB w.heap.size .i64 w' s1 (natsI (Bf.dropF f j).vs) ∧ NRowB w.heap.size .u32 w' s2 (natsI (Bf.dropF f j).tb) ∧ Below w.heap.size w w' := by
  obtain ⟨i0, hi0, ha0, hb0, hc0⟩ := info_parts infoJ
  obtain ⟨i1, hi1, ha1, hb1, hc1⟩ := info_parts infoN
  obtain ⟨_, _, rfl, hs1, hs2⟩ := h1
  obtain ⟨ao1, cap1, rfl⟩ := hs1.shape
  obtain ⟨ao2, cap2, rfl⟩ := hs2.shape
  have HC1 := Lib.hid (nrow_at hs1 rfl).2
  have HC2 := Lib.hid (hs2.at2 rfl).2
  rw [natsI_len] at HC2
  rw [natsI_len, natsI_len]
  have HT2 := Lib.hid (fun (i : Nat) (h : i < f.tb.length) => natsI_iAt h)
  have HDv := Lib.hid (drop_vs hf.most hj)
  have HDt := Lib.hid (drop_tbs hf.most hj)
  have hL4 := hf.most
  have hTL := hf.size
  obtain ⟨L, hL⟩ : ∃ L, L = f.vs.length := ⟨_, rfl⟩
  obtain ⟨T, hT⟩ : ∃ T, T = f.tb.length := ⟨_, rfl⟩
  rw [← hL] at hj HC1 HDv HDt hL4 hTL ⊢
  rw [← hT] at HC2 HT2 hTL ⊢
  rw [← hTL] at HDt
  have lT : T ≤ 16 := by rw [hTL]; exact Nat.pow_le_pow_right (n := 2) (by omega) (show L ≤ 4 from hL4)
  have lT0 : 0 < T := by rw [hTL]; exact Nat.two_pow_pos L
  obtain ⟨W, hW, x0, x1, x2, hB⟩ := box3 w (gfB (.slice ao1 L cap1) (.slice ao2 T cap2)) (gfB (.slice none 0 0) (.slice none 0 0)) (gfB (.slice none 0 0) (.slice none 0 0))
  have x2 : W.heap[w.heap.size + 1 + 1]? = some (gfB (.slice none 0 0) (.slice none 0 0)) := x2
  have HX0 := Lib.hid x0
  have HR0 := Lib.hid x1
  have HO0 := Lib.hid x2
  have HB := Lib.hid hB
  have hsz : w.heap.size + 1 + 1 < W.heap.size := lt_of_block x2
  clear hs1 hs2 x0 x1 x2 hB hL hT hTL
  go_enter Try.func43, Try.ntmps43
  go_upto_region 2 with fail
  rw [← hW]
  clear hW
  go_wp2_with fail
  go_loopw [6] (fun i wr => ∃ (k : Nat) (u : Value), k ≤ L ∧ i = .int .i64 k ∧ wr.heap[w.heap.size]? = some (gfB (.slice ao1 L cap1) (.slice ao2 T cap2)) ∧ wr.heap[w.heap.size + 1]? = some (gfB (.slice none 0 0) (.slice none 0 0)) ∧ wr.heap[w.heap.size + 1 + 1]? = some (gfB u (.slice none 0 0)) ∧ wr.ownsRow W.heap.size 3 1 u (vsK f.vs j k).length (zcells (natsI (vsK f.vs j k))) ∧ Below w.heap.size w wr ∧ W.heap.size ≤ wr.heap.size) (fun i _ => L - (intOf i).toNat)
  case atStart => exact ⟨0, _, by omega, rfl, HX0.out, HR0.out, HO0.out, by simpa [vsK, natsI, zcells] using World.ownsRow_nil _ _ _ _, HB.out, Nat.le_refl _⟩
  case round =>
    clear HX0 HR0 HO0 HB
    obtain ⟨k, u, hk, rfl, g1, g2, g3, g4, hBr, hsr⟩ := hrel
    have HX := Lib.hid g1
    have HR := Lib.hid g2
    have HO := Lib.hid g3
    have HOw := Lib.hid g4
    have HBr := Lib.hid hBr
    have lK := vsK_len f.vs j k
    have x1 := (cell_in g1 0).trans rfl
    clear g1 g2 g4
    by_cases hlt : k < L
    · by_cases hkj : k = j
      · have HNx := Lib.hid (show vsK f.vs j (k + 1) = vsK f.vs j k by rw [hkj]; exact vsK_out)
        have e1 : ((k : Int) == (j : Int)) = true := by simp [hkj]
        clear hkj hBr g3
        go_wp2_with fail
        go_roundw
        case rel => exact ⟨k + 1, u, by omega, by go_num, HX.out, HR.out, HO.out, by rw [HNx.out]; exact HOw.out, HBr.out, hsr⟩
        case measure => simp [intOf]; omega
      · have HNv := Lib.hid (vsK_in (vs := f.vs) hkj)
        have e1 : ((k : Int) == (j : Int)) = false := by simp; omega
        obtain ⟨b1, o1, rfl, hbl, hcc⟩ := HC1.out (by omega)
        have x3 := (hBr.cell (p := ⟨b1, o1 + k, none⟩) hbl).trans (hcc k hlt)
        have xO : wr.cell? ⟨w.heap.size + 1 + 1, 0, none⟩ = some u := cell_in g3 0
        obtain ⟨Z, hZ⟩ : ∃ Z, Z = mAt f.vs k := ⟨_, rfl⟩
        rw [← hZ] at x3 HNv
        have HNx : Hid (zcells (natsI (vsK f.vs j (k + 1))) = zcells (natsI (vsK f.vs j k)) ++ [.int .i64 (Z : Int)]) := Lib.hid (by rw [HNv.out, natsI_app, zcells_app]; rfl)
        have HNl : Hid ((vsK f.vs j (k + 1)).length = (vsK f.vs j k).length + 1) := Lib.hid (by rw [HNv.out, List.length_append]; rfl)
        have sF : w.heap.size < W.heap.size := by omega
        have sB : b1 < W.heap.size := by omega
        clear hZ hkj hBr g3 hcc HNv
        go_upto_region 6 with fail
        refine wp_region_held_drew (S := fun V => V.cell? ⟨w.heap.size, 0, none⟩ = some (.slice (some ⟨b1, o1, none⟩) L cap1) ∧ V.cell? ⟨b1, o1 + k, none⟩ = some (.int .i64 (Z : Int))) (by kernel_rfl) ⟨x1, x3⟩ (fun hHeld => ?_)
        refine jheld_take (i := 0) (v := .pointer (some ⟨w.heap.size + 1 + 1, 0, none⟩)) (some 18) rfl rfl (by kernel_rfl) (by kernel_rfl) (by kernel_rfl) (fun _ _ _ h => h) (.inl ⟨by rfl, fun V hV => by go_simp⟩) hHeld ?_
        simp only [Act.put, List.setIfInBounds_toArray, List.set_cons_zero, List.set_cons_succ]
        refine jheld_take (i := 2) (v := .pointer (some ⟨w.heap.size, 0, none⟩)) (some 20) rfl rfl (by kernel_rfl) (by kernel_rfl) (by kernel_rfl) (fun _ _ _ h => h) (.inl ⟨by rfl, fun V hV => by go_simp⟩) hHeld ?_
        simp only [Act.put, List.setIfInBounds_toArray, List.set_cons_zero, List.set_cons_succ]
        refine jheld_take (i := 3) (v := .slice (some ⟨b1, o1, none⟩) L cap1) (some 21) rfl rfl (by kernel_rfl) (by kernel_rfl) (by kernel_rfl) (fun _ _ _ h => h) (.inl ⟨by rfl, fun V hV => by obtain ⟨h0, _⟩ := hV; go_simp⟩) hHeld ?_
        simp only [Act.put, List.setIfInBounds_toArray, List.set_cons_zero, List.set_cons_succ]
        refine jheld_take (i := 4) (v := .int .i64 (k : Int)) (some 22) rfl rfl (by kernel_rfl) (by kernel_rfl) (by kernel_rfl) (fun _ _ _ h => h) (.inl ⟨by rfl, fun V hV => by go_simp⟩) hHeld ?_
        simp only [Act.put, List.setIfInBounds_toArray, List.set_cons_zero, List.set_cons_succ]
        refine jheld_take (i := 5) (v := .pointer (some ⟨b1, o1 + k, none⟩)) (some 23) rfl rfl (by kernel_rfl) (by kernel_rfl) (by kernel_rfl) (fun _ _ _ h => h) (.inl ⟨by rfl, fun V hV => by go_simp⟩) hHeld ?_
        simp only [Act.put, List.setIfInBounds_toArray, List.set_cons_zero, List.set_cons_succ]
        refine jheld_take (i := 6) (v := .int .i64 (Z : Int)) (some 24) rfl rfl (by kernel_rfl) (by kernel_rfl) (by kernel_rfl) (fun _ _ _ h => h) (.inl ⟨by rfl, fun V hV => by obtain ⟨_, h1⟩ := hV; go_simp⟩) hHeld ?_
        simp only [Act.put, List.setIfInBounds_toArray, List.set_cons_zero, List.set_cons_succ]
        have hV := ka (.cells #[.int .i64 (Z : Int)] 3) HO.out
        have xO2 : (wr.alloc (.cells #[.int .i64 (Z : Int)] 3)).cell? ⟨w.heap.size + 1 + 1, 0, none⟩ = some u := cell_in hV 0
        have hbV : Below W.heap.size wr (wr.alloc (.cells #[.int .i64 (Z : Int)] 3)).drew := ((Below.refl W.heap.size wr).alloc hsr _).drew
        have HS1 := Lib.hid (And.intro ((hbV.cell (p := ⟨w.heap.size, 0, none⟩) sF).trans x1) ((hbV.cell (p := ⟨b1, o1 + k, none⟩) sB).trans x3))
        have HVB := Lib.hid hbV
        have hVs : W.heap.size ≤ (wr.alloc (.cells #[.int .i64 (Z : Int)] 3)).drew.heap.size := Nat.le_trans hsr hbV.size
        clear hV hbV
        refine wpAnyH_ready (rs := [1, 7]) (by kernel_rfl) (by simp) ?_
        refine AllReadyH.cons rfl (fun K hK => ?_) (AllReadyH.cons rfl (fun K hK => ?_) AllReadyH.nil)
        · go_simp
          refine hK.out _ _ hHeld (fun hHeld => ?_)
          clear hK K
          refine wpAnyH_ready (rs := [7]) (by kernel_rfl) (by simp) ?_
          refine AllReadyH.cons rfl (fun K hK => ?_) AllReadyH.nil
          go_simp
          refine hK.out _ _ HS1.out (fun hHeld => ?_)
          clear hK K
          refine wpAnyH_ready (rs := [8]) (by kernel_rfl) (by simp) ?_
          refine AllReadyH.cons rfl (fun K hK => ?_) AllReadyH.nil
          refine step_append_src _ (by rfl) _ _ 22 (by rfl) W.heap.size 3 i0 (.int .i64 0) 1 8 Try.underlying22 hi0 ha0 hb0 hc0 (by rfl) (by decide) u ((vsK f.vs j k).length) (zcells (natsI (vsK f.vs j k))) (by rfl) (HOw.out.alloc _).drew _ 1 [.int .i64 (Z : Int)] (by rfl) (src_new _ _ _) (by simp [Value.oneCell']) (by unfold maxLen; omega) (by omega) hVs ?_
          intro u13 w13 hO13 hg13
          have hB13 := grown_below HVB.out (HOw.out.alloc (.cells #[.int .i64 (Z : Int)] 3)).drew hg13 hVs
          obtain ⟨ao13, cap13, hu13⟩ := own_shape hO13
          subst hu13
          have HXO := Lib.hid ((hB13.block _ hsz).trans HO.out)
          have aO : w13.cell? ⟨w.heap.size + 1 + 1, 0, none⟩ = some u := cell_in HXO.out 0
          have hfO := free_in HXO.out 0
          have HS2 := Lib.hid (And.intro ((hB13.cell (p := ⟨w.heap.size, 0, none⟩) sF).trans x1) ((hB13.cell (p := ⟨b1, o1 + k, none⟩) sB).trans x3))
          refine hK.out _ _ HS2.out (fun hHeld => ?_)
          clear hK K hHeld
          refine wpAnyH_ready (rs := [9]) (by kernel_rfl) (by simp) ?_
          refine AllReadyH.cons rfl (fun K hK => ?_) AllReadyH.nil
          go_simp
          refine hK.out _ _ HS2.out (fun hHeld => ?_)
          clear hK K hHeld
          refine wpAnyH_ready (rs := [10]) (by kernel_rfl) (by simp) ?_
          refine AllReadyH.cons rfl (fun K hK => ?_) AllReadyH.nil
          go_simp
          have hp := g0_put (v := .slice ao13 ((vsK f.vs j k).length + 1) cap13) HXO.out
          have hO3 := ownsRow_setCell_below (a := ⟨w.heap.size + 1 + 1, 0, none⟩) hO13 hsz (.slice ao13 ((vsK f.vs j k).length + 1) cap13)

          obtain ⟨V3, hV3⟩ : ∃ V3, V3 = w13.setCell ⟨w.heap.size + 1 + 1, 0, none⟩ (.slice ao13 ((vsK f.vs j k).length + 1) cap13) := ⟨_, rfl⟩
          rw [← hV3] at hp hO3 ⊢
          have HO3 : Hid (V3.ownsRow W.heap.size 3 1 (.slice ao13 ((vsK f.vs j k).length + 1) cap13) ((vsK f.vs j k).length + 1) (zcells (natsI (vsK f.vs j (k + 1))))) := Lib.hid (by
            rw [HNx.out]
            exact hO3)
          have HP3 := Lib.hid hp
          have HM3 := Lib.hid (hp.below (HBr.out.trans (hB13.mono (by omega))) (by omega))
          have HX13 := Lib.hid (hp.keep (by omega) ((hB13.block _ sF).trans HX.out))
          have HR3 := Lib.hid (hp.keep (by omega) ((hB13.block _ (show w.heap.size + 1 < W.heap.size by omega)).trans HR.out))
          have hs3 : W.heap.size ≤ V3.heap.size := by rw [hp.size]; exact Nat.le_trans hsr hB13.size
          have lB := hbl
          refine hK.out _ _ (And.intro ((rp_cell hp (by first | (simp; done) | (simp; omega))).trans HS2.out.1) ((rp_cell hp (by first | (simp; done) | (simp; omega))).trans HS2.out.2)) (fun hHeld => ?_)
          clear hK K hHeld hp hO3 hV3 hO13 hg13 hB13 aO hfO x1 x3 xO xO2
          refine wpAnyH_done (by kernel_rfl) ?_ _
          go_wp2_with fail
          go_roundw
          case rel => exact ⟨k + 1, _, by omega, by go_num, HX13.out, HR3.out, HP3.out.row, by rw [HNl.out]; exact HO3.out, HM3.out, hs3⟩
          case measure => simp [intOf]; omega
        · go_simp
          refine hK.out _ _ HS1.out (fun hHeld => ?_)
          clear hK K
          refine wpAnyH_ready (rs := [1]) (by kernel_rfl) (by simp) ?_
          refine AllReadyH.cons rfl (fun K hK => ?_) AllReadyH.nil
          go_simp
          refine hK.out _ _ HS1.out (fun hHeld => ?_)
          clear hK K
          refine wpAnyH_ready (rs := [8]) (by kernel_rfl) (by simp) ?_
          refine AllReadyH.cons rfl (fun K hK => ?_) AllReadyH.nil
          refine step_append_src _ (by rfl) _ _ 22 (by rfl) W.heap.size 3 i0 (.int .i64 0) 1 8 Try.underlying22 hi0 ha0 hb0 hc0 (by rfl) (by decide) u ((vsK f.vs j k).length) (zcells (natsI (vsK f.vs j k))) (by rfl) (HOw.out.alloc _).drew _ 1 [.int .i64 (Z : Int)] (by rfl) (src_new _ _ _) (by simp [Value.oneCell']) (by unfold maxLen; omega) (by omega) hVs ?_
          intro u13 w13 hO13 hg13
          have hB13 := grown_below HVB.out (HOw.out.alloc (.cells #[.int .i64 (Z : Int)] 3)).drew hg13 hVs
          obtain ⟨ao13, cap13, hu13⟩ := own_shape hO13
          subst hu13
          have HXO := Lib.hid ((hB13.block _ hsz).trans HO.out)
          have aO : w13.cell? ⟨w.heap.size + 1 + 1, 0, none⟩ = some u := cell_in HXO.out 0
          have hfO := free_in HXO.out 0
          have HS2 := Lib.hid (And.intro ((hB13.cell (p := ⟨w.heap.size, 0, none⟩) sF).trans x1) ((hB13.cell (p := ⟨b1, o1 + k, none⟩) sB).trans x3))
          refine hK.out _ _ HS2.out (fun hHeld => ?_)
          clear hK K hHeld
          refine wpAnyH_ready (rs := [9]) (by kernel_rfl) (by simp) ?_
          refine AllReadyH.cons rfl (fun K hK => ?_) AllReadyH.nil
          go_simp
          refine hK.out _ _ HS2.out (fun hHeld => ?_)
          clear hK K hHeld
          refine wpAnyH_ready (rs := [10]) (by kernel_rfl) (by simp) ?_
          refine AllReadyH.cons rfl (fun K hK => ?_) AllReadyH.nil
          go_simp
          have hp := g0_put (v := .slice ao13 ((vsK f.vs j k).length + 1) cap13) HXO.out
          have hO3 := ownsRow_setCell_below (a := ⟨w.heap.size + 1 + 1, 0, none⟩) hO13 hsz (.slice ao13 ((vsK f.vs j k).length + 1) cap13)

          obtain ⟨V3, hV3⟩ : ∃ V3, V3 = w13.setCell ⟨w.heap.size + 1 + 1, 0, none⟩ (.slice ao13 ((vsK f.vs j k).length + 1) cap13) := ⟨_, rfl⟩
          rw [← hV3] at hp hO3 ⊢
          have HO3 : Hid (V3.ownsRow W.heap.size 3 1 (.slice ao13 ((vsK f.vs j k).length + 1) cap13) ((vsK f.vs j k).length + 1) (zcells (natsI (vsK f.vs j (k + 1))))) := Lib.hid (by
            rw [HNx.out]
            exact hO3)
          have HP3 := Lib.hid hp
          have HM3 := Lib.hid (hp.below (HBr.out.trans (hB13.mono (by omega))) (by omega))
          have HX13 := Lib.hid (hp.keep (by omega) ((hB13.block _ sF).trans HX.out))
          have HR3 := Lib.hid (hp.keep (by omega) ((hB13.block _ (show w.heap.size + 1 < W.heap.size by omega)).trans HR.out))
          have hs3 : W.heap.size ≤ V3.heap.size := by rw [hp.size]; exact Nat.le_trans hsr hB13.size
          have lB := hbl
          refine hK.out _ _ (And.intro ((rp_cell hp (by first | (simp; done) | (simp; omega))).trans HS2.out.1) ((rp_cell hp (by first | (simp; done) | (simp; omega))).trans HS2.out.2)) (fun hHeld => ?_)
          clear hK K hHeld hp hO3 hV3 hO13 hg13 hB13 aO hfO x1 x3 xO xO2
          refine wpAnyH_done (by kernel_rfl) ?_ _
          go_wp2_with fail
          go_roundw
          case rel => exact ⟨k + 1, _, by omega, by go_num, HX13.out, HR3.out, HP3.out.row, by rw [HNl.out]; exact HO3.out, HM3.out, hs3⟩
          case measure => simp [intOf]; omega
    · obtain rfl : k = L := by omega
      clear hBr
      go_wp2_with fail
      have HOi0 := HOw
      clear x1 HOw
      go_loopw [7] (fun i wx => ∃ (n : Nat) (u2 : Value), n ≤ T ∧ i = .int .i64 n ∧ wx.heap[w.heap.size]? = some (gfB (.slice ao1 k cap1) (.slice ao2 T cap2)) ∧ wx.heap[w.heap.size + 1]? = some (gfB (.slice none 0 0) (.slice none 0 0)) ∧ wx.heap[w.heap.size + 1 + 1]? = some (gfB u u2) ∧ wx.ownsRow W.heap.size 3 1 u (vsK f.vs j k).length (zcells (natsI (vsK f.vs j k))) ∧ wx.ownsRow W.heap.size 26 1 u2 (tbK f.tb j n).length (ucells (tbK f.tb j n)) ∧ Below w.heap.size w wx ∧ W.heap.size ≤ wx.heap.size) (fun i _ => T - (intOf i).toNat)
      case atStart => exact ⟨0, _, by omega, rfl, HX.out, HR.out, HO.out, HOi0.out, by simpa [tbK, ucells] using World.ownsRow_nil _ _ _ _, HBr.out, hsr⟩
      case round =>
        clear HX HR HO HBr HOi0 hsr
        obtain ⟨n, u2, hn, rfl, g1, g2, g3, g4, g5, hBr, hsr⟩ := hrel
        have HX := Lib.hid g1
        have HR := Lib.hid g2
        have HO := Lib.hid g3
        have HOi := Lib.hid g4
        have HOw := Lib.hid g5
        have HBr := Lib.hid hBr
        have lK2 := tbK_len f.tb j n
        have x1 := (cell_in g1 1).trans rfl
        clear g1 g2 g4 g5
        by_cases hlt2 : n < T
        · have HSz := Lib.hid (gsize_any j (by omega))
          have HIn := Lib.hid (fun h => tbK_in (tb := f.tb) (j := j) (m := n) h)
          have HOut := Lib.hid (fun h => tbK_out (tb := f.tb) (j := j) (m := n) h)
          have l0 := Nat.two_pow_pos j
          have lP : 2 ^ j ≤ 8 := Nat.pow_le_pow_right (n := 2) (by omega) (show j ≤ 3 by omega)
          generalize 2 ^ j = P at *
          have d1 : ¬ (P : Int) = 0 := by omega
          obtain ⟨D, hD⟩ : ∃ D, D = n / P := ⟨_, rfl⟩
          have lD : D ≤ n := by rw [hD]; exact Nat.div_le_self n P
          have d2 : (n : Int) / (P : Int) = (D : Int) := by rw [hD]; rfl
          rw [← hD] at HIn HOut
          have xO : wr.cell? ⟨w.heap.size + 1 + 1, 1, none⟩ = some u2 := cell_in g3 1
          obtain ⟨b2, o2, rfl, hbl, hcc⟩ := HC2.out (by omega)
          have x3 := (hBr.cell (p := ⟨b2, o2 + n, none⟩) hbl).trans (hcc n hlt2)
          rw [HT2.out n hlt2] at x3
          obtain ⟨Z, hZ⟩ : ∃ Z, Z = mAt f.tb n := ⟨_, rfl⟩
          rw [← hZ] at x3 HIn
          clear hD hBr g3 hcc hZ
          go_wp2_with fail
          refine (HSz.out _).mono ?_
          rintro e w9 ⟨rfl, hw9⟩
          rw [hw9]
          clear hw9 w9
          by_cases hd : D % 2 = 0
          · have e1 : ((D : Int) % 2 == 0) = true := by simp; omega
            have HNv := Lib.hid (HIn.out hd)
            have HNx : Hid (ucells (tbK f.tb j (n + 1)) = ucells (tbK f.tb j n) ++ [.int .u32 (Z : Int)]) := Lib.hid (by rw [HNv.out, ucells_app]; rfl)
            have HNl : Hid ((tbK f.tb j (n + 1)).length = (tbK f.tb j n).length + 1) := Lib.hid (by rw [HNv.out, List.length_append]; rfl)
            have sF : w.heap.size < W.heap.size := by omega
            have sB : b2 < W.heap.size := by omega
            clear hd HNv HIn HOut HSz
            go_upto_region 11 with fail
            refine wp_region_held_drew (S := fun V => V.cell? ⟨w.heap.size, 1, none⟩ = some (.slice (some ⟨b2, o2, none⟩) T cap2) ∧ V.cell? ⟨b2, o2 + n, none⟩ = some (.int .u32 (Z : Int))) (by kernel_rfl) ⟨x1, x3⟩ (fun hHeld => ?_)
            refine jheld_take (i := 0) (v := .pointer (some ⟨w.heap.size + 1 + 1, 1, none⟩)) (some 41) rfl rfl (by kernel_rfl) (by kernel_rfl) (by kernel_rfl) (fun _ _ _ h => h) (.inl ⟨by rfl, fun V hV => by go_simp⟩) hHeld ?_
            simp only [Act.put, List.setIfInBounds_toArray, List.set_cons_zero, List.set_cons_succ]
            refine jheld_take (i := 2) (v := .pointer (some ⟨w.heap.size, 1, none⟩)) (some 43) rfl rfl (by kernel_rfl) (by kernel_rfl) (by kernel_rfl) (fun _ _ _ h => h) (.inl ⟨by rfl, fun V hV => by go_simp⟩) hHeld ?_
            simp only [Act.put, List.setIfInBounds_toArray, List.set_cons_zero, List.set_cons_succ]
            refine jheld_take (i := 3) (v := .slice (some ⟨b2, o2, none⟩) T cap2) (some 44) rfl rfl (by kernel_rfl) (by kernel_rfl) (by kernel_rfl) (fun _ _ _ h => h) (.inl ⟨by rfl, fun V hV => by obtain ⟨h0, _⟩ := hV; go_simp⟩) hHeld ?_
            simp only [Act.put, List.setIfInBounds_toArray, List.set_cons_zero, List.set_cons_succ]
            refine jheld_take (i := 4) (v := .int .i64 (n : Int)) (some 45) rfl rfl (by kernel_rfl) (by kernel_rfl) (by kernel_rfl) (fun _ _ _ h => h) (.inl ⟨by rfl, fun V hV => by go_simp⟩) hHeld ?_
            simp only [Act.put, List.setIfInBounds_toArray, List.set_cons_zero, List.set_cons_succ]
            refine jheld_take (i := 5) (v := .pointer (some ⟨b2, o2 + n, none⟩)) (some 46) rfl rfl (by kernel_rfl) (by kernel_rfl) (by kernel_rfl) (fun _ _ _ h => h) (.inl ⟨by rfl, fun V hV => by go_simp⟩) hHeld ?_
            simp only [Act.put, List.setIfInBounds_toArray, List.set_cons_zero, List.set_cons_succ]
            refine jheld_take (i := 6) (v := .int .u32 (Z : Int)) (some 47) rfl rfl (by kernel_rfl) (by kernel_rfl) (by kernel_rfl) (fun _ _ _ h => h) (.inl ⟨by rfl, fun V hV => by obtain ⟨_, h1⟩ := hV; go_simp⟩) hHeld ?_
            simp only [Act.put, List.setIfInBounds_toArray, List.set_cons_zero, List.set_cons_succ]
            have hV := ka (.cells #[.int .u32 (Z : Int)] 26) HO.out
            have xO2 : (wr.alloc (.cells #[.int .u32 (Z : Int)] 26)).cell? ⟨w.heap.size + 1 + 1, 1, none⟩ = some u2 := cell_in hV 1
            have hbV : Below W.heap.size wr (wr.alloc (.cells #[.int .u32 (Z : Int)] 26)).drew := ((Below.refl W.heap.size wr).alloc hsr _).drew
            have HS1 := Lib.hid (And.intro ((hbV.cell (p := ⟨w.heap.size, 1, none⟩) sF).trans x1) ((hbV.cell (p := ⟨b2, o2 + n, none⟩) sB).trans x3))
            have HVB := Lib.hid hbV
            have hVs : W.heap.size ≤ (wr.alloc (.cells #[.int .u32 (Z : Int)] 26)).drew.heap.size := Nat.le_trans hsr hbV.size
            clear hV hbV
            refine wpAnyH_ready (rs := [1, 7]) (by kernel_rfl) (by simp) ?_
            refine AllReadyH.cons rfl (fun K hK => ?_) (AllReadyH.cons rfl (fun K hK => ?_) AllReadyH.nil)
            · go_simp
              refine hK.out _ _ hHeld (fun hHeld => ?_)
              clear hK K
              refine wpAnyH_ready (rs := [7]) (by kernel_rfl) (by simp) ?_
              refine AllReadyH.cons rfl (fun K hK => ?_) AllReadyH.nil
              go_simp
              refine hK.out _ _ HS1.out (fun hHeld => ?_)
              clear hK K
              refine wpAnyH_ready (rs := [8]) (by kernel_rfl) (by simp) ?_
              refine AllReadyH.cons rfl (fun K hK => ?_) AllReadyH.nil
              refine step_append_src _ (by rfl) _ _ 23 (by rfl) W.heap.size 26 i1 (.int .u32 0) 1 4 Try.underlying23 hi1 ha1 hb1 hc1 (by rfl) (by decide) u2 ((tbK f.tb j n).length) (ucells (tbK f.tb j n)) (by rfl) (HOw.out.alloc _).drew _ 1 [.int .u32 (Z : Int)] (by rfl) (src_new _ _ _) (by simp [Value.oneCell']) (by unfold maxLen; omega) (by omega) hVs ?_
              intro u13 w13 hO13 hg13
              have hB13 := grown_below HVB.out (HOw.out.alloc (.cells #[.int .u32 (Z : Int)] 26)).drew hg13 hVs
              obtain ⟨ao13, cap13, hu13⟩ := own_shape hO13
              subst hu13
              have HXO := Lib.hid ((hB13.block _ hsz).trans HO.out)
              have aO : w13.cell? ⟨w.heap.size + 1 + 1, 1, none⟩ = some u2 := cell_in HXO.out 1
              have hfO := free_in HXO.out 1
              have HS2 := Lib.hid (And.intro ((hB13.cell (p := ⟨w.heap.size, 1, none⟩) sF).trans x1) ((hB13.cell (p := ⟨b2, o2 + n, none⟩) sB).trans x3))
              refine hK.out _ _ HS2.out (fun hHeld => ?_)
              clear hK K hHeld
              refine wpAnyH_ready (rs := [9]) (by kernel_rfl) (by simp) ?_
              refine AllReadyH.cons rfl (fun K hK => ?_) AllReadyH.nil
              go_simp
              refine hK.out _ _ HS2.out (fun hHeld => ?_)
              clear hK K hHeld
              refine wpAnyH_ready (rs := [10]) (by kernel_rfl) (by simp) ?_
              refine AllReadyH.cons rfl (fun K hK => ?_) AllReadyH.nil
              go_simp
              have hp := g1_put (v := .slice ao13 ((tbK f.tb j n).length + 1) cap13) HXO.out
              have hO3 := ownsRow_setCell_below (a := ⟨w.heap.size + 1 + 1, 1, none⟩) hO13 hsz (.slice ao13 ((tbK f.tb j n).length + 1) cap13)
              have hI3 := ownsRow_setCell_below (a := ⟨w.heap.size + 1 + 1, 1, none⟩) ((HOi.out.alloc (.cells #[.int .u32 (Z : Int)] 26)).drew.kept hg13 (own_apart2 (HOw.out.alloc (.cells #[.int .u32 (Z : Int)] 26)).drew (HOi.out.alloc (.cells #[.int .u32 (Z : Int)] 26)).drew (by decide))) hsz (.slice ao13 ((tbK f.tb j n).length + 1) cap13)
              obtain ⟨V3, hV3⟩ : ∃ V3, V3 = w13.setCell ⟨w.heap.size + 1 + 1, 1, none⟩ (.slice ao13 ((tbK f.tb j n).length + 1) cap13) := ⟨_, rfl⟩
              rw [← hV3] at hp hO3 hI3 ⊢
              have HI3 := Lib.hid hI3
              clear hI3
              have HO3 : Hid (V3.ownsRow W.heap.size 26 1 (.slice ao13 ((tbK f.tb j n).length + 1) cap13) ((tbK f.tb j n).length + 1) (ucells (tbK f.tb j (n + 1)))) := Lib.hid (by
                rw [HNx.out]
                exact hO3)
              have HP3 := Lib.hid hp
              have HM3 := Lib.hid (hp.below (HBr.out.trans (hB13.mono (by omega))) (by omega))
              have HX13 := Lib.hid (hp.keep (by omega) ((hB13.block _ sF).trans HX.out))
              have HR3 := Lib.hid (hp.keep (by omega) ((hB13.block _ (show w.heap.size + 1 < W.heap.size by omega)).trans HR.out))
              have hs3 : W.heap.size ≤ V3.heap.size := by rw [hp.size]; exact Nat.le_trans hsr hB13.size
              have lB := hbl
              refine hK.out _ _ (And.intro ((rp_cell hp (by first | (simp; done) | (simp; omega))).trans HS2.out.1) ((rp_cell hp (by first | (simp; done) | (simp; omega))).trans HS2.out.2)) (fun hHeld => ?_)
              clear hK K hHeld hp hO3 hV3 hO13 hg13 hB13 aO hfO x1 x3 xO xO2
              refine wpAnyH_done (by kernel_rfl) ?_ _
              go_wp2_with fail
              go_roundw
              case rel => exact ⟨n + 1, _, by omega, by go_num, HX13.out, HR3.out, HP3.out.row, HI3.out, by rw [HNl.out]; exact HO3.out, HM3.out, hs3⟩
              case measure => simp [intOf]; omega
            · go_simp
              refine hK.out _ _ HS1.out (fun hHeld => ?_)
              clear hK K
              refine wpAnyH_ready (rs := [1]) (by kernel_rfl) (by simp) ?_
              refine AllReadyH.cons rfl (fun K hK => ?_) AllReadyH.nil
              go_simp
              refine hK.out _ _ HS1.out (fun hHeld => ?_)
              clear hK K
              refine wpAnyH_ready (rs := [8]) (by kernel_rfl) (by simp) ?_
              refine AllReadyH.cons rfl (fun K hK => ?_) AllReadyH.nil
              refine step_append_src _ (by rfl) _ _ 23 (by rfl) W.heap.size 26 i1 (.int .u32 0) 1 4 Try.underlying23 hi1 ha1 hb1 hc1 (by rfl) (by decide) u2 ((tbK f.tb j n).length) (ucells (tbK f.tb j n)) (by rfl) (HOw.out.alloc _).drew _ 1 [.int .u32 (Z : Int)] (by rfl) (src_new _ _ _) (by simp [Value.oneCell']) (by unfold maxLen; omega) (by omega) hVs ?_
              intro u13 w13 hO13 hg13
              have hB13 := grown_below HVB.out (HOw.out.alloc (.cells #[.int .u32 (Z : Int)] 26)).drew hg13 hVs
              obtain ⟨ao13, cap13, hu13⟩ := own_shape hO13
              subst hu13
              have HXO := Lib.hid ((hB13.block _ hsz).trans HO.out)
              have aO : w13.cell? ⟨w.heap.size + 1 + 1, 1, none⟩ = some u2 := cell_in HXO.out 1
              have hfO := free_in HXO.out 1
              have HS2 := Lib.hid (And.intro ((hB13.cell (p := ⟨w.heap.size, 1, none⟩) sF).trans x1) ((hB13.cell (p := ⟨b2, o2 + n, none⟩) sB).trans x3))
              refine hK.out _ _ HS2.out (fun hHeld => ?_)
              clear hK K hHeld
              refine wpAnyH_ready (rs := [9]) (by kernel_rfl) (by simp) ?_
              refine AllReadyH.cons rfl (fun K hK => ?_) AllReadyH.nil
              go_simp
              refine hK.out _ _ HS2.out (fun hHeld => ?_)
              clear hK K hHeld
              refine wpAnyH_ready (rs := [10]) (by kernel_rfl) (by simp) ?_
              refine AllReadyH.cons rfl (fun K hK => ?_) AllReadyH.nil
              go_simp
              have hp := g1_put (v := .slice ao13 ((tbK f.tb j n).length + 1) cap13) HXO.out
              have hO3 := ownsRow_setCell_below (a := ⟨w.heap.size + 1 + 1, 1, none⟩) hO13 hsz (.slice ao13 ((tbK f.tb j n).length + 1) cap13)
              have hI3 := ownsRow_setCell_below (a := ⟨w.heap.size + 1 + 1, 1, none⟩) ((HOi.out.alloc (.cells #[.int .u32 (Z : Int)] 26)).drew.kept hg13 (own_apart2 (HOw.out.alloc (.cells #[.int .u32 (Z : Int)] 26)).drew (HOi.out.alloc (.cells #[.int .u32 (Z : Int)] 26)).drew (by decide))) hsz (.slice ao13 ((tbK f.tb j n).length + 1) cap13)
              obtain ⟨V3, hV3⟩ : ∃ V3, V3 = w13.setCell ⟨w.heap.size + 1 + 1, 1, none⟩ (.slice ao13 ((tbK f.tb j n).length + 1) cap13) := ⟨_, rfl⟩
              rw [← hV3] at hp hO3 hI3 ⊢
              have HI3 := Lib.hid hI3
              clear hI3
              have HO3 : Hid (V3.ownsRow W.heap.size 26 1 (.slice ao13 ((tbK f.tb j n).length + 1) cap13) ((tbK f.tb j n).length + 1) (ucells (tbK f.tb j (n + 1)))) := Lib.hid (by
                rw [HNx.out]
                exact hO3)
              have HP3 := Lib.hid hp
              have HM3 := Lib.hid (hp.below (HBr.out.trans (hB13.mono (by omega))) (by omega))
              have HX13 := Lib.hid (hp.keep (by omega) ((hB13.block _ sF).trans HX.out))
              have HR3 := Lib.hid (hp.keep (by omega) ((hB13.block _ (show w.heap.size + 1 < W.heap.size by omega)).trans HR.out))
              have hs3 : W.heap.size ≤ V3.heap.size := by rw [hp.size]; exact Nat.le_trans hsr hB13.size
              have lB := hbl
              refine hK.out _ _ (And.intro ((rp_cell hp (by first | (simp; done) | (simp; omega))).trans HS2.out.1) ((rp_cell hp (by first | (simp; done) | (simp; omega))).trans HS2.out.2)) (fun hHeld => ?_)
              clear hK K hHeld hp hO3 hV3 hO13 hg13 hB13 aO hfO x1 x3 xO xO2
              refine wpAnyH_done (by kernel_rfl) ?_ _
              go_wp2_with fail
              go_roundw
              case rel => exact ⟨n + 1, _, by omega, by go_num, HX13.out, HR3.out, HP3.out.row, HI3.out, by rw [HNl.out]; exact HO3.out, HM3.out, hs3⟩
              case measure => simp [intOf]; omega
          · have e1 : ((D : Int) % 2 == 0) = false := by simp; omega
            have HNx := Lib.hid (HOut.out hd)
            clear hd HIn HOut HSz
            go_wp2_with fail
            go_roundw
            case rel => exact ⟨n + 1, u2, by omega, by go_num, HX.out, HR.out, HO.out, HOi.out, by rw [HNx.out]; exact HOw.out, HBr.out, hsr⟩
            case measure => simp [intOf]; omega
        · obtain rfl : n = T := by omega
          clear hBr g3
          go_wp2_with (first
            | (refine ld_gf HO.out rfl rfl rfl ?_)
            | (refine st_gf HR.out rfl (own_cell1 HOi.out) (own_cell1 HOw.out) rfl rfl rfl rfl ?_; intro W2 hp2; have HP2 := Lib.hid hp2; clear hp2))
          (try simp only [Exit.inBlock, Exit.then])
          have hv : vsK f.vs j k = (Bf.dropF f j).vs := HDv.out
          have ht : tbK f.tb j n = (Bf.dropF f j).tb := HDt.out
          refine bodyPost_ret (results_gf rfl rfl HP2.out.row) rfl ⟨_, _, rfl, NRowB.mono (B := W.heap.size) ?_ (by omega), NRowB.mono (B := W.heap.size) ?_ (by omega), HP2.out.below HBr.out (by omega)⟩
          · rw [← hv]
            exact NRowB.own (ownsRow_put HOi.out HP2.out (by omega)) (by rw [natsI_len])
          · rw [← ht]
            exact NRowB.ownU (ownsRow_put HOw.out HP2.out (by omega)) rfl
end Go.Proofs.Ytlgoeegpgcilbaa
/-
  Package hurdlelaw15: As, great, row.
-/
namespace Go.Proofs.Ytlgoeegpgcilbaa
open Go.ChangeShapes Go.WideShapes Go.ChangeAt Go.RowKit
set_option maxRecDepth 100000

theorem gas_any (v : Value) (l : List Int) (t : List Nat) (w : World) (h : GF w v l t) :
    Calls Try.prog 16 #[v] w fun e w' => e = .returned v ∧ Below w.heap.size w w' := by
  obtain ⟨_, _, rfl, hs1, hs2⟩ := h
  obtain ⟨ao1, cap1, rfl⟩ := hs1.shape
  obtain ⟨ao2, cap2, rfl⟩ := hs2.shape
  generalize l.length = L at *
  generalize (natsI t).length = T at *
  obtain ⟨W, hW, x0, x1, hB⟩ := box2 w (.cells #[.slice ao1 L cap1, .slice ao2 T cap2] 25) (gfB (.slice none 0 0) (.slice none 0 0))
  have HR := Lib.hid x1
  have HB := Lib.hid hB
  have y1 := (cell_in x0 0).trans rfl
  have y2 := (cell_in x0 1).trans rfl
  clear hs1 hs2 x0 x1 hB
  go_enter Try.func16, Try.ntmps16
  go_upto_region 1 with fail
  rw [← hW]
  clear hW
  go_wp2_with (refine st_gf HR.out rfl rfl rfl rfl rfl rfl rfl ?_; intro W2 hp2; have HP2 := Lib.hid hp2; clear hp2)
  (try simp only [Exit.inBlock, Exit.then])
  exact bodyPost_ret (results_gf rfl rfl HP2.out.row) rfl ⟨rfl, HP2.out.below HB.out (by omega)⟩
theorem ggreat_any (v : Value) (l : List Int) (t : List Nat) (w : World) (h : GF w v l t) :
    Calls Try.prog 9 #[v] w fun e w' => e = .returned (.bool (decide (50 < l.length) || decide (100 < t.length))) ∧ Below w.heap.size w w' := by
  obtain ⟨_, _, rfl, hs1, hs2⟩ := h
  obtain ⟨ao1, cap1, rfl⟩ := hs1.shape
  obtain ⟨ao2, cap2, rfl⟩ := hs2.shape
  rw [natsI_len]
  generalize l.length = L at *
  generalize t.length = T at *
  clear hs1 hs2
  have h0 := heap_alloc_new w (.cells #[.slice ao1 L cap1, .slice ao2 T cap2] 25)
  have HB := Lib.hid (ba (.cells #[.slice ao1 L cap1, .slice ao2 T cap2] 25) (Below.refl w.heap.size w))
  have y1 := (cell_in h0 0).trans rfl
  have y2 := (cell_in h0 1).trans rfl
  clear h0
  by_cases h1 : 50 < L
  · have HR := Lib.hid (show (decide (50 < L) || decide (100 < T)) = true by simp [h1])
    have g1 : (50 : Int) < (L : Int) := by omega
    clear h1
    go_enter Try.func9, Try.ntmps9
    go_wp2_with fail
    go_ret
    exact ⟨retB HR.out, HB.out⟩
  · have g1 : ¬ (50 : Int) < (L : Int) := by omega
    by_cases h2 : 100 < T
    · have HR := Lib.hid (show (decide (50 < L) || decide (100 < T)) = true by simp [h2])
      have g2 : (100 : Int) < (T : Int) := by omega
      clear h1 h2
      go_enter Try.func9, Try.ntmps9
      go_wp2_with fail
      go_ret
      exact ⟨retB HR.out, HB.out⟩
    · have HR := Lib.hid (show (decide (50 < L) || decide (100 < T)) = false by simp; omega)
      have g2 : ¬ (100 : Int) < (T : Int) := by omega
      clear h1 h2
      go_enter Try.func9, Try.ntmps9
      go_wp2_with fail
      go_ret
      exact ⟨retB HR.out, HB.out⟩
theorem grow_any (v : List Nat) (w : World) (hv : v.length = 34) :
    Calls Try.prog 20 #[formV v] w fun e w' => ∃ u, e = .returned u ∧ UAt w' u 34 (mAt v) ∧ Below w.heap.size w w' := by
  obtain ⟨i0, hi, hz0, hz1, hz2⟩ := info_parts infoN
  have h0 := heap_alloc_new w (rowB v)
  have hb := ba (rowB v) (Below.refl w.heap.size w)
  obtain ⟨W, hW⟩ : ∃ W, W = w.alloc (rowB v) := ⟨_, rfl⟩
  rw [← hW] at h0 hb
  have HX := Lib.hid h0
  have HB := Lib.hid hb
  clear h0 hb
  go_enter Try.func20, Try.ntmps20
  go_upto_region 1 with fail
  rw [← hW]
  clear hW
  go_wp2_with fail
  go_loopw [3, 4] (fun u i wr => ∃ k : Nat, k ≤ 34 ∧ i = .int .i64 k ∧ wr.ownsRow W.heap.size 26 1 u k (ucells (segA (mAt v) k)) ∧ Below W.heap.size W wr) (fun _ i _ => 34 - (intOf i).toNat)
  case atStart => exact ⟨0, by omega, rfl, by simpa [segA, ucells] using World.ownsRow_nil _ _ _ _, Below.refl _ _⟩
  case round =>
    obtain ⟨k, hk, rfl, hO, hB⟩ := hrel
    have HO := Lib.hid hO
    have HBr := Lib.hid hB
    have hbw := hB.size
    have x3 : wr.cell? ⟨w.heap.size, k, none⟩ = _ := (cell_in (kb hB HX.out) k)
    clear hO hB
    by_cases hlt : k < 34
    · rw [numsC_at (by omega)] at x3
      obtain ⟨Z, hZ⟩ : ∃ Z, Z = mAt v k := ⟨_, rfl⟩
      rw [← hZ] at x3
      have HZ := Lib.hid hZ
      clear hZ
      go_wp2_with (at_builtin; refine wpList_append_own _ rfl _ _ 23 rfl W.heap.size 26 i0 (.int .u32 0) 1 4 Try.underlying23 hi hz0 hz1 hz2 rfl (by decide) _ _ _ rfl (HO.out.alloc _) ⟨wr.heap.size, 0, none⟩ 1 1 [.int .u32 (Z : Int)] rfl rfl (new_at wr #[.int .u32 (Z : Int)] 26) (one_int _) (by unfold maxLen; omega) (by omega) (by rw [size_alloc]; omega) ?_)
      intro v2 w2 hown2 hgrow2 _
      have HB2 := Lib.hid (grown_below (HBr.out.alloc hbw (.cells #[.int .u32 (Z : Int)] 26)) (HO.out.alloc _) hgrow2 (by rw [size_alloc]; omega))
      have HO2 : Hid (w2.ownsRow W.heap.size 26 1 v2 (k + 1) (ucells (segA (mAt v) (k + 1)))) := Lib.hid (by
        rw [segA_succ, ucells_app, ← HZ.out]
        exact hown2)
      clear hgrow2 hown2 HO HBr x3
      go_wp2_with fail
      go_roundw
      case rel => exact ⟨k + 1, by omega, by go_num, HO2.out, HB2.out⟩
      case measure => simp [intOf]; omega
    · obtain rfl : k = 34 := by omega
      clear x3
      go_wp2_with fail
      go_ret
      exact ⟨_, rfl, UAt.own HO.out (by omega), below2 HB.out HBr.out⟩
end Go.Proofs.Ytlgoeegpgcilbaa
/-
  Plain facts on numbers and texts, without any program: 32-bit arithmetic as Int functions, hexadecimal digits as lists of bytes.
-/
namespace Wd
open Go

/-- What comes of a kind of arithmetic, as a number. -/
def doV (k a b : Int) : Int :=
  if k = 4 then (a + b) % 4294967296
  else if k = 20 then (a - b) % 4294967296
  else if k = 36 then a * b % 4294967296
  else if k = 52 then (if b = 0 then 0 else a / b)
  else if k = 68 then bits .or .u32 a b
  else if k = 84 then bits .and .u32 a b
  else if k = 100 then a * 2 ^ (b % 32).toNat % 4294967296
  else if k = 116 then a / 2 ^ (b % 32).toNat
  else if k = 164 then bits .xor .u32 a b
  else 0
/-- Whether something comes of it. -/
def doB (k b : Int) : Bool :=
  decide (k = 4) || decide (k = 20) || decide (k = 36) || (decide (k = 52) && !decide (b = 0)) || decide (k = 68) || decide (k = 84) || decide (k = 100) || decide (k = 116) || decide (k = 164)

theorem doV_sub (a b : Int) : doV 20 a b = (a - b) % 4294967296 := rfl
theorem doV_div (a b : Int) (h : b ≠ 0) : doV 52 a b = a / b := by show (if b = 0 then 0 else a / b) = _; rw [if_neg h]
theorem doV_or (a b : Int) : doV 68 a b = bits .or .u32 a b := rfl
theorem doV_and (a b : Int) : doV 84 a b = bits .and .u32 a b := rfl
theorem doV_lsh (a b : Int) : doV 100 a b = a * 2 ^ (b % 32).toNat % 4294967296 := rfl
theorem doV_rsh (a b : Int) : doV 116 a b = a / 2 ^ (b % 32).toNat := rfl
theorem doV_xor (a b : Int) : doV 164 a b = bits .xor .u32 a b := rfl

theorem and31 (b : Int) (h0 : 0 ≤ b) (h1 : b ≤ 4294967295) : bits .and .u32 b 31 = b % 32 := by
  have h := u32_and b 31 h0 (by omega) (by omega) (by omega)
  rw [h]
  have e : (31 : Int).toNat = 31 := rfl
  rw [e, nat_mask5]
  omega

/-- A digit's byte. -/
def hexB (d : Nat) : UInt8 := if d < 10 then UInt8.ofNat (48 + d) else UInt8.ofNat (87 + d)

/-- The hexadecimal digits of a number. -/
def hex (n : Nat) : List UInt8 := if _h : n < 16 then [hexB n] else hex (n / 16) ++ [hexB (n % 16)]
termination_by n
decreasing_by omega

/-! ### Digits as numbers -/
/-- How far a text is read: the first p bytes are those of 0x and of the digits of n (of none, and n is 0, where p is at most 2). -/
def Read (l : List UInt8) (p n : Nat) : Prop :=
  n < 18446744073709551616 ∧ ((p ≤ 2 ∧ n = 0 ∧ l.take p = [48, 120].take p) ∨ (2 < p ∧ l.take p = 48 :: 120 :: hex n))
/-- A text that is read up to its end is a number's. -/
theorem Read.done {l : List UInt8} {p n : Nat} (h : Read l p n) (hp : l.length ≤ p) (h3 : 3 ≤ l.length) : l = 48 :: 120 :: hex n := by
  rcases h.2 with ⟨h1, _, _⟩ | ⟨_, h2⟩
  · omega
  · rwa [List.take_of_length_le hp] at h2
end Wd

/-
  What word.Text answers, for any number of 64 bits, in every world that has the table of math/bits: 0x and the number's hexadecimal digits; nothing that was there is changed.
-/
namespace Go.Proofs.Ytlgoeegpgcilbaa
open Go.ChangeShapes Go.WideShapes Go.ChangeAt Go.RowKit

/-- What the array of 65 bytes in block g holds from place i on. -/
structure Buf (g : Nat) (w : World) (i : Nat) (suf : List UInt8) : Prop where
  cells : ∀ j, j < 65 → ∃ v : Int, w.cell? ⟨g, j, none⟩ = some (.int .u8 v)
  free : ∀ j, w.frozen? ⟨g, j, none⟩ = false
  has : ∀ j (h : j < suf.length), w.cell? ⟨g, i + j, none⟩ = some (.int .u8 (suf[j].toNat : Int))

theorem Buf.put {g : Nat} {w : World} {i : Nat} {suf : List UInt8} (h : Buf g w (i + 1) suf) (hi : i < 65) (c : UInt8) : Buf g (w.setCell ⟨g, i, none⟩ (.int .u8 (c.toNat : Int))) i (c :: suf) := by
  obtain ⟨v, hv⟩ := h.cells i hi
  refine ⟨fun j hj => ?_, fun j => ?_, fun j hj => ?_⟩
  · by_cases e : j = i
    · subst e; exact ⟨_, World.cell?_setCell_same _ _ _ hv⟩
    · rw [World.cell?_setCell_other _ _ _ _ (by simp)]; exact h.cells j hj
  · rw [World.frozen?_setCell]; exact h.free j
  · cases j with
    | zero => exact World.cell?_setCell_same _ _ _ hv
    | succ j =>
      rw [World.cell?_setCell_other _ _ _ _ (by simp), show i + (j + 1) = i + 1 + j by omega]
      exact h.has j (by simpa using hj)

end Go.Proofs.Ytlgoeegpgcilbaa

/-
  What word.Parse answers, for any text of at most 2^62 bytes, in every world: the number whose text it is, and OK; or 0 and ErrForm, if it is no number's text. Nothing that was there is changed.
-/
namespace Go.Proofs.Ytlgoeegpgcilbaa
open Go.ChangeShapes Go.WideShapes Go.ChangeAt Go.RowKit

end Go.Proofs.Ytlgoeegpgcilbaa

/-
  A number's text is read as the number (word.Parse at word.Text's answers), in every world.
-/
namespace Go.Proofs.Ytlgoeegpgcilbaa
open Go.ChangeShapes Go.WideShapes Go.ChangeAt Go.RowKit

end Go.Proofs.Ytlgoeegpgcilbaa
/-
  What word.Do and word.Neg answer, for any kind and any two numbers, in every world.
-/
namespace Go.Proofs.Ytlgoeegpgcilbaa
open Go.ChangeShapes Go.WideShapes Go.ChangeAt Go.RowKit

theorem divide_some (a b : Int) (w : World) (h0 : 0 ≤ a) (h1 : a ≤ 4294967295) (h2 : 1 ≤ b) (h3 : b ≤ 4294967295) :
    Calls Try.prog 45 #[.int .u32 a, .int .u32 b] w fun e w' => e = .returned (.tuple #[.int .u32 (a / b), .bool true]) ∧ w = w' := by
  have hb : (b == 0) = false := by simp; omega
  go_enter Try.func45, Try.ntmps45
  go_wp2
  go_ret2
  exact ⟨rfl, rfl⟩
theorem divide_zero (a : Int) (w : World) :
    Calls Try.prog 45 #[.int .u32 a, .int .u32 0] w fun e w' => e = .returned (.tuple #[.int .u32 0, .bool false]) ∧ w = w' := by
  go_enter Try.func45, Try.ntmps45
  go_wp2
  go_ret2
  exact ⟨rfl, rfl⟩

theorem ret2 {v v' : Int} {c c' : Bool} (h : v = v') (hc : c = c') : Ending.returned (.tuple #[.int .u32 v, .bool c]) = .returned (.tuple #[.int .u32 v', .bool c']) := by rw [h, hc]

set_option maxHeartbeats 1000000 in
/-- word.Do, at any kind. -/
theorem do_any (k a b : Int) (w : World) (h0 : 0 ≤ a) (h1 : a ≤ 4294967295) (h2 : 0 ≤ b) (h3 : b ≤ 4294967295) :
    Calls Try.prog 25 #[.int .i64 k, .int .u32 a, .int .u32 b] w fun e w' => e = .returned (.tuple #[.int .u32 (Wd.doV k a b), .bool (Wd.doB k b)]) ∧ w = w' := by
  by_cases c4 : k = 4
  · subst c4
    go_enter Try.func25, Try.ntmps25
    go_wp2
    go_ret2
    exact ⟨ret2 rfl rfl, rfl⟩
  by_cases c20 : k = 20
  · subst c20
    clear c4
    go_enter Try.func25, Try.ntmps25
    go_wp2
    go_ret2
    exact ⟨ret2 rfl rfl, rfl⟩
  by_cases c36 : k = 36
  · subst c36
    clear c4 c20
    go_enter Try.func25, Try.ntmps25
    go_wp2
    go_ret2
    exact ⟨ret2 rfl rfl, rfl⟩
  by_cases c52 : k = 52
  · subst c52
    clear c4 c20 c36
    by_cases hb : b = 0
    · subst hb
      go_enter Try.func25, Try.ntmps25
      go_wp2_with (go_at_call 45; refine (divide_zero _ _).mono ?_; rintro e w' ⟨rfl, rfl⟩)
      go_ret2
      exact ⟨ret2 rfl rfl, rfl⟩
    · have hb1 : 1 ≤ b := by omega
      have hbd : (decide (b = 0)) = false := by simpa using hb
      have HB := Lib.hid hbd
      have hv := Lib.hid (Wd.doV_div a b hb)
      clear hb hbd
      go_enter Try.func25, Try.ntmps25
      go_wp2_with (go_at_call 45; refine (divide_some _ _ _ h0 h1 hb1 h3).mono ?_; rintro e w' ⟨rfl, rfl⟩)
      go_ret2
      exact ⟨ret2 hv.out.symm (by unfold Wd.doB; rw [HB.out]; rfl), rfl⟩
  by_cases c68 : k = 68
  · subst c68
    clear c4 c20 c36 c52
    go_enter Try.func25, Try.ntmps25
    go_wp2
    go_ret2
    exact ⟨ret2 rfl rfl, rfl⟩
  by_cases c84 : k = 84
  · subst c84
    clear c4 c20 c36 c52 c68
    go_enter Try.func25, Try.ntmps25
    go_wp2
    go_ret2
    exact ⟨ret2 rfl rfl, rfl⟩
  by_cases c100 : k = 100
  · subst c100
    clear c4 c20 c36 c52 c68 c84
    have e31 := Wd.and31 b h2 h3
    have l0 : 0 ≤ bits .and .u32 b 31 := by omega
    have l1 : bits .and .u32 b 31 ≤ 32 := by omega
    have H := Lib.hid e31
    clear e31
    go_enter Try.func25, Try.ntmps25
    go_wp2
    go_ret2
    exact ⟨ret2 (by rw [Wd.doV_lsh, ← H.out]) rfl, rfl⟩
  by_cases c116 : k = 116
  · subst c116
    clear c4 c20 c36 c52 c68 c84 c100
    have e31 := Wd.and31 b h2 h3
    have l0 : 0 ≤ bits .and .u32 b 31 := by omega
    have l1 : bits .and .u32 b 31 ≤ 32 := by omega
    have H := Lib.hid e31
    clear e31
    go_enter Try.func25, Try.ntmps25
    go_wp2
    go_ret2
    exact ⟨ret2 (by rw [Wd.doV_rsh, ← H.out]) rfl, rfl⟩
  by_cases c164 : k = 164
  · subst c164
    clear c4 c20 c36 c52 c68 c84 c100 c116
    go_enter Try.func25, Try.ntmps25
    go_wp2
    go_ret2
    exact ⟨ret2 rfl rfl, rfl⟩
  · have hv : Wd.doV k a b = 0 := by unfold Wd.doV; simp only [if_neg c4, if_neg c20, if_neg c36, if_neg c52, if_neg c68, if_neg c84, if_neg c100, if_neg c116, if_neg c164]
    have hc : Wd.doB k b = false := by unfold Wd.doB; simp [c4, c20, c36, c52, c68, c84, c100, c116, c164]
    have Hv := Lib.hid hv
    have Hc := Lib.hid hc
    have b4 : (k == 4) = false := by simpa using c4
    have b20 : (k == 20) = false := by simpa using c20
    have b36 : (k == 36) = false := by simpa using c36
    have b52 : (k == 52) = false := by simpa using c52
    have b68 : (k == 68) = false := by simpa using c68
    have b84 : (k == 84) = false := by simpa using c84
    have b100 : (k == 100) = false := by simpa using c100
    have b116 : (k == 116) = false := by simpa using c116
    have b164 : (k == 164) = false := by simpa using c164
    clear hv hc c4 c20 c36 c52 c68 c84 c100 c116 c164
    go_enter Try.func25, Try.ntmps25
    go_wp2
    go_ret2
    exact ⟨ret2 Hv.out.symm Hc.out.symm, rfl⟩
end Go.Proofs.Ytlgoeegpgcilbaa

/-
  The document's own answers for arithmetic (package hurdleref01): Do and Neg answer the same as the plain functions.
-/
namespace Wd
open Go
/-- A power of two. -/
def pw (k : Nat) : Nat := 2 ^ k
theorem pw_bd (k : Nat) (h : k < 32) : 1 ≤ pw k ∧ pw k ≤ 2147483648 := by
  have h1 : (2 : Nat) ^ k ≤ 2 ^ 31 := Nat.pow_le_pow_right (by omega) (by omega)
  have h2 : 0 < (2 : Nat) ^ k := Nat.pow_pos (by omega)
  unfold pw
  omega
theorem pw_succ (k : Nat) : pw (k + 1) = pw k * 2 := Nat.pow_succ ..
/-- Bit k of a number. -/
def bt (a k : Nat) : Nat := a / pw k % 2
theorem bt_le (a k : Nat) : bt a k ≤ 1 := by unfold bt; omega
/-- Of each of the first k bits of two numbers what a row of four says, as a number. -/
def sumG (g : Nat → Nat) (a b : Nat) : Nat → Nat
  | 0 => 0
  | k + 1 => sumG g a b k + g (2 * bt a k + bt b k) * pw k
theorem sumG_lt (g : Nat → Nat) (hg : ∀ j, j < 4 → g j ≤ 1) (a b : Nat) : ∀ k, sumG g a b k < pw k
  | 0 => by show 0 < 2 ^ 0; decide
  | k + 1 => by
    have ih := sumG_lt g hg a b k
    have ha := bt_le a k
    have hb := bt_le b k
    have h := hg (2 * bt a k + bt b k) (by omega)
    have hm : g (2 * bt a k + bt b k) * pw k ≤ 1 * pw k := Nat.mul_le_mul_right _ h
    rw [pw_succ]
    unfold sumG
    omega
end Wd
namespace Go.Proofs.Ytlgoeegpgcilbaa
open Go.ChangeShapes Go.WideShapes Go.ChangeAt Go.RowKit

theorem power_any (n : Nat) (hn : n ≤ 4294967295) (w : World) :
    Calls Try.prog 54 #[.int .u32 n] w fun e w' => e = .returned (.int .u64 (Wd.pw (n % 32))) ∧ w = w' := by
  go_enter Try.func54, Try.ntmps54
  go_wp2
  go_loop [3, 4] (fun p i => ∃ k : Nat, k ≤ n % 32 ∧ i = .int .u32 k ∧ p = .int .u64 (Wd.pw k)) (fun _ i => 32 - (intOf i).toNat)
  case atStart => exact ⟨0, by omega, rfl, rfl⟩
  case round =>
    obtain ⟨k, hk, rfl, rfl⟩ := hrel
    have hp := Wd.pw_bd k (by omega)
    by_cases hlt : k < n % 32
    · have hs := Lib.hid (Wd.pw_succ k)
      go_wp2
      go_round
      case rel => exact ⟨k + 1, by omega, by go_num, by rw [hs.out]; go_num⟩
      case measure => simp [intOf]; omega
    · have hk2 : k = n % 32 := by omega
      have H := Lib.hid hk2
      clear hk2
      go_wp2
      go_ret
      exact ⟨by rw [← H.out]; rfl, rfl⟩

theorem bit_any (a k : Nat) (ha : a ≤ 4294967295) (hk : k < 32) (w : World) :
    Calls Try.prog 58 #[.int .u32 a, .int .u32 k] w fun e w' => e = .returned (.int .u32 (Wd.bt a k)) ∧ w = w' := by
  have hp := Wd.pw_bd k hk
  have hr : k % 32 = k := Nat.mod_eq_of_lt hk
  have hc := power_any k (by omega)
  rw [hr] at hc
  have HC := Lib.hid hc
  clear hc hr
  have hb : (a : Int) / (Wd.pw k : Int) % 2 = (Wd.bt a k : Int) := by unfold Wd.bt; simp
  have hble := Wd.bt_le a k
  have hq0 : 0 ≤ (a : Int) / (Wd.pw k : Int) := Int.ediv_nonneg (by omega) (by omega)
  have hq1 : (a : Int) / (Wd.pw k : Int) ≤ 4294967295 := Int.le_trans (Int.ediv_le_self _ (by omega)) (by omega)
  have h1 : (1 : Int) ≤ (Wd.pw k : Int) := by omega
  have h0 : ((Wd.pw k : Int) == 0) = false := by simp; omega
  go_enter Try.func58, Try.ntmps58
  go_wp2_with fail
  refine (HC.out _).mono ?_
  rintro e w' ⟨rfl, rfl⟩
  go_wp2_with fail
  go_ret
  exact ⟨rfl, rfl⟩

theorem bitq (a k : Nat) (ha : a ≤ 4294967295) (hk : k < 32) (w : World) :
    Calls Try.prog 58 #[.int .u32 a, .int .u32 k] w fun e w' => e = .returned (.int .u32 (Wd.bt a k)) ∧ w' = w :=
  (bit_any a k ha hk w).mono fun _ _ h => ⟨h.1, h.2.symm⟩

set_option maxHeartbeats 1000000 in
theorem bits_any (g : Nat → Nat) (hg : ∀ j, j < 4 → g j ≤ 1) (a b : Nat) (ha : a ≤ 4294967295) (hb : b ≤ 4294967295) (q : Nat) (w : World)
    (hc : ∀ j, j < 4 → w.cell? ⟨q, j, none⟩ = some (.int .u32 (g j))) :
    Calls Try.prog 53 #[.int .u32 a, .int .u32 b, .slice (some ⟨q, 0, none⟩) 4 4] w fun e w' => e = .returned (.int .u32 (Wd.sumG g a b 32)) ∧ ∃ n, w' = w.drewN n := by
  have HC := Lib.hid hc
  have HG := Lib.hid hg
  clear hc hg
  go_enter Try.func53, Try.ntmps53
  go_wp2
  go_loopw [7, 8] (fun o i w' => ∃ k n : Nat, k ≤ 32 ∧ i = .int .u32 k ∧ o = .int .u32 (Wd.sumG g a b k) ∧ w' = w.drewN n) (fun _ i _ => 32 - (intOf i).toNat)
  case atStart => exact ⟨0, 0, by omega, rfl, rfl, rfl⟩
  case round =>
    obtain ⟨k, n, hk, rfl, rfl, rfl⟩ := hrel
    by_cases hlt : k < 32
    · have hp := Wd.pw_bd k hlt
      have hxa := Wd.bt_le a k
      have hxb := Wd.bt_le b k
      have hs := Wd.sumG_lt g HG.out a b k
      have hgj := HG.out (2 * Wd.bt a k + Wd.bt b k) (by omega)
      have hcell := HC.out (2 * Wd.bt a k + Wd.bt b k) (by omega)
      have hgp : g (2 * Wd.bt a k + Wd.bt b k) * Wd.pw k ≤ 1 * Wd.pw k := Nat.mul_le_mul_right _ hgj
      have hsum : Wd.sumG g a b (k + 1) = Wd.sumG g a b k + g (2 * Wd.bt a k + Wd.bt b k) * Wd.pw k := rfl
      have hcw : (w.drewN n).cell? ⟨q, 2 * Wd.bt a k + Wd.bt b k, none⟩ = some (.int .u32 (g (2 * Wd.bt a k + Wd.bt b k))) := by rw [World.cell?_drewN]; exact hcell
      have HS := Lib.hid hsum
      clear hcell hsum
      generalize hW : w.drewN n = W at *
      have HW := Lib.hid hW
      clear hW
      generalize hz : g (2 * Wd.bt a k + Wd.bt b k) = z at *
      generalize ho : Wd.sumG g a b k = o at *
      generalize hP : Wd.pw k = P at *
      have hzP : ((z * P : Nat) : Int) = (z : Int) * (P : Int) := by simp
      have i1 : (z : Int) * (P : Int) ≤ 2147483648 := by omega
      have i0 : 0 ≤ (z : Int) * (P : Int) := by omega
      have i2 : (o : Int) < P := by omega
      have cp : ∀ W, Calls Try.prog 54 #[.int .u32 k] W fun e w' => e = .returned (.int .u64 P) ∧ w' = W := fun W => (power_any k (by omega) W).mono fun _ _ h => ⟨by rw [h.1, Nat.mod_eq_of_lt hlt, hP], h.2.symm⟩
      have CP := Lib.hid cp
      have HZ := Lib.hid hzP
      clear cp hz ho hP hzP hgj hgp hs
      go_wp2
      have w1 : IntKind.u32.wrap (2 * (Wd.bt a k : Int)) = 2 * (Wd.bt a k : Int) := IntWalk.u32_in _ (by omega)
      have w2 : IntKind.u32.wrap (2 * (Wd.bt a k : Int) + (Wd.bt b k : Int)) = 2 * (Wd.bt a k : Int) + (Wd.bt b k : Int) := IntWalk.u32_in _ (by omega)
      have w3 : IntKind.i64.wrap (2 * (Wd.bt a k : Int) + (Wd.bt b k : Int)) = 2 * (Wd.bt a k : Int) + (Wd.bt b k : Int) := IntWalk.i64_in _ (by omega)
      have w4 : IntKind.u32.wrap (P : Int) = (P : Int) := IntWalk.u32_in _ (by omega)
      have w5 : IntKind.u32.wrap ((z : Int) * (P : Int)) = (z : Int) * (P : Int) := IntWalk.u32_in _ (by omega)
      have w6 : IntKind.u32.wrap ((o : Int) + (z : Int) * (P : Int)) = (o : Int) + (z : Int) * (P : Int) := IntWalk.u32_in _ (by omega)
      have w7 : (2 * (Wd.bt a k : Int) + (Wd.bt b k : Int)).toNat = 2 * Wd.bt a k + Wd.bt b k := by omega
      have w8 : 0 ≤ 2 * (Wd.bt a k : Int) + (Wd.bt b k : Int) := by omega
      have w9 : 2 * (Wd.bt a k : Int) + (Wd.bt b k : Int) < 4 := by omega
      go_quiet ((first
        | (go_at_call 58; exact Calls.quiet_of_same (bitq _ _ (by omega) (by omega) _))
        | (go_at_call 54; exact Calls.quiet_of_same (CP.out _))))
      clear w1 w2 w3 w4 w5 w6 w7 w8 w9
      go_wp2
      refine ⟨⟨k + 1, n + nq, by omega, by go_num, ?_, ?_⟩, by simp [intOf]; omega⟩
      · rw [HS.out, ← HZ.out]; go_num
      · rw [← HW.out, World.drewN_drewN]
    · obtain rfl : k = 32 := by omega
      go_wp2
      go_ret
      exact ⟨rfl, n, rfl⟩

theorem retT {v v' : Int} {c c' : Bool} (h : v = v') (hc : c = c') : Ending.returned (.tuple #[.int .u32 v, .bool c]) = .returned (.tuple #[.int .u32 v', .bool c']) := by rw [h, hc]

/-- What the three rows of four say. -/
def gOr (j : Nat) : Nat := if j = 0 then 0 else 1
def gAnd (j : Nat) : Nat := if j = 3 then 1 else 0
def gXor (j : Nat) : Nat := if j = 1 ∨ j = 2 then 1 else 0
end Go.Proofs.Ytlgoeegpgcilbaa
namespace Wd
open Go
theorem bt_eq (x k : Nat) : bt x k = (x.testBit k).toNat := by
  unfold bt pw
  rw [Nat.testBit_eq_decide_div_mod_eq]
  have := Nat.mod_lt (x / 2 ^ k) (show 0 < 2 by omega)
  by_cases h : x / 2 ^ k % 2 = 1
  · simp [h]
  · simp [h]; omega
/-- A number is the sum of its bits. -/
theorem sum_bits (x : Nat) : ∀ k, sumG (fun j => if j = 3 then 1 else 0) x x k = x % pw k
  | 0 => by simp [sumG, pw]; omega
  | k + 1 => by
    unfold sumG
    rw [sum_bits x k]
    have h := Nat.mod_pow_succ (x := x) (b := 2) (k := k)
    unfold bt pw at *
    rw [h]
    have := Nat.mod_lt (x / 2 ^ k) (show 0 < 2 by omega)
    by_cases e : x / 2 ^ k % 2 = 1
    · simp [e]
    · have e0 : x / 2 ^ k % 2 = 0 := by omega
      simp [e0]
/-- If each bit of z is what the row says of those of a and b, the sum is z. -/
theorem sumG_eq (g : Nat → Nat) (a b z : Nat) (hz : z < 4294967296) (h : ∀ k, g (2 * bt a k + bt b k) = bt z k) : sumG g a b 32 = z := by
  have e : ∀ k, sumG g a b k = sumG (fun j => if j = 3 then 1 else 0) z z k := by
    intro k
    induction k with
    | zero => rfl
    | succ k ih =>
      unfold sumG
      rw [ih, h k]
      have := bt_le z k
      by_cases e1 : bt z k = 1
      · simp [e1]
      · have e0 : bt z k = 0 := by omega
        simp [e0]
  rw [e, sum_bits]
  exact Nat.mod_eq_of_lt hz
end Wd
namespace Go.Proofs.Ytlgoeegpgcilbaa
theorem sum_or (a b : Nat) (ha : a ≤ 4294967295) (hb : b ≤ 4294967295) : ((Wd.sumG gOr a b 32 : Nat) : Int) = bits .or .u32 a b := by
  rw [u32_or_nat a b (by omega) (by omega)]
  congr 1
  refine Wd.sumG_eq _ _ _ _ (Nat.or_lt_two_pow (n := 32) (by omega) (by omega)) fun k => ?_
  rw [Wd.bt_eq, Wd.bt_eq, Wd.bt_eq, Nat.testBit_or]
  cases a.testBit k <;> cases b.testBit k <;> rfl
theorem sum_and (a b : Nat) (ha : a ≤ 4294967295) (hb : b ≤ 4294967295) : ((Wd.sumG gAnd a b 32 : Nat) : Int) = bits .and .u32 a b := by
  rw [u32_and_nat a b (by omega) (by omega)]
  congr 1
  refine Wd.sumG_eq _ _ _ _ (Nat.and_lt_two_pow (n := 32) _ (by omega)) fun k => ?_
  rw [Wd.bt_eq, Wd.bt_eq, Wd.bt_eq, Nat.testBit_and]
  cases a.testBit k <;> cases b.testBit k <;> rfl
theorem sum_xor (a b : Nat) (ha : a ≤ 4294967295) (hb : b ≤ 4294967295) : ((Wd.sumG gXor a b 32 : Nat) : Int) = bits .xor .u32 a b := by
  rw [u32_xor_nat a b (by omega) (by omega)]
  congr 1
  refine Wd.sumG_eq _ _ _ _ (Nat.xor_lt_two_pow (n := 32) (by omega) (by omega)) fun k => ?_
  rw [Wd.bt_eq, Wd.bt_eq, Wd.bt_eq, Nat.testBit_xor]
  cases a.testBit k <;> cases b.testBit k <;> rfl
end Go.Proofs.Ytlgoeegpgcilbaa

/-
  The document's Do (package hurdleref01), at any kind: the same as the plain function; nothing that was there is changed.
-/
namespace Go.Proofs.Ytlgoeegpgcilbaa
open Go.ChangeShapes Go.WideShapes Go.ChangeAt Go.RowKit

set_option maxHeartbeats 2000000 in
theorem refDo_nat (k : Int) (a b : Nat) (w : World) (h1 : a ≤ 4294967295) (h3 : b ≤ 4294967295) :
    Calls Try.prog 42 #[.int .i64 k, .int .u32 a, .int .u32 b] w fun e w' => e = .returned (.tuple #[.int .u32 (Wd.doV k a b), .bool (Wd.doB k b)]) ∧ Below w.heap.size w w' := by
  by_cases c4 : k = 4
  · subst c4
    go_enter Try.func42, Try.ntmps42
    go_wp2
    go_ret2
    exact ⟨retT rfl rfl, (Below.refl _ _)⟩
  by_cases c20 : k = 20
  · subst c20
    clear c4
    go_enter Try.func42, Try.ntmps42
    go_wp2
    go_ret2
    exact ⟨retT (by rw [Wd.doV_sub]; omega) rfl, (Below.refl _ _)⟩
  by_cases c36 : k = 36
  · subst c36
    clear c4 c20
    have hm : (((a * b : Nat)) : Int) = (a : Int) * (b : Int) := by simp
    have hm2 : a * b ≤ 4294967295 * 4294967295 := Nat.mul_le_mul h1 h3
    have q0 : 0 ≤ (a : Int) * (b : Int) := by omega
    have q1 : (a : Int) * (b : Int) ≤ 18446744065119617025 := by omega
    clear hm hm2
    go_enter Try.func42, Try.ntmps42
    go_wp2
    go_ret2
    exact ⟨retT rfl rfl, (Below.refl _ _)⟩
  by_cases c52 : k = 52
  · subst c52
    clear c4 c20 c36
    by_cases hb : b = 0
    · subst hb
      go_enter Try.func42, Try.ntmps42
      go_wp2
      go_ret2
      exact ⟨retT rfl rfl, (Below.refl _ _)⟩
    · have hb1 : (1 : Int) ≤ (b : Int) := by omega
      have hbz : ((b : Int) == 0) = false := by simp; omega
      have hbd : (decide ((b : Int) = 0)) = false := by simp; omega
      have HB := Lib.hid hbd
      have hv := Lib.hid (Wd.doV_div a b (by omega))
      have q0 : 0 ≤ (a : Int) / (b : Int) := Int.ediv_nonneg (by omega) (by omega)
      have q1 : (a : Int) / (b : Int) ≤ 4294967295 := Int.le_trans (Int.ediv_le_self _ (by omega)) (by omega)
      clear hb hbd
      go_enter Try.func42, Try.ntmps42
      go_wp2
      go_ret2
      exact ⟨retT hv.out.symm (by unfold Wd.doB; rw [HB.out]; rfl), (Below.refl _ _)⟩
  by_cases c68 : k = 68
  · subst c68
    clear c4 c20 c36 c52
    have hs := sum_or a b h1 h3
    have HS := Lib.hid hs
    clear hs
    go_enter Try.func42, Try.ntmps42
    go_wp2_with fail
    refine (bits_any gOr (fun j hj => by unfold gOr; split <;> omega) a b h1 h3 _ _ ?_).mono ?_
    · intro j hj
      rcases j with _ | _ | _ | _ | j
      · simp [gOr]
      · simp [gOr]
      · simp [gOr]
      · simp [gOr]
      · omega
    rintro e w' ⟨rfl, nq, rfl⟩
    go_wp2_with fail
    go_ret2
    exact ⟨retT HS.out rfl, ((Below.refl _ _).alloc (Nat.le_refl _) _).trans ⟨rfl, rfl, rfl, Nat.le_refl _, fun _ _ => rfl⟩⟩
  by_cases c84 : k = 84
  · subst c84
    clear c4 c20 c36 c52 c68
    have hs := sum_and a b h1 h3
    have HS := Lib.hid hs
    clear hs
    go_enter Try.func42, Try.ntmps42
    go_wp2_with fail
    refine (bits_any gAnd (fun j hj => by unfold gAnd; split <;> omega) a b h1 h3 _ _ ?_).mono ?_
    · intro j hj
      rcases j with _ | _ | _ | _ | j
      · simp [gAnd]
      · simp [gAnd]
      · simp [gAnd]
      · simp [gAnd]
      · omega
    rintro e w' ⟨rfl, nq, rfl⟩
    go_wp2_with fail
    go_ret2
    exact ⟨retT HS.out rfl, ((Below.refl _ _).alloc (Nat.le_refl _) _).trans ⟨rfl, rfl, rfl, Nat.le_refl _, fun _ _ => rfl⟩⟩
  by_cases c100 : k = 100
  · subst c100
    clear c4 c20 c36 c52 c68 c84
    have hp := Wd.pw_bd (b % 32) (by omega)
    have he : Wd.doV 100 a b = (a : Int) * (Wd.pw (b % 32) : Int) % 4294967296 := by
      rw [Wd.doV_lsh]
      have e1 : ((b : Int) % 32).toNat = b % 32 := by omega
      rw [e1]
      unfold Wd.pw
      simp
    have HE := Lib.hid he
    clear he
    have h1p : (1 : Int) ≤ (Wd.pw (b % 32) : Int) := by omega
    have hz : ((Wd.pw (b % 32) : Int) == 0) = false := by simp; omega
    have hm : (((a * Wd.pw (b % 32) : Nat)) : Int) = (a : Int) * (Wd.pw (b % 32) : Int) := by simp
    have hm2 : a * Wd.pw (b % 32) ≤ 4294967295 * 2147483648 := Nat.mul_le_mul h1 hp.2
    have q0 : 0 ≤ (a : Int) * (Wd.pw (b % 32) : Int) := by omega
    have q1 : (a : Int) * (Wd.pw (b % 32) : Int) ≤ 9223372034707292160 := by omega
    clear hm hm2
    go_enter Try.func42, Try.ntmps42
    go_wp2_with fail
    refine (power_any b h3 _).mono ?_
    rintro e w' ⟨rfl, rfl⟩
    go_wp2_with fail
    go_ret2
    exact ⟨retT HE.out.symm rfl, (Below.refl _ _)⟩
  by_cases c116 : k = 116
  · subst c116
    clear c4 c20 c36 c52 c68 c84 c100
    have hp := Wd.pw_bd (b % 32) (by omega)
    have he : Wd.doV 116 a b = (a : Int) / (Wd.pw (b % 32) : Int) := by
      rw [Wd.doV_rsh]
      have e1 : ((b : Int) % 32).toNat = b % 32 := by omega
      rw [e1]
      unfold Wd.pw
      simp
    have HE := Lib.hid he
    clear he
    have h1p : (1 : Int) ≤ (Wd.pw (b % 32) : Int) := by omega
    have hz : ((Wd.pw (b % 32) : Int) == 0) = false := by simp; omega
    have q0 : 0 ≤ (a : Int) / (Wd.pw (b % 32) : Int) := Int.ediv_nonneg (by omega) (by omega)
    have q1 : (a : Int) / (Wd.pw (b % 32) : Int) ≤ 4294967295 := Int.le_trans (Int.ediv_le_self _ (by omega)) (by omega)
    go_enter Try.func42, Try.ntmps42
    go_wp2_with fail
    refine (power_any b h3 _).mono ?_
    rintro e w' ⟨rfl, rfl⟩
    go_wp2_with fail
    go_ret2
    exact ⟨retT HE.out.symm rfl, (Below.refl _ _)⟩
  by_cases c164 : k = 164
  · subst c164
    clear c4 c20 c36 c52 c68 c84 c100 c116
    have hs := sum_xor a b h1 h3
    have HS := Lib.hid hs
    clear hs
    go_enter Try.func42, Try.ntmps42
    go_wp2_with fail
    refine (bits_any gXor (fun j hj => by unfold gXor; split <;> omega) a b h1 h3 _ _ ?_).mono ?_
    · intro j hj
      rcases j with _ | _ | _ | _ | j
      · simp [gXor]
      · simp [gXor]
      · simp [gXor]
      · simp [gXor]
      · omega
    rintro e w' ⟨rfl, nq, rfl⟩
    go_wp2_with fail
    go_ret2
    exact ⟨retT HS.out rfl, ((Below.refl _ _).alloc (Nat.le_refl _) _).trans ⟨rfl, rfl, rfl, Nat.le_refl _, fun _ _ => rfl⟩⟩
  have hv : Wd.doV k a b = 0 := by unfold Wd.doV; simp only [if_neg c4, if_neg c20, if_neg c36, if_neg c52, if_neg c68, if_neg c84, if_neg c100, if_neg c116, if_neg c164]
  have hc : Wd.doB k b = false := by unfold Wd.doB; simp [c4, c20, c36, c52, c68, c84, c100, c116, c164]
  have Hv := Lib.hid hv
  have Hc := Lib.hid hc
  have b4 : (k == 4) = false := by simpa using c4
  have b20 : (k == 20) = false := by simpa using c20
  have b36 : (k == 36) = false := by simpa using c36
  have b52 : (k == 52) = false := by simpa using c52
  have b68 : (k == 68) = false := by simpa using c68
  have b84 : (k == 84) = false := by simpa using c84
  have b100 : (k == 100) = false := by simpa using c100
  have b116 : (k == 116) = false := by simpa using c116
  have b164 : (k == 164) = false := by simpa using c164
  clear hv hc c4 c20 c36 c52 c68 c84 c100 c116 c164
  go_enter Try.func42, Try.ntmps42
  go_wp2
  go_ret2
  exact ⟨retT Hv.out.symm Hc.out.symm, (Below.refl _ _)⟩
theorem refDo_any (k a b : Int) (w : World) (h0 : 0 ≤ a) (h1 : a ≤ 4294967295) (h2 : 0 ≤ b) (h3 : b ≤ 4294967295) :
    Calls Try.prog 42 #[.int .i64 k, .int .u32 a, .int .u32 b] w fun e w' => e = .returned (.tuple #[.int .u32 (Wd.doV k a b), .bool (Wd.doB k b)]) ∧ Below w.heap.size w w' := by
  obtain ⟨m, rfl⟩ := Int.eq_ofNat_of_zero_le h0
  obtain ⟨n, rfl⟩ := Int.eq_ofNat_of_zero_le h2
  exact refDo_nat k m n w (by omega) (by omega)
end Go.Proofs.Ytlgoeegpgcilbaa
