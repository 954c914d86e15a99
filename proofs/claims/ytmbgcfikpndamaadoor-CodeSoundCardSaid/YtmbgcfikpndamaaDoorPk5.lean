/-
  What the laws' texts use, joined.
-/
import Derived.Test.YtmbgcfikpndamaaDoorProg
import Derived.WalkKit
import Derived.ProofKit
import Derived.Lib.Hide
import Derived.Laws.Rows
import Derived.Laws.ResultCell
import Derived.Laws.Entries
import Derived.Handy
import Derived.OwnWalk
import Derived.Laws.OwnMore
import Derived.Deep.Draws
import Derived.Laws.IdiomStrings
import Derived.Lib.BufferRead
import Derived.Maps.OwnSet
import Derived.Laws.BitsAllLaws
import Derived.RowKit
import Derived.Lib.QuietBelow
import Derived.Lib.OthersKept
import Derived.BigQuiet
import Derived.IntWalk
import Derived.Deep.RegionHeld3
import Derived.BigRegion
import Derived.Laws.Tables
import Derived.Deep.DeepCutAuto
import Derived.Deep.QuietTactic
import Derived.Test.YtmbgcfikpndamaaDoorRows
import Derived.OpenShut
import Derived.Carry
import Derived.Deep.DeepHandedRow
import Derived.Lib.SmallJoins
import Derived.WalkMore
import Derived.Test.YtmbgcfikpndamaaDoorPk1
import Derived.Test.YtmbgcfikpndamaaDoorPk2
import Derived.Test.YtmbgcfikpndamaaDoorPk4
/-
  The document's own answers for runs (package hurdleref06): From, Run.
-/
namespace Go.Proofs.YtmbgcfikpndamaaDoor
open Go.ChangeShapes Go.WideShapes Go.ChangeAt Go.RowKit
set_option maxRecDepth 20000

section
variable {f : List X4} {d : Rec} {s : St} {p n : Nat}
theorem from_ret (h6 : (f.getD p zeroX).op = 6) : fromS f d (n + 1) s p = ((f.getD p zeroX).k.toNat, 1) := by rw [fromS_succ, if_pos h6]
theorem from_reta (h6 : (f.getD p zeroX).op = 22) : fromS f d (n + 1) s p = (s.a, 1) := by rw [fromS_succ, if_neg (by omega), if_pos h6]
theorem from_kill (h6 : ¬ (f.getD p zeroX).op = 6) (h22 : ¬ (f.getD p zeroX).op = 22) (hg : goesS s (f.getD p zeroX) = false) : fromS f d (n + 1) s p = (0, 1) := by rw [fromS_succ, if_neg h6, if_neg h22, if_pos hg]
theorem from_next (h6 : ¬ (f.getD p zeroX).op = 6) (h22 : ¬ (f.getD p zeroX).op = 22) (hg : goesS s (f.getD p zeroX) = true) : fromS f d (n + 1) s p = ((fromS f d n (stepS s (f.getD p zeroX) d) (placeS s (f.getD p zeroX) p)).1, (fromS f d n (stepS s (f.getD p zeroX) d) (placeS s (f.getD p zeroX) p)).2 + 1) := by
  rw [fromS_succ, if_neg h6, if_neg h22, if_neg (by rw [hg]; decide)]
end
theorem retFrom {q : Nat × Nat} {a b : Nat} {x y : Int} (h : q = (a, b)) (hx : x = a) (hy : y = b) : Ending.returned (.tuple #[.int .u32 x, .int .i64 y]) = .returned (.tuple #[.int .u32 (q.1 : Nat), .int .i64 (q.2 : Nat)]) := by rw [h, hx, hy]

set_option maxHeartbeats 4000000 in
theorem rfrom6_any (v : Value) (l : List X4) (d : Rec) (hd : d.ok) (hok : ∀ x ∈ l, x.ok) (hS : SoundL l) : ∀ (n : Nat) (s : St) (p : Nat) (w : World), FAt w v l → s.ok → p < l.length → l.length - p ≤ n →
    Calls Tryd.prog 21 #[v, s.val, .int .i64 p, d.val] w fun e w' => e = .returned (.tuple #[.int .u32 ((fromS l d n s p).1 : Nat), .int .i64 ((fromS l d n s p).2 : Nat)]) ∧ Below w.heap.size w w' := by
  intro n
  induction n with
  | zero => intro s p w _ _ h1 h2; omega
  | succ n ih =>
    intro s p w hF hso hp hn
    have hlen : l.length ≤ 4096 := hS.2.1
    have HIH := Lib.hid ih
    have HF := Lib.hid hF
    have HSo := Lib.hid hso
    have HDo := Lib.hid hd
    have HSd := Lib.hid hS
    have HO := Lib.hid hok
    obtain ⟨ao, cap, rfl, hF'⟩ := hF
    rcases hF' with h0 | ⟨b, off, rfl, hb, hc⟩
    · rw [h0] at hp; simp at hp
    obtain ⟨W, hW, hg, hdd, hbw⟩ := box2 w (stB s) (.cells d.cells 49)
    obtain ⟨q0, q1, q2, q3⟩ := hc p hp
    have d0 := (hbw.cell (p := ⟨b, _, none⟩) hb).trans q0
    have d1 := (hbw.cell (p := ⟨b, _, none⟩) hb).trans q1
    have d2 := (hbw.cell (p := ⟨b, _, none⟩) hb).trans q2
    have d3 := (hbw.cell (p := ⟨b, _, none⟩) hb).trans q3
    have HXo := Lib.hid (hok _ (List.getElem_mem hp))
    have HXE := Lib.hid (getD_at hp)
    have HXJ := Lib.hid (right_jumps (one_right (by have h := hS.2.2.1 p hp; rw [badAt_at hp] at h; exact h)))
    generalize l[p] = x at d0 d1 d2 d3 HXo HXE HXJ
    obtain ⟨op, jt, jf, kk⟩ := x
    obtain ⟨k, hk, hk4⟩ := nat_k HXo.out
    simp only at hk
    subst hk
    have HX0 := Lib.hid (heap_alloc_new W (insB op jt jf k))
    have HG1 := Lib.hid (ka (insB op jt jf k) hg)
    have HDD1 := Lib.hid (ka (insB op jt jf k) hdd)
    have HB1 := Lib.hid (ba (insB op jt jf k) hbw)
    have hz1 := lt_of_block hdd
    clear hg hdd hbw hso hd hS hok q0 q1 q2 q3 hc ih
    go_enter Tryd.func21, Tryd.ntmps21
    go_upto_region 1 with fail
    rw [← hW]
    clear hW
    cases h6 : (op == 6)
    · have n6 : ¬ op = 6 := by simpa using h6
      have N6 := Lib.hid n6
      clear n6
      cases h22 : (op == 22)
      · have n22 : ¬ op = 22 := by simpa using h22
        have N22 := Lib.hid n22
        clear n22
        have HPL := Lib.hid (placeS_in HSd.out HO.out hp s (ends_op.2 ⟨by rw [HXE.out]; exact N6.out, by rw [HXE.out]; exact N22.out⟩))
        rw [HXE.out] at HPL
        obtain ⟨P, hP⟩ : ∃ P, P = placeS s ⟨op, jt, jf, k⟩ p := ⟨_, rfl⟩
        obtain ⟨k1, k2⟩ := skip_place s ⟨op, jt, jf, k⟩ p HXo.out HXJ.out.1 HXJ.out.2.1
        rw [← hP] at HPL k1
        obtain ⟨hp1, hp2⟩ := HPL.out
        obtain ⟨j1, j2, j3, j4⟩ := HXJ.out
        have HPE := Lib.hid hP
        clear hP HPL
        have HX1 := HX0
        obtain ⟨c0, c1, c2, c3⟩ := insX HX1.out
        cases h5 : (op == 5)
        · have n5 : ¬ op = 5 := by simpa using h5
          have hSK : skipS s ⟨op, jt, jf, k⟩ = if isBranch op then (if takesS s ⟨op, jt, jf, k⟩ then jt else jf) else 0 := by simp [skipS, n5]
          clear n5
          go_wp2_with fail
          refine (refBranch_any op jt jf k _).mono ?_
          rintro e w2 ⟨rfl, hb2⟩
          have HG2 := Lib.hid (kb hb2 HG1.out)
          have HX2 := Lib.hid (kb hb2 HX1.out)
          have HDD2 := Lib.hid (kb hb2 HDD1.out)
          have HB2 := Lib.hid (HB1.out.trans (hb2.mono HB1.out.size))
          clear hb2 c0 c1 c2 c3
          obtain ⟨c0, c1, c2, c3⟩ := insX HX2.out
          cases hB : isBranch op
          · have HSK : Hid (skipS s ⟨op, jt, jf, k⟩ = 0) := Lib.hid (by rw [hSK, hB]; rfl)
            clear hB hSK
            have HQ : Hid (((p : Int) + 1) = (P : Int)) := Lib.hid (by rw [k1, HSK.out]; omega)
            obtain ⟨x0, x1, x2, x3, x4, x5, x6, x7, x8⟩ := rec_cells HDD2.out
            go_wp2_with (refine ld_st HG2.out rfl rfl rfl ?_)
            refine (rstep_any s op jt jf k d _ HSo.out hk4 HDo.out).mono ?_
            rintro e wM ⟨rfl, hbM⟩
            have HDDM := Lib.hid (kb hbM HDD2.out)
            have HDDM' := Lib.hid (ka (stB zeroSt) HDDM.out)
            have HNM := Lib.hid (heap_alloc_new wM (stB zeroSt))
            have HBM := Lib.hid (ba (stB zeroSt) (HB2.out.trans (hbM.mono HB2.out.size)))
            have hz3 := lt_of_block HDDM.out
            clear hbM x0 x1 x2 x3 x4 x5 x6 x7 x8 c0 c1 c2 c3
            obtain ⟨s', hs'⟩ : ∃ s', s' = stepS s ⟨op, jt, jf, k⟩ d := ⟨_, rfl⟩
            rw [← hs']
            have HS' := Lib.hid hs'
            clear hs'
            have hz := st_zero
            cases hgo : goesS s ⟨op, jt, jf, k⟩
            · have HE := Lib.hid (from_kill (f := l) (d := d) (s := s) (p := p) (n := n) (by rw [HXE.out]; exact N6.out) (by rw [HXE.out]; exact N22.out) (by rw [HXE.out]; exact hgo))
              clear hgo
              go_wp2_with (refine st_st HNM.out rfl rfl rfl rfl rfl ?_; intro W4 hp4; have HP4 := Lib.hid hp4; clear hp4)
              go_ret2
              exact ⟨retFrom HE.out rfl rfl, HP4.out.below HBM.out (by omega)⟩
            · have HE := Lib.hid (from_next (f := l) (d := d) (s := s) (p := p) (n := n) (by rw [HXE.out]; exact N6.out) (by rw [HXE.out]; exact N22.out) (by rw [HXE.out]; exact hgo))
              rw [HXE.out, ← HS'.out, ← HPE.out] at HE
              have HSo' := Lib.hid (stepS_ok (d := d) HSo.out HXo.out HDo.out)
              rw [← HS'.out] at HSo'
              have HLN := Lib.hid (fromS_len HSd.out HO.out d n s' P hp2 (by omega))
              clear hgo
              go_wp2_with (first | (refine st_st HNM.out rfl rfl rfl rfl rfl ?_; intro W4 hp4; have HP4 := Lib.hid hp4; clear hp4; obtain ⟨x0, x1, x2, x3, x4, x5, x6, x7, x8⟩ := rec_cells (HP4.out.keep (by omega) HDDM'.out)) | (refine ld_st HP4.out.row rfl rfl rfl ?_))
              rw [HQ.out]
              have HB4 := Lib.hid (HP4.out.below HBM.out (by omega))
              refine (HIH.out s' P W4 (HF.out.below HB4.out) HSo'.out hp2 (by omega)).mono ?_
              rintro e w9 ⟨rfl, hb9⟩
              have HB9 := Lib.hid (HB4.out.trans (hb9.mono HB4.out.size))
              clear hb9 x0 x1 x2 x3 x4 x5 x6 x7 x8
              obtain ⟨R, hR⟩ : ∃ R, R = fromS l d n s' P := ⟨_, rfl⟩
              rw [← hR] at HE HLN ⊢
              obtain ⟨r1, r2⟩ := R
              have hl := HLN.out.2
              simp only at hl
              have hl' : (r2 : Int) ≤ 4096 := by omega
              clear hR hl
              go_wp2_with fail
              go_ret2
              exact ⟨retFrom HE.out rfl (by omega), HB9.out⟩
          · go_wp2_with (refine ld_st HG2.out rfl rfl rfl ?_)
            refine (rtakes_any s op jt jf k _ HSo.out hk4).mono ?_
            rintro e w3 ⟨rfl, hb3⟩
            have HG3 := Lib.hid (kb hb3 HG2.out)
            have HX3 := Lib.hid (kb hb3 HX2.out)
            have HDD3 := Lib.hid (kb hb3 HDD2.out)
            have HB3 := Lib.hid (HB2.out.trans (hb3.mono HB2.out.size))
            clear hb3 c0 c1 c2 c3
            obtain ⟨c0, c1, c2, c3⟩ := insX HX3.out
            cases hT : takesS s ⟨op, jt, jf, k⟩
            · have HSK : Hid (skipS s ⟨op, jt, jf, k⟩ = jf) := Lib.hid (by rw [hSK, hB, hT]; rfl)
              clear hB hSK hT
              have HQ : Hid (((p : Int) + 1 + jf) = (P : Int)) := Lib.hid (by rw [k1, HSK.out]; omega)
              obtain ⟨x0, x1, x2, x3, x4, x5, x6, x7, x8⟩ := rec_cells HDD3.out
              go_wp2_with (refine ld_st HG3.out rfl rfl rfl ?_)
              refine (rstep_any s op jt jf k d _ HSo.out hk4 HDo.out).mono ?_
              rintro e wM ⟨rfl, hbM⟩
              have HDDM := Lib.hid (kb hbM HDD3.out)
              have HDDM' := Lib.hid (ka (stB zeroSt) HDDM.out)
              have HNM := Lib.hid (heap_alloc_new wM (stB zeroSt))
              have HBM := Lib.hid (ba (stB zeroSt) (HB3.out.trans (hbM.mono HB3.out.size)))
              have hz3 := lt_of_block HDDM.out
              clear hbM x0 x1 x2 x3 x4 x5 x6 x7 x8 c0 c1 c2 c3
              obtain ⟨s', hs'⟩ : ∃ s', s' = stepS s ⟨op, jt, jf, k⟩ d := ⟨_, rfl⟩
              rw [← hs']
              have HS' := Lib.hid hs'
              clear hs'
              have hz := st_zero
              cases hgo : goesS s ⟨op, jt, jf, k⟩
              · have HE := Lib.hid (from_kill (f := l) (d := d) (s := s) (p := p) (n := n) (by rw [HXE.out]; exact N6.out) (by rw [HXE.out]; exact N22.out) (by rw [HXE.out]; exact hgo))
                clear hgo
                go_wp2_with (refine st_st HNM.out rfl rfl rfl rfl rfl ?_; intro W4 hp4; have HP4 := Lib.hid hp4; clear hp4)
                go_ret2
                exact ⟨retFrom HE.out rfl rfl, HP4.out.below HBM.out (by omega)⟩
              · have HE := Lib.hid (from_next (f := l) (d := d) (s := s) (p := p) (n := n) (by rw [HXE.out]; exact N6.out) (by rw [HXE.out]; exact N22.out) (by rw [HXE.out]; exact hgo))
                rw [HXE.out, ← HS'.out, ← HPE.out] at HE
                have HSo' := Lib.hid (stepS_ok (d := d) HSo.out HXo.out HDo.out)
                rw [← HS'.out] at HSo'
                have HLN := Lib.hid (fromS_len HSd.out HO.out d n s' P hp2 (by omega))
                clear hgo
                go_wp2_with (first | (refine st_st HNM.out rfl rfl rfl rfl rfl ?_; intro W4 hp4; have HP4 := Lib.hid hp4; clear hp4; obtain ⟨x0, x1, x2, x3, x4, x5, x6, x7, x8⟩ := rec_cells (HP4.out.keep (by omega) HDDM'.out)) | (refine ld_st HP4.out.row rfl rfl rfl ?_))
                rw [HQ.out]
                have HB4 := Lib.hid (HP4.out.below HBM.out (by omega))
                refine (HIH.out s' P W4 (HF.out.below HB4.out) HSo'.out hp2 (by omega)).mono ?_
                rintro e w9 ⟨rfl, hb9⟩
                have HB9 := Lib.hid (HB4.out.trans (hb9.mono HB4.out.size))
                clear hb9 x0 x1 x2 x3 x4 x5 x6 x7 x8
                obtain ⟨R, hR⟩ : ∃ R, R = fromS l d n s' P := ⟨_, rfl⟩
                rw [← hR] at HE HLN ⊢
                obtain ⟨r1, r2⟩ := R
                have hl := HLN.out.2
                simp only at hl
                have hl' : (r2 : Int) ≤ 4096 := by omega
                clear hR hl
                go_wp2_with fail
                go_ret2
                exact ⟨retFrom HE.out rfl (by omega), HB9.out⟩
            · have HSK : Hid (skipS s ⟨op, jt, jf, k⟩ = jt) := Lib.hid (by rw [hSK, hB, hT]; rfl)
              clear hB hSK hT
              have HQ : Hid (((p : Int) + 1 + jt) = (P : Int)) := Lib.hid (by rw [k1, HSK.out]; omega)
              obtain ⟨x0, x1, x2, x3, x4, x5, x6, x7, x8⟩ := rec_cells HDD3.out
              go_wp2_with (refine ld_st HG3.out rfl rfl rfl ?_)
              refine (rstep_any s op jt jf k d _ HSo.out hk4 HDo.out).mono ?_
              rintro e wM ⟨rfl, hbM⟩
              have HDDM := Lib.hid (kb hbM HDD3.out)
              have HDDM' := Lib.hid (ka (stB zeroSt) HDDM.out)
              have HNM := Lib.hid (heap_alloc_new wM (stB zeroSt))
              have HBM := Lib.hid (ba (stB zeroSt) (HB3.out.trans (hbM.mono HB3.out.size)))
              have hz3 := lt_of_block HDDM.out
              clear hbM x0 x1 x2 x3 x4 x5 x6 x7 x8 c0 c1 c2 c3
              obtain ⟨s', hs'⟩ : ∃ s', s' = stepS s ⟨op, jt, jf, k⟩ d := ⟨_, rfl⟩
              rw [← hs']
              have HS' := Lib.hid hs'
              clear hs'
              have hz := st_zero
              cases hgo : goesS s ⟨op, jt, jf, k⟩
              · have HE := Lib.hid (from_kill (f := l) (d := d) (s := s) (p := p) (n := n) (by rw [HXE.out]; exact N6.out) (by rw [HXE.out]; exact N22.out) (by rw [HXE.out]; exact hgo))
                clear hgo
                go_wp2_with (refine st_st HNM.out rfl rfl rfl rfl rfl ?_; intro W4 hp4; have HP4 := Lib.hid hp4; clear hp4)
                go_ret2
                exact ⟨retFrom HE.out rfl rfl, HP4.out.below HBM.out (by omega)⟩
              · have HE := Lib.hid (from_next (f := l) (d := d) (s := s) (p := p) (n := n) (by rw [HXE.out]; exact N6.out) (by rw [HXE.out]; exact N22.out) (by rw [HXE.out]; exact hgo))
                rw [HXE.out, ← HS'.out, ← HPE.out] at HE
                have HSo' := Lib.hid (stepS_ok (d := d) HSo.out HXo.out HDo.out)
                rw [← HS'.out] at HSo'
                have HLN := Lib.hid (fromS_len HSd.out HO.out d n s' P hp2 (by omega))
                clear hgo
                go_wp2_with (first | (refine st_st HNM.out rfl rfl rfl rfl rfl ?_; intro W4 hp4; have HP4 := Lib.hid hp4; clear hp4; obtain ⟨x0, x1, x2, x3, x4, x5, x6, x7, x8⟩ := rec_cells (HP4.out.keep (by omega) HDDM'.out)) | (refine ld_st HP4.out.row rfl rfl rfl ?_))
                rw [HQ.out]
                have HB4 := Lib.hid (HP4.out.below HBM.out (by omega))
                refine (HIH.out s' P W4 (HF.out.below HB4.out) HSo'.out hp2 (by omega)).mono ?_
                rintro e w9 ⟨rfl, hb9⟩
                have HB9 := Lib.hid (HB4.out.trans (hb9.mono HB4.out.size))
                clear hb9 x0 x1 x2 x3 x4 x5 x6 x7 x8
                obtain ⟨R, hR⟩ : ∃ R, R = fromS l d n s' P := ⟨_, rfl⟩
                rw [← hR] at HE HLN ⊢
                obtain ⟨r1, r2⟩ := R
                have hl := HLN.out.2
                simp only at hl
                have hl' : (r2 : Int) ≤ 4096 := by omega
                clear hR hl
                go_wp2_with fail
                go_ret2
                exact ⟨retFrom HE.out rfl (by omega), HB9.out⟩
        · have n5 : op = 5 := by simpa using h5
          have HSK : Hid (skipS s ⟨op, jt, jf, k⟩ = k) := Lib.hid (by simp [skipS, n5])
          have hB : isBranch op = false := by rw [n5]; decide
          have hk1 : (k : Int) ≤ 4294967295 := by omega
          have hpb : (p : Int) ≤ 4096 := by omega
          clear n5
          go_wp2_with fail
          refine (refBranch_any op jt jf k _).mono ?_
          rintro e w2 ⟨rfl, hb2⟩
          rw [hB]
          clear hB
          have HG2 := Lib.hid (kb hb2 HG1.out)
          have HX2 := Lib.hid (kb hb2 HX1.out)
          have HDD2 := Lib.hid (kb hb2 HDD1.out)
          have HB2 := Lib.hid (HB1.out.trans (hb2.mono HB1.out.size))
          clear hb2 c0 c1 c2 c3
          obtain ⟨c0, c1, c2, c3⟩ := insX HX2.out
          have HQ : Hid (((p : Int) + 1 + (k : Int)) = (P : Int)) := Lib.hid (by rw [k1, HSK.out]; omega)
          obtain ⟨x0, x1, x2, x3, x4, x5, x6, x7, x8⟩ := rec_cells HDD2.out
          go_wp2_with (refine ld_st HG2.out rfl rfl rfl ?_)
          refine (rstep_any s op jt jf k d _ HSo.out hk4 HDo.out).mono ?_
          rintro e wM ⟨rfl, hbM⟩
          have HDDM := Lib.hid (kb hbM HDD2.out)
          have HDDM' := Lib.hid (ka (stB zeroSt) HDDM.out)
          have HNM := Lib.hid (heap_alloc_new wM (stB zeroSt))
          have HBM := Lib.hid (ba (stB zeroSt) (HB2.out.trans (hbM.mono HB2.out.size)))
          have hz3 := lt_of_block HDDM.out
          clear hbM x0 x1 x2 x3 x4 x5 x6 x7 x8 c0 c1 c2 c3
          obtain ⟨s', hs'⟩ : ∃ s', s' = stepS s ⟨op, jt, jf, k⟩ d := ⟨_, rfl⟩
          rw [← hs']
          have HS' := Lib.hid hs'
          clear hs'
          have hz := st_zero
          cases hgo : goesS s ⟨op, jt, jf, k⟩
          · have HE := Lib.hid (from_kill (f := l) (d := d) (s := s) (p := p) (n := n) (by rw [HXE.out]; exact N6.out) (by rw [HXE.out]; exact N22.out) (by rw [HXE.out]; exact hgo))
            clear hgo
            go_wp2_with (refine st_st HNM.out rfl rfl rfl rfl rfl ?_; intro W4 hp4; have HP4 := Lib.hid hp4; clear hp4)
            go_ret2
            exact ⟨retFrom HE.out rfl rfl, HP4.out.below HBM.out (by omega)⟩
          · have HE := Lib.hid (from_next (f := l) (d := d) (s := s) (p := p) (n := n) (by rw [HXE.out]; exact N6.out) (by rw [HXE.out]; exact N22.out) (by rw [HXE.out]; exact hgo))
            rw [HXE.out, ← HS'.out, ← HPE.out] at HE
            have HSo' := Lib.hid (stepS_ok (d := d) HSo.out HXo.out HDo.out)
            rw [← HS'.out] at HSo'
            have HLN := Lib.hid (fromS_len HSd.out HO.out d n s' P hp2 (by omega))
            clear hgo
            go_wp2_with (first | (refine st_st HNM.out rfl rfl rfl rfl rfl ?_; intro W4 hp4; have HP4 := Lib.hid hp4; clear hp4; obtain ⟨x0, x1, x2, x3, x4, x5, x6, x7, x8⟩ := rec_cells (HP4.out.keep (by omega) HDDM'.out)) | (refine ld_st HP4.out.row rfl rfl rfl ?_))
            rw [HQ.out]
            have HB4 := Lib.hid (HP4.out.below HBM.out (by omega))
            refine (HIH.out s' P W4 (HF.out.below HB4.out) HSo'.out hp2 (by omega)).mono ?_
            rintro e w9 ⟨rfl, hb9⟩
            have HB9 := Lib.hid (HB4.out.trans (hb9.mono HB4.out.size))
            clear hb9 x0 x1 x2 x3 x4 x5 x6 x7 x8
            obtain ⟨R, hR⟩ : ∃ R, R = fromS l d n s' P := ⟨_, rfl⟩
            rw [← hR] at HE HLN ⊢
            obtain ⟨r1, r2⟩ := R
            have hl := HLN.out.2
            simp only at hl
            have hl' : (r2 : Int) ≤ 4096 := by omega
            clear hR hl
            go_wp2_with fail
            go_ret2
            exact ⟨retFrom HE.out rfl (by omega), HB9.out⟩
      · have o6 : op = 22 := by simpa using h22
        have HE := Lib.hid (from_reta (f := l) (d := d) (s := s) (p := p) (n := n) (by rw [HXE.out]; exact o6))
        have f0 := (cell_in HG1.out 0).trans (st_a s)
        clear o6
        go_wp2_with fail
        go_ret2
        exact ⟨retFrom HE.out rfl rfl, HB1.out⟩
    · have o6 : op = 6 := by simpa using h6
      have HE := Lib.hid (from_ret (f := l) (d := d) (s := s) (p := p) (n := n) (by rw [HXE.out]; exact o6))
      rw [HXE.out] at HE
      clear o6
      go_wp2_with fail
      go_ret2
      exact ⟨retFrom HE.out (by simp) rfl, HB1.out⟩
end Go.Proofs.YtmbgcfikpndamaaDoor
