/-
  What the laws' texts use, joined.
-/
import Derived.Test.YtbekkdhlfkongaaGreatDoorProg
import Derived.WalkKit
import Derived.ProofKit
import Derived.Lib.Hide
import Derived.Laws.Rows
import Derived.Laws.ResultCell
import Derived.Laws.Entries
import Derived.Handy
import Derived.OwnWalk
import Derived.Laws.OwnMore
import Derived.Deep.Draws
import Derived.Laws.IdiomStrings
import Derived.Lib.BufferRead
import Derived.Maps.OwnSet
import Derived.Laws.BitsAllLaws
import Derived.RowKit
import Derived.Lib.QuietBelow
import Derived.Lib.OthersKept
import Derived.BigQuiet
import Derived.IntWalk
import Derived.Deep.RegionHeld3
import Derived.BigRegion
import Derived.Laws.Tables
import Derived.Deep.DeepCutAuto
import Derived.Deep.QuietTactic
import Derived.Test.YtbekkdhlfkongaaGreatDoorRows
import Derived.OpenShut
import Derived.Carry
import Derived.Deep.DeepHandedRow
import Derived.Lib.SmallJoins
import Derived.WalkMore
import Derived.Shelf.Strings.Builder1
import Derived.Shelf.Strings.Search1
import Derived.Lib.IndexLaws
import Derived.Deep.Cut
import Derived.Deep.Slices
import Derived.Test.YtbekkdhlfkongaaGreatDoorCards
import Derived.Test.YtbekkdhlfkongaaGreatDoorTie
import Derived.Lib.LaidTab
import Derived.Stop.LaidErr
import Derived.DeepKeys
import Derived.Laws.StructEq
import Derived.Lib.Split
import Derived.Deep.OwnRows
import Derived.Laws.Strings3
import Derived.Lib.Join
import Derived.Lib.MakeNoZero
import Derived.Lib.Builder
import Derived.Laws.IdiomCopy
import Derived.Test.YtbekkdhlfkongaaGreatDoorPk1
import Derived.Test.YtbekkdhlfkongaaGreatDoorPk2
import Derived.Test.YtbekkdhlfkongaaGreatDoorPk3
import Derived.Test.YtbekkdhlfkongaaGreatDoorPk4
import Derived.Test.YtbekkdhlfkongaaGreatDoorPk5
import Derived.Test.YtbekkdhlfkongaaGreatDoorPk6
import Derived.Test.YtbekkdhlfkongaaGreatDoorPk7
import Derived.Test.YtbekkdhlfkongaaGreatDoorPk10
import Derived.Test.YtbekkdhlfkongaaGreatDoorPk11
/-
  The document's own answers for runs (package hurdleref06): From, Run.
-/
namespace Go.Proofs.YtbekkdhlfkongaaGreatDoor
open Go.ChangeShapes Go.WideShapes Go.ChangeAt Go.RowKit
set_option maxRecDepth 20000

section
variable {f : List X4} {d : Rec} {s : St} {p n : Nat}
theorem from_ret (h6 : (f.getD p zeroX).op = 6) : fromS f d (n + 1) s p = ((f.getD p zeroX).k.toNat, 1) := by rw [fromS_succ, if_pos h6]
theorem from_reta (h6 : (f.getD p zeroX).op = 22) : fromS f d (n + 1) s p = (s.a, 1) := by rw [fromS_succ, if_neg (by omega), if_pos h6]
theorem from_kill (h6 : ¬ (f.getD p zeroX).op = 6) (h22 : ¬ (f.getD p zeroX).op = 22) (hg : goesS s (f.getD p zeroX) = false) : fromS f d (n + 1) s p = (0, 1) := by rw [fromS_succ, if_neg h6, if_neg h22, if_pos hg]
theorem from_next (h6 : ¬ (f.getD p zeroX).op = 6) (h22 : ¬ (f.getD p zeroX).op = 22) (hg : goesS s (f.getD p zeroX) = true) : fromS f d (n + 1) s p = ((fromS f d n (stepS s (f.getD p zeroX) d) (placeS s (f.getD p zeroX) p)).1, (fromS f d n (stepS s (f.getD p zeroX) d) (placeS s (f.getD p zeroX) p)).2 + 1) := by
  rw [fromS_succ, if_neg h6, if_neg h22, if_neg (by rw [hg]; decide)]
end
theorem retFrom {q : Nat × Nat} {a b : Nat} {x y : Int} (h : q = (a, b)) (hx : x = a) (hy : y = b) : Ending.returned (.tuple #[.int .u32 x, .int .i64 y]) = .returned (.tuple #[.int .u32 (q.1 : Nat), .int .i64 (q.2 : Nat)]) := by rw [h, hx, hy]

set_option maxHeartbeats 4000000 in
theorem rfrom6_any (v : Value) (l : List X4) (d : Rec) (hd : d.ok) (hok : ∀ x ∈ l, x.ok) (hS : SoundL l) : ∀ (n : Nat) (s : St) (p : Nat) (w : World), FAt w v l → s.ok → p < l.length → l.length - p ≤ n →
    Calls Tryz.prog 25 #[v, s.val, .int .i64 p, d.val] w fun e w' => e = .returned (.tuple #[.int .u32 ((fromS l d n s p).1 : Nat), .int .i64 ((fromS l d n s p).2 : Nat)]) ∧ Below w.heap.size w w' := by
  intro n
  induction n with
  | zero => intro s p w _ _ h1 h2; omega
  | succ n ih =>
    intro s p w hF hso hp hn
    have hlen : l.length ≤ 4096 := hS.2.1
    have HIH := Lib.hid ih
    have HF := Lib.hid hF
    have HSo := Lib.hid hso
    have HDo := Lib.hid hd
    have HSd := Lib.hid hS
    have HO := Lib.hid hok
    obtain ⟨ao, cap, rfl, hF'⟩ := hF
    rcases hF' with h0 | ⟨b, off, rfl, hb, hc⟩
    · rw [h0] at hp; simp at hp
    obtain ⟨W, hW, hg, hdd, hbw⟩ := box2 w (stB s) (.cells d.cells 29)
    obtain ⟨q0, q1, q2, q3⟩ := hc p hp
    have d0 := (hbw.cell (p := ⟨b, _, none⟩) hb).trans q0
    have d1 := (hbw.cell (p := ⟨b, _, none⟩) hb).trans q1
    have d2 := (hbw.cell (p := ⟨b, _, none⟩) hb).trans q2
    have d3 := (hbw.cell (p := ⟨b, _, none⟩) hb).trans q3
    have HXo := Lib.hid (hok _ (List.getElem_mem hp))
    have HXE := Lib.hid (getD_at hp)
    have HXJ := Lib.hid (right_jumps (one_right (by have h := hS.2.2.1 p hp; rw [badAt_at hp] at h; exact h)))
    generalize l[p] = x at d0 d1 d2 d3 HXo HXE HXJ
    obtain ⟨op, jt, jf, kk⟩ := x
    obtain ⟨k, hk, hk4⟩ := nat_k HXo.out
    simp only at hk
    subst hk
    have HX0 := Lib.hid (heap_alloc_new W (insB op jt jf k))
    have HG1 := Lib.hid (ka (insB op jt jf k) hg)
    have HDD1 := Lib.hid (ka (insB op jt jf k) hdd)
    have HB1 := Lib.hid (ba (insB op jt jf k) hbw)
    have hz1 := lt_of_block hdd
    clear hg hdd hbw hso hd hS hok q0 q1 q2 q3 hc ih
    go_enter Tryz.func25, Tryz.ntmps25
    go_upto_region 1 with fail
    rw [← hW]
    clear hW
    cases h6 : (op == 6)
    · have n6 : ¬ op = 6 := by simpa using h6
      have N6 := Lib.hid n6
      clear n6
      cases h22 : (op == 22)
      · have n22 : ¬ op = 22 := by simpa using h22
        have N22 := Lib.hid n22
        clear n22
        have HPL := Lib.hid (placeS_in HSd.out HO.out hp s (ends_op.2 ⟨by rw [HXE.out]; exact N6.out, by rw [HXE.out]; exact N22.out⟩))
        rw [HXE.out] at HPL
        obtain ⟨P, hP⟩ : ∃ P, P = placeS s ⟨op, jt, jf, k⟩ p := ⟨_, rfl⟩
        obtain ⟨k1, k2⟩ := skip_place s ⟨op, jt, jf, k⟩ p HXo.out HXJ.out.1 HXJ.out.2.1
        rw [← hP] at HPL k1
        obtain ⟨hp1, hp2⟩ := HPL.out
        obtain ⟨j1, j2, j3, j4⟩ := HXJ.out
        have HPE := Lib.hid hP
        clear hP HPL
        have HX1 := HX0
        obtain ⟨c0, c1, c2, c3⟩ := insX HX1.out
        cases h5 : (op == 5)
        · have n5 : ¬ op = 5 := by simpa using h5
          have hSK : skipS s ⟨op, jt, jf, k⟩ = if isBranch op then (if takesS s ⟨op, jt, jf, k⟩ then jt else jf) else 0 := by simp [skipS, n5]
          clear n5
          go_wp2_with fail
          refine (refBranch_any op jt jf k _).mono ?_
          rintro e w2 ⟨rfl, hb2⟩
          have HG2 := Lib.hid (kb hb2 HG1.out)
          have HX2 := Lib.hid (kb hb2 HX1.out)
          have HDD2 := Lib.hid (kb hb2 HDD1.out)
          have HB2 := Lib.hid (HB1.out.trans (hb2.mono HB1.out.size))
          clear hb2 c0 c1 c2 c3
          obtain ⟨c0, c1, c2, c3⟩ := insX HX2.out
          cases hB : isBranch op
          · have HSK : Hid (skipS s ⟨op, jt, jf, k⟩ = 0) := Lib.hid (by rw [hSK, hB]; rfl)
            clear hB hSK
            have HQ : Hid (((p : Int) + 1) = (P : Int)) := Lib.hid (by rw [k1, HSK.out]; omega)
            obtain ⟨x0, x1, x2, x3, x4, x5, x6, x7, x8⟩ := rec_cells HDD2.out
            go_wp2_with (refine ld_st HG2.out rfl rfl rfl ?_)
            refine (rstep_any s op jt jf k d _ HSo.out hk4 HDo.out).mono ?_
            rintro e wM ⟨rfl, hbM⟩
            have HDDM := Lib.hid (kb hbM HDD2.out)
            have HDDM' := Lib.hid (ka (stB zeroSt) HDDM.out)
            have HNM := Lib.hid (heap_alloc_new wM (stB zeroSt))
            have HBM := Lib.hid (ba (stB zeroSt) (HB2.out.trans (hbM.mono HB2.out.size)))
            have hz3 := lt_of_block HDDM.out
            clear hbM x0 x1 x2 x3 x4 x5 x6 x7 x8 c0 c1 c2 c3
            obtain ⟨s', hs'⟩ : ∃ s', s' = stepS s ⟨op, jt, jf, k⟩ d := ⟨_, rfl⟩
            rw [← hs']
            have HS' := Lib.hid hs'
            clear hs'
            have hz := st_zero
            cases hgo : goesS s ⟨op, jt, jf, k⟩
            · have HE := Lib.hid (from_kill (f := l) (d := d) (s := s) (p := p) (n := n) (by rw [HXE.out]; exact N6.out) (by rw [HXE.out]; exact N22.out) (by rw [HXE.out]; exact hgo))
              clear hgo
              go_wp2_with (refine st_st HNM.out rfl rfl rfl rfl rfl ?_; intro W4 hp4; have HP4 := Lib.hid hp4; clear hp4)
              go_ret2
              exact ⟨retFrom HE.out rfl rfl, HP4.out.below HBM.out (by omega)⟩
            · have HE := Lib.hid (from_next (f := l) (d := d) (s := s) (p := p) (n := n) (by rw [HXE.out]; exact N6.out) (by rw [HXE.out]; exact N22.out) (by rw [HXE.out]; exact hgo))
              rw [HXE.out, ← HS'.out, ← HPE.out] at HE
              have HSo' := Lib.hid (stepS_ok (d := d) HSo.out HXo.out HDo.out)
              rw [← HS'.out] at HSo'
              have HLN := Lib.hid (fromS_len HSd.out HO.out d n s' P hp2 (by omega))
              clear hgo
              go_wp2_with (first | (refine st_st HNM.out rfl rfl rfl rfl rfl ?_; intro W4 hp4; have HP4 := Lib.hid hp4; clear hp4; obtain ⟨x0, x1, x2, x3, x4, x5, x6, x7, x8⟩ := rec_cells (HP4.out.keep (by omega) HDDM'.out)) | (refine ld_st HP4.out.row rfl rfl rfl ?_))
              rw [HQ.out]
              have HB4 := Lib.hid (HP4.out.below HBM.out (by omega))
              refine (HIH.out s' P W4 (HF.out.below HB4.out) HSo'.out hp2 (by omega)).mono ?_
              rintro e w9 ⟨rfl, hb9⟩
              have HB9 := Lib.hid (HB4.out.trans (hb9.mono HB4.out.size))
              clear hb9 x0 x1 x2 x3 x4 x5 x6 x7 x8
              obtain ⟨R, hR⟩ : ∃ R, R = fromS l d n s' P := ⟨_, rfl⟩
              rw [← hR] at HE HLN ⊢
              obtain ⟨r1, r2⟩ := R
              have hl := HLN.out.2
              simp only at hl
              have hl' : (r2 : Int) ≤ 4096 := by omega
              clear hR hl
              go_wp2_with fail
              go_ret2
              exact ⟨retFrom HE.out rfl (by omega), HB9.out⟩
          · go_wp2_with (refine ld_st HG2.out rfl rfl rfl ?_)
            refine (rtakes_any s op jt jf k _ HSo.out hk4).mono ?_
            rintro e w3 ⟨rfl, hb3⟩
            have HG3 := Lib.hid (kb hb3 HG2.out)
            have HX3 := Lib.hid (kb hb3 HX2.out)
            have HDD3 := Lib.hid (kb hb3 HDD2.out)
            have HB3 := Lib.hid (HB2.out.trans (hb3.mono HB2.out.size))
            clear hb3 c0 c1 c2 c3
            obtain ⟨c0, c1, c2, c3⟩ := insX HX3.out
            cases hT : takesS s ⟨op, jt, jf, k⟩
            · have HSK : Hid (skipS s ⟨op, jt, jf, k⟩ = jf) := Lib.hid (by rw [hSK, hB, hT]; rfl)
              clear hB hSK hT
              have HQ : Hid (((p : Int) + 1 + jf) = (P : Int)) := Lib.hid (by rw [k1, HSK.out]; omega)
              obtain ⟨x0, x1, x2, x3, x4, x5, x6, x7, x8⟩ := rec_cells HDD3.out
              go_wp2_with (refine ld_st HG3.out rfl rfl rfl ?_)
              refine (rstep_any s op jt jf k d _ HSo.out hk4 HDo.out).mono ?_
              rintro e wM ⟨rfl, hbM⟩
              have HDDM := Lib.hid (kb hbM HDD3.out)
              have HDDM' := Lib.hid (ka (stB zeroSt) HDDM.out)
              have HNM := Lib.hid (heap_alloc_new wM (stB zeroSt))
              have HBM := Lib.hid (ba (stB zeroSt) (HB3.out.trans (hbM.mono HB3.out.size)))
              have hz3 := lt_of_block HDDM.out
              clear hbM x0 x1 x2 x3 x4 x5 x6 x7 x8 c0 c1 c2 c3
              obtain ⟨s', hs'⟩ : ∃ s', s' = stepS s ⟨op, jt, jf, k⟩ d := ⟨_, rfl⟩
              rw [← hs']
              have HS' := Lib.hid hs'
              clear hs'
              have hz := st_zero
              cases hgo : goesS s ⟨op, jt, jf, k⟩
              · have HE := Lib.hid (from_kill (f := l) (d := d) (s := s) (p := p) (n := n) (by rw [HXE.out]; exact N6.out) (by rw [HXE.out]; exact N22.out) (by rw [HXE.out]; exact hgo))
                clear hgo
                go_wp2_with (refine st_st HNM.out rfl rfl rfl rfl rfl ?_; intro W4 hp4; have HP4 := Lib.hid hp4; clear hp4)
                go_ret2
                exact ⟨retFrom HE.out rfl rfl, HP4.out.below HBM.out (by omega)⟩
              · have HE := Lib.hid (from_next (f := l) (d := d) (s := s) (p := p) (n := n) (by rw [HXE.out]; exact N6.out) (by rw [HXE.out]; exact N22.out) (by rw [HXE.out]; exact hgo))
                rw [HXE.out, ← HS'.out, ← HPE.out] at HE
                have HSo' := Lib.hid (stepS_ok (d := d) HSo.out HXo.out HDo.out)
                rw [← HS'.out] at HSo'
                have HLN := Lib.hid (fromS_len HSd.out HO.out d n s' P hp2 (by omega))
                clear hgo
                go_wp2_with (first | (refine st_st HNM.out rfl rfl rfl rfl rfl ?_; intro W4 hp4; have HP4 := Lib.hid hp4; clear hp4; obtain ⟨x0, x1, x2, x3, x4, x5, x6, x7, x8⟩ := rec_cells (HP4.out.keep (by omega) HDDM'.out)) | (refine ld_st HP4.out.row rfl rfl rfl ?_))
                rw [HQ.out]
                have HB4 := Lib.hid (HP4.out.below HBM.out (by omega))
                refine (HIH.out s' P W4 (HF.out.below HB4.out) HSo'.out hp2 (by omega)).mono ?_
                rintro e w9 ⟨rfl, hb9⟩
                have HB9 := Lib.hid (HB4.out.trans (hb9.mono HB4.out.size))
                clear hb9 x0 x1 x2 x3 x4 x5 x6 x7 x8
                obtain ⟨R, hR⟩ : ∃ R, R = fromS l d n s' P := ⟨_, rfl⟩
                rw [← hR] at HE HLN ⊢
                obtain ⟨r1, r2⟩ := R
                have hl := HLN.out.2
                simp only at hl
                have hl' : (r2 : Int) ≤ 4096 := by omega
                clear hR hl
                go_wp2_with fail
                go_ret2
                exact ⟨retFrom HE.out rfl (by omega), HB9.out⟩
            · have HSK : Hid (skipS s ⟨op, jt, jf, k⟩ = jt) := Lib.hid (by rw [hSK, hB, hT]; rfl)
              clear hB hSK hT
              have HQ : Hid (((p : Int) + 1 + jt) = (P : Int)) := Lib.hid (by rw [k1, HSK.out]; omega)
              obtain ⟨x0, x1, x2, x3, x4, x5, x6, x7, x8⟩ := rec_cells HDD3.out
              go_wp2_with (refine ld_st HG3.out rfl rfl rfl ?_)
              refine (rstep_any s op jt jf k d _ HSo.out hk4 HDo.out).mono ?_
              rintro e wM ⟨rfl, hbM⟩
              have HDDM := Lib.hid (kb hbM HDD3.out)
              have HDDM' := Lib.hid (ka (stB zeroSt) HDDM.out)
              have HNM := Lib.hid (heap_alloc_new wM (stB zeroSt))
              have HBM := Lib.hid (ba (stB zeroSt) (HB3.out.trans (hbM.mono HB3.out.size)))
              have hz3 := lt_of_block HDDM.out
              clear hbM x0 x1 x2 x3 x4 x5 x6 x7 x8 c0 c1 c2 c3
              obtain ⟨s', hs'⟩ : ∃ s', s' = stepS s ⟨op, jt, jf, k⟩ d := ⟨_, rfl⟩
              rw [← hs']
              have HS' := Lib.hid hs'
              clear hs'
              have hz := st_zero
              cases hgo : goesS s ⟨op, jt, jf, k⟩
              · have HE := Lib.hid (from_kill (f := l) (d := d) (s := s) (p := p) (n := n) (by rw [HXE.out]; exact N6.out) (by rw [HXE.out]; exact N22.out) (by rw [HXE.out]; exact hgo))
                clear hgo
                go_wp2_with (refine st_st HNM.out rfl rfl rfl rfl rfl ?_; intro W4 hp4; have HP4 := Lib.hid hp4; clear hp4)
                go_ret2
                exact ⟨retFrom HE.out rfl rfl, HP4.out.below HBM.out (by omega)⟩
              · have HE := Lib.hid (from_next (f := l) (d := d) (s := s) (p := p) (n := n) (by rw [HXE.out]; exact N6.out) (by rw [HXE.out]; exact N22.out) (by rw [HXE.out]; exact hgo))
                rw [HXE.out, ← HS'.out, ← HPE.out] at HE
                have HSo' := Lib.hid (stepS_ok (d := d) HSo.out HXo.out HDo.out)
                rw [← HS'.out] at HSo'
                have HLN := Lib.hid (fromS_len HSd.out HO.out d n s' P hp2 (by omega))
                clear hgo
                go_wp2_with (first | (refine st_st HNM.out rfl rfl rfl rfl rfl ?_; intro W4 hp4; have HP4 := Lib.hid hp4; clear hp4; obtain ⟨x0, x1, x2, x3, x4, x5, x6, x7, x8⟩ := rec_cells (HP4.out.keep (by omega) HDDM'.out)) | (refine ld_st HP4.out.row rfl rfl rfl ?_))
                rw [HQ.out]
                have HB4 := Lib.hid (HP4.out.below HBM.out (by omega))
                refine (HIH.out s' P W4 (HF.out.below HB4.out) HSo'.out hp2 (by omega)).mono ?_
                rintro e w9 ⟨rfl, hb9⟩
                have HB9 := Lib.hid (HB4.out.trans (hb9.mono HB4.out.size))
                clear hb9 x0 x1 x2 x3 x4 x5 x6 x7 x8
                obtain ⟨R, hR⟩ : ∃ R, R = fromS l d n s' P := ⟨_, rfl⟩
                rw [← hR] at HE HLN ⊢
                obtain ⟨r1, r2⟩ := R
                have hl := HLN.out.2
                simp only at hl
                have hl' : (r2 : Int) ≤ 4096 := by omega
                clear hR hl
                go_wp2_with fail
                go_ret2
                exact ⟨retFrom HE.out rfl (by omega), HB9.out⟩
        · have n5 : op = 5 := by simpa using h5
          have HSK : Hid (skipS s ⟨op, jt, jf, k⟩ = k) := Lib.hid (by simp [skipS, n5])
          have hB : isBranch op = false := by rw [n5]; decide
          have hk1 : (k : Int) ≤ 4294967295 := by omega
          have hpb : (p : Int) ≤ 4096 := by omega
          clear n5
          go_wp2_with fail
          refine (refBranch_any op jt jf k _).mono ?_
          rintro e w2 ⟨rfl, hb2⟩
          rw [hB]
          clear hB
          have HG2 := Lib.hid (kb hb2 HG1.out)
          have HX2 := Lib.hid (kb hb2 HX1.out)
          have HDD2 := Lib.hid (kb hb2 HDD1.out)
          have HB2 := Lib.hid (HB1.out.trans (hb2.mono HB1.out.size))
          clear hb2 c0 c1 c2 c3
          obtain ⟨c0, c1, c2, c3⟩ := insX HX2.out
          have HQ : Hid (((p : Int) + 1 + (k : Int)) = (P : Int)) := Lib.hid (by rw [k1, HSK.out]; omega)
          obtain ⟨x0, x1, x2, x3, x4, x5, x6, x7, x8⟩ := rec_cells HDD2.out
          go_wp2_with (refine ld_st HG2.out rfl rfl rfl ?_)
          refine (rstep_any s op jt jf k d _ HSo.out hk4 HDo.out).mono ?_
          rintro e wM ⟨rfl, hbM⟩
          have HDDM := Lib.hid (kb hbM HDD2.out)
          have HDDM' := Lib.hid (ka (stB zeroSt) HDDM.out)
          have HNM := Lib.hid (heap_alloc_new wM (stB zeroSt))
          have HBM := Lib.hid (ba (stB zeroSt) (HB2.out.trans (hbM.mono HB2.out.size)))
          have hz3 := lt_of_block HDDM.out
          clear hbM x0 x1 x2 x3 x4 x5 x6 x7 x8 c0 c1 c2 c3
          obtain ⟨s', hs'⟩ : ∃ s', s' = stepS s ⟨op, jt, jf, k⟩ d := ⟨_, rfl⟩
          rw [← hs']
          have HS' := Lib.hid hs'
          clear hs'
          have hz := st_zero
          cases hgo : goesS s ⟨op, jt, jf, k⟩
          · have HE := Lib.hid (from_kill (f := l) (d := d) (s := s) (p := p) (n := n) (by rw [HXE.out]; exact N6.out) (by rw [HXE.out]; exact N22.out) (by rw [HXE.out]; exact hgo))
            clear hgo
            go_wp2_with (refine st_st HNM.out rfl rfl rfl rfl rfl ?_; intro W4 hp4; have HP4 := Lib.hid hp4; clear hp4)
            go_ret2
            exact ⟨retFrom HE.out rfl rfl, HP4.out.below HBM.out (by omega)⟩
          · have HE := Lib.hid (from_next (f := l) (d := d) (s := s) (p := p) (n := n) (by rw [HXE.out]; exact N6.out) (by rw [HXE.out]; exact N22.out) (by rw [HXE.out]; exact hgo))
            rw [HXE.out, ← HS'.out, ← HPE.out] at HE
            have HSo' := Lib.hid (stepS_ok (d := d) HSo.out HXo.out HDo.out)
            rw [← HS'.out] at HSo'
            have HLN := Lib.hid (fromS_len HSd.out HO.out d n s' P hp2 (by omega))
            clear hgo
            go_wp2_with (first | (refine st_st HNM.out rfl rfl rfl rfl rfl ?_; intro W4 hp4; have HP4 := Lib.hid hp4; clear hp4; obtain ⟨x0, x1, x2, x3, x4, x5, x6, x7, x8⟩ := rec_cells (HP4.out.keep (by omega) HDDM'.out)) | (refine ld_st HP4.out.row rfl rfl rfl ?_))
            rw [HQ.out]
            have HB4 := Lib.hid (HP4.out.below HBM.out (by omega))
            refine (HIH.out s' P W4 (HF.out.below HB4.out) HSo'.out hp2 (by omega)).mono ?_
            rintro e w9 ⟨rfl, hb9⟩
            have HB9 := Lib.hid (HB4.out.trans (hb9.mono HB4.out.size))
            clear hb9 x0 x1 x2 x3 x4 x5 x6 x7 x8
            obtain ⟨R, hR⟩ : ∃ R, R = fromS l d n s' P := ⟨_, rfl⟩
            rw [← hR] at HE HLN ⊢
            obtain ⟨r1, r2⟩ := R
            have hl := HLN.out.2
            simp only at hl
            have hl' : (r2 : Int) ≤ 4096 := by omega
            clear hR hl
            go_wp2_with fail
            go_ret2
            exact ⟨retFrom HE.out rfl (by omega), HB9.out⟩
      · have o6 : op = 22 := by simpa using h22
        have HE := Lib.hid (from_reta (f := l) (d := d) (s := s) (p := p) (n := n) (by rw [HXE.out]; exact o6))
        have f0 := (cell_in HG1.out 0).trans (st_a s)
        clear o6
        go_wp2_with fail
        go_ret2
        exact ⟨retFrom HE.out rfl rfl, HB1.out⟩
    · have o6 : op = 6 := by simpa using h6
      have HE := Lib.hid (from_ret (f := l) (d := d) (s := s) (p := p) (n := n) (by rw [HXE.out]; exact o6))
      rw [HXE.out] at HE
      clear o6
      go_wp2_with fail
      go_ret2
      exact ⟨retFrom HE.out (by simp) rfl, HB1.out⟩
theorem rrun6_any (v : Value) (l : List X4) (d : Rec) (w : World) (hF : FAt w v l) (hok : ∀ x ∈ l, x.ok) (hd : d.ok) (hs : soundB l = true) :
    Calls Tryz.prog 16 #[v, d.val] w fun e w' => e = .returned (.tuple #[.int .u32 ((runS l d).1 : Nat), .int .i64 ((runS l d).2 : Nat)]) ∧ Below w.heap.size w w' := by
  have HS := soundB_iff.1 hs
  have HSd := Lib.hid HS
  have HF := Lib.hid hF
  have HO := Lib.hid hok
  have HDo := Lib.hid hd
  have HP := Lib.hid HS.1
  obtain ⟨ao, cap, rfl, _⟩ := hF
  have HB0 := Lib.hid (ba (.cells d.cells 29) (Below.refl w.heap.size w))
  have hz := st_zero
  clear hok hd hs HS
  go_enter Tryz.func16, Tryz.ntmps16
  go_wp2_with fail
  refine (rfrom6_any _ l d HDo.out HO.out HSd.out l.length zeroSt 0 _ (HF.out.below HB0.out) zeroSt_ok HP.out (by omega)).mono ?_
  rintro e w1 ⟨rfl, hb1⟩
  have HB1 := Lib.hid (below2 HB0.out (hb1.mono (Nat.le_refl _)))
  have HE : Hid (fromS l d l.length zeroSt 0 = runS l d) := Lib.hid rfl
  rw [HE.out]
  clear hb1
  obtain ⟨R, hR⟩ : ∃ R, R = runS l d := ⟨_, rfl⟩
  rw [← hR]
  have HR := Lib.hid hR
  clear hR hz
  go_wp2_with fail
  go_ret2
  exact ⟨by rw [HR.out]; rfl, HB1.out⟩
end Go.Proofs.YtbekkdhlfkongaaGreatDoor
/-
  How many instructions a policy's filter has at most (package hurdleref13).
-/
namespace Go.Proofs.YtbekkdhlfkongaaGreatDoor
open Go.ChangeShapes Go.WideShapes Go.ChangeAt Go.RowKit
set_option maxRecDepth 20000

theorem mostAt_is {rs : List Rl} {i : Nat} (h : i < rs.length) : mostAt rs i = 3 + 16 * rs[i].conds.length + (if (rs.take i).any (fun y => y.arch == rs[i].arch) then 0 else 4) + (if (rs.take i).any (fun y => y.arch == rs[i].arch && y.nr == rs[i].nr) then 0 else 8) := by
  unfold mostAt
  rw [List.getElem?_eq_getElem h]
theorem mostTo_le {rs : List Rl} (h20 : ∀ x ∈ rs, x.conds.length ≤ 20) : ∀ n, n ≤ rs.length → mostTo rs n ≤ 335 * n
  | 0, _ => Nat.zero_le _
  | n + 1, h => by
    have ih := mostTo_le h20 n (by omega)
    have := h20 _ (List.getElem_mem (show n < rs.length by omega))
    unfold mostTo
    rw [mostAt_is (show n < rs.length by omega)]
    split <;> split <;> omega
theorem any_take_succ {α : Type} {l : List α} {n : Nat} (h : n < l.length) (P : α → Bool) : (l.take (n + 1)).any P = ((l.take n).any P || P l[n]) := by
  rw [List.take_succ_eq_append_getElem h, List.any_append]
  simp
/-- The number so far, behind one rule more. -/
theorem most_next {rs : List Rl} {k : Nat} {x : Rl} (h : k < rs.length) (hx : x = rs[k]) {a b : Bool} (ha : a = !((rs.take k).any (fun y => y.arch == x.arch))) (hb : b = !((rs.take k).any (fun y => y.arch == x.arch && y.nr == x.nr))) :
    8 + mostTo rs (k + 1) = 8 + mostTo rs k + (3 + 16 * x.conds.length) + (if a then 4 else 0) + (if b then 8 else 0) := by
  have e : mostTo rs (k + 1) = mostTo rs k + mostAt rs k := rfl
  rw [e, mostAt_is h, ← hx]
  cases h1 : (rs.take k).any (fun y => y.arch == x.arch) <;> cases h2 : (rs.take k).any (fun y => y.arch == x.arch && y.nr == x.nr) <;> rw [h1] at ha <;> rw [h2] at hb <;> subst ha <;> subst hb <;> simp <;> omega

set_option maxHeartbeats 8000000 in
theorem rmost_any (rv : Value) (p : Po) (w : World) (hL : LAt w rv p.rules) (h100 : p.rules.length ≤ 100) (h20 : ∀ x ∈ p.rules, x.conds.length ≤ 20) :
    Calls Tryz.prog 20 #[poV rv p.dflt] w fun e w' => e = .returned (.int .i64 (mostN p.rules : Nat)) ∧ Below w.heap.size w w' := by
  obtain ⟨rs, dd⟩ := p
  simp only at hL h100 h20 ⊢
  obtain ⟨ao, cap, rfl, hrows⟩ := hL.rows
  have HROW := Lib.hid hrows
  have H20 := Lib.hid h20
  obtain ⟨n, hn⟩ : ∃ n, n = rs.length := ⟨_, rfl⟩
  obtain ⟨W, hW, hX, hB⟩ : ∃ W, W = w.alloc (poB (.slice ao n cap) dd) ∧ W.heap[w.heap.size]? = some (poB (.slice ao n cap) dd) ∧ Below w.heap.size w W := ⟨_, rfl, heap_alloc_new _ _, ba _ (Below.refl _ _)⟩
  have HX := Lib.hid hX
  have HB := Lib.hid hB
  rw [← hn]
  have HN := Lib.hid hn
  rw [← hn] at h100
  clear hrows hL h20 hX hB hn
  have hg : w.heap.size < W.heap.size := lt_of_block HX.out
  go_enter Tryz.func20, Tryz.ntmps20
  go_upto_region 1 with fail
  change Code.wp _ _ _ _ (w.alloc (poB (.slice ao n cap) dd))
  rw [← hW]
  clear hW
  obtain ⟨c0, c1⟩ := pbox HX.out
  by_cases hz : n = 0
  · have HE : Hid (mostN rs = 1) := Lib.hid (by unfold mostN; rw [if_pos (by rw [← HN.out]; exact hz)])
    have hz2 : ((n : Int) == 0) = true := by simpa using hz
    clear hz
    go_wp2_with fail
    go_ret
    exact ⟨by rw [HE.out]; rfl, HB.out⟩
  have HE : Hid (mostN rs = 8 + mostTo rs n) := Lib.hid (by unfold mostN; rw [if_neg (by rw [← HN.out]; exact hz), HN.out])
  have hz2 : ((n : Int) == 0) = false := by simpa using hz
  clear hz
  go_wp2_with fail
  go_loopw [3, 4] (fun z i wr => ∃ k : Nat, k ≤ n ∧ i = .int .i64 k ∧ z = .int .i64 ((8 + mostTo rs k : Nat) : Int) ∧ Below W.heap.size W wr) (fun _ i _ => n - (Lib.intOf i).toNat)
  case atStart => exact ⟨0, Nat.zero_le _, rfl, rfl, Below.refl _ _⟩
  case round =>
    obtain ⟨k, hk, rfl, rfl, hb⟩ := hrel
    have HBr := Lib.hid hb
    clear hb c0 c1
    obtain ⟨c0, c1⟩ := pbox (kb HBr.out HX.out)
    have hmt : mostTo rs k ≤ 335 * k := mostTo_le H20.out k (by rw [← HN.out]; exact hk)
    obtain ⟨M, hM⟩ : ∃ M, M = 8 + mostTo rs k := ⟨_, rfl⟩
    have hM2 : M ≤ 34000 := by omega
    have HM := Lib.hid hM
    rw [← hM]
    clear hmt hM
    by_cases hlt : k < n
    · have hlt2 : k < rs.length := by rw [← HN.out]; exact hlt
      obtain ⟨b, off, cv, rfl, hbw, hcv, d0, d1, d2, d3⟩ := HROW.out k hlt2
      obtain ⟨x, hx⟩ : ∃ x, x = rs[k] := ⟨_, rfl⟩
      rw [← hx] at hcv d0 d1 d3
      have hxl : x.conds.length ≤ 20 := by rw [hx]; exact H20.out _ (List.getElem_mem hlt2)
      obtain ⟨co, ccap, rfl⟩ := hcv.shape
      have HXE := Lib.hid hx
      have hbW : b < W.heap.size := Nat.lt_of_lt_of_le hbw HB.out.size
      have e0 := (HBr.out.cell (p := ⟨b, _, none⟩) hbW).trans ((HB.out.cell (p := ⟨b, _, none⟩) hbw).trans d0)
      have e1 := (HBr.out.cell (p := ⟨b, _, none⟩) hbW).trans ((HB.out.cell (p := ⟨b, _, none⟩) hbw).trans d1)
      have e2 := (HBr.out.cell (p := ⟨b, _, none⟩) hbW).trans ((HB.out.cell (p := ⟨b, _, none⟩) hbw).trans d2)
      have e3 := (HBr.out.cell (p := ⟨b, _, none⟩) hbW).trans ((HB.out.cell (p := ⟨b, _, none⟩) hbw).trans d3)
      have l0 : (k : Int) < (n : Int) := by omega
      have l1 : (0 : Int) ≤ (k : Int) := by omega
      have l2 : (k : Int).toNat = k := by omega
      clear hx d0 d1 d2 d3 hcv
      go_upto_region 8 with fail
      change Code.wp _ _ _ _ (wr.alloc (rlB x (.slice co x.conds.length ccap)))
      obtain ⟨V, hV, X0, hbv⟩ : ∃ V, V = wr.alloc (rlB x (.slice co x.conds.length ccap)) ∧ V.heap[wr.heap.size]? = some (rlB x (.slice co x.conds.length ccap)) ∧ Below wr.heap.size wr V := ⟨_, rfl, heap_alloc_new _ _, ba _ (Below.refl _ _)⟩
      rw [← hV]
      have HV := Lib.hid X0
      have HBv := Lib.hid (HBr.out.trans (hbv.mono HBr.out.size))
      clear hV X0 hbv e0 e1 e2 e3 c0 c1
      generalize wr.heap.size = gx at HV ⊢
      obtain ⟨x0, x1, x2, x3⟩ := rbox HV.out
      have HNX := Lib.hid (fun (a b : Bool) => most_next (a := a) (b := b) hlt2 HXE.out)
      rw [← HM.out] at HNX
      obtain ⟨N, hNN⟩ : ∃ N, N = M + (3 + 16 * x.conds.length) := ⟨_, rfl⟩
      have hN1 : N ≤ 34400 := by omega
      have hN2 : (M : Int) + 3 + 16 * (x.conds.length : Int) = (N : Nat) := by omega
      rw [← hNN] at HNX
      clear hNN
      go_wp2_with fail
      go_loopw [6, 7, 8] (fun u v i wv => ∃ j : Nat, j ≤ k ∧ i = .int .i64 j ∧ u = .bool (!((rs.take j).any (fun y => y.arch == x.arch))) ∧ v = .bool (!((rs.take j).any (fun y => y.arch == x.arch && y.nr == x.nr))) ∧ Below V.heap.size V wv) (fun _ _ i _ => k - (Lib.intOf i).toNat)
      case atStart => exact ⟨0, Nat.zero_le _, rfl, rfl, rfl, Below.refl _ _⟩
      case round =>
        obtain ⟨j, hj, rfl, rfl, rfl, hbj⟩ := hrel
        have HBj := Lib.hid hbj
        have HBw := Lib.hid (HBv.out.trans (hbj.mono HBv.out.size))
        clear hbj x0 x1 x2 x3
        obtain ⟨x0, x1, x2, x3⟩ := rbox (kb HBj.out HV.out)
        obtain ⟨c0, c1⟩ := pbox (kb HBw.out HX.out)
        by_cases hjk : j < k
        · have hjr : j < rs.length := by omega
          obtain ⟨b', off', cv', e', hb', _, d0, d1, _, _⟩ := HROW.out j hjr
          cases e'
          obtain ⟨y, hy⟩ : ∃ y, y = rs[j] := ⟨_, rfl⟩
          rw [← hy] at d0 d1
          have HA1 := Lib.hid (any_take_succ hjr (fun y => y.arch == x.arch))
          have HA2 := Lib.hid (any_take_succ hjr (fun y => y.arch == x.arch && y.nr == x.nr))
          rw [← hy] at HA1 HA2
          have e0 := (HBw.out.cell (p := ⟨b, _, none⟩) hbW).trans ((HB.out.cell (p := ⟨b, _, none⟩) hbw).trans d0)
          have e1 := (HBw.out.cell (p := ⟨b, _, none⟩) hbW).trans ((HB.out.cell (p := ⟨b, _, none⟩) hbw).trans d1)
          have m0 : (j : Int) < (n : Int) := by omega
          have m1 : (0 : Int) ≤ (j : Int) := by omega
          have m2 : (j : Int).toNat = j := by omega
          clear d0 d1 hy
          cases hq : (y.arch == x.arch)
          · have HE1 : Hid ((rs.take (j + 1)).any (fun y => y.arch == x.arch) = (rs.take j).any (fun y => y.arch == x.arch)) := Lib.hid (by rw [HA1.out, hq, Bool.or_false])
            have HE2 : Hid ((rs.take (j + 1)).any (fun y => y.arch == x.arch && y.nr == x.nr) = (rs.take j).any (fun y => y.arch == x.arch && y.nr == x.nr)) := Lib.hid (by rw [HA2.out, hq, Bool.false_and, Bool.or_false])
            have hq2 : ((y.arch : Int) == (x.arch : Int)) = false := by simp at hq ⊢; omega
            clear hq
            go_wp2_with fail
            go_quiet (fail)
            go_wp2_with fail
            go_roundw
            case rel => exact ⟨j + 1, by omega, by go_num, by rw [HE1.out], by rw [HE2.out], bdN HBj.out _⟩
            case measure => simp [Lib.intOf]; omega
          · have HE1 : Hid ((rs.take (j + 1)).any (fun y => y.arch == x.arch) = true) := Lib.hid (by rw [HA1.out, hq, Bool.or_true])
            have hq2 : ((y.arch : Int) == (x.arch : Int)) = true := by simp at hq ⊢; omega
            cases hr : (y.nr == x.nr)
            · have HE2 : Hid ((rs.take (j + 1)).any (fun y => y.arch == x.arch && y.nr == x.nr) = (rs.take j).any (fun y => y.arch == x.arch && y.nr == x.nr)) := Lib.hid (by rw [HA2.out, hq, hr, Bool.true_and, Bool.or_false])
              have hr2 : ((y.nr : Int) == (x.nr : Int)) = false := by simp at hr ⊢; omega
              clear hq hr
              go_wp2_with fail
              go_quiet (fail)
              go_wp2_with fail
              go_quiet (fail)
              go_wp2_with fail
              go_roundw
              case rel => exact ⟨j + 1, by omega, by go_num, by rw [HE1.out]; rfl, by rw [HE2.out], bdN HBj.out _⟩
              case measure => simp [Lib.intOf]; omega
            · have HE2 : Hid ((rs.take (j + 1)).any (fun y => y.arch == x.arch && y.nr == x.nr) = true) := Lib.hid (by rw [HA2.out, hq, hr, Bool.true_and, Bool.or_true])
              have hr2 : ((y.nr : Int) == (x.nr : Int)) = true := by simp at hr ⊢; omega
              clear hq hr
              go_wp2_with fail
              go_quiet (fail)
              go_wp2_with fail
              go_quiet (fail)
              go_wp2_with fail
              go_roundw
              case rel => exact ⟨j + 1, by omega, by go_num, by rw [HE1.out]; rfl, by rw [HE2.out]; rfl, bdN HBj.out _⟩
              case measure => simp [Lib.intOf]; omega
        · obtain rfl : j = k := by omega
          have HNN := Lib.hid (fun (a b : Bool) (ha : (!((rs.take j).any (fun y => y.arch == x.arch))) = a) (hb : (!((rs.take j).any (fun y => y.arch == x.arch && y.nr == x.nr))) = b) => HNX.out a b ha.symm hb.symm)
          cases ha : (!((rs.take j).any (fun y => y.arch == x.arch))) <;> cases hb : (!((rs.take j).any (fun y => y.arch == x.arch && y.nr == x.nr)))
          all_goals
            have HNE := Lib.hid (HNN.out _ _ ha hb)
            clear ha hb
            go_wp2_with fail
            go_roundw
            case rel => exact ⟨j + 1, by omega, by go_num, by rw [HNE.out]; simp; try omega, HBw.out⟩
            case measure => simp [Lib.intOf]; omega
    · obtain rfl : k = n := by omega
      go_wp2_with fail
      go_ret
      exact ⟨by rw [HE.out, ← HM.out]; rfl, HB.out.trans (HBr.out.mono HB.out.size)⟩
end Go.Proofs.YtbekkdhlfkongaaGreatDoor
/-
  What codec.take, codec.decodeIns and codec.Decode answer, for any bytes.
-/
namespace Go.Proofs.YtbekkdhlfkongaaGreatDoor
open Go.ChangeShapes Go.WideShapes Go.ChangeAt Go.RowKit
set_option maxRecDepth 20000

theorem slice_from (b off n cap sz : Nat) (h : sz ≤ n) (hc : n ≤ cap) (hcap : cap ≤ 9223372036854775807) : ∃ a c, (∀ W, (Instr.slice 48 (.slice (some ⟨b, off, none⟩) n cap) (some (.int .i64 sz)) none none).run Tryz.prog W = .ok (.slice (some a) (n - sz) c) W) ∧ n - sz ≤ c ∧ c ≤ 9223372036854775807 ∧ (sz < n → a = ⟨b, off + sz, none⟩) := by
  by_cases hc1 : cap = sz
  · refine ⟨⟨b, off, none⟩, 0, fun W => ?_, by omega, by omega, by omega⟩
    obtain rfl : n = sz := by omega
    subst hc1
    go_simp
  · refine ⟨⟨b, off + sz, none⟩, cap - sz, fun W => ?_, by omega, by omega, fun _ => rfl⟩
    go_simp

theorem or_step (l : List UInt8) (o k : Nat) (hk : k < 4) : bits .or .u32 ((numAt l o k : Nat) : Int) (((l[o + k]?.getD 0).toNat : Int) % 4294967296 * 2 ^ (8 * k) % 4294967296) = ((numAt l o (k + 1) : Nat) : Int) := by
  have hc := UInt8.toNat_lt (l[o + k]?.getD 0)
  have hlt := numAt_lt l o k
  have e0 : numAt l o (k + 1) = numAt l o k + (l[o + k]?.getD 0).toNat * 2 ^ (8 * k) := rfl
  rw [e0]
  generalize (l[o + k]?.getD 0).toNat = c at *
  generalize numAt l o k = a at *
  have e : ((c : Int) % 4294967296 * 2 ^ (8 * k) % 4294967296) = ((c * 2 ^ (8 * k) : Nat) : Int) := by
    obtain rfl | rfl | rfl | rfl : k = 0 ∨ k = 1 ∨ k = 2 ∨ k = 3 := by omega
    all_goals simp; omega
  have hb : c * 2 ^ (8 * k) < 4294967296 ∧ a < 4294967296 := by
    obtain rfl | rfl | rfl | rfl : k = 0 ∨ k = 1 ∨ k = 2 ∨ k = 3 := by omega
    all_goals simp at hlt ⊢; omega
  rw [e, u32_or_nat _ _ hb.2 hb.1, Nat.or_comm, nat_join (8 * k) _ _ (Nat.mul_mod_left _ _) hlt, Nat.add_comm]

set_option maxHeartbeats 1000000 in
theorem take_any (b off n cap sz o : Nat) (l : List UInt8) (w : World) (h1 : 1 ≤ sz) (h4 : sz ≤ 4) (hsz : sz ≤ n) (hc : n ≤ cap) (hcap : cap ≤ 9223372036854775807)
    (hcell : ∀ i, i < n → w.cell? ⟨b, off + i, none⟩ = some (.int .u8 ((l.getD (o + i) 0).toNat : Int))) :
    Calls Tryz.prog 74 #[.slice (some ⟨b, off, none⟩) n cap, .int .i64 sz] w fun e w' => ∃ a c, e = .returned (.tuple #[.int .u32 (numAt l o sz), .slice (some a) (n - sz) c]) ∧ n - sz ≤ c ∧ c ≤ 9223372036854775807 ∧ (sz < n → a = ⟨b, off + sz, none⟩) ∧ Below w.heap.size w w' := by
  obtain ⟨a, c, hs, hc1, hc2, ha⟩ := slice_from b off n cap sz hsz hc hcap
  have HA := Lib.hid ha
  have HC := Lib.hid hcell
  clear ha hcell
  go_enter Tryz.func74, Tryz.ntmps74
  go_wp2_with fail
  go_loop [6, 9] (fun u i => ∃ k : Nat, k ≤ sz ∧ i = .int .i64 k ∧ u = .int .u32 (numAt l o k)) (fun _ i => sz - (intOf i).toNat)
  case atStart => exact ⟨0, by omega, rfl, rfl⟩
  case round =>
    obtain ⟨k, hk, rfl, rfl⟩ := hrel
    by_cases hlt : k < sz
    · have hd := HC.out k (by omega)
      have HOr := Lib.hid (or_step l o k (by omega))
      go_wp2_with fail
      refine ⟨⟨k + 1, by omega, by go_num, ?_⟩, by simp [intOf]; omega⟩
      rw [HOr.out]
    · obtain rfl : k = sz := by omega
      go_wp2_with fail
      go_quiet (fail)
      go_wp2_with fail
      go_ret2
      exact ⟨a, c, rfl, hc1, hc2, HA.out, bdN (Below.refl _ _) _⟩

/-- The instruction of the eight bytes from a place on. -/
def x8 (l : List UInt8) (o : Nat) : X4 := ⟨numAt l o 2, numAt l (o + 2) 1, numAt l (o + 3) 1, numAt l (o + 4) 4⟩
theorem numAt1 (l : List UInt8) (o : Nat) : numAt l o 1 < 256 := numAt_lt l o 1
theorem numAt2 (l : List UInt8) (o : Nat) : numAt l o 2 < 65536 := numAt_lt l o 2
set_option maxHeartbeats 1000000 in
theorem decodeIns_any (b off n cap o : Nat) (l : List UInt8) (w : World) (hb : b < w.heap.size) (hn : 8 ≤ n) (hc : n ≤ cap) (hcap : cap ≤ 9223372036854775807)
    (hcell : ∀ i, i < n → w.cell? ⟨b, off + i, none⟩ = some (.int .u8 ((l.getD (o + i) 0).toNat : Int))) :
    Calls Tryz.prog 42 #[.slice (some ⟨b, off, none⟩) n cap] w fun e w' => e = .returned (insV (x8 l o).op (x8 l o).jt (x8 l o).jf (x8 l o).k) ∧ Below w.heap.size w w' := by
  have hB0 := ba zIns (Below.refl w.heap.size w)
  have HR0 : Hid ((w.alloc zIns).heap[w.heap.size]? = some zIns) := Lib.hid (heap_alloc_new _ _)
  have HC := Lib.hid hcell
  clear hcell
  go_enter Tryz.func42, Tryz.ntmps42
  go_wp2_with fail
  refine (take_any b off n cap 2 o l _ (by omega) (by omega) (by omega) hc hcap (fun i hi => (hB0.cell (p := ⟨b, _, none⟩) hb).trans (HC.out i hi))).mono ?_
  rintro e w1 ⟨a1, c1, rfl, hc1, hd1, ha1, hb1⟩
  obtain rfl := ha1 (by omega)
  have hB1 := hB0.trans (hb1.mono hB0.size)
  have HR1 := Lib.hid ((hb1.block _ (lt_of_block HR0.out)).trans HR0.out)
  have HB1 := Lib.hid hB1
  clear hb1 ha1 hB1 hB0
  go_wp2_with fail
  refine (take_any b (off + 2) (n - 2) c1 1 (o + 2) l _ (by omega) (by omega) (by omega) hc1 hd1 (fun i hi => (HB1.out.cell (p := ⟨b, _, none⟩) hb).trans (by have h := HC.out (2 + i) (by omega); rw [← Nat.add_assoc, ← Nat.add_assoc] at h; exact h))).mono ?_
  rintro e w2 ⟨a2, c2, rfl, hc2, hd2, ha2, hb2⟩
  obtain rfl := ha2 (by omega)
  have HR2 := Lib.hid ((hb2.block _ (lt_of_block HR1.out)).trans HR1.out)
  have HB2 := Lib.hid (HB1.out.trans (hb2.mono HB1.out.size))
  clear hb2 ha2 HR1
  go_wp2_with fail
  refine (take_any b (off + 2 + 1) (n - 2 - 1) c2 1 (o + 3) l _ (by omega) (by omega) (by omega) hc2 hd2 (fun i hi => (HB2.out.cell (p := ⟨b, _, none⟩) hb).trans (by have h := HC.out (3 + i) (by omega); rw [← Nat.add_assoc, ← Nat.add_assoc] at h; exact h))).mono ?_
  rintro e w3 ⟨a3, c3, rfl, hc3, hd3, ha3, hb3⟩
  obtain rfl := ha3 (by omega)
  have HR3 := Lib.hid ((hb3.block _ (lt_of_block HR2.out)).trans HR2.out)
  have HB3 := Lib.hid (HB2.out.trans (hb3.mono HB2.out.size))
  clear hb3 ha3 HR2
  go_wp2_with fail
  refine (take_any b (off + 2 + 1 + 1) (n - 2 - 1 - 1) c3 4 (o + 4) l _ (by omega) (by omega) (by omega) hc3 hd3 (fun i hi => (HB3.out.cell (p := ⟨b, _, none⟩) hb).trans (by have h := HC.out (4 + i) (by omega); rw [← Nat.add_assoc, ← Nat.add_assoc] at h; exact h))).mono ?_
  rintro e w4 ⟨a4, c4, rfl, hc4, hd4, ha4, hb4⟩
  have hR4 := (hb4.block _ (lt_of_block HR3.out)).trans HR3.out
  have HB4 := Lib.hid (HB3.out.trans (hb4.mono HB3.out.size))
  clear hb4 ha4 HR3
  have r0 : w4.cell? ⟨w.heap.size, 0, none⟩ = some (.int .i64 0) := cell_in hR4 0
  have r1 : w4.cell? ⟨w.heap.size, 1, none⟩ = some (.int .i64 0) := cell_in hR4 1
  have r2 : w4.cell? ⟨w.heap.size, 2, none⟩ = some (.int .i64 0) := cell_in hR4 2
  have r3 : w4.cell? ⟨w.heap.size, 3, none⟩ = some (.int .u32 0) := cell_in hR4 3
  have f0 := free_in hR4 0
  have f1 := free_in hR4 1
  have f2 := free_in hR4 2
  have f3 := free_in hR4 3
  have s4 := lt_of_block hR4
  have n2 := numAt2 l o
  have n1 := numAt1 l (o + 2)
  have n1' := numAt1 l (o + 3)
  clear hR4
  go_wp2_with fail
  (try simp only [Exit.inBlock, Exit.then])
  refine bodyPost_ret (v := insV (x8 l o).op (x8 l o).jt (x8 l o).jf (x8 l o).k) ?_ rfl ⟨rfl, ?_⟩
  · simp only [x8]
    simp [results, Tryz.results42, go_sem]
    go_simp
  · have hB := HB4.out
    go_grown
end Go.Proofs.YtbekkdhlfkongaaGreatDoor

/-
  What codec.Decode answers, for any bytes that lie in a world.
-/
namespace Go.Proofs.YtbekkdhlfkongaaGreatDoor
open Go.ChangeShapes Go.WideShapes Go.ChangeAt Go.RowKit
set_option maxRecDepth 20000

theorem infoX : (Tryz.prog.info? 64).map (fun i => (i.zero, i.size, i.bytes)) = some (some (.agg #[.int .i64 0, .int .i64 0, .int .i64 0, .int .u32 0]), 4, 32) := by kernel_rfl
/-- The instructions of bytes, eight by eight; their error; what is read. -/
def x8s (b : List UInt8) : List X4 := (List.range (b.length / 8)).map fun i => x8 b (8 * i)
def derr (b : List UInt8) : Int := if 32768 < b.length then 3 else if b.length % 8 ≠ 0 then 9 else if (x8s b).all X4.right then 0 else 2
def decL (b : List UInt8) : List X4 := if derr b = 0 then x8s b else []
theorem x8s_len (b : List UInt8) : (x8s b).length = b.length / 8 := by simp [x8s]
theorem x8s_at (b : List UInt8) (i : Nat) (h : i < (x8s b).length) : (x8s b)[i] = x8 b (8 * i) := by simp [x8s]
theorem x8s_snoc (b : List UInt8) (n : Nat) (h : n < b.length / 8) : (x8s b).take (n + 1) = (x8s b).take n ++ [x8 b (8 * n)] := by
  rw [List.take_succ_eq_append_getElem (by rw [x8s_len]; exact h), x8s_at]
theorem decL_ok {b : List UInt8} (h : derr b = 0) : decL b = x8s b := by unfold decL; rw [if_pos h]
theorem decL_bad {b : List UInt8} (h : derr b ≠ 0) : decL b = [] := by unfold decL; rw [if_neg h]
def DecEnd (b : List UInt8) (w : World) (e : Ending) (w' : World) : Prop := ∃ u, e = .returned (.tuple #[u, .int .i64 (derr b)]) ∧ FAt w' u (decL b) ∧ Below w.heap.size w w'
theorem decEnd {b : List UInt8} {w w' : World} {u : Value} {n : Int} (hn : derr b = n) (hF : FAt w' u (decL b)) (hB : Below w.heap.size w w') : DecEnd b w (.returned (.tuple #[u, .int .i64 n])) w' := ⟨u, by rw [hn], hF, hB⟩
theorem decEnd_bad {b : List UInt8} {w w' : World} {n : Int} (hn : derr b = n) (h0 : n ≠ 0) (hB : Below w.heap.size w w') : DecEnd b w (.returned (.tuple #[.slice none 0 0, .int .i64 n])) w' :=
  decEnd hn (by rw [decL_bad (by rw [hn]; exact h0)]; exact FAt.nil _) hB
theorem derr_bad {b : List UInt8} {n : Nat} (h1 : b.length ≤ 32768) (h2 : b.length % 8 = 0) (hn : n < b.length / 8) (hr : (x8 b (8 * n)).right = false) : derr b = 2 := by
  unfold derr
  rw [if_neg (by omega), if_neg (by omega), if_neg]
  intro h
  rw [List.all_eq_true] at h
  have := h _ (List.getElem_mem (show n < (x8s b).length by rw [x8s_len]; exact hn))
  rw [x8s_at, hr] at this
  cases this
theorem derr_good {b : List UInt8} {n : Nat} (h1 : b.length ≤ 32768) (h2 : b.length % 8 = 0) (hn : n = b.length / 8) (hr : ((x8s b).take n).all X4.right = true) : derr b = 0 := by
  subst hn
  rw [← x8s_len, List.take_length] at hr
  unfold derr
  rw [if_neg (by omega), if_neg (by omega), if_pos hr]
theorem all_snoc {b : List UInt8} {n : Nat} (hn : n < b.length / 8) (hr : ((x8s b).take n).all X4.right = true) (hx : (x8 b (8 * n)).right = true) : ((x8s b).take (n + 1)).all X4.right = true := by
  rw [x8s_snoc b n hn, List.all_append, hr]
  simpa using hx
theorem fcells_snoc (b : List UInt8) (n : Nat) (h : n < b.length / 8) : fcells ((x8s b).take (n + 1)) = fcells ((x8s b).take n) ++ (x8 b (8 * n)).cells := by
  rw [x8s_snoc b n h, fcells_app, fcells_one]

set_option maxHeartbeats 4000000 in
theorem decode_any (v : Value) (b : List UInt8) (w : World) (hD : BAt w v b) (ht : OTab w) :
    Calls Tryz.prog 18 #[v] w (DecEnd b w) := by
  obtain ⟨i0, hi, hz0, hz1, hz2⟩ := info_parts infoX
  obtain ⟨ao, cap, rfl, hcap, hmax, hD⟩ := hD
  have HD := Lib.hid hD
  clear hD
  by_cases h1 : 32768 < b.length
  · have HE : Hid (derr b = 3) := Lib.hid (by unfold derr; rw [if_pos h1])
    go_enter Tryz.func18, Tryz.ntmps18
    go_wp2_with fail
    go_ret2
    exact decEnd_bad HE.out (by omega) (Below.refl _ _)
  by_cases h2 : b.length % 8 = 0
  · have h2b : ((b.length : Int) % 8 == 0) = true := by simp; omega
    have HN : Hid (b.length % 8 = 0) := Lib.hid h2
    clear h2
    go_enter Tryz.func18, Tryz.ntmps18
    go_wp2_with (at_make; refine wpList_make_own _ rfl _ _ 32 rfl w.heap.size 64 i0 (.agg #[.int .i64 0, .int .i64 0, .int .i64 0, .int .u32 0]) 4 Tryz.underlying32 hi hz0 hz1 .i64 .i64 _ (b.length / 8) rfl rfl (by omega) (by rw [hz2]; omega) (by unfold maxLen; omega) (Nat.le_refl _) ?_)
    intro w2 hown2 hgrow2
    have hB2 := (Below.refl w.heap.size w).grown hgrow2 (Nat.le_refl _) (by simp)
    have HO2 := Lib.hid hown2
    have HB2 := Lib.hid hB2
    clear hown2 hgrow2 hB2
    go_wp2_with fail
    go_loopw [4, 21] (fun u i wr => ∃ n : Nat, n ≤ b.length / 8 ∧ i = .int .i64 n ∧ wr.ownsRow w.heap.size 64 4 u n (fcells ((x8s b).take n)) ∧ ((x8s b).take n).all X4.right = true ∧ Below w.heap.size w wr) (fun _ i _ => b.length / 8 - (intOf i).toNat)
    case atStart => exact ⟨0, by omega, rfl, by simpa [fcells] using HO2.out, by simp, HB2.out⟩
    case round =>
      obtain ⟨n, hn, rfl, hO, hall, hB⟩ := hrel
      have HO := Lib.hid hO
      have HB := Lib.hid hB
      have HA := Lib.hid hall
      have hsr := hB.size
      clear hO HO2 HB2 hall
      by_cases hlt : n < b.length / 8
      · rcases HD.out with h0 | ⟨g, off, rfl, hg, hc⟩
        · rw [h0] at hlt; simp at hlt
        have HC := Lib.hid hc
        obtain ⟨a, c, hs, hc1, hc2, ha⟩ := slice_from g off b.length cap (8 * n) (by omega) hcap hmax
        obtain rfl := ha (by omega)
        have e8 : ((8 * n : Nat) : Int) = 8 * (n : Int) := by omega
        rw [e8] at hs
        clear ha hc e8 hB
        go_wp2_with fail
        refine (decodeIns_any g (off + 8 * n) (b.length - 8 * n) c (8 * n) b _ (Nat.lt_of_lt_of_le hg hsr) (by omega) hc1 hc2 (fun i hi => ?_)).mono ?_
        · refine (HB.out.cell (p := ⟨g, _, none⟩) hg).trans ?_
          have h := HC.out (8 * n + i) (by omega)
          rw [← Nat.add_assoc] at h
          rw [h, List.getD_eq_getElem?_getD, List.getElem?_eq_getElem (by omega)]
          rfl
        rintro e w3 ⟨rfl, hb3⟩
        have HB3 := Lib.hid (HB.out.trans (hb3.mono hsr))
        have HO3 := Lib.hid (own_below HO.out hb3)
        have HX3 : Hid ((w3.alloc (insB (x8 b (8 * n)).op (x8 b (8 * n)).jt (x8 b (8 * n)).jf (x8 b (8 * n)).k)).heap[w3.heap.size]? = some (insB (x8 b (8 * n)).op (x8 b (8 * n)).jt (x8 b (8 * n)).jf (x8 b (8 * n)).k)) := Lib.hid (heap_alloc_new _ _)
        have HS := Lib.hid (fcells_snoc b n hlt)
        clear hb3 HB HO hs HC
        obtain ⟨X, hX⟩ : ∃ X, X = x8 b (8 * n) := ⟨_, rfl⟩
        have HXE := Lib.hid hX
        rw [← hX] at HX3 HS ⊢
        clear hX
        have hB4 := ba (insB X.op X.jt X.jf X.k) HB3.out
        have HO4 := Lib.hid (HO3.out.alloc (insB X.op X.jt X.jf X.k))
        have HB4 := Lib.hid hB4
        clear hB4 HO3
        go_wp2_with fail
        refine (right_any X.op X.jt X.jf X.k _ (ht.below HB4.out)).mono ?_
        rintro e w5 ⟨rfl, hb5⟩
        have hX5 := (hb5.block _ (lt_of_block HX3.out)).trans HX3.out
        have HB5 := Lib.hid (HB4.out.trans (hb5.mono HB4.out.size))
        have HO5 := Lib.hid (own_below HO4.out hb5)
        have x0 : w5.cell? ⟨w3.heap.size, 0, none⟩ = some (.int .i64 X.op) := cell_in hX5 0
        have x1 : w5.cell? ⟨w3.heap.size, 1, none⟩ = some (.int .i64 X.jt) := cell_in hX5 1
        have x2 : w5.cell? ⟨w3.heap.size, 2, none⟩ = some (.int .i64 X.jf) := cell_in hX5 2
        have x3 : w5.cell? ⟨w3.heap.size, 3, none⟩ = some (.int .u32 X.k) := cell_in hX5 3
        have hs5 := HB5.out.size
        clear hb5 hX5 HX3 HO4 HB4
        cases hr : right X.op X.jt X.jf X.k
        · have HE := Lib.hid (derr_bad (n := n) (by omega) HN.out hlt (by rw [← HXE.out]; exact hr))
          go_wp2_with fail
          go_ret2
          exact decEnd_bad HE.out (by omega) HB5.out
        · have HA2 := Lib.hid (all_snoc hlt HA.out (by rw [← HXE.out]; exact hr))
          go_wp2_with (at_builtin; refine wpList_append_own _ rfl _ _ 32 rfl w.heap.size 64 i0 (.agg #[.int .i64 0, .int .i64 0, .int .i64 0, .int .u32 0]) 4 32 Tryz.underlying32 hi hz0 hz1 hz2 rfl (by decide) _ _ _ rfl (HO5.out.alloc _) ⟨w5.heap.size, 0, none⟩ 1 1 X.cells rfl rfl (new_at w5 #[.int .i64 X.op, .int .i64 X.jt, .int .i64 X.jf, .int .u32 X.k] 64) (by simp [Value.oneCell']) (by unfold maxLen; omega) (by omega) (by rw [size_alloc]; omega) ?_)
          intro v6 w6 hown6 hgrow6 _
          have HB6 := Lib.hid (grown_below (HB5.out.alloc hs5 (.cells #[.int .i64 X.op, .int .i64 X.jt, .int .i64 X.jf, .int .u32 X.k] 64)) (HO5.out.alloc _) hgrow6 (by rw [size_alloc]; omega))
          rw [← HS.out] at hown6
          have HO6 := Lib.hid hown6
          clear hown6 hgrow6 x0 x1 x2 x3
          go_wp2_with fail
          go_roundw
          case rel => exact ⟨n + 1, by omega, by go_num, HO6.out, HA2.out, HB6.out⟩
          case measure => simp [intOf]; omega
      · obtain rfl : n = b.length / 8 := by omega
        have HE := Lib.hid (derr_good (by omega) HN.out rfl HA.out)
        have HFt : Hid (FAt wr u4 (decL b)) := Lib.hid (by
          have h := HO.out
          rw [← x8s_len, List.take_length] at h
          rw [decL_ok HE.out]
          exact FAt.own h rfl)
        clear hB
        go_wp2_with fail
        go_ret2
        exact decEnd HE.out HFt.out HB.out
  · have h2b : ((b.length : Int) % 8 == 0) = false := by simp; omega
    have HE : Hid (derr b = 9) := Lib.hid (by unfold derr; rw [if_neg h1, if_pos h2])
    clear h2
    go_enter Tryz.func18, Tryz.ntmps18
    go_wp2_with fail
    go_ret2
    exact decEnd_bad HE.out (by omega) (Below.refl _ _)
end Go.Proofs.YtbekkdhlfkongaaGreatDoor
/-
  Bytes of a filter are read as the filter, and what was read has just these bytes: plain lists.
-/
namespace Go.Proofs.YtbekkdhlfkongaaGreatDoor

theorem x8_front (P B : List UInt8) (o : Nat) : x8 (P ++ B) (P.length + o) = x8 B o := by
  unfold x8
  rw [numAt_front, Nat.add_assoc, Nat.add_assoc, Nat.add_assoc, numAt_front, numAt_front, numAt_front]
theorem x8_behind (E S : List UInt8) (h : E.length = 8) : x8 (E ++ S) 0 = x8 E 0 := by
  unfold x8
  rw [numAt_behind _ _ _ _ (by omega), numAt_behind _ _ _ _ (by omega), numAt_behind _ _ _ _ (by omega), numAt_behind _ _ _ _ (by omega)]
theorem x8s_cons (E B : List UInt8) (h : E.length = 8) : x8s (E ++ B) = x8 E 0 :: x8s B := by
  unfold x8s
  rw [List.length_append, h, show (8 + B.length) / 8 = B.length / 8 + 1 by omega, List.range_succ_eq_map, List.map_cons, List.map_map, x8_behind E B h]
  congr 1
  apply List.map_congr_left
  intro i _
  show x8 (E ++ B) (8 * (i + 1)) = _
  rw [show 8 * (i + 1) = E.length + 8 * i by omega, x8_front]
theorem x8_enc {x : X4} (h : x.right = true) (hk : x.ok) : x8 (encX x) 0 = x := by
  obtain ⟨o, a, b, c, rfl, ho, ha, hb, hc⟩ := right_nats h hk
  have e : encX ⟨o, a, b, c⟩ = [byteAt o 0, byteAt o 1, byteAt a 0, byteAt b 0, byteAt c 0, byteAt c 1, byteAt c 2, byteAt c 3] := rfl
  rw [e]
  have b0 := byteAt_val o 0
  have b1 := byteAt_val o 1
  have b2 := byteAt_val a 0
  have b3 := byteAt_val b 0
  have c0 := byteAt_val c 0
  have c1 := byteAt_val c 1
  have c2 := byteAt_val c 2
  have c3 := byteAt_val c 3
  simp only [Nat.mul_zero, Nat.pow_zero, Nat.div_one, Nat.mul_one, Nat.reduceMul, Nat.reducePow] at b0 b1 b2 b3 c0 c1 c2 c3
  unfold x8
  simp only [numAt, List.getD_eq_getElem?_getD, List.getElem?_cons_succ, List.getElem?_cons_zero, Option.getD_some, Nat.reduceAdd, Nat.zero_add, Nat.reduceMul, Nat.mul_zero, Nat.pow_zero, Nat.mul_one, Nat.reducePow]
  simp only [X4.mk.injEq]
  refine ⟨?_, ?_, ?_, ?_⟩ <;> omega
theorem x8s_enc : ∀ l : List X4, l.all X4.right = true → (∀ x ∈ l, x.ok) → x8s (l.flatMap encX) = l
  | [], _, _ => rfl
  | x :: l, hr, hk => by
    rw [List.all_cons, Bool.and_eq_true] at hr
    rw [List.flatMap_cons, x8s_cons _ _ (encX_len x), x8_enc hr.1 (hk x List.mem_cons_self), x8s_enc l hr.2 (fun y hy => hk y (List.mem_cons_of_mem _ hy))]
/-- A filter's bytes are read as it. -/
theorem dec_enc {l : List X4} (h : ferr l = 0) (hk : ∀ x ∈ l, x.ok) : derr (encL l) = 0 ∧ decL (encL l) = l := by
  obtain ⟨h1, h2⟩ := ferr_zero h
  have hx := x8s_enc l h2 hk
  have hd : derr (encL l) = 0 := by
    rw [encL_ok h]
    unfold derr
    rw [hx, if_neg (by rw [enc_len]; omega), if_neg (by rw [enc_len]; omega), if_pos h2]
  refine ⟨hd, ?_⟩
  rw [decL_ok hd, encL_ok h, hx]
end Go.Proofs.YtbekkdhlfkongaaGreatDoor
/-
  A policy with a rule put in (package hurdlelaw11): slices of rules, and their copies.
-/
namespace Go.Proofs.YtbekkdhlfkongaaGreatDoor
open Go.ChangeShapes Go.WideShapes Go.ChangeAt Go.RowKit
set_option maxRecDepth 20000

/-- Rows of four cells as they come into an append. -/
theorem QAt.src {w : World} {v : Value} {l : List V4} (h : QAt w v l) : SrcAt w 4 v l.length (qcells l) := by
  obtain ⟨ao, cap, rfl, h⟩ := h
  refine ⟨ao, cap, rfl, qcells_len l, fun h0 => ?_, fun ad had j u hu => ?_⟩
  · rcases h with rfl | ⟨b, off, rfl, _⟩
    · rfl
    · cases h0
  · rcases h with rfl | ⟨b, off, rfl, _, hc⟩
    · simp [qcells] at hu
    · cases had
      have hj : j < l.length * 4 := by rw [← qcells_len]; exact (List.getElem?_eq_some_iff.1 hu).1
      have hd : j / 4 < l.length := by omega
      have e : j = j / 4 * 4 + j % 4 := by omega
      have h4 := qcells_at l (j / 4) hd (j % 4) (by omega)
      rw [← e, hu] at h4
      obtain ⟨c0, c1, c2, c3⟩ := hc (j / 4) hd
      rw [add_plain]
      have hm : j % 4 = 0 ∨ j % 4 = 1 ∨ j % 4 = 2 ∨ j % 4 = 3 := by omega
      rcases hm with m | m | m | m
      · rw [m] at h4
        rw [show off + j = off + j / 4 * 4 by omega, c0]
        exact h4.symm
      · rw [m] at h4
        rw [show off + j = off + j / 4 * 4 + 1 by omega, c1]
        exact h4.symm
      · rw [m] at h4
        rw [show off + j = off + j / 4 * 4 + 2 by omega, c2]
        exact h4.symm
      · rw [m] at h4
        rw [show off + j = off + j / 4 * 4 + 3 by omega, c3]
        exact h4.symm
/-- A slice is no longer than there is room. -/
def CapOk (v : Value) : Prop := ∃ ao n cap, v = .slice ao n cap ∧ n ≤ cap ∧ cap ≤ 9223372036854775807
theorem CapOk.own {w : World} {base : Nat} {e : TypeId} {size : Nat} {v : Value} {n : Nat} {xs : List Value} (h : w.ownsRow base e size v n xs) : CapOk v := by
  rcases h.2 with ⟨rfl, h0⟩ | ⟨g, cap, cur, rfl, _, _, hc, hm, _⟩
  · exact ⟨none, 0, 0, rfl, Nat.le_refl _, by omega⟩
  · unfold maxLen at hm
    exact ⟨_, _, _, rfl, hc, hm⟩
theorem QAt.past {w : World} {v : Value} {l : List V4} (h : QAt w v l) (hv : CapOk v) (lo : Nat) (hh : lo ≤ l.length) :
    ∃ v', (∀ W, (Instr.slice 22 v (some (.int .i64 (lo : Nat))) none none).run Tryz.prog W = .ok v' W) ∧ QAt w v' (l.drop lo) := by
  obtain ⟨ao, cap, rfl, hD⟩ := h
  obtain ⟨_, _, _, e, hcap, hmax⟩ := hv
  simp only [Value.slice.injEq] at e
  obtain ⟨rfl, rfl, rfl⟩ := e
  have hl : (l.drop lo).length = l.length - lo := List.length_drop
  rcases hD with rfl | ⟨g, off, rfl, hg, hc⟩
  · simp at hh
    subst hh
    cases ao with
    | none => exact ⟨.slice none 0 cap, fun W => by go_simp, none, cap, rfl, .inl rfl⟩
    | some a => exact ⟨.slice (some a) 0 cap, fun W => by go_simp, some a, cap, rfl, .inl rfl⟩
  · have cR : Tryz.prog.cellsOf 45 = 4 := by kernel_rfl
    by_cases hc1 : cap = lo
    · refine ⟨.slice (some ⟨g, off, none⟩) (l.length - lo) 0, fun W => ?_, some ⟨g, off, none⟩, 0, by rw [hl], .inl ?_⟩
      · subst hc1
        go_simp
        (try (intro h; omega))
      · exact List.eq_nil_of_length_eq_zero (by omega)
    · refine ⟨.slice (some ⟨g, off + lo * 4, none⟩) (l.length - lo) (cap - lo), fun W => ?_, some ⟨g, off + lo * 4, none⟩, cap - lo, by rw [hl], .inr ⟨g, off + lo * 4, rfl, hg, fun i hi' => ?_⟩⟩
      · go_simp
        (try (intro h; omega))
      · obtain ⟨c0, c1, c2, c3⟩ := hc (lo + i) (by omega)
        rw [List.getElem_drop]
        rw [Nat.add_mul, ← Nat.add_assoc] at c0 c1 c2 c3
        exact ⟨c0, c1, c2, c3⟩
theorem QAt.src_n {w : World} {v : Value} {l : List V4} {n : Nat} (h : QAt w v l) (hn : l.length = n) : SrcAt w 4 v n (qcells l) := by
  have h1 := h.src
  rw [hn] at h1
  exact h1
end Go.Proofs.YtbekkdhlfkongaaGreatDoor
/-
  The rows of examples at the end of each law of package hurdlelaw06: knows() answers true in every world that has the table of the operations; and what == answers on a state beside itself.
-/
namespace Go.Proofs.YtbekkdhlfkongaaGreatDoor
open Go.ChangeShapes Go.WideShapes Go.ChangeAt Go.RowKit
set_option maxRecDepth 100000

theorem cellsSt : Tryz.prog.cellsOf 58 = 18 := by kernel_rfl
theorem cells32s : Tryz.prog.cellsOf 23 = 1 := by kernel_rfl
theorem list18 {α : Type} {l : List α} (h : l.length = 18) : ∃ c0 c1 c2 c3 c4 c5 c6 c7 c8 c9 c10 c11 c12 c13 c14 c15 c16 c17, l = [c0, c1, c2, c3, c4, c5, c6, c7, c8, c9, c10, c11, c12, c13, c14, c15, c16, c17] := by
  match l, h with
  | [c0, c1, c2, c3, c4, c5, c6, c7, c8, c9, c10, c11, c12, c13, c14, c15, c16, c17], _ => exact ⟨c0, c1, c2, c3, c4, c5, c6, c7, c8, c9, c10, c11, c12, c13, c14, c15, c16, c17, rfl⟩
section
variable {H : Type} {enc : TypeId × Value → H} {W : World} {base : Nat} {v : Value} {d : DataW H} {p : List MemPlace}
theorem mAt_list (k2 k3 k4 k5 k6 k7 k8 k9 k10 k11 k12 k13 k14 k15 k16 k17 : Nat) : ∀ (a x : Nat), (⟨a, x, [k2, k3, k4, k5, k6, k7, k8, k9, k10, k11, k12, k13, k14, k15, k16, k17]⟩ : St).val = .agg #[.int .u32 a, .int .u32 x, .int .u32 k2, .int .u32 k3, .int .u32 k4, .int .u32 k5, .int .u32 k6, .int .u32 k7, .int .u32 k8, .int .u32 k9, .int .u32 k10, .int .u32 k11, .int .u32 k12, .int .u32 k13, .int .u32 k14, .int .u32 k15, .int .u32 k16, .int .u32 k17] := fun _ _ => rfl
theorem open_state (hval : Value.okWide Tryz.prog W .any base 58 v) (h : DataW.Trod enc Tryz.prog W 0 (fun _ => true) true 58 v d p) : ∃ s : St, v = s.val ∧ s.ok := by
  obtain ⟨cs, rfl, hsz⟩ := okWide_struct Tryz.underlying58 hval
  rw [cellsSt] at hsz
  obtain ⟨c0, c1, c2, c3, c4, c5, c6, c7, c8, c9, c10, c11, c12, c13, c14, c15, c16, c17, hc⟩ := list18 (l := cs.toList) (by simpa using hsz)
  obtain rfl : cs = #[c0, c1, c2, c3, c4, c5, c6, c7, c8, c9, c10, c11, c12, c13, c14, c15, c16, c17] := by rw [← hc]
  obtain ⟨fuel, hf⟩ := h
  obtain ⟨ys, n, _, _, _, hyl, hff⟩ := DataW.trod_struct Tryz.underlying58 hf
  have hy3 : ys.length = 3 := hyl
  match ys, hy3 with
  | [y0, y1, y2], _ =>
    have h0 : DataW.trod enc Tryz.prog W 0 (fun _ => true) true n 23 [c0] = some y0 := hff 0 _ rfl
    have h1 : DataW.trod enc Tryz.prog W 0 (fun _ => true) true n 23 [c1] = some y1 := hff 1 _ rfl
    have h2 : DataW.trod enc Tryz.prog W 0 (fun _ => true) true n 56 [c2, c3, c4, c5, c6, c7, c8, c9, c10, c11, c12, c13, c14, c15, c16, c17] = some y2 := hff 2 _ rfl
    obtain ⟨xs, m, _, _, _, hxl, hxx⟩ := DataW.trod_array Tryz.underlying56 h2
    rw [cells32s] at hxx
    match xs, hxl with
    | [x0, x1, x2, x3, x4, x5, x6, x7, x8, x9, x10, x11, x12, x13, x14, x15], _ =>
      have g0 : DataW.trod enc Tryz.prog W 0 (fun _ => true) true m 23 [c2] = some x0 := hxx 0 (by omega)
      have g1 : DataW.trod enc Tryz.prog W 0 (fun _ => true) true m 23 [c3] = some x1 := hxx 1 (by omega)
      have g2 : DataW.trod enc Tryz.prog W 0 (fun _ => true) true m 23 [c4] = some x2 := hxx 2 (by omega)
      have g3 : DataW.trod enc Tryz.prog W 0 (fun _ => true) true m 23 [c5] = some x3 := hxx 3 (by omega)
      have g4 : DataW.trod enc Tryz.prog W 0 (fun _ => true) true m 23 [c6] = some x4 := hxx 4 (by omega)
      have g5 : DataW.trod enc Tryz.prog W 0 (fun _ => true) true m 23 [c7] = some x5 := hxx 5 (by omega)
      have g6 : DataW.trod enc Tryz.prog W 0 (fun _ => true) true m 23 [c8] = some x6 := hxx 6 (by omega)
      have g7 : DataW.trod enc Tryz.prog W 0 (fun _ => true) true m 23 [c9] = some x7 := hxx 7 (by omega)
      have g8 : DataW.trod enc Tryz.prog W 0 (fun _ => true) true m 23 [c10] = some x8 := hxx 8 (by omega)
      have g9 : DataW.trod enc Tryz.prog W 0 (fun _ => true) true m 23 [c11] = some x9 := hxx 9 (by omega)
      have g10 : DataW.trod enc Tryz.prog W 0 (fun _ => true) true m 23 [c12] = some x10 := hxx 10 (by omega)
      have g11 : DataW.trod enc Tryz.prog W 0 (fun _ => true) true m 23 [c13] = some x11 := hxx 11 (by omega)
      have g12 : DataW.trod enc Tryz.prog W 0 (fun _ => true) true m 23 [c14] = some x12 := hxx 12 (by omega)
      have g13 : DataW.trod enc Tryz.prog W 0 (fun _ => true) true m 23 [c15] = some x13 := hxx 13 (by omega)
      have g14 : DataW.trod enc Tryz.prog W 0 (fun _ => true) true m 23 [c16] = some x14 := hxx 14 (by omega)
      have g15 : DataW.trod enc Tryz.prog W 0 (fun _ => true) true m 23 [c17] = some x15 := hxx 15 (by omega)
      obtain ⟨k0, rfl, b0⟩ := one_u32 h0
      obtain ⟨k1, rfl, b1⟩ := one_u32 h1
      obtain ⟨k2, rfl, b2⟩ := one_u32 g0
      obtain ⟨k3, rfl, b3⟩ := one_u32 g1
      obtain ⟨k4, rfl, b4⟩ := one_u32 g2
      obtain ⟨k5, rfl, b5⟩ := one_u32 g3
      obtain ⟨k6, rfl, b6⟩ := one_u32 g4
      obtain ⟨k7, rfl, b7⟩ := one_u32 g5
      obtain ⟨k8, rfl, b8⟩ := one_u32 g6
      obtain ⟨k9, rfl, b9⟩ := one_u32 g7
      obtain ⟨k10, rfl, b10⟩ := one_u32 g8
      obtain ⟨k11, rfl, b11⟩ := one_u32 g9
      obtain ⟨k12, rfl, b12⟩ := one_u32 g10
      obtain ⟨k13, rfl, b13⟩ := one_u32 g11
      obtain ⟨k14, rfl, b14⟩ := one_u32 g12
      obtain ⟨k15, rfl, b15⟩ := one_u32 g13
      obtain ⟨k16, rfl, b16⟩ := one_u32 g14
      obtain ⟨k17, rfl, b17⟩ := one_u32 g15
      refine ⟨⟨k0, k1, [k2, k3, k4, k5, k6, k7, k8, k9, k10, k11, k12, k13, k14, k15, k16, k17]⟩, (mAt_list k2 k3 k4 k5 k6 k7 k8 k9 k10 k11 k12 k13 k14 k15 k16 k17 k0 k1).symm, by show k0 ≤ 4294967295; omega, by show k1 ≤ 4294967295; omega, rfl, ?_⟩
      intro z hz
      simp only [List.mem_cons, List.not_mem_nil, or_false] at hz
      omega
end
end Go.Proofs.YtbekkdhlfkongaaGreatDoor
/-
  The rows of examples at the end of each law of package hurdlelaw08: knows() answers true; an argument that is a condition.
-/
namespace Go.Proofs.YtbekkdhlfkongaaGreatDoor
open Go.ChangeShapes Go.WideShapes Go.ChangeAt Go.RowKit Go.Deep
set_option maxRecDepth 100000

theorem cellsCd : Tryz.prog.cellsOf 55 = 4 := by kernel_rfl
theorem list4 {α : Type} {l : List α} (h : l.length = 4) : ∃ x0 x1 x2 x3, l = [x0, x1, x2, x3] := by
  match l, h with
  | [x0, x1, x2, x3], _ => exact ⟨x0, x1, x2, x3, rfl⟩
section
variable {H : Type} {enc : TypeId × Value → H} {W : World} {base : Nat} {v : Value} {d : DataW H} {p : List MemPlace}
theorem one_i64 {n : Nat} {c : Value} {y : DataW H × List MemPlace} (h : DataW.trod enc Tryz.prog W 0 (fun _ => true) true n 3 [c] = some y) : ∃ k : Int, c = .int .i64 k := by
  obtain ⟨z, e, _, _⟩ := DataW.trod_int Tryz.underlying3 h
  simp only [List.cons.injEq, and_true] at e
  exact ⟨z, e⟩
theorem open_cond (hval : Value.okWide Tryz.prog W .any base 55 v) (h : DataW.Trod enc Tryz.prog W 0 (fun _ => true) true 55 v d p) : ∃ c : Cd, v = c.val ∧ c.ok := by
  obtain ⟨cs, rfl, hsz⟩ := okWide_struct Tryz.underlying55 hval
  rw [cellsCd] at hsz
  obtain ⟨c0, c1, c2, c3, hc⟩ := list4 (l := cs.toList) (by simpa using hsz)
  obtain rfl : cs = #[c0, c1, c2, c3] := by rw [← hc]
  obtain ⟨fuel, hf⟩ := h
  obtain ⟨ys, n, _, _, _, hyl, hff⟩ := DataW.trod_struct Tryz.underlying55 hf
  have hy4 : ys.length = 4 := hyl
  match ys, hy4 with
  | [y0, y1, y2, y3], _ =>
    have h0 : DataW.trod enc Tryz.prog W 0 (fun _ => true) true n 3 [c0] = some y0 := hff 0 _ rfl
    have h1 : DataW.trod enc Tryz.prog W 0 (fun _ => true) true n 3 [c1] = some y1 := hff 1 _ rfl
    have h2 : DataW.trod enc Tryz.prog W 0 (fun _ => true) true n 26 [c2] = some y2 := hff 2 _ rfl
    have h3 : DataW.trod enc Tryz.prog W 0 (fun _ => true) true n 26 [c3] = some y3 := hff 3 _ rfl
    obtain ⟨k0, rfl⟩ := one_i64 h0
    obtain ⟨k1, rfl⟩ := one_i64 h1
    obtain ⟨k2, rfl, b2⟩ := one_u64 h2
    obtain ⟨k3, rfl, b3⟩ := one_u64 h3
    exact ⟨⟨k0, k1, k2, k3⟩, rfl, b2, b3⟩
end
end Go.Proofs.YtbekkdhlfkongaaGreatDoor
