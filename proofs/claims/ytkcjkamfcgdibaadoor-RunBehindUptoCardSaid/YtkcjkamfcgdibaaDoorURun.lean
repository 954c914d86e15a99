/-
  What run.Run answers, for any filter that lies in a world, and any record.
-/
import Derived.Test.YtkcjkamfcgdibaaDoorUTakes
import Derived.WalkMore
namespace Go.Proofs.YtkcjkamfcgdibaaDoor
open Go.ChangeShapes Go.WideShapes Go.ChangeAt Go.RowKit
set_option maxRecDepth 20000

/-- So many instructions are done; what is left gives the rest. -/
def RunsTo (l : List X4) (d : Rec) (s : St) (p c : Nat) : Prop := runS l d = ((fromS l d (l.length - p) s p).1, (fromS l d (l.length - p) s p).2 + c)
theorem runsTo_start (l : List X4) (d : Rec) : RunsTo l d zeroSt 0 0 := rfl
theorem len_succ {n p : Nat} (h : p < n) : n - p = (n - p - 1) + 1 := by omega
section
variable {l : List X4} {d : Rec} {s : St} {p c : Nat}
theorem runsTo_ret (h : RunsTo l d s p c) (hp : p < l.length) (h6 : (l.getD p zeroX).op = 6) : runS l d = ((l.getD p zeroX).k.toNat, c + 1) := by
  unfold RunsTo at h
  rw [len_succ hp, fromS_succ, if_pos h6] at h
  rw [h]
  simp only [Prod.mk.injEq, true_and]
  omega
theorem runsTo_reta (h : RunsTo l d s p c) (hp : p < l.length) (h6 : (l.getD p zeroX).op = 22) : runS l d = (s.a, c + 1) := by
  unfold RunsTo at h
  rw [len_succ hp, fromS_succ, if_neg (by omega), if_pos h6] at h
  rw [h]
  simp only [Prod.mk.injEq, true_and]
  omega
theorem runsTo_kill (h : RunsTo l d s p c) (hp : p < l.length) (h6 : ¬ (l.getD p zeroX).op = 6) (h22 : ¬ (l.getD p zeroX).op = 22) (hg : goesS s (l.getD p zeroX) = false) : runS l d = (0, c + 1) := by
  unfold RunsTo at h
  rw [len_succ hp, fromS_succ, if_neg h6, if_neg h22, if_pos hg] at h
  rw [h]
  simp only [Prod.mk.injEq, true_and]
  omega
theorem runsTo_next (h : RunsTo l d s p c) (hs : SoundL l) (hok : ∀ x ∈ l, x.ok) (hp : p < l.length) (h6 : ¬ (l.getD p zeroX).op = 6) (h22 : ¬ (l.getD p zeroX).op = 22) (hg : goesS s (l.getD p zeroX) = true) :
    RunsTo l d (stepS s (l.getD p zeroX) d) (placeS s (l.getD p zeroX) p) (c + 1) := by
  obtain ⟨q1, q2⟩ := placeS_in hs hok hp s (ends_op.2 ⟨h6, h22⟩)
  unfold RunsTo at h ⊢
  rw [len_succ hp, fromS_succ, if_neg h6, if_neg h22, if_neg (by rw [hg]; decide)] at h
  rw [fromS_more hs hok d (l.length - p - 1) (l.length - placeS s (l.getD p zeroX) p) _ _ q2 (by omega) (by omega)] at h
  rw [h]
  simp only [Prod.mk.injEq, true_and]
  omega
end
theorem nat_k {x : X4} (h : x.ok) : ∃ k : Nat, x.k = k ∧ k < 4294967296 := ⟨x.k.toNat, by have := h.1; omega, by have := h.1; have := h.2; omega⟩
theorem retRun {l : List X4} {d : Rec} {a b : Nat} {x y : Int} (h : runS l d = (a, b)) (hx : x = a) (hy : y = b) : Ending.returned (.tuple #[.int .u32 x, .int .i64 y, .int .i64 0]) = .returned (.tuple #[.int .u32 ((runS l d).1 : Nat), .int .i64 ((runS l d).2 : Nat), .int .i64 0]) := by rw [h, hx, hy]

theorem branch_all : ∀ i, i < 39 → isBranch (Ip.refOps.getD i 0) = true → Ip.refOps.getD i 0 ∈ ([21, 29, 37, 45, 53, 61, 69, 77] : List Int) := by decide +kernel
theorem branch_ops {op : Int} (h : isBranch op = true) : op ∈ ([21, 29, 37, 45, 53, 61, 69, 77] : List Int) := by
  rcases Ip.plc_cases op with ⟨i, hi, _, hq, _, _⟩ | ⟨_, hb⟩
  · rw [hq] at h ⊢
    exact branch_all i hi h
  · unfold isBranch at h
    rw [hb] at h
    cases h
/-- A branch leaves the state as it is. -/
theorem step_branch (s : St) (x : X4) (d : Rec) (h : isBranch x.op = true) : stepS s x d = s := by
  have ha : aluB 21 = false ∧ aluB 29 = false ∧ aluB 37 = false ∧ aluB 45 = false ∧ aluB 53 = false ∧ aluB 61 = false ∧ aluB 69 = false ∧ aluB 77 = false := by decide
  obtain ⟨a1, a2, a3, a4, a5, a6, a7, a8⟩ := ha
  have := branch_ops h
  simp only [List.mem_cons, List.not_mem_nil, or_false] at this
  rcases this with e | e | e | e | e | e | e | e <;> simp [stepS, e, a1, a2, a3, a4, a5, a6, a7, a8]
theorem skip_step (s : St) (x : X4) (d : Rec) : skipS (stepS s x d) x = skipS s x := by
  unfold skipS
  by_cases h5 : x.op = 5
  · rw [if_pos h5, if_pos h5]
  · rw [if_neg h5, if_neg h5]
    cases hB : isBranch x.op
    · rfl
    · rw [step_branch s x d hB]
theorem insX {w : World} {g : Nat} {op jt jf k : Int} (h : w.heap[g]? = some (insB op jt jf k)) : w.cell? ⟨g, 0, none⟩ = some (.int .i64 op) ∧ w.cell? ⟨g, 1, none⟩ = some (.int .i64 jt) ∧ w.cell? ⟨g, 2, none⟩ = some (.int .i64 jf) ∧ w.cell? ⟨g, 3, none⟩ = some (.int .u32 k) :=
  ⟨cell_in h 0, cell_in h 1, cell_in h 2, cell_in h 3⟩

set_option maxHeartbeats 4000000 in
theorem run_any (v : Value) (l : List X4) (d : Rec) (w : World) (hF : FAt w v l) (hok : ∀ x ∈ l, x.ok) (hd : d.ok) (ht : OTab w) (hs : soundB l = true) :
    Calls Tryd.prog 15 #[v, d.val] w fun e w' => e = .returned (.tuple #[.int .u32 ((runS l d).1 : Nat), .int .i64 ((runS l d).2 : Nat), .int .i64 0]) ∧ Below w.heap.size w w' := by
  have HS := soundB_iff.1 hs
  have hpos : 0 < l.length := HS.1
  have hlen : l.length ≤ 4096 := HS.2.1
  have HSd := Lib.hid HS
  have HF := Lib.hid hF
  have HO := Lib.hid hok
  have HDo := Lib.hid hd
  have HT := Lib.hid ht
  obtain ⟨ao, cap, rfl, hF'⟩ := hF
  have HD0 := Lib.hid (heap_alloc_new w (.cells d.cells 31))
  have HB0 := Lib.hid (ba (.cells d.cells 31) (Below.refl w.heap.size w))
  rcases hF' with h0 | ⟨b, off, rfl, hb, hc⟩
  · rw [h0] at hpos; simp at hpos
  have HC := Lib.hid hc
  clear hc hd ht hok HS
  go_enter Tryd.func15, Tryd.ntmps15
  go_wp2_with fail
  go_step3
  go_wp2_with fail
  refine (sound_any _ l _ (HF.out.below HB0.out) HO.out (HT.out.below HB0.out)).mono ?_
  rintro e w1 ⟨rfl, hb1⟩
  rw [hs]
  have HD1 := Lib.hid (kb hb1 HD0.out)
  have HB1 := Lib.hid (below2 HB0.out (hb1.mono (Nat.le_refl _)))
  clear hb1 hs
  have hz := st_zero
  have HG0 := Lib.hid (heap_alloc_new w1 (stB zeroSt))
  have HD2 := Lib.hid (ka (stB zeroSt) HD1.out)
  have HB2 := Lib.hid (ba (stB zeroSt) HB1.out)
  have hgs : w.heap.size < w1.heap.size := lt_of_block HD1.out
  go_wp2_with fail
  go_step3
  go_wp2_with fail
  clear hz
  go_loopw [8, 9, 10] (fun r cn i wr => ∃ (s : St) (p c : Nat), p < l.length ∧ c ≤ p ∧ r = .int .u32 0 ∧ cn = .int .i64 c ∧ i = .int .i64 p ∧ s.ok ∧ RunsTo l d s p c ∧ wr.heap[w1.heap.size]? = some (stB s) ∧ wr.heap[w.heap.size]? = some (.cells d.cells 31) ∧ Below w.heap.size w wr) (fun _ _ i _ => l.length - (intOf i).toNat)
  case atStart => exact ⟨zeroSt, 0, 0, hpos, by omega, rfl, rfl, rfl, zeroSt_ok, runsTo_start l d, HG0.out, HD2.out, HB2.out⟩
  case round =>
    clear HG0 HD2 HB2 HD1 HB1 HD0 HB0
    obtain ⟨s, p, c, hp, hcp, rfl, rfl, rfl, hso, hrt, hg, hdd, hbw⟩ := hrel
    have HG := Lib.hid hg
    have HDD := Lib.hid hdd
    have HB := Lib.hid hbw
    have HSo := Lib.hid hso
    have HRT := Lib.hid hrt
    have HTW := Lib.hid (HT.out.below hbw)
    obtain ⟨q0, q1, q2, q3⟩ := HC.out p hp
    have d0 := (hbw.cell (p := ⟨b, _, none⟩) hb).trans q0
    have d1 := (hbw.cell (p := ⟨b, _, none⟩) hb).trans q1
    have d2 := (hbw.cell (p := ⟨b, _, none⟩) hb).trans q2
    have d3 := (hbw.cell (p := ⟨b, _, none⟩) hb).trans q3
    have HXo := Lib.hid (HO.out _ (List.getElem_mem hp))
    have HXE := Lib.hid (getD_at hp)
    have HXJ := Lib.hid (right_jumps (one_right (by have h := HSd.out.2.2.1 p hp; rw [badAt_at hp] at h; exact h)))
    generalize l[p] = x at d0 d1 d2 d3 HXo HXE HXJ
    obtain ⟨op, jt, jf, kk⟩ := x
    obtain ⟨k, hk, hk4⟩ := nat_k HXo.out
    simp only at hk
    subst hk
    have HX0 := Lib.hid (heap_alloc_new wr (insB op jt jf k))
    have HG1 := Lib.hid (ka (insB op jt jf k) HG.out)
    have HDD1 := Lib.hid (ka (insB op jt jf k) HDD.out)
    have HB1 := Lib.hid (ba (insB op jt jf k) HB.out)
    have HT1 := Lib.hid (HTW.out.alloc (insB op jt jf k))
    have hgw : w1.heap.size < wr.heap.size := lt_of_block hg
    clear hg hdd hbw hso hrt q0 q1 q2 q3
    cases h6 : (op == 6)
    · have n6 : ¬ op = 6 := by simpa using h6
      have N6 := Lib.hid n6
      clear n6
      cases h22 : (op == 22)
      · have n22 : ¬ op = 22 := by simpa using h22
        have N22 := Lib.hid n22
        clear n22
        obtain ⟨x0, x1, x2, x3, x4, x5, x6, x7, x8⟩ := rec_cells HDD1.out
        have hz := st_zero
        go_wp2_with (refine ld_st HG1.out rfl rfl rfl ?_)
        refine (step_any s op jt jf k d _ HSo.out hk4 HDo.out HT1.out).mono ?_
        rintro e w2 ⟨rfl, hb2⟩
        have HX2 := Lib.hid (kb hb2 HX0.out)
        have HG2 := Lib.hid (kb hb2 HG1.out)
        have HDD2 := Lib.hid (kb hb2 HDD1.out)
        have HB2 := Lib.hid (HB1.out.trans (hb2.mono HB1.out.size))
        have HN2 := Lib.hid (heap_alloc_new w2 (stB zeroSt))
        have HX3 := Lib.hid (ka (stB zeroSt) HX2.out)
        have HG3 := Lib.hid (ka (stB zeroSt) HG2.out)
        have HDD3 := Lib.hid (ka (stB zeroSt) HDD2.out)
        have HB3 := Lib.hid (ba (stB zeroSt) HB2.out)
        have hz1 := lt_of_block HX2.out
        have hz2 := lt_of_block HG2.out
        clear hb2 x0 x1 x2 x3 x4 x5 x6 x7 x8 HX0 HG1 HDD1 HX2 HG2 HDD2 HB2
        obtain ⟨s', hs'⟩ : ∃ s', s' = stepS s ⟨op, jt, jf, k⟩ d := ⟨_, rfl⟩
        rw [← hs']
        have HS' := Lib.hid hs'
        clear hs'
        cases hgo : goesS s ⟨op, jt, jf, k⟩
        · have HE := Lib.hid (runsTo_kill HRT.out hp (by rw [HXE.out]; exact N6.out) (by rw [HXE.out]; exact N22.out) (by rw [HXE.out]; exact hgo))
          clear hgo
          go_wp2_with (refine st_st HN2.out rfl rfl rfl rfl rfl ?_; intro W4 hp4; have HP4 := Lib.hid hp4; clear hp4)
          rw [Exit.noGoto_ret]
          go_ret3
          exact ⟨retRun HE.out rfl (by omega), HP4.out.below HB3.out (by omega)⟩
        · have HNX := Lib.hid (runsTo_next HRT.out HSd.out HO.out hp (by rw [HXE.out]; exact N6.out) (by rw [HXE.out]; exact N22.out) (by rw [HXE.out]; exact hgo))
          have HPL := Lib.hid (placeS_in HSd.out HO.out hp s (ends_op.2 ⟨by rw [HXE.out]; exact N6.out, by rw [HXE.out]; exact N22.out⟩))
          rw [HXE.out, ← HS'.out] at HNX
          rw [HXE.out] at HPL
          have HSo' := Lib.hid (stepS_ok (d := d) HSo.out HXo.out HDo.out)
          rw [← HS'.out] at HSo'
          clear hgo hz
          go_wp2_with (first | (refine st_st HN2.out rfl rfl rfl rfl rfl ?_; intro W4 hp4; have HP4 := Lib.hid hp4; clear hp4) | (refine ld_st HP4.out.row rfl rfl rfl ?_) | (refine st_st (HP4.out.keep (by omega) HG3.out) rfl rfl rfl rfl rfl ?_; intro W5 hp5; have HP5 := Lib.hid hp5; clear hp5; obtain ⟨y0, y1, y2, y3⟩ := insX (HP5.out.keep (by omega) (HP4.out.keep (by omega) HX3.out))) | (refine ld_st HP5.out.row rfl rfl rfl ?_))
          have HB5 := Lib.hid (HP5.out.below (HP4.out.below HB3.out (by omega)) (by omega))
          have HG5 := Lib.hid HP5.out.row
          have HDD5 := Lib.hid (HP5.out.keep (by omega) (HP4.out.keep (by omega) HDD3.out))
          refine (skips_any s' op jt jf k _ hk4 (HT.out.below HB5.out)).mono ?_
          rintro e w6 ⟨rfl, hb6⟩
          have HB6 := Lib.hid (HB5.out.trans (hb6.mono HB5.out.size))
          have HG6 := Lib.hid (kb hb6 HG5.out)
          have HDD6 := Lib.hid (kb hb6 HDD5.out)
          obtain ⟨k1, k2⟩ := skip_place s ⟨op, jt, jf, k⟩ p HXo.out HXJ.out.1 HXJ.out.2.1
          clear hb6 y0 y1 y2 y3
          rw [← skip_step s _ d, ← HS'.out] at k1 k2
          have hpb := HPL.out
          obtain ⟨q, hq⟩ : ∃ q, q = skipS s' ⟨op, jt, jf, k⟩ := ⟨_, rfl⟩
          obtain ⟨P, hP⟩ : ∃ P, P = placeS s ⟨op, jt, jf, k⟩ p := ⟨_, rfl⟩
          rw [← hq] at k1 k2 ⊢
          rw [← hP] at k1 hpb HNX
          clear hq hP HPL
          obtain ⟨hp1, hp2⟩ := hpb
          have HK := Lib.hid k1
          have k3 : (p : Int) + q ≤ 4096 := by omega
          have hp' : (p : Int) ≤ 4096 := by omega
          have hq' : q ≤ 4096 := by omega
          have hc' : (c : Int) ≤ 4096 := by omega
          clear k1
          go_wp2_with fail
          go_roundw
          case rel => exact ⟨s', P, c + 1, hp2, by omega, rfl, by go_num, by rw [HK.out], HSo'.out, HNX.out, HG6.out, HDD6.out, HB6.out⟩
          case measure =>
            have := HK.out
            simp [intOf]
            omega
      · have o6 : op = 22 := by simpa using h22
        have HE := Lib.hid (runsTo_reta HRT.out hp (by rw [HXE.out]; exact o6))
        have f0 := (cell_in HG1.out 0).trans (st_a s)
        clear o6
        go_wp2_with fail
        go_ret3
        exact ⟨retRun HE.out rfl (by omega), HB1.out⟩
    · have o6 : op = 6 := by simpa using h6
      have HE := Lib.hid (runsTo_ret HRT.out hp (by rw [HXE.out]; exact o6))
      rw [HXE.out] at HE
      clear o6
      go_wp2_with fail
      go_ret3
      exact ⟨retRun HE.out (by simp) (by omega), HB1.out⟩
theorem run_bad (v : Value) (l : List X4) (d : Rec) (w : World) (hF : FAt w v l) (hok : ∀ x ∈ l, x.ok) (ht : OTab w) (hs : soundB l = false) :
    Calls Tryd.prog 15 #[v, d.val] w fun e w' => e = .returned (.tuple #[.int .u32 0, .int .i64 0, .int .i64 1]) ∧ Below w.heap.size w w' := by
  have HF := Lib.hid hF
  have HO := Lib.hid hok
  have HT := Lib.hid ht
  have HB0 := Lib.hid (ba (.cells d.cells 31) (Below.refl w.heap.size w))
  obtain ⟨ao, cap, rfl, _⟩ := hF
  clear hok ht
  go_enter Tryd.func15, Tryd.ntmps15
  go_wp2_with fail
  go_step3
  go_wp2_with fail
  refine (sound_any _ l _ (HF.out.below HB0.out) HO.out (HT.out.below HB0.out)).mono ?_
  rintro e w1 ⟨rfl, hb1⟩
  rw [hs]
  have HB1 := Lib.hid (below2 HB0.out (hb1.mono (Nat.le_refl _)))
  clear hb1 hs
  go_wp2_with fail
  (try rw [Exit.noGoto_ret])
  go_ret3
  exact ⟨rfl, HB1.out⟩
end Go.Proofs.YtkcjkamfcgdibaaDoor
