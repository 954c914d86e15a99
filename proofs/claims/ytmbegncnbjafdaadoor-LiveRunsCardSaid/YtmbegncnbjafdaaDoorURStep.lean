/-
  The document's own answers for runs (package hurdleref06): Step.
-/
import Derived.Test.YtmbegncnbjafdaaDoorURTakes
import Derived.Test.YtmbegncnbjafdaaDoorDRWord
namespace Go.Proofs.YtmbegncnbjafdaaDoor
open Go.ChangeShapes Go.WideShapes Go.ChangeAt Go.RowKit
set_option maxRecDepth 20000

/-- The state behind the loop over the cells, and what it has found. -/
def putS (s : St) (op : Int) (k : Nat) : St := if op = 2 then ⟨s.a, s.x, s.m.set k s.a⟩ else if op = 3 then ⟨s.a, s.x, s.m.set k s.x⟩ else s
def midS (s t : St) (k j : Nat) : St := if j ≤ k then s else t
def midC (s : St) (k j : Nat) : Nat := if j ≤ k then 0 else mAt s.m k
theorem midS_start (s t : St) (k : Nat) : midS s t k 0 = s := by simp [midS]
theorem midC_start (s : St) (k : Nat) : midC s k 0 = 0 := by simp [midC]
theorem midS_at (s t : St) (k : Nat) : midS s t k k = s := by simp [midS]
theorem midS_hit (s t : St) (k : Nat) : midS s t k (k + 1) = t := by unfold midS; rw [if_neg (by omega)]
theorem midC_hit (s : St) (k : Nat) : midC s k (k + 1) = mAt s.m k := by unfold midC; rw [if_neg (by omega)]
theorem midS_miss (s t : St) {k j : Nat} (h : j ≠ k) : midS s t k (j + 1) = midS s t k j := by
  unfold midS
  by_cases hj : j ≤ k
  · rw [if_pos hj, if_pos (by omega)]
  · rw [if_neg hj, if_neg (by omega)]
theorem midC_miss (s : St) {k j : Nat} (h : j ≠ k) : midC s k (j + 1) = midC s k j := by
  unfold midC
  by_cases hj : j ≤ k
  · rw [if_pos hj, if_pos (by omega)]
  · rw [if_neg hj, if_neg (by omega)]
theorem midC_end {s : St} (hs : s.ok) (k : Nat) : midC s k 16 = mAt s.m k := by
  unfold midC
  by_cases hj : 16 ≤ k
  · rw [if_pos hj, mAt_out (by have := hs.2.2.1; omega)]
  · rw [if_neg hj]
theorem midS_end {s : St} (hs : s.ok) (op : Int) (k : Nat) : midS s (putS s op k) k 16 = putS s op k := by
  unfold midS
  by_cases hj : 16 ≤ k
  · rw [if_pos hj]
    have e : ∀ v, s.m.set k v = s.m := fun v => List.set_eq_of_length_le (by have := hs.2.2.1; omega)
    unfold putS
    rw [e, e]
    split
    · rfl
    · split <;> rfl
  · rw [if_neg hj]

set_option maxHeartbeats 4000000 in
theorem rstep_any (s : St) (op jt jf : Int) (k : Nat) (d : Rec) (w : World) (hs : s.ok) (hk : k < 4294967296) (hd : d.ok) :
    Calls Tryd.prog 35 #[s.val, insV op jt jf k, d.val] w fun e w' => e = .returned (.tuple #[(stepS s ⟨op, jt, jf, k⟩ d).val, .bool (goesS s ⟨op, jt, jf, k⟩)]) ∧ Below w.heap.size w w' := by
  obtain ⟨W, hW, hG, hX, hD, hR, hb⟩ := box4 w (stB s) (insB op jt jf k) (.cells d.cells 46) (stB zeroSt)
  have hz := st_zero
  have HG := Lib.hid hG
  have HX := Lib.hid hX
  have HD := Lib.hid hD
  have HR := Lib.hid hR
  have HB := Lib.hid hb
  have HSo := Lib.hid hs
  have HDo := Lib.hid hd
  clear hG hX hD hR hb hs hd
  go_enter Tryd.func35, Tryd.ntmps35
  go_upto_region 1 with fail
  rw [← hW]
  clear hW hz
  obtain ⟨c0, c1, c2, c3⟩ := insX HX.out
  go_wp2_with fail
  refine (refAlu_any op jt jf k _).mono ?_
  rintro e w1 ⟨rfl, hb1⟩
  have HG1 := Lib.hid (kb hb1 HG.out)
  have HX1 := Lib.hid (kb hb1 HX.out)
  have HD1 := Lib.hid (kb hb1 HD.out)
  have HR1 := Lib.hid (kb hb1 HR.out)
  have HB1 := Lib.hid (below2 HB.out (hb1.mono (Nat.le_refl _)))
  clear hb1 c0 c1 c2 c3 HG HX HD HR HB
  cases hB : aluB op
  · have HA := Lib.hid hB
    have HGO : Hid (goesS s ⟨op, jt, jf, k⟩ = true) := Lib.hid (by simp [goesS, hB])
    clear hB
    go_wp2_with fail
    go_loopw [14, 15] (fun c i wr => ∃ j : Nat, j ≤ 16 ∧ c = .int .u32 (midC s k j : Nat) ∧ i = .int .i64 j ∧ wr.heap[w.heap.size]? = some (stB (midS s (putS s op k) k j)) ∧ wr.heap[w.heap.size + 1]? = some (insB op jt jf k) ∧ wr.heap[w.heap.size + 2]? = some (.cells d.cells 46) ∧ wr.heap[w.heap.size + 3]? = some (stB zeroSt) ∧ Below w.heap.size w wr) (fun _ i _ => 16 - (intOf i).toNat)
    case atStart => exact ⟨0, by omega, by rw [midC_start]; rfl, rfl, by rw [midS_start]; exact HG1.out, HX1.out, HD1.out, HR1.out, HB1.out⟩
    case round =>
      clear HG1 HX1 HD1 HR1 HB1
      obtain ⟨j, hj, rfl, rfl, hg, hx, hdd, hr, hbw⟩ := hrel
      have HG := Lib.hid hg
      have HX := Lib.hid hx
      have HD := Lib.hid hdd
      have HR := Lib.hid hr
      have HB := Lib.hid hbw
      clear hg hx hdd hr hbw
      by_cases hlt : j < 16
      · by_cases hjk : j = k
        · subst hjk
          have hm := HSo.out.2.2.1
          have h16 : j < 16 := hlt
          rw [midS_at] at HG
          have HSA := Lib.hid (set_m s s.a hm h16)
          have HSX := Lib.hid (set_m s s.x hm h16)
          have f0 := (cell_in HG.out 0).trans (st_a s)
          have f1 := (cell_in HG.out 1).trans (st_x s)
          have fm := (cell_in HG.out (2 + j)).trans (st_m s h16)
          obtain ⟨c0, c1, c2, c3⟩ := insX HX.out
          clear hm
          cases h2 : (op == 2)
          · have n2 : ¬ op = 2 := by simpa using h2
            cases h3 : (op == 3)
            · have n3 : ¬ op = 3 := by simpa using h3
              have HE : Hid (putS s op j = s) := Lib.hid (by simp [putS, n2, n3])
              clear n2 n3
              go_wp2_with fail
              go_roundw
              case rel => exact ⟨j + 1, by omega, by rw [midC_hit], by go_num, by rw [midS_hit, HE.out]; exact HG.out, HX.out, HD.out, HR.out, HB.out⟩
              case measure => simp [intOf]; omega
            · have n3 : op = 3 := by simpa using h3
              have HE : Hid (putS s op j = ⟨s.a, s.x, s.m.set j s.x⟩) := Lib.hid (by simp [putS, n3])
              clear n2 n3
              go_wp2_with (refine st_fld HSX.out HG.out (by omega) rfl rfl rfl rfl ?_; intro W1 hp1; have HP1 := Lib.hid hp1; clear hp1)
              go_roundw
              case rel => exact ⟨j + 1, by omega, by rw [midC_hit], by go_num, by rw [midS_hit, HE.out]; exact HP1.out.row, HP1.out.keep (by omega) HX.out, HP1.out.keep (by omega) HD.out, HP1.out.keep (by omega) HR.out, HP1.out.below HB.out (by omega)⟩
              case measure => simp [intOf]; omega
          · have n2 : op = 2 := by simpa using h2
            have HE : Hid (putS s op j = ⟨s.a, s.x, s.m.set j s.a⟩) := Lib.hid (by simp [putS, n2])
            have h3 : (op == 3) = false := by rw [n2]; rfl
            clear n2
            go_wp2_with (refine st_fld HSA.out HG.out (by omega) rfl rfl rfl rfl ?_; intro W1 hp1; have HP1 := Lib.hid hp1; clear hp1; obtain ⟨c0, c1, c2, c3⟩ := insX (HP1.out.keep (by omega) HX.out))
            go_roundw
            case rel => exact ⟨j + 1, by omega, by rw [midC_hit], by go_num, by rw [midS_hit, HE.out]; exact HP1.out.row, HP1.out.keep (by omega) HX.out, HP1.out.keep (by omega) HD.out, HP1.out.keep (by omega) HR.out, HP1.out.below HB.out (by omega)⟩
            case measure => simp [intOf]; omega
        · have hne : ((j : Int) == (k : Int)) = false := by simp; omega
          have HMS := Lib.hid (midS_miss s (putS s op k) hjk)
          have HMC := Lib.hid (midC_miss s hjk)
          clear hjk
          obtain ⟨c0, c1, c2, c3⟩ := insX HX.out
          go_wp2_with fail
          go_roundw
          case rel => exact ⟨j + 1, by omega, by rw [HMC.out], by go_num, by rw [HMS.out]; exact HG.out, HX.out, HD.out, HR.out, HB.out⟩
          case measure => simp [intOf]; omega
      · have h16 : j = 16 := by omega
        subst h16
        rw [midS_end HSo.out] at HG
        rw [midC_end HSo.out]
        clear hlt hj
        obtain ⟨c0, c1, c2, c3⟩ := insX HX.out
        have hop : op = 0 ∨ op = 1 ∨ op = 32 ∨ op = 96 ∨ op = 97 ∨ op = 7 ∨ op = 135 ∨ op = 132 ∨ (¬ op = 0 ∧ ¬ op = 1 ∧ ¬ op = 32 ∧ ¬ op = 96 ∧ ¬ op = 97 ∧ ¬ op = 7 ∧ ¬ op = 135 ∧ ¬ op = 132) := by omega
        rcases hop with rfl | rfl | rfl | rfl | rfl | rfl | rfl | rfl | ⟨n0, n1, n32, n96, n97, n7, n135, n132⟩
        · have HE : Hid (stepS s ⟨0, jt, jf, k⟩ d = ⟨k, s.x, s.m⟩) := Lib.hid (by simp [stepS, HA.out])
          have HG : Hid (wr.heap[w.heap.size]? = some (stB s)) := HG
          go_wp2_with (first | (refine st_fld (set_a s k) HG.out (by omega) rfl rfl rfl rfl ?_; intro W1 hp1; have HP1 := Lib.hid hp1; clear hp1) | (refine ld_st HP1.out.row rfl rfl rfl ?_) | (refine st_st (HP1.out.keep (by omega) HR.out) rfl rfl rfl rfl rfl ?_; intro W2 hp2; have HP2 := Lib.hid hp2; clear hp2))
          (try simp only [Exit.inBlock, Exit.then])
          exact bodyPost_ret (results_st rfl rfl rfl HP2.out.row) rfl ⟨by rw [HE.out, HGO.out], HP2.out.below (HP1.out.below HB.out (by omega)) (by omega)⟩
        · have HE : Hid (stepS s ⟨1, jt, jf, k⟩ d = ⟨s.a, k, s.m⟩) := Lib.hid (by simp [stepS, HA.out])
          have HG : Hid (wr.heap[w.heap.size]? = some (stB s)) := HG
          go_wp2_with (first | (refine st_fld (set_x s k) HG.out (by omega) rfl rfl rfl rfl ?_; intro W1 hp1; have HP1 := Lib.hid hp1; clear hp1) | (refine ld_st HP1.out.row rfl rfl rfl ?_) | (refine st_st (HP1.out.keep (by omega) HR.out) rfl rfl rfl rfl rfl ?_; intro W2 hp2; have HP2 := Lib.hid hp2; clear hp2))
          (try simp only [Exit.inBlock, Exit.then])
          exact bodyPost_ret (results_st rfl rfl rfl HP2.out.row) rfl ⟨by rw [HE.out, HGO.out], HP2.out.below (HP1.out.below HB.out (by omega)) (by omega)⟩
        · have HE : Hid (stepS s ⟨32, jt, jf, k⟩ d = ⟨wordAtD d k, s.x, s.m⟩) := Lib.hid (by simp [stepS, HA.out])
          have HG : Hid (wr.heap[w.heap.size]? = some (stB s)) := HG
          obtain ⟨x0, x1, x2, x3, x4, x5, x6, x7, x8⟩ := rec_cells HD.out
          go_wp2_with fail
          refine (rword_any d k _ HDo.out hk).mono ?_
          rintro e w3 ⟨rfl, hb3⟩
          have HG3 := Lib.hid (kb hb3 HG.out)
          have HR3 := Lib.hid (kb hb3 HR.out)
          have HB3 := Lib.hid (HB.out.trans (hb3.mono HB.out.size))
          clear hb3 c0 c1 c2 c3 x0 x1 x2 x3 x4 x5 x6 x7 x8
          obtain ⟨v, hv⟩ : ∃ v, v = wordAtD d k := ⟨_, rfl⟩
          rw [← hv] at HE ⊢
          clear hv
          go_wp2_with (first | (refine st_fld (set_a s v) HG3.out (by omega) rfl rfl rfl rfl ?_; intro W1 hp1; have HP1 := Lib.hid hp1; clear hp1) | (refine ld_st HP1.out.row rfl rfl rfl ?_) | (refine st_st (HP1.out.keep (by omega) HR3.out) rfl rfl rfl rfl rfl ?_; intro W2 hp2; have HP2 := Lib.hid hp2; clear hp2))
          (try simp only [Exit.inBlock, Exit.then])
          exact bodyPost_ret (results_st rfl rfl rfl HP2.out.row) rfl ⟨by rw [HE.out, HGO.out], HP2.out.below (HP1.out.below HB3.out (by omega)) (by omega)⟩
        · have HE : Hid (stepS s ⟨96, jt, jf, k⟩ d = ⟨mAt s.m k, s.x, s.m⟩) := Lib.hid (by simp [stepS, HA.out, mAt])
          have HG : Hid (wr.heap[w.heap.size]? = some (stB s)) := HG
          go_wp2_with (first | (refine st_fld (set_a s (mAt s.m k)) HG.out (by omega) rfl rfl rfl rfl ?_; intro W1 hp1; have HP1 := Lib.hid hp1; clear hp1) | (refine ld_st HP1.out.row rfl rfl rfl ?_) | (refine st_st (HP1.out.keep (by omega) HR.out) rfl rfl rfl rfl rfl ?_; intro W2 hp2; have HP2 := Lib.hid hp2; clear hp2))
          (try simp only [Exit.inBlock, Exit.then])
          exact bodyPost_ret (results_st rfl rfl rfl HP2.out.row) rfl ⟨by rw [HE.out, HGO.out], HP2.out.below (HP1.out.below HB.out (by omega)) (by omega)⟩
        · have HE : Hid (stepS s ⟨97, jt, jf, k⟩ d = ⟨s.a, mAt s.m k, s.m⟩) := Lib.hid (by simp [stepS, HA.out, mAt])
          have HG : Hid (wr.heap[w.heap.size]? = some (stB s)) := HG
          go_wp2_with (first | (refine st_fld (set_x s (mAt s.m k)) HG.out (by omega) rfl rfl rfl rfl ?_; intro W1 hp1; have HP1 := Lib.hid hp1; clear hp1) | (refine ld_st HP1.out.row rfl rfl rfl ?_) | (refine st_st (HP1.out.keep (by omega) HR.out) rfl rfl rfl rfl rfl ?_; intro W2 hp2; have HP2 := Lib.hid hp2; clear hp2))
          (try simp only [Exit.inBlock, Exit.then])
          exact bodyPost_ret (results_st rfl rfl rfl HP2.out.row) rfl ⟨by rw [HE.out, HGO.out], HP2.out.below (HP1.out.below HB.out (by omega)) (by omega)⟩
        · have HE : Hid (stepS s ⟨7, jt, jf, k⟩ d = ⟨s.a, s.a, s.m⟩) := Lib.hid (by simp [stepS, HA.out])
          have HG : Hid (wr.heap[w.heap.size]? = some (stB s)) := HG
          have f0 := (cell_in HG.out 0).trans (st_a s)
          go_wp2_with (first | (refine st_fld (set_x s s.a) HG.out (by omega) rfl rfl rfl rfl ?_; intro W1 hp1; have HP1 := Lib.hid hp1; clear hp1) | (refine ld_st HP1.out.row rfl rfl rfl ?_) | (refine st_st (HP1.out.keep (by omega) HR.out) rfl rfl rfl rfl rfl ?_; intro W2 hp2; have HP2 := Lib.hid hp2; clear hp2))
          (try simp only [Exit.inBlock, Exit.then])
          exact bodyPost_ret (results_st rfl rfl rfl HP2.out.row) rfl ⟨by rw [HE.out, HGO.out], HP2.out.below (HP1.out.below HB.out (by omega)) (by omega)⟩
        · have HE : Hid (stepS s ⟨135, jt, jf, k⟩ d = ⟨s.x, s.x, s.m⟩) := Lib.hid (by simp [stepS, HA.out])
          have HG : Hid (wr.heap[w.heap.size]? = some (stB s)) := HG
          have f1 := (cell_in HG.out 1).trans (st_x s)
          go_wp2_with (first | (refine st_fld (set_a s s.x) HG.out (by omega) rfl rfl rfl rfl ?_; intro W1 hp1; have HP1 := Lib.hid hp1; clear hp1) | (refine ld_st HP1.out.row rfl rfl rfl ?_) | (refine st_st (HP1.out.keep (by omega) HR.out) rfl rfl rfl rfl rfl ?_; intro W2 hp2; have HP2 := Lib.hid hp2; clear hp2))
          (try simp only [Exit.inBlock, Exit.then])
          exact bodyPost_ret (results_st rfl rfl rfl HP2.out.row) rfl ⟨by rw [HE.out, HGO.out], HP2.out.below (HP1.out.below HB.out (by omega)) (by omega)⟩
        · have HE : Hid (stepS s ⟨132, jt, jf, k⟩ d = ⟨((-(s.a : Int)) % 4294967296).toNat, s.x, s.m⟩) := Lib.hid (by simp [stepS, HA.out])
          have HG : Hid (wr.heap[w.heap.size]? = some (stB s)) := HG
          have f0 := (cell_in HG.out 0).trans (st_a s)
          obtain ⟨v, hv⟩ : ∃ v : Nat, (-(s.a : Int)) % 4294967296 = v := ⟨((-(s.a : Int)) % 4294967296).toNat, by omega⟩
          have HN := Lib.hid (refNeg_any s.a wr (by omega) (by have := HSo.out.1; omega))
          rw [hv] at HN HE
          rw [Int.toNat_natCast] at HE
          clear hv
          go_wp2_with fail
          refine HN.out.mono ?_
          rintro e w3 ⟨rfl, rfl⟩
          go_wp2_with (first | (refine st_fld (set_a s v) HG.out (by omega) rfl rfl rfl rfl ?_; intro W1 hp1; have HP1 := Lib.hid hp1; clear hp1) | (refine ld_st HP1.out.row rfl rfl rfl ?_) | (refine st_st (HP1.out.keep (by omega) HR.out) rfl rfl rfl rfl rfl ?_; intro W2 hp2; have HP2 := Lib.hid hp2; clear hp2))
          (try simp only [Exit.inBlock, Exit.then])
          exact bodyPost_ret (results_st rfl rfl rfl HP2.out.row) rfl ⟨by rw [HE.out, HGO.out], HP2.out.below (HP1.out.below HB.out (by omega)) (by omega)⟩
        · have HE : Hid (stepS s ⟨op, jt, jf, k⟩ d = putS s op k) := Lib.hid (by
            unfold putS stepS
            simp only [HA.out, Bool.false_eq_true, if_false, if_neg n0, if_neg n1, if_neg n32, if_neg n96, if_neg n97, if_neg n7, if_neg n135, if_neg n132, Int.toNat_natCast])
          have m0 : (op == 0) = false := by simpa using n0
          have m1 : (op == 1) = false := by simpa using n1
          have m32 : (op == 32) = false := by simpa using n32
          have m96 : (op == 96) = false := by simpa using n96
          have m97 : (op == 97) = false := by simpa using n97
          have m7 : (op == 7) = false := by simpa using n7
          have m135 : (op == 135) = false := by simpa using n135
          have m132 : (op == 132) = false := by simpa using n132
          clear n0 n1 n32 n96 n97 n7 n135 n132
          go_wp2_with (first | (refine ld_st HG.out rfl rfl rfl ?_) | (refine st_st HR.out rfl rfl rfl rfl rfl ?_; intro W2 hp2; have HP2 := Lib.hid hp2; clear hp2))
          (try simp only [Exit.inBlock, Exit.then])
          exact bodyPost_ret (results_st rfl rfl rfl HP2.out.row) rfl ⟨by rw [HE.out, HGO.out], HP2.out.below HB.out (by omega)⟩
  · obtain ⟨q, hq⟩ : ∃ q : Nat, argS s ⟨op, jt, jf, k⟩ = q := by
      unfold argS
      split
      · exact ⟨_, rfl⟩
      · exact ⟨_, rfl⟩
    have hq4 : (q : Int) ≤ 4294967295 := by
      rw [← hq]
      unfold argS
      have := (HSo.out.2.1)
      split
      · omega
      · simp only; omega
    have f0 := (cell_in HG1.out 0).trans (st_a s)
    have f1 := (cell_in HG1.out 1).trans (st_x s)
    have c3 := cell_in HX1.out 3
    have hgo : goesS s ⟨op, jt, jf, k⟩ = Wd.doB (aluV op) q := by simp [goesS, hB, hq]
    obtain ⟨v, hv⟩ : ∃ v : Nat, Wd.doV (aluV op) s.a q = v := ⟨(Wd.doV (aluV op) s.a q).toNat, by have := Wd.doV_bd (aluV op) s.a q (by omega) (by have := HSo.out.1; omega) (by omega); omega⟩
    have hc : stepS s ⟨op, jt, jf, k⟩ d = if Wd.doB (aluV op) q then ⟨v, s.x, s.m⟩ else s := by
      unfold stepS
      simp only [hB, if_true]
      rw [hgo, hq, hv]
      rfl
    have HDo2 := Lib.hid (refDo_any (aluV op) s.a q w1 (by omega) (by have := HSo.out.1; omega) (by omega) hq4)
    rw [hv] at HDo2
    have HSA := Lib.hid (set_a s v)
    cases hX2 : aluX op
    · have e : q = k := by
        have h : (k : Int) = q := by rw [← hq]; unfold argS; simp [hX2]
        omega
      subst e
      cases hb2 : Wd.doB (aluV op) q
      · rw [hb2] at HDo2 hgo hc
        have HCQ := Lib.hid hc
        have HGO := Lib.hid hgo
        clear hb2 hc hgo hv hq hB hX2
        go_wp2_with fail
        refine HDo2.out.mono ?_
        rintro e w2 ⟨rfl, hb2⟩
        have HG2 := Lib.hid (kb hb2 HG1.out)
        have HR2 := Lib.hid (kb hb2 HR1.out)
        have HB2 := Lib.hid (HB1.out.trans (hb2.mono HB1.out.size))
        clear hb2 f0 f1 c3
        go_wp2_with (first | (refine ld_st HG2.out rfl rfl rfl ?_) | (refine st_st HR2.out rfl rfl rfl rfl rfl ?_; intro W2 hp2; have HP2 := Lib.hid hp2; clear hp2))
        (try simp only [Exit.inBlock, Exit.then])
        exact bodyPost_ret (results_st rfl rfl rfl HP2.out.row) rfl ⟨by rw [HCQ.out, HGO.out]; rfl, HP2.out.below HB2.out (by omega)⟩
      · rw [hb2] at HDo2 hgo hc
        have HCQ := Lib.hid hc
        have HGO := Lib.hid hgo
        clear hb2 hc hgo hv hq hB hX2
        go_wp2_with fail
        refine HDo2.out.mono ?_
        rintro e w2 ⟨rfl, hb2⟩
        have HG2 := Lib.hid (kb hb2 HG1.out)
        have HR2 := Lib.hid (kb hb2 HR1.out)
        have HB2 := Lib.hid (HB1.out.trans (hb2.mono HB1.out.size))
        clear hb2 f0 f1 c3
        go_wp2_with (first | (refine st_fld HSA.out HG2.out (by omega) rfl rfl rfl rfl ?_; intro W1 hp1; have HP1 := Lib.hid hp1; clear hp1) | (refine ld_st HP1.out.row rfl rfl rfl ?_) | (refine st_st (HP1.out.keep (by omega) HR2.out) rfl rfl rfl rfl rfl ?_; intro W2 hp2; have HP2 := Lib.hid hp2; clear hp2))
        (try simp only [Exit.inBlock, Exit.then])
        exact bodyPost_ret (results_st rfl rfl rfl HP2.out.row) rfl ⟨by rw [HCQ.out, HGO.out]; rfl, HP2.out.below (HP1.out.below HB2.out (by omega)) (by omega)⟩
    · have e : q = s.x := by
        have h : (s.x : Int) = q := by rw [← hq]; unfold argS; simp [hX2]
        omega
      subst e
      cases hb2 : Wd.doB (aluV op) s.x
      · rw [hb2] at HDo2 hgo hc
        have HCQ := Lib.hid hc
        have HGO := Lib.hid hgo
        clear hb2 hc hgo hv hq hB hX2
        go_wp2_with fail
        refine HDo2.out.mono ?_
        rintro e w2 ⟨rfl, hb2⟩
        have HG2 := Lib.hid (kb hb2 HG1.out)
        have HR2 := Lib.hid (kb hb2 HR1.out)
        have HB2 := Lib.hid (HB1.out.trans (hb2.mono HB1.out.size))
        clear hb2 f0 f1 c3
        go_wp2_with (first | (refine ld_st HG2.out rfl rfl rfl ?_) | (refine st_st HR2.out rfl rfl rfl rfl rfl ?_; intro W2 hp2; have HP2 := Lib.hid hp2; clear hp2))
        (try simp only [Exit.inBlock, Exit.then])
        exact bodyPost_ret (results_st rfl rfl rfl HP2.out.row) rfl ⟨by rw [HCQ.out, HGO.out]; rfl, HP2.out.below HB2.out (by omega)⟩
      · rw [hb2] at HDo2 hgo hc
        have HCQ := Lib.hid hc
        have HGO := Lib.hid hgo
        clear hb2 hc hgo hv hq hB hX2
        go_wp2_with fail
        refine HDo2.out.mono ?_
        rintro e w2 ⟨rfl, hb2⟩
        have HG2 := Lib.hid (kb hb2 HG1.out)
        have HR2 := Lib.hid (kb hb2 HR1.out)
        have HB2 := Lib.hid (HB1.out.trans (hb2.mono HB1.out.size))
        clear hb2 f0 f1 c3
        go_wp2_with (first | (refine st_fld HSA.out HG2.out (by omega) rfl rfl rfl rfl ?_; intro W1 hp1; have HP1 := Lib.hid hp1; clear hp1) | (refine ld_st HP1.out.row rfl rfl rfl ?_) | (refine st_st (HP1.out.keep (by omega) HR2.out) rfl rfl rfl rfl rfl ?_; intro W2 hp2; have HP2 := Lib.hid hp2; clear hp2))
        (try simp only [Exit.inBlock, Exit.then])
        exact bodyPost_ret (results_st rfl rfl rfl HP2.out.row) rfl ⟨by rw [HCQ.out, HGO.out]; rfl, HP2.out.below (HP1.out.below HB2.out (by omega)) (by omega)⟩
end Go.Proofs.YtmbegncnbjafdaaDoor
