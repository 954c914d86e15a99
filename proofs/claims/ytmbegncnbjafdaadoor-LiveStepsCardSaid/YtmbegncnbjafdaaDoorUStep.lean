/-
  What run.calculate and run.Step answer.
-/
import Derived.Test.YtmbegncnbjafdaaDoorUPlain
import Derived.Test.YtmbegncnbjafdaaDoorRAlu
import Derived.Test.YtmbegncnbjafdaaDoorRefDoAll
import Derived.Test.YtmbegncnbjafdaaDoorDArgs
namespace Go.Proofs.YtmbegncnbjafdaaDoor
open Go.ChangeShapes Go.WideShapes Go.ChangeAt Go.RowKit
set_option maxRecDepth 20000

/-- The state behind arithmetic. -/
def calcS (s : St) (x : X4) : St := if aluB x.op && goesS s x then ⟨(Wd.doV (aluV x.op) s.a (argS s x)).toNat, s.x, s.m⟩ else s
set_option maxHeartbeats 1000000 in
theorem calculate_any (s : St) (op jt jf : Int) (k : Nat) (w : World) (hs : s.ok) (hk : k < 4294967296) (ht : OTab w) :
    Calls Tryd.prog 40 #[s.val, insV op jt jf k] w fun e w' => e = .returned (.tuple #[(calcS s ⟨op, jt, jf, k⟩).val, .bool (goesS s ⟨op, jt, jf, k⟩)]) ∧ Below w.heap.size w w' := by
  obtain ⟨W, hW, hG, hX, hR, hb⟩ := box3 w (stB s) (insB op jt jf k) (stB zeroSt)
  have hz := st_zero
  have HG := Lib.hid hG
  have HX := Lib.hid hX
  have HR := Lib.hid hR
  have HB := Lib.hid hb
  have HT := Lib.hid (ht.below hb)
  obtain ⟨h1, h2, _, _⟩ := hs
  have HA1 := Lib.hid h1
  have HX1 := Lib.hid h2
  clear hG hX hR hb ht h1 h2
  go_enter Tryd.func40, Tryd.ntmps40
  go_upto_region 1 with fail
  rw [← hW]
  clear hW hz
  have c0 := cell_in HX.out 0
  have c1 := cell_in HX.out 1
  have c2 := cell_in HX.out 2
  have c3 := cell_in HX.out 3
  go_wp2_with fail
  refine (alu_is op jt jf k _ HT.out).mono ?_
  rintro e w1 ⟨rfl, hb1⟩
  have HG1 := Lib.hid (kb hb1 HG.out)
  have HXX := Lib.hid (kb hb1 HX.out)
  have HR1 := Lib.hid (kb hb1 HR.out)
  have HB1 := Lib.hid (below2 HB.out (hb1.mono (Nat.le_refl _)))
  clear hb1 c0 c1 c2 c3
  cases hB : aluB op
  · have HC : Hid (calcS s ⟨op, jt, jf, k⟩ = s) := Lib.hid (by simp [calcS, hB])
    have HE : Hid (goesS s ⟨op, jt, jf, k⟩ = true) := Lib.hid (by simp [goesS, hB])
    clear hB
    go_wp2_with (first | (refine ld_st HG1.out rfl rfl rfl ?_) | (refine st_st HR1.out rfl rfl rfl rfl rfl ?_; intro W2 hp2; have HP2 := Lib.hid hp2; clear hp2))
    (try simp only [Exit.inBlock, Exit.then])
    exact bodyPost_ret (results_st rfl rfl rfl HP2.out.row) rfl ⟨by rw [HC.out, HE.out], HP2.out.below HB1.out (by omega)⟩
  · obtain ⟨q, hq⟩ : ∃ q : Nat, argS s ⟨op, jt, jf, k⟩ = q := by
      unfold argS
      split
      · exact ⟨_, rfl⟩
      · exact ⟨_, rfl⟩
    have hq4 : (q : Int) ≤ 4294967295 := by
      rw [← hq]
      unfold argS
      have := HX1.out
      split
      · omega
      · simp only; omega
    have f0 := (cell_in HG1.out 0).trans (st_a s)
    have f1 := (cell_in HG1.out 1).trans (st_x s)
    have c3 := cell_in HXX.out 3
    have hgo : goesS s ⟨op, jt, jf, k⟩ = Wd.doB (aluV op) q := by simp [goesS, hB, hq]
    obtain ⟨v, hv⟩ : ∃ v : Nat, Wd.doV (aluV op) s.a q = v := ⟨(Wd.doV (aluV op) s.a q).toNat, by have := Wd.doV_bd (aluV op) s.a q (by omega) (by have := HA1.out; omega) (by omega); omega⟩
    have hc : calcS s ⟨op, jt, jf, k⟩ = if Wd.doB (aluV op) q then ⟨v, s.x, s.m⟩ else s := by
      simp [calcS, hB, hgo, hq, hv]
    have HD := Lib.hid (do_any (aluV op) s.a q w1 (by omega) (by have := HA1.out; omega) (by omega) hq4)
    rw [hv] at HD
    have HSA := Lib.hid (set_a s v)
    cases hX2 : aluX op
    · have e : q = k := by
        have h : (k : Int) = q := by rw [← hq]; unfold argS; simp [hX2]
        omega
      subst e
      cases hb2 : Wd.doB (aluV op) q
      · rw [hb2] at HD hgo hc
        have HCQ := Lib.hid hc
        have HGO := Lib.hid hgo
        clear hb2 hc hgo hv hq hB hX2
        go_wp2_with fail
        refine HD.out.mono ?_
        rintro e w2 ⟨rfl, rfl⟩
        go_wp2_with (first | (refine ld_st HG1.out rfl rfl rfl ?_) | (refine st_st HR1.out rfl rfl rfl rfl rfl ?_; intro W2 hp2; have HP2 := Lib.hid hp2; clear hp2))
        (try simp only [Exit.inBlock, Exit.then])
        exact bodyPost_ret (results_st rfl rfl rfl HP2.out.row) rfl ⟨by rw [HCQ.out, HGO.out]; rfl, HP2.out.below HB1.out (by omega)⟩
      · rw [hb2] at HD hgo hc
        have HCQ := Lib.hid hc
        have HGO := Lib.hid hgo
        clear hb2 hc hgo hv hq hB hX2
        go_wp2_with fail
        refine HD.out.mono ?_
        rintro e w2 ⟨rfl, rfl⟩
        go_wp2_with (first | (refine st_fld HSA.out HG1.out (by omega) rfl rfl rfl rfl ?_; intro W1 hp1; have HP1 := Lib.hid hp1; clear hp1) | (refine ld_st HP1.out.row rfl rfl rfl ?_) | (refine st_st (HP1.out.keep (by omega) HR1.out) rfl rfl rfl rfl rfl ?_; intro W2 hp2; have HP2 := Lib.hid hp2; clear hp2))
        (try simp only [Exit.inBlock, Exit.then])
        exact bodyPost_ret (results_st rfl rfl rfl HP2.out.row) rfl ⟨by rw [HCQ.out, HGO.out]; rfl, HP2.out.below (HP1.out.below HB1.out (by omega)) (by omega)⟩
    · have e : q = s.x := by
        have h : (s.x : Int) = q := by rw [← hq]; unfold argS; simp [hX2]
        omega
      subst e
      cases hb2 : Wd.doB (aluV op) s.x
      · rw [hb2] at HD hgo hc
        have HCQ := Lib.hid hc
        have HGO := Lib.hid hgo
        clear hb2 hc hgo hv hq hB hX2
        go_wp2_with fail
        refine HD.out.mono ?_
        rintro e w2 ⟨rfl, rfl⟩
        go_wp2_with (first | (refine ld_st HG1.out rfl rfl rfl ?_) | (refine st_st HR1.out rfl rfl rfl rfl rfl ?_; intro W2 hp2; have HP2 := Lib.hid hp2; clear hp2))
        (try simp only [Exit.inBlock, Exit.then])
        exact bodyPost_ret (results_st rfl rfl rfl HP2.out.row) rfl ⟨by rw [HCQ.out, HGO.out]; rfl, HP2.out.below HB1.out (by omega)⟩
      · rw [hb2] at HD hgo hc
        have HCQ := Lib.hid hc
        have HGO := Lib.hid hgo
        clear hb2 hc hgo hv hq hB hX2
        go_wp2_with fail
        refine HD.out.mono ?_
        rintro e w2 ⟨rfl, rfl⟩
        go_wp2_with (first | (refine st_fld HSA.out HG1.out (by omega) rfl rfl rfl rfl ?_; intro W1 hp1; have HP1 := Lib.hid hp1; clear hp1) | (refine ld_st HP1.out.row rfl rfl rfl ?_) | (refine st_st (HP1.out.keep (by omega) HR1.out) rfl rfl rfl rfl rfl ?_; intro W2 hp2; have HP2 := Lib.hid hp2; clear hp2))
        (try simp only [Exit.inBlock, Exit.then])
        exact bodyPost_ret (results_st rfl rfl rfl HP2.out.row) rfl ⟨by rw [HCQ.out, HGO.out]; rfl, HP2.out.below (HP1.out.below HB1.out (by omega)) (by omega)⟩

set_option maxHeartbeats 1000000 in
theorem step_o0 (s : St) (jt jf : Int) (k : Nat) (d : Rec) (w : World) (hs : s.ok) (_hk : k < 4294967296) (hd : d.ok) :
    Calls Tryd.prog 20 #[s.val, insV 0 jt jf k, d.val] w fun e w' => e = .returned (.tuple #[(⟨k, s.x, s.m⟩ : St).val, .bool true]) ∧ Below w.heap.size w w' := by
  obtain ⟨W, hW, hG, hX, hD, hR, hb⟩ := box4 w (stB s) (insB 0 jt jf k) (.cells d.cells 46) (stB zeroSt)
  have hz := st_zero
  have HG := Lib.hid hG
  have HX := Lib.hid hX
  have HD := Lib.hid hD
  have HR := Lib.hid hR
  have HB := Lib.hid hb
  have HSo := Lib.hid hs
  have HDo := Lib.hid hd
  clear hG hX hD hR hb hs hd
  go_enter Tryd.func20, Tryd.ntmps20
  go_upto_region 1 with fail
  rw [← hW]
  clear hW hz
  have c0 := cell_in HX.out 0
  have c3 := cell_in HX.out 3
  go_wp2_with (first | (refine st_fld (set_a s k) HG.out (by omega) rfl rfl rfl rfl ?_; intro W1 hp1; have HP1 := Lib.hid hp1; clear hp1) | (refine ld_st HP1.out.row rfl rfl rfl ?_) | (refine st_st (HP1.out.keep (by omega) HR.out) rfl rfl rfl rfl rfl ?_; intro W2 hp2; have HP2 := Lib.hid hp2; clear hp2))
  (try simp only [Exit.inBlock, Exit.then])
  exact bodyPost_ret (results_st rfl rfl rfl HP2.out.row) rfl ⟨rfl, HP2.out.below (HP1.out.below HB.out (by omega)) (by omega)⟩

set_option maxHeartbeats 1000000 in
theorem step_o1 (s : St) (jt jf : Int) (k : Nat) (d : Rec) (w : World) (hs : s.ok) (_hk : k < 4294967296) (hd : d.ok) :
    Calls Tryd.prog 20 #[s.val, insV 1 jt jf k, d.val] w fun e w' => e = .returned (.tuple #[(⟨s.a, k, s.m⟩ : St).val, .bool true]) ∧ Below w.heap.size w w' := by
  obtain ⟨W, hW, hG, hX, hD, hR, hb⟩ := box4 w (stB s) (insB 1 jt jf k) (.cells d.cells 46) (stB zeroSt)
  have hz := st_zero
  have HG := Lib.hid hG
  have HX := Lib.hid hX
  have HD := Lib.hid hD
  have HR := Lib.hid hR
  have HB := Lib.hid hb
  have HSo := Lib.hid hs
  have HDo := Lib.hid hd
  clear hG hX hD hR hb hs hd
  go_enter Tryd.func20, Tryd.ntmps20
  go_upto_region 1 with fail
  rw [← hW]
  clear hW hz
  have c0 := cell_in HX.out 0
  have c3 := cell_in HX.out 3
  go_wp2_with (first | (refine st_fld (set_x s k) HG.out (by omega) rfl rfl rfl rfl ?_; intro W1 hp1; have HP1 := Lib.hid hp1; clear hp1) | (refine ld_st HP1.out.row rfl rfl rfl ?_) | (refine st_st (HP1.out.keep (by omega) HR.out) rfl rfl rfl rfl rfl ?_; intro W2 hp2; have HP2 := Lib.hid hp2; clear hp2))
  (try simp only [Exit.inBlock, Exit.then])
  exact bodyPost_ret (results_st rfl rfl rfl HP2.out.row) rfl ⟨rfl, HP2.out.below (HP1.out.below HB.out (by omega)) (by omega)⟩

set_option maxHeartbeats 1000000 in
theorem step_o7 (s : St) (jt jf : Int) (k : Nat) (d : Rec) (w : World) (hs : s.ok) (_hk : k < 4294967296) (hd : d.ok) :
    Calls Tryd.prog 20 #[s.val, insV 7 jt jf k, d.val] w fun e w' => e = .returned (.tuple #[(⟨s.a, s.a, s.m⟩ : St).val, .bool true]) ∧ Below w.heap.size w w' := by
  obtain ⟨W, hW, hG, hX, hD, hR, hb⟩ := box4 w (stB s) (insB 7 jt jf k) (.cells d.cells 46) (stB zeroSt)
  have hz := st_zero
  have HG := Lib.hid hG
  have HX := Lib.hid hX
  have HD := Lib.hid hD
  have HR := Lib.hid hR
  have HB := Lib.hid hb
  have HSo := Lib.hid hs
  have HDo := Lib.hid hd
  clear hG hX hD hR hb hs hd
  go_enter Tryd.func20, Tryd.ntmps20
  go_upto_region 1 with fail
  rw [← hW]
  clear hW hz
  have c0 := cell_in HX.out 0
  have c3 := cell_in HX.out 3
  have f0 := (cell_in HG.out 0).trans (st_a s)
  go_wp2_with (first | (refine st_fld (set_x s s.a) HG.out (by omega) rfl rfl rfl rfl ?_; intro W1 hp1; have HP1 := Lib.hid hp1; clear hp1) | (refine ld_st HP1.out.row rfl rfl rfl ?_) | (refine st_st (HP1.out.keep (by omega) HR.out) rfl rfl rfl rfl rfl ?_; intro W2 hp2; have HP2 := Lib.hid hp2; clear hp2))
  (try simp only [Exit.inBlock, Exit.then])
  exact bodyPost_ret (results_st rfl rfl rfl HP2.out.row) rfl ⟨rfl, HP2.out.below (HP1.out.below HB.out (by omega)) (by omega)⟩

set_option maxHeartbeats 1000000 in
theorem step_o135 (s : St) (jt jf : Int) (k : Nat) (d : Rec) (w : World) (hs : s.ok) (_hk : k < 4294967296) (hd : d.ok) :
    Calls Tryd.prog 20 #[s.val, insV 135 jt jf k, d.val] w fun e w' => e = .returned (.tuple #[(⟨s.x, s.x, s.m⟩ : St).val, .bool true]) ∧ Below w.heap.size w w' := by
  obtain ⟨W, hW, hG, hX, hD, hR, hb⟩ := box4 w (stB s) (insB 135 jt jf k) (.cells d.cells 46) (stB zeroSt)
  have hz := st_zero
  have HG := Lib.hid hG
  have HX := Lib.hid hX
  have HD := Lib.hid hD
  have HR := Lib.hid hR
  have HB := Lib.hid hb
  have HSo := Lib.hid hs
  have HDo := Lib.hid hd
  clear hG hX hD hR hb hs hd
  go_enter Tryd.func20, Tryd.ntmps20
  go_upto_region 1 with fail
  rw [← hW]
  clear hW hz
  have c0 := cell_in HX.out 0
  have c3 := cell_in HX.out 3
  have f1 := (cell_in HG.out 1).trans (st_x s)
  go_wp2_with (first | (refine st_fld (set_a s s.x) HG.out (by omega) rfl rfl rfl rfl ?_; intro W1 hp1; have HP1 := Lib.hid hp1; clear hp1) | (refine ld_st HP1.out.row rfl rfl rfl ?_) | (refine st_st (HP1.out.keep (by omega) HR.out) rfl rfl rfl rfl rfl ?_; intro W2 hp2; have HP2 := Lib.hid hp2; clear hp2))
  (try simp only [Exit.inBlock, Exit.then])
  exact bodyPost_ret (results_st rfl rfl rfl HP2.out.row) rfl ⟨rfl, HP2.out.below (HP1.out.below HB.out (by omega)) (by omega)⟩

set_option maxHeartbeats 1000000 in
theorem step_o132 (s : St) (jt jf : Int) (k : Nat) (d : Rec) (w : World) (hs : s.ok) (_hk : k < 4294967296) (hd : d.ok) :
    Calls Tryd.prog 20 #[s.val, insV 132 jt jf k, d.val] w fun e w' => e = .returned (.tuple #[(⟨((-(s.a : Int)) % 4294967296).toNat, s.x, s.m⟩ : St).val, .bool true]) ∧ Below w.heap.size w w' := by
  obtain ⟨W, hW, hG, hX, hD, hR, hb⟩ := box4 w (stB s) (insB 132 jt jf k) (.cells d.cells 46) (stB zeroSt)
  have hz := st_zero
  have HG := Lib.hid hG
  have HX := Lib.hid hX
  have HD := Lib.hid hD
  have HR := Lib.hid hR
  have HB := Lib.hid hb
  have HSo := Lib.hid hs
  have HDo := Lib.hid hd
  clear hG hX hD hR hb hs hd
  go_enter Tryd.func20, Tryd.ntmps20
  go_upto_region 1 with fail
  rw [← hW]
  clear hW hz
  have c0 := cell_in HX.out 0
  have c3 := cell_in HX.out 3
  have f0 := (cell_in HG.out 0).trans (st_a s)
  obtain ⟨v, hv⟩ : ∃ v : Nat, (-(s.a : Int)) % 4294967296 = v := ⟨((-(s.a : Int)) % 4294967296).toNat, by omega⟩
  have HN := Lib.hid (neg_any s.a W)
  rw [hv] at HN
  have HV := Lib.hid hv
  clear hv
  go_wp2_with fail
  refine HN.out.mono ?_
  rintro e w1 ⟨rfl, rfl⟩
  go_wp2_with (first | (refine st_fld (set_a s v) HG.out (by omega) rfl rfl rfl rfl ?_; intro W1 hp1; have HP1 := Lib.hid hp1; clear hp1) | (refine ld_st HP1.out.row rfl rfl rfl ?_) | (refine st_st (HP1.out.keep (by omega) HR.out) rfl rfl rfl rfl rfl ?_; intro W2 hp2; have HP2 := Lib.hid hp2; clear hp2))
  (try simp only [Exit.inBlock, Exit.then])
  exact bodyPost_ret (results_st rfl rfl rfl HP2.out.row) rfl ⟨by rw [HV.out]; rfl, HP2.out.below (HP1.out.below HB.out (by omega)) (by omega)⟩

set_option maxHeartbeats 1000000 in
theorem step_o32 (s : St) (jt jf : Int) (k : Nat) (d : Rec) (w : World) (hs : s.ok) (hk : k < 4294967296) (hd : d.ok) :
    Calls Tryd.prog 20 #[s.val, insV 32 jt jf k, d.val] w fun e w' => e = .returned (.tuple #[(⟨wordAtD d k, s.x, s.m⟩ : St).val, .bool true]) ∧ Below w.heap.size w w' := by
  obtain ⟨W, hW, hG, hX, hD, hR, hb⟩ := box4 w (stB s) (insB 32 jt jf k) (.cells d.cells 46) (stB zeroSt)
  have hz := st_zero
  have HG := Lib.hid hG
  have HX := Lib.hid hX
  have HD := Lib.hid hD
  have HR := Lib.hid hR
  have HB := Lib.hid hb
  have HSo := Lib.hid hs
  have HDo := Lib.hid hd
  clear hG hX hD hR hb hs hd
  go_enter Tryd.func20, Tryd.ntmps20
  go_upto_region 1 with fail
  rw [← hW]
  clear hW hz
  have c0 := cell_in HX.out 0
  have c3 := cell_in HX.out 3
  obtain ⟨x0, x1, x2, x3, x4, x5, x6, x7, x8⟩ := rec_cells HD.out
  go_wp2_with fail
  refine (word_any d k _ HDo.out hk).mono ?_
  rintro e w1 ⟨rfl, hb1⟩
  have HG1 := Lib.hid (kb hb1 HG.out)
  have HR1 := Lib.hid (kb hb1 HR.out)
  have HB1 := Lib.hid (below2 HB.out (hb1.mono (Nat.le_refl _)))
  clear hb1 c0 c3 x0 x1 x2 x3 x4 x5 x6 x7 x8
  obtain ⟨v, hv⟩ : ∃ v, v = wordAtD d k := ⟨_, rfl⟩
  rw [← hv]
  have HV := Lib.hid hv
  clear hv
  go_wp2_with (first | (refine st_fld (set_a s v) HG1.out (by omega) rfl rfl rfl rfl ?_; intro W1 hp1; have HP1 := Lib.hid hp1; clear hp1) | (refine ld_st HP1.out.row rfl rfl rfl ?_) | (refine st_st (HP1.out.keep (by omega) HR1.out) rfl rfl rfl rfl rfl ?_; intro W2 hp2; have HP2 := Lib.hid hp2; clear hp2))
  (try simp only [Exit.inBlock, Exit.then])
  exact bodyPost_ret (results_st rfl rfl rfl HP2.out.row) rfl ⟨by rw [HV.out], HP2.out.below (HP1.out.below HB1.out (by omega)) (by omega)⟩

set_option maxHeartbeats 1000000 in
theorem step_o96 (s : St) (jt jf : Int) (k : Nat) (d : Rec) (w : World) (hs : s.ok) (hk : k < 4294967296) (hd : d.ok) :
    Calls Tryd.prog 20 #[s.val, insV 96 jt jf k, d.val] w fun e w' => e = .returned (.tuple #[(⟨mAt s.m k, s.x, s.m⟩ : St).val, .bool true]) ∧ Below w.heap.size w w' := by
  obtain ⟨W, hW, hG, hX, hD, hR, hb⟩ := box4 w (stB s) (insB 96 jt jf k) (.cells d.cells 46) (stB zeroSt)
  have hz := st_zero
  have HG := Lib.hid hG
  have HX := Lib.hid hX
  have HD := Lib.hid hD
  have HR := Lib.hid hR
  have HB := Lib.hid hb
  have HSo := Lib.hid hs
  have HDo := Lib.hid hd
  clear hG hX hD hR hb hs hd
  go_enter Tryd.func20, Tryd.ntmps20
  go_upto_region 1 with fail
  rw [← hW]
  clear hW hz
  have c0 := cell_in HX.out 0
  have c3 := cell_in HX.out 3
  go_wp2_with (refine ld_st HG.out rfl rfl rfl ?_)
  refine (cell_any s k _ HSo.out hk).mono ?_
  rintro e w1 ⟨rfl, hb1⟩
  have HG1 := Lib.hid (kb hb1 HG.out)
  have HR1 := Lib.hid (kb hb1 HR.out)
  have HB1 := Lib.hid (below2 HB.out (hb1.mono (Nat.le_refl _)))
  clear hb1 c0 c3
  obtain ⟨v, hv⟩ : ∃ v, v = mAt s.m k := ⟨_, rfl⟩
  rw [← hv]
  have HV := Lib.hid hv
  clear hv
  go_wp2_with (first | (refine st_fld (set_a s v) HG1.out (by omega) rfl rfl rfl rfl ?_; intro W1 hp1; have HP1 := Lib.hid hp1; clear hp1) | (refine ld_st HP1.out.row rfl rfl rfl ?_) | (refine st_st (HP1.out.keep (by omega) HR1.out) rfl rfl rfl rfl rfl ?_; intro W2 hp2; have HP2 := Lib.hid hp2; clear hp2))
  (try simp only [Exit.inBlock, Exit.then])
  exact bodyPost_ret (results_st rfl rfl rfl HP2.out.row) rfl ⟨by rw [HV.out], HP2.out.below (HP1.out.below HB1.out (by omega)) (by omega)⟩

set_option maxHeartbeats 1000000 in
theorem step_o97 (s : St) (jt jf : Int) (k : Nat) (d : Rec) (w : World) (hs : s.ok) (hk : k < 4294967296) (hd : d.ok) :
    Calls Tryd.prog 20 #[s.val, insV 97 jt jf k, d.val] w fun e w' => e = .returned (.tuple #[(⟨s.a, mAt s.m k, s.m⟩ : St).val, .bool true]) ∧ Below w.heap.size w w' := by
  obtain ⟨W, hW, hG, hX, hD, hR, hb⟩ := box4 w (stB s) (insB 97 jt jf k) (.cells d.cells 46) (stB zeroSt)
  have hz := st_zero
  have HG := Lib.hid hG
  have HX := Lib.hid hX
  have HD := Lib.hid hD
  have HR := Lib.hid hR
  have HB := Lib.hid hb
  have HSo := Lib.hid hs
  have HDo := Lib.hid hd
  clear hG hX hD hR hb hs hd
  go_enter Tryd.func20, Tryd.ntmps20
  go_upto_region 1 with fail
  rw [← hW]
  clear hW hz
  have c0 := cell_in HX.out 0
  have c3 := cell_in HX.out 3
  go_wp2_with (refine ld_st HG.out rfl rfl rfl ?_)
  refine (cell_any s k _ HSo.out hk).mono ?_
  rintro e w1 ⟨rfl, hb1⟩
  have HG1 := Lib.hid (kb hb1 HG.out)
  have HR1 := Lib.hid (kb hb1 HR.out)
  have HB1 := Lib.hid (below2 HB.out (hb1.mono (Nat.le_refl _)))
  clear hb1 c0 c3
  obtain ⟨v, hv⟩ : ∃ v, v = mAt s.m k := ⟨_, rfl⟩
  rw [← hv]
  have HV := Lib.hid hv
  clear hv
  go_wp2_with (first | (refine st_fld (set_x s v) HG1.out (by omega) rfl rfl rfl rfl ?_; intro W1 hp1; have HP1 := Lib.hid hp1; clear hp1) | (refine ld_st HP1.out.row rfl rfl rfl ?_) | (refine st_st (HP1.out.keep (by omega) HR1.out) rfl rfl rfl rfl rfl ?_; intro W2 hp2; have HP2 := Lib.hid hp2; clear hp2))
  (try simp only [Exit.inBlock, Exit.then])
  exact bodyPost_ret (results_st rfl rfl rfl HP2.out.row) rfl ⟨by rw [HV.out], HP2.out.below (HP1.out.below HB1.out (by omega)) (by omega)⟩

set_option maxHeartbeats 1000000 in
theorem step_o2 (s : St) (jt jf : Int) (k : Nat) (d : Rec) (w : World) (hs : s.ok) (hk : k < 4294967296) (hd : d.ok) :
    Calls Tryd.prog 20 #[s.val, insV 2 jt jf k, d.val] w fun e w' => e = .returned (.tuple #[(⟨s.a, s.x, s.m.set k s.a⟩ : St).val, .bool true]) ∧ Below w.heap.size w w' := by
  obtain ⟨W, hW, hG, hX, hD, hR, hb⟩ := box4 w (stB s) (insB 2 jt jf k) (.cells d.cells 46) (stB zeroSt)
  have hz := st_zero
  have HG := Lib.hid hG
  have HX := Lib.hid hX
  have HD := Lib.hid hD
  have HR := Lib.hid hR
  have HB := Lib.hid hb
  have HSo := Lib.hid hs
  have HDo := Lib.hid hd
  clear hG hX hD hR hb hs hd
  go_enter Tryd.func20, Tryd.ntmps20
  go_upto_region 1 with fail
  rw [← hW]
  clear hW hz
  have c0 := cell_in HX.out 0
  have c3 := cell_in HX.out 3
  have f0 := (cell_in HG.out 0).trans (st_a s)
  go_wp2_with (refine ld_st HG.out rfl rfl rfl ?_)
  refine (withCell_any s k s.a _ HSo.out hk).mono ?_
  rintro e w1 ⟨rfl, hb1⟩
  have HG1 := Lib.hid (kb hb1 HG.out)
  have HR1 := Lib.hid (kb hb1 HR.out)
  have HB1 := Lib.hid (below2 HB.out (hb1.mono (Nat.le_refl _)))
  clear hb1 c0 c3 f0
  go_wp2_with (first | (refine st_st HG1.out rfl rfl rfl rfl rfl ?_; intro W1 hp1; have HP1 := Lib.hid hp1; clear hp1) | (refine ld_st HP1.out.row rfl rfl rfl ?_) | (refine st_st (HP1.out.keep (by omega) HR1.out) rfl rfl rfl rfl rfl ?_; intro W2 hp2; have HP2 := Lib.hid hp2; clear hp2))
  (try simp only [Exit.inBlock, Exit.then])
  exact bodyPost_ret (results_st rfl rfl rfl HP2.out.row) rfl ⟨rfl, HP2.out.below (HP1.out.below HB1.out (by omega)) (by omega)⟩

set_option maxHeartbeats 1000000 in
theorem step_o3 (s : St) (jt jf : Int) (k : Nat) (d : Rec) (w : World) (hs : s.ok) (hk : k < 4294967296) (hd : d.ok) :
    Calls Tryd.prog 20 #[s.val, insV 3 jt jf k, d.val] w fun e w' => e = .returned (.tuple #[(⟨s.a, s.x, s.m.set k s.x⟩ : St).val, .bool true]) ∧ Below w.heap.size w w' := by
  obtain ⟨W, hW, hG, hX, hD, hR, hb⟩ := box4 w (stB s) (insB 3 jt jf k) (.cells d.cells 46) (stB zeroSt)
  have hz := st_zero
  have HG := Lib.hid hG
  have HX := Lib.hid hX
  have HD := Lib.hid hD
  have HR := Lib.hid hR
  have HB := Lib.hid hb
  have HSo := Lib.hid hs
  have HDo := Lib.hid hd
  clear hG hX hD hR hb hs hd
  go_enter Tryd.func20, Tryd.ntmps20
  go_upto_region 1 with fail
  rw [← hW]
  clear hW hz
  have c0 := cell_in HX.out 0
  have c3 := cell_in HX.out 3
  have f1 := (cell_in HG.out 1).trans (st_x s)
  go_wp2_with (refine ld_st HG.out rfl rfl rfl ?_)
  refine (withCell_any s k s.x _ HSo.out hk).mono ?_
  rintro e w1 ⟨rfl, hb1⟩
  have HG1 := Lib.hid (kb hb1 HG.out)
  have HR1 := Lib.hid (kb hb1 HR.out)
  have HB1 := Lib.hid (below2 HB.out (hb1.mono (Nat.le_refl _)))
  clear hb1 c0 c3 f1
  go_wp2_with (first | (refine st_st HG1.out rfl rfl rfl rfl rfl ?_; intro W1 hp1; have HP1 := Lib.hid hp1; clear hp1) | (refine ld_st HP1.out.row rfl rfl rfl ?_) | (refine st_st (HP1.out.keep (by omega) HR1.out) rfl rfl rfl rfl rfl ?_; intro W2 hp2; have HP2 := Lib.hid hp2; clear hp2))
  (try simp only [Exit.inBlock, Exit.then])
  exact bodyPost_ret (results_st rfl rfl rfl HP2.out.row) rfl ⟨rfl, HP2.out.below (HP1.out.below HB1.out (by omega)) (by omega)⟩

set_option maxHeartbeats 1000000 in
theorem step_else (s : St) (op jt jf : Int) (k : Nat) (d : Rec) (w : World) (hs : s.ok) (hk : k < 4294967296) (hd : d.ok) (ht : OTab w) (h0 : (op == 0) = false) (h1 : (op == 1) = false) (h32 : (op == 32) = false) (h96 : (op == 96) = false) (h97 : (op == 97) = false) (h2 : (op == 2) = false) (h3 : (op == 3) = false) (h7 : (op == 7) = false) (h135 : (op == 135) = false) (h132 : (op == 132) = false) :
    Calls Tryd.prog 20 #[s.val, insV op jt jf k, d.val] w fun e w' => e = .returned (.tuple #[(calcS s ⟨op, jt, jf, k⟩).val, .bool (goesS s ⟨op, jt, jf, k⟩)]) ∧ Below w.heap.size w w' := by
  obtain ⟨W, hW, hG, hX, hD, hR, hb⟩ := box4 w (stB s) (insB op jt jf k) (.cells d.cells 46) (stB zeroSt)
  have hz := st_zero
  have HG := Lib.hid hG
  have HX := Lib.hid hX
  have HD := Lib.hid hD
  have HR := Lib.hid hR
  have HB := Lib.hid hb
  have HT := Lib.hid (ht.below hb)
  have HSo := Lib.hid hs
  have HDo := Lib.hid hd
  clear ht hG hX hD hR hb hs hd
  go_enter Tryd.func20, Tryd.ntmps20
  go_upto_region 1 with fail
  rw [← hW]
  clear hW hz
  have c0 := cell_in HX.out 0
  have c3 := cell_in HX.out 3
  have c1 := cell_in HX.out 1
  have c2 := cell_in HX.out 2
  go_wp2_with (refine ld_st HG.out rfl rfl rfl ?_)
  refine (calculate_any s op jt jf k _ HSo.out hk HT.out).mono ?_
  rintro e w1 ⟨rfl, hb1⟩
  have HR1 := Lib.hid (kb hb1 HR.out)
  have HB1 := Lib.hid (below2 HB.out (hb1.mono (Nat.le_refl _)))
  clear hb1 c0 c1 c2 c3
  obtain ⟨s', hs'⟩ : ∃ s', s' = calcS s ⟨op, jt, jf, k⟩ := ⟨_, rfl⟩
  obtain ⟨g', hg'⟩ : ∃ g', g' = goesS s ⟨op, jt, jf, k⟩ := ⟨_, rfl⟩
  rw [← hs', ← hg']
  have HS' := Lib.hid hs'
  have HG' := Lib.hid hg'
  clear hs' hg'
  go_wp2_with (refine st_st HR1.out rfl rfl rfl rfl rfl ?_; intro W2 hp2; have HP2 := Lib.hid hp2; clear hp2)
  (try simp only [Exit.inBlock, Exit.then])
  exact bodyPost_ret (results_st rfl rfl rfl HP2.out.row) rfl ⟨by rw [HS'.out, HG'.out], HP2.out.below HB1.out (by omega)⟩

theorem alu_o : aluB 0 = false ∧ aluB 1 = false ∧ aluB 32 = false ∧ aluB 96 = false ∧ aluB 97 = false ∧ aluB 2 = false ∧ aluB 3 = false ∧ aluB 7 = false ∧ aluB 135 = false ∧ aluB 132 = false := by decide
theorem step_any (s : St) (op jt jf : Int) (k : Nat) (d : Rec) (w : World) (hs : s.ok) (hk : k < 4294967296) (hd : d.ok) (ht : OTab w) :
    Calls Tryd.prog 20 #[s.val, insV op jt jf k, d.val] w fun e w' => e = .returned (.tuple #[(stepS s ⟨op, jt, jf, k⟩ d).val, .bool (goesS s ⟨op, jt, jf, k⟩)]) ∧ Below w.heap.size w w' := by
  obtain ⟨a0, a1, a32, a96, a97, a2, a3, a7, a135, a132⟩ := alu_o
  by_cases e0 : op = 0
  · subst e0
    have hg : goesS s ⟨0, jt, jf, k⟩ = true := by simp [goesS, a0]
    refine (step_o0 s jt jf k d w hs hk hd).mono fun e w' h => ⟨h.1.trans ?_, h.2⟩
    rw [hg]
    simp [stepS, a0]
  by_cases e1 : op = 1
  · subst e1
    have hg : goesS s ⟨1, jt, jf, k⟩ = true := by simp [goesS, a1]
    refine (step_o1 s jt jf k d w hs hk hd).mono fun e w' h => ⟨h.1.trans ?_, h.2⟩
    rw [hg]
    simp [stepS, a1]
  by_cases e32 : op = 32
  · subst e32
    have hg : goesS s ⟨32, jt, jf, k⟩ = true := by simp [goesS, a32]
    refine (step_o32 s jt jf k d w hs hk hd).mono fun e w' h => ⟨h.1.trans ?_, h.2⟩
    rw [hg]
    simp [stepS, a32]
  by_cases e96 : op = 96
  · subst e96
    have hg : goesS s ⟨96, jt, jf, k⟩ = true := by simp [goesS, a96]
    refine (step_o96 s jt jf k d w hs hk hd).mono fun e w' h => ⟨h.1.trans ?_, h.2⟩
    rw [hg]
    simp [stepS, a96, mAt]
  by_cases e97 : op = 97
  · subst e97
    have hg : goesS s ⟨97, jt, jf, k⟩ = true := by simp [goesS, a97]
    refine (step_o97 s jt jf k d w hs hk hd).mono fun e w' h => ⟨h.1.trans ?_, h.2⟩
    rw [hg]
    simp [stepS, a97, mAt]
  by_cases e2 : op = 2
  · subst e2
    have hg : goesS s ⟨2, jt, jf, k⟩ = true := by simp [goesS, a2]
    refine (step_o2 s jt jf k d w hs hk hd).mono fun e w' h => ⟨h.1.trans ?_, h.2⟩
    rw [hg]
    simp [stepS, a2]
  by_cases e3 : op = 3
  · subst e3
    have hg : goesS s ⟨3, jt, jf, k⟩ = true := by simp [goesS, a3]
    refine (step_o3 s jt jf k d w hs hk hd).mono fun e w' h => ⟨h.1.trans ?_, h.2⟩
    rw [hg]
    simp [stepS, a3]
  by_cases e7 : op = 7
  · subst e7
    have hg : goesS s ⟨7, jt, jf, k⟩ = true := by simp [goesS, a7]
    refine (step_o7 s jt jf k d w hs hk hd).mono fun e w' h => ⟨h.1.trans ?_, h.2⟩
    rw [hg]
    simp [stepS, a7]
  by_cases e135 : op = 135
  · subst e135
    have hg : goesS s ⟨135, jt, jf, k⟩ = true := by simp [goesS, a135]
    refine (step_o135 s jt jf k d w hs hk hd).mono fun e w' h => ⟨h.1.trans ?_, h.2⟩
    rw [hg]
    simp [stepS, a135]
  by_cases e132 : op = 132
  · subst e132
    have hg : goesS s ⟨132, jt, jf, k⟩ = true := by simp [goesS, a132]
    refine (step_o132 s jt jf k d w hs hk hd).mono fun e w' h => ⟨h.1.trans ?_, h.2⟩
    rw [hg]
    simp [stepS, a132]
  have hst : stepS s ⟨op, jt, jf, k⟩ d = calcS s ⟨op, jt, jf, k⟩ := by
    unfold stepS calcS
    cases hB : aluB op
    · simp [e0, e1, e32, e96, e97, e2, e3, e7, e135, e132]
    · simp
  rw [hst]
  exact step_else s op jt jf k d w hs hk hd ht (by simpa using e0) (by simpa using e1) (by simpa using e32) (by simpa using e96) (by simpa using e97) (by simpa using e2) (by simpa using e3) (by simpa using e7) (by simpa using e135) (by simpa using e132)

end Go.Proofs.YtmbegncnbjafdaaDoor
