/-
  For every instruction, any two states and every record, in every world that has the table of package ins as its initialiser lays it: the law LiveSteps returns true and changes nothing that was there.
-/
import Derived.Test.YtmbegncnbjafdaaDoorVFrame
import Derived.Lib.QuietBelow
import Derived.Deep.RegionHeld3
namespace Go.Proofs.YtmbegncnbjafdaaDoor.liveSteps
open Go.ChangeShapes Go.WideShapes Go.ChangeAt Go.RowKit

section
variable {ops : Array Oper} {o : Oper} {a : Act} {S : World → Prop}
theorem yi_row {g : Nat} {ty : TypeId} {x : Operand} {cs : Array Value} (hw : Region.wanted o (yielded ops a.tmps) = true) (ho : o.op = .load ty x) (hx : a.eval x = .pointer (some ⟨g, 0, none⟩)) (hS : ∀ V, S V → (loadVar ty ⟨g, 0, none⟩).run Tryd.prog V = .ok (.agg cs) V) : YieldsIf Tryd.prog ops S o (.agg cs) a :=
  .inl ⟨hw, fun V hV => by
    unfold execOp
    simp only [ho, hx, Instr.loadAt, Instr.sureAddr, Sem.run_bind, Sem.run_pure, Result.andThen_ok, hS V hV]⟩
end
section
variable {o : Oper} {a : Act} {w : World} {K : Act → World → Prop} {Q : Exit → Act → World → Prop}
theorem wp_put {g : Nat} {s : St} {old : Array Value} {x y : Operand} (hG : w.heap[g]? = some (.cells old 42)) (hold : old.size = 18) (ho : o.op = .store 42 x y) (hx : a.eval x = .pointer (some ⟨g, 0, none⟩)) (hy : a.eval y = s.val)
    (h : ∀ w', RowPut w w' g (stB s) → K (a.put o.dst undef) w') : o.wp Tryd.prog a w K Q :=
  wp_store_row 42 x y ho g (stC s) hx hy 42 old hG (by rw [st_size]; exact infoSt) (by rw [st_size]; exact hold) (st_one s) (h _ (rowPut_set hG _))
end
theorem tk {ops : Array Oper} {Q : Exit → Act → World → Prop} {md : Region.Mode} {S : World → Prop} {i : Nat} {oi : Oper} {v : Value} (q : Option Tmp) {fuel : Nat} {listed : Array Bool} {a : Act} {w : World} (hi : ops[i]? = some oi) (hq : oi.dst = q)
    (hs : Region.noSelect ops = true) (hf : Region.free md ops listed i = true) (hr : (Region.ready md ops listed).contains i = true)
    (hQ : ∀ c a w, Q (.panic c) (a.put oi.dst v) w → Q (.panic c) a w) (hy : YieldsIf Tryd.prog ops S oi v a) (hS : S w)
    (h : wpAnyH Tryd.prog md ops Q S fuel (listed.setIfInBounds i true) (a.put q v) w) : wpAnyH Tryd.prog md ops Q S (fuel + 1) listed a w :=
  wpAnyH_take hi hs hf hr hQ hy hS (by rw [hq]; exact h)
theorem infoIn : (Tryd.prog.info? 24).map (·.size) = some 4 := by kernel_rfl
theorem infoDa : (Tryd.prog.info? 46).map (·.size) = some 9 := by kernel_rfl
theorem lv_st {V : World} {g : Nat} {s : St} (h : V.heap[g]? = some (stB s)) : (loadVar 42 ⟨g, 0, none⟩).run Tryd.prog V = .ok s.val V :=
  run_loadVar_row V g 42 42 (stC s) (0, 0) _ h Tryd.underlying42 rfl (by rw [st_size]; exact infoSt)
theorem lv_ins {V : World} {g : Nat} {op jt jf k : Int} (h : V.heap[g]? = some (insB op jt jf k)) : (loadVar 24 ⟨g, 0, none⟩).run Tryd.prog V = .ok (insV op jt jf k) V :=
  run_loadVar_row V g 24 24 _ (0, 0) _ h Tryd.underlying24 rfl infoIn
theorem lv_rec {V : World} {g : Nat} {d : Rec} (h : V.heap[g]? = some (.cells d.cells 46)) : (loadVar 46 ⟨g, 0, none⟩).run Tryd.prog V = .ok d.val V :=
  run_loadVar_row V g 46 46 _ (0, 0) _ h Tryd.underlying46 rfl infoDa
theorem step_stop {s : St} {x : X4} {d : Rec} (h : goesS s x = false) : stepS s x d = s := by
  have ha : aluB x.op = true := by
    cases ha : aluB x.op
    · unfold goesS at h
      rw [ha] at h
      simp at h
    · rfl
  unfold stepS
  rw [if_pos ha, h]
  rfl
set_option maxRecDepth 20000 in
set_option maxHeartbeats 16000000 in
theorem walk_nat (op jt jf : Int) (k : Nat) (s t : St) (d : Rec) (w : World) (hk : k < 4294967296) (hso : s.ok) (hto : t.ok) (hd : d.ok) (ht : OTab w) :
    Calls Tryd.prog 6 #[insV op jt jf k, s.val, t.val, d.val] w fun e w' => e = .returned (.bool true) ∧ Below w.heap.size w w' := by
  obtain ⟨W, hW, hX, hS, hT, hD, hb⟩ := box4 w (insB op jt jf k) (stB s) (stB t) (.cells d.cells 46)
  have hz := st_zero
  have HX := Lib.hid hX
  have HS := Lib.hid hS
  have HT := Lib.hid hT
  have HD := Lib.hid hD
  have HB := Lib.hid hb
  have HTab := Lib.hid ht
  have HSo := Lib.hid hso
  have HTo := Lib.hid hto
  have HDo := Lib.hid hd
  have hxo : (⟨op, jt, jf, (k : Int)⟩ : X4).ok := ⟨by show (0 : Int) ≤ k; omega, by show (k : Int) ≤ 4294967295; omega⟩
  have HXo := Lib.hid hxo
  have HSo' := Lib.hid (stepS_ok hso hxo hd)
  clear hX hS hT hD hb ht hso hto hd hxo
  go_enter Tryd.func6, Tryd.ntmps6
  go_upto_region 1 with fail
  rw [← hW]
  clear hW
  obtain ⟨c0, c1, c2, c3⟩ := insX HX.out
  obtain ⟨x0, x1, x2, x3, x4, x5, x6, x7, x8⟩ := rec_cells HD.out
  go_wp2_with (refine ld_st HS.out rfl rfl rfl ?_)
  refine (step_any s op jt jf k d _ HSo.out hk HDo.out (HTab.out.below HB.out)).mono ?_
  rintro e w1 ⟨rfl, hb1⟩
  obtain ⟨s', hs'⟩ : ∃ s', s' = stepS s ⟨op, jt, jf, k⟩ d := ⟨_, rfl⟩
  obtain ⟨g', hg'⟩ : ∃ g', g' = goesS s ⟨op, jt, jf, k⟩ := ⟨_, rfl⟩
  rw [← hs'] at HSo' ⊢
  rw [← hg']
  have HS' := Lib.hid hs'
  have HG' := Lib.hid hg'
  have HX1 := Lib.hid (ka (stB zeroSt) (kb hb1 HX.out))
  have HS1 := Lib.hid (ka (stB zeroSt) (kb hb1 HS.out))
  have HT1 := Lib.hid (ka (stB zeroSt) (kb hb1 HT.out))
  have HD1 := Lib.hid (ka (stB zeroSt) (kb hb1 HD.out))
  have HB1 := Lib.hid (ba (stB zeroSt) (HB.out.trans (hb1.mono HB.out.size)))
  have HN1 := Lib.hid (heap_alloc_new w1 (stB zeroSt))
  have hz1 : w.heap.size + 3 < w1.heap.size := lt_of_block (kb hb1 HD.out)
  clear hb1 hs' hg' c0 c1 c2 c3 x0 x1 x2 x3 x4 x5 x6 x7 x8
  go_upto_region 2 with (refine st_st HN1.out rfl rfl rfl rfl rfl ?_; intro W2 hp2; have HP2 := Lib.hid hp2; clear hp2)
  have HU2 := Lib.hid HP2.out.row
  have HX2 := Lib.hid (HP2.out.keep (by omega) HX1.out)
  have HS2 := Lib.hid (HP2.out.keep (by omega) HS1.out)
  have HT2 := Lib.hid (HP2.out.keep (by omega) HT1.out)
  have HD2 := Lib.hid (HP2.out.keep (by omega) HD1.out)
  have HB2 := Lib.hid (HP2.out.below HB1.out (by omega))
  clear HX1 HS1 HT1 HD1 HB1 HN1 HP2 HX HS HT HD HB
  obtain ⟨gu, hgu⟩ : ∃ gu, gu = w1.heap.size := ⟨_, rfl⟩
  rw [← hgu] at HU2 ⊢
  have hguz := lt_of_block HU2.out
  have HTW := Lib.hid (HTab.out.below HB2.out)
  have HMO := Lib.hid (mix_ok (P := usesP ⟨op, jt, jf, k⟩) HSo.out HTo.out)
  obtain ⟨U, hU⟩ : ∃ U, U = useM ⟨op, jt, jf, k⟩ := ⟨_, rfl⟩
  obtain ⟨Y, hY⟩ : ∃ Y, Y = mixS (usesP ⟨op, jt, jf, k⟩) s t := ⟨_, rfl⟩
  obtain ⟨V', hV'⟩ : ∃ V', V' = stepS Y ⟨op, jt, jf, k⟩ d := ⟨_, rfl⟩
  have HVo : Hid V'.ok := Lib.hid (by rw [hV', hY]; exact stepS_ok HMO.out HXo.out HDo.out)
  have HCU : Hid (∀ V, Below W2.heap.size W2 V → Calls Tryd.prog 10 #[insV op jt jf k] V fun e w' => e = .returned (.int .u32 (U : Int)) ∧ Below W2.heap.size W2 w' ∧ Below V.heap.size V w') := Lib.hid (fun V hV => (luses_any op jt jf k V (HTW.out.below hV)).mono fun e w' h => ⟨by rw [hU]; exact h.1, below2 hV h.2, h.2⟩)
  have HCM : Hid (∀ V, Below W2.heap.size W2 V → Calls Tryd.prog 19 #[.int .u32 (U : Int), s.val, t.val] V fun e w' => e = .returned Y.val ∧ Below W2.heap.size W2 w' ∧ Below V.heap.size V w') := Lib.hid (fun V hV => (rmix_any U s t V (by rw [hU]; exact maskN_u32 _) HTo.out.2.2.1).mono fun e w' h => ⟨by rw [hY, ← mix_mask, ← show U = maskN (usesP ⟨op, jt, jf, k⟩) 18 from hU]; exact h.1, below2 hV h.2, h.2⟩)
  have HCT : Hid (∀ V, Below W2.heap.size W2 V → Calls Tryd.prog 20 #[Y.val, insV op jt jf k, d.val] V fun e w' => e = .returned (.tuple #[V'.val, .bool g']) ∧ Below W2.heap.size W2 w' ∧ Below V.heap.size V w') := Lib.hid (fun V hV => (step_any Y op jt jf k d V (by rw [hY]; exact HMO.out) hk HDo.out (HTW.out.below hV)).mono fun e w' h => ⟨by rw [HG'.out, ← goes_mix s t ⟨op, jt, jf, k⟩, ← hY, hV']; exact h.1, below2 hV h.2, h.2⟩)
  have HMA : Hid (mixS (fun i => (setM ⟨op, jt, jf, k⟩).testBit i) s' s = s') := Lib.hid (by
    rw [show setM ⟨op, jt, jf, k⟩ = maskN (setsP ⟨op, jt, jf, k⟩) 18 from rfl, mix_mask, HS'.out]
    exact step_mix s ⟨op, jt, jf, k⟩ d HSo.out.2.2.1)
  have HMB : Hid (g' = true → mixS (fun i => (setM ⟨op, jt, jf, k⟩).testBit i) V' s' = s') := Lib.hid (fun hg => by
    rw [show setM ⟨op, jt, jf, k⟩ = maskN (setsP ⟨op, jt, jf, k⟩) 18 from rfl, mix_mask, HS'.out, hV', hY]
    exact step_mix2 s t ⟨op, jt, jf, k⟩ d HSo.out.2.2.1 (HG'.out.symm.trans hg))
  have HCS : Hid (∀ V, OTab V → Calls Tryd.prog 11 #[insV op jt jf k] V fun e w' => e = .returned (.int .u32 (setM ⟨op, jt, jf, k⟩ : Nat)) ∧ Below V.heap.size V w') := Lib.hid (fun V hV => lsets_any op jt jf k V hV)
  have HCM3 : Hid (g' = true → ∀ V, Calls Tryd.prog 19 #[.int .u32 (setM ⟨op, jt, jf, k⟩ : Nat), V'.val, s'.val] V fun e w' => e = .returned s'.val ∧ Below V.heap.size V w') := Lib.hid (fun hg V => (rmix_any (setM ⟨op, jt, jf, k⟩) V' s' V (maskN_u32 _) HSo'.out.2.2.1).mono fun e w' h => ⟨by rw [← HMB.out hg]; exact h.1, h.2⟩)
  clear hgu hU hY hV'
  have hz := st_zero
  refine wp_region_held_drew (S := fun V => Below W2.heap.size W2 V) (by kernel_rfl) ?_ (fun hHeld => ?_)
  · exact bdN (Below.refl _ _) 1
  refine tk (i := 0) (some 21) rfl rfl (by kernel_rfl) (by kernel_rfl) (by kernel_rfl) (fun _ _ _ h => h) (yi_row (by rfl) (by rfl) (by rfl) (fun V hV => lv_ins (kb hV HX2.out))) hHeld ?_
  simp only [Act.put, List.setIfInBounds_toArray, List.set_cons_zero, List.set_cons_succ]
  refine tk (i := 2) (some 23) rfl rfl (by kernel_rfl) (by kernel_rfl) (by kernel_rfl) (fun _ _ _ h => h) (yi_row (by rfl) (by rfl) (by rfl) (fun V hV => lv_st (kb hV HS2.out))) hHeld ?_
  simp only [Act.put, List.setIfInBounds_toArray, List.set_cons_zero, List.set_cons_succ]
  refine tk (i := 3) (some 24) rfl rfl (by kernel_rfl) (by kernel_rfl) (by kernel_rfl) (fun _ _ _ h => h) (yi_row (by rfl) (by rfl) (by rfl) (fun V hV => lv_st (kb hV HT2.out))) hHeld ?_
  simp only [Act.put, List.setIfInBounds_toArray, List.set_cons_zero, List.set_cons_succ]
  refine tk (i := 5) (some 26) rfl rfl (by kernel_rfl) (by kernel_rfl) (by kernel_rfl) (fun _ _ _ h => h) (yi_row (by rfl) (by rfl) (by rfl) (fun V hV => lv_ins (kb hV HX2.out))) hHeld ?_
  simp only [Act.put, List.setIfInBounds_toArray, List.set_cons_zero, List.set_cons_succ]
  refine tk (i := 6) (some 27) rfl rfl (by kernel_rfl) (by kernel_rfl) (by kernel_rfl) (fun _ _ _ h => h) (yi_row (by rfl) (by rfl) (by rfl) (fun V hV => lv_rec (kb hV HD2.out))) hHeld ?_
  simp only [Act.put, List.setIfInBounds_toArray, List.set_cons_zero, List.set_cons_succ]
  refine wpAnyH_ready (rs := [1, 11]) (by kernel_rfl) (by simp) ?_
  refine AllReadyH.cons rfl (fun K hK => ?_) (AllReadyH.cons rfl (fun K hK => ?_) AllReadyH.nil)
  · go_simp
    refine (HCU.out _ hHeld).mono ?_
    rintro e w0 ⟨rfl, hb0, hc0⟩
    go_simp
    have hs0 := hb0.size
    refine hK.out _ _ hb0 (fun hHeld => ?_)
    clear hK K
    refine wpAnyH_ready (rs := [4, 11]) (by kernel_rfl) (by simp) ?_
    refine AllReadyH.cons rfl (fun K hK => ?_) (AllReadyH.cons rfl (fun K hK => ?_) AllReadyH.nil)
    · go_simp
      refine (HCM.out _ hHeld).mono ?_
      rintro e w1 ⟨rfl, hb1, hc1⟩
      go_simp
      have hs1 := hb1.size
      refine hK.out _ _ hb1 (fun hHeld => ?_)
      clear hK K
      refine wpAnyH_ready (rs := [7, 11]) (by kernel_rfl) (by simp) ?_
      refine AllReadyH.cons rfl (fun K hK => ?_) (AllReadyH.cons rfl (fun K hK => ?_) AllReadyH.nil)
      · go_simp
        refine (HCT.out _ hHeld).mono ?_
        rintro e w2 ⟨rfl, hb2, hc2⟩
        go_simp
        have hs2 := hb2.size
        refine hK.out _ _ hb2 (fun hHeld => ?_)
        clear hK K
        refine tk (i := 8) (v := .tuple #[V'.val, .bool g']) (some 20) rfl rfl (by kernel_rfl) (by kernel_rfl) (by kernel_rfl) (fun _ _ _ h => h) (.inl ⟨by rfl, fun V _ => by go_simp⟩) hHeld ?_
        simp only [Act.put, List.setIfInBounds_toArray, List.set_cons_zero, List.set_cons_succ]
        refine tk (i := 9) (v := V'.val) (some 29) rfl rfl (by kernel_rfl) (by kernel_rfl) (by kernel_rfl) (fun _ _ _ h => h) (.inl ⟨by rfl, fun V _ => by go_simp⟩) hHeld ?_
        simp only [Act.put, List.setIfInBounds_toArray, List.set_cons_zero, List.set_cons_succ]
        refine tk (i := 10) (v := .bool g') (some 30) rfl rfl (by kernel_rfl) (by kernel_rfl) (by kernel_rfl) (fun _ _ _ h => h) (.inl ⟨by rfl, fun V _ => by go_simp⟩) hHeld ?_
        simp only [Act.put, List.setIfInBounds_toArray, List.set_cons_zero, List.set_cons_succ]
        refine wpAnyH_ready (rs := [11]) (by kernel_rfl) (by simp) ?_
        refine AllReadyH.cons rfl (fun K hK => ?_) AllReadyH.nil
        go_simp
        have hs0 := hHeld.size
        refine hK.out _ _ (ba (stB zeroSt) hHeld) (fun hHeld => ?_)
        clear hK K
        have hnew := heap_alloc_new w2 (stB zeroSt)
        refine wpAnyH_ready (rs := [12]) (by kernel_rfl) (by simp) ?_
        refine AllReadyH.cons rfl (fun K hK => ?_) AllReadyH.nil
        rw [if_pos (by rfl)]
        refine wp_put (s := V') hnew (by rfl) (by rfl) (by rfl) (by rfl) ?_
        intro W5 hput
        simp only [Act.put, List.setIfInBounds_toArray, List.set_cons_zero, List.set_cons_succ]
        refine hK.out _ _ (hput.below hHeld (by omega)) (fun hHeld => ?_)
        clear hK K
        refine tk (i := 13) (v := .bool g') (some 12) rfl rfl (by kernel_rfl) (by kernel_rfl) (by kernel_rfl) (fun _ _ _ h => h) (.inl ⟨by rfl, fun V _ => by go_simp⟩) hHeld ?_
        simp only [Act.put, List.setIfInBounds_toArray, List.set_cons_zero, List.set_cons_succ]
        refine wpAnyH_done (by kernel_rfl) ?_ _
        have HR5 := Lib.hid hput.row
        have HB5 := Lib.hid hHeld
        clear hHeld hput
        have HX5 := Lib.hid (kb HB5.out HX2.out)
        have HS5 := Lib.hid (kb HB5.out HS2.out)
        have HU5 := Lib.hid (kb HB5.out HU2.out)
        have HBW := Lib.hid (HB2.out.trans (HB5.out.mono HB2.out.size))
        clear HB5 hz
        obtain ⟨c0, c1, c2, c3⟩ := insX HX5.out
        have y0 := cell_regrown c0
        have y1 := cell_regrown c1
        have y2 := cell_regrown c2
        have y3 := cell_regrown c3
        have cS : ∀ d' os, Calls Tryd.prog 11 #[insV op jt jf k] (Sort.grow (redrawn W5 d') os) fun e w'' => e = .returned (.int .u32 (setM ⟨op, jt, jf, k⟩ : Nat)) ∧ ∃ p : Regrown, w'' = Sort.grow (redrawn W5 p.d) p.os := fun d' os => Calls.regrown_of (lsets_any op jt jf k _ (HTab.out.below (HBW.out.trans ((below_regrown W5 d' os).mono HBW.out.size))))
        have cM : ∀ d' os, Calls Tryd.prog 19 #[.int .u32 (setM ⟨op, jt, jf, k⟩ : Nat), s'.val, s.val] (Sort.grow (redrawn W5 d') os) fun e w'' => e = .returned s'.val ∧ ∃ p : Regrown, w'' = Sort.grow (redrawn W5 p.d) p.os := fun d' os => Calls.regrown_of ((rmix_any (setM ⟨op, jt, jf, k⟩) s' s _ (maskN_u32 _) HSo.out.2.2.1).mono fun e w' h => ⟨by rw [← HMA.out]; exact h.1, h.2⟩)
        have hq := eq_st HSo'.out
        have hq2 := eqIn_st HSo'.out
        generalize setM ⟨op, jt, jf, k⟩ = SM at *
        clear c0 c1 c2 c3
        go_wp2_with fail
        refine wp_region_quiet_below (by kernel_rfl) (by kernel_rfl) ?_
        repeat (first | (refine q_state HS5.out rfl rfl rfl ?_) | (refine q_state HU5.out rfl rfl rfl ?_) | (quiet_step (first | with_reducible exact cS _ _ | with_reducible exact cM _ _)))
        refine wpQuiet_nil ?_
        intro _ hw'
        obtain ⟨⟨dq, osq⟩, hw''⟩ := hw'
        subst hw''
        have hbq := below_regrown W5 dq osq
        have HBq := Lib.hid (HBW.out.trans (hbq.mono HBW.out.size))
        have HXq := Lib.hid (kb hbq HX5.out)
        have HSq := Lib.hid (kb hbq HS5.out)
        have HUq := Lib.hid (kb hbq HU5.out)
        have HRq := Lib.hid (kb hbq HR5.out)
        clear hbq y0 y1 y2 y3 cS cM HX5 HS5 HU5 HR5 HBW
        generalize Sort.grow (redrawn W5 dq) osq = Wq at *
        cases hg : g'
        · rw [hg] at HG'
          obtain rfl : s' = s := HS'.out.trans (step_stop HG'.out.symm)
          clear hg
          go_wp2_with (first | (refine ld_st HUq.out rfl rfl rfl ?_) | (refine ld_st HSq.out rfl rfl rfl ?_))
          refine (vknow_end HBq.out HTab.out).mono ?_
          rintro e wb ⟨rfl, hbb⟩
          have HBB := Lib.hid hbb
          clear hbb
          go_wp2_with fail
          go_ret
          exact ⟨rfl, HBB.out⟩
        · obtain ⟨c0, c1, c2, c3⟩ := insX HXq.out
          have y0 := cell_regrown c0
          have y1 := cell_regrown c1
          have y2 := cell_regrown c2
          have y3 := cell_regrown c3
          have cS : ∀ d' os, Calls Tryd.prog 11 #[insV op jt jf k] (Sort.grow (redrawn Wq d') os) fun e w'' => e = .returned (.int .u32 (SM : Nat)) ∧ ∃ p : Regrown, w'' = Sort.grow (redrawn Wq p.d) p.os := fun d' os => Calls.regrown_of (HCS.out _ (HTab.out.below (HBq.out.trans ((below_regrown Wq d' os).mono HBq.out.size))))
          have cM : ∀ d' os, Calls Tryd.prog 19 #[.int .u32 (SM : Nat), V'.val, s'.val] (Sort.grow (redrawn Wq d') os) fun e w'' => e = .returned s'.val ∧ ∃ p : Regrown, w'' = Sort.grow (redrawn Wq p.d) p.os := fun d' os => Calls.regrown_of (HCM3.out hg _)
          have cK : ∀ d' os, Calls Tryd.prog 12 #[] (Sort.grow (redrawn Wq d') os) fun e w'' => e = .returned (.bool true) ∧ ∃ p : Regrown, w'' = Sort.grow (redrawn Wq p.d) p.os := fun d' os => Calls.regrown_of (vknows_any _ (HTab.out.below (HBq.out.trans ((below_regrown Wq d' os).mono HBq.out.size))))
          clear c0 c1 c2 c3
          go_wp2_with fail
          refine wp_region_quiet_below (by kernel_rfl) (by kernel_rfl) ?_
          repeat (first | (refine q_state HRq.out rfl rfl rfl ?_) | (refine q_state HUq.out rfl rfl rfl ?_) | (quiet_step (first | with_reducible exact cS _ _ | with_reducible exact cM _ _ | with_reducible exact cK _ _)))
          refine wpQuiet_nil ?_
          intro _ hw'
          obtain ⟨⟨dr, osr⟩, hw''⟩ := hw'
          subst hw''
          have HBr := Lib.hid (HBq.out.trans ((below_regrown Wq dr osr).mono HBq.out.size))
          clear y0 y1 y2 y3 cS cM cK
          generalize Sort.grow (redrawn Wq dr) osr = Wr at *
          go_wp2_with fail
          go_ret
          exact ⟨rfl, HBr.out⟩
      · go_simp
        have hs0 := hHeld.size
        refine hK.out _ _ (ba (stB zeroSt) hHeld) (fun hHeld => ?_)
        clear hK K
        have hnew := heap_alloc_new w1 (stB zeroSt)
        refine wpAnyH_ready (rs := [7]) (by kernel_rfl) (by simp) ?_
        refine AllReadyH.cons rfl (fun K hK => ?_) AllReadyH.nil
        go_simp
        refine (HCT.out _ hHeld).mono ?_
        rintro e w2 ⟨rfl, hb2, hc2⟩
        go_simp
        have hr2 := kb hc2 hnew
        have hs2 := hb2.size
        refine hK.out _ _ hb2 (fun hHeld => ?_)
        clear hK K
        refine tk (i := 8) (v := .tuple #[V'.val, .bool g']) (some 20) rfl rfl (by kernel_rfl) (by kernel_rfl) (by kernel_rfl) (fun _ _ _ h => h) (.inl ⟨by rfl, fun V _ => by go_simp⟩) hHeld ?_
        simp only [Act.put, List.setIfInBounds_toArray, List.set_cons_zero, List.set_cons_succ]
        refine tk (i := 9) (v := V'.val) (some 29) rfl rfl (by kernel_rfl) (by kernel_rfl) (by kernel_rfl) (fun _ _ _ h => h) (.inl ⟨by rfl, fun V _ => by go_simp⟩) hHeld ?_
        simp only [Act.put, List.setIfInBounds_toArray, List.set_cons_zero, List.set_cons_succ]
        refine tk (i := 10) (v := .bool g') (some 30) rfl rfl (by kernel_rfl) (by kernel_rfl) (by kernel_rfl) (fun _ _ _ h => h) (.inl ⟨by rfl, fun V _ => by go_simp⟩) hHeld ?_
        simp only [Act.put, List.setIfInBounds_toArray, List.set_cons_zero, List.set_cons_succ]
        refine wpAnyH_ready (rs := [12]) (by kernel_rfl) (by simp) ?_
        refine AllReadyH.cons rfl (fun K hK => ?_) AllReadyH.nil
        rw [if_pos (by rfl)]
        refine wp_put (s := V') hr2 (by rfl) (by rfl) (by rfl) (by rfl) ?_
        intro W5 hput
        simp only [Act.put, List.setIfInBounds_toArray, List.set_cons_zero, List.set_cons_succ]
        refine hK.out _ _ (hput.below hHeld (by omega)) (fun hHeld => ?_)
        clear hK K
        refine tk (i := 13) (v := .bool g') (some 12) rfl rfl (by kernel_rfl) (by kernel_rfl) (by kernel_rfl) (fun _ _ _ h => h) (.inl ⟨by rfl, fun V _ => by go_simp⟩) hHeld ?_
        simp only [Act.put, List.setIfInBounds_toArray, List.set_cons_zero, List.set_cons_succ]
        refine wpAnyH_done (by kernel_rfl) ?_ _
        have HR5 := Lib.hid hput.row
        have HB5 := Lib.hid hHeld
        clear hHeld hput
        have HX5 := Lib.hid (kb HB5.out HX2.out)
        have HS5 := Lib.hid (kb HB5.out HS2.out)
        have HU5 := Lib.hid (kb HB5.out HU2.out)
        have HBW := Lib.hid (HB2.out.trans (HB5.out.mono HB2.out.size))
        clear HB5 hz
        obtain ⟨c0, c1, c2, c3⟩ := insX HX5.out
        have y0 := cell_regrown c0
        have y1 := cell_regrown c1
        have y2 := cell_regrown c2
        have y3 := cell_regrown c3
        have cS : ∀ d' os, Calls Tryd.prog 11 #[insV op jt jf k] (Sort.grow (redrawn W5 d') os) fun e w'' => e = .returned (.int .u32 (setM ⟨op, jt, jf, k⟩ : Nat)) ∧ ∃ p : Regrown, w'' = Sort.grow (redrawn W5 p.d) p.os := fun d' os => Calls.regrown_of (lsets_any op jt jf k _ (HTab.out.below (HBW.out.trans ((below_regrown W5 d' os).mono HBW.out.size))))
        have cM : ∀ d' os, Calls Tryd.prog 19 #[.int .u32 (setM ⟨op, jt, jf, k⟩ : Nat), s'.val, s.val] (Sort.grow (redrawn W5 d') os) fun e w'' => e = .returned s'.val ∧ ∃ p : Regrown, w'' = Sort.grow (redrawn W5 p.d) p.os := fun d' os => Calls.regrown_of ((rmix_any (setM ⟨op, jt, jf, k⟩) s' s _ (maskN_u32 _) HSo.out.2.2.1).mono fun e w' h => ⟨by rw [← HMA.out]; exact h.1, h.2⟩)
        have hq := eq_st HSo'.out
        have hq2 := eqIn_st HSo'.out
        generalize setM ⟨op, jt, jf, k⟩ = SM at *
        clear c0 c1 c2 c3
        go_wp2_with fail
        refine wp_region_quiet_below (by kernel_rfl) (by kernel_rfl) ?_
        repeat (first | (refine q_state HS5.out rfl rfl rfl ?_) | (refine q_state HU5.out rfl rfl rfl ?_) | (quiet_step (first | with_reducible exact cS _ _ | with_reducible exact cM _ _)))
        refine wpQuiet_nil ?_
        intro _ hw'
        obtain ⟨⟨dq, osq⟩, hw''⟩ := hw'
        subst hw''
        have hbq := below_regrown W5 dq osq
        have HBq := Lib.hid (HBW.out.trans (hbq.mono HBW.out.size))
        have HXq := Lib.hid (kb hbq HX5.out)
        have HSq := Lib.hid (kb hbq HS5.out)
        have HUq := Lib.hid (kb hbq HU5.out)
        have HRq := Lib.hid (kb hbq HR5.out)
        clear hbq y0 y1 y2 y3 cS cM HX5 HS5 HU5 HR5 HBW
        generalize Sort.grow (redrawn W5 dq) osq = Wq at *
        cases hg : g'
        · rw [hg] at HG'
          obtain rfl : s' = s := HS'.out.trans (step_stop HG'.out.symm)
          clear hg
          go_wp2_with (first | (refine ld_st HUq.out rfl rfl rfl ?_) | (refine ld_st HSq.out rfl rfl rfl ?_))
          refine (vknow_end HBq.out HTab.out).mono ?_
          rintro e wb ⟨rfl, hbb⟩
          have HBB := Lib.hid hbb
          clear hbb
          go_wp2_with fail
          go_ret
          exact ⟨rfl, HBB.out⟩
        · obtain ⟨c0, c1, c2, c3⟩ := insX HXq.out
          have y0 := cell_regrown c0
          have y1 := cell_regrown c1
          have y2 := cell_regrown c2
          have y3 := cell_regrown c3
          have cS : ∀ d' os, Calls Tryd.prog 11 #[insV op jt jf k] (Sort.grow (redrawn Wq d') os) fun e w'' => e = .returned (.int .u32 (SM : Nat)) ∧ ∃ p : Regrown, w'' = Sort.grow (redrawn Wq p.d) p.os := fun d' os => Calls.regrown_of (HCS.out _ (HTab.out.below (HBq.out.trans ((below_regrown Wq d' os).mono HBq.out.size))))
          have cM : ∀ d' os, Calls Tryd.prog 19 #[.int .u32 (SM : Nat), V'.val, s'.val] (Sort.grow (redrawn Wq d') os) fun e w'' => e = .returned s'.val ∧ ∃ p : Regrown, w'' = Sort.grow (redrawn Wq p.d) p.os := fun d' os => Calls.regrown_of (HCM3.out hg _)
          have cK : ∀ d' os, Calls Tryd.prog 12 #[] (Sort.grow (redrawn Wq d') os) fun e w'' => e = .returned (.bool true) ∧ ∃ p : Regrown, w'' = Sort.grow (redrawn Wq p.d) p.os := fun d' os => Calls.regrown_of (vknows_any _ (HTab.out.below (HBq.out.trans ((below_regrown Wq d' os).mono HBq.out.size))))
          clear c0 c1 c2 c3
          go_wp2_with fail
          refine wp_region_quiet_below (by kernel_rfl) (by kernel_rfl) ?_
          repeat (first | (refine q_state HRq.out rfl rfl rfl ?_) | (refine q_state HUq.out rfl rfl rfl ?_) | (quiet_step (first | with_reducible exact cS _ _ | with_reducible exact cM _ _ | with_reducible exact cK _ _)))
          refine wpQuiet_nil ?_
          intro _ hw'
          obtain ⟨⟨dr, osr⟩, hw''⟩ := hw'
          subst hw''
          have HBr := Lib.hid (HBq.out.trans ((below_regrown Wq dr osr).mono HBq.out.size))
          clear y0 y1 y2 y3 cS cM cK
          generalize Sort.grow (redrawn Wq dr) osr = Wr at *
          go_wp2_with fail
          go_ret
          exact ⟨rfl, HBr.out⟩
    · go_simp
      have hs0 := hHeld.size
      refine hK.out _ _ (ba (stB zeroSt) hHeld) (fun hHeld => ?_)
      clear hK K
      have hnew := heap_alloc_new w0 (stB zeroSt)
      refine wpAnyH_ready (rs := [4]) (by kernel_rfl) (by simp) ?_
      refine AllReadyH.cons rfl (fun K hK => ?_) AllReadyH.nil
      go_simp
      refine (HCM.out _ hHeld).mono ?_
      rintro e w1 ⟨rfl, hb1, hc1⟩
      go_simp
      have hr1 := kb hc1 hnew
      have hs1 := hb1.size
      refine hK.out _ _ hb1 (fun hHeld => ?_)
      clear hK K
      refine wpAnyH_ready (rs := [7]) (by kernel_rfl) (by simp) ?_
      refine AllReadyH.cons rfl (fun K hK => ?_) AllReadyH.nil
      go_simp
      refine (HCT.out _ hHeld).mono ?_
      rintro e w2 ⟨rfl, hb2, hc2⟩
      go_simp
      have hr2 := kb hc2 hr1
      have hs2 := hb2.size
      refine hK.out _ _ hb2 (fun hHeld => ?_)
      clear hK K
      refine tk (i := 8) (v := .tuple #[V'.val, .bool g']) (some 20) rfl rfl (by kernel_rfl) (by kernel_rfl) (by kernel_rfl) (fun _ _ _ h => h) (.inl ⟨by rfl, fun V _ => by go_simp⟩) hHeld ?_
      simp only [Act.put, List.setIfInBounds_toArray, List.set_cons_zero, List.set_cons_succ]
      refine tk (i := 9) (v := V'.val) (some 29) rfl rfl (by kernel_rfl) (by kernel_rfl) (by kernel_rfl) (fun _ _ _ h => h) (.inl ⟨by rfl, fun V _ => by go_simp⟩) hHeld ?_
      simp only [Act.put, List.setIfInBounds_toArray, List.set_cons_zero, List.set_cons_succ]
      refine tk (i := 10) (v := .bool g') (some 30) rfl rfl (by kernel_rfl) (by kernel_rfl) (by kernel_rfl) (fun _ _ _ h => h) (.inl ⟨by rfl, fun V _ => by go_simp⟩) hHeld ?_
      simp only [Act.put, List.setIfInBounds_toArray, List.set_cons_zero, List.set_cons_succ]
      refine wpAnyH_ready (rs := [12]) (by kernel_rfl) (by simp) ?_
      refine AllReadyH.cons rfl (fun K hK => ?_) AllReadyH.nil
      rw [if_pos (by rfl)]
      refine wp_put (s := V') hr2 (by rfl) (by rfl) (by rfl) (by rfl) ?_
      intro W5 hput
      simp only [Act.put, List.setIfInBounds_toArray, List.set_cons_zero, List.set_cons_succ]
      refine hK.out _ _ (hput.below hHeld (by omega)) (fun hHeld => ?_)
      clear hK K
      refine tk (i := 13) (v := .bool g') (some 12) rfl rfl (by kernel_rfl) (by kernel_rfl) (by kernel_rfl) (fun _ _ _ h => h) (.inl ⟨by rfl, fun V _ => by go_simp⟩) hHeld ?_
      simp only [Act.put, List.setIfInBounds_toArray, List.set_cons_zero, List.set_cons_succ]
      refine wpAnyH_done (by kernel_rfl) ?_ _
      have HR5 := Lib.hid hput.row
      have HB5 := Lib.hid hHeld
      clear hHeld hput
      have HX5 := Lib.hid (kb HB5.out HX2.out)
      have HS5 := Lib.hid (kb HB5.out HS2.out)
      have HU5 := Lib.hid (kb HB5.out HU2.out)
      have HBW := Lib.hid (HB2.out.trans (HB5.out.mono HB2.out.size))
      clear HB5 hz
      obtain ⟨c0, c1, c2, c3⟩ := insX HX5.out
      have y0 := cell_regrown c0
      have y1 := cell_regrown c1
      have y2 := cell_regrown c2
      have y3 := cell_regrown c3
      have cS : ∀ d' os, Calls Tryd.prog 11 #[insV op jt jf k] (Sort.grow (redrawn W5 d') os) fun e w'' => e = .returned (.int .u32 (setM ⟨op, jt, jf, k⟩ : Nat)) ∧ ∃ p : Regrown, w'' = Sort.grow (redrawn W5 p.d) p.os := fun d' os => Calls.regrown_of (lsets_any op jt jf k _ (HTab.out.below (HBW.out.trans ((below_regrown W5 d' os).mono HBW.out.size))))
      have cM : ∀ d' os, Calls Tryd.prog 19 #[.int .u32 (setM ⟨op, jt, jf, k⟩ : Nat), s'.val, s.val] (Sort.grow (redrawn W5 d') os) fun e w'' => e = .returned s'.val ∧ ∃ p : Regrown, w'' = Sort.grow (redrawn W5 p.d) p.os := fun d' os => Calls.regrown_of ((rmix_any (setM ⟨op, jt, jf, k⟩) s' s _ (maskN_u32 _) HSo.out.2.2.1).mono fun e w' h => ⟨by rw [← HMA.out]; exact h.1, h.2⟩)
      have hq := eq_st HSo'.out
      have hq2 := eqIn_st HSo'.out
      generalize setM ⟨op, jt, jf, k⟩ = SM at *
      clear c0 c1 c2 c3
      go_wp2_with fail
      refine wp_region_quiet_below (by kernel_rfl) (by kernel_rfl) ?_
      repeat (first | (refine q_state HS5.out rfl rfl rfl ?_) | (refine q_state HU5.out rfl rfl rfl ?_) | (quiet_step (first | with_reducible exact cS _ _ | with_reducible exact cM _ _)))
      refine wpQuiet_nil ?_
      intro _ hw'
      obtain ⟨⟨dq, osq⟩, hw''⟩ := hw'
      subst hw''
      have hbq := below_regrown W5 dq osq
      have HBq := Lib.hid (HBW.out.trans (hbq.mono HBW.out.size))
      have HXq := Lib.hid (kb hbq HX5.out)
      have HSq := Lib.hid (kb hbq HS5.out)
      have HUq := Lib.hid (kb hbq HU5.out)
      have HRq := Lib.hid (kb hbq HR5.out)
      clear hbq y0 y1 y2 y3 cS cM HX5 HS5 HU5 HR5 HBW
      generalize Sort.grow (redrawn W5 dq) osq = Wq at *
      cases hg : g'
      · rw [hg] at HG'
        obtain rfl : s' = s := HS'.out.trans (step_stop HG'.out.symm)
        clear hg
        go_wp2_with (first | (refine ld_st HUq.out rfl rfl rfl ?_) | (refine ld_st HSq.out rfl rfl rfl ?_))
        refine (vknow_end HBq.out HTab.out).mono ?_
        rintro e wb ⟨rfl, hbb⟩
        have HBB := Lib.hid hbb
        clear hbb
        go_wp2_with fail
        go_ret
        exact ⟨rfl, HBB.out⟩
      · obtain ⟨c0, c1, c2, c3⟩ := insX HXq.out
        have y0 := cell_regrown c0
        have y1 := cell_regrown c1
        have y2 := cell_regrown c2
        have y3 := cell_regrown c3
        have cS : ∀ d' os, Calls Tryd.prog 11 #[insV op jt jf k] (Sort.grow (redrawn Wq d') os) fun e w'' => e = .returned (.int .u32 (SM : Nat)) ∧ ∃ p : Regrown, w'' = Sort.grow (redrawn Wq p.d) p.os := fun d' os => Calls.regrown_of (HCS.out _ (HTab.out.below (HBq.out.trans ((below_regrown Wq d' os).mono HBq.out.size))))
        have cM : ∀ d' os, Calls Tryd.prog 19 #[.int .u32 (SM : Nat), V'.val, s'.val] (Sort.grow (redrawn Wq d') os) fun e w'' => e = .returned s'.val ∧ ∃ p : Regrown, w'' = Sort.grow (redrawn Wq p.d) p.os := fun d' os => Calls.regrown_of (HCM3.out hg _)
        have cK : ∀ d' os, Calls Tryd.prog 12 #[] (Sort.grow (redrawn Wq d') os) fun e w'' => e = .returned (.bool true) ∧ ∃ p : Regrown, w'' = Sort.grow (redrawn Wq p.d) p.os := fun d' os => Calls.regrown_of (vknows_any _ (HTab.out.below (HBq.out.trans ((below_regrown Wq d' os).mono HBq.out.size))))
        clear c0 c1 c2 c3
        go_wp2_with fail
        refine wp_region_quiet_below (by kernel_rfl) (by kernel_rfl) ?_
        repeat (first | (refine q_state HRq.out rfl rfl rfl ?_) | (refine q_state HUq.out rfl rfl rfl ?_) | (quiet_step (first | with_reducible exact cS _ _ | with_reducible exact cM _ _ | with_reducible exact cK _ _)))
        refine wpQuiet_nil ?_
        intro _ hw'
        obtain ⟨⟨dr, osr⟩, hw''⟩ := hw'
        subst hw''
        have HBr := Lib.hid (HBq.out.trans ((below_regrown Wq dr osr).mono HBq.out.size))
        clear y0 y1 y2 y3 cS cM cK
        generalize Sort.grow (redrawn Wq dr) osr = Wr at *
        go_wp2_with fail
        go_ret
        exact ⟨rfl, HBr.out⟩
  · go_simp
    have hs0 := hHeld.size
    refine hK.out _ _ (ba (stB zeroSt) hHeld) (fun hHeld => ?_)
    clear hK K
    have hnew := heap_alloc_new W2.drew (stB zeroSt)
    refine wpAnyH_ready (rs := [1]) (by kernel_rfl) (by simp) ?_
    refine AllReadyH.cons rfl (fun K hK => ?_) AllReadyH.nil
    go_simp
    refine (HCU.out _ hHeld).mono ?_
    rintro e w0 ⟨rfl, hb0, hc0⟩
    go_simp
    have hr0 := kb hc0 hnew
    have hs0 := hb0.size
    refine hK.out _ _ hb0 (fun hHeld => ?_)
    clear hK K
    refine wpAnyH_ready (rs := [4]) (by kernel_rfl) (by simp) ?_
    refine AllReadyH.cons rfl (fun K hK => ?_) AllReadyH.nil
    go_simp
    refine (HCM.out _ hHeld).mono ?_
    rintro e w1 ⟨rfl, hb1, hc1⟩
    go_simp
    have hr1 := kb hc1 hr0
    have hs1 := hb1.size
    refine hK.out _ _ hb1 (fun hHeld => ?_)
    clear hK K
    refine wpAnyH_ready (rs := [7]) (by kernel_rfl) (by simp) ?_
    refine AllReadyH.cons rfl (fun K hK => ?_) AllReadyH.nil
    go_simp
    refine (HCT.out _ hHeld).mono ?_
    rintro e w2 ⟨rfl, hb2, hc2⟩
    go_simp
    have hr2 := kb hc2 hr1
    have hs2 := hb2.size
    refine hK.out _ _ hb2 (fun hHeld => ?_)
    clear hK K
    refine tk (i := 8) (v := .tuple #[V'.val, .bool g']) (some 20) rfl rfl (by kernel_rfl) (by kernel_rfl) (by kernel_rfl) (fun _ _ _ h => h) (.inl ⟨by rfl, fun V _ => by go_simp⟩) hHeld ?_
    simp only [Act.put, List.setIfInBounds_toArray, List.set_cons_zero, List.set_cons_succ]
    refine tk (i := 9) (v := V'.val) (some 29) rfl rfl (by kernel_rfl) (by kernel_rfl) (by kernel_rfl) (fun _ _ _ h => h) (.inl ⟨by rfl, fun V _ => by go_simp⟩) hHeld ?_
    simp only [Act.put, List.setIfInBounds_toArray, List.set_cons_zero, List.set_cons_succ]
    refine tk (i := 10) (v := .bool g') (some 30) rfl rfl (by kernel_rfl) (by kernel_rfl) (by kernel_rfl) (fun _ _ _ h => h) (.inl ⟨by rfl, fun V _ => by go_simp⟩) hHeld ?_
    simp only [Act.put, List.setIfInBounds_toArray, List.set_cons_zero, List.set_cons_succ]
    refine wpAnyH_ready (rs := [12]) (by kernel_rfl) (by simp) ?_
    refine AllReadyH.cons rfl (fun K hK => ?_) AllReadyH.nil
    rw [if_pos (by rfl)]
    refine wp_put (s := V') hr2 (by rfl) (by rfl) (by rfl) (by rfl) ?_
    intro W5 hput
    simp only [Act.put, List.setIfInBounds_toArray, List.set_cons_zero, List.set_cons_succ]
    refine hK.out _ _ (hput.below hHeld (by omega)) (fun hHeld => ?_)
    clear hK K
    refine tk (i := 13) (v := .bool g') (some 12) rfl rfl (by kernel_rfl) (by kernel_rfl) (by kernel_rfl) (fun _ _ _ h => h) (.inl ⟨by rfl, fun V _ => by go_simp⟩) hHeld ?_
    simp only [Act.put, List.setIfInBounds_toArray, List.set_cons_zero, List.set_cons_succ]
    refine wpAnyH_done (by kernel_rfl) ?_ _
    have HR5 := Lib.hid hput.row
    have HB5 := Lib.hid hHeld
    clear hHeld hput
    have HX5 := Lib.hid (kb HB5.out HX2.out)
    have HS5 := Lib.hid (kb HB5.out HS2.out)
    have HU5 := Lib.hid (kb HB5.out HU2.out)
    have HBW := Lib.hid (HB2.out.trans (HB5.out.mono HB2.out.size))
    clear HB5 hz
    obtain ⟨c0, c1, c2, c3⟩ := insX HX5.out
    have y0 := cell_regrown c0
    have y1 := cell_regrown c1
    have y2 := cell_regrown c2
    have y3 := cell_regrown c3
    have cS : ∀ d' os, Calls Tryd.prog 11 #[insV op jt jf k] (Sort.grow (redrawn W5 d') os) fun e w'' => e = .returned (.int .u32 (setM ⟨op, jt, jf, k⟩ : Nat)) ∧ ∃ p : Regrown, w'' = Sort.grow (redrawn W5 p.d) p.os := fun d' os => Calls.regrown_of (lsets_any op jt jf k _ (HTab.out.below (HBW.out.trans ((below_regrown W5 d' os).mono HBW.out.size))))
    have cM : ∀ d' os, Calls Tryd.prog 19 #[.int .u32 (setM ⟨op, jt, jf, k⟩ : Nat), s'.val, s.val] (Sort.grow (redrawn W5 d') os) fun e w'' => e = .returned s'.val ∧ ∃ p : Regrown, w'' = Sort.grow (redrawn W5 p.d) p.os := fun d' os => Calls.regrown_of ((rmix_any (setM ⟨op, jt, jf, k⟩) s' s _ (maskN_u32 _) HSo.out.2.2.1).mono fun e w' h => ⟨by rw [← HMA.out]; exact h.1, h.2⟩)
    have hq := eq_st HSo'.out
    have hq2 := eqIn_st HSo'.out
    generalize setM ⟨op, jt, jf, k⟩ = SM at *
    clear c0 c1 c2 c3
    go_wp2_with fail
    refine wp_region_quiet_below (by kernel_rfl) (by kernel_rfl) ?_
    repeat (first | (refine q_state HS5.out rfl rfl rfl ?_) | (refine q_state HU5.out rfl rfl rfl ?_) | (quiet_step (first | with_reducible exact cS _ _ | with_reducible exact cM _ _)))
    refine wpQuiet_nil ?_
    intro _ hw'
    obtain ⟨⟨dq, osq⟩, hw''⟩ := hw'
    subst hw''
    have hbq := below_regrown W5 dq osq
    have HBq := Lib.hid (HBW.out.trans (hbq.mono HBW.out.size))
    have HXq := Lib.hid (kb hbq HX5.out)
    have HSq := Lib.hid (kb hbq HS5.out)
    have HUq := Lib.hid (kb hbq HU5.out)
    have HRq := Lib.hid (kb hbq HR5.out)
    clear hbq y0 y1 y2 y3 cS cM HX5 HS5 HU5 HR5 HBW
    generalize Sort.grow (redrawn W5 dq) osq = Wq at *
    cases hg : g'
    · rw [hg] at HG'
      obtain rfl : s' = s := HS'.out.trans (step_stop HG'.out.symm)
      clear hg
      go_wp2_with (first | (refine ld_st HUq.out rfl rfl rfl ?_) | (refine ld_st HSq.out rfl rfl rfl ?_))
      refine (vknow_end HBq.out HTab.out).mono ?_
      rintro e wb ⟨rfl, hbb⟩
      have HBB := Lib.hid hbb
      clear hbb
      go_wp2_with fail
      go_ret
      exact ⟨rfl, HBB.out⟩
    · obtain ⟨c0, c1, c2, c3⟩ := insX HXq.out
      have y0 := cell_regrown c0
      have y1 := cell_regrown c1
      have y2 := cell_regrown c2
      have y3 := cell_regrown c3
      have cS : ∀ d' os, Calls Tryd.prog 11 #[insV op jt jf k] (Sort.grow (redrawn Wq d') os) fun e w'' => e = .returned (.int .u32 (SM : Nat)) ∧ ∃ p : Regrown, w'' = Sort.grow (redrawn Wq p.d) p.os := fun d' os => Calls.regrown_of (HCS.out _ (HTab.out.below (HBq.out.trans ((below_regrown Wq d' os).mono HBq.out.size))))
      have cM : ∀ d' os, Calls Tryd.prog 19 #[.int .u32 (SM : Nat), V'.val, s'.val] (Sort.grow (redrawn Wq d') os) fun e w'' => e = .returned s'.val ∧ ∃ p : Regrown, w'' = Sort.grow (redrawn Wq p.d) p.os := fun d' os => Calls.regrown_of (HCM3.out hg _)
      have cK : ∀ d' os, Calls Tryd.prog 12 #[] (Sort.grow (redrawn Wq d') os) fun e w'' => e = .returned (.bool true) ∧ ∃ p : Regrown, w'' = Sort.grow (redrawn Wq p.d) p.os := fun d' os => Calls.regrown_of (vknows_any _ (HTab.out.below (HBq.out.trans ((below_regrown Wq d' os).mono HBq.out.size))))
      clear c0 c1 c2 c3
      go_wp2_with fail
      refine wp_region_quiet_below (by kernel_rfl) (by kernel_rfl) ?_
      repeat (first | (refine q_state HRq.out rfl rfl rfl ?_) | (refine q_state HUq.out rfl rfl rfl ?_) | (quiet_step (first | with_reducible exact cS _ _ | with_reducible exact cM _ _ | with_reducible exact cK _ _)))
      refine wpQuiet_nil ?_
      intro _ hw'
      obtain ⟨⟨dr, osr⟩, hw''⟩ := hw'
      subst hw''
      have HBr := Lib.hid (HBq.out.trans ((below_regrown Wq dr osr).mono HBq.out.size))
      clear y0 y1 y2 y3 cS cM cK
      generalize Sort.grow (redrawn Wq dr) osr = Wr at *
      go_wp2_with fail
      go_ret
      exact ⟨rfl, HBr.out⟩
theorem walk (xo xt xf xk : Int) (s t : St) (d : Rec) (w : World) (h0 : 0 ≤ xk) (h1 : xk ≤ 4294967295) (hs : s.ok) (hto : t.ok) (hd : d.ok) (ht : OTab w) :
    Calls Tryd.prog 6 #[insV xo xt xf xk, s.val, t.val, d.val] w fun e w' => e = .returned (.bool true) ∧ Below w.heap.size w w' := by
  obtain ⟨k, rfl⟩ : ∃ n : Nat, xk = n := ⟨xk.toNat, by omega⟩
  exact walk_nat xo xt xf k s t d w (by omega) hs hto hd ht

set_option maxRecDepth 100000 in
/-- The row's contract, for every argument and every world. -/
theorem contract (H : Type) (enc : TypeId × Value → H) (W : World) (base : Nat) (args : Array Value) (ds gs : List (DataW H)) (before : List MemPlace)
    (hval : ∀ (j : Nat) t v, Tryd.f6.params[j]? = some t → args[j]? = some v → Value.okWide Tryd.prog W .any base t v)
    (hW : DataW.Whole enc Tryd.prog Tryd.f6.params.toList Rows.liveStepsSpec.vars false W args.toList ds gs before) (hL : laidMetH Tryd.prog Rows.liveStepsRow.laid W) :
    Calls Tryd.prog 6 args W fun e W' => ∃ v, e = .returned v ∧ Rows.liveStepsSpec.post enc Tryd.prog Tryd.f6 false true false false W args v W' := by
  have hW' := hW
  obtain ⟨p, q, hA0, hV, rfl, hfz, hnd⟩ := hW
  have hA : DataW.TrodAll enc Tryd.prog W 0 (fun _ => true) true Tryd.f6.params.toList args.toList ds p := hA0
  rw [Tryd.params6] at hA hval
  obtain ⟨v0, vs0, d0, ds0, p0, q0, hargs0, rfl, rfl, t0, r0⟩ := trodAll_cons hA
  obtain ⟨v1, vs1, d1, ds1, p1, q1, hargs1, rfl, rfl, t1, r1⟩ := trodAll_cons r0
  obtain ⟨v2, vs2, d2, ds2, p2, q2, hargs2, rfl, rfl, t2, r2⟩ := trodAll_cons r1
  obtain ⟨v3, vs3, d3, ds3, p3, q3, hargs3, rfl, rfl, t3, r3⟩ := trodAll_cons r2
  obtain ⟨rfl, rfl, rfl⟩ := trodAll_nil r3
  obtain rfl : args = #[v0, v1, v2, v3] := by cases args; simp_all
  obtain ⟨a0, b0, c0, e0, y0, z0, u0, w0, n0, rfl, rfl, hp0, ha0, hb0, hc0, he0⟩ := Joins.open_agg4 Tryd.underlying24 (by kernel_rfl) (by kernel_rfl) (hval 0 24 v0 rfl rfl) t0
  obtain ⟨xo, qha0, gha0, wfha0⟩ := DataW.trod_int Tryd.underlying3 ha0
  obtain rfl := (List.cons.inj qha0).1
  obtain ⟨xt, qhb0, ghb0, wfhb0⟩ := DataW.trod_int Tryd.underlying3 hb0
  obtain rfl := (List.cons.inj qhb0).1
  obtain ⟨xf, qhc0, ghc0, wfhc0⟩ := DataW.trod_int Tryd.underlying3 hc0
  obtain rfl := (List.cons.inj qhc0).1
  obtain ⟨xk, qhe0, ghe0, wfhe0⟩ := DataW.trod_int Tryd.underlying22 he0
  obtain rfl := (List.cons.inj qhe0).1
  have bd0 := bounds_u32 wfhe0
  obtain ⟨s, rfl, hd1⟩ := open_state (hval 1 42 v1 rfl rfl) t1
  obtain ⟨t, rfl, hd2⟩ := open_state (hval 2 42 v2 rfl rfl) t2
  obtain ⟨d, rfl, hd3⟩ := open_data (hval 3 46 v3 rfl rfl) t3
  refine (walk xo xt xf xk s t d W bd0.1 bd0.2 hd1 hd2 hd3 (otab1_of hL)).mono fun e W' ⟨he, hg⟩ => ?_
  subst he
  exact ⟨_, rfl, law_post (tb := 4) laidOut (fun t ht => by rw [Tryd.params6] at ht; revert t; exact of_decide_eq_true (by kernel_rfl)) (by kernel_rfl) Tryd.underlying4 rfl
    (fun ds h => by rw [Tryd.params6] at h; match ds, h with | [_, _, _, _], _ => rfl) hW' hg⟩

theorem laid_met (os : Os) : laidMet Tryd.prog Rows.liveStepsRow.laid ((laidWorld1 os).forCall (fun _ _ => 0) ⟨#[], #[.agg #[.int .i64 0, .int .i64 0, .int .i64 0, .int .u32 0], .agg #[.int .u32 0, .int .u32 0, .int .u32 0, .int .u32 0, .int .u32 0, .int .u32 0, .int .u32 0, .int .u32 0, .int .u32 0, .int .u32 0, .int .u32 0, .int .u32 0, .int .u32 0, .int .u32 0, .int .u32 0, .int .u32 0, .int .u32 0, .int .u32 0], .agg #[.int .u32 0, .int .u32 0, .int .u32 0, .int .u32 0, .int .u32 0, .int .u32 0, .int .u32 0, .int .u32 0, .int .u32 0, .int .u32 0, .int .u32 0, .int .u32 0, .int .u32 0, .int .u32 0, .int .u32 0, .int .u32 0, .int .u32 0, .int .u32 0], .agg #[.int .u32 0, .int .u32 0, .int .u64 0, .int .u64 0, .int .u64 0, .int .u64 0, .int .u64 0, .int .u64 0, .int .u64 0]], []⟩).memory :=
  laidMet_of_run' 8 (by kernel_rfl) (by kernel_rfl)
theorem reads (os : Os) {H : Type} (enc : TypeId × Value → H) : ∃ places, DataW.whole enc Tryd.prog ((laidWorld1 os).forCall (fun _ _ => 0) ⟨#[], #[.agg #[.int .i64 0, .int .i64 0, .int .i64 0, .int .u32 0], .agg #[.int .u32 0, .int .u32 0, .int .u32 0, .int .u32 0, .int .u32 0, .int .u32 0, .int .u32 0, .int .u32 0, .int .u32 0, .int .u32 0, .int .u32 0, .int .u32 0, .int .u32 0, .int .u32 0, .int .u32 0, .int .u32 0, .int .u32 0, .int .u32 0], .agg #[.int .u32 0, .int .u32 0, .int .u32 0, .int .u32 0, .int .u32 0, .int .u32 0, .int .u32 0, .int .u32 0, .int .u32 0, .int .u32 0, .int .u32 0, .int .u32 0, .int .u32 0, .int .u32 0, .int .u32 0, .int .u32 0, .int .u32 0, .int .u32 0], .agg #[.int .u32 0, .int .u32 0, .int .u64 0, .int .u64 0, .int .u64 0, .int .u64 0, .int .u64 0, .int .u64 0, .int .u64 0]], []⟩).memory Tryd.f6.params.toList Rows.liveStepsSpec.vars false #[Value.agg #[.int .i64 0, .int .i64 0, .int .i64 0, .int .u32 0], Value.agg #[.int .u32 0, .int .u32 0, .int .u32 0, .int .u32 0, .int .u32 0, .int .u32 0, .int .u32 0, .int .u32 0, .int .u32 0, .int .u32 0, .int .u32 0, .int .u32 0, .int .u32 0, .int .u32 0, .int .u32 0, .int .u32 0, .int .u32 0, .int .u32 0], Value.agg #[.int .u32 0, .int .u32 0, .int .u32 0, .int .u32 0, .int .u32 0, .int .u32 0, .int .u32 0, .int .u32 0, .int .u32 0, .int .u32 0, .int .u32 0, .int .u32 0, .int .u32 0, .int .u32 0, .int .u32 0, .int .u32 0, .int .u32 0, .int .u32 0], Value.agg #[.int .u32 0, .int .u32 0, .int .u64 0, .int .u64 0, .int .u64 0, .int .u64 0, .int .u64 0, .int .u64 0, .int .u64 0]].toList 8 = some ([.agg [.lit (.int .i64 0), .lit (.int .i64 0), .lit (.int .i64 0), .lit (.int .u32 0)], .agg [.lit (.int .u32 0), .lit (.int .u32 0), .agg [.lit (.int .u32 0), .lit (.int .u32 0), .lit (.int .u32 0), .lit (.int .u32 0), .lit (.int .u32 0), .lit (.int .u32 0), .lit (.int .u32 0), .lit (.int .u32 0), .lit (.int .u32 0), .lit (.int .u32 0), .lit (.int .u32 0), .lit (.int .u32 0), .lit (.int .u32 0), .lit (.int .u32 0), .lit (.int .u32 0), .lit (.int .u32 0)]], .agg [.lit (.int .u32 0), .lit (.int .u32 0), .agg [.lit (.int .u32 0), .lit (.int .u32 0), .lit (.int .u32 0), .lit (.int .u32 0), .lit (.int .u32 0), .lit (.int .u32 0), .lit (.int .u32 0), .lit (.int .u32 0), .lit (.int .u32 0), .lit (.int .u32 0), .lit (.int .u32 0), .lit (.int .u32 0), .lit (.int .u32 0), .lit (.int .u32 0), .lit (.int .u32 0), .lit (.int .u32 0)]], .agg [.lit (.int .u32 0), .lit (.int .u32 0), .lit (.int .u64 0), .agg [.lit (.int .u64 0), .lit (.int .u64 0), .lit (.int .u64 0), .lit (.int .u64 0), .lit (.int .u64 0), .lit (.int .u64 0)]]], [], places) :=
  ⟨[], by kernel_rfl⟩

set_option maxRecDepth 100000 in
theorem lifted (os : Os) (started : os.Started) (H : Type) (enc : TypeId × Value → H) (F : Stop.Interp) :
    ReturnsInHanded {} Tryd.checked os 6 .any ((OpenSpec.ofChange Rows.liveStepsSpec).preRow enc Tryd.prog Tryd.f6 Rows.liveStepsRow.domain false Rows.liveStepsRow.laid) (((OpenSpec.ofChange Rows.liveStepsSpec).at F).post enc Tryd.prog Tryd.f6 false true false false) := by
  obtain ⟨places, hx⟩ := reads os enc
  refine returnsInHanded_of_row (C := Tryd.checked) (s := OpenSpec.ofChange Rows.liveStepsSpec) own started (by kernel_rfl) Tryd.func6
    (witness_row_at (enc := enc) (C := Tryd.checked) false (laidWorld1 os) #[.agg #[.int .i64 0, .int .i64 0, .int .i64 0, .int .u32 0], .agg #[.int .u32 0, .int .u32 0, .int .u32 0, .int .u32 0, .int .u32 0, .int .u32 0, .int .u32 0, .int .u32 0, .int .u32 0, .int .u32 0, .int .u32 0, .int .u32 0, .int .u32 0, .int .u32 0, .int .u32 0, .int .u32 0, .int .u32 0, .int .u32 0], .agg #[.int .u32 0, .int .u32 0, .int .u32 0, .int .u32 0, .int .u32 0, .int .u32 0, .int .u32 0, .int .u32 0, .int .u32 0, .int .u32 0, .int .u32 0, .int .u32 0, .int .u32 0, .int .u32 0, .int .u32 0, .int .u32 0, .int .u32 0, .int .u32 0], .agg #[.int .u32 0, .int .u32 0, .int .u64 0, .int .u64 0, .int .u64 0, .int .u64 0, .int .u64 0, .int .u64 0, .int .u64 0]] rfl (by kernel_rfl) (by kernel_rfl) (by kernel_rfl)
      (OpenSpec.preRow_of_cond 8 hx (by kernel_rfl) (fun k hk => by cases hk) (by kernel_rfl) (laid_met os))) ?_
  intro W base args ds gs before hval hW _ _ _ hL _ _
  exact contract H enc W base args ds gs before hval hW hL

theorem said : Rows.LiveStepsSaid :=
  OpenClaim.holds_of_cond 6 Tryd.f6 rfl rfl rfl rfl rfl rfl rfl ⟨rfl, rfl, rfl, rfl, rfl⟩ rfl rfl rfl rfl rfl (by kernel_rfl) Tryd.func6 (by kernel_rfl)
    (of_decide_eq_true (by kernel_rfl)) (by unfold Func.isWrapper; first | (rw [if_pos (by decide +kernel)]; kernel_rfl) | (rw [if_neg (by decide +kernel)]; exact ⟨rfl, rfl⟩))
    (fun os started H enc _ F => by rw [OpenClaim.pre_eq_preRow]; exact lifted os started H enc F)

/-- No parameter wants a stand-in; the program's own looks are off. -/
theorem plain (f : FuncId) (fn : Func) (hf : Tryd.pinned.checked.prog.funcNamed "hurdle/hurdlelaw07.LiveSteps" = some f) (hfn : Tryd.pinned.checked.prog.funcs[f]? = some fn) :
    false = Tryd.pinned.checked.prog.looks [] ∧ ∀ (j : Nat) t, fn.params[j]? = some t → Tryd.pinned.checked.prog.wantsStandIn t = false := by
  obtain rfl : f = 6 := Option.some.inj ((show Tryd.prog.funcNamed "hurdle/hurdlelaw07.LiveSteps" = some 6 by kernel_rfl).symm.trans hf) |>.symm
  obtain rfl : fn = Tryd.f6 := (Option.some.inj (Tryd.func6.symm.trans hfn)).symm
  refine ⟨by kernel_rfl, fun j t ht => ?_⟩
  have hm := Array.mem_of_getElem? ht
  rw [Tryd.params6] at hm
  have all : ∀ t ∈ (#[24, 42, 42, 46] : Array TypeId).toList, Tryd.prog.wantsStandIn t = false := of_decide_eq_true (by kernel_rfl)
  exact all t (Array.mem_toList_iff.2 hm)

/-- The tied card. -/
theorem card : Rows.LiveStepsCardSaid :=
  Claim7.holds_tied_plain_at .later [] _ _ _ _ said (fun _ h => by cases h) (by kernel_rfl) (fun _ h => by cases h) liveSteps_row_tie rfl ⟨rfl, rfl⟩ (by kernel_rfl) rfl plain (by kernel_rfl)
end Go.Proofs.YtmbegncnbjafdaaDoor.liveSteps
