/-
  What the laws' texts use, joined.
-/
import Derived.Test.YtlgoeegpgcilbaaProg
import Derived.WalkKit
import Derived.Laws.BitsAllLaws
import Derived.ProofKit
import Derived.Lib.Hide
import Derived.Laws.Rows
import Derived.Laws.ResultCell
import Derived.Laws.Entries
import Derived.Handy
import Derived.OwnWalk
import Derived.Laws.OwnMore
import Derived.Deep.Draws
import Derived.Laws.IdiomStrings
import Derived.Lib.BufferRead
import Derived.Maps.OwnSet
import Derived.Laws.Tables
import Derived.Deep.DeepCutAuto
import Derived.DeepKeys
import Derived.Laws.StructEq
import Derived.Deep.RegionHeld3
import Derived.BigRegion
import Derived.BigQuiet
import Derived.Test.YtlgoeegpgcilbaaRows
import Derived.OpenShut
import Derived.Carry
import Derived.Deep.DeepHandedRow
import Derived.Lib.SmallJoins
import Derived.Deep.OwnRows
import Derived.Lib.QuietBelow
import Derived.RowKit
import Derived.Deep.QuietTactic
import Derived.Deep.CutBlock
import Derived.Shelf.Sort.Plain
import Derived.Shelf.Slices.Turned
import Derived.Shelf.Slices.Equal
import Derived.Ground.Names2Prog
import Derived.Shelf.Slices.CompactI
import Derived.Shelf.Slices.In.SortNone
import Derived.Lib.AppendZerosOnto
import Derived.Lib.SliceRun
import Derived.Lib.OwnBridge
import Derived.Sort.OwnSortedInts
import Derived.Deep.MidRow
import Derived.Stop.Joined
import Derived.Great.BuildSlice
import Derived.Test.YtlgoeegpgcilbaaPk1
import Derived.Test.YtlgoeegpgcilbaaPk2
import Derived.Test.YtlgoeegpgcilbaaPk3
import Derived.Test.YtlgoeegpgcilbaaPk4
/-
  Package bits: Do, of any two forms.
-/
namespace Go.Proofs.Ytlgoeegpgcilbaa
open Go.ChangeShapes Go.WideShapes Go.ChangeAt Go.RowKit
set_option maxRecDepth 100000

theorem gf_nil (w : World) : GF w (.agg #[.slice none 0 0, .slice none 0 0]) [] [] := ⟨_, _, rfl, NRow.nil _ _, NRow.nil _ _⟩
theorem infoFn : (Try.prog.info? 70).map (·.size) = some 1 := by kernel_rfl
section
variable {o : Oper} {a : Act} {w : World} {K : Act → World → Prop} {Q : Exit → Act → World → Prop}
theorem wp_putc {g : Nat} {v old : Value} {x y : Operand} (hG : w.heap[g]? = some (.cells #[old] 70)) (hv : v.oneCell' = true) (ho : o.op = .store 70 x y) (hx : a.eval x = .pointer (some ⟨g, 0, none⟩)) (hy : a.eval y = v)
    (h : ∀ w', RowPut w w' g (.cells #[v] 70) → K (a.put o.dst undef) w') : o.wp Try.prog a w K Q := by
  unfold Oper.wp execOp
  simp only [ho, hx, hy, Instr.storeAt, Instr.sureAddr, Sem.run_bind, Sem.run_pure, Result.andThen_ok, run_storeVar_one w g 70 70 old v hG infoFn hv]
  exact h _ (rowPut_set hG _)
end
theorem NRow.put1 {g : Nat} {x : Value} {ty : TypeId} {k : IntKind} {w w' : World} {u : Value} {l : List Int} {o : Obj} (h : NRow k w u l) (hG : w.heap[g]? = some (.cells #[x] ty)) (hx : ∀ z, x ≠ .int k z) (hp : RowPut w w' g o) : NRow k w' u l := by
  obtain ⟨ao, cap, rfl, h⟩ := h
  rcases h with rfl | ⟨b, off, rfl, hl, hc⟩
  · exact ⟨ao, cap, rfl, .inl rfl⟩
  · rcases Nat.eq_zero_or_pos l.length with h0 | h0
    · exact ⟨_, cap, rfl, .inl (List.eq_nil_of_length_eq_zero h0)⟩
    · have hn : b ≠ g := by
        intro e
        subst e
        have h1 := hc 0 h0
        rw [cell_in hG, Nat.add_zero] at h1
        match off, h1 with
        | 0, h1 => exact hx _ (by simpa using h1)
        | (q + 1), h1 => simp at h1
      exact ⟨_, cap, rfl, .inr ⟨b, off, rfl, by rw [hp.size]; exact hl, fun i hi => (rp_cell hp (p := ⟨b, _, none⟩) hn).trans (hc i hi)⟩⟩
theorem OverAt.put1 {g : Nat} {w w' : World} {c x : Value} {vs t U : List Nat} {o : Obj} (h : OverAt w c vs t U) (hG : w.heap[g]? = some (.cells #[x] 70)) (hp : RowPut w w' g o) (hx : ∀ k z, x ≠ .int k z := by intro k z; simp [Value.nilFunc]) : OverAt w' c vs t U := by
  obtain ⟨a, b, v1, v2, u, rfl, h1, h2, ⟨s1, s2, he, h3, h4⟩, h5⟩ := h
  have n1 : a ≠ g := fun e => by
    subst e
    rw [hG] at h1
    simp at h1
  have n2 : b ≠ g := fun e => by
    subst e
    rw [hG] at h2
    simp at h2
  exact ⟨a, b, v1, v2, u, rfl, hp.keep n1 h1, hp.keep n2 h2, ⟨s1, s2, he, h3.put1 hG (hx _) hp, h4.put1 hG (hx _) hp⟩, h5.put1 hG (hx _) hp⟩
theorem OverAt.shape {w : World} {c : Value} {vs t U : List Nat} (h : OverAt w c vs t U) : ∃ a b : Nat, c = .func (.func 49) #[] #[.pointer (some ⟨a, 0, none⟩), .pointer (some ⟨b, 0, none⟩)] ∧ True := by
  obtain ⟨a, b, _, _, _, rfl, _⟩ := h
  exact ⟨a, b, rfl, trivial⟩
set_option maxHeartbeats 16000000 in
theorem bdo_any (k : Int) (v1 v2 : Value) (l m : List Int) (t s : List Nat) (w : World) (h1 : GF w v1 l t) (h2 : GF w v2 m s) (hs1 : Small l t) (hs2 : Small m s) : Calls Try.prog 21 #[.int .i64 k, v1, v2] w fun e w' => ∃ v, e = .returned (.tuple #[v, .bool (okB k l t m s)]) ∧ GF w' v (natsI (doB k l t m s).vs) (doB k l t m s).tb ∧ Below w.heap.size w w' := by
  have H1 := Lib.hid h1
  have H2 := Lib.hid h2
  obtain ⟨s1, s2, rfl, p1, p2⟩ := h1.split
  obtain ⟨s3, s4, rfl, p3, p4⟩ := h2.split
  have HD := Lib.hid (fun (e : okB k l t m s = false) => doB_no e)
  have HN := Lib.hid (fun (h : ¬ doOk k l t m s) => okB_no h)
  have HY := Lib.hid (fun (h : doOk k l t m s) => okB_yes h)
  have HV := Lib.hid (fun (e : okB k l t m s = true) => doB_is (k := k) hs1.words hs2.words e)
  have HS1 := Lib.hid hs1
  have HS2 := Lib.hid hs2
  obtain ⟨D, hD⟩ : ∃ D, D = doB k l t m s := ⟨_, rfl⟩
  obtain ⟨B, hB⟩ : ∃ B, B = okB k l t m s := ⟨_, rfl⟩
  rw [← hD] at HD HV ⊢
  rw [← hB] at HD HN HY HV ⊢
  have HK : Hid (∀ h : ¬ doOk k l t m s, B = false ∧ D = ⟨[], []⟩) := Lib.hid (fun h => ⟨HN.out h, HD.out (HN.out h)⟩)
  clear h1 h2 hs1 hs2 hD hB HD HN
  obtain ⟨W, hW, x0, x1, x2, x3, hb⟩ := box4 w (.cells #[.int .i64 k] 3) (bfB s1 s2) (bfB s3 s4) (bfB (.slice none 0 0) (.slice none 0 0))
  have X0 := Lib.hid x0
  have X1 := Lib.hid x1
  have X2 := Lib.hid x2
  have X3 := Lib.hid x3
  have HB := Lib.hid hb
  have y0 := (cell_in x0 0).trans rfl
  clear x0 x1 x2 x3 hb
  by_cases hk : Bf.isK k
  · have HIs := Lib.hid hk
    obtain ⟨R1, hR1⟩ : ∃ R1, R1 = rightB l t := ⟨_, rfl⟩
    obtain ⟨R2, hR2⟩ : ∃ R2, R2 = rightB m s := ⟨_, rfl⟩
    have HR1 := Lib.hid (bright_any _ l t W (H1.out.below HB.out) HS1.out)
    have HR2 := Lib.hid (fun V (hV : Below w.heap.size w V) => bright_any _ m s V (H2.out.below hV) HS2.out)
    rw [← hR1] at HR1
    rw [← hR2] at HR2
    have HE1 := Lib.hid hR1
    have HE2 := Lib.hid hR2
    clear hR1 hR2
    go_enter Try.func21, Try.ntmps21
    go_upto_region 1 with fail
    rw [← hW]
    clear hW
    go_cut [30] (fun s30 wx => s30 = .bool (!(R1 && R2)) ∧ Below W.heap.size W wx)
    case first =>
      rcases hk with rfl | rfl | rfl
      all_goals
        go_wp2_with (refine ld_bfg X1.out (by rfl) rfl rfl ?_)
        refine HR1.out.mono ?_
        rintro e w1 ⟨rfl, hb1⟩
        have HBa := Lib.hid hb1
        have X21 := Lib.hid (kb hb1 X2.out)
        have HB1 := Lib.hid (below2 HB.out hb1)
        clear hb1 y0 HR1
        cases R1
        · go_wp2_with fail
          go_meet
          exact ⟨rfl, HBa.out⟩
        · go_wp2_with (refine ld_bfg X21.out (by rfl) rfl rfl ?_)
          refine (HR2.out _ HB1.out).mono ?_
          rintro e w2 ⟨rfl, hb2⟩
          have HBb := Lib.hid (below2 HBa.out hb2)
          clear hb2
          go_wp2_with fail
          go_meet
          exact ⟨by cases R2 <;> rfl, HBb.out⟩
    case rest =>
      obtain ⟨rfl, hb2⟩ := hcut
      generalize wc = w2 at *
      have X02 := Lib.hid (kb hb2 X0.out)
      have X12 := Lib.hid (kb hb2 X1.out)
      have X22 := Lib.hid (kb hb2 X2.out)
      have X32 := Lib.hid (kb hb2 X3.out)
      have HB2 := Lib.hid (below2 HB.out hb2)
      clear hb2 y0 HR1 HR2
      cases R1
      · obtain ⟨rfl, rfl⟩ := HK.out (fun h => right_no HE1.out.symm h.2.1)
        clear HK HV HY
        go_wp2_with (refine st_bf X32.out rfl rfl rfl rfl rfl rfl rfl ?_; intro W5 hp5; have HP5 := Lib.hid hp5; clear hp5)
        (try simp only [Exit.inBlock, Exit.then])
        exact bodyPost_ret (results_bf2 rfl rfl rfl HP5.out.row) rfl ⟨_, rfl, gf_nil _, HP5.out.below HB2.out (by omega)⟩
      · cases R2
        · obtain ⟨rfl, rfl⟩ := HK.out (fun h => right_no HE2.out.symm h.2.2.1)
          clear HK HV HY
          go_wp2_with (refine st_bf X32.out rfl rfl rfl rfl rfl rfl rfl ?_; intro W5 hp5; have HP5 := Lib.hid hp5; clear hp5)
          (try simp only [Exit.inBlock, Exit.then])
          exact bodyPost_ret (results_bf2 rfl rfl rfl HP5.out.row) rfl ⟨_, rfl, gf_nil _, HP5.out.below HB2.out (by omega)⟩
        · have hr1 := right_yes HE1.out.symm
          have hr2 := right_yes HE2.out.symm
          obtain ⟨hv1, hvs1⟩ := gright_of HS1.out.words hr1
          obtain ⟨hv2, hvs2⟩ := gright_of HS2.out.words hr2
          obtain ⟨f, hf⟩ : ∃ f, f = bfOf l t := ⟨_, rfl⟩
          obtain ⟨g, hg⟩ : ∃ g, g = bfOf m s := ⟨_, rfl⟩
          have hft : f.tb = t := by rw [hf]; rfl
          have hgt : g.tb = s := by rw [hg]; rfl
          rw [← hf] at hv1 hvs1
          rw [← hg] at hv2 hvs2
          have HV1 := Lib.hid hv1
          have HV2 := Lib.hid hv2
          have HRt := Lib.hid (And.intro hr1 hr2)
          have HFe := Lib.hid hf
          have HGe := Lib.hid hg
          clear hr1 hr2 hf hg hv1 hv2
          subst hft hgt
          go_wp2_with (first | (refine ld_bf X12.out rfl rfl rfl ?_) | (refine ld_bf X22.out rfl rfl rfl ?_))
          refine (btogether_any _ _ f.vs g.vs f.tb g.tb _ (by rw [hvs1]; exact H1.out.below HB2.out) (by rw [hvs2]; exact H2.out.below HB2.out) (fun x hx => by obtain ⟨j, hj, rfl⟩ := Bf.mAt_of_mem hx; exact HV1.out.small j hj) (fun x hx => by obtain ⟨j, hj, rfl⟩ := Bf.mAt_of_mem hx; exact HV2.out.small j hj) (by have := HV1.out.most; have := HV2.out.most; omega)).mono ?_
          rintro e w3 ⟨uU, rfl, hU, hb3⟩
          have HU := Lib.hid hU
          have X03 := Lib.hid (kb hb3 X02.out)
          have X13 := Lib.hid (kb hb3 X12.out)
          have X23 := Lib.hid (kb hb3 X22.out)
          have X33 := Lib.hid (kb hb3 X32.out)
          have HB3 := Lib.hid (below2 HB2.out hb3)
          clear hb3
          obtain ⟨U, hUe⟩ : ∃ U, U = Bf.bothF f.vs g.vs := ⟨_, rfl⟩
          have HUe := Lib.hid hUe
          rw [← hUe] at hU HU
          clear hUe
          obtain ⟨aoU, capU, rfl⟩ := hU.shape
          rw [natsI_len] at HU ⊢
          clear hU
          by_cases h4 : U.length ≤ 4
          · have g1 : ¬ (4 : Int) < (U.length : Int) := by omega
            go_wp2_with fail
            go_cut [9, 10] (fun s9 s10 wx => ∃ a b c1 c2, s9 = .pointer (some ⟨a, 0, none⟩) ∧ s10 = .pointer (some ⟨b, 0, none⟩) ∧ wx.heap[a]? = some (.cells #[c1] 70) ∧ wx.heap[b]? = some (.cells #[c2] 70) ∧ OverAt wx c1 f.vs f.tb U ∧ OverAt wx c2 g.vs g.tb U ∧ Below w3.heap.size w3 wx)
            case first =>
              have hF : GF w3.drew (.agg #[s1, s2]) (natsI f.vs) f.tb := by rw [hvs1]; exact H1.out.below (below2 HB3.out (bdN (Below.refl w3.heap.size w3) 1))
              have hG : GF w3.drew (.agg #[s3, s4]) (natsI g.vs) g.tb := by rw [hvs2]; exact H2.out.below (below2 HB3.out (bdN (Below.refl w3.heap.size w3) 1))
              have hU : NRow .i64 w3.drew (.slice aoU U.length capU) (natsI U) := HU.out.below (bdN (Below.refl w3.heap.size w3) 1)
              refine wp_region_held_drew (S := fun V => Below w3.heap.size w3 V) (by kernel_rfl) (bdN (Below.refl _ _) 1) (fun hHeld => ?_)
              generalize w3.drew = wZ at *
              refine jheld_take (i := 0) (v := .agg #[s1, s2]) (some 39) rfl rfl (by kernel_rfl) (by kernel_rfl) (by kernel_rfl) (fun _ _ _ h => h) (gyi_row (by rfl) (by rfl) (by rfl) (fun V hV => lv_bf (kb hV X13.out))) hHeld ?_
              simp only [Act.put, List.setIfInBounds_toArray, List.set_cons_zero, List.set_cons_succ]
              refine jheld_take (i := 1) (v := .slice aoU U.length capU) (some 40) rfl rfl (by kernel_rfl) (by kernel_rfl) (by kernel_rfl) (fun _ _ _ h => h) (.inl ⟨by rfl, fun V _ => by go_simp⟩) hHeld ?_
              simp only [Act.put, List.setIfInBounds_toArray, List.set_cons_zero, List.set_cons_succ]
              refine jheld_take (i := 3) (v := .agg #[s3, s4]) (some 42) rfl rfl (by kernel_rfl) (by kernel_rfl) (by kernel_rfl) (fun _ _ _ h => h) (gyi_row (by rfl) (by rfl) (by rfl) (fun V hV => lv_bf (kb hV X23.out))) hHeld ?_
              simp only [Act.put, List.setIfInBounds_toArray, List.set_cons_zero, List.set_cons_succ]
              refine jheld_take (i := 4) (v := .slice aoU U.length capU) (some 43) rfl rfl (by kernel_rfl) (by kernel_rfl) (by kernel_rfl) (fun _ _ _ h => h) (.inl ⟨by rfl, fun V _ => by go_simp⟩) hHeld ?_
              simp only [Act.put, List.setIfInBounds_toArray, List.set_cons_zero, List.set_cons_succ]
              refine wpAnyH_ready (rs := [2, 6, 7]) (by kernel_rfl) (by simp) ?_
              refine AllReadyH.cons rfl (fun K hK => ?_) (AllReadyH.cons rfl (fun K hK => ?_) (AllReadyH.cons rfl (fun K hK => ?_) AllReadyH.nil))
              · go_simp
                refine (bover_any _ _ f.vs f.tb U wZ hF hU).mono ?_
                rintro e wA0 ⟨c1, rfl, hA, hb9⟩
                have hF := hF.below hb9
                have hG := hG.below hb9
                have hU := hU.below hb9
                go_simp
                refine hK.out _ _ (below2 hHeld hb9) (fun hHeld => ?_)
                clear hK K hb9
                refine wpAnyH_ready (rs := [5, 6, 7]) (by kernel_rfl) (by simp) ?_
                refine AllReadyH.cons rfl (fun K hK => ?_) (AllReadyH.cons rfl (fun K hK => ?_) (AllReadyH.cons rfl (fun K hK => ?_) AllReadyH.nil))
                · go_simp
                  refine (bover_any _ _ g.vs g.tb U wA0 hG hU).mono ?_
                  rintro e wB1 ⟨c2, rfl, hB, hb9⟩
                  have hF := hF.below hb9
                  have hG := hG.below hb9
                  have hU := hU.below hb9
                  have hA := hA.below hb9
                  go_simp
                  refine hK.out _ _ (below2 hHeld hb9) (fun hHeld => ?_)
                  clear hK K hb9
                  refine wpAnyH_ready (rs := [6, 7]) (by kernel_rfl) (by simp) ?_
                  refine AllReadyH.cons rfl (fun K hK => ?_) (AllReadyH.cons rfl (fun K hK => ?_) AllReadyH.nil)
                  · go_simp
                    obtain ⟨pq, hgq⟩ : ∃ gq, gq = (wB1).heap.size := ⟨_, rfl⟩
                    have hP := heap_alloc_new (wB1) (.cells #[Value.nilFunc] 70)
                    rw [← hgq] at hP
                    have hAb : Below (wB1).heap.size (wB1) ((wB1).alloc (.cells #[Value.nilFunc] 70)) := ba _ (Below.refl _ _)
                    have hPs : w3.heap.size ≤ pq := by rw [hgq]; exact hHeld.size
                    have hF := hF.below hAb
                    have hG := hG.below hAb
                    have hU := hU.below hAb
                    have hA := hA.below hAb
                    have hB := hB.below hAb
                    rw [show (wB1).heap.size = pq from hgq.symm]
                    refine hK.out _ _ (below2 hHeld hAb) (fun hHeld => ?_)
                    clear hK K hAb hgq
                    generalize (wB1).alloc (.cells #[Value.nilFunc] 70) = wP2 at *
                    refine wpAnyH_ready (rs := [7]) (by kernel_rfl) (by simp) ?_
                    refine AllReadyH.cons rfl (fun K hK => ?_) AllReadyH.nil
                    go_simp
                    obtain ⟨qq, hgq⟩ : ∃ gq, gq = (wP2).heap.size := ⟨_, rfl⟩
                    have hQ := heap_alloc_new (wP2) (.cells #[Value.nilFunc] 70)
                    rw [← hgq] at hQ
                    have hAb : Below (wP2).heap.size (wP2) ((wP2).alloc (.cells #[Value.nilFunc] 70)) := ba _ (Below.refl _ _)
                    have hQs : w3.heap.size ≤ qq := by rw [hgq]; exact hHeld.size
                    have hne : pq ≠ qq := by have := lt_of_block hP; omega
                    have hF := hF.below hAb
                    have hG := hG.below hAb
                    have hU := hU.below hAb
                    have hA := hA.below hAb
                    have hB := hB.below hAb
                    have hP := kb hAb hP
                    rw [show (wP2).heap.size = qq from hgq.symm]
                    refine hK.out _ _ (below2 hHeld hAb) (fun hHeld => ?_)
                    clear hK K hAb hgq
                    generalize (wP2).alloc (.cells #[Value.nilFunc] 70) = wQ3 at *
                    refine wpAnyH_ready (rs := [8]) (by kernel_rfl) (by simp) ?_
                    refine AllReadyH.cons rfl (fun K hK => ?_) AllReadyH.nil
                    obtain ⟨a1, b1, rfl, _⟩ := hA.shape
                    obtain ⟨a2, b2, rfl, _⟩ := hB.shape
                    (try rw [if_pos (by rfl)])
                    refine wp_putc (v :=  (.func (.func 49) #[] #[.pointer (some ⟨a1, 0, none⟩), .pointer (some ⟨b1, 0, none⟩)])) hP (by rfl) (by rfl) (by rfl) (by rfl) ?_
                    intro wS4 hp
                    simp only [Act.put]
                    have hA := hA.put1 hP hp
                    have hB := hB.put1 hP hp
                    have hQ := hp.keep (Ne.symm hne) hQ
                    have hP := hp.row
                    refine hK.out _ _ (hp.below hHeld hPs) (fun hHeld => ?_)
                    clear hK K hp
                    refine wpAnyH_ready (rs := [9]) (by kernel_rfl) (by simp) ?_
                    refine AllReadyH.cons rfl (fun K hK => ?_) AllReadyH.nil
                    (try rw [if_pos (by rfl)])
                    refine wp_putc (v :=  (.func (.func 49) #[] #[.pointer (some ⟨a2, 0, none⟩), .pointer (some ⟨b2, 0, none⟩)])) hQ (by rfl) (by rfl) (by rfl) (by rfl) ?_
                    intro wT5 hp
                    simp only [Act.put]
                    have hA := hA.put1 hQ hp
                    have hB := hB.put1 hQ hp
                    have hP := hp.keep hne hP
                    have hQ := hp.row
                    refine hK.out _ _ (hp.below hHeld hQs) (fun hHeld => ?_)
                    clear hK K hp
                    refine wpAnyH_done (by kernel_rfl) ?_ _
                    go_wp2_with fail
                    go_meet
                    exact ⟨pq, qq, _, _, rfl, rfl, hP, hQ, hA, hB, hHeld⟩
                  · go_simp
                    obtain ⟨qq, hgq⟩ : ∃ gq, gq = (wB1).heap.size := ⟨_, rfl⟩
                    have hQ := heap_alloc_new (wB1) (.cells #[Value.nilFunc] 70)
                    rw [← hgq] at hQ
                    have hAb : Below (wB1).heap.size (wB1) ((wB1).alloc (.cells #[Value.nilFunc] 70)) := ba _ (Below.refl _ _)
                    have hQs : w3.heap.size ≤ qq := by rw [hgq]; exact hHeld.size
                    have hF := hF.below hAb
                    have hG := hG.below hAb
                    have hU := hU.below hAb
                    have hA := hA.below hAb
                    have hB := hB.below hAb
                    rw [show (wB1).heap.size = qq from hgq.symm]
                    refine hK.out _ _ (below2 hHeld hAb) (fun hHeld => ?_)
                    clear hK K hAb hgq
                    generalize (wB1).alloc (.cells #[Value.nilFunc] 70) = wQ2 at *
                    refine wpAnyH_ready (rs := [6]) (by kernel_rfl) (by simp) ?_
                    refine AllReadyH.cons rfl (fun K hK => ?_) AllReadyH.nil
                    go_simp
                    obtain ⟨pq, hgq⟩ : ∃ gq, gq = (wQ2).heap.size := ⟨_, rfl⟩
                    have hP := heap_alloc_new (wQ2) (.cells #[Value.nilFunc] 70)
                    rw [← hgq] at hP
                    have hAb : Below (wQ2).heap.size (wQ2) ((wQ2).alloc (.cells #[Value.nilFunc] 70)) := ba _ (Below.refl _ _)
                    have hPs : w3.heap.size ≤ pq := by rw [hgq]; exact hHeld.size
                    have hne : pq ≠ qq := by have := lt_of_block hQ; omega
                    have hF := hF.below hAb
                    have hG := hG.below hAb
                    have hU := hU.below hAb
                    have hA := hA.below hAb
                    have hB := hB.below hAb
                    have hQ := kb hAb hQ
                    rw [show (wQ2).heap.size = pq from hgq.symm]
                    refine hK.out _ _ (below2 hHeld hAb) (fun hHeld => ?_)
                    clear hK K hAb hgq
                    generalize (wQ2).alloc (.cells #[Value.nilFunc] 70) = wP3 at *
                    refine wpAnyH_ready (rs := [8]) (by kernel_rfl) (by simp) ?_
                    refine AllReadyH.cons rfl (fun K hK => ?_) AllReadyH.nil
                    obtain ⟨a1, b1, rfl, _⟩ := hA.shape
                    obtain ⟨a2, b2, rfl, _⟩ := hB.shape
                    (try rw [if_pos (by rfl)])
                    refine wp_putc (v :=  (.func (.func 49) #[] #[.pointer (some ⟨a1, 0, none⟩), .pointer (some ⟨b1, 0, none⟩)])) hP (by rfl) (by rfl) (by rfl) (by rfl) ?_
                    intro wS4 hp
                    simp only [Act.put]
                    have hA := hA.put1 hP hp
                    have hB := hB.put1 hP hp
                    have hQ := hp.keep (Ne.symm hne) hQ
                    have hP := hp.row
                    refine hK.out _ _ (hp.below hHeld hPs) (fun hHeld => ?_)
                    clear hK K hp
                    refine wpAnyH_ready (rs := [9]) (by kernel_rfl) (by simp) ?_
                    refine AllReadyH.cons rfl (fun K hK => ?_) AllReadyH.nil
                    (try rw [if_pos (by rfl)])
                    refine wp_putc (v :=  (.func (.func 49) #[] #[.pointer (some ⟨a2, 0, none⟩), .pointer (some ⟨b2, 0, none⟩)])) hQ (by rfl) (by rfl) (by rfl) (by rfl) ?_
                    intro wT5 hp
                    simp only [Act.put]
                    have hA := hA.put1 hQ hp
                    have hB := hB.put1 hQ hp
                    have hP := hp.keep hne hP
                    have hQ := hp.row
                    refine hK.out _ _ (hp.below hHeld hQs) (fun hHeld => ?_)
                    clear hK K hp
                    refine wpAnyH_done (by kernel_rfl) ?_ _
                    go_wp2_with fail
                    go_meet
                    exact ⟨pq, qq, _, _, rfl, rfl, hP, hQ, hA, hB, hHeld⟩
                · go_simp
                  obtain ⟨pq, hgq⟩ : ∃ gq, gq = (wA0).heap.size := ⟨_, rfl⟩
                  have hP := heap_alloc_new (wA0) (.cells #[Value.nilFunc] 70)
                  rw [← hgq] at hP
                  have hAb : Below (wA0).heap.size (wA0) ((wA0).alloc (.cells #[Value.nilFunc] 70)) := ba _ (Below.refl _ _)
                  have hPs : w3.heap.size ≤ pq := by rw [hgq]; exact hHeld.size
                  have hF := hF.below hAb
                  have hG := hG.below hAb
                  have hU := hU.below hAb
                  have hA := hA.below hAb
                  rw [show (wA0).heap.size = pq from hgq.symm]
                  refine hK.out _ _ (below2 hHeld hAb) (fun hHeld => ?_)
                  clear hK K hAb hgq
                  generalize (wA0).alloc (.cells #[Value.nilFunc] 70) = wP1 at *
                  refine wpAnyH_ready (rs := [5, 7]) (by kernel_rfl) (by simp) ?_
                  refine AllReadyH.cons rfl (fun K hK => ?_) (AllReadyH.cons rfl (fun K hK => ?_) AllReadyH.nil)
                  · go_simp
                    refine (bover_any _ _ g.vs g.tb U wP1 hG hU).mono ?_
                    rintro e wB2 ⟨c2, rfl, hB, hb9⟩
                    have hF := hF.below hb9
                    have hG := hG.below hb9
                    have hU := hU.below hb9
                    have hA := hA.below hb9
                    have hP := kb hb9 hP
                    go_simp
                    refine hK.out _ _ (below2 hHeld hb9) (fun hHeld => ?_)
                    clear hK K hb9
                    refine wpAnyH_ready (rs := [7]) (by kernel_rfl) (by simp) ?_
                    refine AllReadyH.cons rfl (fun K hK => ?_) AllReadyH.nil
                    go_simp
                    obtain ⟨qq, hgq⟩ : ∃ gq, gq = (wB2).heap.size := ⟨_, rfl⟩
                    have hQ := heap_alloc_new (wB2) (.cells #[Value.nilFunc] 70)
                    rw [← hgq] at hQ
                    have hAb : Below (wB2).heap.size (wB2) ((wB2).alloc (.cells #[Value.nilFunc] 70)) := ba _ (Below.refl _ _)
                    have hQs : w3.heap.size ≤ qq := by rw [hgq]; exact hHeld.size
                    have hne : pq ≠ qq := by have := lt_of_block hP; omega
                    have hF := hF.below hAb
                    have hG := hG.below hAb
                    have hU := hU.below hAb
                    have hA := hA.below hAb
                    have hP := kb hAb hP
                    have hB := hB.below hAb
                    rw [show (wB2).heap.size = qq from hgq.symm]
                    refine hK.out _ _ (below2 hHeld hAb) (fun hHeld => ?_)
                    clear hK K hAb hgq
                    generalize (wB2).alloc (.cells #[Value.nilFunc] 70) = wQ3 at *
                    refine wpAnyH_ready (rs := [8]) (by kernel_rfl) (by simp) ?_
                    refine AllReadyH.cons rfl (fun K hK => ?_) AllReadyH.nil
                    obtain ⟨a1, b1, rfl, _⟩ := hA.shape
                    obtain ⟨a2, b2, rfl, _⟩ := hB.shape
                    (try rw [if_pos (by rfl)])
                    refine wp_putc (v :=  (.func (.func 49) #[] #[.pointer (some ⟨a1, 0, none⟩), .pointer (some ⟨b1, 0, none⟩)])) hP (by rfl) (by rfl) (by rfl) (by rfl) ?_
                    intro wS4 hp
                    simp only [Act.put]
                    have hA := hA.put1 hP hp
                    have hB := hB.put1 hP hp
                    have hQ := hp.keep (Ne.symm hne) hQ
                    have hP := hp.row
                    refine hK.out _ _ (hp.below hHeld hPs) (fun hHeld => ?_)
                    clear hK K hp
                    refine wpAnyH_ready (rs := [9]) (by kernel_rfl) (by simp) ?_
                    refine AllReadyH.cons rfl (fun K hK => ?_) AllReadyH.nil
                    (try rw [if_pos (by rfl)])
                    refine wp_putc (v :=  (.func (.func 49) #[] #[.pointer (some ⟨a2, 0, none⟩), .pointer (some ⟨b2, 0, none⟩)])) hQ (by rfl) (by rfl) (by rfl) (by rfl) ?_
                    intro wT5 hp
                    simp only [Act.put]
                    have hA := hA.put1 hQ hp
                    have hB := hB.put1 hQ hp
                    have hP := hp.keep hne hP
                    have hQ := hp.row
                    refine hK.out _ _ (hp.below hHeld hQs) (fun hHeld => ?_)
                    clear hK K hp
                    refine wpAnyH_done (by kernel_rfl) ?_ _
                    go_wp2_with fail
                    go_meet
                    exact ⟨pq, qq, _, _, rfl, rfl, hP, hQ, hA, hB, hHeld⟩
                  · go_simp
                    obtain ⟨qq, hgq⟩ : ∃ gq, gq = (wP1).heap.size := ⟨_, rfl⟩
                    have hQ := heap_alloc_new (wP1) (.cells #[Value.nilFunc] 70)
                    rw [← hgq] at hQ
                    have hAb : Below (wP1).heap.size (wP1) ((wP1).alloc (.cells #[Value.nilFunc] 70)) := ba _ (Below.refl _ _)
                    have hQs : w3.heap.size ≤ qq := by rw [hgq]; exact hHeld.size
                    have hne : pq ≠ qq := by have := lt_of_block hP; omega
                    have hF := hF.below hAb
                    have hG := hG.below hAb
                    have hU := hU.below hAb
                    have hA := hA.below hAb
                    have hP := kb hAb hP
                    rw [show (wP1).heap.size = qq from hgq.symm]
                    refine hK.out _ _ (below2 hHeld hAb) (fun hHeld => ?_)
                    clear hK K hAb hgq
                    generalize (wP1).alloc (.cells #[Value.nilFunc] 70) = wQ2 at *
                    refine wpAnyH_ready (rs := [5]) (by kernel_rfl) (by simp) ?_
                    refine AllReadyH.cons rfl (fun K hK => ?_) AllReadyH.nil
                    go_simp
                    refine (bover_any _ _ g.vs g.tb U wQ2 hG hU).mono ?_
                    rintro e wB3 ⟨c2, rfl, hB, hb9⟩
                    have hF := hF.below hb9
                    have hG := hG.below hb9
                    have hU := hU.below hb9
                    have hA := hA.below hb9
                    have hP := kb hb9 hP
                    have hQ := kb hb9 hQ
                    go_simp
                    refine hK.out _ _ (below2 hHeld hb9) (fun hHeld => ?_)
                    clear hK K hb9
                    refine wpAnyH_ready (rs := [8]) (by kernel_rfl) (by simp) ?_
                    refine AllReadyH.cons rfl (fun K hK => ?_) AllReadyH.nil
                    obtain ⟨a1, b1, rfl, _⟩ := hA.shape
                    obtain ⟨a2, b2, rfl, _⟩ := hB.shape
                    (try rw [if_pos (by rfl)])
                    refine wp_putc (v :=  (.func (.func 49) #[] #[.pointer (some ⟨a1, 0, none⟩), .pointer (some ⟨b1, 0, none⟩)])) hP (by rfl) (by rfl) (by rfl) (by rfl) ?_
                    intro wS4 hp
                    simp only [Act.put]
                    have hA := hA.put1 hP hp
                    have hB := hB.put1 hP hp
                    have hQ := hp.keep (Ne.symm hne) hQ
                    have hP := hp.row
                    refine hK.out _ _ (hp.below hHeld hPs) (fun hHeld => ?_)
                    clear hK K hp
                    refine wpAnyH_ready (rs := [9]) (by kernel_rfl) (by simp) ?_
                    refine AllReadyH.cons rfl (fun K hK => ?_) AllReadyH.nil
                    (try rw [if_pos (by rfl)])
                    refine wp_putc (v :=  (.func (.func 49) #[] #[.pointer (some ⟨a2, 0, none⟩), .pointer (some ⟨b2, 0, none⟩)])) hQ (by rfl) (by rfl) (by rfl) (by rfl) ?_
                    intro wT5 hp
                    simp only [Act.put]
                    have hA := hA.put1 hQ hp
                    have hB := hB.put1 hQ hp
                    have hP := hp.keep hne hP
                    have hQ := hp.row
                    refine hK.out _ _ (hp.below hHeld hQs) (fun hHeld => ?_)
                    clear hK K hp
                    refine wpAnyH_done (by kernel_rfl) ?_ _
                    go_wp2_with fail
                    go_meet
                    exact ⟨pq, qq, _, _, rfl, rfl, hP, hQ, hA, hB, hHeld⟩
                · go_simp
                  obtain ⟨qq, hgq⟩ : ∃ gq, gq = (wA0).heap.size := ⟨_, rfl⟩
                  have hQ := heap_alloc_new (wA0) (.cells #[Value.nilFunc] 70)
                  rw [← hgq] at hQ
                  have hAb : Below (wA0).heap.size (wA0) ((wA0).alloc (.cells #[Value.nilFunc] 70)) := ba _ (Below.refl _ _)
                  have hQs : w3.heap.size ≤ qq := by rw [hgq]; exact hHeld.size
                  have hF := hF.below hAb
                  have hG := hG.below hAb
                  have hU := hU.below hAb
                  have hA := hA.below hAb
                  rw [show (wA0).heap.size = qq from hgq.symm]
                  refine hK.out _ _ (below2 hHeld hAb) (fun hHeld => ?_)
                  clear hK K hAb hgq
                  generalize (wA0).alloc (.cells #[Value.nilFunc] 70) = wQ1 at *
                  refine wpAnyH_ready (rs := [5, 6]) (by kernel_rfl) (by simp) ?_
                  refine AllReadyH.cons rfl (fun K hK => ?_) (AllReadyH.cons rfl (fun K hK => ?_) AllReadyH.nil)
                  · go_simp
                    refine (bover_any _ _ g.vs g.tb U wQ1 hG hU).mono ?_
                    rintro e wB2 ⟨c2, rfl, hB, hb9⟩
                    have hF := hF.below hb9
                    have hG := hG.below hb9
                    have hU := hU.below hb9
                    have hA := hA.below hb9
                    have hQ := kb hb9 hQ
                    go_simp
                    refine hK.out _ _ (below2 hHeld hb9) (fun hHeld => ?_)
                    clear hK K hb9
                    refine wpAnyH_ready (rs := [6]) (by kernel_rfl) (by simp) ?_
                    refine AllReadyH.cons rfl (fun K hK => ?_) AllReadyH.nil
                    go_simp
                    obtain ⟨pq, hgq⟩ : ∃ gq, gq = (wB2).heap.size := ⟨_, rfl⟩
                    have hP := heap_alloc_new (wB2) (.cells #[Value.nilFunc] 70)
                    rw [← hgq] at hP
                    have hAb : Below (wB2).heap.size (wB2) ((wB2).alloc (.cells #[Value.nilFunc] 70)) := ba _ (Below.refl _ _)
                    have hPs : w3.heap.size ≤ pq := by rw [hgq]; exact hHeld.size
                    have hne : pq ≠ qq := by have := lt_of_block hQ; omega
                    have hF := hF.below hAb
                    have hG := hG.below hAb
                    have hU := hU.below hAb
                    have hA := hA.below hAb
                    have hQ := kb hAb hQ
                    have hB := hB.below hAb
                    rw [show (wB2).heap.size = pq from hgq.symm]
                    refine hK.out _ _ (below2 hHeld hAb) (fun hHeld => ?_)
                    clear hK K hAb hgq
                    generalize (wB2).alloc (.cells #[Value.nilFunc] 70) = wP3 at *
                    refine wpAnyH_ready (rs := [8]) (by kernel_rfl) (by simp) ?_
                    refine AllReadyH.cons rfl (fun K hK => ?_) AllReadyH.nil
                    obtain ⟨a1, b1, rfl, _⟩ := hA.shape
                    obtain ⟨a2, b2, rfl, _⟩ := hB.shape
                    (try rw [if_pos (by rfl)])
                    refine wp_putc (v :=  (.func (.func 49) #[] #[.pointer (some ⟨a1, 0, none⟩), .pointer (some ⟨b1, 0, none⟩)])) hP (by rfl) (by rfl) (by rfl) (by rfl) ?_
                    intro wS4 hp
                    simp only [Act.put]
                    have hA := hA.put1 hP hp
                    have hB := hB.put1 hP hp
                    have hQ := hp.keep (Ne.symm hne) hQ
                    have hP := hp.row
                    refine hK.out _ _ (hp.below hHeld hPs) (fun hHeld => ?_)
                    clear hK K hp
                    refine wpAnyH_ready (rs := [9]) (by kernel_rfl) (by simp) ?_
                    refine AllReadyH.cons rfl (fun K hK => ?_) AllReadyH.nil
                    (try rw [if_pos (by rfl)])
                    refine wp_putc (v :=  (.func (.func 49) #[] #[.pointer (some ⟨a2, 0, none⟩), .pointer (some ⟨b2, 0, none⟩)])) hQ (by rfl) (by rfl) (by rfl) (by rfl) ?_
                    intro wT5 hp
                    simp only [Act.put]
                    have hA := hA.put1 hQ hp
                    have hB := hB.put1 hQ hp
                    have hP := hp.keep hne hP
                    have hQ := hp.row
                    refine hK.out _ _ (hp.below hHeld hQs) (fun hHeld => ?_)
                    clear hK K hp
                    refine wpAnyH_done (by kernel_rfl) ?_ _
                    go_wp2_with fail
                    go_meet
                    exact ⟨pq, qq, _, _, rfl, rfl, hP, hQ, hA, hB, hHeld⟩
                  · go_simp
                    obtain ⟨pq, hgq⟩ : ∃ gq, gq = (wQ1).heap.size := ⟨_, rfl⟩
                    have hP := heap_alloc_new (wQ1) (.cells #[Value.nilFunc] 70)
                    rw [← hgq] at hP
                    have hAb : Below (wQ1).heap.size (wQ1) ((wQ1).alloc (.cells #[Value.nilFunc] 70)) := ba _ (Below.refl _ _)
                    have hPs : w3.heap.size ≤ pq := by rw [hgq]; exact hHeld.size
                    have hne : pq ≠ qq := by have := lt_of_block hQ; omega
                    have hF := hF.below hAb
                    have hG := hG.below hAb
                    have hU := hU.below hAb
                    have hA := hA.below hAb
                    have hQ := kb hAb hQ
                    rw [show (wQ1).heap.size = pq from hgq.symm]
                    refine hK.out _ _ (below2 hHeld hAb) (fun hHeld => ?_)
                    clear hK K hAb hgq
                    generalize (wQ1).alloc (.cells #[Value.nilFunc] 70) = wP2 at *
                    refine wpAnyH_ready (rs := [5]) (by kernel_rfl) (by simp) ?_
                    refine AllReadyH.cons rfl (fun K hK => ?_) AllReadyH.nil
                    go_simp
                    refine (bover_any _ _ g.vs g.tb U wP2 hG hU).mono ?_
                    rintro e wB3 ⟨c2, rfl, hB, hb9⟩
                    have hF := hF.below hb9
                    have hG := hG.below hb9
                    have hU := hU.below hb9
                    have hA := hA.below hb9
                    have hQ := kb hb9 hQ
                    have hP := kb hb9 hP
                    go_simp
                    refine hK.out _ _ (below2 hHeld hb9) (fun hHeld => ?_)
                    clear hK K hb9
                    refine wpAnyH_ready (rs := [8]) (by kernel_rfl) (by simp) ?_
                    refine AllReadyH.cons rfl (fun K hK => ?_) AllReadyH.nil
                    obtain ⟨a1, b1, rfl, _⟩ := hA.shape
                    obtain ⟨a2, b2, rfl, _⟩ := hB.shape
                    (try rw [if_pos (by rfl)])
                    refine wp_putc (v :=  (.func (.func 49) #[] #[.pointer (some ⟨a1, 0, none⟩), .pointer (some ⟨b1, 0, none⟩)])) hP (by rfl) (by rfl) (by rfl) (by rfl) ?_
                    intro wS4 hp
                    simp only [Act.put]
                    have hA := hA.put1 hP hp
                    have hB := hB.put1 hP hp
                    have hQ := hp.keep (Ne.symm hne) hQ
                    have hP := hp.row
                    refine hK.out _ _ (hp.below hHeld hPs) (fun hHeld => ?_)
                    clear hK K hp
                    refine wpAnyH_ready (rs := [9]) (by kernel_rfl) (by simp) ?_
                    refine AllReadyH.cons rfl (fun K hK => ?_) AllReadyH.nil
                    (try rw [if_pos (by rfl)])
                    refine wp_putc (v :=  (.func (.func 49) #[] #[.pointer (some ⟨a2, 0, none⟩), .pointer (some ⟨b2, 0, none⟩)])) hQ (by rfl) (by rfl) (by rfl) (by rfl) ?_
                    intro wT5 hp
                    simp only [Act.put]
                    have hA := hA.put1 hQ hp
                    have hB := hB.put1 hQ hp
                    have hP := hp.keep hne hP
                    have hQ := hp.row
                    refine hK.out _ _ (hp.below hHeld hQs) (fun hHeld => ?_)
                    clear hK K hp
                    refine wpAnyH_done (by kernel_rfl) ?_ _
                    go_wp2_with fail
                    go_meet
                    exact ⟨pq, qq, _, _, rfl, rfl, hP, hQ, hA, hB, hHeld⟩
              · go_simp
                obtain ⟨pq, hgq⟩ : ∃ gq, gq = (wZ).heap.size := ⟨_, rfl⟩
                have hP := heap_alloc_new (wZ) (.cells #[Value.nilFunc] 70)
                rw [← hgq] at hP
                have hAb : Below (wZ).heap.size (wZ) ((wZ).alloc (.cells #[Value.nilFunc] 70)) := ba _ (Below.refl _ _)
                have hPs : w3.heap.size ≤ pq := by rw [hgq]; exact hHeld.size
                have hF := hF.below hAb
                have hG := hG.below hAb
                have hU := hU.below hAb
                rw [show (wZ).heap.size = pq from hgq.symm]
                refine hK.out _ _ (below2 hHeld hAb) (fun hHeld => ?_)
                clear hK K hAb hgq
                generalize (wZ).alloc (.cells #[Value.nilFunc] 70) = wP0 at *
                refine wpAnyH_ready (rs := [2, 7]) (by kernel_rfl) (by simp) ?_
                refine AllReadyH.cons rfl (fun K hK => ?_) (AllReadyH.cons rfl (fun K hK => ?_) AllReadyH.nil)
                · go_simp
                  refine (bover_any _ _ f.vs f.tb U wP0 hF hU).mono ?_
                  rintro e wA1 ⟨c1, rfl, hA, hb9⟩
                  have hF := hF.below hb9
                  have hG := hG.below hb9
                  have hU := hU.below hb9
                  have hP := kb hb9 hP
                  go_simp
                  refine hK.out _ _ (below2 hHeld hb9) (fun hHeld => ?_)
                  clear hK K hb9
                  refine wpAnyH_ready (rs := [5, 7]) (by kernel_rfl) (by simp) ?_
                  refine AllReadyH.cons rfl (fun K hK => ?_) (AllReadyH.cons rfl (fun K hK => ?_) AllReadyH.nil)
                  · go_simp
                    refine (bover_any _ _ g.vs g.tb U wA1 hG hU).mono ?_
                    rintro e wB2 ⟨c2, rfl, hB, hb9⟩
                    have hF := hF.below hb9
                    have hG := hG.below hb9
                    have hU := hU.below hb9
                    have hP := kb hb9 hP
                    have hA := hA.below hb9
                    go_simp
                    refine hK.out _ _ (below2 hHeld hb9) (fun hHeld => ?_)
                    clear hK K hb9
                    refine wpAnyH_ready (rs := [7]) (by kernel_rfl) (by simp) ?_
                    refine AllReadyH.cons rfl (fun K hK => ?_) AllReadyH.nil
                    go_simp
                    obtain ⟨qq, hgq⟩ : ∃ gq, gq = (wB2).heap.size := ⟨_, rfl⟩
                    have hQ := heap_alloc_new (wB2) (.cells #[Value.nilFunc] 70)
                    rw [← hgq] at hQ
                    have hAb : Below (wB2).heap.size (wB2) ((wB2).alloc (.cells #[Value.nilFunc] 70)) := ba _ (Below.refl _ _)
                    have hQs : w3.heap.size ≤ qq := by rw [hgq]; exact hHeld.size
                    have hne : pq ≠ qq := by have := lt_of_block hP; omega
                    have hF := hF.below hAb
                    have hG := hG.below hAb
                    have hU := hU.below hAb
                    have hP := kb hAb hP
                    have hA := hA.below hAb
                    have hB := hB.below hAb
                    rw [show (wB2).heap.size = qq from hgq.symm]
                    refine hK.out _ _ (below2 hHeld hAb) (fun hHeld => ?_)
                    clear hK K hAb hgq
                    generalize (wB2).alloc (.cells #[Value.nilFunc] 70) = wQ3 at *
                    refine wpAnyH_ready (rs := [8]) (by kernel_rfl) (by simp) ?_
                    refine AllReadyH.cons rfl (fun K hK => ?_) AllReadyH.nil
                    obtain ⟨a1, b1, rfl, _⟩ := hA.shape
                    obtain ⟨a2, b2, rfl, _⟩ := hB.shape
                    (try rw [if_pos (by rfl)])
                    refine wp_putc (v :=  (.func (.func 49) #[] #[.pointer (some ⟨a1, 0, none⟩), .pointer (some ⟨b1, 0, none⟩)])) hP (by rfl) (by rfl) (by rfl) (by rfl) ?_
                    intro wS4 hp
                    simp only [Act.put]
                    have hA := hA.put1 hP hp
                    have hB := hB.put1 hP hp
                    have hQ := hp.keep (Ne.symm hne) hQ
                    have hP := hp.row
                    refine hK.out _ _ (hp.below hHeld hPs) (fun hHeld => ?_)
                    clear hK K hp
                    refine wpAnyH_ready (rs := [9]) (by kernel_rfl) (by simp) ?_
                    refine AllReadyH.cons rfl (fun K hK => ?_) AllReadyH.nil
                    (try rw [if_pos (by rfl)])
                    refine wp_putc (v :=  (.func (.func 49) #[] #[.pointer (some ⟨a2, 0, none⟩), .pointer (some ⟨b2, 0, none⟩)])) hQ (by rfl) (by rfl) (by rfl) (by rfl) ?_
                    intro wT5 hp
                    simp only [Act.put]
                    have hA := hA.put1 hQ hp
                    have hB := hB.put1 hQ hp
                    have hP := hp.keep hne hP
                    have hQ := hp.row
                    refine hK.out _ _ (hp.below hHeld hQs) (fun hHeld => ?_)
                    clear hK K hp
                    refine wpAnyH_done (by kernel_rfl) ?_ _
                    go_wp2_with fail
                    go_meet
                    exact ⟨pq, qq, _, _, rfl, rfl, hP, hQ, hA, hB, hHeld⟩
                  · go_simp
                    obtain ⟨qq, hgq⟩ : ∃ gq, gq = (wA1).heap.size := ⟨_, rfl⟩
                    have hQ := heap_alloc_new (wA1) (.cells #[Value.nilFunc] 70)
                    rw [← hgq] at hQ
                    have hAb : Below (wA1).heap.size (wA1) ((wA1).alloc (.cells #[Value.nilFunc] 70)) := ba _ (Below.refl _ _)
                    have hQs : w3.heap.size ≤ qq := by rw [hgq]; exact hHeld.size
                    have hne : pq ≠ qq := by have := lt_of_block hP; omega
                    have hF := hF.below hAb
                    have hG := hG.below hAb
                    have hU := hU.below hAb
                    have hP := kb hAb hP
                    have hA := hA.below hAb
                    rw [show (wA1).heap.size = qq from hgq.symm]
                    refine hK.out _ _ (below2 hHeld hAb) (fun hHeld => ?_)
                    clear hK K hAb hgq
                    generalize (wA1).alloc (.cells #[Value.nilFunc] 70) = wQ2 at *
                    refine wpAnyH_ready (rs := [5]) (by kernel_rfl) (by simp) ?_
                    refine AllReadyH.cons rfl (fun K hK => ?_) AllReadyH.nil
                    go_simp
                    refine (bover_any _ _ g.vs g.tb U wQ2 hG hU).mono ?_
                    rintro e wB3 ⟨c2, rfl, hB, hb9⟩
                    have hF := hF.below hb9
                    have hG := hG.below hb9
                    have hU := hU.below hb9
                    have hP := kb hb9 hP
                    have hA := hA.below hb9
                    have hQ := kb hb9 hQ
                    go_simp
                    refine hK.out _ _ (below2 hHeld hb9) (fun hHeld => ?_)
                    clear hK K hb9
                    refine wpAnyH_ready (rs := [8]) (by kernel_rfl) (by simp) ?_
                    refine AllReadyH.cons rfl (fun K hK => ?_) AllReadyH.nil
                    obtain ⟨a1, b1, rfl, _⟩ := hA.shape
                    obtain ⟨a2, b2, rfl, _⟩ := hB.shape
                    (try rw [if_pos (by rfl)])
                    refine wp_putc (v :=  (.func (.func 49) #[] #[.pointer (some ⟨a1, 0, none⟩), .pointer (some ⟨b1, 0, none⟩)])) hP (by rfl) (by rfl) (by rfl) (by rfl) ?_
                    intro wS4 hp
                    simp only [Act.put]
                    have hA := hA.put1 hP hp
                    have hB := hB.put1 hP hp
                    have hQ := hp.keep (Ne.symm hne) hQ
                    have hP := hp.row
                    refine hK.out _ _ (hp.below hHeld hPs) (fun hHeld => ?_)
                    clear hK K hp
                    refine wpAnyH_ready (rs := [9]) (by kernel_rfl) (by simp) ?_
                    refine AllReadyH.cons rfl (fun K hK => ?_) AllReadyH.nil
                    (try rw [if_pos (by rfl)])
                    refine wp_putc (v :=  (.func (.func 49) #[] #[.pointer (some ⟨a2, 0, none⟩), .pointer (some ⟨b2, 0, none⟩)])) hQ (by rfl) (by rfl) (by rfl) (by rfl) ?_
                    intro wT5 hp
                    simp only [Act.put]
                    have hA := hA.put1 hQ hp
                    have hB := hB.put1 hQ hp
                    have hP := hp.keep hne hP
                    have hQ := hp.row
                    refine hK.out _ _ (hp.below hHeld hQs) (fun hHeld => ?_)
                    clear hK K hp
                    refine wpAnyH_done (by kernel_rfl) ?_ _
                    go_wp2_with fail
                    go_meet
                    exact ⟨pq, qq, _, _, rfl, rfl, hP, hQ, hA, hB, hHeld⟩
                · go_simp
                  obtain ⟨qq, hgq⟩ : ∃ gq, gq = (wP0).heap.size := ⟨_, rfl⟩
                  have hQ := heap_alloc_new (wP0) (.cells #[Value.nilFunc] 70)
                  rw [← hgq] at hQ
                  have hAb : Below (wP0).heap.size (wP0) ((wP0).alloc (.cells #[Value.nilFunc] 70)) := ba _ (Below.refl _ _)
                  have hQs : w3.heap.size ≤ qq := by rw [hgq]; exact hHeld.size
                  have hne : pq ≠ qq := by have := lt_of_block hP; omega
                  have hF := hF.below hAb
                  have hG := hG.below hAb
                  have hU := hU.below hAb
                  have hP := kb hAb hP
                  rw [show (wP0).heap.size = qq from hgq.symm]
                  refine hK.out _ _ (below2 hHeld hAb) (fun hHeld => ?_)
                  clear hK K hAb hgq
                  generalize (wP0).alloc (.cells #[Value.nilFunc] 70) = wQ1 at *
                  refine wpAnyH_ready (rs := [2]) (by kernel_rfl) (by simp) ?_
                  refine AllReadyH.cons rfl (fun K hK => ?_) AllReadyH.nil
                  go_simp
                  refine (bover_any _ _ f.vs f.tb U wQ1 hF hU).mono ?_
                  rintro e wA2 ⟨c1, rfl, hA, hb9⟩
                  have hF := hF.below hb9
                  have hG := hG.below hb9
                  have hU := hU.below hb9
                  have hP := kb hb9 hP
                  have hQ := kb hb9 hQ
                  go_simp
                  refine hK.out _ _ (below2 hHeld hb9) (fun hHeld => ?_)
                  clear hK K hb9
                  refine wpAnyH_ready (rs := [5]) (by kernel_rfl) (by simp) ?_
                  refine AllReadyH.cons rfl (fun K hK => ?_) AllReadyH.nil
                  go_simp
                  refine (bover_any _ _ g.vs g.tb U wA2 hG hU).mono ?_
                  rintro e wB3 ⟨c2, rfl, hB, hb9⟩
                  have hF := hF.below hb9
                  have hG := hG.below hb9
                  have hU := hU.below hb9
                  have hP := kb hb9 hP
                  have hQ := kb hb9 hQ
                  have hA := hA.below hb9
                  go_simp
                  refine hK.out _ _ (below2 hHeld hb9) (fun hHeld => ?_)
                  clear hK K hb9
                  refine wpAnyH_ready (rs := [8]) (by kernel_rfl) (by simp) ?_
                  refine AllReadyH.cons rfl (fun K hK => ?_) AllReadyH.nil
                  obtain ⟨a1, b1, rfl, _⟩ := hA.shape
                  obtain ⟨a2, b2, rfl, _⟩ := hB.shape
                  (try rw [if_pos (by rfl)])
                  refine wp_putc (v :=  (.func (.func 49) #[] #[.pointer (some ⟨a1, 0, none⟩), .pointer (some ⟨b1, 0, none⟩)])) hP (by rfl) (by rfl) (by rfl) (by rfl) ?_
                  intro wS4 hp
                  simp only [Act.put]
                  have hA := hA.put1 hP hp
                  have hB := hB.put1 hP hp
                  have hQ := hp.keep (Ne.symm hne) hQ
                  have hP := hp.row
                  refine hK.out _ _ (hp.below hHeld hPs) (fun hHeld => ?_)
                  clear hK K hp
                  refine wpAnyH_ready (rs := [9]) (by kernel_rfl) (by simp) ?_
                  refine AllReadyH.cons rfl (fun K hK => ?_) AllReadyH.nil
                  (try rw [if_pos (by rfl)])
                  refine wp_putc (v :=  (.func (.func 49) #[] #[.pointer (some ⟨a2, 0, none⟩), .pointer (some ⟨b2, 0, none⟩)])) hQ (by rfl) (by rfl) (by rfl) (by rfl) ?_
                  intro wT5 hp
                  simp only [Act.put]
                  have hA := hA.put1 hQ hp
                  have hB := hB.put1 hQ hp
                  have hP := hp.keep hne hP
                  have hQ := hp.row
                  refine hK.out _ _ (hp.below hHeld hQs) (fun hHeld => ?_)
                  clear hK K hp
                  refine wpAnyH_done (by kernel_rfl) ?_ _
                  go_wp2_with fail
                  go_meet
                  exact ⟨pq, qq, _, _, rfl, rfl, hP, hQ, hA, hB, hHeld⟩
              · go_simp
                obtain ⟨qq, hgq⟩ : ∃ gq, gq = (wZ).heap.size := ⟨_, rfl⟩
                have hQ := heap_alloc_new (wZ) (.cells #[Value.nilFunc] 70)
                rw [← hgq] at hQ
                have hAb : Below (wZ).heap.size (wZ) ((wZ).alloc (.cells #[Value.nilFunc] 70)) := ba _ (Below.refl _ _)
                have hQs : w3.heap.size ≤ qq := by rw [hgq]; exact hHeld.size
                have hF := hF.below hAb
                have hG := hG.below hAb
                have hU := hU.below hAb
                rw [show (wZ).heap.size = qq from hgq.symm]
                refine hK.out _ _ (below2 hHeld hAb) (fun hHeld => ?_)
                clear hK K hAb hgq
                generalize (wZ).alloc (.cells #[Value.nilFunc] 70) = wQ0 at *
                refine wpAnyH_ready (rs := [2, 6]) (by kernel_rfl) (by simp) ?_
                refine AllReadyH.cons rfl (fun K hK => ?_) (AllReadyH.cons rfl (fun K hK => ?_) AllReadyH.nil)
                · go_simp
                  refine (bover_any _ _ f.vs f.tb U wQ0 hF hU).mono ?_
                  rintro e wA1 ⟨c1, rfl, hA, hb9⟩
                  have hF := hF.below hb9
                  have hG := hG.below hb9
                  have hU := hU.below hb9
                  have hQ := kb hb9 hQ
                  go_simp
                  refine hK.out _ _ (below2 hHeld hb9) (fun hHeld => ?_)
                  clear hK K hb9
                  refine wpAnyH_ready (rs := [5, 6]) (by kernel_rfl) (by simp) ?_
                  refine AllReadyH.cons rfl (fun K hK => ?_) (AllReadyH.cons rfl (fun K hK => ?_) AllReadyH.nil)
                  · go_simp
                    refine (bover_any _ _ g.vs g.tb U wA1 hG hU).mono ?_
                    rintro e wB2 ⟨c2, rfl, hB, hb9⟩
                    have hF := hF.below hb9
                    have hG := hG.below hb9
                    have hU := hU.below hb9
                    have hQ := kb hb9 hQ
                    have hA := hA.below hb9
                    go_simp
                    refine hK.out _ _ (below2 hHeld hb9) (fun hHeld => ?_)
                    clear hK K hb9
                    refine wpAnyH_ready (rs := [6]) (by kernel_rfl) (by simp) ?_
                    refine AllReadyH.cons rfl (fun K hK => ?_) AllReadyH.nil
                    go_simp
                    obtain ⟨pq, hgq⟩ : ∃ gq, gq = (wB2).heap.size := ⟨_, rfl⟩
                    have hP := heap_alloc_new (wB2) (.cells #[Value.nilFunc] 70)
                    rw [← hgq] at hP
                    have hAb : Below (wB2).heap.size (wB2) ((wB2).alloc (.cells #[Value.nilFunc] 70)) := ba _ (Below.refl _ _)
                    have hPs : w3.heap.size ≤ pq := by rw [hgq]; exact hHeld.size
                    have hne : pq ≠ qq := by have := lt_of_block hQ; omega
                    have hF := hF.below hAb
                    have hG := hG.below hAb
                    have hU := hU.below hAb
                    have hQ := kb hAb hQ
                    have hA := hA.below hAb
                    have hB := hB.below hAb
                    rw [show (wB2).heap.size = pq from hgq.symm]
                    refine hK.out _ _ (below2 hHeld hAb) (fun hHeld => ?_)
                    clear hK K hAb hgq
                    generalize (wB2).alloc (.cells #[Value.nilFunc] 70) = wP3 at *
                    refine wpAnyH_ready (rs := [8]) (by kernel_rfl) (by simp) ?_
                    refine AllReadyH.cons rfl (fun K hK => ?_) AllReadyH.nil
                    obtain ⟨a1, b1, rfl, _⟩ := hA.shape
                    obtain ⟨a2, b2, rfl, _⟩ := hB.shape
                    (try rw [if_pos (by rfl)])
                    refine wp_putc (v :=  (.func (.func 49) #[] #[.pointer (some ⟨a1, 0, none⟩), .pointer (some ⟨b1, 0, none⟩)])) hP (by rfl) (by rfl) (by rfl) (by rfl) ?_
                    intro wS4 hp
                    simp only [Act.put]
                    have hA := hA.put1 hP hp
                    have hB := hB.put1 hP hp
                    have hQ := hp.keep (Ne.symm hne) hQ
                    have hP := hp.row
                    refine hK.out _ _ (hp.below hHeld hPs) (fun hHeld => ?_)
                    clear hK K hp
                    refine wpAnyH_ready (rs := [9]) (by kernel_rfl) (by simp) ?_
                    refine AllReadyH.cons rfl (fun K hK => ?_) AllReadyH.nil
                    (try rw [if_pos (by rfl)])
                    refine wp_putc (v :=  (.func (.func 49) #[] #[.pointer (some ⟨a2, 0, none⟩), .pointer (some ⟨b2, 0, none⟩)])) hQ (by rfl) (by rfl) (by rfl) (by rfl) ?_
                    intro wT5 hp
                    simp only [Act.put]
                    have hA := hA.put1 hQ hp
                    have hB := hB.put1 hQ hp
                    have hP := hp.keep hne hP
                    have hQ := hp.row
                    refine hK.out _ _ (hp.below hHeld hQs) (fun hHeld => ?_)
                    clear hK K hp
                    refine wpAnyH_done (by kernel_rfl) ?_ _
                    go_wp2_with fail
                    go_meet
                    exact ⟨pq, qq, _, _, rfl, rfl, hP, hQ, hA, hB, hHeld⟩
                  · go_simp
                    obtain ⟨pq, hgq⟩ : ∃ gq, gq = (wA1).heap.size := ⟨_, rfl⟩
                    have hP := heap_alloc_new (wA1) (.cells #[Value.nilFunc] 70)
                    rw [← hgq] at hP
                    have hAb : Below (wA1).heap.size (wA1) ((wA1).alloc (.cells #[Value.nilFunc] 70)) := ba _ (Below.refl _ _)
                    have hPs : w3.heap.size ≤ pq := by rw [hgq]; exact hHeld.size
                    have hne : pq ≠ qq := by have := lt_of_block hQ; omega
                    have hF := hF.below hAb
                    have hG := hG.below hAb
                    have hU := hU.below hAb
                    have hQ := kb hAb hQ
                    have hA := hA.below hAb
                    rw [show (wA1).heap.size = pq from hgq.symm]
                    refine hK.out _ _ (below2 hHeld hAb) (fun hHeld => ?_)
                    clear hK K hAb hgq
                    generalize (wA1).alloc (.cells #[Value.nilFunc] 70) = wP2 at *
                    refine wpAnyH_ready (rs := [5]) (by kernel_rfl) (by simp) ?_
                    refine AllReadyH.cons rfl (fun K hK => ?_) AllReadyH.nil
                    go_simp
                    refine (bover_any _ _ g.vs g.tb U wP2 hG hU).mono ?_
                    rintro e wB3 ⟨c2, rfl, hB, hb9⟩
                    have hF := hF.below hb9
                    have hG := hG.below hb9
                    have hU := hU.below hb9
                    have hQ := kb hb9 hQ
                    have hA := hA.below hb9
                    have hP := kb hb9 hP
                    go_simp
                    refine hK.out _ _ (below2 hHeld hb9) (fun hHeld => ?_)
                    clear hK K hb9
                    refine wpAnyH_ready (rs := [8]) (by kernel_rfl) (by simp) ?_
                    refine AllReadyH.cons rfl (fun K hK => ?_) AllReadyH.nil
                    obtain ⟨a1, b1, rfl, _⟩ := hA.shape
                    obtain ⟨a2, b2, rfl, _⟩ := hB.shape
                    (try rw [if_pos (by rfl)])
                    refine wp_putc (v :=  (.func (.func 49) #[] #[.pointer (some ⟨a1, 0, none⟩), .pointer (some ⟨b1, 0, none⟩)])) hP (by rfl) (by rfl) (by rfl) (by rfl) ?_
                    intro wS4 hp
                    simp only [Act.put]
                    have hA := hA.put1 hP hp
                    have hB := hB.put1 hP hp
                    have hQ := hp.keep (Ne.symm hne) hQ
                    have hP := hp.row
                    refine hK.out _ _ (hp.below hHeld hPs) (fun hHeld => ?_)
                    clear hK K hp
                    refine wpAnyH_ready (rs := [9]) (by kernel_rfl) (by simp) ?_
                    refine AllReadyH.cons rfl (fun K hK => ?_) AllReadyH.nil
                    (try rw [if_pos (by rfl)])
                    refine wp_putc (v :=  (.func (.func 49) #[] #[.pointer (some ⟨a2, 0, none⟩), .pointer (some ⟨b2, 0, none⟩)])) hQ (by rfl) (by rfl) (by rfl) (by rfl) ?_
                    intro wT5 hp
                    simp only [Act.put]
                    have hA := hA.put1 hQ hp
                    have hB := hB.put1 hQ hp
                    have hP := hp.keep hne hP
                    have hQ := hp.row
                    refine hK.out _ _ (hp.below hHeld hQs) (fun hHeld => ?_)
                    clear hK K hp
                    refine wpAnyH_done (by kernel_rfl) ?_ _
                    go_wp2_with fail
                    go_meet
                    exact ⟨pq, qq, _, _, rfl, rfl, hP, hQ, hA, hB, hHeld⟩
                · go_simp
                  obtain ⟨pq, hgq⟩ : ∃ gq, gq = (wQ0).heap.size := ⟨_, rfl⟩
                  have hP := heap_alloc_new (wQ0) (.cells #[Value.nilFunc] 70)
                  rw [← hgq] at hP
                  have hAb : Below (wQ0).heap.size (wQ0) ((wQ0).alloc (.cells #[Value.nilFunc] 70)) := ba _ (Below.refl _ _)
                  have hPs : w3.heap.size ≤ pq := by rw [hgq]; exact hHeld.size
                  have hne : pq ≠ qq := by have := lt_of_block hQ; omega
                  have hF := hF.below hAb
                  have hG := hG.below hAb
                  have hU := hU.below hAb
                  have hQ := kb hAb hQ
                  rw [show (wQ0).heap.size = pq from hgq.symm]
                  refine hK.out _ _ (below2 hHeld hAb) (fun hHeld => ?_)
                  clear hK K hAb hgq
                  generalize (wQ0).alloc (.cells #[Value.nilFunc] 70) = wP1 at *
                  refine wpAnyH_ready (rs := [2]) (by kernel_rfl) (by simp) ?_
                  refine AllReadyH.cons rfl (fun K hK => ?_) AllReadyH.nil
                  go_simp
                  refine (bover_any _ _ f.vs f.tb U wP1 hF hU).mono ?_
                  rintro e wA2 ⟨c1, rfl, hA, hb9⟩
                  have hF := hF.below hb9
                  have hG := hG.below hb9
                  have hU := hU.below hb9
                  have hQ := kb hb9 hQ
                  have hP := kb hb9 hP
                  go_simp
                  refine hK.out _ _ (below2 hHeld hb9) (fun hHeld => ?_)
                  clear hK K hb9
                  refine wpAnyH_ready (rs := [5]) (by kernel_rfl) (by simp) ?_
                  refine AllReadyH.cons rfl (fun K hK => ?_) AllReadyH.nil
                  go_simp
                  refine (bover_any _ _ g.vs g.tb U wA2 hG hU).mono ?_
                  rintro e wB3 ⟨c2, rfl, hB, hb9⟩
                  have hF := hF.below hb9
                  have hG := hG.below hb9
                  have hU := hU.below hb9
                  have hQ := kb hb9 hQ
                  have hP := kb hb9 hP
                  have hA := hA.below hb9
                  go_simp
                  refine hK.out _ _ (below2 hHeld hb9) (fun hHeld => ?_)
                  clear hK K hb9
                  refine wpAnyH_ready (rs := [8]) (by kernel_rfl) (by simp) ?_
                  refine AllReadyH.cons rfl (fun K hK => ?_) AllReadyH.nil
                  obtain ⟨a1, b1, rfl, _⟩ := hA.shape
                  obtain ⟨a2, b2, rfl, _⟩ := hB.shape
                  (try rw [if_pos (by rfl)])
                  refine wp_putc (v :=  (.func (.func 49) #[] #[.pointer (some ⟨a1, 0, none⟩), .pointer (some ⟨b1, 0, none⟩)])) hP (by rfl) (by rfl) (by rfl) (by rfl) ?_
                  intro wS4 hp
                  simp only [Act.put]
                  have hA := hA.put1 hP hp
                  have hB := hB.put1 hP hp
                  have hQ := hp.keep (Ne.symm hne) hQ
                  have hP := hp.row
                  refine hK.out _ _ (hp.below hHeld hPs) (fun hHeld => ?_)
                  clear hK K hp
                  refine wpAnyH_ready (rs := [9]) (by kernel_rfl) (by simp) ?_
                  refine AllReadyH.cons rfl (fun K hK => ?_) AllReadyH.nil
                  (try rw [if_pos (by rfl)])
                  refine wp_putc (v :=  (.func (.func 49) #[] #[.pointer (some ⟨a2, 0, none⟩), .pointer (some ⟨b2, 0, none⟩)])) hQ (by rfl) (by rfl) (by rfl) (by rfl) ?_
                  intro wT5 hp
                  simp only [Act.put]
                  have hA := hA.put1 hQ hp
                  have hB := hB.put1 hQ hp
                  have hP := hp.keep hne hP
                  have hQ := hp.row
                  refine hK.out _ _ (hp.below hHeld hQs) (fun hHeld => ?_)
                  clear hK K hp
                  refine wpAnyH_done (by kernel_rfl) ?_ _
                  go_wp2_with fail
                  go_meet
                  exact ⟨pq, qq, _, _, rfl, rfl, hP, hQ, hA, hB, hHeld⟩
            case rest =>
              obtain ⟨a, b, c1, c2, rfl, rfl, hA0, hB0, hO1, hO2, hb4⟩ := hcut
              generalize wc = w4 at *
              have hok : doOk k l f.tb m g.tb := ⟨HIs.out, HRt.out.1, HRt.out.2, by rw [← HFe.out, ← HGe.out, ← HUe.out]; exact h4⟩
              have hBt : B = true := HY.out hok
              obtain ⟨hDv, hDe⟩ := HV.out hBt
              subst hBt
              have hFi : Bf.Fine ⟨U, (List.range (2 ^ U.length)).map fun n => Bf.opK k (mAt f.tb (Bf.overN f.vs U n)) (mAt g.tb (Bf.overN g.vs U n))⟩ := by
                have hw := Bf.wide_fine (k := k) (f := f) (g := g) (by rw [← HUe.out]; exact h4)
                unfold Bf.wideF at hw
                simp only [← HUe.out] at hw
                simpa only [Bf.val_overN HV1.out.words, Bf.val_overN HV2.out.words] using hw
              have hVl : ∀ v, Bf.valF D v = Bf.valF ⟨U, (List.range (2 ^ U.length)).map fun n => Bf.opK k (mAt f.tb (Bf.overN f.vs U n)) (mAt g.tb (Bf.overN g.vs U n))⟩ v := fun v => by
                have hw := Bf.wide_val (k := k) HV1.out.toFine HV2.out.toFine v
                unfold Bf.wideF at hw
                simp only [← HUe.out] at hw
                simp only [Bf.val_overN HV1.out.words, Bf.val_overN HV2.out.words] at hw
                rw [hDe v, hw]
                have e1 : evalB l f.tb v = Bf.valF f v := by rw [← hvs1]; exact evalB_of HV1.out v
                have e2 : evalB m g.tb v = Bf.valF g v := by rw [← hvs2]; exact evalB_of HV2.out v
                rw [e1, e2]
              have hUr : Bf.Rise U := hFi.rise
              have HMade := Lib.hid (bmade_any (.slice aoU U.length capU) U (fun n => Bf.opK k (mAt f.tb (Bf.overN f.vs U n)) (mAt g.tb (Bf.overN g.vs U n))) D w.heap.size a b w4 (by have h := HU.out.below hb4; rw [← natsI_len U] at h ⊢; exact h) h4 hFi hDv hVl
                fun V n hV hn => bdoc_any k n w.heap.size a b c1 c2 f g U V HIs.out (kb (below2 hb4 hV) X03.out) (kb hV hA0) (kb hV hB0) (hO1.below hV) (hO2.below hV) HV1.out.toFine HV2.out.toFine hUr (by omega) (by have := Nat.pow_le_pow_right (n := 2) (show 0 < 2 by omega) (show U.length ≤ 4 from h4); omega))
              have X34 := Lib.hid (kb hb4 X33.out)
              have HB4 := Lib.hid (below2 HB3.out hb4)
              clear hA0 hB0 hO1 hO2 hb4 hok hDv hDe hFi hVl hUr HK HV HY
              go_wp2_with fail
              refine HMade.out.mono ?_
              rintro e w5 ⟨v5, rfl, hG5, hb5⟩
              have HG5 := Lib.hid hG5
              have X35 := Lib.hid (kb hb5 X34.out)
              have HB5 := Lib.hid (below2 HB4.out hb5)
              obtain ⟨u1, u2, rfl, q1, q2⟩ := hG5.split
              clear hG5 hb5
              go_wp2_with (refine st_bf X35.out rfl q1 q2 rfl rfl rfl rfl ?_; intro W6 hp6; have HP6 := Lib.hid hp6; clear hp6)
              (try simp only [Exit.inBlock, Exit.then])
              exact bodyPost_ret (results_bf2 rfl rfl rfl HP6.out.row) rfl ⟨_, rfl, HG5.out.putr X35.out HP6.out, HP6.out.below HB5.out (by omega)⟩
          · have g1 : (4 : Int) < (U.length : Int) := by omega
            obtain ⟨rfl, rfl⟩ := HK.out (fun h => by have h5 := h.2.2.2; rw [← HFe.out, ← HGe.out, ← HUe.out] at h5; omega)
            clear HK HV HY
            go_wp2_with (refine st_bf X33.out rfl rfl rfl rfl rfl rfl rfl ?_; intro W5 hp5; have HP5 := Lib.hid hp5; clear hp5)
            (try simp only [Exit.inBlock, Exit.then])
            exact bodyPost_ret (results_bf2 rfl rfl rfl HP5.out.row) rfl ⟨_, rfl, gf_nil _, HP5.out.below HB3.out (by omega)⟩
  · have e1 : (k != 68) = true := by simp; exact fun h => hk (.inl h)
    have e2 : (k != 84) = true := by simp; exact fun h => hk (.inr (.inl h))
    have e3 : (k != 164) = true := by simp; exact fun h => hk (.inr (.inr h))
    obtain ⟨rfl, rfl⟩ := HK.out (fun h => hk h.1)
    clear HK hk HV HY
    go_enter Try.func21, Try.ntmps21
    go_upto_region 1 with fail
    rw [← hW]
    clear hW
    go_wp2_with (refine st_bf X3.out rfl rfl rfl rfl rfl rfl rfl ?_; intro W5 hp5; have HP5 := Lib.hid hp5; clear hp5)
    (try simp only [Exit.inBlock, Exit.then])
    exact bodyPost_ret (results_bf2 rfl rfl rfl HP5.out.row) rfl ⟨_, rfl, gf_nil _, HP5.out.below HB.out (by omega)⟩
end Go.Proofs.Ytlgoeegpgcilbaa
/-
  Package bits: assignment, Apart.
-/
namespace Go.Proofs.Ytlgoeegpgcilbaa
open Go.ChangeShapes Go.WideShapes Go.ChangeAt Go.RowKit
set_option maxRecDepth 100000

theorem results_rowv {fn : Func} {p : Tmp} (h : fn.results = #[.cell p 27]) {tmps : Array Value} {w : World} {g : Nat} {v : List Nat} (hv : v.length = 34)
    (hp : tmps.getD p undef = .pointer (some ⟨g, 0, none⟩)) (hG : w.heap[g]? = some (rowB v)) : (results fn tmps).run Try.prog w = .ok (formV v) w :=
  results_cell_row h tmps w g 27 (numsC v) (0, 0) _ hp hG Try.underlying27 rfl (by rw [numsC_size, hv]; exact infoV)
set_option maxHeartbeats 4000000 in
theorem bassign_any (u : Value) (vs : List Nat) (n : Nat) (w : World) (h : NRow .i64 w u (natsI vs)) (hl : vs.length ≤ 8) (hs : ∀ j, j < vs.length → mAt vs j < 34) (hn : n < 256) :
    Calls Try.prog 44 #[u, .int .i64 n] w fun e w' => ∃ A : List Nat, e = .returned (formV A) ∧ VOk A ∧ (∀ x, x < 34 → mAt A x = Bf.asgF vs n x) ∧ Below w.heap.size w w' := by
  obtain ⟨ao, cap, hu⟩ := h.shape
  have hr := (nrow_at h hu).2
  subst hu
  rw [natsI_len]
  have HC := Lib.hid hr
  have HS := Lib.hid hs
  obtain ⟨L, hL⟩ : ∃ L, L = vs.length := ⟨_, rfl⟩
  rw [← hL] at hl HC HS ⊢
  have HL := Lib.hid hL
  have HFin := Lib.hid (fun x => asgK_all vs n x)
  obtain ⟨W, hW, x0, x1, hB⟩ := box2 w (rowB zeros) (rowB zeros)
  have X0 := Lib.hid x0
  have X1 := Lib.hid x1
  have HB := Lib.hid hB
  clear h hr hs hL x0 x1 hB
  go_enter Try.func44, Try.ntmps44
  go_upto_region 2 with fail
  rw [zrow, ← hW]
  clear hW
  go_wp2_with fail
  go_loopw [6, 7, 10] (fun _ _ i wr => ∃ (k : Nat) (l : List Nat), k ≤ L ∧ i = .int .i64 k ∧ wr.heap[w.heap.size]? = some (rowB zeros) ∧ wr.heap[w.heap.size + 1]? = some (rowB l) ∧ VOk l ∧ (∀ x, mAt l x = asgK vs n k x ∨ 34 ≤ x) ∧ Below w.heap.size w wr) (fun _ _ i _ => L - (intOf i).toNat)
  case atStart => exact ⟨0, zeros, by omega, rfl, X0.out, X1.out, zeros_ok, fun x => .inl (zeros_at x), HB.out⟩
  case round =>
    obtain ⟨k, l, hk, rfl, hG0, hG1, hll, hA, hBr⟩ := hrel
    have HG0 := Lib.hid hG0
    have HG1 := Lib.hid hG1
    have HLl := Lib.hid hll
    have HA := Lib.hid hA
    have HBr := Lib.hid hBr
    clear hG0 hG1 hA hll
    by_cases hlt : k < L
    · obtain ⟨b, off, rfl, hb, hc⟩ := HC.out (by omega)
      have x2 := (hBr.cell (p := ⟨b, off + k, none⟩) hb).trans (hc k hlt)
      have lx := HS.out k hlt
      have HT := Lib.hid (Nat.testBit_eq_decide_div_mod_eq (x := n) (i := k))
      have HON := Lib.hid (fun h => asgK_on (vs := vs) (n := n) (k := k) h)
      have HOFF := Lib.hid (fun h => asgK_off (vs := vs) (n := n) (k := k) h)
      obtain ⟨X, hX⟩ : ∃ X, X = mAt vs k := ⟨_, rfl⟩
      rw [← hX] at x2 lx HON
      have m1 : min k 64 = k := by omega
      have HP := Lib.hid (show (n : Int) / 2 ^ k = ((n / 2 ^ k : Nat) : Int) by simp)
      have lD : n / 2 ^ k ≤ n := Nat.div_le_self _ _
      obtain ⟨D, hD⟩ : ∃ D, D = n / 2 ^ k := ⟨_, rfl⟩
      rw [← hD] at HP lD HT
      have e1 := HP.out
      have e2 := i64_and1 D (by omega)
      clear hD hX hBr hc
      by_cases hd : D % 2 = 1
      · have e3 : ((D : Int) % 2 == 1) = true := by simp; omega
        have hbit := HT.out.trans (decide_eq_true hd)
        have hll := HLl.out.1
        have HW2 : Hid (VOk (l.set X 4294967295)) := Lib.hid ⟨by simp [hll], fun n hn => by
          rcases List.mem_or_eq_of_mem_set hn with h | h
          · exact HLl.out.2 n h
          · omega⟩
        clear HT hd
        go_wp2_with (refine st_num (n := 4294967295) (t := 27) HG1.out (by omega) rfl rfl rfl rfl ?_; intro W2 hp2; have HP2 := Lib.hid hp2; clear hp2)
        go_roundw
        case rel => exact ⟨k + 1, l.set X 4294967295, by omega, by go_num, HP2.out.keep (by omega) HG0.out, HP2.out.row, HW2.out, fun x => by
          rw [HON.out hbit, mAt_set X 4294967295 x (by omega)]
          by_cases hx : x = X
          · rw [if_pos hx, if_pos hx]; exact .inl rfl
          · rw [if_neg hx, if_neg hx]; exact HA.out x, HP2.out.below HBr.out (by omega)⟩
        case measure => simp [intOf]; omega
      · have e3 : ((D : Int) % 2 == 1) = false := by simp; omega
        have hbit := HT.out.trans (decide_eq_false hd)
        clear HT hd
        go_wp2_with fail
        go_roundw
        case rel => exact ⟨k + 1, l, by omega, by go_num, HG0.out, HG1.out, HLl.out, fun x => by rw [HOFF.out hbit]; exact HA.out x, HBr.out⟩
        case measure => simp [intOf]; omega
    · obtain rfl : k = L := by omega
      have HAf : Hid (∀ x, x < 34 → mAt l x = Bf.asgF vs n x) := Lib.hid (fun x hx => by
        rcases HA.out x with h | h
        · rw [h, HL.out, HFin.out]
        · omega)
      clear hBr
      go_wp2_with (first | (refine ld_row HG1.out HLl.out.1 rfl rfl rfl ?_) | (refine st_row HG0.out rfl HLl.out.1 rfl rfl rfl rfl ?_; intro W5 hp5; have HP5 := Lib.hid hp5; clear hp5))
      (try simp only [Exit.inBlock, Exit.then])
      exact bodyPost_ret (results_rowv rfl HLl.out.1 rfl HP5.out.row) rfl ⟨l, rfl, HLl.out, HAf.out, HP5.out.below HBr.out (by omega)⟩
end Go.Proofs.Ytlgoeegpgcilbaa
/-
  Package bits: Apart.
-/
namespace Go.Proofs.Ytlgoeegpgcilbaa
open Go.ChangeShapes Go.WideShapes Go.ChangeAt Go.RowKit
set_option maxRecDepth 100000

set_option maxHeartbeats 16000000 in
theorem bapart_any (v1 v2 : Value) (l m : List Int) (t s : List Nat) (w : World) (h1 : GF w v1 l t) (h2 : GF w v2 m s) (hs1 : Small l t) (hs2 : Small m s) : Calls Try.prog 23 #[v1, v2] w fun e w' => ∃ (A : List Nat) (b : Bool), e = .returned (.tuple #[formV A, .bool b]) ∧ VOk A ∧ ApartP l t m s (mAt A) b ∧ Below w.heap.size w w' := by
  have H1 := Lib.hid h1
  have H2 := Lib.hid h2
  obtain ⟨s1, s2, rfl, p1, p2⟩ := h1.split
  obtain ⟨s3, s4, rfl, p3, p4⟩ := h2.split
  have HS1 := Lib.hid hs1
  have HS2 := Lib.hid hs2
  have HNo : Hid (¬ (RightP l t ∧ RightP m s ∧ ¬ (l = m ∧ t = s)) → ApartP l t m s (mAt zeros) false) := Lib.hid (fun h => .inl ⟨h, fun x _ => zeros_at x, rfl⟩)
  have HYes : Hid (∀ (f g : Bf.BF) (A : List Nat) (n : Nat), Bf.Valid f → Bf.Valid g → l = natsI f.vs → t = f.tb → m = natsI g.vs → s = g.tb → ¬ f = g → n < 2 ^ (Bf.bothF f.vs g.vs).length → (∀ x, x < 34 → mAt A x = Bf.asgF (Bf.bothF f.vs g.vs) n x) → ¬ Bf.valF f (Bf.asgF (Bf.bothF f.vs g.vs) n) = Bf.valF g (Bf.asgF (Bf.bothF f.vs g.vs) n) → (∀ k, k < n → Bf.valF f (Bf.asgF (Bf.bothF f.vs g.vs) k) = Bf.valF g (Bf.asgF (Bf.bothF f.vs g.vs) k)) → ApartP l t m s (mAt A) true) :=
    Lib.hid (fun f g A n a b c d e f1 g1 h i j k => .inr ⟨rfl, f, g, a, b, c, d, e, f1, g1, n, h, i, j, k⟩)
  generalize hAP : ApartP l t m s = AP at *
  obtain ⟨W, hW, x0, x1, x2, hb⟩ := box3 w (bfB s1 s2) (bfB s3 s4) (rowB zeros)
  have X0 := Lib.hid x0
  have X1 := Lib.hid x1
  have X2 := Lib.hid x2
  have HB := Lib.hid hb
  obtain ⟨R1, hR1⟩ : ∃ R1, R1 = rightB l t := ⟨_, rfl⟩
  obtain ⟨R2, hR2⟩ : ∃ R2, R2 = rightB m s := ⟨_, rfl⟩
  have HR1 := Lib.hid (bright_any _ l t W (H1.out.below HB.out) HS1.out)
  have HR2 := Lib.hid (fun V (hV : Below w.heap.size w V) => bright_any _ m s V (H2.out.below hV) HS2.out)
  rw [← hR1] at HR1
  rw [← hR2] at HR2
  have HE1 := Lib.hid hR1
  have HE2 := Lib.hid hR2
  clear hR1 hR2 h1 h2 hs1 hs2 x0 x1 x2 hb hAP
  go_enter Try.func23, Try.ntmps23
  go_upto_region 1 with fail
  rw [zrow, ← hW]
  clear hW
  go_wp2_with (refine ld_bf X0.out rfl rfl rfl ?_)
  refine HR1.out.mono ?_
  rintro e w1 ⟨rfl, hb1⟩
  have X01 := Lib.hid (kb hb1 X0.out)
  have X11 := Lib.hid (kb hb1 X1.out)
  have X21 := Lib.hid (kb hb1 X2.out)
  have HB1 := Lib.hid (below2 HB.out hb1)
  clear hb1 HR1
  cases R1
  · have HAP := Lib.hid (HNo.out (fun h => right_no HE1.out.symm h.1))
    clear HYes HNo
    go_wp2_with (refine st_row (v := zeros) X21.out rfl rfl rfl rfl rfl rfl ?_; intro W5 hp5; have HP5 := Lib.hid hp5; clear hp5)
    (try simp only [Exit.inBlock, Exit.then])
    exact bodyPost_ret (results_rowb rfl rfl rfl rfl HP5.out.row) rfl ⟨zeros, false, rfl, zeros_ok, HAP.out, HP5.out.below HB1.out (by omega)⟩
  · go_wp2_with (refine ld_bfg X11.out (by rfl) rfl rfl ?_)
    refine (HR2.out _ HB1.out).mono ?_
    rintro e w2 ⟨rfl, hb2⟩
    have X02 := Lib.hid (kb hb2 X01.out)
    have X12 := Lib.hid (kb hb2 X11.out)
    have X22 := Lib.hid (kb hb2 X21.out)
    have HB2 := Lib.hid (below2 HB1.out hb2)
    clear hb2 HR2
    cases R2
    · have HAP := Lib.hid (HNo.out (fun h => right_no HE2.out.symm h.2.1))
      clear HYes HNo
      go_wp2_with (refine st_row (v := zeros) X22.out rfl rfl rfl rfl rfl rfl ?_; intro W5 hp5; have HP5 := Lib.hid hp5; clear hp5)
      (try simp only [Exit.inBlock, Exit.then])
      exact bodyPost_ret (results_rowb rfl rfl rfl rfl HP5.out.row) rfl ⟨zeros, false, rfl, zeros_ok, HAP.out, HP5.out.below HB2.out (by omega)⟩
    · have hr1 := right_yes HE1.out.symm
      have hr2 := right_yes HE2.out.symm
      obtain ⟨hv1, hvs1⟩ := gright_of HS1.out.words hr1
      obtain ⟨hv2, hvs2⟩ := gright_of HS2.out.words hr2
      obtain ⟨f, hf⟩ : ∃ f, f = bfOf l t := ⟨_, rfl⟩
      obtain ⟨g, hg⟩ : ∃ g, g = bfOf m s := ⟨_, rfl⟩
      have hft : f.tb = t := by rw [hf]; rfl
      have hgt : g.tb = s := by rw [hg]; rfl
      rw [← hf] at hv1 hvs1
      rw [← hg] at hv2 hvs2
      have HV1 := Lib.hid hv1
      have HV2 := Lib.hid hv2
      have HU8 := Lib.hid (both_len hv1 hv2)
      have HUs := Lib.hid (fun j (hj : j < (Bf.bothF f.vs g.vs).length) => (Bf.both_mem.1 (Bf.mem_mAt hj)).1)
      have HUr := Lib.hid (Bf.both_rise f.vs g.vs)
      have HSame := Lib.hid (fun (h : ∀ n, n < 2 ^ (Bf.bothF f.vs g.vs).length → Bf.valF f (Bf.asgF (Bf.bothF f.vs g.vs) n) = Bf.valF g (Bf.asgF (Bf.bothF f.vs g.vs) n)) => (Classical.byContradiction fun hne => by obtain ⟨n, hn, hd⟩ := Bf.told hv1 hv2 hne; exact hd (h n hn) : f = g))
      have HYe := Lib.hid (fun A n => HYes.out f g A n hv1 hv2 hvs1.symm hft.symm hvs2.symm hgt.symm)
      have HEq : Hid (f = g → AP (mAt zeros) false) := Lib.hid (fun e => HNo.out (fun h => h.2.2 (by rw [← hvs1, ← hvs2, ← hft, ← hgt, e]; exact ⟨rfl, rfl⟩)))
      have HO1 := Lib.hid (fun U n => Bf.val_overN (f := f) hv1.words U n)
      have HO2 := Lib.hid (fun U n => Bf.val_overN (f := g) hv2.words U n)
      clear hr1 hr2 hf hg hv1 hv2 HYes HNo HE1 HE2 HS1 HS2
      subst hft hgt
      go_wp2_with (first | (refine ld_bf X02.out rfl rfl rfl ?_) | (refine ld_bf X12.out rfl rfl rfl ?_))
      refine (btogether_any _ _ f.vs g.vs f.tb g.tb _ (by rw [hvs1]; exact H1.out.below HB2.out) (by rw [hvs2]; exact H2.out.below HB2.out) (fun x hx => by obtain ⟨j, hj, rfl⟩ := Bf.mAt_of_mem hx; exact HV1.out.small j hj) (fun x hx => by obtain ⟨j, hj, rfl⟩ := Bf.mAt_of_mem hx; exact HV2.out.small j hj) (by have := HV1.out.most; have := HV2.out.most; omega)).mono ?_
      rintro e w3 ⟨uU, rfl, hU, hb3⟩
      have HU := Lib.hid hU
      have X03 := Lib.hid (kb hb3 X02.out)
      have X13 := Lib.hid (kb hb3 X12.out)
      have X23 := Lib.hid (kb hb3 X22.out)
      have HB3 := Lib.hid (below2 HB2.out hb3)
      clear hb3
      obtain ⟨U, hUe⟩ : ∃ U, U = Bf.bothF f.vs g.vs := ⟨_, rfl⟩
      rw [← hUe] at hU HU HU8 HUs HUr HSame HYe
      clear hUe
      obtain ⟨aoU, capU, rfl⟩ := hU.shape
      rw [natsI_len] at HU ⊢
      clear hU
      go_wp2_with fail
      go_cut [7, 8] (fun s7 s8 wx => ∃ c1 c2, s7 = c1 ∧ s8 = c2 ∧ OverAt wx c1 f.vs f.tb U ∧ OverAt wx c2 g.vs g.tb U ∧ Below w3.heap.size w3 wx)
      case first =>
        have hF : GF w3.drew (.agg #[s1, s2]) (natsI f.vs) f.tb := by rw [hvs1]; exact H1.out.below (below2 HB3.out (bdN (Below.refl w3.heap.size w3) 1))
        have hG : GF w3.drew (.agg #[s3, s4]) (natsI g.vs) g.tb := by rw [hvs2]; exact H2.out.below (below2 HB3.out (bdN (Below.refl w3.heap.size w3) 1))
        have hU : NRow .i64 w3.drew (.slice aoU U.length capU) (natsI U) := HU.out.below (bdN (Below.refl w3.heap.size w3) 1)
        refine wp_region_held_drew (S := fun V => Below w3.heap.size w3 V) (by kernel_rfl) (bdN (Below.refl _ _) 1) (fun hHeld => ?_)
        generalize w3.drew = wZ at *
        refine jheld_take (i := 0) (v := .agg #[s1, s2]) (some 23) rfl rfl (by kernel_rfl) (by kernel_rfl) (by kernel_rfl) (fun _ _ _ h => h) (gyi_row (by rfl) (by rfl) (by rfl) (fun V hV => lv_bf (kb hV X03.out))) hHeld ?_
        simp only [Act.put, List.setIfInBounds_toArray, List.set_cons_zero, List.set_cons_succ]
        refine jheld_take (i := 1) (v := .slice aoU U.length capU) (some 24) rfl rfl (by kernel_rfl) (by kernel_rfl) (by kernel_rfl) (fun _ _ _ h => h) (.inl ⟨by rfl, fun V _ => by go_simp⟩) hHeld ?_
        simp only [Act.put, List.setIfInBounds_toArray, List.set_cons_zero, List.set_cons_succ]
        refine jheld_take (i := 3) (v := .agg #[s3, s4]) (some 26) rfl rfl (by kernel_rfl) (by kernel_rfl) (by kernel_rfl) (fun _ _ _ h => h) (gyi_row (by rfl) (by rfl) (by rfl) (fun V hV => lv_bf (kb hV X13.out))) hHeld ?_
        simp only [Act.put, List.setIfInBounds_toArray, List.set_cons_zero, List.set_cons_succ]
        refine jheld_take (i := 4) (v := .slice aoU U.length capU) (some 27) rfl rfl (by kernel_rfl) (by kernel_rfl) (by kernel_rfl) (fun _ _ _ h => h) (.inl ⟨by rfl, fun V _ => by go_simp⟩) hHeld ?_
        simp only [Act.put, List.setIfInBounds_toArray, List.set_cons_zero, List.set_cons_succ]
        refine wpAnyH_ready (rs := [2]) (by kernel_rfl) (by simp) ?_
        refine AllReadyH.cons rfl (fun K hK => ?_) AllReadyH.nil
        go_simp
        refine (bover_any _ _ f.vs f.tb U wZ hF hU).mono ?_
        rintro e wA ⟨c1, rfl, hA, hb9⟩
        have hG := hG.below hb9
        have hU := hU.below hb9
        go_simp
        refine hK.out _ _ (below2 hHeld hb9) (fun hHeld => ?_)
        clear hK K hb9 hF
        refine wpAnyH_ready (rs := [5]) (by kernel_rfl) (by simp) ?_
        refine AllReadyH.cons rfl (fun K hK => ?_) AllReadyH.nil
        go_simp
        refine (bover_any _ _ g.vs g.tb U wA hG hU).mono ?_
        rintro e wB ⟨c2, rfl, hC, hb9⟩
        have hA := hA.below hb9
        go_simp
        refine hK.out _ _ (below2 hHeld hb9) (fun hHeld => ?_)
        clear hK K hb9 hG hU
        refine jheld_take (i := 6) (v := c1) (some 7) rfl rfl (by kernel_rfl) (by kernel_rfl) (by kernel_rfl) (fun _ _ _ h => h) (.inl ⟨by rfl, fun V _ => by go_simp⟩) hHeld ?_
        simp only [Act.put, List.setIfInBounds_toArray, List.set_cons_zero, List.set_cons_succ]
        refine jheld_take (i := 7) (v := c2) (some 8) rfl rfl (by kernel_rfl) (by kernel_rfl) (by kernel_rfl) (fun _ _ _ h => h) (.inl ⟨by rfl, fun V _ => by go_simp⟩) hHeld ?_
        simp only [Act.put, List.setIfInBounds_toArray, List.set_cons_zero, List.set_cons_succ]
        refine wpAnyH_done (by kernel_rfl) ?_ _
        go_wp2_with fail
        go_meet
        exact ⟨c1, c2, rfl, rfl, hA, hC, hHeld⟩
      case rest =>
        obtain ⟨c1, c2, rfl, rfl, hO1, hO2, hb4⟩ := hcut
        generalize wc = w4 at *
        have hl8 := HU8.out
        obtain ⟨g1, k1, rfl, hc1⟩ := hO1.calls HV1.out.most HV1.out.size HUr.out hl8
        obtain ⟨g2, k2, rfl, hc2⟩ := hO2.calls HV2.out.most HV2.out.size HUr.out hl8
        have HC1 := Lib.hid hc1
        have HC2 := Lib.hid hc2
        have X24 := Lib.hid (kb hb4 X23.out)
        have HU4 := Lib.hid (HU.out.below hb4)
        have HB4 := Lib.hid (below2 HB3.out hb4)
        have hsz := HB4.out.size
        have lP : 2 ^ U.length ≤ 256 := Nat.pow_le_pow_right (n := 2) (by omega) (show U.length ≤ 8 from hl8)
        have HP := Lib.hid (show (2 : Int) ^ U.length = ((2 ^ U.length : Nat) : Int) by simp)
        have m1 : min U.length 64 = U.length := by omega
        have hlx := lt_of_block X24.out
        clear hb4 hO1 hO2 hc1 hc2 X03 X13 X23 HB3 HU
        obtain ⟨P, hP⟩ : ∃ P, P = 2 ^ U.length := ⟨_, rfl⟩
        rw [← hP] at HP HSame HYe lP
        clear hP
        have e0 := HP.out
        go_wp2_with fail
        go_loopw [10, 33] (fun _ i wr => ∃ k : Nat, k ≤ P ∧ i = .int .i64 k ∧ (∀ j, j < k → Bf.valF f (Bf.asgF U j) = Bf.valF g (Bf.asgF U j)) ∧ Below w4.heap.size w4 wr) (fun _ i _ => P - (intOf i).toNat)
        case atStart => exact ⟨0, by omega, rfl, fun j hj => by omega, Below.refl _ _⟩
        case round =>
          obtain ⟨k, hk, rfl, hA, hBr⟩ := hrel
          have HA := Lib.hid hA
          have HBr := Lib.hid hBr
          have X2r := Lib.hid (kb hBr X24.out)
          clear hA hBr
          by_cases hlt : k < P
          · have hk256 : k < 256 := by omega
            have HYk := Lib.hid (fun A hne => HYe.out A k hne hlt)
            have HC1k := Lib.hid (fun V hV => HC1.out V k hV hk256)
            have HC2k := Lib.hid (fun V hV => HC2.out V k hV hk256)
            rw [← HO1.out U k] at HC1k
            rw [← HO2.out U k] at HC2k
            obtain ⟨E, hE⟩ : ∃ E, E = Bf.valF f (Bf.asgF U k) := ⟨_, rfl⟩
            obtain ⟨G, hG⟩ : ∃ G, G = Bf.valF g (Bf.asgF U k) := ⟨_, rfl⟩
            rw [← hE] at HC1k HYk
            rw [← hG] at HC2k HYk
            have HE := Lib.hid hE
            have HG := Lib.hid hG
            clear hE hG
            go_wp2_with fail
            refine (HC1k.out _ HBr.out).mono ?_
            rintro e w5 ⟨rfl, hb5⟩
            have HB5 := Lib.hid (below2 HBr.out hb5)
            have X25 := Lib.hid (kb hb5 X2r.out)
            clear hb5
            by_cases hEG : E = G
            · have e1 : ((E : Int) != (G : Int)) = false := by simp [hEG]
              have HEG := Lib.hid hEG
              clear hEG
              go_wp2_with fail
              refine (HC2k.out _ HB5.out).mono ?_
              rintro e w6 ⟨rfl, hb6⟩
              have HB6 := Lib.hid (below2 HB5.out hb6)
              clear hb6
              go_wp2_with fail
              go_roundw
              case rel => exact ⟨k + 1, by omega, by go_num, fun j hj => by
                rcases Nat.lt_or_eq_of_le (Nat.le_of_lt_succ hj) with h | rfl
                · exact HA.out j h
                · rw [← HE.out, ← HG.out, HEG.out], HB6.out⟩
              case measure => simp [intOf]; omega
            · have e1 : ((E : Int) != (G : Int)) = true := by simp; omega
              have hne : ¬ f = g := fun e => hEG (by rw [HE.out, HG.out, e])
              have HYn := Lib.hid (fun A hA => HYk.out A hne hA hEG HA.out)
              clear hEG hne
              go_wp2_with fail
              refine (HC2k.out _ HB5.out).mono ?_
              rintro e w6 ⟨rfl, hb6⟩
              have HB6 := Lib.hid (below2 HB5.out hb6)
              have X26 := Lib.hid (kb hb6 X25.out)
              clear hb6
              go_wp2_with fail
              refine (bassign_any _ U k _ (HU4.out.below HB6.out) hl8 HUs.out hk256).mono ?_
              rintro e w7 ⟨A, rfl, hAo, hAa, hb7⟩
              have HAo := Lib.hid hAo
              have HAP := Lib.hid (HYn.out A hAa)
              have X27 := Lib.hid (kb hb7 X26.out)
              have HB7 := Lib.hid (below2 HB4.out (below2 HB6.out hb7))
              clear hAo hAa hb7
              go_wp2_with (refine st_row X27.out rfl HAo.out.1 rfl rfl rfl rfl ?_; intro W5 hp5; have HP5 := Lib.hid hp5; clear hp5)
              (try simp only [Exit.inBlock, Exit.then])
              exact bodyPost_ret (results_rowb rfl HAo.out.1 rfl rfl HP5.out.row) rfl ⟨A, true, rfl, HAo.out, HAP.out, HP5.out.below HB7.out (by omega)⟩
          · obtain rfl : k = P := by omega
            have HAP := Lib.hid (HEq.out (HSame.out HA.out))
            have HBz := Lib.hid (below2 HB4.out HBr.out)
            go_wp2_with (refine st_row (v := zeros) X2r.out rfl rfl rfl rfl rfl rfl ?_; intro W5 hp5; have HP5 := Lib.hid hp5; clear hp5)
            (try simp only [Exit.inBlock, Exit.then])
            exact bodyPost_ret (results_rowb rfl rfl rfl rfl HP5.out.row) rfl ⟨zeros, false, rfl, zeros_ok, HAP.out, HP5.out.below HBz.out (by omega)⟩
end Go.Proofs.Ytlgoeegpgcilbaa
/-
  The rows of examples at the end of each law of package hurdlelaw15: knows() answers true in every world; forms' variables; calls and whole loads in regions that draw.
-/
namespace Go.Proofs.Ytlgoeegpgcilbaa
open Go.ChangeShapes Go.WideShapes Go.ChangeAt Go.RowKit
set_option maxRecDepth 100000

/-- A world for the witness: the settled one. -/
noncomputable def laidWorldG (os : Os) : World := World.holding Try.prog os ⟨#[], #[], []⟩

/-- The worlds of a quiet region's calls. -/
abbrev QG (W : World) (f : FuncId) (args : Array Value) (v : Value) : Prop := ∀ d os, Calls Try.prog f args (Sort.grow (redrawn W d) os) fun e w'' => e = .returned v ∧ ∃ p : Regrown, w'' = Sort.grow (redrawn W p.d) p.os
section
variable {W : World} {v v' : Value} {l m : List Int} {t s : List Nat}
theorem GF.grown (h : GF W v l t) (d : _) (os : _) : GF (Sort.grow (redrawn W d) os) v l t := h.below (below_regrown W d os)
theorem qg_right (h : GF W v l t) (hs : Small l t) : QG W 14 #[v] (.bool (rightB l t)) := fun d os => Calls.regrown_of (bright_any v l t _ (h.grown d os) hs)
theorem qg_same (h : GF W v l t) (h' : GF W v' m s) (hs : Small l t) (hs' : Small m s) : QG W 17 #[v, v'] (.bool (decide (l = m ∧ t = s))) := fun d os => Calls.regrown_of (bsame_any v v' l m t s _ (h.grown d os) (h'.grown d os) hs hs')
theorem qg_rright (h : GF W v l t) : QG W 15 #[v] (.bool (rightB l t)) := fun d os => Calls.regrown_of (gright_any v l t _ (h.grown d os))
theorem qg_rsame (h : GF W v l t) (h' : GF W v' m s) (hs : Small l t) : QG W 18 #[v, v'] (.bool (decide (l = m ∧ t = s))) := fun d os => Calls.regrown_of (gsame_any v v' l m t s _ (h.grown d os) (h'.grown d os) (by have := hs.vs; omega) (by have := hs.tb; omega))
theorem qg_as (h : GF W v l t) : QG W 16 #[v] v := fun d os => Calls.regrown_of (gas_any v l t _ (h.grown d os))
end
end Go.Proofs.Ytlgoeegpgcilbaa
