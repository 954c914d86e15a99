/-
  For every two forms, any assignment and any two numbers: the law BitsForms returns true and changes nothing that was there.
-/
import Derived.Test.YtlgoeegpgcilbaaProg
import Derived.WalkKit
import Derived.Laws.BitsAllLaws
import Derived.ProofKit
import Derived.Lib.Hide
import Derived.Laws.Rows
import Derived.Laws.ResultCell
import Derived.Laws.Entries
import Derived.Handy
import Derived.OwnWalk
import Derived.Laws.OwnMore
import Derived.Deep.Draws
import Derived.Laws.IdiomStrings
import Derived.Lib.BufferRead
import Derived.Maps.OwnSet
import Derived.Laws.Tables
import Derived.Deep.DeepCutAuto
import Derived.DeepKeys
import Derived.Laws.StructEq
import Derived.Deep.RegionHeld3
import Derived.BigRegion
import Derived.BigQuiet
import Derived.Test.YtlgoeegpgcilbaaRows
import Derived.OpenShut
import Derived.Carry
import Derived.Deep.DeepHandedRow
import Derived.Lib.SmallJoins
import Derived.Deep.OwnRows
import Derived.Lib.QuietBelow
import Derived.RowKit
import Derived.Deep.QuietTactic
import Derived.Deep.CutBlock
import Derived.Stop.Joined
import Derived.Shelf.Sort.Plain
import Derived.Shelf.Slices.Turned
import Derived.Shelf.Slices.Equal
import Derived.Ground.Names2Prog
import Derived.Shelf.Slices.CompactI
import Derived.Shelf.Slices.In.SortNone
import Derived.Lib.AppendZerosOnto
import Derived.Lib.SliceRun
import Derived.Lib.OwnBridge
import Derived.Sort.OwnSortedInts
import Derived.Deep.MidRow
import Derived.Great.BuildSlice
import Derived.Test.YtlgoeegpgcilbaaPk1
import Derived.Test.YtlgoeegpgcilbaaPk2
import Derived.Test.YtlgoeegpgcilbaaPk3
import Derived.Test.YtlgoeegpgcilbaaPk4
import Derived.Test.YtlgoeegpgcilbaaPk5
import Derived.Test.YtlgoeegpgcilbaaPk6
namespace Go.Proofs.Ytlgoeegpgcilbaa.bitsForms
open Go.ChangeShapes Go.WideShapes Go.ChangeAt Go.RowKit

theorem new_var {W : World} {n : Nat} : GF ((W.alloc (.cells #[.int .i64 (n : Int)] 3)).alloc (.cells #[.int .u32 0, .int .u32 4294967295] 26)) (.agg #[.slice (some ⟨W.heap.size, 0, none⟩) 1 1, .slice (some ⟨W.heap.size + 1, 0, none⟩) 2 2]) [(n : Int)] [0, 4294967295] := by
  refine ⟨_, _, rfl, NRow.blk (l := [(n : Int)]) (cs := #[.int .i64 (n : Int)]) (ka _ (heap_alloc_new _ _)) fun i hi => ?_, NRow.blk (l := natsI [0, 4294967295]) (cs := #[.int .u32 0, .int .u32 4294967295]) (by have h := heap_alloc_new (W.alloc (.cells #[.int .i64 (n : Int)] 3)) (.cells #[.int .u32 0, .int .u32 4294967295] 26); rw [size_alloc] at h; exact h) fun i hi => ?_⟩
  · match i, hi with
    | 0, _ => rfl
  · match i, hi with
    | 0, _ => rfl
    | 1, _ => rfl
theorem same_var {W : World} {n : Nat} {v : Value} (h : GF W v [(n : Int)] [0, 4294967295]) : Calls Try.prog 18 #[v, .agg #[.slice (some ⟨W.heap.size, 0, none⟩) 1 1, .slice (some ⟨W.heap.size + 1, 0, none⟩) 2 2]] ((W.alloc (.cells #[.int .i64 (n : Int)] 3)).alloc (.cells #[.int .u32 0, .int .u32 4294967295] 26)) fun e w' => e = .returned (.bool true) ∧ Below ((W.alloc (.cells #[.int .i64 (n : Int)] 3)).alloc (.cells #[.int .u32 0, .int .u32 4294967295] 26)).heap.size ((W.alloc (.cells #[.int .i64 (n : Int)] 3)).alloc (.cells #[.int .u32 0, .int .u32 4294967295] 26)) w' := by
  have h2 := gsame_any v _ _ _ _ _ _ (h.below (ba (.cells #[.int .u32 0, .int .u32 4294967295] 26) (ba (.cells #[.int .i64 (n : Int)] 3) (Below.refl W.heap.size W)))) (new_var (W := W) (n := n)) (by simp) (by simp)
  rw [decide_eq_true ⟨rfl, rfl⟩] at h2
  exact h2
/-- What Var answers. -/
def InV (i E : Int) (lx : List Int) (tx : List Nat) : Prop := (E = 0 ∧ ∃ n : Nat, n < 34 ∧ i = n ∧ lx = [(n : Int)] ∧ tx = [0, 4294967295]) ∨ (E = 1 ∧ (i < 0 ∨ 33 < i))
theorem var_at (i : Int) (U : World) : Calls Try.prog 11 #[.int .i64 i] U fun e w' => ∃ v E lx tx, e = .returned (.tuple #[v, .int .i64 E]) ∧ GF w' v lx tx ∧ InV i E lx tx ∧ Below U.heap.size U w' := by
  by_cases h : i < 0 ∨ 33 < i
  · exact (bvar_out i U h).mono fun e w' ⟨v, he, hG, hb⟩ => ⟨v, 1, [], [], he, hG, .inr ⟨rfl, h⟩, hb⟩
  · obtain ⟨n, rfl⟩ : ∃ n : Nat, i = n := ⟨i.toNat, by omega⟩
    exact (bvar_in n U (by omega)).mono fun e w' ⟨v, he, hG, hb⟩ => ⟨v, 0, _, _, he, hG, .inl ⟨rfl, n, by omega, rfl, rfl, rfl⟩, hb⟩
theorem GF.one {w : World} {u1 u2 : Value} {c : Nat} (h : GF w (.agg #[u1, u2]) [] [c]) : ∃ a1 c1 b o c2, u1 = .slice a1 0 c1 ∧ u2 = .slice (some ⟨b, o, none⟩) 1 c2 ∧ w.cell? ⟨b, o, none⟩ = some (.int .u32 (c : Nat)) := by
  obtain ⟨s1, s2, e, h1, h2⟩ := h
  have e1 : u1 = s1 := by simp only [Value.agg.injEq] at e; have := congrArg (fun a : Array Value => a[0]?) e; simpa using this
  have e2 : u2 = s2 := by simp only [Value.agg.injEq] at e; have := congrArg (fun a : Array Value => a[1]?) e; simpa using this
  subst e1 e2
  obtain ⟨a1, c1, rfl⟩ := h1.shape
  obtain ⟨a2, c2, rfl, hx⟩ := h2
  rcases hx with hx | ⟨b, o, rfl, _, hc⟩
  · simp [natsI] at hx
  · exact ⟨a1, c1, b, o, c2, rfl, rfl, hc 0 (by simp [natsI])⟩
theorem great_at {v : Value} {l : List Int} {t : List Nat} {B : Bool} {w : World} (hB : B = (decide (50 < l.length) || decide (100 < t.length))) (h : GF w v l t) : Calls Try.prog 9 #[v] w fun e w' => e = .returned (.bool B) ∧ Below w.heap.size w w' := by
  rw [hB]
  exact ggreat_any v l t w h
theorem small_if {l : List Int} {t : List Nat} (hl : ∀ n ∈ l, -9223372036854775808 ≤ n ∧ n ≤ 9223372036854775807) (ht : ∀ n ∈ t, n < 4294967296) (h : false = (decide (50 < l.length) || decide (100 < t.length))) : Small l t := by
  have h2 := h.symm
  rw [Bool.or_eq_false_iff, decide_eq_false_iff_not, decide_eq_false_iff_not] at h2
  exact ⟨by omega, by omega, hl, ht⟩
set_option maxRecDepth 100000 in
set_option maxHeartbeats 8000000 in
theorem walk (vf : Value) (l : List Int) (t : List Nat) (vg : Value) (m : List Int) (s : List Nat) (V : List Nat) (c i : Int) (w : World) (hf : GF w vf l t) (hli : ∀ n ∈ l, -9223372036854775808 ≤ n ∧ n ≤ 9223372036854775807) (ht : ∀ n ∈ t, n < 4294967296) (hg : GF w vg m s) (hmi : ∀ n ∈ m, -9223372036854775808 ≤ n ∧ n ≤ 9223372036854775807) (hs : ∀ n ∈ s, n < 4294967296) (hV : VOk V) (hc0 : 0 ≤ c) (hc1 : c ≤ 4294967295) (_hi0 : -9223372036854775808 ≤ i) (_hi1 : i ≤ 9223372036854775807) :
    Calls Try.prog 3 #[vf, vg, formV V, .int .u32 c, .int .i64 i] w fun e w' => e = .returned (.bool true) ∧ Below w.heap.size w w' := by
  obtain ⟨c, rfl⟩ : ∃ n : Nat, c = n := ⟨c.toNat, by omega⟩
  obtain ⟨f1, f2, rfl, p1, p2⟩ := hf.split
  obtain ⟨g1, g2, rfl, p3, p4⟩ := hg.split
  obtain ⟨W, hW, h0, h1, h2, hb⟩ := box3 w (bfB f1 f2) (bfB g1 g2) (rowB V)
  have h2 : W.heap[w.heap.size + 1 + 1]? = _ := h2
  have HX := Lib.hid h0
  have HY := Lib.hid h1
  have HV := Lib.hid h2
  have HB := Lib.hid hb
  have HF := Lib.hid (hf.below hb)
  have HG := Lib.hid (hg.below hb)
  obtain ⟨B1, hB1⟩ : ∃ B, B = (decide (50 < l.length) || decide (100 < t.length)) := ⟨_, rfl⟩
  obtain ⟨B2, hB2⟩ : ∃ B, B = (decide (50 < m.length) || decide (100 < s.length)) := ⟨_, rfl⟩
  have HB1 := Lib.hid hB1
  have HB2 := Lib.hid hB2
  have HS1 : Hid (B1 = false → Small l t) := Lib.hid fun h => by subst h; exact small_if hli ht hB1
  have HS2 : Hid (B2 = false → Small m s) := Lib.hid fun h => by subst h; exact small_if hmi hs hB2
  clear hf hg hb hB1 hB2 hli hmi h0 h1 h2
  have HVL := Lib.hid hV.1
  go_enter Try.func3, Try.ntmps3
  go_upto_region 1 with fail
  rw [← hW]
  clear hW
  go_wp2_with (refine ld_bf HX.out rfl rfl rfl ?_)
  refine (great_at HB1.out HF.out).mono ?_
  rintro e w1 ⟨rfl, hb1⟩
  replace HX := Lib.hid (kb hb1 HX.out)
  replace HY := Lib.hid (kb hb1 HY.out)
  replace HV := Lib.hid (kb hb1 HV.out)
  replace HF := Lib.hid (HF.out.below hb1)
  replace HG := Lib.hid (HG.out.below hb1)
  replace HB := Lib.hid (below2 HB.out hb1)
  clear hb1
  cases B1 with
  | true =>
    go_wp2_with fail
    refine (gknow_any _).mono ?_
    rintro e w9 ⟨rfl, hb9⟩
    replace HB := Lib.hid (below2 HB.out hb9)
    clear hb9
    go_wp2_with fail
    go_ret
    exact ⟨rfl, HB.out⟩
  | false =>
    replace HS1 := Lib.hid (HS1.out rfl)
    go_wp2_with (refine ld_bfg HY.out (by rfl) rfl rfl ?_)
    refine (great_at HB2.out HG.out).mono ?_
    rintro e w2 ⟨rfl, hb2⟩
    replace HX := Lib.hid (kb hb2 HX.out)
    replace HY := Lib.hid (kb hb2 HY.out)
    replace HV := Lib.hid (kb hb2 HV.out)
    replace HF := Lib.hid (HF.out.below hb2)
    replace HG := Lib.hid (HG.out.below hb2)
    replace HB := Lib.hid (below2 HB.out hb2)
    clear hb2 HB1
    cases B2 with
    | true =>
      go_wp2_with fail
      refine (gknow_any _).mono ?_
      rintro e w9 ⟨rfl, hb9⟩
      replace HB := Lib.hid (below2 HB.out hb9)
      clear hb9
      go_wp2_with fail
      go_ret
      exact ⟨rfl, HB.out⟩
    | false =>
      replace HS2 := Lib.hid (HS2.out rfl)
      clear HB2
      go_wp2_with fail
      refine (var_at i _).mono ?_
      rintro e w3 ⟨vx, E, lx, tx, rfl, hx3, hIn, hb3⟩
      replace HX := Lib.hid (kb hb3 HX.out)
      replace HY := Lib.hid (kb hb3 HY.out)
      replace HV := Lib.hid (kb hb3 HV.out)
      replace HF := Lib.hid (HF.out.below hb3)
      replace HG := Lib.hid (HG.out.below hb3)
      replace HB := Lib.hid (below2 HB.out hb3)
      clear hb3
      obtain ⟨x1, x2, rfl, px1, px2⟩ := hx3.split
      have HN := Lib.hid hx3
      have HI := Lib.hid hIn
      have hsz := HB.out.size
      clear hx3 hIn
      go_wp2_with (refine st_bf (heap_alloc_new _ _) rfl px1 px2 rfl rfl rfl rfl ?_; intro W3 hp3; have HP3 := Lib.hid hp3; clear hp3)
      have hbS : Below w3.heap.size w3 W3 := HP3.out.below (ba _ (Below.refl _ _)) (Nat.le_refl _)
      replace HX := Lib.hid (kb hbS HX.out)
      replace HY := Lib.hid (kb hbS HY.out)
      replace HV := Lib.hid (kb hbS HV.out)
      replace HF := Lib.hid (HF.out.below hbS)
      replace HG := Lib.hid (HG.out.below hbS)
      replace HN := Lib.hid (HN.out.below hbS)
      replace HB := Lib.hid (below2 HB.out hbS)
      clear hbS
      have HXx := Lib.hid HP3.out.row
      clear HP3
      generalize w3.heap.size = gx at *
      refine (bconst_any c _ (by omega)).mono ?_
      rintro e w4 ⟨vy, rfl, hy4, hb4⟩
      replace HX := Lib.hid (kb hb4 HX.out)
      replace HY := Lib.hid (kb hb4 HY.out)
      replace HV := Lib.hid (kb hb4 HV.out)
      replace HXx := Lib.hid (kb hb4 HXx.out)
      replace HF := Lib.hid (HF.out.below hb4)
      replace HG := Lib.hid (HG.out.below hb4)
      replace HN := Lib.hid (HN.out.below hb4)
      replace HB := Lib.hid (below2 HB.out hb4)
      clear hb4
      obtain ⟨y1, y2, rfl, py1, py2⟩ := hy4.split
      have HC := Lib.hid hy4
      have hsz := HB.out.size
      clear hy4
      go_upto_region 5 with (refine st_bf (heap_alloc_new _ _) rfl py1 py2 rfl rfl rfl rfl ?_; intro W4 hp3; have HP3 := Lib.hid hp3; clear hp3)
      have hbS : Below w4.heap.size w4 W4 := HP3.out.below (ba _ (Below.refl _ _)) (Nat.le_refl _)
      replace HX := Lib.hid (kb hbS HX.out)
      replace HY := Lib.hid (kb hbS HY.out)
      replace HV := Lib.hid (kb hbS HV.out)
      replace HXx := Lib.hid (kb hbS HXx.out)
      replace HF := Lib.hid (HF.out.below hbS)
      replace HG := Lib.hid (HG.out.below hbS)
      replace HN := Lib.hid (HN.out.below hbS)
      replace HC := Lib.hid (HC.out.below hbS)
      replace HB := Lib.hid (below2 HB.out hbS)
      clear hbS
      have HXy := Lib.hid HP3.out.row
      clear HP3
      generalize w4.heap.size = gy at *
      go_wp2_with (first | (refine ld_bf HX.out rfl rfl rfl ?_) | (refine ld_bfg HX.out (by rfl) rfl rfl ?_) | (refine ld_row HV.out HVL.out rfl rfl rfl ?_))
      refine (beval_any _ l t V _ HF.out HS1.out hV).mono ?_
      rintro e w5 ⟨rfl, hb5⟩
      replace HX := Lib.hid (kb hb5 HX.out)
      replace HY := Lib.hid (kb hb5 HY.out)
      replace HV := Lib.hid (kb hb5 HV.out)
      replace HXx := Lib.hid (kb hb5 HXx.out)
      replace HXy := Lib.hid (kb hb5 HXy.out)
      replace HF := Lib.hid (HF.out.below hb5)
      replace HG := Lib.hid (HG.out.below hb5)
      replace HN := Lib.hid (HN.out.below hb5)
      replace HC := Lib.hid (HC.out.below hb5)
      replace HB := Lib.hid (below2 HB.out hb5)
      clear hb5
      have c1 := qg_right HF.out HS1.out
      have c2 := qg_rright HF.out
      have c3 := qg_same HF.out HG.out HS1.out HS2.out
      have c4 := qg_rsame HF.out HG.out HS1.out
      have c5 := qg_as HF.out
      have c6 := qg_as HG.out
      generalize hR1 : rightB l t = R1 at *
      generalize decide (l = m ∧ t = s) = D at *
      obtain ⟨A1, hA1⟩ : ∃ A1, A1 = evalB l t (mAt V) := ⟨_, rfl⟩
      rw [← hA1]
      have HA1 := Lib.hid hA1
      clear hA1
      obtain ⟨a1, k1, b, o, k2, rfl, rfl, z2⟩ := GF.one HC.out
      have z0 := cell_regrown ((cell_in HXy.out 0).trans rfl)
      have z1 := cell_regrown ((cell_in HXy.out 1).trans rfl)
      replace z2 := cell_regrown z2
      clear HC
      go_upto_region 6 with fail
      refine wp_region_quiet_below (by kernel_rfl) (by kernel_rfl) ?_
      repeat (first | (refine qg_bf HX.out (by rfl) rfl rfl ?_) | (refine qg_bf HY.out (by rfl) rfl rfl ?_) | (quiet_step (first | with_reducible exact c1 _ _ | with_reducible exact c2 _ _ | with_reducible exact c3 _ _ | with_reducible exact c4 _ _ | with_reducible exact c5 _ _ | with_reducible exact c6 _ _)))
      refine wpQuiet_nil ?_
      intro _ hw'
      obtain ⟨⟨dq, osq⟩, hw''⟩ := hw'
      subst hw''
      have hbq := below_regrown w5 dq osq
      replace HX := Lib.hid (kb hbq HX.out)
      replace HV := Lib.hid (kb hbq HV.out)
      replace HXx := Lib.hid (kb hbq HXx.out)
      replace HF := Lib.hid (HF.out.below hbq)
      replace HN := Lib.hid (HN.out.below hbq)
      replace HB := Lib.hid (below2 HB.out hbq)
      clear hbq
      generalize Sort.grow (redrawn w5 dq) osq = Wq at *
      clear c1 c2 c3 c4 c5 c6 z0 z1 z2 HXy HG HY HS2
      go_upto_region 8 with fail
      go_cut [103] (fun s103 wx => s103 = .bool false ∧ Below Wq.heap.size Wq wx)
      case first =>
        rcases HI.out with ⟨rfl, n, hn, rfl, rfl, rfl⟩ | ⟨rfl, ho⟩
        · have g1 : (n : Int) < 34 := by omega
          go_wp2_with (refine ld_bfg HXx.out (by rfl) rfl rfl ?_)
          refine (gas_any _ _ _ _ HN.out).mono ?_
          rintro e w6 ⟨rfl, hb6⟩
          replace HN := Lib.hid (HN.out.below hb6)
          have HB6 := Lib.hid hb6
          clear hb6
          go_wp2_with fail
          have hbS := ba (.cells #[.int .u32 0, .int .u32 4294967295] 26) (ba (.cells #[.int .i64 (n : Int)] 3) (Below.refl w6.heap.size w6))
          refine (same_var HN.out).mono ?_
          rintro e w7 ⟨rfl, hb7⟩
          have HB7 := Lib.hid (below2 (below2 HB6.out hbS) hb7)
          clear hb7 hbS
          go_wp2_with fail
          go_meet
          exact ⟨rfl, HB7.out⟩
        · rcases ho with ho | ho
          · have g1 : ¬ 0 ≤ i := by omega
            go_wp2_with fail
            go_meet
            exact ⟨rfl, Below.refl _ _⟩
          · have g1 : 0 ≤ i := by omega
            have g2 : ¬ i < 34 := by omega
            go_wp2_with fail
            go_meet
            exact ⟨rfl, Below.refl _ _⟩
      case rest =>
      obtain ⟨rfl, hb8⟩ := hcut
      replace HX := Lib.hid (kb hb8 HX.out)
      replace HV := Lib.hid (kb hb8 HV.out)
      replace HF := Lib.hid (HF.out.below hb8)
      replace HB := Lib.hid (below2 HB.out hb8)
      clear hb8 HXx HN HI
      generalize wc = W8 at *
      have cRR : ∀ U, GF U (.agg #[f1, f2]) l t → Calls Try.prog 15 #[.agg #[f1, f2]] U fun e w' => e = .returned (.bool R1) ∧ Below U.heap.size U w' := fun U h => by have h2 := gright_any _ l t U h; rw [hR1] at h2; exact h2
      have CRR := Lib.hid cRR
      clear cRR
      go_wp2_with (first | (refine ld_bf HX.out rfl rfl rfl ?_) | (refine ld_bfg HX.out (by rfl) rfl rfl ?_))
      refine (gas_any _ l t _ HF.out).mono ?_
      rintro e w10 ⟨rfl, hb10⟩
      replace HX := Lib.hid (kb hb10 HX.out)
      replace HV := Lib.hid (kb hb10 HV.out)
      replace HF := Lib.hid (HF.out.below hb10)
      replace HB := Lib.hid (below2 HB.out hb10)
      clear hb10
      go_wp2_with fail
      refine (CRR.out _ HF.out).mono ?_
      rintro e w11 ⟨rfl, hb11⟩
      replace HX := Lib.hid (kb hb11 HX.out)
      replace HV := Lib.hid (kb hb11 HV.out)
      replace HF := Lib.hid (HF.out.below hb11)
      replace HB := Lib.hid (below2 HB.out hb11)
      clear hb11
      cases R1 with
      | false =>
        obtain rfl : A1 = 0 := HA1.out.trans (by unfold evalB; rw [if_neg (by rw [hR1]; simp)])
        clear HA1
        go_wp2_with fail
        refine (gknow_any _).mono ?_
        rintro e w9 ⟨rfl, hb9⟩
        replace HB := Lib.hid (below2 HB.out hb9)
        clear hb9
        go_wp2_with fail
        go_ret
        exact ⟨rfl, HB.out⟩
      | true =>
        have hv := gright_of ht (right_yes hR1)
        have hE : A1 = Bf.valF (bfOf l t) (mAt V) := HA1.out.trans (by unfold evalB; rw [if_pos hR1])
        have cRE : ∀ U v u, GF U v l t → UAt U u 34 (mAt V) → Calls Try.prog 19 #[v, u] U fun e w' => e = .returned (.int .u32 (A1 : Nat)) ∧ Below U.heap.size U w' := fun U v u h hu => by rw [hE]; exact geval_any v u (bfOf l t) (mAt V) U (by rw [hv.2]; exact h) hu hv.1.toFine fun j _ => hV.lt j
        have CRE := Lib.hid cRE
        clear cRE hv hE HA1 hR1 hV
        go_upto_region 12 with fail
        have hF : GF w11.drew (.agg #[f1, f2]) l t := HF.out.below (bdN (Below.refl w11.heap.size w11) 1)
        refine wp_region_held_drew (S := fun U => Below w11.heap.size w11 U) (by kernel_rfl) (bdN (Below.refl _ _) 1) (fun hHeld => ?_)
        generalize w11.drew = wZ at *
        refine jheld_take (i := 0) (v := .int .u32 (A1 : Int)) (some 117) rfl rfl (by kernel_rfl) (by kernel_rfl) (by kernel_rfl) (fun _ _ _ h => h) (.inl ⟨by rfl, fun V _ => by go_simp⟩) hHeld ?_
        simp only [Act.put, List.setIfInBounds_toArray, List.set_cons_zero, List.set_cons_succ]
        refine jheld_take (i := 1) (v := .agg #[f1, f2]) (some 118) rfl rfl (by kernel_rfl) (by kernel_rfl) (by kernel_rfl) (fun _ _ _ h => h) (gyi_row (by rfl) (by rfl) (by rfl) (fun U hV => lv_bf (kb hV HX.out))) hHeld ?_
        simp only [Act.put, List.setIfInBounds_toArray, List.set_cons_zero, List.set_cons_succ]
        refine jheld_take (i := 3) (v := formV V) (some 120) rfl rfl (by kernel_rfl) (by kernel_rfl) (by kernel_rfl) (fun _ _ _ h => h) (gyi_row (by rfl) (by rfl) (by rfl) (fun U hU => lv_asg (kb hU HV.out) HVL.out)) hHeld ?_
        simp only [Act.put, List.setIfInBounds_toArray, List.set_cons_zero, List.set_cons_succ]
        refine wpAnyH_ready (rs := [2]) (by kernel_rfl) (by simp) ?_
        refine AllReadyH.cons rfl (fun K hK => ?_) AllReadyH.nil
        go_simp
        refine (gas_any _ l t wZ hF).mono ?_
        rintro e wA0 ⟨rfl, hbwA0⟩
        have hF := hF.below hbwA0
        go_simp
        refine hK.out _ _ (below2 hHeld hbwA0) (fun hHeld => ?_)
        clear hK K hbwA0
        refine wpAnyH_ready (rs := [4]) (by kernel_rfl) (by simp) ?_
        refine AllReadyH.cons rfl (fun K hK => ?_) AllReadyH.nil
        go_simp
        refine (grow_any V wA0 HVL.out).mono ?_
        rintro e wR1 ⟨u, rfl, hU, hbwR1⟩
        have hF := hF.below hbwR1
        go_simp
        refine hK.out _ _ (below2 hHeld hbwR1) (fun hHeld => ?_)
        clear hK K hbwR1
        refine wpAnyH_ready (rs := [5]) (by kernel_rfl) (by simp) ?_
        refine AllReadyH.cons rfl (fun K hK => ?_) AllReadyH.nil
        go_simp
        refine (CRE.out wR1 _ _ hF hU).mono ?_
        rintro e wE2 ⟨rfl, hbwE2⟩
        have hF := hF.below hbwE2
        have hU := hU.below hbwE2
        go_simp
        refine hK.out _ _ (below2 hHeld hbwE2) (fun hHeld => ?_)
        clear hK K hbwE2
        refine jheld_take (i := 6) (v := .bool true) (some 123) rfl rfl (by kernel_rfl) (by kernel_rfl) (by kernel_rfl) (fun _ _ _ h => h) (.inl ⟨by rfl, fun V _ => by go_simp⟩) hHeld ?_
        simp only [Act.put, List.setIfInBounds_toArray, List.set_cons_zero, List.set_cons_succ]
        refine jheld_take (i := 7) (v := .bool true) (some 124) rfl rfl (by kernel_rfl) (by kernel_rfl) (by kernel_rfl) (fun _ _ _ h => h) (.inl ⟨by rfl, fun V _ => by go_simp⟩) hHeld ?_
        simp only [Act.put, List.setIfInBounds_toArray, List.set_cons_zero, List.set_cons_succ]
        refine jheld_take (i := 8) (v := .bool true) (some 125) rfl rfl (by kernel_rfl) (by kernel_rfl) (by kernel_rfl) (fun _ _ _ h => h) (.inl ⟨by rfl, fun V _ => by go_simp⟩) hHeld ?_
        simp only [Act.put, List.setIfInBounds_toArray, List.set_cons_zero, List.set_cons_succ]
        refine jheld_take (i := 9) (v := .bool true) (some 126) rfl rfl (by kernel_rfl) (by kernel_rfl) (by kernel_rfl) (fun _ _ _ h => h) (.inl ⟨by rfl, fun V _ => by go_simp⟩) hHeld ?_
        simp only [Act.put, List.setIfInBounds_toArray, List.set_cons_zero, List.set_cons_succ]
        refine jheld_take (i := 10) (v := .bool true) (some 127) rfl rfl (by kernel_rfl) (by kernel_rfl) (by kernel_rfl) (fun _ _ _ h => h) (.inl ⟨by rfl, fun V _ => by go_simp⟩) hHeld ?_
        simp only [Act.put, List.setIfInBounds_toArray, List.set_cons_zero, List.set_cons_succ]
        refine wpAnyH_ready (rs := [11]) (by kernel_rfl) (by simp) ?_
        refine AllReadyH.cons rfl (fun K hK => ?_) AllReadyH.nil
        go_simp
        refine (gknow_any wE2).mono ?_
        rintro e wK3 ⟨rfl, hbwK3⟩
        have hF := hF.below hbwK3
        have hU := hU.below hbwK3
        go_simp
        refine hK.out _ _ (below2 hHeld hbwK3) (fun hHeld => ?_)
        clear hK K hbwK3
        refine jheld_take (i := 12) (v := .bool true) (some 129) rfl rfl (by kernel_rfl) (by kernel_rfl) (by kernel_rfl) (fun _ _ _ h => h) (.inl ⟨by rfl, fun V _ => by go_simp⟩) hHeld ?_
        simp only [Act.put, List.setIfInBounds_toArray, List.set_cons_zero, List.set_cons_succ]
        refine jheld_take (i := 13) (v := .bool true) (some 10) rfl rfl (by kernel_rfl) (by kernel_rfl) (by kernel_rfl) (fun _ _ _ h => h) (.inl ⟨by rfl, fun V _ => by go_simp⟩) hHeld ?_
        simp only [Act.put, List.setIfInBounds_toArray, List.set_cons_zero, List.set_cons_succ]
        refine wpAnyH_done (by kernel_rfl) ?_ _
        go_wp2_with fail
        go_ret
        exact ⟨rfl, below2 HB.out hHeld⟩

set_option maxRecDepth 100000 in
/-- The row's contract, for every argument and every world. -/
theorem contract (H : Type) (enc : TypeId × Value → H) (W : World) (base : Nat) (args : Array Value) (ds gs : List (DataW H)) (before : List MemPlace)
    (hval : ∀ (j : Nat) t v, Try.f3.params[j]? = some t → args[j]? = some v → Value.okWide Try.prog W .any base t v)
    (hW : DataW.Whole enc Try.prog Try.f3.params.toList Rows.bitsFormsSpec.vars false W args.toList ds gs before) (_hL : laidMetH Try.prog Rows.bitsFormsRow.laid W) :
    Calls Try.prog 3 args W fun e W' => ∃ v, e = .returned v ∧ Rows.bitsFormsSpec.post enc Try.prog Try.f3 false true false false W args v W' := by
  have hW' := hW
  obtain ⟨p, q, hA0, hV, rfl, hfz, hnd⟩ := hW
  have hA : DataW.TrodAll enc Try.prog W 0 (fun _ => true) true Try.f3.params.toList args.toList ds p := hA0
  rw [Try.params3] at hA hval
  obtain ⟨v0, vs0, d0, ds0, p0, q0, hargs0, rfl, rfl, t0, r0⟩ := trodAll_cons hA
  obtain ⟨v1, vs1, d1, ds1, p1, q1, hargs1, rfl, rfl, t1, r1⟩ := trodAll_cons r0
  obtain ⟨v2, vs2, d2, ds2, p2, q2, hargs2, rfl, rfl, t2, r2⟩ := trodAll_cons r1
  obtain ⟨v3, vs3, d3, ds3, p3, q3, hargs3, rfl, rfl, t3, r3⟩ := trodAll_cons r2
  obtain ⟨v4, vs4, d4, ds4, p4, q4, hargs4, rfl, rfl, t4, r4⟩ := trodAll_cons r3
  obtain ⟨rfl, rfl, rfl⟩ := trodAll_nil r4
  obtain rfl : args = #[v0, v1, v2, v3, v4] := by cases args; simp_all
  obtain ⟨fl, ft, hG0, _, _, hb0, hm0⟩ := open_bform (hval 0 25 v0 rfl rfl) t0
  obtain ⟨gl, gt, hG1, _, _, hb1, hm1⟩ := open_bform (hval 1 25 v1 rfl rfl) t1
  obtain ⟨V, rfl, hd2⟩ := open_asg (hval 2 27 v2 rfl rfl) t2
  obtain ⟨c, rfl, rfl, rfl, wf3⟩ := open_int Try.underlying26 (hval 3 26 v3 rfl rfl) t3
  have bd3 := bounds_u32 wf3
  obtain ⟨i, rfl, rfl, rfl, wf4⟩ := open_int Try.underlying3 (hval 4 3 v4 rfl rfl) t4
  have bd4 := bounds_i64 wf4
  refine (walk v0 fl ft v1 gl gt V c i W hG0 hb0 hm0 hG1 hb1 hm1 hd2 bd3.1 bd3.2 bd4.1 bd4.2).mono fun e W' ⟨he, hg⟩ => ?_
  subst he
  exact ⟨_, rfl, law_post (tb := 4) laidOut (fun t ht => by rw [Try.params3] at ht; revert t; exact of_decide_eq_true (by kernel_rfl)) (by kernel_rfl) Try.underlying4 rfl
    (fun ds h => by rw [Try.params3] at h; match ds, h with | [_, _, _, _, _], _ => rfl) hW' hg⟩

theorem laid_met (os : Os) : laidMet Try.prog Rows.bitsFormsRow.laid ((laidWorldG os).forCall (fun _ _ => 0) ⟨#[], #[.agg #[.slice none 0 0, .slice none 0 0], .agg #[.slice none 0 0, .slice none 0 0], .agg (numsC zeros), .int .u32 0, .int .i64 0], []⟩).memory :=
  laidMet_nil _ _
theorem reads (os : Os) {H : Type} (enc : TypeId × Value → H) : ∃ places, DataW.whole enc Try.prog ((laidWorldG os).forCall (fun _ _ => 0) ⟨#[], #[.agg #[.slice none 0 0, .slice none 0 0], .agg #[.slice none 0 0, .slice none 0 0], .agg (numsC zeros), .int .u32 0, .int .i64 0], []⟩).memory Try.f3.params.toList Rows.bitsFormsSpec.vars false #[Value.agg #[.slice none 0 0, .slice none 0 0], Value.agg #[.slice none 0 0, .slice none 0 0], Value.agg (numsC zeros), Value.int .u32 0, Value.int .i64 0].toList 8 = some ([.agg [.nil, .nil], .agg [.nil, .nil], .agg (List.replicate 34 (.lit (.int .u32 0))), .lit (.int .u32 0), .lit (.int .i64 0)], [], places) :=
  ⟨[], by kernel_rfl⟩

set_option maxRecDepth 100000 in
theorem lifted (os : Os) (started : os.Started) (H : Type) (enc : TypeId × Value → H) (F : Stop.Interp) :
    ReturnsInHanded {} Try.checked os 3 .any ((OpenSpec.ofChange Rows.bitsFormsSpec).preRow enc Try.prog Try.f3 Rows.bitsFormsRow.domain false Rows.bitsFormsRow.laid) (((OpenSpec.ofChange Rows.bitsFormsSpec).at F).post enc Try.prog Try.f3 false true false false) := by
  obtain ⟨places, hx⟩ := reads os enc
  refine returnsInHanded_of_row (C := Try.checked) (s := OpenSpec.ofChange Rows.bitsFormsSpec) own started (by kernel_rfl) Try.func3
    (witness_row_at (enc := enc) (C := Try.checked) false (laidWorldG os) #[.agg #[.slice none 0 0, .slice none 0 0], .agg #[.slice none 0 0, .slice none 0 0], .agg (numsC zeros), .int .u32 0, .int .i64 0] rfl (by kernel_rfl) (by kernel_rfl) (by kernel_rfl)
      (OpenSpec.preRow_of_cond 8 hx (by kernel_rfl) (fun k hk => by cases hk) (by kernel_rfl) (laid_met os))) ?_
  intro W base args ds gs before hval hW _ _ _ hL _ _
  exact contract H enc W base args ds gs before hval hW hL

theorem said : Rows.BitsFormsSaid :=
  OpenClaim.holds_of_cond 3 Try.f3 rfl rfl rfl rfl rfl rfl rfl ⟨rfl, rfl, rfl, rfl, rfl⟩ rfl rfl rfl rfl rfl (by kernel_rfl) Try.func3 (by kernel_rfl)
    (of_decide_eq_true (by kernel_rfl)) (by unfold Func.isWrapper; first | (rw [if_pos (by decide +kernel)]; kernel_rfl) | (rw [if_neg (by decide +kernel)]; exact ⟨rfl, rfl⟩))
    (fun os started H enc _ F => by rw [OpenClaim.pre_eq_preRow]; exact lifted os started H enc F)

end Go.Proofs.Ytlgoeegpgcilbaa.bitsForms
