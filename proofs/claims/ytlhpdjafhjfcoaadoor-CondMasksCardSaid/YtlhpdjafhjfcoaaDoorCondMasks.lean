/-
  For every condition and any two records, in every world that has the listed tables as their initialisers lay them: the law CondMasks returns true and changes nothing that was there.
-/
import Derived.Test.YtlhpdjafhjfcoaaDoorQFrame
import Derived.Test.YtlhpdjafhjfcoaaDoorQTabs
import Derived.Lib.QuietBelow
import Derived.Laws.BitsAllLaws
import Derived.Deep.RegionHeld3
import Derived.BigRegion
namespace Go.Proofs.YtlhpdjafhjfcoaaDoor.condMasks
open Go.ChangeShapes Go.WideShapes Go.ChangeAt Go.RowKit

/-- A record with another argument. -/
def setA (e : Rec) (n V : Nat) : Rec := ⟨e.nr, e.arch, e.ip, if n = 0 then V else e.a0, if n = 1 then V else e.a1, if n = 2 then V else e.a2, if n = 3 then V else e.a3, if n = 4 then V else e.a4, if n = 5 then V else e.a5⟩
theorem six_nat {n : Nat} (h : n < 6) : n = 0 ∨ n = 1 ∨ n = 2 ∨ n = 3 ∨ n = 4 ∨ n = 5 := by omega
theorem setA_cells (e : Rec) {n : Nat} (V : Nat) (h : n < 6) : e.cells.setIfInBounds (3 + n) (.int .u64 (V : Nat)) = (setA e n V).cells := by
  rcases six_nat h with rfl | rfl | rfl | rfl | rfl | rfl <;> rfl
theorem setA_arg (e : Rec) {n : Nat} (V : Nat) (h : n < 6) : (argsD (setA e n V)).getD n 0 = V := by
  rcases six_nat h with rfl | rfl | rfl | rfl | rfl | rfl <;> rfl
theorem setA_ok {e : Rec} {n V : Nat} (he : e.ok) (hV : V < 18446744073709551616) : (setA e n V).ok := by
  obtain ⟨h0, h1, h2, h3, h4, h5, h6, h7, h8⟩ := he
  unfold setA
  refine ⟨h0, h1, h2, ?_, ?_, ?_, ?_, ?_, ?_⟩ <;> simp only <;> split <;> assumption
theorem rec_len (e : Rec) : e.cells.size = 9 := rfl
set_option maxHeartbeats 8000000 in
theorem walk (c : Cd) (d e : Rec) (w : World) (hc : c.ok) (hd : d.ok) (he : e.ok) (ht : QTab w) :
    Calls Tryd.prog 8 #[c.val, d.val, e.val] w fun r w' => r = .returned (.bool true) ∧ Below w.heap.size w w' := by
  obtain ⟨W, hW, hX, hD, hE, hb⟩ := box3 w (cdB c) (.cells d.cells 28) (.cells e.cells 28)
  have HX := Lib.hid hX
  have HD := Lib.hid hD
  have HE := Lib.hid hE
  have HB := Lib.hid hb
  have HTab := Lib.hid ht
  have HC := Lib.hid hc
  have HDo := Lib.hid hd
  have HEo := Lib.hid he
  clear hX hD hE hb ht hc hd he
  go_enter Tryd.func8, Tryd.ntmps8
  go_upto_region 1 with fail
  rw [← hW]
  clear hW
  obtain ⟨c0, c1, c2, c3⟩ := cdX HX.out
  go_wp2_with fail
  refine (rright8_any c _).mono ?_
  rintro r w1 ⟨rfl, hb1⟩
  have HX1 := Lib.hid (kb hb1 HX.out)
  have HD1 := Lib.hid (kb hb1 HD.out)
  have HE1 := Lib.hid (kb hb1 HE.out)
  have HB1 := Lib.hid (HB.out.trans (hb1.mono HB.out.size))
  clear hb1 c0 c1 c2 c3 HX HD HE HB
  cases hr : c.right
  · clear hr
    go_wp2_with fail
    refine (qknow_end HB1.out HTab.out).mono ?_
    rintro r wb ⟨rfl, hbb⟩
    have HBB := Lib.hid hbb
    clear hbb
    go_wp2_with fail
    go_ret
    exact ⟨rfl, HBB.out⟩
  obtain ⟨a0, a5, _, _⟩ := (c.right_iff).1 hr
  obtain ⟨n, hn⟩ : ∃ n : Nat, c.arg = n := ⟨c.arg.toNat, by omega⟩
  have hn6 : n < 6 := by omega
  have HA := Lib.hid (args_lt HDo.out n)
  have HAE := Lib.hid (args_lt HEo.out n)
  have hmk := HC.out.1
  have HDA := Lib.hid (args_cell d n hn6)
  have HEA := Lib.hid (args_cell e n hn6)
  obtain ⟨A, hA⟩ : ∃ A, A = (argsD d).getD n 0 := ⟨_, rfl⟩
  obtain ⟨E, hE⟩ : ∃ E, E = (argsD e).getD n 0 := ⟨_, rfl⟩
  obtain ⟨V, hV⟩ : ∃ V, V = (A &&& c.mask) ||| (E &&& (18446744073709551615 - c.mask)) := ⟨_, rfl⟩
  rw [← hA] at HA HDA
  rw [← hE] at HAE HEA
  have ha1 : A &&& c.mask < 2 ^ 64 := Nat.and_lt_two_pow _ hmk
  have ha2 : E &&& (18446744073709551615 - c.mask) < 2 ^ 64 := Nat.and_lt_two_pow _ (by omega)
  have hV64 : V < 18446744073709551616 := by rw [hV]; exact Nat.or_lt_two_pow ha1 ha2
  have HSAME : Hid (c.holds (setA e n V) = c.holds d) := Lib.hid (by
    unfold Cd.holds Cd.bits
    rw [hn, Int.toNat_natCast, setA_arg e V hn6, ← hA, hV, mask_mix hmk])
  have HSO := Lib.hid (setA_ok (n := n) HEo.out hV64)
  have HSET := Lib.hid (setA_cells e V hn6)
  have q1 : bits .and .u64 (A : Int) (c.mask : Int) = ((A &&& c.mask : Nat) : Int) := u64_and_nat A c.mask HA.out hmk
  have q2 : bits .andNot .u64 (E : Int) (c.mask : Int) = ((E &&& (18446744073709551615 - c.mask) : Nat) : Int) := u64_andNot_nat E c.mask HAE.out hmk
  have q3 : bits .or .u64 ((A &&& c.mask : Nat) : Int) ((E &&& (18446744073709551615 - c.mask) : Nat) : Int) = (V : Int) := by rw [u64_or_nat _ _ ha1 ha2, ← hV]
  generalize A &&& c.mask = P at *
  generalize E &&& (18446744073709551615 - c.mask) = Q at *
  clear hr a0 a5 hA hE hV ha1 ha2
  obtain ⟨x0, x1, x2, x3, x4, x5, x6, x7, x8⟩ := rec_cells HE1.out
  go_upto_region 4 with fail
  change Code.wp _ _ _ _ (w1.alloc (.cells e.cells 28))
  obtain ⟨W, hW⟩ : ∃ W, W = w1.alloc (.cells e.cells 28) := ⟨_, rfl⟩
  rw [← hW]
  have hwB : Below w1.heap.size w1 W := by rw [hW]; exact (Below.refl _ _).alloc (Nat.le_refl _) _
  have hR := heap_alloc_new w1 (.cells e.cells 28)
  rw [← hW] at hR
  clear hW x0 x1 x2 x3 x4 x5 x6 x7 x8
  have hs1 := lt_of_block HE1.out
  have HXw := Lib.hid (kb hwB HX1.out)
  have HDw := Lib.hid (kb hwB HD1.out)
  have HEw := Lib.hid (kb hwB HE1.out)
  have HBw := Lib.hid (HB1.out.trans (hwB.mono HB1.out.size))
  have hs2 := lt_of_block hR
  have HRw := Lib.hid hR
  obtain ⟨B, hB⟩ : ∃ B, B = w1.heap.size := ⟨_, rfl⟩
  rw [← hB] at HRw hs1 hs2
  have HS1 := Lib.hid hs1
  have HS2 := Lib.hid hs2
  clear hR hwB HX1 HD1 HE1 HB1 hs1 hs2
  obtain ⟨c0, c1, c2, c3⟩ := cdX HXw.out
  rw [hn] at c0
  have d0 := (cell_in HDw.out (3 + n)).trans HDA.out
  have e0 := (cell_in HEw.out (3 + n)).trans HEA.out
  have b0 := (cell_in HRw.out (3 + n)).trans HEA.out
  have b1 := free_in HRw.out (3 + n)
  have l0 : (0 : Int) ≤ (n : Int) := by omega
  have l1 : (n : Int) < 6 := by omega
  have t1 : (n : Int).toNat = n := by omega
  rw [← hB]
  clear hB c1 c3
  have n1 : B ≠ w.heap.size := by have := HS1.out; omega
  have n2 : B ≠ w.heap.size + 1 := by have := HS1.out; omega
  have n3 : B ≠ w.heap.size + 1 + 1 := by have := HS1.out; omega
  have m1 : w.heap.size ≠ B := n1.symm
  have m2 : w.heap.size + 1 ≠ B := n2.symm
  have m3 : w.heap.size + 1 + 1 ≠ B := n3.symm
  go_region_held3 (fun V => V.cell? ⟨w.heap.size, 0, none⟩ = some (.int .i64 (n : Int)) ∧ V.cell? ⟨w.heap.size, 2, none⟩ = some (.int .u64 (c.mask : Nat)) ∧ V.cell? ⟨w.heap.size + 1, 3 + n, none⟩ = some (.int .u64 (A : Int)) ∧ V.cell? ⟨w.heap.size + 1 + 1, 3 + n, none⟩ = some (.int .u64 (E : Int))) (first | exact ⟨c0, c2, d0, e0⟩ | go_keep) (fail)
  obtain ⟨X, hX⟩ : ∃ X, X = setA e n V := ⟨_, rfl⟩
  rw [← hX] at HSAME HSO HSET
  have hput : RowPut W (W.setCell ⟨B, 3 + n, none⟩ (.int .u64 (V : Int))) B (.cells X.cells 28) := by
    rw [setCell_eq_setRow W B (3 + n) _ _ _ _ HRw.out, HSET.out]
    exact rowPut_set HRw.out _
  rename_i hHeld
  clear hX HSET hHeld c0 c2 d0 e0 b0 b1 l0 l1 t1 q1 q2 q3 m1 m2 m3
  generalize W.setCell ⟨B, 3 + n, none⟩ (.int .u64 (V : Int)) = W1 at *
  have hbd : Below W1.heap.size W1 W1.drew := bdN (Below.refl _ _) 1
  have HX2 := Lib.hid (kb hbd (hput.keep n1.symm HXw.out))
  have HD2 := Lib.hid (kb hbd (hput.keep n2.symm HDw.out))
  have HR2 := Lib.hid (kb hbd hput.row)
  have HB2 := Lib.hid ((hput.below HBw.out (by have := HS1.out; omega)).trans (hbd.mono (by rw [hput.size]; exact HBw.out.size)))
  clear hbd hput n1 n2 n3 HXw HDw HEw HRw HBw HS1 HS2 HDA HEA HA HAE
  generalize W1.drew = W2 at *
  obtain ⟨c0, c1, c2, c3⟩ := cdX HX2.out
  obtain ⟨x0, x1, x2, x3, x4, x5, x6, x7, x8⟩ := rec_cells HR2.out
  obtain ⟨d0, d1, d2, d3, d4, d5, d6, d7, d8⟩ := rec_cells HD2.out
  have y0 := cell_regrown c0
  have y1 := cell_regrown c1
  have y2 := cell_regrown c2
  have y3 := cell_regrown c3
  have xx0 := cell_regrown x0
  have xx1 := cell_regrown x1
  have xx2 := cell_regrown x2
  have xx3 := cell_regrown x3
  have xx4 := cell_regrown x4
  have xx5 := cell_regrown x5
  have xx6 := cell_regrown x6
  have xx7 := cell_regrown x7
  have xx8 := cell_regrown x8
  have dd0 := cell_regrown d0
  have dd1 := cell_regrown d1
  have dd2 := cell_regrown d2
  have dd3 := cell_regrown d3
  have dd4 := cell_regrown d4
  have dd5 := cell_regrown d5
  have dd6 := cell_regrown d6
  have dd7 := cell_regrown d7
  have dd8 := cell_regrown d8
  obtain ⟨h, hh⟩ : ∃ h, h = c.holds d := ⟨_, rfl⟩
  have hcv : (.agg #[.int .i64 (n : Nat), .int .i64 c.cmp, .int .u64 (c.mask : Nat), .int .u64 (c.value : Nat)] : Value) = c.val := by rw [← hn]
  have cX : ∀ d' os, Calls Tryd.prog 11 #[.agg #[.int .i64 (n : Nat), .int .i64 c.cmp, .int .u64 (c.mask : Nat), .int .u64 (c.value : Nat)], .agg #[.int .u32 (X.nr : Nat), .int .u32 (X.arch : Nat), .int .u64 (X.ip : Nat), .int .u64 (X.a0 : Nat), .int .u64 (X.a1 : Nat), .int .u64 (X.a2 : Nat), .int .u64 (X.a3 : Nat), .int .u64 (X.a4 : Nat), .int .u64 (X.a5 : Nat)]] (Sort.grow (redrawn W2 d') os) fun e w'' => e = .returned (.bool h) ∧ ∃ p : Regrown, w'' = Sort.grow (redrawn W2 p.d) p.os := fun d' os => Calls.regrown_of (by rw [hcv]; exact (qholds_any c X _ HC.out HSO.out (HTab.out.below (HB2.out.trans ((below_regrown W2 d' os).mono HB2.out.size)))).mono fun e w' h' => ⟨by rw [hh, ← HSAME.out]; exact h'.1, h'.2⟩)
  have cD : ∀ d' os, Calls Tryd.prog 11 #[.agg #[.int .i64 (n : Nat), .int .i64 c.cmp, .int .u64 (c.mask : Nat), .int .u64 (c.value : Nat)], .agg #[.int .u32 (d.nr : Nat), .int .u32 (d.arch : Nat), .int .u64 (d.ip : Nat), .int .u64 (d.a0 : Nat), .int .u64 (d.a1 : Nat), .int .u64 (d.a2 : Nat), .int .u64 (d.a3 : Nat), .int .u64 (d.a4 : Nat), .int .u64 (d.a5 : Nat)]] (Sort.grow (redrawn W2 d') os) fun e w'' => e = .returned (.bool h) ∧ ∃ p : Regrown, w'' = Sort.grow (redrawn W2 p.d) p.os := fun d' os => Calls.regrown_of (by rw [hcv]; exact (qholds_any c d _ HC.out HDo.out (HTab.out.below (HB2.out.trans ((below_regrown W2 d' os).mono HB2.out.size)))).mono fun e w' h' => ⟨by rw [hh]; exact h'.1, h'.2⟩)
  have cK : ∀ d' os, Calls Tryd.prog 13 #[] (Sort.grow (redrawn W2 d') os) fun e w'' => e = .returned (.bool true) ∧ ∃ p : Regrown, w'' = Sort.grow (redrawn W2 p.d) p.os := fun d' os => Calls.regrown_of (qknows_any _ (HTab.out.below (HB2.out.trans ((below_regrown W2 d' os).mono HB2.out.size))))
  clear c0 c1 c2 c3 x0 x1 x2 x3 x4 x5 x6 x7 x8 d0 d1 d2 d3 d4 d5 d6 d7 d8 HSAME hcv
  go_wp2_with fail
  refine wp_region_quiet_below (by kernel_rfl) (by kernel_rfl) ?_
  repeat (quiet_step (first | with_reducible exact cX _ _ | with_reducible exact cD _ _ | with_reducible exact cK _ _))
  refine wpQuiet_nil ?_
  intro _ hw'
  obtain ⟨⟨dq, osq⟩, hw''⟩ := hw'
  subst hw''
  have HBq := Lib.hid (HB2.out.trans ((below_regrown W2 dq osq).mono HB2.out.size))
  generalize Sort.grow (redrawn W2 dq) osq = Wq at *
  go_wp2_with fail
  go_ret
  exact ⟨rfl, HBq.out⟩

set_option maxRecDepth 100000 in
/-- The row's contract, for every argument and every world. -/
theorem contract (H : Type) (enc : TypeId × Value → H) (W : World) (base : Nat) (args : Array Value) (ds gs : List (DataW H)) (before : List MemPlace)
    (hval : ∀ (j : Nat) t v, Tryd.f8.params[j]? = some t → args[j]? = some v → Value.okWide Tryd.prog W .any base t v)
    (hW : DataW.Whole enc Tryd.prog Tryd.f8.params.toList Rows.condMasksSpec.vars false W args.toList ds gs before) (hL : laidMetH Tryd.prog Rows.condMasksRow.laid W) :
    Calls Tryd.prog 8 args W fun e W' => ∃ v, e = .returned v ∧ Rows.condMasksSpec.post enc Tryd.prog Tryd.f8 false true false false W args v W' := by
  have hW' := hW
  obtain ⟨p, q, hA0, hV, rfl, hfz, hnd⟩ := hW
  have hA : DataW.TrodAll enc Tryd.prog W 0 (fun _ => true) true Tryd.f8.params.toList args.toList ds p := hA0
  rw [Tryd.params8] at hA hval
  obtain ⟨v0, vs0, d0, ds0, p0, q0, hargs0, rfl, rfl, t0, r0⟩ := trodAll_cons hA
  obtain ⟨v1, vs1, d1, ds1, p1, q1, hargs1, rfl, rfl, t1, r1⟩ := trodAll_cons r0
  obtain ⟨v2, vs2, d2, ds2, p2, q2, hargs2, rfl, rfl, t2, r2⟩ := trodAll_cons r1
  obtain ⟨rfl, rfl, rfl⟩ := trodAll_nil r2
  obtain rfl : args = #[v0, v1, v2] := by cases args; simp_all
  obtain ⟨c, rfl, hd0⟩ := open_cond (hval 0 24 v0 rfl rfl) t0
  obtain ⟨d, rfl, hd1⟩ := open_data (hval 1 28 v1 rfl rfl) t1
  obtain ⟨e, rfl, hd2⟩ := open_data (hval 2 28 v2 rfl rfl) t2
  refine (walk c d e W hd0 hd1 hd2 (qtab_of hL)).mono fun e W' ⟨he, hg⟩ => ?_
  subst he
  exact ⟨_, rfl, law_post (tb := 4) laidOut (fun t ht => by rw [Tryd.params8] at ht; revert t; exact of_decide_eq_true (by kernel_rfl)) (by kernel_rfl) Tryd.underlying4 rfl
    (fun ds h => by rw [Tryd.params8] at h; match ds, h with | [_, _, _], _ => rfl) hW' hg⟩

theorem laid_met (os : Os) : laidMet Tryd.prog Rows.condMasksRow.laid ((laidWorldQ os).forCall (fun _ _ => 0) ⟨#[], #[.agg #[.int .i64 0, .int .i64 0, .int .u64 0, .int .u64 0], .agg #[.int .u32 0, .int .u32 0, .int .u64 0, .int .u64 0, .int .u64 0, .int .u64 0, .int .u64 0, .int .u64 0, .int .u64 0], .agg #[.int .u32 0, .int .u32 0, .int .u64 0, .int .u64 0, .int .u64 0, .int .u64 0, .int .u64 0, .int .u64 0, .int .u64 0]], []⟩).memory :=
  laidMet_of_run' 8 (by kernel_rfl) (by kernel_rfl)
theorem reads (os : Os) {H : Type} (enc : TypeId × Value → H) : ∃ places, DataW.whole enc Tryd.prog ((laidWorldQ os).forCall (fun _ _ => 0) ⟨#[], #[.agg #[.int .i64 0, .int .i64 0, .int .u64 0, .int .u64 0], .agg #[.int .u32 0, .int .u32 0, .int .u64 0, .int .u64 0, .int .u64 0, .int .u64 0, .int .u64 0, .int .u64 0, .int .u64 0], .agg #[.int .u32 0, .int .u32 0, .int .u64 0, .int .u64 0, .int .u64 0, .int .u64 0, .int .u64 0, .int .u64 0, .int .u64 0]], []⟩).memory Tryd.f8.params.toList Rows.condMasksSpec.vars false #[Value.agg #[.int .i64 0, .int .i64 0, .int .u64 0, .int .u64 0], Value.agg #[.int .u32 0, .int .u32 0, .int .u64 0, .int .u64 0, .int .u64 0, .int .u64 0, .int .u64 0, .int .u64 0, .int .u64 0], Value.agg #[.int .u32 0, .int .u32 0, .int .u64 0, .int .u64 0, .int .u64 0, .int .u64 0, .int .u64 0, .int .u64 0, .int .u64 0]].toList 8 = some ([.agg [.lit (.int .i64 0), .lit (.int .i64 0), .lit (.int .u64 0), .lit (.int .u64 0)], .agg [.lit (.int .u32 0), .lit (.int .u32 0), .lit (.int .u64 0), .agg [.lit (.int .u64 0), .lit (.int .u64 0), .lit (.int .u64 0), .lit (.int .u64 0), .lit (.int .u64 0), .lit (.int .u64 0)]], .agg [.lit (.int .u32 0), .lit (.int .u32 0), .lit (.int .u64 0), .agg [.lit (.int .u64 0), .lit (.int .u64 0), .lit (.int .u64 0), .lit (.int .u64 0), .lit (.int .u64 0), .lit (.int .u64 0)]]], [], places) :=
  ⟨[], by kernel_rfl⟩

set_option maxRecDepth 100000 in
theorem lifted (os : Os) (started : os.Started) (H : Type) (enc : TypeId × Value → H) (F : Stop.Interp) :
    ReturnsInHanded {} Tryd.checked os 8 .any ((OpenSpec.ofChange Rows.condMasksSpec).preRow enc Tryd.prog Tryd.f8 Rows.condMasksRow.domain false Rows.condMasksRow.laid) (((OpenSpec.ofChange Rows.condMasksSpec).at F).post enc Tryd.prog Tryd.f8 false true false false) := by
  obtain ⟨places, hx⟩ := reads os enc
  refine returnsInHanded_of_row (C := Tryd.checked) (s := OpenSpec.ofChange Rows.condMasksSpec) own started (by kernel_rfl) Tryd.func8
    (witness_row_at (enc := enc) (C := Tryd.checked) false (laidWorldQ os) #[.agg #[.int .i64 0, .int .i64 0, .int .u64 0, .int .u64 0], .agg #[.int .u32 0, .int .u32 0, .int .u64 0, .int .u64 0, .int .u64 0, .int .u64 0, .int .u64 0, .int .u64 0, .int .u64 0], .agg #[.int .u32 0, .int .u32 0, .int .u64 0, .int .u64 0, .int .u64 0, .int .u64 0, .int .u64 0, .int .u64 0, .int .u64 0]] rfl (by kernel_rfl) (by kernel_rfl) (by kernel_rfl)
      (OpenSpec.preRow_of_cond 8 hx (by kernel_rfl) (fun k hk => by cases hk) (by kernel_rfl) (laid_met os))) ?_
  intro W base args ds gs before hval hW _ _ _ hL _ _
  exact contract H enc W base args ds gs before hval hW hL

theorem said : Rows.CondMasksSaid :=
  OpenClaim.holds_of_cond 8 Tryd.f8 rfl rfl rfl rfl rfl rfl rfl ⟨rfl, rfl, rfl, rfl, rfl⟩ rfl rfl rfl rfl rfl (by kernel_rfl) Tryd.func8 (by kernel_rfl)
    (of_decide_eq_true (by kernel_rfl)) (by unfold Func.isWrapper; first | (rw [if_pos (by decide +kernel)]; kernel_rfl) | (rw [if_neg (by decide +kernel)]; exact ⟨rfl, rfl⟩))
    (fun os started H enc _ F => by rw [OpenClaim.pre_eq_preRow]; exact lifted os started H enc F)

/-- No parameter wants a stand-in; the program's own looks are off. -/
theorem plain (f : FuncId) (fn : Func) (hf : Tryd.pinned.checked.prog.funcNamed "hurdle/hurdlelaw08.CondMasks" = some f) (hfn : Tryd.pinned.checked.prog.funcs[f]? = some fn) :
    false = Tryd.pinned.checked.prog.looks [] ∧ ∀ (j : Nat) t, fn.params[j]? = some t → Tryd.pinned.checked.prog.wantsStandIn t = false := by
  obtain rfl : f = 8 := Option.some.inj ((show Tryd.prog.funcNamed "hurdle/hurdlelaw08.CondMasks" = some 8 by kernel_rfl).symm.trans hf) |>.symm
  obtain rfl : fn = Tryd.f8 := (Option.some.inj (Tryd.func8.symm.trans hfn)).symm
  refine ⟨by kernel_rfl, fun j t ht => ?_⟩
  have hm := Array.mem_of_getElem? ht
  rw [Tryd.params8] at hm
  have all : ∀ t ∈ (#[24, 28, 28] : Array TypeId).toList, Tryd.prog.wantsStandIn t = false := of_decide_eq_true (by kernel_rfl)
  exact all t (Array.mem_toList_iff.2 hm)

/-- The tied card. -/
theorem card : Rows.CondMasksCardSaid :=
  Claim7.holds_tied_plain_at .later [] _ _ _ _ said (fun _ h => by cases h) (by kernel_rfl) (fun _ h => by cases h) condMasks_row_tie rfl ⟨rfl, rfl⟩ (by kernel_rfl) rfl plain (by kernel_rfl)
end Go.Proofs.YtlhpdjafhjfcoaaDoor.condMasks
