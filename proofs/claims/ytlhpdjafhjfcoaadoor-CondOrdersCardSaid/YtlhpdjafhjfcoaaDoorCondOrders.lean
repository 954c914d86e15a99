/-
  For every condition and every record, in every world that has the listed tables as their initialisers lay them: the law CondOrders returns true and changes nothing that was there.
-/
import Derived.Test.YtlhpdjafhjfcoaaDoorQFrame
import Derived.Test.YtlhpdjafhjfcoaaDoorQTabs
import Derived.Lib.QuietBelow
import Derived.Laws.BitsAllLaws
import Derived.Deep.RegionHeld3
import Derived.BigRegion
namespace Go.Proofs.YtlhpdjafhjfcoaaDoor.condOrders
open Go.ChangeShapes Go.WideShapes Go.ChangeAt Go.RowKit

theorem infoB : (Tryd.prog.info? 4).map (fun i => (i.zero, i.size, i.bytes)) = some (some (.bool false), 1, 1) := by kernel_rfl
/-- What the six comparisons say. -/
def six8 (v x : Nat) : List Value := [.bool (cmpB 0 v x), .bool (cmpB 1 v x), .bool (cmpB 2 v x), .bool (cmpB 3 v x), .bool (cmpB 4 v x), .bool (cmpB 5 v x)]
theorem six8_snoc (v x : Nat) {k : Nat} (h : k < 6) : (six8 v x).take k ++ [.bool (cmpB (k : Int) v x)] = (six8 v x).take (k + 1) := by
  rcases (by omega : k = 0 ∨ k = 1 ∨ k = 2 ∨ k = 3 ∨ k = 4 ∨ k = 5) with rfl | rfl | rfl | rfl | rfl | rfl <;> rfl
theorem holds_at {c : Cd} {d : Rec} {k : Nat} (h0 : 0 ≤ c.arg) (h5 : c.arg ≤ 5) (h : k < 6) : (⟨c.arg, (k : Int), c.mask, c.value⟩ : Cd).holds d = cmpB (k : Int) (c.bits d) c.value := by
  have hr : (⟨c.arg, (k : Int), c.mask, c.value⟩ : Cd).right = true := (Cd.right_iff _).2 ⟨h0, h5, by show (0 : Int) ≤ k; omega, by show (k : Int) ≤ 5; omega⟩
  unfold Cd.holds
  rw [hr, Bool.true_and]
  rfl
theorem three_ways : ∀ e0 e2 e4 e3 e5 : Bool, (if e0 then 1 else 0) + (if e2 then 1 else 0) + (if e4 then 1 else 0 : Nat) = 1 → (e3 && e5) = e0 → e3 = !e4 → (e0 = true ∧ e2 = false ∧ e4 = false ∧ e3 = true ∧ e5 = true) ∨ (e0 = false ∧ e2 = true ∧ e4 = false ∧ e3 = true ∧ e5 = false) ∨ (e0 = false ∧ e2 = false ∧ e4 = true ∧ e3 = false) := by decide
set_option maxHeartbeats 8000000 in
theorem walk (c : Cd) (d : Rec) (w : World) (hc : c.ok) (hd : d.ok) (ht : QTab w) :
    Calls Tryd.prog 7 #[c.val, d.val] w fun r w' => r = .returned (.bool true) ∧ Below w.heap.size w w' := by
  obtain ⟨i0, hi, hz0, hz1, hz2⟩ := info_parts infoB
  obtain ⟨W, hW, hX, hD, hb⟩ := box2 w (cdB c) (.cells d.cells 28)
  have HX := Lib.hid hX
  have HD := Lib.hid hD
  have HB := Lib.hid hb
  have HTab := Lib.hid ht
  have HC := Lib.hid hc
  have HDo := Lib.hid hd
  clear hX hD hb ht hc hd
  go_enter Tryd.func7, Tryd.ntmps7
  go_upto_region 1 with fail
  rw [← hW]
  clear hW
  obtain ⟨c0, c1, c2, c3⟩ := cdX HX.out
  go_wp2_with fail
  refine (rright8_any c _).mono ?_
  rintro r w1 ⟨rfl, hb1⟩
  have HX1 := Lib.hid (kb hb1 HX.out)
  have HD1 := Lib.hid (kb hb1 HD.out)
  have HB1 := Lib.hid (HB.out.trans (hb1.mono HB.out.size))
  clear hb1 c0 c1 c2 c3 HX HD HB
  cases hr : c.right
  · clear hr
    go_wp2_with fail
    refine (qknow_end HB1.out HTab.out).mono ?_
    rintro r wb ⟨rfl, hbb⟩
    have HBB := Lib.hid hbb
    clear hbb
    go_wp2_with fail
    go_ret
    exact ⟨rfl, HBB.out⟩
  obtain ⟨a0, a5, _, _⟩ := (c.right_iff).1 hr
  have HHolds : Hid (∀ k : Nat, k < 6 → (⟨c.arg, (k : Int), c.mask, c.value⟩ : Cd).holds d = cmpB (k : Int) (c.bits d) c.value) := Lib.hid fun k hk => holds_at a0 a5 hk
  clear a0 a5 hr
  obtain ⟨x, hx⟩ : ∃ x, x = c.bits d := ⟨_, rfl⟩
  rw [← hx] at HHolds
  clear hx
  obtain ⟨v, hv⟩ : ∃ v, v = c.value := ⟨_, rfl⟩
  have hl1 := lt_of_block HD1.out
  have HL1 := Lib.hid hl1
  clear hl1
  go_wp2_with fail
  go_loopw [6, 7] (fun u i wr => ∃ k : Nat, k ≤ 6 ∧ i = .int .i64 k ∧ wr.ownsRow (w.heap.size + 2) 4 1 u k ((six8 x c.value).take k) ∧ Below w.heap.size w wr ∧ (∃ cm : Int, wr.heap[w.heap.size]? = some (cdB ⟨c.arg, cm, c.mask, c.value⟩)) ∧ wr.heap[w.heap.size + 1]? = some (.cells d.cells 28)) (fun _ i _ => 6 - (intOf i).toNat)
  case atStart => exact ⟨0, by omega, rfl, ⟨by simp, .inl ⟨rfl, rfl⟩⟩, HB1.out, ⟨c.cmp, HX1.out⟩, HD1.out⟩
  case round =>
    obtain ⟨k, hk, rfl, hO, hB, ⟨cm, hX⟩, hD⟩ := hrel
    have HO := Lib.hid hO
    have HBr := Lib.hid hB
    have HDr := Lib.hid hD
    have HXr := Lib.hid hX
    have hsz : w.heap.size + 2 ≤ wr.heap.size := by have := lt_of_block hD; omega
    clear hO hB hD hX HX1 HD1 HB1 HL1
    by_cases hlt : k < 6
    · have h5 : (k : Int) ≤ 5 := by omega
      have f1 := free_in HXr.out 1
      obtain ⟨c0, c1, c2, c3⟩ := cdX HXr.out
      go_upto_region 9 with fail
      have hput : RowPut wr (wr.setCell ⟨w.heap.size, 1, none⟩ (.int .i64 (k : Int))) w.heap.size (cdB ⟨c.arg, k, c.mask, c.value⟩) := by
        rw [setCell_eq_setRow wr w.heap.size 1 _ _ _ _ HXr.out]
        exact rowPut_set HXr.out _
      have HX2 := Lib.hid hput.row
      have HD2 := Lib.hid (hput.keep (by omega) HDr.out)
      have HB2 := Lib.hid (hput.below HBr.out (Nat.le_refl _))
      have hs2 := hput.size
      have HO2 := Lib.hid (ownsRow_setCell_below HO.out (a := ⟨w.heap.size, 1, none⟩) (by show w.heap.size < w.heap.size + 2; omega) (.int .i64 (k : Int)))
      clear c0 c1 c2 c3 f1 hput HO HBr HDr HXr
      generalize wr.setCell ⟨w.heap.size, 1, none⟩ (.int .i64 (k : Int)) = W2 at *
      rw [← hs2] at hsz
      clear hs2
      obtain ⟨c0, c1, c2, c3⟩ := cdX HX2.out
      obtain ⟨d0, d1, d2, d3, d4, d5, d6, d7, d8⟩ := rec_cells HD2.out
      go_wp2_with fail
      refine (qholds_any ⟨c.arg, k, c.mask, c.value⟩ d _ HC.out HDo.out (HTab.out.below HB2.out)).mono ?_
      rintro e w3 ⟨rfl, hb3⟩
      rw [HHolds.out k hlt]
      have HX3 := Lib.hid (kb hb3 HX2.out)
      have HD3 := Lib.hid (kb hb3 HD2.out)
      have HO3 := Lib.hid (own_below HO2.out hb3)
      have HB3 := Lib.hid (HB2.out.trans (hb3.mono HB2.out.size))
      have HS := Lib.hid (six8_snoc x c.value hlt)
      have hs3 : w.heap.size + 2 ≤ w3.heap.size := Nat.le_trans hsz hb3.size
      clear c0 c1 c2 c3 d0 d1 d2 d3 d4 d5 d6 d7 d8 hb3 HO2 HX2 HD2 HB2 hsz
      obtain ⟨b, hbb⟩ : ∃ b, b = cmpB (k : Int) x c.value := ⟨_, rfl⟩
      rw [← hbb] at HS ⊢
      clear hbb
      go_wp2_with (at_builtin; refine wpList_append_own _ rfl _ _ 42 rfl (w.heap.size + 2) 4 i0 (.bool false) 1 1 Tryd.underlying42 hi hz0 hz1 hz2 rfl (by decide) _ _ _ rfl (HO3.out.alloc _) ⟨w3.heap.size, 0, none⟩ 1 1 [.bool b] rfl rfl (new_at w3 #[.bool b] 4) (by simp [Value.oneCell']) (by unfold maxLen; omega) (by omega) (by rw [size_alloc]; omega) ?_)
      intro v4 w4 hown4 hgrow4 _
      have hb4 := grown_below ((Below.refl (w.heap.size + 2) w3).alloc hs3 (.cells #[.bool b] 4)) (HO3.out.alloc _) hgrow4 (by rw [size_alloc]; omega)
      have HX4 := Lib.hid ((hb4.block _ (by omega)).trans HX3.out)
      have HD4 := Lib.hid ((hb4.block _ (by omega)).trans HD3.out)
      have HB4 := Lib.hid (HB3.out.trans (hb4.mono (by omega)))
      rw [HS.out] at hown4
      have HO4 := Lib.hid hown4
      clear hown4 hgrow4 hb4 HO3 HX3 HD3 HB3
      go_wp2_with fail
      go_roundw
      case rel => exact ⟨k + 1, by omega, by go_num, HO4.out, HB4.out, ⟨_, HX4.out⟩, HD4.out⟩
      case measure => simp [intOf]; omega
    · obtain rfl : k = 6 := by omega
      obtain ⟨g, cap, rfl, hg, hgl, hcap, hcells⟩ := own_cells HO.out (by omega)
      have g0 : wr.cell? ⟨g, 0, none⟩ = some (.bool (cmpB 0 x c.value)) := hcells 0 _ rfl
      have g2 : wr.cell? ⟨g, 2, none⟩ = some (.bool (cmpB 2 x c.value)) := hcells 2 _ rfl
      have g3 : wr.cell? ⟨g, 3, none⟩ = some (.bool (cmpB 3 x c.value)) := hcells 3 _ rfl
      have g4 : wr.cell? ⟨g, 4, none⟩ = some (.bool (cmpB 4 x c.value)) := hcells 4 _ rfl
      have g5 : wr.cell? ⟨g, 5, none⟩ = some (.bool (cmpB 5 x c.value)) := hcells 5 _ rfl
      have o1 := orders_one x c.value
      obtain ⟨o2, o3⟩ := orders_both x c.value
      have HH := Lib.hid (And.intro o1 (And.intro o2 o3))
      have HG := Lib.hid (And.intro g0 (And.intro g2 (And.intro g3 (And.intro g4 g5))))
      clear g0 g2 g3 g4 g5 o1 o2 o3 hcells HHolds HO HXr HDr hlt hk hcap hgl hg
      go_upto_region 10 with fail
      generalize cmpB 0 x c.value = e0 at HG HH
      generalize cmpB 2 x c.value = e2 at HG HH
      generalize cmpB 3 x c.value = e3 at HG HH
      generalize cmpB 4 x c.value = e4 at HG HH
      generalize cmpB 5 x c.value = e5 at HG HH
      have hcase : (e0 = true ∧ e2 = false ∧ e4 = false ∧ e3 = true ∧ e5 = true) ∨ (e0 = false ∧ e2 = true ∧ e4 = false ∧ e3 = true ∧ e5 = false) ∨ (e0 = false ∧ e2 = false ∧ e4 = true ∧ e3 = false) := by
        obtain ⟨o1, o2, o3⟩ := HH.out
        exact three_ways _ _ _ _ _ o1 o2 o3
      clear HH
      rcases hcase with ⟨rfl, rfl, rfl, rfl, rfl⟩ | ⟨rfl, rfl, rfl, rfl, rfl⟩ | ⟨rfl, rfl, rfl, rfl⟩
      · obtain ⟨g0, g2, g3, g4, g5⟩ := HG.out
        clear HG
        go_wp2_with fail
        go_loopw [5, 8] (fun n i wz => wz = wr ∧ ((i = .int .i64 0 ∧ n = .int .i64 0) ∨ (i = .int .i64 1 ∧ n = .int .i64 1) ∨ (i = .int .i64 2 ∧ n = .int .i64 1) ∨ (i = .int .i64 3 ∧ n = .int .i64 1))) (fun _ i _ => 3 - (intOf i).toNat)
        case atStart => exact ⟨rfl, .inl ⟨rfl, rfl⟩⟩
        case round =>
          obtain ⟨rfl, hrel⟩ := hrel
          rcases hrel with ⟨rfl, rfl⟩ | ⟨rfl, rfl⟩ | ⟨rfl, rfl⟩ | ⟨rfl, rfl⟩
          · go_wp2_with fail
            go_roundw
            case rel => first | exact ⟨rfl, .inr (.inl ⟨by go_num, by go_num⟩)⟩ | exact ⟨trivial, .inr (.inl ⟨by go_num, by go_num⟩)⟩ | (trace_state; simp)
            case measure => simp [intOf]
          · go_wp2_with fail
            go_roundw
            case rel => first | exact ⟨rfl, .inr (.inr (.inl ⟨by go_num, by go_num⟩))⟩ | exact ⟨trivial, .inr (.inr (.inl ⟨by go_num, by go_num⟩))⟩ | (trace_state; simp)
            case measure => simp [intOf]
          · go_wp2_with fail
            go_roundw
            case rel => first | exact ⟨rfl, .inr (.inr (.inr ⟨by go_num, by go_num⟩))⟩ | exact ⟨trivial, .inr (.inr (.inr ⟨by go_num, by go_num⟩))⟩ | (trace_state; simp)
            case measure => simp [intOf]
          · have y0 := cell_regrown g0
            have y2 := cell_regrown g2
            have y3 := cell_regrown g3
            have y4 := cell_regrown g4
            have y5 := cell_regrown g5
            have cK : ∀ d' os, Calls Tryd.prog 13 #[] (Sort.grow (redrawn wr d') os) fun e w'' => e = .returned (.bool true) ∧ ∃ p : Regrown, w'' = Sort.grow (redrawn wr p.d) p.os := fun d' os => Calls.regrown_of (qknows_any _ (HTab.out.below (HBr.out.trans ((below_regrown wr d' os).mono HBr.out.size))))
            clear g0 g2 g3 g4 g5
            go_wp2_with fail
            refine wp_region_quiet_below (by kernel_rfl) (by kernel_rfl) ?_
            repeat (quiet_step (first | with_reducible exact cK _ _))
            refine wpQuiet_nil ?_
            intro _ hw'
            obtain ⟨⟨dq, osq⟩, hw''⟩ := hw'
            subst hw''
            have HBq := Lib.hid (HBr.out.trans ((below_regrown wr dq osq).mono HBr.out.size))
            generalize Sort.grow (redrawn wr dq) osq = Wq at *
            go_wp2_with fail
            go_ret
            exact ⟨rfl, HBq.out⟩
      · obtain ⟨g0, g2, g3, g4, g5⟩ := HG.out
        clear HG
        go_wp2_with fail
        go_loopw [5, 8] (fun n i wz => wz = wr ∧ ((i = .int .i64 0 ∧ n = .int .i64 0) ∨ (i = .int .i64 1 ∧ n = .int .i64 0) ∨ (i = .int .i64 2 ∧ n = .int .i64 1) ∨ (i = .int .i64 3 ∧ n = .int .i64 1))) (fun _ i _ => 3 - (intOf i).toNat)
        case atStart => exact ⟨rfl, .inl ⟨rfl, rfl⟩⟩
        case round =>
          obtain ⟨rfl, hrel⟩ := hrel
          rcases hrel with ⟨rfl, rfl⟩ | ⟨rfl, rfl⟩ | ⟨rfl, rfl⟩ | ⟨rfl, rfl⟩
          · go_wp2_with fail
            go_roundw
            case rel => first | exact ⟨rfl, .inr (.inl ⟨by go_num, by go_num⟩)⟩ | exact ⟨trivial, .inr (.inl ⟨by go_num, by go_num⟩)⟩ | (trace_state; simp)
            case measure => simp [intOf]
          · go_wp2_with fail
            go_roundw
            case rel => first | exact ⟨rfl, .inr (.inr (.inl ⟨by go_num, by go_num⟩))⟩ | exact ⟨trivial, .inr (.inr (.inl ⟨by go_num, by go_num⟩))⟩ | (trace_state; simp)
            case measure => simp [intOf]
          · go_wp2_with fail
            go_roundw
            case rel => first | exact ⟨rfl, .inr (.inr (.inr ⟨by go_num, by go_num⟩))⟩ | exact ⟨trivial, .inr (.inr (.inr ⟨by go_num, by go_num⟩))⟩ | (trace_state; simp)
            case measure => simp [intOf]
          · have y0 := cell_regrown g0
            have y2 := cell_regrown g2
            have y3 := cell_regrown g3
            have y4 := cell_regrown g4
            have y5 := cell_regrown g5
            have cK : ∀ d' os, Calls Tryd.prog 13 #[] (Sort.grow (redrawn wr d') os) fun e w'' => e = .returned (.bool true) ∧ ∃ p : Regrown, w'' = Sort.grow (redrawn wr p.d) p.os := fun d' os => Calls.regrown_of (qknows_any _ (HTab.out.below (HBr.out.trans ((below_regrown wr d' os).mono HBr.out.size))))
            clear g0 g2 g3 g4 g5
            go_wp2_with fail
            refine wp_region_quiet_below (by kernel_rfl) (by kernel_rfl) ?_
            repeat (quiet_step (first | with_reducible exact cK _ _))
            refine wpQuiet_nil ?_
            intro _ hw'
            obtain ⟨⟨dq, osq⟩, hw''⟩ := hw'
            subst hw''
            have HBq := Lib.hid (HBr.out.trans ((below_regrown wr dq osq).mono HBr.out.size))
            generalize Sort.grow (redrawn wr dq) osq = Wq at *
            go_wp2_with fail
            go_ret
            exact ⟨rfl, HBq.out⟩
      · obtain ⟨g0, g2, g3, g4, g5⟩ := HG.out
        clear HG
        go_wp2_with fail
        go_loopw [5, 8] (fun n i wz => wz = wr ∧ ((i = .int .i64 0 ∧ n = .int .i64 0) ∨ (i = .int .i64 1 ∧ n = .int .i64 0) ∨ (i = .int .i64 2 ∧ n = .int .i64 0) ∨ (i = .int .i64 3 ∧ n = .int .i64 1))) (fun _ i _ => 3 - (intOf i).toNat)
        case atStart => exact ⟨rfl, .inl ⟨rfl, rfl⟩⟩
        case round =>
          obtain ⟨rfl, hrel⟩ := hrel
          rcases hrel with ⟨rfl, rfl⟩ | ⟨rfl, rfl⟩ | ⟨rfl, rfl⟩ | ⟨rfl, rfl⟩
          · go_wp2_with fail
            go_roundw
            case rel => first | exact ⟨rfl, .inr (.inl ⟨by go_num, by go_num⟩)⟩ | exact ⟨trivial, .inr (.inl ⟨by go_num, by go_num⟩)⟩ | (trace_state; simp)
            case measure => simp [intOf]
          · go_wp2_with fail
            go_roundw
            case rel => first | exact ⟨rfl, .inr (.inr (.inl ⟨by go_num, by go_num⟩))⟩ | exact ⟨trivial, .inr (.inr (.inl ⟨by go_num, by go_num⟩))⟩ | (trace_state; simp)
            case measure => simp [intOf]
          · go_wp2_with fail
            go_roundw
            case rel => first | exact ⟨rfl, .inr (.inr (.inr ⟨by go_num, by go_num⟩))⟩ | exact ⟨trivial, .inr (.inr (.inr ⟨by go_num, by go_num⟩))⟩ | (trace_state; simp)
            case measure => simp [intOf]
          · have y0 := cell_regrown g0
            have y2 := cell_regrown g2
            have y3 := cell_regrown g3
            have y4 := cell_regrown g4
            have y5 := cell_regrown g5
            have cK : ∀ d' os, Calls Tryd.prog 13 #[] (Sort.grow (redrawn wr d') os) fun e w'' => e = .returned (.bool true) ∧ ∃ p : Regrown, w'' = Sort.grow (redrawn wr p.d) p.os := fun d' os => Calls.regrown_of (qknows_any _ (HTab.out.below (HBr.out.trans ((below_regrown wr d' os).mono HBr.out.size))))
            clear g0 g2 g3 g4 g5
            go_wp2_with fail
            refine wp_region_quiet_below (by kernel_rfl) (by kernel_rfl) ?_
            repeat (quiet_step (first | with_reducible exact cK _ _))
            refine wpQuiet_nil ?_
            intro _ hw'
            obtain ⟨⟨dq, osq⟩, hw''⟩ := hw'
            subst hw''
            have HBq := Lib.hid (HBr.out.trans ((below_regrown wr dq osq).mono HBr.out.size))
            generalize Sort.grow (redrawn wr dq) osq = Wq at *
            go_wp2_with fail
            go_ret
            exact ⟨rfl, HBq.out⟩

set_option maxRecDepth 100000 in
/-- The row's contract, for every argument and every world. -/
theorem contract (H : Type) (enc : TypeId × Value → H) (W : World) (base : Nat) (args : Array Value) (ds gs : List (DataW H)) (before : List MemPlace)
    (hval : ∀ (j : Nat) t v, Tryd.f7.params[j]? = some t → args[j]? = some v → Value.okWide Tryd.prog W .any base t v)
    (hW : DataW.Whole enc Tryd.prog Tryd.f7.params.toList Rows.condOrdersSpec.vars false W args.toList ds gs before) (hL : laidMetH Tryd.prog Rows.condOrdersRow.laid W) :
    Calls Tryd.prog 7 args W fun e W' => ∃ v, e = .returned v ∧ Rows.condOrdersSpec.post enc Tryd.prog Tryd.f7 false true false false W args v W' := by
  have hW' := hW
  obtain ⟨p, q, hA0, hV, rfl, hfz, hnd⟩ := hW
  have hA : DataW.TrodAll enc Tryd.prog W 0 (fun _ => true) true Tryd.f7.params.toList args.toList ds p := hA0
  rw [Tryd.params7] at hA hval
  obtain ⟨v0, vs0, d0, ds0, p0, q0, hargs0, rfl, rfl, t0, r0⟩ := trodAll_cons hA
  obtain ⟨v1, vs1, d1, ds1, p1, q1, hargs1, rfl, rfl, t1, r1⟩ := trodAll_cons r0
  obtain ⟨rfl, rfl, rfl⟩ := trodAll_nil r1
  obtain rfl : args = #[v0, v1] := by cases args; simp_all
  obtain ⟨c, rfl, hd0⟩ := open_cond (hval 0 24 v0 rfl rfl) t0
  obtain ⟨d, rfl, hd1⟩ := open_data (hval 1 28 v1 rfl rfl) t1
  refine (walk c d W hd0 hd1 (qtab_of hL)).mono fun e W' ⟨he, hg⟩ => ?_
  subst he
  exact ⟨_, rfl, law_post (tb := 4) laidOut (fun t ht => by rw [Tryd.params7] at ht; revert t; exact of_decide_eq_true (by kernel_rfl)) (by kernel_rfl) Tryd.underlying4 rfl
    (fun ds h => by rw [Tryd.params7] at h; match ds, h with | [_, _], _ => rfl) hW' hg⟩

theorem laid_met (os : Os) : laidMet Tryd.prog Rows.condOrdersRow.laid ((laidWorldQ os).forCall (fun _ _ => 0) ⟨#[], #[.agg #[.int .i64 0, .int .i64 0, .int .u64 0, .int .u64 0], .agg #[.int .u32 0, .int .u32 0, .int .u64 0, .int .u64 0, .int .u64 0, .int .u64 0, .int .u64 0, .int .u64 0, .int .u64 0]], []⟩).memory :=
  laidMet_of_run' 8 (by kernel_rfl) (by kernel_rfl)
theorem reads (os : Os) {H : Type} (enc : TypeId × Value → H) : ∃ places, DataW.whole enc Tryd.prog ((laidWorldQ os).forCall (fun _ _ => 0) ⟨#[], #[.agg #[.int .i64 0, .int .i64 0, .int .u64 0, .int .u64 0], .agg #[.int .u32 0, .int .u32 0, .int .u64 0, .int .u64 0, .int .u64 0, .int .u64 0, .int .u64 0, .int .u64 0, .int .u64 0]], []⟩).memory Tryd.f7.params.toList Rows.condOrdersSpec.vars false #[Value.agg #[.int .i64 0, .int .i64 0, .int .u64 0, .int .u64 0], Value.agg #[.int .u32 0, .int .u32 0, .int .u64 0, .int .u64 0, .int .u64 0, .int .u64 0, .int .u64 0, .int .u64 0, .int .u64 0]].toList 8 = some ([.agg [.lit (.int .i64 0), .lit (.int .i64 0), .lit (.int .u64 0), .lit (.int .u64 0)], .agg [.lit (.int .u32 0), .lit (.int .u32 0), .lit (.int .u64 0), .agg [.lit (.int .u64 0), .lit (.int .u64 0), .lit (.int .u64 0), .lit (.int .u64 0), .lit (.int .u64 0), .lit (.int .u64 0)]]], [], places) :=
  ⟨[], by kernel_rfl⟩

set_option maxRecDepth 100000 in
theorem lifted (os : Os) (started : os.Started) (H : Type) (enc : TypeId × Value → H) (F : Stop.Interp) :
    ReturnsInHanded {} Tryd.checked os 7 .any ((OpenSpec.ofChange Rows.condOrdersSpec).preRow enc Tryd.prog Tryd.f7 Rows.condOrdersRow.domain false Rows.condOrdersRow.laid) (((OpenSpec.ofChange Rows.condOrdersSpec).at F).post enc Tryd.prog Tryd.f7 false true false false) := by
  obtain ⟨places, hx⟩ := reads os enc
  refine returnsInHanded_of_row (C := Tryd.checked) (s := OpenSpec.ofChange Rows.condOrdersSpec) own started (by kernel_rfl) Tryd.func7
    (witness_row_at (enc := enc) (C := Tryd.checked) false (laidWorldQ os) #[.agg #[.int .i64 0, .int .i64 0, .int .u64 0, .int .u64 0], .agg #[.int .u32 0, .int .u32 0, .int .u64 0, .int .u64 0, .int .u64 0, .int .u64 0, .int .u64 0, .int .u64 0, .int .u64 0]] rfl (by kernel_rfl) (by kernel_rfl) (by kernel_rfl)
      (OpenSpec.preRow_of_cond 8 hx (by kernel_rfl) (fun k hk => by cases hk) (by kernel_rfl) (laid_met os))) ?_
  intro W base args ds gs before hval hW _ _ _ hL _ _
  exact contract H enc W base args ds gs before hval hW hL

theorem said : Rows.CondOrdersSaid :=
  OpenClaim.holds_of_cond 7 Tryd.f7 rfl rfl rfl rfl rfl rfl rfl ⟨rfl, rfl, rfl, rfl, rfl⟩ rfl rfl rfl rfl rfl (by kernel_rfl) Tryd.func7 (by kernel_rfl)
    (of_decide_eq_true (by kernel_rfl)) (by unfold Func.isWrapper; first | (rw [if_pos (by decide +kernel)]; kernel_rfl) | (rw [if_neg (by decide +kernel)]; exact ⟨rfl, rfl⟩))
    (fun os started H enc _ F => by rw [OpenClaim.pre_eq_preRow]; exact lifted os started H enc F)

/-- No parameter wants a stand-in; the program's own looks are off. -/
theorem plain (f : FuncId) (fn : Func) (hf : Tryd.pinned.checked.prog.funcNamed "hurdle/hurdlelaw08.CondOrders" = some f) (hfn : Tryd.pinned.checked.prog.funcs[f]? = some fn) :
    false = Tryd.pinned.checked.prog.looks [] ∧ ∀ (j : Nat) t, fn.params[j]? = some t → Tryd.pinned.checked.prog.wantsStandIn t = false := by
  obtain rfl : f = 7 := Option.some.inj ((show Tryd.prog.funcNamed "hurdle/hurdlelaw08.CondOrders" = some 7 by kernel_rfl).symm.trans hf) |>.symm
  obtain rfl : fn = Tryd.f7 := (Option.some.inj (Tryd.func7.symm.trans hfn)).symm
  refine ⟨by kernel_rfl, fun j t ht => ?_⟩
  have hm := Array.mem_of_getElem? ht
  rw [Tryd.params7] at hm
  have all : ∀ t ∈ (#[24, 28] : Array TypeId).toList, Tryd.prog.wantsStandIn t = false := of_decide_eq_true (by kernel_rfl)
  exact all t (Array.mem_toList_iff.2 hm)

/-- The tied card. -/
theorem card : Rows.CondOrdersCardSaid :=
  Claim7.holds_tied_plain_at .later [] _ _ _ _ said (fun _ h => by cases h) (by kernel_rfl) (fun _ h => by cases h) condOrders_row_tie rfl ⟨rfl, rfl⟩ (by kernel_rfl) rfl plain (by kernel_rfl)
end Go.Proofs.YtlhpdjafhjfcoaaDoor.condOrders
