/-
  For every record and any bytes: the law DataBack returns true and changes nothing that was there.
-/
import Derived.Test.YtlklgifpdneolaaDFrame
import Derived.Test.YtlklgifpdneolaaDBytes
import Derived.Test.YtlklgifpdneolaaDFrom
import Derived.Test.YtlklgifpdneolaaDEq
import Derived.Lib.QuietBelow
import Derived.Deep.RegionHeld
import Derived.BigRegion
namespace Go.Proofs.Ytlklgifpdneolaa.dataBack
open Go.ChangeShapes Go.WideShapes Go.ChangeAt Go.RowKit

theorem zeroRec_ok : zeroRec.ok := by unfold Rec.ok zeroRec; decide
theorem recOf_ok (b : List UInt8) : (recOf b).ok := by
  unfold recOf
  split
  · exact fromB_ok b
  · exact zeroRec_ok
theorem recOf_bytes {d : Rec} (hd : d.ok) : recOf (bytesD d) = d := by
  unfold recOf
  rw [if_pos (bytesD_len d), from_bytes hd]
theorem rerr_bytes (d : Rec) : rerr (bytesD d) = 0 := by
  unfold rerr
  rw [bytesD_len]
  rfl
theorem rerr_not {b : List UInt8} (h : b.length ≠ 64) : rerr b ≠ 0 := by
  unfold rerr
  split
  · decide
  · split
    · decide
    · omega

set_option maxHeartbeats 8000000 in
theorem walk (d : Rec) (v1 : Value) (b : List UInt8) (w : World) (hd : d.ok) (hB : BAt w v1 b) :
    Calls Try.prog 5 #[d.val, v1] w fun e w' => e = .returned (.bool true) ∧ Below w.heap.size w w' := by
  obtain ⟨i0, hi, hz0, hz1, hz2⟩ := info_parts info8
  have HD := Lib.hid hd
  have HV := Lib.hid hB
  obtain ⟨ao, cap, rfl⟩ := hB.shape
  clear hd hB
  by_cases h200 : 200 < b.length
  · go_enter Try.func5, Try.ntmps5
    go_wp2_with fail
    refine (dknows_any _).mono ?_
    rintro e w1 ⟨rfl, hb1⟩
    go_wp2_with fail
    go_ret
    exact ⟨rfl, below2 (ba _ (Below.refl _ _)) hb1⟩
  have HX0 := Lib.hid (heap_alloc_new w (.cells d.cells 26))
  have HB0 := Lib.hid (ba (.cells d.cells 26) (Below.refl w.heap.size w))
  go_enter Try.func5, Try.ntmps5
  go_wp2_with fail
  refine (bytes_any d _ HD.out).mono ?_
  rintro e w15 ⟨u15, rfl, hU15, hb15⟩
  have HU15 := Lib.hid hU15
  have HX15 := Lib.hid (keep_block hb15 HX0.out)
  have HB15 := Lib.hid (below2 HB0.out hb15)
  clear hb15 hU15 HX0 HB0
  go_wp2_with fail
  refine (from_any u15 _ _ HU15.out).mono ?_
  rintro e w16 ⟨rfl, hb16⟩
  rw [recOf_bytes HD.out, rerr_bytes]
  have HX16 := Lib.hid (keep_block hb16 HX15.out)
  have HB16 := Lib.hid (below2 HB15.out hb16)
  clear hb16 HX15 HB15 HU15
  have HXW := Lib.hid (keep_block (ba (.cells d.cells 26) (Below.refl w16.heap.size w16)) HX16.out)
  have HZW := Lib.hid (heap_alloc_new w16 (.cells d.cells 26))
  have HBW := Lib.hid (ba (.cells d.cells 26) HB16.out)
  have HB0 := Lib.hid (ba (.cells #[] 5) HBW.out)
  have sW := HBW.out.size
  have HOe : Hid (((w16.alloc (.cells d.cells 26)).alloc (.cells #[] 5)).ownsRow w.heap.size 5 1 (.slice (some ⟨w16.heap.size + 1, 0, none⟩) 0 0) 0 []) := Lib.hid (by
    have h := own_empty (w16.alloc (.cells d.cells 26)) w.heap.size 5 1 sW
    rw [size_alloc] at h
    exact h)
  clear sW
  go_wp2_with (at_builtin; refine wpList_append_src _ rfl _ _ 27 rfl w.heap.size 5 i0 (.int .u8 0) 1 1 Try.underlying27 hi hz0 hz1 hz2 rfl (by decide) _ 0 [] rfl HOe.out _ b.length (bcells b) rfl ((HV.out.below HB0.out).src) (bcells_one _) (by unfold maxLen; omega) (by omega) HB0.out.size ?_)
  intro u22 w22 hO hg
  have HU22 : Hid (BAt w22 u22 b) := Lib.hid (BAt.own hO rfl)
  have HB22 := Lib.hid (grown_below HB0.out HOe.out hg HB0.out.size)
  have HX22 : Hid (w22.heap[w.heap.size]? = some (.cells d.cells 26)) := Lib.hid (by
    have hX1 := keep_block (ba (.cells #[] 5) (Below.refl _ _)) HXW.out
    have s0 := lt_of_block HX16.out
    rw [hg.block w.heap.size (lt_of_block hX1) (by simp [Value.ownBlock]; omega), hX1])
  have HZ22 : Hid (w22.heap[w16.heap.size]? = some (.cells d.cells 26)) := Lib.hid (by
    have hX1 := keep_block (ba (.cells #[] 5) (Below.refl _ _)) HZW.out
    rw [hg.block w16.heap.size (lt_of_block hX1) (by simp [Value.ownBlock]), hX1])
  clear hO hg HB0 HOe HXW HZW HBW HX16 HB16
  go_wp2_with fail
  refine (from_any u22 b _ HU22.out).mono ?_
  rintro e wf ⟨rfl, hbf⟩
  have HBf := Lib.hid (below2 HB22.out hbf)
  have HXf := Lib.hid (keep_block hbf HX22.out)
  have HZf := Lib.hid (keep_block hbf HZ22.out)
  have HR := Lib.hid (recOf_ok b)
  clear hbf HX22 HZ22 HB22 HU22
  obtain ⟨r, hr⟩ : ∃ r, r = recOf b := ⟨_, rfl⟩
  rw [← hr] at HR ⊢
  have HRE := Lib.hid hr
  clear hr
  obtain ⟨er, her⟩ : ∃ er, er = rerr b := ⟨_, rfl⟩
  rw [← her]
  have HER := Lib.hid her
  clear her
  have hq := eq_same d HD.out
  have hq2 := eqIn_same d HD.out
  by_cases h64 : b.length = 64
  · have hr0 : r = fromB b := by rw [HRE.out]; exact if_pos h64
    have he0 : er = 0 := by rw [HER.out]; unfold rerr; rw [if_neg (by omega), if_neg (by omega)]
    have HRY : Hid (bytesD r = b) := Lib.hid (by rw [hr0]; exact bytes_from h64)
    subst he0
    clear hr0 h64 HRE HER
    go_wp2_with fail
    obtain ⟨W, hW⟩ : ∃ W, W = wf.alloc (.cells r.cells 26) := ⟨_, rfl⟩
    have HXg : Hid (W.heap[w.heap.size]? = some (.cells d.cells 26)) := Lib.hid (by rw [hW]; exact keep_block (ba _ (Below.refl _ _)) HXf.out)
    have HZg : Hid (W.heap[w16.heap.size]? = some (.cells d.cells 26)) := Lib.hid (by rw [hW]; exact keep_block (ba _ (Below.refl _ _)) HZf.out)
    have HRg : Hid (W.heap[wf.heap.size]? = some (.cells r.cells 26)) := Lib.hid (by rw [hW]; exact heap_alloc_new _ _)
    have HBg : Hid (Below w.heap.size w W) := Lib.hid (by rw [hW]; exact ba _ HBf.out)
    rw [← hW]
    clear hW HXf HZf HBf
    obtain ⟨x0, x1, x2, x3, x4, x5, x6, x7, x8⟩ := rec_cells HXg.out
    obtain ⟨y0, y1, y2, y3, y4, y5, y6, y7, y8⟩ := rec_cells HZg.out
    obtain ⟨z0, z1, z2, z3, z4, z5, z6, z7, z8⟩ := rec_cells HRg.out
    have cV : (convert 27 9 (.slice ao b.length cap)).run Try.prog W.drew = .ok (.string ⟨b.toArray⟩) W.drew := (show BAt W.drew _ b from HV.out.below HBg.out.drew).conv
    go_region_held (fun w' => (convert 27 9 (.slice ao b.length cap)).run Try.prog w' = .ok (.string ⟨b.toArray⟩) w' ∧ (w'.cell? ⟨w.heap.size, 0, none⟩ = some (.int .u32 d.nr) ∧ w'.cell? ⟨w.heap.size, 1, none⟩ = some (.int .u32 d.arch) ∧ w'.cell? ⟨w.heap.size, 2, none⟩ = some (.int .u64 d.ip) ∧ w'.cell? ⟨w.heap.size, 3, none⟩ = some (.int .u64 d.a0) ∧ w'.cell? ⟨w.heap.size, 4, none⟩ = some (.int .u64 d.a1) ∧ w'.cell? ⟨w.heap.size, 5, none⟩ = some (.int .u64 d.a2) ∧ w'.cell? ⟨w.heap.size, 6, none⟩ = some (.int .u64 d.a3) ∧ w'.cell? ⟨w.heap.size, 7, none⟩ = some (.int .u64 d.a4) ∧ w'.cell? ⟨w.heap.size, 8, none⟩ = some (.int .u64 d.a5)) ∧ (w'.cell? ⟨w16.heap.size, 0, none⟩ = some (.int .u32 d.nr) ∧ w'.cell? ⟨w16.heap.size, 1, none⟩ = some (.int .u32 d.arch) ∧ w'.cell? ⟨w16.heap.size, 2, none⟩ = some (.int .u64 d.ip) ∧ w'.cell? ⟨w16.heap.size, 3, none⟩ = some (.int .u64 d.a0) ∧ w'.cell? ⟨w16.heap.size, 4, none⟩ = some (.int .u64 d.a1) ∧ w'.cell? ⟨w16.heap.size, 5, none⟩ = some (.int .u64 d.a2) ∧ w'.cell? ⟨w16.heap.size, 6, none⟩ = some (.int .u64 d.a3) ∧ w'.cell? ⟨w16.heap.size, 7, none⟩ = some (.int .u64 d.a4) ∧ w'.cell? ⟨w16.heap.size, 8, none⟩ = some (.int .u64 d.a5)) ∧ (w'.cell? ⟨wf.heap.size, 0, none⟩ = some (.int .u32 r.nr) ∧ w'.cell? ⟨wf.heap.size, 1, none⟩ = some (.int .u32 r.arch) ∧ w'.cell? ⟨wf.heap.size, 2, none⟩ = some (.int .u64 r.ip) ∧ w'.cell? ⟨wf.heap.size, 3, none⟩ = some (.int .u64 r.a0) ∧ w'.cell? ⟨wf.heap.size, 4, none⟩ = some (.int .u64 r.a1) ∧ w'.cell? ⟨wf.heap.size, 5, none⟩ = some (.int .u64 r.a2) ∧ w'.cell? ⟨wf.heap.size, 6, none⟩ = some (.int .u64 r.a3) ∧ w'.cell? ⟨wf.heap.size, 7, none⟩ = some (.int .u64 r.a4) ∧ w'.cell? ⟨wf.heap.size, 8, none⟩ = some (.int .u64 r.a5))) (first | exact ⟨cV, ⟨x0, x1, x2, x3, x4, x5, x6, x7, x8⟩, ⟨y0, y1, y2, y3, y4, y5, y6, y7, y8⟩, ⟨z0, z1, z2, z3, z4, z5, z6, z7, z8⟩⟩ | exact ⟨cV9, rec_cells HX9.out, rec_cells HZ9.out, rec_cells HR9.out⟩ | exact ⟨cV8, rec_cells HX8.out, rec_cells HZ8.out, rec_cells HR8.out⟩ | go_keep)
      (first
        | (go_at_call 10; refine (bytes_any r _ HR.out).mono ?_; rintro e w8 ⟨u8, rfl, hU8, hb8⟩; rw [HRY.out] at hU8; have c8 := hU8.conv; have HX8 := Lib.hid (keep_block hb8 (show W.drew.heap[w.heap.size]? = some (.cells d.cells 26) from HXg.out)); have HZ8 := Lib.hid (keep_block hb8 (show W.drew.heap[w16.heap.size]? = some (.cells d.cells 26) from HZg.out)); have HR8 := Lib.hid (keep_block hb8 (show W.drew.heap[wf.heap.size]? = some (.cells r.cells 26) from HRg.out)); have HB8 := Lib.hid (below2 (bdN HBg.out 1) hb8); have cV8 := (HV.out.below HB8.out).conv; clear hb8)
        | (go_at_call 8; refine (dknows_any _).mono ?_; rintro e w9 ⟨rfl, hb9⟩; have HX9 := Lib.hid (keep_block hb9 HX8.out); have HZ9 := Lib.hid (keep_block hb9 HZ8.out); have HR9 := Lib.hid (keep_block hb9 HR8.out); have HB9 := Lib.hid (below2 HB8.out hb9); have cV9 := (HV.out.below HB9.out).conv; clear hb9))
    all_goals
      go_wp2_with fail
      go_ret
      exact ⟨rfl, HB9.out⟩
  · have hf := rerr_not h64
    rw [← HER.out] at hf
    have hfb : (er != 0) = true := by simpa using hf
    clear hf HRE HER
    obtain ⟨W, hW⟩ : ∃ W, W = wf.alloc (.cells r.cells 26) := ⟨_, rfl⟩
    have HXg : Hid (W.heap[w.heap.size]? = some (.cells d.cells 26)) := Lib.hid (by rw [hW]; exact keep_block (ba _ (Below.refl _ _)) HXf.out)
    have HZg : Hid (W.heap[w16.heap.size]? = some (.cells d.cells 26)) := Lib.hid (by rw [hW]; exact keep_block (ba _ (Below.refl _ _)) HZf.out)
    have HBg : Hid (Below w.heap.size w W) := Lib.hid (by rw [hW]; exact ba _ HBf.out)
    go_wp2_with fail
    rw [← hW]
    clear hW HXf HZf HBf
    have x0 := cell_regrown (cell_in HXg.out 0)
    have x1 := cell_regrown (cell_in HXg.out 1)
    have x2 := cell_regrown (cell_in HXg.out 2)
    have x3 := cell_regrown (cell_in HXg.out 3)
    have x4 := cell_regrown (cell_in HXg.out 4)
    have x5 := cell_regrown (cell_in HXg.out 5)
    have x6 := cell_regrown (cell_in HXg.out 6)
    have x7 := cell_regrown (cell_in HXg.out 7)
    have x8 := cell_regrown (cell_in HXg.out 8)
    have y0 := cell_regrown (cell_in HZg.out 0)
    have y1 := cell_regrown (cell_in HZg.out 1)
    have y2 := cell_regrown (cell_in HZg.out 2)
    have y3 := cell_regrown (cell_in HZg.out 3)
    have y4 := cell_regrown (cell_in HZg.out 4)
    have y5 := cell_regrown (cell_in HZg.out 5)
    have y6 := cell_regrown (cell_in HZg.out 6)
    have y7 := cell_regrown (cell_in HZg.out 7)
    have y8 := cell_regrown (cell_in HZg.out 8)
    have cE : ∀ d' os, Calls Try.prog 8 #[] (Sort.grow (redrawn W d') os) fun e w'' => e = .returned (.bool true) ∧ ∃ p : Regrown, w'' = Sort.grow (redrawn W p.d) p.os := fun d' os => Calls.regrown_of (dknows_any _)
    refine wp_region_quiet_below (by kernel_rfl) (by kernel_rfl) ?_
    repeat (quiet_step (first | exact cE _ _))
    refine wpQuiet_nil ?_
    intro _ hw'
    obtain ⟨⟨dq, osq⟩, hw''⟩ := hw'
    subst hw''
    have hbq := below_regrown W dq osq
    generalize Sort.grow (redrawn W dq) osq = Wq at *
    go_wp2_with fail
    go_ret
    exact ⟨rfl, HBg.out.trans (hbq.mono HBg.out.size)⟩

set_option maxRecDepth 100000 in
/-- The row's contract, for every argument and every world. -/
theorem contract (H : Type) (enc : TypeId × Value → H) (W : World) (base : Nat) (args : Array Value) (ds gs : List (DataW H)) (before : List MemPlace)
    (hval : ∀ (j : Nat) t v, Try.f5.params[j]? = some t → args[j]? = some v → Value.okWide Try.prog W .any base t v)
    (hW : DataW.Whole enc Try.prog Try.f5.params.toList Rows.dataBackSpec.vars false W args.toList ds gs before) (hL : laidMetH Try.prog Rows.dataBackRow.laid W) :
    Calls Try.prog 5 args W fun e W' => ∃ v, e = .returned v ∧ Rows.dataBackSpec.post enc Try.prog Try.f5 false true false false W args v W' := by
  have hW' := hW
  obtain ⟨p, q, hA0, hV, rfl, hfz, hnd⟩ := hW
  have hA : DataW.TrodAll enc Try.prog W 0 (fun _ => true) true Try.f5.params.toList args.toList ds p := hA0
  rw [Try.params5] at hA hval
  obtain ⟨v0, vs0, d0, ds0, p0, q0, hargs0, rfl, rfl, t0, r0⟩ := trodAll_cons hA
  obtain ⟨v1, vs1, d1, ds1, p1, q1, hargs1, rfl, rfl, t1, r1⟩ := trodAll_cons r0
  obtain ⟨rfl, rfl, rfl⟩ := trodAll_nil r1
  obtain rfl : args = #[v0, v1] := by cases args; simp_all
  obtain ⟨d, rfl, hd0⟩ := open_data (hval 0 26 v0 rfl rfl) t0
  obtain ⟨b, hF1⟩ := open_byteArg (hval 1 27 v1 rfl rfl) t1
  refine (walk d v1 b W hd0 hF1).mono fun e W' ⟨he, hg⟩ => ?_
  subst he
  exact ⟨_, rfl, law_post (tb := 4) laidOut (fun t ht => by rw [Try.params5] at ht; revert t; exact of_decide_eq_true (by kernel_rfl)) (by kernel_rfl) Try.underlying4 rfl
    (fun ds h => by rw [Try.params5] at h; match ds, h with | [_, _], _ => rfl) hW' hg⟩

theorem laid_met (os : Os) : laidMet Try.prog Rows.dataBackRow.laid ((laidWorld os).forCall (fun _ _ => 0) ⟨#[], #[.agg #[.int .u32 0, .int .u32 0, .int .u64 0, .int .u64 0, .int .u64 0, .int .u64 0, .int .u64 0, .int .u64 0, .int .u64 0], .slice none 0 0], []⟩).memory :=
  laidMet_nil _ _
theorem reads (os : Os) {H : Type} (enc : TypeId × Value → H) : ∃ places, DataW.whole enc Try.prog ((laidWorld os).forCall (fun _ _ => 0) ⟨#[], #[.agg #[.int .u32 0, .int .u32 0, .int .u64 0, .int .u64 0, .int .u64 0, .int .u64 0, .int .u64 0, .int .u64 0, .int .u64 0], .slice none 0 0], []⟩).memory Try.f5.params.toList Rows.dataBackSpec.vars false #[Value.agg #[.int .u32 0, .int .u32 0, .int .u64 0, .int .u64 0, .int .u64 0, .int .u64 0, .int .u64 0, .int .u64 0, .int .u64 0], Value.slice none 0 0].toList 8 = some ([.agg [.lit (.int .u32 0), .lit (.int .u32 0), .lit (.int .u64 0), .agg [.lit (.int .u64 0), .lit (.int .u64 0), .lit (.int .u64 0), .lit (.int .u64 0), .lit (.int .u64 0), .lit (.int .u64 0)]], .nil], [], places) :=
  ⟨[], by kernel_rfl⟩

set_option maxRecDepth 100000 in
theorem lifted (os : Os) (started : os.Started) (H : Type) (enc : TypeId × Value → H) (F : Stop.Interp) :
    ReturnsInHanded {} Try.checked os 5 .any ((OpenSpec.ofChange Rows.dataBackSpec).preRow enc Try.prog Try.f5 Rows.dataBackRow.domain false Rows.dataBackRow.laid) (((OpenSpec.ofChange Rows.dataBackSpec).at F).post enc Try.prog Try.f5 false true false false) := by
  obtain ⟨places, hx⟩ := reads os enc
  refine returnsInHanded_of_row (C := Try.checked) (s := OpenSpec.ofChange Rows.dataBackSpec) own started (by kernel_rfl) Try.func5
    (witness_row_at (enc := enc) (C := Try.checked) false (laidWorld os) #[.agg #[.int .u32 0, .int .u32 0, .int .u64 0, .int .u64 0, .int .u64 0, .int .u64 0, .int .u64 0, .int .u64 0, .int .u64 0], .slice none 0 0] rfl (by kernel_rfl) (by kernel_rfl) (by kernel_rfl)
      (OpenSpec.preRow_of_cond 8 hx (by kernel_rfl) (fun k hk => by cases hk) (by kernel_rfl) (laid_met os))) ?_
  intro W base args ds gs before hval hW _ _ _ hL _ _
  exact contract H enc W base args ds gs before hval hW hL

theorem said : Rows.DataBackSaid :=
  OpenClaim.holds_of_cond 5 Try.f5 rfl rfl rfl rfl rfl rfl rfl ⟨rfl, rfl, rfl, rfl, rfl⟩ rfl rfl rfl rfl rfl (by kernel_rfl) Try.func5 (by kernel_rfl)
    (of_decide_eq_true (by kernel_rfl)) (by unfold Func.isWrapper; first | (rw [if_pos (by decide +kernel)]; kernel_rfl) | (rw [if_neg (by decide +kernel)]; exact ⟨rfl, rfl⟩))
    (fun os started H enc _ F => by rw [OpenClaim.pre_eq_preRow]; exact lifted os started H enc F)

end Go.Proofs.Ytlklgifpdneolaa.dataBack
