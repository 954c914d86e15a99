/-
  For every record and any bytes: the law DataBytes returns true and changes nothing that was there.
-/
import Derived.Test.YtlklgifpdneolaaDFrame
import Derived.Test.YtlklgifpdneolaaDBytes
import Derived.Test.YtlklgifpdneolaaDFrom
import Derived.Test.YtlklgifpdneolaaDRBytes
import Derived.Test.YtlklgifpdneolaaDRFrom
import Derived.Test.YtlklgifpdneolaaDRWith
import Derived.Test.YtlklgifpdneolaaDEq
import Derived.Lib.QuietBelow
import Derived.Deep.RegionWith
import Derived.BigRegion
import Derived.Deep.CutRange
namespace Go.Proofs.Ytlklgifpdneolaa.dataBytes
open Go.ChangeShapes Go.WideShapes Go.ChangeAt Go.RowKit

theorem zeroRec_ok : zeroRec.ok := by unfold Rec.ok zeroRec; decide
theorem recOf_ok (b : List UInt8) : (recOf b).ok := by
  unfold recOf
  split
  · exact fromB_ok b
  · exact zeroRec_ok
/-- Behind the call of From: the box of the record that was read, and the bytes of d compared. -/
theorem src_any {w : World} {v : Value} {b : List UInt8} (h : BAt w v b) : SrcAt w 1 v b.length (bcells b) := h.src

set_option maxHeartbeats 8000000 in
theorem walk (d : Rec) (v1 : Value) (b : List UInt8) (w : World) (hd : d.ok) (hB : BAt w v1 b) :
    Calls Try.prog 3 #[d.val, v1] w fun e w' => e = .returned (.bool true) ∧ Below w.heap.size w w' := by
  obtain ⟨i0, hi, hz0, hz1, hz2⟩ := info_parts info8
  have HD := Lib.hid hd
  have HV := Lib.hid hB
  obtain ⟨ao, cap, rfl⟩ := hB.shape
  clear hd hB
  by_cases h200 : 200 < b.length
  · go_enter Try.func3, Try.ntmps3
    go_wp2_with fail
    refine (dknows_any _).mono ?_
    rintro e w1 ⟨rfl, hb1⟩
    go_wp2_with fail
    go_ret
    exact ⟨rfl, below2 (ba _ (Below.refl _ _)) hb1⟩
  go_enter Try.func3, Try.ntmps3
  have HB0 := Lib.hid (ba (.cells #[] 5) (ba (.cells d.cells 26) (Below.refl w.heap.size w)))
  have HOe : Hid (((w.alloc (.cells d.cells 26)).alloc (.cells #[] 5)).ownsRow w.heap.size 5 1 (.slice (some ⟨w.heap.size + 1, 0, none⟩) 0 0) 0 []) := Lib.hid (by
    have h := own_empty (w.alloc (.cells d.cells 26)) w.heap.size 5 1 (by rw [size_alloc]; omega)
    rw [size_alloc] at h
    exact h)
  go_wp2_with (at_builtin; refine wpList_append_src _ rfl _ _ 27 rfl w.heap.size 5 i0 (.int .u8 0) 1 1 Try.underlying27 hi hz0 hz1 hz2 rfl (by decide) _ 0 [] rfl HOe.out _ b.length (bcells b) rfl ((HV.out.below HB0.out).src) (bcells_one _) (by unfold maxLen; omega) (by omega) HB0.out.size ?_)
  intro u14 w14 hO hg
  have HU14 : Hid (BAt w14 u14 b) := Lib.hid (BAt.own hO rfl)
  have HB14 := Lib.hid (grown_below HB0.out HOe.out hg HB0.out.size)
  have HX14 : Hid (w14.heap[w.heap.size]? = some (.cells d.cells 26)) := Lib.hid (by
    have hX0 := heap_alloc_new w (.cells d.cells 26)
    have hX1 := (Below.heap_alloc _ (.cells #[] 5) _ (lt_of_block hX0)).trans hX0
    rw [hg.block w.heap.size (lt_of_block hX1) (by simp [Value.ownBlock]), hX1])
  clear hO hg HB0 HOe
  go_wp2_with fail
  refine (from_any u14 b _ HU14.out).mono ?_
  rintro e wf ⟨rfl, hbf⟩
  have HBf := Lib.hid (below2 HB14.out hbf)
  have HXf := Lib.hid (keep_block hbf HX14.out)
  have HR := Lib.hid (recOf_ok b)
  clear hbf HX14 HB14 HU14
  obtain ⟨r, hr⟩ : ∃ r, r = recOf b := ⟨_, rfl⟩
  rw [← hr] at HR ⊢
  have HRE := Lib.hid hr
  clear hr
  have HRb := Lib.hid (heap_alloc_new wf (.cells r.cells 26))
  have HXg := Lib.hid (keep_block (ba (.cells r.cells 26) (Below.refl wf.heap.size wf)) HXf.out)
  have HBg := Lib.hid (below2 HBf.out (ba (.cells r.cells 26) (Below.refl wf.heap.size wf)))
  obtain ⟨er, her⟩ : ∃ er, er = rerr b := ⟨_, rfl⟩
  rw [← her]
  have HER := Lib.hid her
  clear her
  go_wp2_with fail
  obtain ⟨W, hW⟩ : ∃ W, W = wf.alloc (.cells r.cells 26) := ⟨_, rfl⟩
  rw [← hW] at HRb HXg HBg ⊢
  have sX := lt_of_block HXg.out
  have sR := lt_of_block HRb.out
  obtain ⟨x0, x1, x2, x3, x4, x5, x6, x7, x8⟩ := rec_cells HXg.out
  clear hW
  go_cut [24] from 18 to 24 (fun c wx => c = .bool false ∧ wx.heap[wf.heap.size]? = some (.cells r.cells 26) ∧ Below w.heap.size w wx)
  case first =>
    go_region_with (first
      | (go_at_call 10; refine (bytes_any d _ HD.out).mono ?_; rintro e w19 ⟨u19, rfl, hU19, hb19⟩; have c19 := hU19.conv; have HX19 := Lib.hid (keep_block hb19 (show W.drew.heap[w.heap.size]? = some (.cells d.cells 26) from HXg.out)); have HR19 := Lib.hid (keep_block hb19 (show W.drew.heap[wf.heap.size]? = some (.cells r.cells 26) from HRb.out)); have HB19 := Lib.hid (below2 (bdN HBg.out 1) hb19); obtain ⟨y0, y1, y2, y3, y4, y5, y6, y7, y8⟩ := rec_cells HX19.out; clear hb19)
      | (go_at_call 11; refine (rbytes_any d _ HD.out).mono ?_; rintro e w22 ⟨u22, rfl, hO22, hb22⟩; have c22 := (BAt.own hO22 (bytesD_len d).symm).conv; have c19' := (hU19.below hb22).conv; have HR22 := Lib.hid (keep_block hb22 HR19.out); have HB22 := Lib.hid (below2 HB19.out hb22); clear hb22 hO22))
    all_goals
      go_wp2_with fail
      go_meet
      case rel => exact ⟨rfl, HR22.out, HB22.out⟩
  case rest =>
    obtain ⟨rfl, hR22, hB22⟩ := hcut
    have HR22 := Lib.hid hR22
    have HB22 := Lib.hid hB22
    clear hR22 hB22 x0 x1 x2 x3 x4 x5 x6 x7 x8 HXg HRb HBg HBf HXf
    by_cases h1 : b.length < 64
    · skip
      have hr0 : r = zeroRec := by rw [HRE.out]; exact if_neg (by omega)
      have he0 : er = 9 := by rw [HER.out]; unfold rerr; exact if_pos h1
      have HRq : Hid (wc.heap[wf.heap.size]? = some (.cells z9 26)) := Lib.hid (by rw [HR22.out, hr0]; rfl)
      have hq : ∀ W, (binOp .eql 26 (.agg #[.int .u32 0, .int .u32 0, .int .u64 0, .int .u64 0, .int .u64 0, .int .u64 0, .int .u64 0, .int .u64 0, .int .u64 0]) (.agg #[.int .u32 0, .int .u32 0, .int .u64 0, .int .u64 0, .int .u64 0, .int .u64 0, .int .u64 0, .int .u64 0, .int .u64 0])).run Try.prog W = .ok (.bool true) W := eq_same zeroRec zeroRec_ok
      have hq2 : ∀ W, (Op.equalIn 10000 26 (.agg #[.int .u32 0, .int .u32 0, .int .u64 0, .int .u64 0, .int .u64 0, .int .u64 0, .int .u64 0, .int .u64 0, .int .u64 0]) (.agg #[.int .u32 0, .int .u32 0, .int .u64 0, .int .u64 0, .int .u64 0, .int .u64 0, .int .u64 0, .int .u64 0, .int .u64 0])).run Try.prog W = .ok true W := eqIn_same zeroRec zeroRec_ok
      subst hr0 he0
      obtain ⟨r0, r1, r2, r3, r4, r5, r6, r7, r8, _⟩ := z9_cells HRq.out
      go_wp2_with fail
      refine (dknows_any _).mono ?_
      rintro e wz ⟨rfl, hbz⟩
      go_wp2_with fail
      go_ret
      exact ⟨rfl, below2 HB22.out hbz⟩
    by_cases h2 : 64 < b.length
    · skip
      have hr0 : r = zeroRec := by rw [HRE.out]; exact if_neg (by omega)
      have he0 : er = 3 := by rw [HER.out]; unfold rerr; rw [if_neg h1, if_pos h2]
      have HRq : Hid (wc.heap[wf.heap.size]? = some (.cells z9 26)) := Lib.hid (by rw [HR22.out, hr0]; rfl)
      have hq : ∀ W, (binOp .eql 26 (.agg #[.int .u32 0, .int .u32 0, .int .u64 0, .int .u64 0, .int .u64 0, .int .u64 0, .int .u64 0, .int .u64 0, .int .u64 0]) (.agg #[.int .u32 0, .int .u32 0, .int .u64 0, .int .u64 0, .int .u64 0, .int .u64 0, .int .u64 0, .int .u64 0, .int .u64 0])).run Try.prog W = .ok (.bool true) W := eq_same zeroRec zeroRec_ok
      have hq2 : ∀ W, (Op.equalIn 10000 26 (.agg #[.int .u32 0, .int .u32 0, .int .u64 0, .int .u64 0, .int .u64 0, .int .u64 0, .int .u64 0, .int .u64 0, .int .u64 0]) (.agg #[.int .u32 0, .int .u32 0, .int .u64 0, .int .u64 0, .int .u64 0, .int .u64 0, .int .u64 0, .int .u64 0, .int .u64 0])).run Try.prog W = .ok true W := eqIn_same zeroRec zeroRec_ok
      subst hr0 he0
      obtain ⟨r0, r1, r2, r3, r4, r5, r6, r7, r8, _⟩ := z9_cells HRq.out
      go_wp2_with fail
      refine (dknows_any _).mono ?_
      rintro e wz ⟨rfl, hbz⟩
      go_wp2_with fail
      go_ret
      exact ⟨rfl, below2 HB22.out hbz⟩
    have h64 : b.length = 64 := by omega
    have hr0 : r = fromB b := by rw [HRE.out]; exact if_pos h64
    have he0 : er = 0 := by rw [HER.out]; unfold rerr; rw [if_neg h1, if_neg h2]
    have HVq := Lib.hid (HV.out.below HB22.out)
    have HFr : Hid (∀ W, Below wc.heap.size wc W → Calls Try.prog 12 #[.slice ao b.length cap] W fun e w' => e = .returned r.val ∧ Below W.heap.size W w') := Lib.hid fun W hW => by
      have h := rfrom_any _ b W (HVq.out.below hW) h64
      rw [← hr0] at h
      exact h
    have hq := eq_same r HR.out
    have hq2 := eqIn_same r HR.out
    have y0 := cell_regrown (cell_in HR22.out 0)
    have y1 := cell_regrown (cell_in HR22.out 1)
    have y2 := cell_regrown (cell_in HR22.out 2)
    have y3 := cell_regrown (cell_in HR22.out 3)
    have y4 := cell_regrown (cell_in HR22.out 4)
    have y5 := cell_regrown (cell_in HR22.out 5)
    have y6 := cell_regrown (cell_in HR22.out 6)
    have y7 := cell_regrown (cell_in HR22.out 7)
    have y8 := cell_regrown (cell_in HR22.out 8)
    have cA : ∀ d' os, Calls Try.prog 12 #[.slice ao b.length cap] (Sort.grow (redrawn wc d') os) fun e w'' => e = .returned r.val ∧ ∃ p : Regrown, w'' = Sort.grow (redrawn wc p.d) p.os := fun d' os => Calls.regrown_of (HFr.out _ (below_regrown wc d' os))
    have cE : ∀ d' os, Calls Try.prog 8 #[] (Sort.grow (redrawn wc d') os) fun e w'' => e = .returned (.bool true) ∧ ∃ p : Regrown, w'' = Sort.grow (redrawn wc p.d) p.os := fun d' os => Calls.regrown_of (dknows_any _)
    subst he0
    clear hr0 h64 HVq HFr
    go_wp2_with fail
    refine wp_region_quiet_below (by kernel_rfl) (by kernel_rfl) ?_
    repeat (quiet_step (first | exact cA _ _ | exact cE _ _))
    refine wpQuiet_nil ?_
    intro _ hw'
    obtain ⟨⟨dq, osq⟩, hw''⟩ := hw'
    subst hw''
    have hbq := below_regrown wc dq osq
    generalize Sort.grow (redrawn wc dq) osq = Wq at *
    go_wp2_with fail
    go_ret
    exact ⟨rfl, HB22.out.trans (hbq.mono HB22.out.size)⟩

set_option maxRecDepth 100000 in
/-- The row's contract, for every argument and every world. -/
theorem contract (H : Type) (enc : TypeId × Value → H) (W : World) (base : Nat) (args : Array Value) (ds gs : List (DataW H)) (before : List MemPlace)
    (hval : ∀ (j : Nat) t v, Try.f3.params[j]? = some t → args[j]? = some v → Value.okWide Try.prog W .any base t v)
    (hW : DataW.Whole enc Try.prog Try.f3.params.toList Rows.dataBytesSpec.vars false W args.toList ds gs before) (hL : laidMetH Try.prog Rows.dataBytesRow.laid W) :
    Calls Try.prog 3 args W fun e W' => ∃ v, e = .returned v ∧ Rows.dataBytesSpec.post enc Try.prog Try.f3 false true false false W args v W' := by
  have hW' := hW
  obtain ⟨p, q, hA0, hV, rfl, hfz, hnd⟩ := hW
  have hA : DataW.TrodAll enc Try.prog W 0 (fun _ => true) true Try.f3.params.toList args.toList ds p := hA0
  rw [Try.params3] at hA hval
  obtain ⟨v0, vs0, d0, ds0, p0, q0, hargs0, rfl, rfl, t0, r0⟩ := trodAll_cons hA
  obtain ⟨v1, vs1, d1, ds1, p1, q1, hargs1, rfl, rfl, t1, r1⟩ := trodAll_cons r0
  obtain ⟨rfl, rfl, rfl⟩ := trodAll_nil r1
  obtain rfl : args = #[v0, v1] := by cases args; simp_all
  obtain ⟨d, rfl, hd0⟩ := open_data (hval 0 26 v0 rfl rfl) t0
  obtain ⟨b, hF1⟩ := open_byteArg (hval 1 27 v1 rfl rfl) t1
  refine (walk d v1 b W hd0 hF1).mono fun e W' ⟨he, hg⟩ => ?_
  subst he
  exact ⟨_, rfl, law_post (tb := 4) laidOut (fun t ht => by rw [Try.params3] at ht; revert t; exact of_decide_eq_true (by kernel_rfl)) (by kernel_rfl) Try.underlying4 rfl
    (fun ds h => by rw [Try.params3] at h; match ds, h with | [_, _], _ => rfl) hW' hg⟩

theorem laid_met (os : Os) : laidMet Try.prog Rows.dataBytesRow.laid ((laidWorld os).forCall (fun _ _ => 0) ⟨#[], #[.agg #[.int .u32 0, .int .u32 0, .int .u64 0, .int .u64 0, .int .u64 0, .int .u64 0, .int .u64 0, .int .u64 0, .int .u64 0], .slice none 0 0], []⟩).memory :=
  laidMet_nil _ _
theorem reads (os : Os) {H : Type} (enc : TypeId × Value → H) : ∃ places, DataW.whole enc Try.prog ((laidWorld os).forCall (fun _ _ => 0) ⟨#[], #[.agg #[.int .u32 0, .int .u32 0, .int .u64 0, .int .u64 0, .int .u64 0, .int .u64 0, .int .u64 0, .int .u64 0, .int .u64 0], .slice none 0 0], []⟩).memory Try.f3.params.toList Rows.dataBytesSpec.vars false #[Value.agg #[.int .u32 0, .int .u32 0, .int .u64 0, .int .u64 0, .int .u64 0, .int .u64 0, .int .u64 0, .int .u64 0, .int .u64 0], Value.slice none 0 0].toList 8 = some ([.agg [.lit (.int .u32 0), .lit (.int .u32 0), .lit (.int .u64 0), .agg [.lit (.int .u64 0), .lit (.int .u64 0), .lit (.int .u64 0), .lit (.int .u64 0), .lit (.int .u64 0), .lit (.int .u64 0)]], .nil], [], places) :=
  ⟨[], by kernel_rfl⟩

set_option maxRecDepth 100000 in
theorem lifted (os : Os) (started : os.Started) (H : Type) (enc : TypeId × Value → H) (F : Stop.Interp) :
    ReturnsInHanded {} Try.checked os 3 .any ((OpenSpec.ofChange Rows.dataBytesSpec).preRow enc Try.prog Try.f3 Rows.dataBytesRow.domain false Rows.dataBytesRow.laid) (((OpenSpec.ofChange Rows.dataBytesSpec).at F).post enc Try.prog Try.f3 false true false false) := by
  obtain ⟨places, hx⟩ := reads os enc
  refine returnsInHanded_of_row (C := Try.checked) (s := OpenSpec.ofChange Rows.dataBytesSpec) own started (by kernel_rfl) Try.func3
    (witness_row_at (enc := enc) (C := Try.checked) false (laidWorld os) #[.agg #[.int .u32 0, .int .u32 0, .int .u64 0, .int .u64 0, .int .u64 0, .int .u64 0, .int .u64 0, .int .u64 0, .int .u64 0], .slice none 0 0] rfl (by kernel_rfl) (by kernel_rfl) (by kernel_rfl)
      (OpenSpec.preRow_of_cond 8 hx (by kernel_rfl) (fun k hk => by cases hk) (by kernel_rfl) (laid_met os))) ?_
  intro W base args ds gs before hval hW _ _ _ hL _ _
  exact contract H enc W base args ds gs before hval hW hL

theorem said : Rows.DataBytesSaid :=
  OpenClaim.holds_of_cond 3 Try.f3 rfl rfl rfl rfl rfl rfl rfl ⟨rfl, rfl, rfl, rfl, rfl⟩ rfl rfl rfl rfl rfl (by kernel_rfl) Try.func3 (by kernel_rfl)
    (of_decide_eq_true (by kernel_rfl)) (by unfold Func.isWrapper; first | (rw [if_pos (by decide +kernel)]; kernel_rfl) | (rw [if_neg (by decide +kernel)]; exact ⟨rfl, rfl⟩))
    (fun os started H enc _ F => by rw [OpenClaim.pre_eq_preRow]; exact lifted os started H enc F)

end Go.Proofs.Ytlklgifpdneolaa.dataBytes
