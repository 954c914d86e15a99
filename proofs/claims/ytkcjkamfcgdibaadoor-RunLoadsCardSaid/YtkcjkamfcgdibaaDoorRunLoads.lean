/-
  For every filter, every record, every place and every word, in every world that has the table of package ins as its initialiser lays it: the law RunLoads returns true and changes nothing that was there.
-/
import Derived.Test.YtkcjkamfcgdibaaDoorUFrame
import Derived.Test.YtkcjkamfcgdibaaDoorKRCheck
import Derived.Test.YtkcjkamfcgdibaaDoorDWith
namespace Go.Proofs.YtkcjkamfcgdibaaDoor.runLoads
open Go.ChangeShapes Go.WideShapes Go.ChangeAt Go.RowKit

/-- None of the first instructions loads the word at the place. -/
def LoadFree (f : List X4) (q n : Nat) : Prop := ∀ i, i < n → (f.getD i zeroX).op = 32 → (f.getD i zeroX).k ≠ q
theorem loadFree_all {f : List X4} {d : Rec} {q z : Nat} (hd : d.ok) (hz : z < 4294967296) (hk : ∀ x ∈ f, x.ok) (h : LoadFree f q f.length) : runS f (withD d q z) = runS f d := by
  unfold runS
  refine fromS_word (fun x hx hop => ?_) _ _ _
  obtain ⟨i, hi, rfl⟩ := List.mem_iff_getElem.1 hx
  have h2 := h i hi
  rw [getD_at hi] at h2
  have h3 := h2 hop
  have h4 := (hk _ hx).1
  exact word_other hd hz (by omega)
set_option maxHeartbeats 4000000 in
theorem walk_nat (v0 : Value) (f : List X4) (d : Rec) (q z : Nat) (w : World) (hF : FAt w v0 f) (hk : ∀ x ∈ f, x.ok) (hd : d.ok) (hq : q < 4294967296) (hz : z < 4294967296) (ht : OTab w) :
    Calls Tryd.prog 6 #[v0, d.val, .int .u32 q, .int .u32 z] w fun e w' => e = .returned (.bool true) ∧ Below w.heap.size w w' := by
  obtain ⟨ao0, cap0, rfl, hF'⟩ := hF
  have hF : FAt w (.slice ao0 f.length cap0) f := ⟨ao0, cap0, rfl, hF'⟩
  have HC := Lib.hid hF'
  have HF := Lib.hid hF
  have HK := Lib.hid hk
  have HDo := Lib.hid hd
  have HB0 := Lib.hid (ba (.cells d.cells 31) (Below.refl w.heap.size w))
  have HD0 := Lib.hid (heap_alloc_new w (.cells d.cells 31))
  clear hF hF' hk hd
  by_cases h1 : 300 < f.length
  · go_enter Tryd.func6, Tryd.ntmps6
    go_wp2_with fail
    refine (uknow_end HB0.out ht).mono ?_
    rintro e wb ⟨rfl, hbb⟩
    have HBB := Lib.hid hbb
    clear hbb
    go_wp2_with fail
    go_ret
    exact ⟨rfl, HBB.out⟩
  go_enter Tryd.func6, Tryd.ntmps6
  go_wp2_with fail
  refine (rsound5_any _ f _ (HF.out.below HB0.out) HK.out).mono ?_
  rintro e w1 ⟨rfl, hb1⟩
  have HB1 := Lib.hid (below2 HB0.out (hb1.mono (Nat.le_refl _)))
  have HD1 := Lib.hid (kb hb1 HD0.out)
  clear hb1
  cases hs : soundB f
  · clear hs
    go_wp2_with fail
    refine (uknow_end HB1.out ht).mono ?_
    rintro e wb ⟨rfl, hbb⟩
    have HBB := Lib.hid hbb
    clear hbb
    go_wp2_with fail
    go_ret
    exact ⟨rfl, HBB.out⟩
  have HS := Lib.hid hs
  clear hs
  go_wp2_with fail
  go_loopw [9] (fun i wr => ∃ n : Nat, n ≤ f.length ∧ i = .int .i64 n ∧ Below w.heap.size w wr ∧ wr.heap[w.heap.size]? = some (.cells d.cells 31) ∧ LoadFree f q n) (fun i _ => f.length - (intOf i).toNat)
  case atStart => exact ⟨0, by omega, rfl, HB1.out, HD1.out, fun i hi => by omega⟩
  case round =>
    clear HB1 HD1 HB0 HD0
    obtain ⟨n, hn, rfl, hbw, hdd, hlf⟩ := hrel
    have HB := Lib.hid hbw
    have HD := Lib.hid hdd
    have HL := Lib.hid hlf
    clear hbw hdd hlf
    by_cases hlt : n < f.length
    · rcases HC.out with h0 | ⟨b, off, rfl, hb, hc⟩
      · rw [h0] at hlt; simp at hlt
      obtain ⟨c0, c1, c2, c3⟩ := hc n hlt
      have d0 := (HB.out.cell (p := ⟨b, _, none⟩) hb).trans c0
      have d3 := (HB.out.cell (p := ⟨b, _, none⟩) hb).trans c3
      have HE := Lib.hid (getD_at hlt)
      clear hc c0 c1 c2 c3
      generalize f[n] = x at d0 d3 HE
      cases h32 : (x.op == 32)
      · have HL' : Hid (LoadFree f q (n + 1)) := Lib.hid (by
          intro i hi ho
          by_cases hin : i < n
          · exact HL.out i hin ho
          · obtain rfl : i = n := by omega
            rw [HE.out] at ho
            rw [ho] at h32
            cases h32)
        go_wp2_with fail
        go_roundw
        case rel => exact ⟨n + 1, by omega, by go_num, HB.out, HD.out, HL'.out⟩
        case measure => simp [intOf]; omega
      · cases hkq : (x.k == (q : Int))
        · have HL' : Hid (LoadFree f q (n + 1)) := Lib.hid (by
            intro i hi ho
            by_cases hin : i < n
            · exact HL.out i hin ho
            · obtain rfl : i = n := by omega
              rw [HE.out]
              simpa using hkq)
          go_wp2_with fail
          go_roundw
          case rel => exact ⟨n + 1, by omega, by go_num, HB.out, HD.out, HL'.out⟩
          case measure => simp [intOf]; omega
        · clear HL
          go_wp2_with fail
          refine (uknow_end HB.out ht).mono ?_
          rintro e wb ⟨rfl, hbb⟩
          have HBB := Lib.hid hbb
          clear hbb
          go_wp2_with fail
          go_ret
          exact ⟨rfl, HBB.out⟩
    · obtain rfl : n = f.length := by omega
      have HEQ := Lib.hid (loadFree_all HDo.out hz HK.out HL.out)
      obtain ⟨x0, x1, x2, x3, x4, x5, x6, x7, x8⟩ := rec_cells HD.out
      clear HL
      go_wp2_with fail
      refine (run_any _ f d _ (HF.out.below HB.out) HK.out HDo.out (ht.below HB.out) HS.out).mono ?_
      rintro e w2 ⟨rfl, hb2⟩
      have HB2 := Lib.hid (below2 HB.out (hb2.mono (Nat.le_refl _)))
      have HD2 := Lib.hid (kb hb2 HD.out)
      clear hb2 x0 x1 x2 x3 x4 x5 x6 x7 x8
      obtain ⟨x0, x1, x2, x3, x4, x5, x6, x7, x8⟩ := rec_cells HD2.out
      go_wp2_with fail
      refine (with_any d q z _ HDo.out hq hz).mono ?_
      rintro e w3 ⟨rfl, hb3⟩
      have HB3 := Lib.hid (below2 HB2.out (hb3.mono (Nat.le_refl _)))
      have HY := Lib.hid (withD_ok (at_ := q) HDo.out hz)
      obtain ⟨y, hy⟩ : ∃ y, y = withD d q z := ⟨_, rfl⟩
      rw [← hy] at HEQ HY ⊢
      clear hb3 hy x0 x1 x2 x3 x4 x5 x6 x7 x8
      go_wp2_with fail
      refine (run_any _ f y _ (HF.out.below HB3.out) HK.out HY.out (ht.below HB3.out) HS.out).mono ?_
      rintro e w4 ⟨rfl, hb4⟩
      rw [HEQ.out]
      have HB4 := Lib.hid (below2 HB3.out (hb4.mono (Nat.le_refl _)))
      clear hb4
      obtain ⟨R, hR⟩ : ∃ R, R = runS f d := ⟨_, rfl⟩
      rw [← hR]
      clear hR HEQ
      obtain ⟨r1, r2⟩ := R
      have hp : ((r1 : Int) == (r1 : Int)) = true := by simp
      have hq : ((r2 : Int) == (r2 : Int)) = true := by simp
      go_wp2_with fail
      refine (uknow_end HB4.out ht).mono ?_
      rintro e wb ⟨rfl, hbb⟩
      have HBB := Lib.hid hbb
      clear hbb
      go_wp2_with fail
      go_ret
      exact ⟨rfl, HBB.out⟩
theorem walk (v0 : Value) (f : List X4) (d : Rec) (q z : Int) (w : World) (hF : FAt w v0 f) (hk : ∀ x ∈ f, x.ok) (_hm : f.length ≤ 9223372036854775807) (hd : d.ok) (h0 : 0 ≤ q) (h1 : q ≤ 4294967295) (h2 : 0 ≤ z) (h3 : z ≤ 4294967295) (ht : OTab w) :
    Calls Tryd.prog 6 #[v0, d.val, .int .u32 q, .int .u32 z] w fun e w' => e = .returned (.bool true) ∧ Below w.heap.size w w' := by
  obtain ⟨q, rfl⟩ : ∃ k : Nat, q = k := ⟨q.toNat, by omega⟩
  obtain ⟨z, rfl⟩ : ∃ k : Nat, z = k := ⟨z.toNat, by omega⟩
  exact walk_nat v0 f d q z w hF hk hd (by omega) (by omega) ht

set_option maxRecDepth 100000 in
/-- The row's contract, for every argument and every world. -/
theorem contract (H : Type) (enc : TypeId × Value → H) (W : World) (base : Nat) (args : Array Value) (ds gs : List (DataW H)) (before : List MemPlace)
    (hval : ∀ (j : Nat) t v, Tryd.f6.params[j]? = some t → args[j]? = some v → Value.okWide Tryd.prog W .any base t v)
    (hW : DataW.Whole enc Tryd.prog Tryd.f6.params.toList Rows.runLoadsSpec.vars false W args.toList ds gs before) (hL : laidMetH Tryd.prog Rows.runLoadsRow.laid W) :
    Calls Tryd.prog 6 args W fun e W' => ∃ v, e = .returned v ∧ Rows.runLoadsSpec.post enc Tryd.prog Tryd.f6 false true false false W args v W' := by
  have hW' := hW
  obtain ⟨p, q, hA0, hV, rfl, hfz, hnd⟩ := hW
  have hA : DataW.TrodAll enc Tryd.prog W 0 (fun _ => true) true Tryd.f6.params.toList args.toList ds p := hA0
  rw [Tryd.params6] at hA hval
  obtain ⟨v0, vs0, d0, ds0, p0, q0, hargs0, rfl, rfl, t0, r0⟩ := trodAll_cons hA
  obtain ⟨v1, vs1, d1, ds1, p1, q1, hargs1, rfl, rfl, t1, r1⟩ := trodAll_cons r0
  obtain ⟨v2, vs2, d2, ds2, p2, q2, hargs2, rfl, rfl, t2, r2⟩ := trodAll_cons r1
  obtain ⟨v3, vs3, d3, ds3, p3, q3, hargs3, rfl, rfl, t3, r3⟩ := trodAll_cons r2
  obtain ⟨rfl, rfl, rfl⟩ := trodAll_nil r3
  obtain rfl : args = #[v0, v1, v2, v3] := by cases args; simp_all
  obtain ⟨f, hF0, hk0, hm0⟩ := open_filt (hval 0 37 v0 rfl rfl) t0
  obtain ⟨d, rfl, hd1⟩ := open_data (hval 1 31 v1 rfl rfl) t1
  obtain ⟨q, rfl, rfl, rfl, wf2⟩ := open_int Tryd.underlying22 (hval 2 22 v2 rfl rfl) t2
  have bd2 := bounds_u32 wf2
  obtain ⟨z, rfl, rfl, rfl, wf3⟩ := open_int Tryd.underlying22 (hval 3 22 v3 rfl rfl) t3
  have bd3 := bounds_u32 wf3
  refine (walk v0 f d q z W hF0 hk0 hm0 hd1 bd2.1 bd2.2 bd3.1 bd3.2 (otab1_of hL)).mono fun e W' ⟨he, hg⟩ => ?_
  subst he
  exact ⟨_, rfl, law_post (tb := 4) laidOut (fun t ht => by rw [Tryd.params6] at ht; revert t; exact of_decide_eq_true (by kernel_rfl)) (by kernel_rfl) Tryd.underlying4 rfl
    (fun ds h => by rw [Tryd.params6] at h; match ds, h with | [_, _, _, _], _ => rfl) hW' hg⟩

theorem laid_met (os : Os) : laidMet Tryd.prog Rows.runLoadsRow.laid ((laidWorld1 os).forCall (fun _ _ => 0) ⟨#[], #[.slice none 0 0, .agg #[.int .u32 0, .int .u32 0, .int .u64 0, .int .u64 0, .int .u64 0, .int .u64 0, .int .u64 0, .int .u64 0, .int .u64 0], .int .u32 0, .int .u32 0], []⟩).memory :=
  laidMet_of_run' 8 (by kernel_rfl) (by kernel_rfl)
theorem reads (os : Os) {H : Type} (enc : TypeId × Value → H) : ∃ places, DataW.whole enc Tryd.prog ((laidWorld1 os).forCall (fun _ _ => 0) ⟨#[], #[.slice none 0 0, .agg #[.int .u32 0, .int .u32 0, .int .u64 0, .int .u64 0, .int .u64 0, .int .u64 0, .int .u64 0, .int .u64 0, .int .u64 0], .int .u32 0, .int .u32 0], []⟩).memory Tryd.f6.params.toList Rows.runLoadsSpec.vars false #[Value.slice none 0 0, Value.agg #[.int .u32 0, .int .u32 0, .int .u64 0, .int .u64 0, .int .u64 0, .int .u64 0, .int .u64 0, .int .u64 0, .int .u64 0], Value.int .u32 0, Value.int .u32 0].toList 8 = some ([.nil, .agg [.lit (.int .u32 0), .lit (.int .u32 0), .lit (.int .u64 0), .agg [.lit (.int .u64 0), .lit (.int .u64 0), .lit (.int .u64 0), .lit (.int .u64 0), .lit (.int .u64 0), .lit (.int .u64 0)]], .lit (.int .u32 0), .lit (.int .u32 0)], [], places) :=
  ⟨[], by kernel_rfl⟩

set_option maxRecDepth 100000 in
theorem lifted (os : Os) (started : os.Started) (H : Type) (enc : TypeId × Value → H) (F : Stop.Interp) :
    ReturnsInHanded {} Tryd.checked os 6 .any ((OpenSpec.ofChange Rows.runLoadsSpec).preRow enc Tryd.prog Tryd.f6 Rows.runLoadsRow.domain false Rows.runLoadsRow.laid) (((OpenSpec.ofChange Rows.runLoadsSpec).at F).post enc Tryd.prog Tryd.f6 false true false false) := by
  obtain ⟨places, hx⟩ := reads os enc
  refine returnsInHanded_of_row (C := Tryd.checked) (s := OpenSpec.ofChange Rows.runLoadsSpec) own started (by kernel_rfl) Tryd.func6
    (witness_row_at (enc := enc) (C := Tryd.checked) false (laidWorld1 os) #[.slice none 0 0, .agg #[.int .u32 0, .int .u32 0, .int .u64 0, .int .u64 0, .int .u64 0, .int .u64 0, .int .u64 0, .int .u64 0, .int .u64 0], .int .u32 0, .int .u32 0] rfl (by kernel_rfl) (by kernel_rfl) (by kernel_rfl)
      (OpenSpec.preRow_of_cond 8 hx (by kernel_rfl) (fun k hk => by cases hk) (by kernel_rfl) (laid_met os))) ?_
  intro W base args ds gs before hval hW _ _ _ hL _ _
  exact contract H enc W base args ds gs before hval hW hL

theorem said : Rows.RunLoadsSaid :=
  OpenClaim.holds_of_cond 6 Tryd.f6 rfl rfl rfl rfl rfl rfl rfl ⟨rfl, rfl, rfl, rfl, rfl⟩ rfl rfl rfl rfl rfl (by kernel_rfl) Tryd.func6 (by kernel_rfl)
    (of_decide_eq_true (by kernel_rfl)) (by unfold Func.isWrapper; first | (rw [if_pos (by decide +kernel)]; kernel_rfl) | (rw [if_neg (by decide +kernel)]; exact ⟨rfl, rfl⟩))
    (fun os started H enc _ F => by rw [OpenClaim.pre_eq_preRow]; exact lifted os started H enc F)

/-- No parameter wants a stand-in; the program's own looks are off. -/
theorem plain (f : FuncId) (fn : Func) (hf : Tryd.pinned.checked.prog.funcNamed "hurdle/hurdlelaw06.RunLoads" = some f) (hfn : Tryd.pinned.checked.prog.funcs[f]? = some fn) :
    false = Tryd.pinned.checked.prog.looks [] ∧ ∀ (j : Nat) t, fn.params[j]? = some t → Tryd.pinned.checked.prog.wantsStandIn t = false := by
  obtain rfl : f = 6 := Option.some.inj ((show Tryd.prog.funcNamed "hurdle/hurdlelaw06.RunLoads" = some 6 by kernel_rfl).symm.trans hf) |>.symm
  obtain rfl : fn = Tryd.f6 := (Option.some.inj (Tryd.func6.symm.trans hfn)).symm
  refine ⟨by kernel_rfl, fun j t ht => ?_⟩
  have hm := Array.mem_of_getElem? ht
  rw [Tryd.params6] at hm
  have all : ∀ t ∈ (#[37, 31, 22, 22] : Array TypeId).toList, Tryd.prog.wantsStandIn t = false := of_decide_eq_true (by kernel_rfl)
  exact all t (Array.mem_toList_iff.2 hm)

/-- The tied card. -/
theorem card : Rows.RunLoadsCardSaid :=
  Claim7.holds_tied_plain_at .later [] _ _ _ _ said (fun _ h => by cases h) (by kernel_rfl) (fun _ h => by cases h) runLoads_row_tie rfl ⟨rfl, rfl⟩ (by kernel_rfl) rfl plain (by kernel_rfl)
end Go.Proofs.YtkcjkamfcgdibaaDoor.runLoads
