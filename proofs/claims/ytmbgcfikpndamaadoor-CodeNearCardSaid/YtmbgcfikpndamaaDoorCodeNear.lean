/-
  For every code, every instruction and every two numbers, in every world that has the table of package ins as its initialiser lays it: the law CodeNear returns true and changes nothing that was there.
-/
import Derived.Test.YtmbgcfikpndamaaDoorProg
import Derived.WalkKit
import Derived.ProofKit
import Derived.Lib.Hide
import Derived.Laws.Rows
import Derived.Laws.ResultCell
import Derived.Laws.Entries
import Derived.Handy
import Derived.OwnWalk
import Derived.Laws.OwnMore
import Derived.Deep.Draws
import Derived.Laws.IdiomStrings
import Derived.Lib.BufferRead
import Derived.Maps.OwnSet
import Derived.Laws.BitsAllLaws
import Derived.RowKit
import Derived.Lib.QuietBelow
import Derived.Lib.OthersKept
import Derived.BigQuiet
import Derived.Laws.Tables
import Derived.Deep.DeepCutAuto
import Derived.IntWalk
import Derived.Deep.RegionHeld3
import Derived.BigRegion
import Derived.Deep.QuietTactic
import Derived.Test.YtmbgcfikpndamaaDoorRows
import Derived.OpenShut
import Derived.Carry
import Derived.Deep.DeepHandedRow
import Derived.Lib.SmallJoins
import Derived.WalkMore
import Derived.Lib.AppendZerosOnto
import Derived.Lib.SliceRun
import Derived.Test.YtmbgcfikpndamaaDoorCards
import Derived.Test.YtmbgcfikpndamaaDoorTie
import Derived.Lib.LaidTab
import Derived.Stop.LaidErr
import Derived.Deep.Slices
import Derived.Test.YtmbgcfikpndamaaDoorPk1
import Derived.Test.YtmbgcfikpndamaaDoorPk2
import Derived.Test.YtmbgcfikpndamaaDoorPk3
namespace Go.Proofs.YtmbgcfikpndamaaDoor.codeNear
open Go.ChangeShapes Go.WideShapes Go.ChangeAt Go.RowKit

/-- What comes of a branch to labels that there are: the code as it was, or the branch behind its jumps. -/
theorem near_cases {c : List X4} {op k t f : Int} (ht : isLab c t = true) (hf : isLab c f = true) : branchN c op k t f = (c, 0, 1) ∨ ∃ d : List X4, branchN c op k t f = (d, ((d.length : Nat) : Int), 0) ∧
    (((c.length : Int) - t ≤ 254 ∧ (c.length : Int) - f ≤ 254 ∧ d.length = c.length + 1) ∨ ((c.length : Int) - t ≤ 254 ∧ 254 < (c.length : Int) - f ∧ d.length = c.length + 2) ∨
    (254 < (c.length : Int) - t ∧ (c.length : Int) - f ≤ 253 ∧ d.length = c.length + 2) ∨ (254 < (c.length : Int) - t ∧ 253 < (c.length : Int) - f ∧ d.length = c.length + 3)) := by
  unfold branchN
  by_cases h : (right op 0 0 k && isBranch op) = true
  · rw [if_pos h, if_pos (by rw [ht, hf]; rfl)]
    refine .inr ⟨_, rfl, ?_⟩
    simp only [List.length_cons]
    rcases far_cases c t f with ⟨h1, h2, h3⟩ | ⟨h1, h2, h3⟩ | ⟨h1, h2, h3⟩ | ⟨h1, h2, h3⟩ <;> omega
  · rw [if_neg h]
    exact .inl rfl

set_option maxRecDepth 100000 in
set_option maxHeartbeats 8000000 in
theorem walk (v0 : Value) (c : List X4) (xo xt xf xk t0 f0 : Int) (w : World) (hF : CdAt w v0 c) (_hk : ∀ x ∈ c, x.ok) (_hm : c.length ≤ 9223372036854775807) (_k0 : 0 ≤ xk) (_k1 : xk ≤ 4294967295) (t00 : 0 ≤ t0) (t01 : t0 ≤ 65535) (f00 : 0 ≤ f0) (f01 : f0 ≤ 65535) (ht : OTab w) :
    Calls Tryd.prog 7 #[v0, insV xo xt xf xk, .int .u16 t0, .int .u16 f0] w fun e w' => e = .returned (.bool true) ∧ Below w.heap.size w w' := by
  obtain ⟨t, rfl⟩ : ∃ t : Nat, t0 = t := ⟨t0.toNat, by omega⟩
  obtain ⟨f, rfl⟩ : ∃ f : Nat, f0 = f := ⟨f0.toNat, by omega⟩
  obtain ⟨ao, cap, rfl⟩ := hF.shape
  have HF := Lib.hid hF
  have HT := Lib.hid ht
  have ht2 : t ≤ 65535 := by omega
  have hf2 : f ≤ 65535 := by omega
  obtain ⟨W, hW, X0, HBx⟩ : ∃ W, W = w.alloc (insB xo xt xf xk) ∧ W.heap[w.heap.size]? = some (insB xo xt xf xk) ∧ Below w.heap.size w W := ⟨_, rfl, heap_alloc_new _ _, ba _ (Below.refl _ _)⟩
  have HX := Lib.hid X0
  have HB0 := Lib.hid HBx
  clear X0 HBx hF t00 t01 f00 f01
  go_enter Tryd.func7, Tryd.ntmps7
  go_upto_region 1 with fail
  rw [← hW]
  clear hW
  by_cases hbig : 1000 < c.length
  · go_wp2_with fail
    refine (hknow_end HB0.out HT.out).mono ?_
    rintro e w1 ⟨rfl, hb1⟩
    have HB1 := Lib.hid hb1
    clear hb1
    go_wp2_with fail
    go_ret
    exact ⟨rfl, HB1.out⟩
  by_cases hz : c.length = 0
  · have hz2 : ((c.length : Int) == 0) = true := by simpa using hz
    clear hz
    go_wp2_with fail
    refine (hknow_end HB0.out HT.out).mono ?_
    rintro e w1 ⟨rfl, hb1⟩
    have HB1 := Lib.hid hb1
    clear hb1
    go_wp2_with fail
    go_ret
    exact ⟨rfl, HB1.out⟩
  have hz2 : ((c.length : Int) == 0) = false := by simpa using hz
  have hA : ∀ (n : Nat) (W : World), n ≤ 65535 → Calls Tryd.prog 19 #[.slice ao c.length cap, .int .u16 (n : Nat)] W fun e w' => e = .returned (.int .i64 (atN c n)) ∧ W = w' := fun n W h => hat_any ao cap c n (by omega) h W
  have HA := Lib.hid hA
  have hT := atN_lab t (show 0 < c.length by omega)
  have hL := atN_lab f (show 0 < c.length by omega)
  have hT2 := isLab_iff.1 hT
  have hL2 := isLab_iff.1 hL
  have HNC := Lib.hid (near_cases (op := xo) (k := xk) hT hL)
  clear hA hT hL hz
  obtain ⟨g, hg⟩ : ∃ g, g = branchN c xo xk (atN c t) (atN c f) := ⟨_, rfl⟩
  have HBr : Hid (∀ V, Below W.heap.size W V → Calls Tryd.prog 14 #[.slice ao c.length cap, .int .i64 xo, .int .u32 xk, .int .i64 (atN c t), .int .i64 (atN c f)] V fun e w' => (∃ r, CdAt w' r g.1 ∧ e = .returned (.tuple #[r, .int .i64 g.2.1, .int .i64 g.2.2])) ∧ Below V.heap.size V w') := Lib.hid (fun V hV => by
    have hbv := HB0.out.trans (hV.mono HB0.out.size)
    refine (hbranch_any _ c xo xk (atN c t) (atN c f) V (HF.out.below hbv) (by omega) (HT.out.below hbv)).mono ?_
    rintro e w3 ⟨hr, hb3⟩
    rw [← hg] at hr
    obtain ⟨r, hr, _, rfl⟩ := hr
    exact ⟨⟨r, hr, rfl⟩, hb3⟩)
  rw [← hg] at HNC
  clear hg
  obtain ⟨c0, c1, c2, c3⟩ := insX HX.out
  have hgr : w.heap.size < W.heap.size := lt_of_block HX.out
  go_upto_region 3 with fail
  go_region_held3 (fun V => V.cell? ⟨w.heap.size, 0, none⟩ = some (.int .i64 xo) ∧ V.cell? ⟨w.heap.size, 3, none⟩ = some (.int .u32 xk)) (first | exact ⟨c0, c3⟩ | exact ⟨a0, a3⟩ | go_keep)
    (first
      | (go_at_call 19; refine (HA.out _ _ ?_).mono ?_; (first | with_reducible exact ht2 | with_reducible exact hf2); rintro e w9 ⟨rfl, rfl⟩)
      | (go_at_call 14; refine (HBr.out _ ?_).mono ?_; (have hB := Below.refl W.heap.size W; go_grown); rintro e w9 ⟨⟨r, hr, rfl⟩, hb9⟩; have a0 := (hb9.cell (p := ⟨w.heap.size, _, none⟩) hgr).trans c0; have a3 := (hb9.cell (p := ⟨w.heap.size, _, none⟩) hgr).trans c3))
  have HB9 := Lib.hid (below2 HB0.out (below2 (bdN (Below.refl W.heap.size W) 1) hb9))
  obtain ⟨ro, rc, rfl⟩ := hr.shape
  have HR := Lib.hid hr.1
  clear hb9 hr a0 a3 c0 c1 c2 c3
  rcases HNC.out with hg | ⟨d, hg, hfar⟩
  · subst hg
    have q1 : ((1 : Int) == 0) = false := by decide
    go_wp2_with fail
    refine (same_any _ _ c c _ (by omega) (HF.out.1.below HB9.out) HR.out).mono ?_
    rintro e w5 ⟨rfl, hb5⟩
    rw [decide_eq_true rfl]
    have HB5 := Lib.hid (below2 HB9.out hb5)
    clear hb5
    go_wp2_with fail
    refine (hknow_end HB5.out HT.out).mono ?_
    rintro e w7 ⟨rfl, hb7⟩
    have HB7 := Lib.hid hb7
    clear hb7
    go_wp2_with fail
    go_ret
    exact ⟨rfl, HB7.out⟩
  · subst hg
    clear HNC HBr
    rcases hfar with ⟨h1, h2, h3⟩ | ⟨h1, h2, h3⟩ | ⟨h1, h2, h3⟩ | ⟨h1, h2, h3⟩
    · have s1 : (d.length : Int) - (c.length : Int) = 1 := by omega
      clear h3
      go_wp2_with fail
      refine (HA.out t _ ht2).mono ?_
      rintro e w9 ⟨rfl, rfl⟩
      go_wp2_with fail
      refine (HA.out f _ hf2).mono ?_
      rintro e w9 ⟨rfl, rfl⟩
      go_wp2_with fail
      refine (hknow_end HB9.out HT.out).mono ?_
      rintro e w7 ⟨rfl, hb7⟩
      have HB7 := Lib.hid hb7
      clear hb7
      go_wp2_with fail
      go_ret
      exact ⟨rfl, HB7.out⟩
    · have s1 : (d.length : Int) - (c.length : Int) = 2 := by omega
      clear h3
      go_wp2_with fail
      refine (HA.out t _ ht2).mono ?_
      rintro e w9 ⟨rfl, rfl⟩
      go_wp2_with fail
      refine (HA.out f _ hf2).mono ?_
      rintro e w9 ⟨rfl, rfl⟩
      go_wp2_with fail
      refine (hknow_end HB9.out HT.out).mono ?_
      rintro e w7 ⟨rfl, hb7⟩
      have HB7 := Lib.hid hb7
      clear hb7
      go_wp2_with fail
      go_ret
      exact ⟨rfl, HB7.out⟩
    · have s1 : (d.length : Int) - (c.length : Int) = 2 := by omega
      clear h3
      go_wp2_with fail
      refine (HA.out t _ ht2).mono ?_
      rintro e w9 ⟨rfl, rfl⟩
      go_wp2_with fail
      refine (HA.out f _ hf2).mono ?_
      rintro e w9 ⟨rfl, rfl⟩
      go_wp2_with fail
      refine (hknow_end HB9.out HT.out).mono ?_
      rintro e w7 ⟨rfl, hb7⟩
      have HB7 := Lib.hid hb7
      clear hb7
      go_wp2_with fail
      go_ret
      exact ⟨rfl, HB7.out⟩
    · have s1 : (d.length : Int) - (c.length : Int) = 3 := by omega
      clear h3
      go_wp2_with fail
      refine (HA.out t _ ht2).mono ?_
      rintro e w9 ⟨rfl, rfl⟩
      go_wp2_with fail
      refine (HA.out f _ hf2).mono ?_
      rintro e w9 ⟨rfl, rfl⟩
      go_wp2_with fail
      refine (hknow_end HB9.out HT.out).mono ?_
      rintro e w7 ⟨rfl, hb7⟩
      have HB7 := Lib.hid hb7
      clear hb7
      go_wp2_with fail
      go_ret
      exact ⟨rfl, HB7.out⟩

set_option maxRecDepth 100000 in
/-- The row's contract, for every argument and every world. -/
theorem contract (H : Type) (enc : TypeId × Value → H) (W : World) (base : Nat) (args : Array Value) (ds gs : List (DataW H)) (before : List MemPlace)
    (hval : ∀ (j : Nat) t v, Tryd.f7.params[j]? = some t → args[j]? = some v → Value.okWide Tryd.prog W .any base t v)
    (hW : DataW.Whole enc Tryd.prog Tryd.f7.params.toList Rows.codeNearSpec.vars false W args.toList ds gs before) (hL : laidMetH Tryd.prog Rows.codeNearRow.laid W) :
    Calls Tryd.prog 7 args W fun e W' => ∃ v, e = .returned v ∧ Rows.codeNearSpec.post enc Tryd.prog Tryd.f7 false true false false W args v W' := by
  have hW' := hW
  obtain ⟨p, q, hA0, hV, rfl, hfz, hnd⟩ := hW
  have hA : DataW.TrodAll enc Tryd.prog W 0 (fun _ => true) true Tryd.f7.params.toList args.toList ds p := hA0
  rw [Tryd.params7] at hA hval
  obtain ⟨v0, vs0, d0, ds0, p0, q0, hargs0, rfl, rfl, t0, r0⟩ := trodAll_cons hA
  obtain ⟨v1, vs1, d1, ds1, p1, q1, hargs1, rfl, rfl, t1, r1⟩ := trodAll_cons r0
  obtain ⟨v2, vs2, d2, ds2, p2, q2, hargs2, rfl, rfl, t2, r2⟩ := trodAll_cons r1
  obtain ⟨v3, vs3, d3, ds3, p3, q3, hargs3, rfl, rfl, t3, r3⟩ := trodAll_cons r2
  obtain ⟨rfl, rfl, rfl⟩ := trodAll_nil r3
  obtain rfl : args = #[v0, v1, v2, v3] := by cases args; simp_all
  obtain ⟨c, hF0, hk0, hm0⟩ := open_code (hval 0 22 v0 rfl rfl) t0
  obtain ⟨a1, b1, c1, e1, y1, z1, u1, w1, n1, rfl, rfl, hp1, ha1, hb1, hc1, he1⟩ := Joins.open_agg4 Tryd.underlying30 (by kernel_rfl) (by kernel_rfl) (hval 1 30 v1 rfl rfl) t1
  obtain ⟨xo, qha1, gha1, wfha1⟩ := DataW.trod_int Tryd.underlying3 ha1
  obtain rfl := (List.cons.inj qha1).1
  obtain ⟨xt, qhb1, ghb1, wfhb1⟩ := DataW.trod_int Tryd.underlying3 hb1
  obtain rfl := (List.cons.inj qhb1).1
  obtain ⟨xf, qhc1, ghc1, wfhc1⟩ := DataW.trod_int Tryd.underlying3 hc1
  obtain rfl := (List.cons.inj qhc1).1
  obtain ⟨xk, qhe1, ghe1, wfhe1⟩ := DataW.trod_int Tryd.underlying28 he1
  obtain rfl := (List.cons.inj qhe1).1
  have bd1 := bounds_u32 wfhe1
  obtain ⟨t, rfl, rfl, rfl, wf2⟩ := open_int Tryd.underlying31 (hval 2 31 v2 rfl rfl) t2
  have bd2 := bounds_u16 wf2
  obtain ⟨f, rfl, rfl, rfl, wf3⟩ := open_int Tryd.underlying31 (hval 3 31 v3 rfl rfl) t3
  have bd3 := bounds_u16 wf3
  refine (walk v0 c xo xt xf xk t f W hF0 hk0 hm0 bd1.1 bd1.2 bd2.1 bd2.2 bd3.1 bd3.2 (otab1_of hL)).mono fun e W' ⟨he, hg⟩ => ?_
  subst he
  exact ⟨_, rfl, law_post (tb := 4) laidOut (fun t ht => by rw [Tryd.params7] at ht; revert t; exact of_decide_eq_true (by kernel_rfl)) (by kernel_rfl) Tryd.underlying4 rfl
    (fun ds h => by rw [Tryd.params7] at h; match ds, h with | [_, _, _, _], _ => rfl) hW' hg⟩

theorem laid_met (os : Os) : laidMet Tryd.prog Rows.codeNearRow.laid ((laidWorld1 os).forCall (fun _ _ => 0) ⟨#[], #[.slice none 0 0, .agg #[.int .i64 0, .int .i64 0, .int .i64 0, .int .u32 0], .int .u16 0, .int .u16 0], []⟩).memory :=
  laidMet_of_run' 8 (by kernel_rfl) (by kernel_rfl)
theorem reads (os : Os) {H : Type} (enc : TypeId × Value → H) : ∃ places, DataW.whole enc Tryd.prog ((laidWorld1 os).forCall (fun _ _ => 0) ⟨#[], #[.slice none 0 0, .agg #[.int .i64 0, .int .i64 0, .int .i64 0, .int .u32 0], .int .u16 0, .int .u16 0], []⟩).memory Tryd.f7.params.toList Rows.codeNearSpec.vars false #[Value.slice none 0 0, Value.agg #[.int .i64 0, .int .i64 0, .int .i64 0, .int .u32 0], Value.int .u16 0, Value.int .u16 0].toList 8 = some ([.nil, .agg [.lit (.int .i64 0), .lit (.int .i64 0), .lit (.int .i64 0), .lit (.int .u32 0)], .lit (.int .u16 0), .lit (.int .u16 0)], [], places) :=
  ⟨[], by kernel_rfl⟩

set_option maxRecDepth 100000 in
theorem lifted (os : Os) (started : os.Started) (H : Type) (enc : TypeId × Value → H) (F : Stop.Interp) :
    ReturnsInHanded {} Tryd.checked os 7 .any ((OpenSpec.ofChange Rows.codeNearSpec).preRow enc Tryd.prog Tryd.f7 Rows.codeNearRow.domain false Rows.codeNearRow.laid) (((OpenSpec.ofChange Rows.codeNearSpec).at F).post enc Tryd.prog Tryd.f7 false true false false) := by
  obtain ⟨places, hx⟩ := reads os enc
  refine returnsInHanded_of_row (C := Tryd.checked) (s := OpenSpec.ofChange Rows.codeNearSpec) own started (by kernel_rfl) Tryd.func7
    (witness_row_at (enc := enc) (C := Tryd.checked) false (laidWorld1 os) #[.slice none 0 0, .agg #[.int .i64 0, .int .i64 0, .int .i64 0, .int .u32 0], .int .u16 0, .int .u16 0] rfl (by kernel_rfl) (by kernel_rfl) (by kernel_rfl)
      (OpenSpec.preRow_of_cond 8 hx (by kernel_rfl) (fun k hk => by cases hk) (by kernel_rfl) (laid_met os))) ?_
  intro W base args ds gs before hval hW _ _ _ hL _ _
  exact contract H enc W base args ds gs before hval hW hL

theorem said : Rows.CodeNearSaid :=
  OpenClaim.holds_of_cond 7 Tryd.f7 rfl rfl rfl rfl rfl rfl rfl ⟨rfl, rfl, rfl, rfl, rfl⟩ rfl rfl rfl rfl rfl (by kernel_rfl) Tryd.func7 (by kernel_rfl)
    (of_decide_eq_true (by kernel_rfl)) (by unfold Func.isWrapper; first | (rw [if_pos (by decide +kernel)]; kernel_rfl) | (rw [if_neg (by decide +kernel)]; exact ⟨rfl, rfl⟩))
    (fun os started H enc _ F => by rw [OpenClaim.pre_eq_preRow]; exact lifted os started H enc F)

/-- No parameter wants a stand-in; the program's own looks are off. -/
theorem plain (f : FuncId) (fn : Func) (hf : Tryd.pinned.checked.prog.funcNamed "hurdle/hurdlelaw12.CodeNear" = some f) (hfn : Tryd.pinned.checked.prog.funcs[f]? = some fn) :
    false = Tryd.pinned.checked.prog.looks [] ∧ ∀ (j : Nat) t, fn.params[j]? = some t → Tryd.pinned.checked.prog.wantsStandIn t = false := by
  obtain rfl : f = 7 := Option.some.inj ((show Tryd.prog.funcNamed "hurdle/hurdlelaw12.CodeNear" = some 7 by kernel_rfl).symm.trans hf) |>.symm
  obtain rfl : fn = Tryd.f7 := (Option.some.inj (Tryd.func7.symm.trans hfn)).symm
  refine ⟨by kernel_rfl, fun j t ht => ?_⟩
  have hm := Array.mem_of_getElem? ht
  rw [Tryd.params7] at hm
  have all : ∀ t ∈ (#[22, 30, 31, 31] : Array TypeId).toList, Tryd.prog.wantsStandIn t = false := of_decide_eq_true (by kernel_rfl)
  exact all t (Array.mem_toList_iff.2 hm)

/-- The tied card. -/
theorem card : Rows.CodeNearCardSaid :=
  Claim7.holds_tied_plain_at .later [] _ _ _ _ said (fun _ h => by cases h) (by kernel_rfl) (fun _ h => by cases h) codeNear_row_tie rfl ⟨rfl, rfl⟩ (by kernel_rfl) rfl plain (by kernel_rfl)
end Go.Proofs.YtmbgcfikpndamaaDoor.codeNear
