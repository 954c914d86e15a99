/-
  For every two instructions, in every world that has the tables of math/bits, of strconv and of package ins as their initialisers lay them: the law InsApart returns true and changes nothing that was there.
-/
import Derived.Test.YtjniifgacidojaaDoorIFrame
namespace Go.Proofs.YtjniifgacidojaaDoor.insApart
open Go.ChangeShapes Go.WideShapes Go.ChangeAt Go.RowKit

set_option maxHeartbeats 2000000 in
theorem walk (xo xt xf xk yo yt yf yk : Int) (w : World) (hx0 : 0 ≤ xk) (hx1 : xk ≤ 4294967295) (hy0 : 0 ≤ yk) (hy1 : yk ≤ 4294967295) (hT : Tab w) (ht : OTab w) :
    Calls Tryd.prog 7 #[insV xo xt xf xk, insV yo yt yf yk] w fun e w' => e = .returned (.bool true) ∧ Below w.heap.size w w' := by
  have hb0 := ba (insB yo yt yf yk) (ba (insB xo xt xf xk) (Below.refl w.heap.size w))
  have hX0 : ((w.alloc (insB xo xt xf xk)).alloc (insB yo yt yf yk)).heap[w.heap.size]? = some (insB xo xt xf xk) := (Below.heap_alloc _ _ _ (by rw [size_alloc]; omega)).trans (heap_alloc_new _ _)
  have hY0 : ((w.alloc (insB xo xt xf xk)).alloc (insB yo yt yf yk)).heap[w.heap.size + 1]? = some (insB yo yt yf yk) := by
    have h := heap_alloc_new (w.alloc (insB xo xt xf xk)) (insB yo yt yf yk)
    rwa [size_alloc] at h
  have HB0 := Lib.hid hb0
  have HX0 := Lib.hid hX0
  have HY0 := Lib.hid hY0
  clear hb0 hX0 hY0
  go_enter Tryd.func7, Tryd.ntmps7
  go_wp2_with fail
  refine (print_any _ _ _ _ _ (ht.below HB0.out) (hT.below HB0.out) hx0 hx1).mono ?_
  rintro e w1 ⟨he1, hb1⟩
  have hX1 := (hb1.block _ (lt_of_block HX0.out)).trans HX0.out
  have hY1 := (hb1.block _ (lt_of_block HY0.out)).trans HY0.out
  have HB1 := Lib.hid (HB0.out.trans (hb1.mono HB0.out.size))
  have y0 : w1.cell? ⟨w.heap.size + 1, 0, none⟩ = some (.int .i64 yo) := cell_in hY1 0
  have y1 : w1.cell? ⟨w.heap.size + 1, 1, none⟩ = some (.int .i64 yt) := cell_in hY1 1
  have y2 : w1.cell? ⟨w.heap.size + 1, 2, none⟩ = some (.int .i64 yf) := cell_in hY1 2
  have y3 : w1.cell? ⟨w.heap.size + 1, 3, none⟩ = some (.int .u32 yk) := cell_in hY1 3
  have HX1 := Lib.hid hX1
  have HY1 := Lib.hid hY1
  clear hX1 hY1 hb1 HX0 HY0 HB0
  rcases he1 with ⟨r, a, b, c, hr, hf, rfl, rfl, rfl, rfl, rfl⟩ | ⟨_, rfl⟩
  · go_wp2_with fail
    refine (print_any _ _ _ _ _ (ht.below HB1.out) (hT.below HB1.out) hy0 hy1).mono ?_
    rintro e w2 ⟨he2, hb2⟩
    have hX2 := (hb2.block _ (lt_of_block HX1.out)).trans HX1.out
    have hY2 := (hb2.block _ (lt_of_block HY1.out)).trans HY1.out
    have HB2 := Lib.hid (HB1.out.trans (hb2.mono HB1.out.size))
    rcases he2 with ⟨r', a', b', c', hr', hf', rfl, rfl, rfl, rfl, rfl⟩ | ⟨_, rfl⟩
    · clear y0 y1 y2 y3
      have x0 : w2.cell? ⟨w.heap.size, 0, none⟩ = some (.int .i64 r.op) := cell_in hX2 0
      have x1 : w2.cell? ⟨w.heap.size, 1, none⟩ = some (.int .i64 a) := cell_in hX2 1
      have x2 : w2.cell? ⟨w.heap.size, 2, none⟩ = some (.int .i64 b) := cell_in hX2 2
      have x3 : w2.cell? ⟨w.heap.size, 3, none⟩ = some (.int .u32 c) := cell_in hX2 3
      have y0 : w2.cell? ⟨w.heap.size + 1, 0, none⟩ = some (.int .i64 r'.op) := cell_in hY2 0
      have y1 : w2.cell? ⟨w.heap.size + 1, 1, none⟩ = some (.int .i64 a') := cell_in hY2 1
      have y2 : w2.cell? ⟨w.heap.size + 1, 2, none⟩ = some (.int .i64 b') := cell_in hY2 2
      have y3 : w2.cell? ⟨w.heap.size + 1, 3, none⟩ = some (.int .u32 c') := cell_in hY2 3
      clear hb2 hX2 hY2
      have HR := Lib.hid hr
      have HR' := Lib.hid hr'
      have HF := Lib.hid hf
      have HF' := Lib.hid hf'
      clear hr hr' hf hf'
      by_cases heq : itxt r a b c = itxt r' a' b' c'
      · obtain ⟨rfl, rfl, rfl, rfl⟩ := itxt_inj HR.out HR'.out HF.out HF'.out heq
        clear heq
        go_wp2_with fail
        refine (iknows_any _ (hT.below HB2.out) (ht.below HB2.out)).mono ?_
        rintro e w3 ⟨rfl, hb3⟩
        go_wp2_with fail
        go_ret
        exact ⟨rfl, HB2.out.trans (hb3.mono HB2.out.size)⟩
      · have hne : ((itxt r a b c).toList == (itxt r' a' b' c').toList) = false := by
          rw [beq_eq_false_iff_ne]
          intro h
          rw [Go.ByteArray.toList_eq, Go.ByteArray.toList_eq] at h
          exact heq (by apply ByteArray.ext; apply Array.ext'; exact h)
        have HQ := Lib.hid heq
        clear heq
        go_wp2_with fail
        all_goals first
          | ((with_reducible refine (iknows_any _ (hT.below HB2.out) (ht.below HB2.out)).mono ?_)
             rintro e w3 ⟨rfl, hb3⟩
             go_wp2_with fail
             go_ret
             exact ⟨rfl, HB2.out.trans (hb3.mono HB2.out.size)⟩)
          | (exfalso
             refine HQ.out ?_
             obtain rfl := Ip.op_inj r HR.out r' HR'.out (by assumption)
             obtain rfl : a = a' := by omega
             obtain rfl : b = b' := by omega
             obtain rfl : c = c' := by omega
             rfl)
    · clear hb2 hX2 hY2 y0 y1 y2 y3
      go_wp2_with fail
      refine (iknows_any _ (hT.below HB2.out) (ht.below HB2.out)).mono ?_
      rintro e w3 ⟨rfl, hb3⟩
      go_wp2_with fail
      go_ret
      exact ⟨rfl, HB2.out.trans (hb3.mono HB2.out.size)⟩
  · go_wp2_with fail
    refine (print_any _ _ _ _ _ (ht.below HB1.out) (hT.below HB1.out) hy0 hy1).mono ?_
    rintro e w2 ⟨he2, hb2⟩
    have HB2 := Lib.hid (HB1.out.trans (hb2.mono HB1.out.size))
    clear hb2 y0 y1 y2 y3
    rcases he2 with ⟨r', a', b', c', hr', hf', rfl, rfl, rfl, rfl, rfl⟩ | ⟨_, rfl⟩
    all_goals
      go_wp2_with fail
      refine (iknows_any _ (hT.below HB2.out) (ht.below HB2.out)).mono ?_
      rintro e w3 ⟨rfl, hb3⟩
      go_wp2_with fail
      go_ret
      exact ⟨rfl, HB2.out.trans (hb3.mono HB2.out.size)⟩

/-- The row's contract, for every argument and every world. -/
theorem contract (H : Type) (enc : TypeId × Value → H) (W : World) (base : Nat) (args : Array Value) (ds gs : List (DataW H)) (before : List MemPlace)
    (hval : ∀ (j : Nat) t v, Tryd.f7.params[j]? = some t → args[j]? = some v → Value.okWide Tryd.prog W .any base t v)
    (hW : DataW.Whole enc Tryd.prog Tryd.f7.params.toList Rows.insApartSpec.vars false W args.toList ds gs before) (hL : laidMetH Tryd.prog Rows.insApartRow.laid W) :
    Calls Tryd.prog 7 args W fun e W' => ∃ v, e = .returned v ∧ Rows.insApartSpec.post enc Tryd.prog Tryd.f7 false true false false W args v W' := by
  have hW' := hW
  obtain ⟨p, q, hA0, hV, rfl, hfz, hnd⟩ := hW
  have hA : DataW.TrodAll enc Tryd.prog W 0 (fun _ => true) true Tryd.f7.params.toList args.toList ds p := hA0
  rw [Tryd.params7] at hA hval
  obtain ⟨v0, vs0, d0, ds0, p0, q0, hargs0, rfl, rfl, t0, r0⟩ := trodAll_cons hA
  obtain ⟨v1, vs1, d1, ds1, p1, q1, hargs1, rfl, rfl, t1, r1⟩ := trodAll_cons r0
  obtain ⟨rfl, rfl, rfl⟩ := trodAll_nil r1
  obtain rfl : args = #[v0, v1] := by cases args; simp_all
  obtain ⟨a0, b0, c0, e0, y0, z0, u0, w0, n0, rfl, rfl, hp0, ha0, hb0, hc0, he0⟩ := Joins.open_agg4 Tryd.underlying24 (by kernel_rfl) (by kernel_rfl) (hval 0 24 v0 rfl rfl) t0
  obtain ⟨xo, qha0, gha0, wfha0⟩ := DataW.trod_int Tryd.underlying3 ha0
  obtain rfl := (List.cons.inj qha0).1
  obtain ⟨xt, qhb0, ghb0, wfhb0⟩ := DataW.trod_int Tryd.underlying3 hb0
  obtain rfl := (List.cons.inj qhb0).1
  obtain ⟨xf, qhc0, ghc0, wfhc0⟩ := DataW.trod_int Tryd.underlying3 hc0
  obtain rfl := (List.cons.inj qhc0).1
  obtain ⟨xk, qhe0, ghe0, wfhe0⟩ := DataW.trod_int Tryd.underlying22 he0
  obtain rfl := (List.cons.inj qhe0).1
  have bd0 := bounds_u32 wfhe0
  obtain ⟨a1, b1, c1, e1, y1, z1, u1, w1, n1, rfl, rfl, hp1, ha1, hb1, hc1, he1⟩ := Joins.open_agg4 Tryd.underlying24 (by kernel_rfl) (by kernel_rfl) (hval 1 24 v1 rfl rfl) t1
  obtain ⟨yo, qha1, gha1, wfha1⟩ := DataW.trod_int Tryd.underlying3 ha1
  obtain rfl := (List.cons.inj qha1).1
  obtain ⟨yt, qhb1, ghb1, wfhb1⟩ := DataW.trod_int Tryd.underlying3 hb1
  obtain rfl := (List.cons.inj qhb1).1
  obtain ⟨yf, qhc1, ghc1, wfhc1⟩ := DataW.trod_int Tryd.underlying3 hc1
  obtain rfl := (List.cons.inj qhc1).1
  obtain ⟨yk, qhe1, ghe1, wfhe1⟩ := DataW.trod_int Tryd.underlying22 he1
  obtain rfl := (List.cons.inj qhe1).1
  have bd1 := bounds_u32 wfhe1
  refine (walk xo xt xf xk yo yt yf yk W bd0.1 bd0.2 bd1.1 bd1.2 (tab_of hL) (otab_of hL)).mono fun e W' ⟨he, hg⟩ => ?_
  subst he
  exact ⟨_, rfl, law_post (tb := 4) laidOut (fun t ht => by rw [Tryd.params7] at ht; revert t; exact of_decide_eq_true (by kernel_rfl)) (by kernel_rfl) Tryd.underlying4 rfl
    (fun ds h => by rw [Tryd.params7] at h; match ds, h with | [_, _], _ => rfl) hW' hg⟩

theorem laid_met (os : Os) : laidMet Tryd.prog Rows.insApartRow.laid ((laidWorld os).forCall (fun _ _ => 0) ⟨#[], #[.agg #[.int .i64 0, .int .i64 0, .int .i64 0, .int .u32 0], .agg #[.int .i64 0, .int .i64 0, .int .i64 0, .int .u32 0]], []⟩).memory :=
  laidMet_of_run' 8 (by kernel_rfl) (by kernel_rfl)
theorem reads (os : Os) {H : Type} (enc : TypeId × Value → H) : ∃ places, DataW.whole enc Tryd.prog ((laidWorld os).forCall (fun _ _ => 0) ⟨#[], #[.agg #[.int .i64 0, .int .i64 0, .int .i64 0, .int .u32 0], .agg #[.int .i64 0, .int .i64 0, .int .i64 0, .int .u32 0]], []⟩).memory Tryd.f7.params.toList Rows.insApartSpec.vars false #[Value.agg #[.int .i64 0, .int .i64 0, .int .i64 0, .int .u32 0], Value.agg #[.int .i64 0, .int .i64 0, .int .i64 0, .int .u32 0]].toList 8 = some ([.agg [.lit (.int .i64 0), .lit (.int .i64 0), .lit (.int .i64 0), .lit (.int .u32 0)], .agg [.lit (.int .i64 0), .lit (.int .i64 0), .lit (.int .i64 0), .lit (.int .u32 0)]], [], places) :=
  ⟨[], by kernel_rfl⟩

set_option maxRecDepth 100000 in
theorem lifted (os : Os) (started : os.Started) (H : Type) (enc : TypeId × Value → H) (F : Stop.Interp) :
    ReturnsInHanded {} Tryd.checked os 7 .any ((OpenSpec.ofChange Rows.insApartSpec).preRow enc Tryd.prog Tryd.f7 Rows.insApartRow.domain false Rows.insApartRow.laid) (((OpenSpec.ofChange Rows.insApartSpec).at F).post enc Tryd.prog Tryd.f7 false true false false) := by
  obtain ⟨places, hx⟩ := reads os enc
  refine returnsInHanded_of_row (C := Tryd.checked) (s := OpenSpec.ofChange Rows.insApartSpec) own started (by kernel_rfl) Tryd.func7
    (witness_row_at (enc := enc) (C := Tryd.checked) false (laidWorld os) #[.agg #[.int .i64 0, .int .i64 0, .int .i64 0, .int .u32 0], .agg #[.int .i64 0, .int .i64 0, .int .i64 0, .int .u32 0]] rfl (by kernel_rfl) (by kernel_rfl) (by kernel_rfl)
      (OpenSpec.preRow_of_cond 8 hx (by kernel_rfl) (fun k hk => by cases hk) (by kernel_rfl) (laid_met os))) ?_
  intro W base args ds gs before hval hW _ _ _ hL _ _
  exact contract H enc W base args ds gs before hval hW hL

theorem said : Rows.InsApartSaid :=
  OpenClaim.holds_of_cond 7 Tryd.f7 rfl rfl rfl rfl rfl rfl rfl ⟨rfl, rfl, rfl, rfl, rfl⟩ rfl rfl rfl rfl rfl (by kernel_rfl) Tryd.func7 (by kernel_rfl)
    (of_decide_eq_true (by kernel_rfl)) (by unfold Func.isWrapper; first | (rw [if_pos (by decide +kernel)]; kernel_rfl) | (rw [if_neg (by decide +kernel)]; exact ⟨rfl, rfl⟩))
    (fun os started H enc _ F => by rw [OpenClaim.pre_eq_preRow]; exact lifted os started H enc F)

/-- No parameter wants a stand-in; the program's own looks are off. -/
theorem plain (f : FuncId) (fn : Func) (hf : Tryd.pinned.checked.prog.funcNamed "hurdle/hurdlelaw02.InsApart" = some f) (hfn : Tryd.pinned.checked.prog.funcs[f]? = some fn) :
    false = Tryd.pinned.checked.prog.looks [] ∧ ∀ (j : Nat) t, fn.params[j]? = some t → Tryd.pinned.checked.prog.wantsStandIn t = false := by
  obtain rfl : f = 7 := Option.some.inj ((show Tryd.prog.funcNamed "hurdle/hurdlelaw02.InsApart" = some 7 by kernel_rfl).symm.trans hf) |>.symm
  obtain rfl : fn = Tryd.f7 := (Option.some.inj (Tryd.func7.symm.trans hfn)).symm
  refine ⟨by kernel_rfl, fun j t ht => ?_⟩
  have hm := Array.mem_of_getElem? ht
  rw [Tryd.params7] at hm
  have all : ∀ t ∈ (#[24, 24] : Array TypeId).toList, Tryd.prog.wantsStandIn t = false := of_decide_eq_true (by kernel_rfl)
  exact all t (Array.mem_toList_iff.2 hm)

/-- The tied card. -/
theorem card : Rows.InsApartCardSaid :=
  Claim7.holds_tied_plain_at .later [] _ _ _ _ said (fun _ h => by cases h) (by kernel_rfl) (fun _ h => by cases h) insApart_row_tie rfl ⟨rfl, rfl⟩ (by kernel_rfl) rfl plain (by kernel_rfl)
end Go.Proofs.YtjniifgacidojaaDoor.insApart
