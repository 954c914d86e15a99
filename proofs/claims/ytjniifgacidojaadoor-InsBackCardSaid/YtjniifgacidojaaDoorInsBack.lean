/-
  For every instruction and every text, in every world that has the tables of math/bits, of strconv and of package ins as their initialisers lay them: the law InsBack returns true and changes nothing that was there.
-/
import Derived.Test.YtjniifgacidojaaDoorIFrame
namespace Go.Proofs.YtjniifgacidojaaDoor.insBack
open Go.ChangeShapes Go.WideShapes Go.ChangeAt Go.RowKit

set_option maxHeartbeats 4000000 in
theorem walk (xo xt xf xk : Int) (s : ByteArray) (w : World) (hx0 : 0 ≤ xk) (hx1 : xk ≤ 4294967295) (hs : s.size ≤ maxLen) (hT : Tab w) (ht : OTab w) :
    Calls Tryd.prog 6 #[insV xo xt xf xk, .string s] w fun e w' => e = .returned (.bool true) ∧ Below w.heap.size w w' := by
  unfold maxLen at hs
  have hb0 := ba (insB xo xt xf xk) (Below.refl w.heap.size w)
  have hX0 : (w.alloc (insB xo xt xf xk)).heap[w.heap.size]? = some (insB xo xt xf xk) := heap_alloc_new _ _
  have HB0 := Lib.hid hb0
  have HX0 := Lib.hid hX0
  clear hb0 hX0
  by_cases hl : 1000 < s.size
  · go_enter Tryd.func6, Tryd.ntmps6
    go_wp2_with fail
    refine (iknows_any _ (hT.below HB0.out) (ht.below HB0.out)).mono ?_
    rintro e w3 ⟨rfl, hb3⟩
    go_wp2_with fail
    go_ret
    exact ⟨rfl, HB0.out.trans (hb3.mono HB0.out.size)⟩
  · go_enter Tryd.func6, Tryd.ntmps6
    go_wp2_with fail
    refine (print_any _ _ _ _ _ (ht.below HB0.out) (hT.below HB0.out) hx0 hx1).mono ?_
    rintro e w1 ⟨he1, hb1⟩
    have hX1 := (hb1.block _ (lt_of_block HX0.out)).trans HX0.out
    have HB1 := Lib.hid (HB0.out.trans (hb1.mono HB0.out.size))
    have HX1 := Lib.hid hX1
    clear hX1 hb1 HX0 HB0
    rcases he1 with ⟨r, a, b, c, hr, hf, rfl, rfl, rfl, rfl, rfl⟩ | ⟨_, rfl⟩
    · have HR := Lib.hid hr
      have HF := Lib.hid hf
      clear hr hf
      go_wp2_with fail
      refine (parse_row HR.out HF.out _ (ht.below HB1.out)).mono ?_
      rintro e w2 ⟨rfl, hb2⟩
      have hX2 := (hb2.block _ (lt_of_block HX1.out)).trans HX1.out
      have sx := lt_of_block hX2
      have x0 : w2.cell? ⟨w.heap.size, 0, none⟩ = some (.int .i64 r.op) := cell_in hX2 0
      have x1 : w2.cell? ⟨w.heap.size, 1, none⟩ = some (.int .i64 a) := cell_in hX2 1
      have x2 : w2.cell? ⟨w.heap.size, 2, none⟩ = some (.int .i64 b) := cell_in hX2 2
      have x3 : w2.cell? ⟨w.heap.size, 3, none⟩ = some (.int .u32 c) := cell_in hX2 3
      have HBp := Lib.hid (ba (insB r.op a b c) (HB1.out.trans (hb2.mono HB1.out.size)))
      clear hX2 hb2 HX1 HB1
      go_wp2_with fail
      refine (iparse_any s _ (by omega) (ht.below HBp.out)).mono ?_
      rintro e w3 ⟨he3, hb3⟩
      have HB3 := Lib.hid (HBp.out.trans (hb3.mono HBp.out.size))
      clear hb3
      rcases he3 with ⟨r', a', b', c', hr', hf', hs', rfl⟩ | ⟨_, rfl⟩
      · have HR' := Lib.hid hr'
        have HF' := Lib.hid hf'
        have hse : itxt r' a' b' c' = s := by apply ByteArray.ext; apply Array.ext'; rw [itxt_list, hs']
        have hsb : ((itxt r' a' b' c').toList == s.toList) = true := by rw [hse]; exact beq_self_eq_true _
        clear hr' hf' hs' hse
        have HB3' := Lib.hid (ba (insB r'.op a' b' c') HB3.out)
        have hY3 : (w3.alloc (insB r'.op a' b' c')).heap[w3.heap.size]? = some (insB r'.op a' b' c') := heap_alloc_new _ _
        have HY3 := Lib.hid hY3
        clear hY3
        go_wp2_with fail
        refine (print_row HR'.out HF'.out _ (ht.below HB3'.out) (hT.below HB3'.out)).mono ?_
        rintro e w4 ⟨rfl, hb4⟩
        have hY4 := (hb4.block _ (lt_of_block HY3.out)).trans HY3.out
        have HB4 := Lib.hid (HB3'.out.trans (hb4.mono HB3'.out.size))
        have y0 : w4.cell? ⟨w3.heap.size, 0, none⟩ = some (.int .i64 r'.op) := cell_in hY4 0
        have y1 : w4.cell? ⟨w3.heap.size, 1, none⟩ = some (.int .i64 a') := cell_in hY4 1
        have y2 : w4.cell? ⟨w3.heap.size, 2, none⟩ = some (.int .i64 b') := cell_in hY4 2
        have y3 : w4.cell? ⟨w3.heap.size, 3, none⟩ = some (.int .u32 c') := cell_in hY4 3
        clear hb4 hY4 HY3 HB3' HB3 HBp
        go_wp2_with fail
        refine (right_any _ _ _ _ _ (ht.below HB4.out)).mono ?_
        rintro e w5 ⟨rfl, hb5⟩
        have hright := right_of HR'.out HF'.out
        have HB5 := Lib.hid (HB4.out.trans (hb5.mono HB4.out.size))
        clear hb5 y0 y1 y2 y3 HB4
        go_wp2_with fail
        refine (iknows_any _ (hT.below HB5.out) (ht.below HB5.out)).mono ?_
        rintro e w6 ⟨rfl, hb6⟩
        go_wp2_with fail
        go_ret
        exact ⟨rfl, HB5.out.trans (hb6.mono HB5.out.size)⟩
      · have HB3' := Lib.hid (ba (insB 0 0 0 0) HB3.out)
        go_wp2_with fail
        refine (iknows_any _ (hT.below HB3'.out) (ht.below HB3'.out)).mono ?_
        rintro e w6 ⟨rfl, hb6⟩
        go_wp2_with fail
        go_ret
        exact ⟨rfl, HB3'.out.trans (hb6.mono HB3'.out.size)⟩
    · go_wp2_with fail
      have HBp := HB1
      refine (iparse_any s _ (by omega) (ht.below HBp.out)).mono ?_
      rintro e w3 ⟨he3, hb3⟩
      have HB3 := Lib.hid (HBp.out.trans (hb3.mono HBp.out.size))
      clear hb3
      rcases he3 with ⟨r', a', b', c', hr', hf', hs', rfl⟩ | ⟨_, rfl⟩
      · have HR' := Lib.hid hr'
        have HF' := Lib.hid hf'
        have hse : itxt r' a' b' c' = s := by apply ByteArray.ext; apply Array.ext'; rw [itxt_list, hs']
        have hsb : ((itxt r' a' b' c').toList == s.toList) = true := by rw [hse]; exact beq_self_eq_true _
        clear hr' hf' hs' hse
        have HB3' := Lib.hid (ba (insB r'.op a' b' c') HB3.out)
        have hY3 : (w3.alloc (insB r'.op a' b' c')).heap[w3.heap.size]? = some (insB r'.op a' b' c') := heap_alloc_new _ _
        have HY3 := Lib.hid hY3
        clear hY3
        go_wp2_with fail
        refine (print_row HR'.out HF'.out _ (ht.below HB3'.out) (hT.below HB3'.out)).mono ?_
        rintro e w4 ⟨rfl, hb4⟩
        have hY4 := (hb4.block _ (lt_of_block HY3.out)).trans HY3.out
        have HB4 := Lib.hid (HB3'.out.trans (hb4.mono HB3'.out.size))
        have y0 : w4.cell? ⟨w3.heap.size, 0, none⟩ = some (.int .i64 r'.op) := cell_in hY4 0
        have y1 : w4.cell? ⟨w3.heap.size, 1, none⟩ = some (.int .i64 a') := cell_in hY4 1
        have y2 : w4.cell? ⟨w3.heap.size, 2, none⟩ = some (.int .i64 b') := cell_in hY4 2
        have y3 : w4.cell? ⟨w3.heap.size, 3, none⟩ = some (.int .u32 c') := cell_in hY4 3
        clear hb4 hY4 HY3 HB3' HB3 HBp
        go_wp2_with fail
        refine (right_any _ _ _ _ _ (ht.below HB4.out)).mono ?_
        rintro e w5 ⟨rfl, hb5⟩
        have hright := right_of HR'.out HF'.out
        have HB5 := Lib.hid (HB4.out.trans (hb5.mono HB4.out.size))
        clear hb5 y0 y1 y2 y3 HB4
        go_wp2_with fail
        refine (iknows_any _ (hT.below HB5.out) (ht.below HB5.out)).mono ?_
        rintro e w6 ⟨rfl, hb6⟩
        go_wp2_with fail
        go_ret
        exact ⟨rfl, HB5.out.trans (hb6.mono HB5.out.size)⟩
      · have HB3' := Lib.hid (ba (insB 0 0 0 0) HB3.out)
        go_wp2_with fail
        refine (iknows_any _ (hT.below HB3'.out) (ht.below HB3'.out)).mono ?_
        rintro e w6 ⟨rfl, hb6⟩
        go_wp2_with fail
        go_ret
        exact ⟨rfl, HB3'.out.trans (hb6.mono HB3'.out.size)⟩

/-- The row's contract, for every argument and every world. -/
theorem contract (H : Type) (enc : TypeId × Value → H) (W : World) (base : Nat) (args : Array Value) (ds gs : List (DataW H)) (before : List MemPlace)
    (hval : ∀ (j : Nat) t v, Tryd.f6.params[j]? = some t → args[j]? = some v → Value.okWide Tryd.prog W .any base t v)
    (hW : DataW.Whole enc Tryd.prog Tryd.f6.params.toList Rows.insBackSpec.vars false W args.toList ds gs before) (hL : laidMetH Tryd.prog Rows.insBackRow.laid W) :
    Calls Tryd.prog 6 args W fun e W' => ∃ v, e = .returned v ∧ Rows.insBackSpec.post enc Tryd.prog Tryd.f6 false true false false W args v W' := by
  have hW' := hW
  obtain ⟨p, q, hA0, hV, rfl, hfz, hnd⟩ := hW
  have hA : DataW.TrodAll enc Tryd.prog W 0 (fun _ => true) true Tryd.f6.params.toList args.toList ds p := hA0
  rw [Tryd.params6] at hA hval
  obtain ⟨v0, vs0, d0, ds0, p0, q0, hargs0, rfl, rfl, t0, r0⟩ := trodAll_cons hA
  obtain ⟨v1, vs1, d1, ds1, p1, q1, hargs1, rfl, rfl, t1, r1⟩ := trodAll_cons r0
  obtain ⟨rfl, rfl, rfl⟩ := trodAll_nil r1
  obtain rfl : args = #[v0, v1] := by cases args; simp_all
  obtain ⟨a0, b0, c0, e0, y0, z0, u0, w0, n0, rfl, rfl, hp0, ha0, hb0, hc0, he0⟩ := Joins.open_agg4 Tryd.underlying24 (by kernel_rfl) (by kernel_rfl) (hval 0 24 v0 rfl rfl) t0
  obtain ⟨xo, qha0, gha0, wfha0⟩ := DataW.trod_int Tryd.underlying3 ha0
  obtain rfl := (List.cons.inj qha0).1
  obtain ⟨xt, qhb0, ghb0, wfhb0⟩ := DataW.trod_int Tryd.underlying3 hb0
  obtain rfl := (List.cons.inj qhb0).1
  obtain ⟨xf, qhc0, ghc0, wfhc0⟩ := DataW.trod_int Tryd.underlying3 hc0
  obtain rfl := (List.cons.inj qhc0).1
  obtain ⟨xk, qhe0, ghe0, wfhe0⟩ := DataW.trod_int Tryd.underlying22 he0
  obtain rfl := (List.cons.inj qhe0).1
  have bd0 := bounds_u32 wfhe0
  obtain ⟨s, rfl, rfl, rfl, hs1⟩ := ChangeMaps.open_string Tryd.underlying9 (hval 1 9 v1 rfl rfl) t1
  refine (walk xo xt xf xk s W bd0.1 bd0.2 hs1 (tab_of hL) (otab_of hL)).mono fun e W' ⟨he, hg⟩ => ?_
  subst he
  exact ⟨_, rfl, law_post (tb := 4) laidOut (fun t ht => by rw [Tryd.params6] at ht; revert t; exact of_decide_eq_true (by kernel_rfl)) (by kernel_rfl) Tryd.underlying4 rfl
    (fun ds h => by rw [Tryd.params6] at h; match ds, h with | [_, _], _ => rfl) hW' hg⟩

theorem laid_met (os : Os) : laidMet Tryd.prog Rows.insBackRow.laid ((laidWorld os).forCall (fun _ _ => 0) ⟨#[], #[.agg #[.int .i64 0, .int .i64 0, .int .i64 0, .int .u32 0], .string ByteArray.empty], []⟩).memory :=
  laidMet_of_run' 8 (by kernel_rfl) (by kernel_rfl)
theorem reads (os : Os) {H : Type} (enc : TypeId × Value → H) : ∃ places, DataW.whole enc Tryd.prog ((laidWorld os).forCall (fun _ _ => 0) ⟨#[], #[.agg #[.int .i64 0, .int .i64 0, .int .i64 0, .int .u32 0], .string ByteArray.empty], []⟩).memory Tryd.f6.params.toList Rows.insBackSpec.vars false #[Value.agg #[.int .i64 0, .int .i64 0, .int .i64 0, .int .u32 0], Value.string ByteArray.empty].toList 8 = some ([.agg [.lit (.int .i64 0), .lit (.int .i64 0), .lit (.int .i64 0), .lit (.int .u32 0)], .lit (.string [])], [], places) :=
  ⟨[], by kernel_rfl⟩

set_option maxRecDepth 100000 in
theorem lifted (os : Os) (started : os.Started) (H : Type) (enc : TypeId × Value → H) (F : Stop.Interp) :
    ReturnsInHanded {} Tryd.checked os 6 .any ((OpenSpec.ofChange Rows.insBackSpec).preRow enc Tryd.prog Tryd.f6 Rows.insBackRow.domain false Rows.insBackRow.laid) (((OpenSpec.ofChange Rows.insBackSpec).at F).post enc Tryd.prog Tryd.f6 false true false false) := by
  obtain ⟨places, hx⟩ := reads os enc
  refine returnsInHanded_of_row (C := Tryd.checked) (s := OpenSpec.ofChange Rows.insBackSpec) own started (by kernel_rfl) Tryd.func6
    (witness_row_at (enc := enc) (C := Tryd.checked) false (laidWorld os) #[.agg #[.int .i64 0, .int .i64 0, .int .i64 0, .int .u32 0], .string ByteArray.empty] rfl (by kernel_rfl) (by kernel_rfl) (by kernel_rfl)
      (OpenSpec.preRow_of_cond 8 hx (by kernel_rfl) (fun k hk => by cases hk) (by kernel_rfl) (laid_met os))) ?_
  intro W base args ds gs before hval hW _ _ _ hL _ _
  exact contract H enc W base args ds gs before hval hW hL

theorem said : Rows.InsBackSaid :=
  OpenClaim.holds_of_cond 6 Tryd.f6 rfl rfl rfl rfl rfl rfl rfl ⟨rfl, rfl, rfl, rfl, rfl⟩ rfl rfl rfl rfl rfl (by kernel_rfl) Tryd.func6 (by kernel_rfl)
    (of_decide_eq_true (by kernel_rfl)) (by unfold Func.isWrapper; first | (rw [if_pos (by decide +kernel)]; kernel_rfl) | (rw [if_neg (by decide +kernel)]; exact ⟨rfl, rfl⟩))
    (fun os started H enc _ F => by rw [OpenClaim.pre_eq_preRow]; exact lifted os started H enc F)

/-- No parameter wants a stand-in; the program's own looks are off. -/
theorem plain (f : FuncId) (fn : Func) (hf : Tryd.pinned.checked.prog.funcNamed "hurdle/hurdlelaw02.InsBack" = some f) (hfn : Tryd.pinned.checked.prog.funcs[f]? = some fn) :
    false = Tryd.pinned.checked.prog.looks [] ∧ ∀ (j : Nat) t, fn.params[j]? = some t → Tryd.pinned.checked.prog.wantsStandIn t = false := by
  obtain rfl : f = 6 := Option.some.inj ((show Tryd.prog.funcNamed "hurdle/hurdlelaw02.InsBack" = some 6 by kernel_rfl).symm.trans hf) |>.symm
  obtain rfl : fn = Tryd.f6 := (Option.some.inj (Tryd.func6.symm.trans hfn)).symm
  refine ⟨by kernel_rfl, fun j t ht => ?_⟩
  have hm := Array.mem_of_getElem? ht
  rw [Tryd.params6] at hm
  have all : ∀ t ∈ (#[24, 9] : Array TypeId).toList, Tryd.prog.wantsStandIn t = false := of_decide_eq_true (by kernel_rfl)
  exact all t (Array.mem_toList_iff.2 hm)

/-- The tied card. -/
theorem card : Rows.InsBackCardSaid :=
  Claim7.holds_tied_plain_at .later [] _ _ _ _ said (fun _ h => by cases h) (by kernel_rfl) (fun _ h => by cases h) insBack_row_tie rfl ⟨rfl, rfl⟩ (by kernel_rfl) rfl plain (by kernel_rfl)
end Go.Proofs.YtjniifgacidojaaDoor.insBack
