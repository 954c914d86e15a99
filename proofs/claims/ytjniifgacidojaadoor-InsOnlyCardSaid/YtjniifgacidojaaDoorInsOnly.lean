/-
  For every instruction, in every world that has the tables of math/bits, of strconv and of package ins as their initialisers lay them: the law InsOnly returns true and changes nothing that was there.
-/
import Derived.Test.YtjniifgacidojaaDoorIFrame
import Derived.Test.YtjniifgacidojaaDoorRKind
namespace Go.Proofs.YtjniifgacidojaaDoor.insOnly
open Go.ChangeShapes Go.WideShapes Go.ChangeAt Go.RowKit

theorem rows_only : ∀ r ∈ Ip.rows, ((r.fmt == 3 || r.fmt == 1) = true → Ip.hasJ r.fmt = false ∧ (r.op == 6 || r.op == 22) = false) ∧ (Ip.hasJ r.fmt = true → (r.op == 6 || r.op == 22) = false) ∧ Ip.fits r.fmt 0 0 0 = true := by decide
theorem only_one (op : Int) : (aluB op = true → isBranch op = false ∧ (op == 6 || op == 22) = false ∧ right op 0 0 0 = true) ∧ (isBranch op = true → (op == 6 || op == 22) = false ∧ right op 0 0 0 = true) ∧ ((op == 6 || op == 22) = true → right op 0 0 0 = true) := by
  unfold aluB isBranch right
  cases hb : Ip.byOp op with
  | none =>
    refine ⟨(fun h => by cases h), (fun h => by cases h), fun h => ?_⟩
    exfalso
    have h2 : op = 6 ∨ op = 22 := by simpa using h
    rcases h2 with rfl | rfl
    · exact absurd hb (by decide)
    · exact absurd hb (by decide)
  | some r =>
    obtain ⟨hr, ho⟩ := Ip.byOp_op hb
    obtain ⟨h1, h2, h3⟩ := rows_only r hr
    rw [ho] at h1 h2
    simp only [Option.isSome_some, Option.getD_some, Bool.true_and]
    exact ⟨fun h => ⟨(h1 h).1, (h1 h).2, h3⟩, fun h => ⟨h2 h, h3⟩, fun _ => h3⟩

set_option maxHeartbeats 1000000 in
theorem walk (xo xt xf xk : Int) (w : World) (_ : 0 ≤ xk) (_ : xk ≤ 4294967295) (hT : Tab w) (ht : OTab w) :
    Calls Tryd.prog 8 #[insV xo xt xf xk] w fun e w' => e = .returned (.bool true) ∧ Below w.heap.size w w' := by
  have HB0 := Lib.hid (ba (insB xo xt xf xk) (Below.refl w.heap.size w))
  have HX0 : Hid ((w.alloc (insB xo xt xf xk)).heap[w.heap.size]? = some (insB xo xt xf xk)) := Lib.hid (heap_alloc_new _ _)
  have HO := Lib.hid (only_one xo)
  go_enter Tryd.func8, Tryd.ntmps8
  go_wp2_with fail
  refine (alu_is _ _ _ _ _ (ht.below HB0.out)).mono ?_
  rintro e w1 ⟨rfl, hb1⟩
  have hX1 := (hb1.block _ (lt_of_block HX0.out)).trans HX0.out
  have HB1 := Lib.hid (HB0.out.trans (hb1.mono HB0.out.size))
  have c0 : w1.cell? ⟨w.heap.size, 0, none⟩ = some (.int .i64 xo) := cell_in hX1 0
  have c1 : w1.cell? ⟨w.heap.size, 1, none⟩ = some (.int .i64 xt) := cell_in hX1 1
  have c2 : w1.cell? ⟨w.heap.size, 2, none⟩ = some (.int .i64 xf) := cell_in hX1 2
  have c3 : w1.cell? ⟨w.heap.size, 3, none⟩ = some (.int .u32 xk) := cell_in hX1 3
  have HX1 := Lib.hid hX1
  clear hb1 hX1 HX0 HB0
  cases hA : aluB xo <;> cases hBr : isBranch xo <;> cases hE : (xo == 6 || xo == 22)
  all_goals first
    | (exfalso
       have h := HO.out
       rw [hA, hBr, hE] at h
       revert h
       simp
       done)
    | (try have hR : right xo 0 0 0 = true := HO.out.1 hA |>.2.2
       try have hR : right xo 0 0 0 = true := HO.out.2.1 hBr |>.2
       try have hR : right xo 0 0 0 = true := HO.out.2.2 hE
       go_wp2_with fail
       refine (branch_any _ _ _ _ _ (ht.below HB1.out)).mono ?_
       rintro e w3 ⟨rfl, hb3⟩
       have hX3 := (hb3.block _ (lt_of_block HX1.out)).trans HX1.out
       have HB3 := Lib.hid (HB1.out.trans (hb3.mono HB1.out.size))
       clear c0 c1 c2 c3
       have c0 : w3.cell? ⟨w.heap.size, 0, none⟩ = some (.int .i64 xo) := cell_in hX3 0
       have c1 : w3.cell? ⟨w.heap.size, 1, none⟩ = some (.int .i64 xt) := cell_in hX3 1
       have c2 : w3.cell? ⟨w.heap.size, 2, none⟩ = some (.int .i64 xf) := cell_in hX3 2
       have c3 : w3.cell? ⟨w.heap.size, 3, none⟩ = some (.int .u32 xk) := cell_in hX3 3
       have HX3 := Lib.hid hX3
       clear hb3 hX3 HX1
       go_wp2_with fail
       refine (ends_any _ _ _ _ _).mono ?_
       rintro e w5 ⟨rfl, hb5⟩
       have hX5 := (hb5.block _ (lt_of_block HX3.out)).trans HX3.out
       have HB5 := Lib.hid (HB3.out.trans (hb5.mono HB3.out.size))
       clear c0 c1 c2 c3
       have c0 : w5.cell? ⟨w.heap.size, 0, none⟩ = some (.int .i64 xo) := cell_in hX5 0
       clear hb5 hX5 HX3 HB3
       go_wp2_with fail
       first
         | ((with_reducible refine (iknows_any _ (hT.below HB5.out) (ht.below HB5.out)).mono ?_)
            rintro e w7 ⟨rfl, hb7⟩
            go_wp2_with fail
            go_ret
            exact ⟨rfl, HB5.out.trans (hb7.mono HB5.out.size)⟩)
         | (refine (refRight_any _ _ _ _ _).mono ?_
            rintro e w6 ⟨rfl, hb6⟩
            have HB6 := Lib.hid (HB5.out.trans (hb6.mono HB5.out.size))
            clear hb6 HB5 c0
            go_wp2_with fail
            refine (iknows_any _ (hT.below HB6.out) (ht.below HB6.out)).mono ?_
            rintro e w7 ⟨rfl, hb7⟩
            go_wp2_with fail
            go_ret
            exact ⟨rfl, HB6.out.trans (hb7.mono HB6.out.size)⟩))

/-- The row's contract, for every argument and every world. -/
theorem contract (H : Type) (enc : TypeId × Value → H) (W : World) (base : Nat) (args : Array Value) (ds gs : List (DataW H)) (before : List MemPlace)
    (hval : ∀ (j : Nat) t v, Tryd.f8.params[j]? = some t → args[j]? = some v → Value.okWide Tryd.prog W .any base t v)
    (hW : DataW.Whole enc Tryd.prog Tryd.f8.params.toList Rows.insOnlySpec.vars false W args.toList ds gs before) (hL : laidMetH Tryd.prog Rows.insOnlyRow.laid W) :
    Calls Tryd.prog 8 args W fun e W' => ∃ v, e = .returned v ∧ Rows.insOnlySpec.post enc Tryd.prog Tryd.f8 false true false false W args v W' := by
  have hW' := hW
  obtain ⟨p, q, hA0, hV, rfl, hfz, hnd⟩ := hW
  have hA : DataW.TrodAll enc Tryd.prog W 0 (fun _ => true) true Tryd.f8.params.toList args.toList ds p := hA0
  rw [Tryd.params8] at hA hval
  obtain ⟨v0, vs0, d0, ds0, p0, q0, hargs0, rfl, rfl, t0, r0⟩ := trodAll_cons hA
  obtain ⟨rfl, rfl, rfl⟩ := trodAll_nil r0
  obtain rfl : args = #[v0] := by cases args; simp_all
  obtain ⟨a0, b0, c0, e0, y0, z0, u0, w0, n0, rfl, rfl, hp0, ha0, hb0, hc0, he0⟩ := Joins.open_agg4 Tryd.underlying24 (by kernel_rfl) (by kernel_rfl) (hval 0 24 v0 rfl rfl) t0
  obtain ⟨xo, qha0, gha0, wfha0⟩ := DataW.trod_int Tryd.underlying3 ha0
  obtain rfl := (List.cons.inj qha0).1
  obtain ⟨xt, qhb0, ghb0, wfhb0⟩ := DataW.trod_int Tryd.underlying3 hb0
  obtain rfl := (List.cons.inj qhb0).1
  obtain ⟨xf, qhc0, ghc0, wfhc0⟩ := DataW.trod_int Tryd.underlying3 hc0
  obtain rfl := (List.cons.inj qhc0).1
  obtain ⟨xk, qhe0, ghe0, wfhe0⟩ := DataW.trod_int Tryd.underlying22 he0
  obtain rfl := (List.cons.inj qhe0).1
  have bd0 := bounds_u32 wfhe0
  refine (walk xo xt xf xk W bd0.1 bd0.2 (tab_of hL) (otab_of hL)).mono fun e W' ⟨he, hg⟩ => ?_
  subst he
  exact ⟨_, rfl, law_post (tb := 4) laidOut (fun t ht => by rw [Tryd.params8] at ht; revert t; exact of_decide_eq_true (by kernel_rfl)) (by kernel_rfl) Tryd.underlying4 rfl
    (fun ds h => by rw [Tryd.params8] at h; match ds, h with | [_], _ => rfl) hW' hg⟩

theorem laid_met (os : Os) : laidMet Tryd.prog Rows.insOnlyRow.laid ((laidWorld os).forCall (fun _ _ => 0) ⟨#[], #[.agg #[.int .i64 0, .int .i64 0, .int .i64 0, .int .u32 0]], []⟩).memory :=
  laidMet_of_run' 8 (by kernel_rfl) (by kernel_rfl)
theorem reads (os : Os) {H : Type} (enc : TypeId × Value → H) : ∃ places, DataW.whole enc Tryd.prog ((laidWorld os).forCall (fun _ _ => 0) ⟨#[], #[.agg #[.int .i64 0, .int .i64 0, .int .i64 0, .int .u32 0]], []⟩).memory Tryd.f8.params.toList Rows.insOnlySpec.vars false #[Value.agg #[.int .i64 0, .int .i64 0, .int .i64 0, .int .u32 0]].toList 8 = some ([.agg [.lit (.int .i64 0), .lit (.int .i64 0), .lit (.int .i64 0), .lit (.int .u32 0)]], [], places) :=
  ⟨[], by kernel_rfl⟩

set_option maxRecDepth 100000 in
theorem lifted (os : Os) (started : os.Started) (H : Type) (enc : TypeId × Value → H) (F : Stop.Interp) :
    ReturnsInHanded {} Tryd.checked os 8 .any ((OpenSpec.ofChange Rows.insOnlySpec).preRow enc Tryd.prog Tryd.f8 Rows.insOnlyRow.domain false Rows.insOnlyRow.laid) (((OpenSpec.ofChange Rows.insOnlySpec).at F).post enc Tryd.prog Tryd.f8 false true false false) := by
  obtain ⟨places, hx⟩ := reads os enc
  refine returnsInHanded_of_row (C := Tryd.checked) (s := OpenSpec.ofChange Rows.insOnlySpec) own started (by kernel_rfl) Tryd.func8
    (witness_row_at (enc := enc) (C := Tryd.checked) false (laidWorld os) #[.agg #[.int .i64 0, .int .i64 0, .int .i64 0, .int .u32 0]] rfl (by kernel_rfl) (by kernel_rfl) (by kernel_rfl)
      (OpenSpec.preRow_of_cond 8 hx (by kernel_rfl) (fun k hk => by cases hk) (by kernel_rfl) (laid_met os))) ?_
  intro W base args ds gs before hval hW _ _ _ hL _ _
  exact contract H enc W base args ds gs before hval hW hL

theorem said : Rows.InsOnlySaid :=
  OpenClaim.holds_of_cond 8 Tryd.f8 rfl rfl rfl rfl rfl rfl rfl ⟨rfl, rfl, rfl, rfl, rfl⟩ rfl rfl rfl rfl rfl (by kernel_rfl) Tryd.func8 (by kernel_rfl)
    (of_decide_eq_true (by kernel_rfl)) (by unfold Func.isWrapper; first | (rw [if_pos (by decide +kernel)]; kernel_rfl) | (rw [if_neg (by decide +kernel)]; exact ⟨rfl, rfl⟩))
    (fun os started H enc _ F => by rw [OpenClaim.pre_eq_preRow]; exact lifted os started H enc F)

/-- No parameter wants a stand-in; the program's own looks are off. -/
theorem plain (f : FuncId) (fn : Func) (hf : Tryd.pinned.checked.prog.funcNamed "hurdle/hurdlelaw02.InsOnly" = some f) (hfn : Tryd.pinned.checked.prog.funcs[f]? = some fn) :
    false = Tryd.pinned.checked.prog.looks [] ∧ ∀ (j : Nat) t, fn.params[j]? = some t → Tryd.pinned.checked.prog.wantsStandIn t = false := by
  obtain rfl : f = 8 := Option.some.inj ((show Tryd.prog.funcNamed "hurdle/hurdlelaw02.InsOnly" = some 8 by kernel_rfl).symm.trans hf) |>.symm
  obtain rfl : fn = Tryd.f8 := (Option.some.inj (Tryd.func8.symm.trans hfn)).symm
  refine ⟨by kernel_rfl, fun j t ht => ?_⟩
  have hm := Array.mem_of_getElem? ht
  rw [Tryd.params8] at hm
  have all : ∀ t ∈ (#[24] : Array TypeId).toList, Tryd.prog.wantsStandIn t = false := of_decide_eq_true (by kernel_rfl)
  exact all t (Array.mem_toList_iff.2 hm)

/-- The tied card. -/
theorem card : Rows.InsOnlyCardSaid :=
  Claim7.holds_tied_plain_at .later [] _ _ _ _ said (fun _ h => by cases h) (by kernel_rfl) (fun _ h => by cases h) insOnly_row_tie rfl ⟨rfl, rfl⟩ (by kernel_rfl) rfl plain (by kernel_rfl)
end Go.Proofs.YtjniifgacidojaaDoor.insOnly
