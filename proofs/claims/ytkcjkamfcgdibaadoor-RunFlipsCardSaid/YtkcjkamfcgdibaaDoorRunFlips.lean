/-
  For every state and every number, in every world that has the table of package ins as its initialiser lays it: the law RunFlips returns true and changes nothing that was there.
-/
import Derived.Test.YtkcjkamfcgdibaaDoorUFrame
import Derived.Test.YtkcjkamfcgdibaaDoorRefDoAll
import Derived.Test.YtkcjkamfcgdibaaDoorURTakes
namespace Go.Proofs.YtkcjkamfcgdibaaDoor.runFlips
open Go.ChangeShapes Go.WideShapes Go.ChangeAt Go.RowKit

/-- A whole state is read, where the operation is guarded, and wanted. -/
theorem ld_stG {ops : Array Oper} {rest : List Oper} {o : Oper} {a : Act} {w : World} {Q : Exit → Act → World → Prop} {g : Nat} {s : St} {x : Operand} (hG : w.heap[g]? = some (stB s)) (hw : Region.wanted o (yielded ops a.tmps) = true) (ho : o.op = .load 25 x) (hx : a.eval x = .pointer (some ⟨g, 0, none⟩))
    (h : wpList Tryd.prog ops Q rest (a.put o.dst s.val) w) : wpList Tryd.prog ops Q (o :: rest) a w := by
  unfold wpList
  rw [if_pos hw]
  exact .inl (wp_load_row 25 x ho g hx 25 (stC s) (0, 0) _ hG Tryd.underlying25 rfl (by rw [st_size]; exact infoSt) h)
theorem takes_lit (s : St) (k : Nat) : takesS s ⟨21, 0, 0, k⟩ = (s.a == k) ∧ takesS s ⟨37, 0, 0, k⟩ = decide (k < s.a) ∧ takesS s ⟨53, 0, 0, k⟩ = decide (k ≤ s.a) := by
  refine ⟨?_, ?_, ?_⟩
  · simp [takesS, beq_cast]
  · simp [takesS]
  · simp [takesS]
theorem takes_x (s : St) (k : Nat) : takesS ⟨s.a, k, s.m⟩ ⟨29, 0, 0, (0 : Nat)⟩ = (s.a == k) ∧ takesS ⟨s.a, k, s.m⟩ ⟨45, 0, 0, (0 : Nat)⟩ = decide (k < s.a) ∧ takesS ⟨s.a, k, s.m⟩ ⟨61, 0, 0, (0 : Nat)⟩ = decide (k ≤ s.a) ∧ takesS ⟨s.a, k, s.m⟩ ⟨77, 0, 0, (0 : Nat)⟩ = !(bits .and .u32 (s.a : Int) (k : Int) == 0) := by
  refine ⟨?_, ?_, ?_, ?_⟩ <;> simp [takesS, bne]
theorem three (a k : Nat) : ∃ eq gt ge : Bool, (a == k) = eq ∧ decide (k < a) = gt ∧ decide (k ≤ a) = ge ∧ ((eq = true ∧ gt = false ∧ ge = true) ∨ (eq = false ∧ gt = true ∧ ge = true) ∨ (eq = false ∧ gt = false ∧ ge = false)) := by
  refine ⟨_, _, _, rfl, rfl, rfl, ?_⟩
  simp only [beq_iff_eq, decide_eq_true_eq, decide_eq_false_iff_not, beq_eq_false_iff_ne, ne_eq]
  omega
set_option maxHeartbeats 4000000 in
theorem walk_nat (s : St) (k : Nat) (w : World) (hs : s.ok) (hk : k < 4294967296) (ht : OTab w) :
    Calls Tryd.prog 9 #[s.val, .int .u32 k] w fun e w' => e = .returned (.bool true) ∧ Below w.heap.size w w' := by
  have HB0 := Lib.hid (ba (stB s) (Below.refl w.heap.size w))
  have HG0 := Lib.hid (heap_alloc_new w (stB s))
  have HSo := Lib.hid hs
  obtain ⟨e1, e2, e3⟩ := takes_lit s k
  obtain ⟨g1, g2, g3, g4⟩ := takes_x s k
  obtain ⟨eq, gt, ge, b1, b2, b3, h⟩ := three s.a k
  rw [b1] at e1 g1
  rw [b2] at e2 g2
  rw [b3] at e3 g3
  have HT1 := Lib.hid e1
  have HT2 := Lib.hid e2
  have HT3 := Lib.hid e3
  have HU1 := Lib.hid g1
  have HU2 := Lib.hid g2
  have HU3 := Lib.hid g3
  have HU4 := Lib.hid g4
  have hand := Wd.doV_bd 84 s.a k (by omega) (by have := hs.1; omega) (by omega)
  have HAN := Lib.hid (show Wd.doV 84 s.a k = bits .and .u32 (s.a : Int) (k : Int) from rfl)
  clear e1 e2 e3 g1 g2 g3 g4 b1 b2 b3 hs hand
  go_enter Tryd.func9, Tryd.ntmps9
  go_wp2_with (refine ld_st HG0.out rfl rfl rfl ?_)
  refine (takes_any s 21 0 0 k _).mono ?_
  rintro e w1 ⟨rfl, hb1⟩
  rw [HT1.out]
  have HB1 := Lib.hid (below2 HB0.out hb1)
  have HG1 := Lib.hid (kb hb1 HG0.out)
  clear hb1
  go_wp2_with (refine ld_st HG1.out rfl rfl rfl ?_)
  refine (takes_any s 37 0 0 k _).mono ?_
  rintro e w2 ⟨rfl, hb2⟩
  rw [HT2.out]
  have HB2 := Lib.hid (below2 HB1.out hb2)
  have HG2 := Lib.hid (kb hb2 HG1.out)
  clear hb2
  go_wp2_with (refine ld_st HG2.out rfl rfl rfl ?_)
  refine (takes_any s 53 0 0 k _).mono ?_
  rintro e w3 ⟨rfl, hb3⟩
  rw [HT3.out]
  have HB3 := Lib.hid (below2 HB2.out hb3)
  have HG3 := Lib.hid (kb hb3 HG2.out)
  have HSX := Lib.hid (set_x s k)
  clear hb3
  go_wp2_with (refine st_fld HSX.out HG3.out (by omega) rfl rfl rfl rfl ?_; intro W4 hp4; have HP4 := Lib.hid hp4; clear hp4; have f0 := (cell_in HP4.out.row 0).trans (st_a _))
  refine (refDo_any 84 s.a k _ (by omega) (by have := HSo.out.1; omega) (by omega) (by omega)).mono ?_
  rintro e w5 ⟨rfl, hb5⟩
  rw [HAN.out]
  have HB4 := Lib.hid (HP4.out.below HB3.out (by omega))
  have HB5 := Lib.hid (below2 HB4.out hb5)
  have HG5 := Lib.hid (kb hb5 HP4.out.row)
  clear hb5 f0
  obtain ⟨z, hz⟩ : ∃ z, z = bits .and .u32 (s.a : Int) (k : Int) := ⟨_, rfl⟩
  rw [← hz] at HU4 ⊢
  clear hz
  obtain ⟨t, ht'⟩ : ∃ t : St, t = ⟨s.a, k, s.m⟩ := ⟨_, rfl⟩
  rw [← ht'] at HG5 HU1 HU2 HU3 HU4
  clear ht'
  have hz2 : z = 0 ∨ (¬ z = 0 ∧ (z != 0) = true) := by by_cases h : z = 0 <;> simp [h]
  rcases h with ⟨rfl, rfl, rfl⟩ | ⟨rfl, rfl, rfl⟩ | ⟨rfl, rfl, rfl⟩ <;> rcases hz2 with rfl | ⟨hz0, hz1⟩
  all_goals
    first | (have HU4 := Lib.hid (HU4.out.trans (show (!((0 : Int) == 0)) = false from rfl))) | (have HU4 := Lib.hid (HU4.out.trans (show (!(z == 0)) = true by simp [hz0])))
    go_wp2_with (refine ld_stG HG5.out rfl rfl rfl ?_)
    refine (takes_any t 29 0 0 0 _).mono ?_
    rintro e w6 ⟨rfl, hb6⟩
    rw [HU1.out]
    have HB6 := Lib.hid (below2 HB5.out hb6)
    have HG6 := Lib.hid (kb hb6 HG5.out)
    clear hb6
    go_wp2_with (refine ld_stG HG6.out rfl rfl rfl ?_)
    refine (takes_any t 45 0 0 0 _).mono ?_
    rintro e w7 ⟨rfl, hb7⟩
    rw [HU2.out]
    have HB7 := Lib.hid (below2 HB6.out hb7)
    have HG7 := Lib.hid (kb hb7 HG6.out)
    clear hb7
    go_wp2_with (refine ld_stG HG7.out rfl rfl rfl ?_)
    refine (takes_any t 61 0 0 0 _).mono ?_
    rintro e w8 ⟨rfl, hb8⟩
    rw [HU3.out]
    have HB8 := Lib.hid (below2 HB7.out hb8)
    have HG8 := Lib.hid (kb hb8 HG7.out)
    clear hb8
    go_wp2_with (refine ld_stG HG8.out rfl rfl rfl ?_)
    refine (takes_any t 77 0 0 0 _).mono ?_
    rintro e w9 ⟨rfl, hb9⟩
    rw [HU4.out]
    have HB9 := Lib.hid (below2 HB8.out hb9)
    clear hb9
    go_wp2_with fail
    refine (uknow_end HB9.out ht).mono ?_
    rintro e wb ⟨rfl, hbb⟩
    have HBB := Lib.hid hbb
    clear hbb
    go_wp2_with fail
    go_ret
    exact ⟨rfl, HBB.out⟩
theorem walk (s : St) (k : Int) (w : World) (hs : s.ok) (h0 : 0 ≤ k) (h1 : k ≤ 4294967295) (ht : OTab w) :
    Calls Tryd.prog 9 #[s.val, .int .u32 k] w fun e w' => e = .returned (.bool true) ∧ Below w.heap.size w w' := by
  obtain ⟨k, rfl⟩ : ∃ n : Nat, k = n := ⟨k.toNat, by omega⟩
  exact walk_nat s k w hs (by omega) ht

set_option maxRecDepth 100000 in
/-- The row's contract, for every argument and every world. -/
theorem contract (H : Type) (enc : TypeId × Value → H) (W : World) (base : Nat) (args : Array Value) (ds gs : List (DataW H)) (before : List MemPlace)
    (hval : ∀ (j : Nat) t v, Tryd.f9.params[j]? = some t → args[j]? = some v → Value.okWide Tryd.prog W .any base t v)
    (hW : DataW.Whole enc Tryd.prog Tryd.f9.params.toList Rows.runFlipsSpec.vars false W args.toList ds gs before) (hL : laidMetH Tryd.prog Rows.runFlipsRow.laid W) :
    Calls Tryd.prog 9 args W fun e W' => ∃ v, e = .returned v ∧ Rows.runFlipsSpec.post enc Tryd.prog Tryd.f9 false true false false W args v W' := by
  have hW' := hW
  obtain ⟨p, q, hA0, hV, rfl, hfz, hnd⟩ := hW
  have hA : DataW.TrodAll enc Tryd.prog W 0 (fun _ => true) true Tryd.f9.params.toList args.toList ds p := hA0
  rw [Tryd.params9] at hA hval
  obtain ⟨v0, vs0, d0, ds0, p0, q0, hargs0, rfl, rfl, t0, r0⟩ := trodAll_cons hA
  obtain ⟨v1, vs1, d1, ds1, p1, q1, hargs1, rfl, rfl, t1, r1⟩ := trodAll_cons r0
  obtain ⟨rfl, rfl, rfl⟩ := trodAll_nil r1
  obtain rfl : args = #[v0, v1] := by cases args; simp_all
  obtain ⟨s, rfl, hd0⟩ := open_state (hval 0 25 v0 rfl rfl) t0
  obtain ⟨k, rfl, rfl, rfl, wf1⟩ := open_int Tryd.underlying22 (hval 1 22 v1 rfl rfl) t1
  have bd1 := bounds_u32 wf1
  refine (walk s k W hd0 bd1.1 bd1.2 (otab1_of hL)).mono fun e W' ⟨he, hg⟩ => ?_
  subst he
  exact ⟨_, rfl, law_post (tb := 4) laidOut (fun t ht => by rw [Tryd.params9] at ht; revert t; exact of_decide_eq_true (by kernel_rfl)) (by kernel_rfl) Tryd.underlying4 rfl
    (fun ds h => by rw [Tryd.params9] at h; match ds, h with | [_, _], _ => rfl) hW' hg⟩

theorem laid_met (os : Os) : laidMet Tryd.prog Rows.runFlipsRow.laid ((laidWorld1 os).forCall (fun _ _ => 0) ⟨#[], #[.agg #[.int .u32 0, .int .u32 0, .int .u32 0, .int .u32 0, .int .u32 0, .int .u32 0, .int .u32 0, .int .u32 0, .int .u32 0, .int .u32 0, .int .u32 0, .int .u32 0, .int .u32 0, .int .u32 0, .int .u32 0, .int .u32 0, .int .u32 0, .int .u32 0], .int .u32 0], []⟩).memory :=
  laidMet_of_run' 8 (by kernel_rfl) (by kernel_rfl)
theorem reads (os : Os) {H : Type} (enc : TypeId × Value → H) : ∃ places, DataW.whole enc Tryd.prog ((laidWorld1 os).forCall (fun _ _ => 0) ⟨#[], #[.agg #[.int .u32 0, .int .u32 0, .int .u32 0, .int .u32 0, .int .u32 0, .int .u32 0, .int .u32 0, .int .u32 0, .int .u32 0, .int .u32 0, .int .u32 0, .int .u32 0, .int .u32 0, .int .u32 0, .int .u32 0, .int .u32 0, .int .u32 0, .int .u32 0], .int .u32 0], []⟩).memory Tryd.f9.params.toList Rows.runFlipsSpec.vars false #[Value.agg #[.int .u32 0, .int .u32 0, .int .u32 0, .int .u32 0, .int .u32 0, .int .u32 0, .int .u32 0, .int .u32 0, .int .u32 0, .int .u32 0, .int .u32 0, .int .u32 0, .int .u32 0, .int .u32 0, .int .u32 0, .int .u32 0, .int .u32 0, .int .u32 0], Value.int .u32 0].toList 8 = some ([.agg [.lit (.int .u32 0), .lit (.int .u32 0), .agg [.lit (.int .u32 0), .lit (.int .u32 0), .lit (.int .u32 0), .lit (.int .u32 0), .lit (.int .u32 0), .lit (.int .u32 0), .lit (.int .u32 0), .lit (.int .u32 0), .lit (.int .u32 0), .lit (.int .u32 0), .lit (.int .u32 0), .lit (.int .u32 0), .lit (.int .u32 0), .lit (.int .u32 0), .lit (.int .u32 0), .lit (.int .u32 0)]], .lit (.int .u32 0)], [], places) :=
  ⟨[], by kernel_rfl⟩

set_option maxRecDepth 100000 in
theorem lifted (os : Os) (started : os.Started) (H : Type) (enc : TypeId × Value → H) (F : Stop.Interp) :
    ReturnsInHanded {} Tryd.checked os 9 .any ((OpenSpec.ofChange Rows.runFlipsSpec).preRow enc Tryd.prog Tryd.f9 Rows.runFlipsRow.domain false Rows.runFlipsRow.laid) (((OpenSpec.ofChange Rows.runFlipsSpec).at F).post enc Tryd.prog Tryd.f9 false true false false) := by
  obtain ⟨places, hx⟩ := reads os enc
  refine returnsInHanded_of_row (C := Tryd.checked) (s := OpenSpec.ofChange Rows.runFlipsSpec) own started (by kernel_rfl) Tryd.func9
    (witness_row_at (enc := enc) (C := Tryd.checked) false (laidWorld1 os) #[.agg #[.int .u32 0, .int .u32 0, .int .u32 0, .int .u32 0, .int .u32 0, .int .u32 0, .int .u32 0, .int .u32 0, .int .u32 0, .int .u32 0, .int .u32 0, .int .u32 0, .int .u32 0, .int .u32 0, .int .u32 0, .int .u32 0, .int .u32 0, .int .u32 0], .int .u32 0] rfl (by kernel_rfl) (by kernel_rfl) (by kernel_rfl)
      (OpenSpec.preRow_of_cond 8 hx (by kernel_rfl) (fun k hk => by cases hk) (by kernel_rfl) (laid_met os))) ?_
  intro W base args ds gs before hval hW _ _ _ hL _ _
  exact contract H enc W base args ds gs before hval hW hL

theorem said : Rows.RunFlipsSaid :=
  OpenClaim.holds_of_cond 9 Tryd.f9 rfl rfl rfl rfl rfl rfl rfl ⟨rfl, rfl, rfl, rfl, rfl⟩ rfl rfl rfl rfl rfl (by kernel_rfl) Tryd.func9 (by kernel_rfl)
    (of_decide_eq_true (by kernel_rfl)) (by unfold Func.isWrapper; first | (rw [if_pos (by decide +kernel)]; kernel_rfl) | (rw [if_neg (by decide +kernel)]; exact ⟨rfl, rfl⟩))
    (fun os started H enc _ F => by rw [OpenClaim.pre_eq_preRow]; exact lifted os started H enc F)

/-- No parameter wants a stand-in; the program's own looks are off. -/
theorem plain (f : FuncId) (fn : Func) (hf : Tryd.pinned.checked.prog.funcNamed "hurdle/hurdlelaw06.RunFlips" = some f) (hfn : Tryd.pinned.checked.prog.funcs[f]? = some fn) :
    false = Tryd.pinned.checked.prog.looks [] ∧ ∀ (j : Nat) t, fn.params[j]? = some t → Tryd.pinned.checked.prog.wantsStandIn t = false := by
  obtain rfl : f = 9 := Option.some.inj ((show Tryd.prog.funcNamed "hurdle/hurdlelaw06.RunFlips" = some 9 by kernel_rfl).symm.trans hf) |>.symm
  obtain rfl : fn = Tryd.f9 := (Option.some.inj (Tryd.func9.symm.trans hfn)).symm
  refine ⟨by kernel_rfl, fun j t ht => ?_⟩
  have hm := Array.mem_of_getElem? ht
  rw [Tryd.params9] at hm
  have all : ∀ t ∈ (#[25, 22] : Array TypeId).toList, Tryd.prog.wantsStandIn t = false := of_decide_eq_true (by kernel_rfl)
  exact all t (Array.mem_toList_iff.2 hm)

/-- The tied card. -/
theorem card : Rows.RunFlipsCardSaid :=
  Claim7.holds_tied_plain_at .later [] _ _ _ _ said (fun _ h => by cases h) (by kernel_rfl) (fun _ h => by cases h) runFlips_row_tie rfl ⟨rfl, rfl⟩ (by kernel_rfl) rfl plain (by kernel_rfl)
end Go.Proofs.YtkcjkamfcgdibaaDoor.runFlips
