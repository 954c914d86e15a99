/-
  For every three 32-bit numbers, in every world that has the tables of math/bits and strconv as their initialisers lay them: the law NamesBack returns true and changes nothing that was there.
-/
import Derived.Test.YtmijnhcbbklmaaaDoorNFrame
import Derived.Test.YtmijnhcbbklmaaaDoorFrame
namespace Go.Proofs.YtmijnhcbbklmaaaDoor.namesBack
open Go.ChangeShapes Go.WideShapes Go.ChangeAt Go.RowKit

theorem none_err {v : Nat} (h : (actT v).isSome = false) : ¬ (actT v).isSome = true := by rw [h]; decide
theorem text_size {T : Tbl} (hT : ∀ p ∈ T, p.1.size ≤ 18) {n : Nat} (hn : n < 4294967296) : (textN T n).size ≤ 4611686018427387904 := by
  rcases textN_is T n with ⟨p, hp, _, e⟩ | ⟨_, e⟩
  · rw [e]
    have := hT p hp
    omega
  · rw [e]
    have := txt_lt18 (n := n) (by omega)
    omega
theorem mach_size : ∀ p ∈ machT, p.1.size ≤ 18 := by decide
theorem call_size (m : Nat) : ∀ p ∈ callT m, p.1.size ≤ 18 := by
  unfold callT
  split
  · decide
  split
  · decide
  split
  · decide
  split
  · decide
  simp
theorem act_size (v : Nat) (hv : v < 4294967296) : (actS v).size ≤ 4611686018427387904 := by
  by_cases h : 327680 ≤ v ∧ v ≤ 331775
  · rw [actS_err h.1 h.2, ByteArray.size_append]
    have := txt_lt18 (n := v - 327680) (by omega)
    have : berror.size = 6 := rfl
    omega
  · rw [actS_rest h]
    split
    · decide
    split
    · decide
    split
    · decide
    split
    · decide
    decide
theorem act_some {v : Nat} (h : (actT v).isSome = true) : actT v = some (actS v) := by
  unfold actS
  cases e : actT v with
  | none => rw [e] at h; cases h
  | some x => rfl
set_option maxHeartbeats 4000000 in
theorem walk_nat (m n v : Nat) (w : World) (hm : m < 4294967296) (hn : n < 4294967296) (hv : v < 4294967296) (ht : Tab w) :
    Calls Tryd.prog 5 #[.int .u32 m, .int .u32 n, .int .u32 v] w fun e w' => e = .returned (.bool true) ∧ Below w.heap.size w w' := by
  have HTab := Lib.hid ht
  have HM := Lib.hid (text_size mach_size hm)
  have HC := Lib.hid (text_size (call_size m) hn)
  have HA := Lib.hid (act_size v hv)
  have RM : Hid (readN machT (textN machT m) (some m)) := Lib.hid ⟨hm, rfl⟩
  have RC : Hid (readN (callT m) (textN (callT m) n) (some n)) := Lib.hid ⟨hn, rfl⟩
  have HK := Lib.hid (actS_kinds v)
  clear ht
  go_enter Tryd.func5, Tryd.ntmps5
  go_wp2_with fail
  refine (nmachine_any m _ hm HTab.out).mono ?_
  rintro e w1 ⟨rfl, hb1⟩
  have HB1 := Lib.hid hb1
  clear hb1
  generalize textN machT m = tm at HM RM ⊢
  go_wp2_with fail
  refine (nreadmachine_any tm _ HM.out (HTab.out.below HB1.out)).mono ?_
  rintro e w2 ⟨⟨o, ho, rfl⟩, hb2⟩
  obtain rfl := readN_one machT_good ho RM.out
  have HB2 := Lib.hid (below2 HB1.out hb2)
  clear hb2 ho
  go_wp2_with fail
  refine (ncall_any m n _ hm hn (HTab.out.below HB2.out)).mono ?_
  rintro e w3 ⟨rfl, hb3⟩
  have HB3 := Lib.hid (below2 HB2.out hb3)
  clear hb3
  generalize textN (callT m) n = tc at HC RC ⊢
  go_wp2_with fail
  refine (nreadcall_any m tc _ hm HC.out (HTab.out.below HB3.out)).mono ?_
  rintro e w4 ⟨⟨o, ho, rfl⟩, hb4⟩
  obtain rfl := readN_one (callT_good m) ho RC.out
  have HB4 := Lib.hid (below2 HB3.out hb4)
  clear hb4 ho
  go_wp2_with fail
  refine (naction_any v _ hv (HTab.out.below HB4.out)).mono ?_
  rintro e w5 ⟨rfl, hb5⟩
  have HB5 := Lib.hid (below2 HB4.out hb5)
  clear hb5
  rcases HK.out with ⟨hs, hT⟩ | ⟨hs, hT⟩
  · have RA : Hid (readA (actS v) (some v)) := Lib.hid ⟨hv, act_some hs⟩
    rw [if_pos hs]
    clear HK hs hT
    generalize actS v = ts at HA RA ⊢
    go_wp2_with fail
    refine (nreadaction_any ts _ HA.out (HTab.out.below HB5.out)).mono ?_
    rintro e w6 ⟨⟨o, ho, rfl⟩, hb6⟩
    obtain rfl := readA_one ho RA.out
    have HB6 := Lib.hid (below2 HB5.out hb6)
    clear hb6 ho
    go_wp2_with fail
    refine (nknow_end HB6.out HTab.out).mono ?_
    rintro e wb ⟨rfl, hbb⟩
    have HBB := Lib.hid hbb
    clear hbb
    go_wp2_with fail
    go_ret
    exact ⟨rfl, HBB.out⟩
  · rw [if_neg (none_err hs), hT]
    clear HK hs hT HA
    go_wp2_with fail
    refine (nknow_end HB5.out HTab.out).mono ?_
    rintro e wb ⟨rfl, hbb⟩
    have HBB := Lib.hid hbb
    clear hbb
    go_wp2_with fail
    go_ret
    exact ⟨rfl, HBB.out⟩
theorem walk (m n v : Int) (w : World) (h0 : 0 ≤ m) (h1 : m ≤ 4294967295) (h2 : 0 ≤ n) (h3 : n ≤ 4294967295) (h4 : 0 ≤ v) (h5 : v ≤ 4294967295) (ht : Tab w) :
    Calls Tryd.prog 5 #[.int .u32 m, .int .u32 n, .int .u32 v] w fun e w' => e = .returned (.bool true) ∧ Below w.heap.size w w' := by
  obtain ⟨m, rfl⟩ : ∃ k : Nat, m = k := ⟨m.toNat, by omega⟩
  obtain ⟨n, rfl⟩ : ∃ k : Nat, n = k := ⟨n.toNat, by omega⟩
  obtain ⟨v, rfl⟩ : ∃ k : Nat, v = k := ⟨v.toNat, by omega⟩
  exact walk_nat m n v w (by omega) (by omega) (by omega) ht

set_option maxRecDepth 100000 in
/-- The row's contract, for every argument and every world. -/
theorem contract (H : Type) (enc : TypeId × Value → H) (W : World) (base : Nat) (args : Array Value) (ds gs : List (DataW H)) (before : List MemPlace)
    (hval : ∀ (j : Nat) t v, Tryd.f5.params[j]? = some t → args[j]? = some v → Value.okWide Tryd.prog W .any base t v)
    (hW : DataW.Whole enc Tryd.prog Tryd.f5.params.toList Rows.namesBackSpec.vars false W args.toList ds gs before) (hL : laidMetH Tryd.prog Rows.namesBackRow.laid W) :
    Calls Tryd.prog 5 args W fun e W' => ∃ v, e = .returned v ∧ Rows.namesBackSpec.post enc Tryd.prog Tryd.f5 false true false false W args v W' := by
  have hW' := hW
  obtain ⟨p, q, hA0, hV, rfl, hfz, hnd⟩ := hW
  have hA : DataW.TrodAll enc Tryd.prog W 0 (fun _ => true) true Tryd.f5.params.toList args.toList ds p := hA0
  rw [Tryd.params5] at hA hval
  obtain ⟨v0, vs0, d0, ds0, p0, q0, hargs0, rfl, rfl, t0, r0⟩ := trodAll_cons hA
  obtain ⟨v1, vs1, d1, ds1, p1, q1, hargs1, rfl, rfl, t1, r1⟩ := trodAll_cons r0
  obtain ⟨v2, vs2, d2, ds2, p2, q2, hargs2, rfl, rfl, t2, r2⟩ := trodAll_cons r1
  obtain ⟨rfl, rfl, rfl⟩ := trodAll_nil r2
  obtain rfl : args = #[v0, v1, v2] := by cases args; simp_all
  obtain ⟨arch, rfl, rfl, rfl, wf0⟩ := open_int Tryd.underlying22 (hval 0 22 v0 rfl rfl) t0
  have bd0 := bounds_u32 wf0
  obtain ⟨nr, rfl, rfl, rfl, wf1⟩ := open_int Tryd.underlying22 (hval 1 22 v1 rfl rfl) t1
  have bd1 := bounds_u32 wf1
  obtain ⟨v, rfl, rfl, rfl, wf2⟩ := open_int Tryd.underlying22 (hval 2 22 v2 rfl rfl) t2
  have bd2 := bounds_u32 wf2
  refine (walk arch nr v W bd0.1 bd0.2 bd1.1 bd1.2 bd2.1 bd2.2 (tab_of hL)).mono fun e W' ⟨he, hg⟩ => ?_
  subst he
  exact ⟨_, rfl, law_post (tb := 4) laidOut (fun t ht => by rw [Tryd.params5] at ht; revert t; exact of_decide_eq_true (by kernel_rfl)) (by kernel_rfl) Tryd.underlying4 rfl
    (fun ds h => by rw [Tryd.params5] at h; match ds, h with | [_, _, _], _ => rfl) hW' hg⟩

theorem laid_met (os : Os) : laidMet Tryd.prog Rows.namesBackRow.laid ((laidWorld os).forCall (fun _ _ => 0) ⟨#[], #[.int .u32 0, .int .u32 0, .int .u32 0], []⟩).memory :=
  laidMet_of_run' 8 (by kernel_rfl) (by kernel_rfl)
theorem reads (os : Os) {H : Type} (enc : TypeId × Value → H) : ∃ places, DataW.whole enc Tryd.prog ((laidWorld os).forCall (fun _ _ => 0) ⟨#[], #[.int .u32 0, .int .u32 0, .int .u32 0], []⟩).memory Tryd.f5.params.toList Rows.namesBackSpec.vars false #[Value.int .u32 0, Value.int .u32 0, Value.int .u32 0].toList 8 = some ([.lit (.int .u32 0), .lit (.int .u32 0), .lit (.int .u32 0)], [], places) :=
  ⟨[], by kernel_rfl⟩

set_option maxRecDepth 100000 in
theorem lifted (os : Os) (started : os.Started) (H : Type) (enc : TypeId × Value → H) (F : Stop.Interp) :
    ReturnsInHanded {} Tryd.checked os 5 .any ((OpenSpec.ofChange Rows.namesBackSpec).preRow enc Tryd.prog Tryd.f5 Rows.namesBackRow.domain false Rows.namesBackRow.laid) (((OpenSpec.ofChange Rows.namesBackSpec).at F).post enc Tryd.prog Tryd.f5 false true false false) := by
  obtain ⟨places, hx⟩ := reads os enc
  refine returnsInHanded_of_row (C := Tryd.checked) (s := OpenSpec.ofChange Rows.namesBackSpec) own started (by kernel_rfl) Tryd.func5
    (witness_row_at (enc := enc) (C := Tryd.checked) false (laidWorld os) #[.int .u32 0, .int .u32 0, .int .u32 0] rfl (by kernel_rfl) (by kernel_rfl) (by kernel_rfl)
      (OpenSpec.preRow_of_cond 8 hx (by kernel_rfl) (fun k hk => by cases hk) (by kernel_rfl) (laid_met os))) ?_
  intro W base args ds gs before hval hW _ _ _ hL _ _
  exact contract H enc W base args ds gs before hval hW hL

theorem said : Rows.NamesBackSaid :=
  OpenClaim.holds_of_cond 5 Tryd.f5 rfl rfl rfl rfl rfl rfl rfl ⟨rfl, rfl, rfl, rfl, rfl⟩ rfl rfl rfl rfl rfl (by kernel_rfl) Tryd.func5 (by kernel_rfl)
    (of_decide_eq_true (by kernel_rfl)) (by unfold Func.isWrapper; first | (rw [if_pos (by decide +kernel)]; kernel_rfl) | (rw [if_neg (by decide +kernel)]; exact ⟨rfl, rfl⟩))
    (fun os started H enc _ F => by rw [OpenClaim.pre_eq_preRow]; exact lifted os started H enc F)

/-- No parameter wants a stand-in; the program's own looks are off. -/
theorem plain (f : FuncId) (fn : Func) (hf : Tryd.pinned.checked.prog.funcNamed "hurdle/hurdlelaw09.NamesBack" = some f) (hfn : Tryd.pinned.checked.prog.funcs[f]? = some fn) :
    false = Tryd.pinned.checked.prog.looks [] ∧ ∀ (j : Nat) t, fn.params[j]? = some t → Tryd.pinned.checked.prog.wantsStandIn t = false := by
  obtain rfl : f = 5 := Option.some.inj ((show Tryd.prog.funcNamed "hurdle/hurdlelaw09.NamesBack" = some 5 by kernel_rfl).symm.trans hf) |>.symm
  obtain rfl : fn = Tryd.f5 := (Option.some.inj (Tryd.func5.symm.trans hfn)).symm
  refine ⟨by kernel_rfl, fun j t ht => ?_⟩
  have hm := Array.mem_of_getElem? ht
  rw [Tryd.params5] at hm
  have all : ∀ t ∈ (#[22, 22, 22] : Array TypeId).toList, Tryd.prog.wantsStandIn t = false := of_decide_eq_true (by kernel_rfl)
  exact all t (Array.mem_toList_iff.2 hm)

/-- The tied card. -/
theorem card : Rows.NamesBackCardSaid :=
  Claim7.holds_tied_plain_at .later [] _ _ _ _ said (fun _ h => by cases h) (by kernel_rfl) (fun _ h => by cases h) namesBack_row_tie rfl ⟨rfl, rfl⟩ (by kernel_rfl) rfl plain (by kernel_rfl)
end Go.Proofs.YtmijnhcbbklmaaaDoor.namesBack
