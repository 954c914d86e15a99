/-
  For every two 32-bit numbers, in every world that has the tables of math/bits and strconv as their initialisers lay them: the law WordDivides returns true and changes nothing that was there.
-/
import Derived.Test.YtjocdpochdfigaaDoorFrame
namespace Go.Proofs.YtjocdpochdfigaaDoor.wordDivides
open Go.ChangeShapes Go.WideShapes Go.ChangeAt Go.RowKit

theorem q1 (a b : Int) (h0 : 0 ≤ a) (h2 : 1 ≤ b) (h1 : a ≤ 4294967295) : Wd.doV 36 (a / b) b = a / b * b := by
  rw [Wd.doV_mul]
  have h := Int.ediv_mul_le a (show b ≠ 0 by omega)
  have h4 : 0 ≤ a / b * b := Int.mul_nonneg (Int.ediv_nonneg h0 (by omega)) (by omega)
  omega
theorem q2 (a b : Int) (h0 : 0 ≤ a) (h1 : a ≤ 4294967295) (h2 : 1 ≤ b) : Wd.doV 20 a (a / b * b) = a % b := by
  rw [Wd.doV_sub]
  have h := Int.ediv_mul_le a (show b ≠ 0 by omega)
  have h5 := Int.emod_lt_of_pos a (show 0 < b by omega)
  have h6 := Int.emod_nonneg a (show b ≠ 0 by omega)
  have h7 := Int.emod_def a b
  have h8 := Int.mul_comm b (a / b)
  have h4 : 0 ≤ a / b * b := Int.mul_nonneg (Int.ediv_nonneg h0 (by omega)) (by omega)
  omega
theorem doB_div (b : Int) (h : 1 ≤ b) : Wd.doB 52 b = true := by
  have : decide (b = 0) = false := by simp; omega
  unfold Wd.doB
  rw [this]
  rfl

set_option maxHeartbeats 1000000 in
theorem walk0 (a : Int) (w : World) (h0 : 0 ≤ a) (h1 : a ≤ 4294967295) (ht : Tab w) :
    Calls Tryd.prog 9 #[.int .u32 a, .int .u32 0] w fun e w' => e = .returned (.bool true) ∧ Below w.heap.size w w' := by
  have e1 := Wd.doV_div0 a
  have e2 : Wd.doB 52 0 = false := rfl
  go_enter Tryd.func9, Tryd.ntmps9
  go_wp2_with fail
  refine (do_any _ _ _ _ h0 h1 (by omega) (by omega)).mono ?_
  rintro e w' ⟨rfl, rfl⟩
  go_wp2_with fail
  refine (knows_any _ ht).mono ?_
  rintro e w' ⟨rfl, hb⟩
  go_wp2_with fail
  go_ret
  exact ⟨rfl, hb⟩
set_option maxHeartbeats 1000000 in
theorem walk1 (a b : Int) (w : World) (h0 : 0 ≤ a) (h1 : a ≤ 4294967295) (h2 : 1 ≤ b) (h3 : b ≤ 4294967295) (ht : Tab w) :
    Calls Tryd.prog 9 #[.int .u32 a, .int .u32 b] w fun e w' => e = .returned (.bool true) ∧ Below w.heap.size w w' := by
  have hb : (b == 0) = false := by simp; omega
  have e1 := Wd.doV_div a b (by omega)
  have e2 := q1 a b h0 h2 h1
  have e3 := q2 a b h0 h1 h2
  have e4 := doB_div b h2
  have l0 : 0 ≤ a / b := Int.ediv_nonneg h0 (by omega)
  have l1 : a / b ≤ 4294967295 := Int.le_trans (Int.ediv_le_self _ h0) h1
  have l2 : 0 ≤ a / b * b := Int.mul_nonneg l0 (by omega)
  have l3 : a / b * b ≤ a := Int.ediv_mul_le a (show b ≠ 0 by omega)
  have l4 : a / b * b ≤ 4294967295 := by omega
  have l5 := Int.emod_lt_of_pos a (show 0 < b by omega)
  go_enter Tryd.func9, Tryd.ntmps9
  go_wp2_with fail
  refine (do_any _ _ _ _ h0 h1 (by omega) h3).mono ?_
  rintro e w' ⟨rfl, rfl⟩
  go_wp2_with fail
  refine (do_any _ _ _ _ l0 l1 (by omega) h3).mono ?_
  rintro e w' ⟨rfl, rfl⟩
  go_wp2_with fail
  refine (do_any _ _ _ _ h0 h1 l2 l4).mono ?_
  rintro e w' ⟨rfl, rfl⟩
  go_wp2_with fail
  refine (knows_any _ ht).mono ?_
  rintro e w' ⟨rfl, hb⟩
  go_wp2_with fail
  go_ret
  exact ⟨rfl, hb⟩
theorem walk (a b : Int) (w : World) (h0 : 0 ≤ a) (h1 : a ≤ 4294967295) (h2 : 0 ≤ b) (h3 : b ≤ 4294967295) (ht : Tab w) :
    Calls Tryd.prog 9 #[.int .u32 a, .int .u32 b] w fun e w' => e = .returned (.bool true) ∧ Below w.heap.size w w' := by
  by_cases hb : b = 0
  · subst hb; exact walk0 a w h0 h1 ht
  · exact walk1 a b w h0 h1 (by omega) h3 ht

/-- The row's contract, for every argument and every world. -/
theorem contract (H : Type) (enc : TypeId × Value → H) (W : World) (base : Nat) (args : Array Value) (ds gs : List (DataW H)) (before : List MemPlace)
    (hval : ∀ (j : Nat) t v, Tryd.f9.params[j]? = some t → args[j]? = some v → Value.okWide Tryd.prog W .any base t v)
    (hW : DataW.Whole enc Tryd.prog Tryd.f9.params.toList Rows.wordDividesSpec.vars false W args.toList ds gs before) (hL : laidMetH Tryd.prog Rows.wordDividesRow.laid W) :
    Calls Tryd.prog 9 args W fun e W' => ∃ v, e = .returned v ∧ Rows.wordDividesSpec.post enc Tryd.prog Tryd.f9 false true false false W args v W' := by
  have hW' := hW
  obtain ⟨p, q, hA0, hV, rfl, hfz, hnd⟩ := hW
  have hA : DataW.TrodAll enc Tryd.prog W 0 (fun _ => true) true Tryd.f9.params.toList args.toList ds p := hA0
  rw [Tryd.params9] at hA hval
  obtain ⟨v0, vs0, d0, ds0, p0, q0, hargs0, rfl, rfl, t0, r0⟩ := trodAll_cons hA
  obtain ⟨v1, vs1, d1, ds1, p1, q1, hargs1, rfl, rfl, t1, r1⟩ := trodAll_cons r0
  obtain ⟨rfl, rfl, rfl⟩ := trodAll_nil r1
  obtain rfl : args = #[v0, v1] := by cases args; simp_all
  obtain ⟨a, rfl, rfl, rfl, wf0⟩ := open_int Tryd.underlying22 (hval 0 22 v0 rfl rfl) t0
  have bd0 := bounds_u32 wf0
  obtain ⟨b, rfl, rfl, rfl, wf1⟩ := open_int Tryd.underlying22 (hval 1 22 v1 rfl rfl) t1
  have bd1 := bounds_u32 wf1
  refine (walk a b W bd0.1 bd0.2 bd1.1 bd1.2 (tab_of hL)).mono fun e W' ⟨he, hg⟩ => ?_
  subst he
  exact ⟨_, rfl, law_post (tb := 4) laidOut (fun t ht => by rw [Tryd.params9] at ht; revert t; exact of_decide_eq_true (by kernel_rfl)) (by kernel_rfl) Tryd.underlying4 rfl
    (fun ds h => by rw [Tryd.params9] at h; match ds, h with | [_, _], _ => rfl) hW' hg⟩

theorem laid_met (os : Os) : laidMet Tryd.prog Rows.wordDividesRow.laid ((laidWorld os).forCall (fun _ _ => 0) ⟨#[], #[.int .u32 0, .int .u32 0], []⟩).memory :=
  laidMet_of_run' 8 (by kernel_rfl) (by kernel_rfl)
theorem reads (os : Os) {H : Type} (enc : TypeId × Value → H) : ∃ places, DataW.whole enc Tryd.prog ((laidWorld os).forCall (fun _ _ => 0) ⟨#[], #[.int .u32 0, .int .u32 0], []⟩).memory Tryd.f9.params.toList Rows.wordDividesSpec.vars false #[Value.int .u32 0, Value.int .u32 0].toList 8 = some ([.lit (.int .u32 0), .lit (.int .u32 0)], [], places) :=
  ⟨[], by kernel_rfl⟩

set_option maxRecDepth 100000 in
theorem lifted (os : Os) (started : os.Started) (H : Type) (enc : TypeId × Value → H) (F : Stop.Interp) :
    ReturnsInHanded {} Tryd.checked os 9 .any ((OpenSpec.ofChange Rows.wordDividesSpec).preRow enc Tryd.prog Tryd.f9 Rows.wordDividesRow.domain false Rows.wordDividesRow.laid) (((OpenSpec.ofChange Rows.wordDividesSpec).at F).post enc Tryd.prog Tryd.f9 false true false false) := by
  obtain ⟨places, hx⟩ := reads os enc
  refine returnsInHanded_of_row (C := Tryd.checked) (s := OpenSpec.ofChange Rows.wordDividesSpec) own started (by kernel_rfl) Tryd.func9
    (witness_row_at (enc := enc) (C := Tryd.checked) false (laidWorld os) #[.int .u32 0, .int .u32 0] rfl (by kernel_rfl) (by kernel_rfl) (by kernel_rfl)
      (OpenSpec.preRow_of_cond 8 hx (by kernel_rfl) (fun k hk => by cases hk) (by kernel_rfl) (laid_met os))) ?_
  intro W base args ds gs before hval hW _ _ _ hL _ _
  exact contract H enc W base args ds gs before hval hW hL

theorem said : Rows.WordDividesSaid :=
  OpenClaim.holds_of_cond 9 Tryd.f9 rfl rfl rfl rfl rfl rfl rfl ⟨rfl, rfl, rfl, rfl, rfl⟩ rfl rfl rfl rfl rfl (by kernel_rfl) Tryd.func9 (by kernel_rfl)
    (of_decide_eq_true (by kernel_rfl)) (by unfold Func.isWrapper; first | (rw [if_pos (by decide +kernel)]; kernel_rfl) | (rw [if_neg (by decide +kernel)]; exact ⟨rfl, rfl⟩))
    (fun os started H enc _ F => by rw [OpenClaim.pre_eq_preRow]; exact lifted os started H enc F)

/-- No parameter wants a stand-in; the program's own looks are off. -/
theorem plain (f : FuncId) (fn : Func) (hf : Tryd.pinned.checked.prog.funcNamed "hurdle/hurdlelaw01.WordDivides" = some f) (hfn : Tryd.pinned.checked.prog.funcs[f]? = some fn) :
    false = Tryd.pinned.checked.prog.looks [] ∧ ∀ (j : Nat) t, fn.params[j]? = some t → Tryd.pinned.checked.prog.wantsStandIn t = false := by
  obtain rfl : f = 9 := Option.some.inj ((show Tryd.prog.funcNamed "hurdle/hurdlelaw01.WordDivides" = some 9 by kernel_rfl).symm.trans hf) |>.symm
  obtain rfl : fn = Tryd.f9 := (Option.some.inj (Tryd.func9.symm.trans hfn)).symm
  refine ⟨by kernel_rfl, fun j t ht => ?_⟩
  have hm := Array.mem_of_getElem? ht
  rw [Tryd.params9] at hm
  have all : ∀ t ∈ (#[22, 22] : Array TypeId).toList, Tryd.prog.wantsStandIn t = false := of_decide_eq_true (by kernel_rfl)
  exact all t (Array.mem_toList_iff.2 hm)

/-- The tied card. -/
theorem card : Rows.WordDividesCardSaid :=
  Claim7.holds_tied_plain_at .later [] _ _ _ _ said (fun _ h => by cases h) (by kernel_rfl) (fun _ h => by cases h) wordDivides_row_tie rfl ⟨rfl, rfl⟩ (by kernel_rfl) rfl plain (by kernel_rfl)
end Go.Proofs.YtjocdpochdfigaaDoor.wordDivides
