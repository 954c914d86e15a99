/-
  For every filter, in every world that has the table of package ins as its initialiser lays it: the law CheckForward returns true and changes nothing that was there.
-/
import Derived.Test.YtmiflelmblnkaaaDoorKFrame
import Derived.Test.YtmiflelmblnkaaaDoorKRNext
import Derived.BigQuiet
namespace Go.Proofs.YtmiflelmblnkaaaDoor.checkForward
open Go.ChangeShapes Go.WideShapes Go.ChangeAt Go.RowKit

set_option maxRecDepth 100000 in
set_option maxHeartbeats 8000000 in
theorem walk (v : Value) (f : List X4) (w : World) (hF : FAt w v f) (hk : ∀ x ∈ f, x.ok) (_hm : f.length ≤ 9223372036854775807) (ht : OTab w) :
    Calls Tryd.prog 5 #[v] w fun e w' => e = .returned (.bool true) ∧ Below w.heap.size w w' := by
  have HF := Lib.hid hF
  obtain ⟨ao, cap, rfl, hF'⟩ := hF
  have HC := Lib.hid hF'
  have HK := Lib.hid hk
  clear hk hF'
  by_cases hbig : 300 < f.length
  · go_enter Tryd.func5, Tryd.ntmps5
    go_wp2_with fail
    refine (kknow_end (Below.refl _ _) ht).mono ?_
    rintro e wb ⟨rfl, hbb⟩
    have HB := Lib.hid hbb
    clear hbb
    go_wp2_with fail
    go_ret
    exact ⟨rfl, HB.out⟩
  go_enter Tryd.func5, Tryd.ntmps5
  go_wp2_with fail
  refine (rsound5_any _ f _ HF.out HK.out).mono ?_
  rintro e w1 ⟨rfl, hb1⟩
  have HB1 := Lib.hid hb1
  clear hb1
  cases hs : soundB f
  · clear hs
    go_wp2_with fail
    refine (kknow_end HB1.out ht).mono ?_
    rintro e w2 ⟨rfl, hb2⟩
    have HB2 := Lib.hid hb2
    clear hb2
    go_wp2_with fail
    go_ret
    exact ⟨rfl, HB2.out⟩
  have HS := Lib.hid hs
  clear hs
  go_wp2_with fail
  go_loopw [3] (fun i wr => ∃ n : Nat, n ≤ f.length ∧ i = .int .i64 n ∧ Below w.heap.size w wr) (fun i _ => f.length - (intOf i).toNat)
  case atStart => exact ⟨0, by omega, rfl, HB1.out⟩
  case round =>
    obtain ⟨n, hn, rfl, hB⟩ := hrel
    have HB := Lib.hid hB
    clear hB
    by_cases hlt : n < f.length
    · go_wp2_with fail
      refine (next_any _ f n _ (HF.out.below HB.out) HK.out (ht.below HB.out) hlt HS.out).mono ?_
      rintro e w2 ⟨u2, rfl, hi2, hb2⟩
      have HB2 := Lib.hid (below2 HB.out hb2)
      clear hb2
      obtain ⟨L, hL0, hL2, hIn, hOr, hEn⟩ : ∃ L, IAt w2 u2 L ∧ L.length ≤ 2 ∧ (∀ q ∈ L, (n : Int) < q ∧ q < f.length) ∧ (∀ i (h : i + 1 < L.length), L[i] < L[i + 1]) ∧ (f[n].op == 6 || f[n].op == 22) = (L.length == 0) :=
        ⟨_, hi2, nextX_short f[n] n, next_in (soundB_iff.1 HS.out) HK.out hlt, next_order f[n] n, (nextX_none f[n] n).symm⟩
      have HIn := Lib.hid hIn
      have HOr := Lib.hid hOr
      clear hi2 hIn hOr
      rcases HC.out with h0 | ⟨b, off, rfl, hb, hc⟩
      · rw [h0] at hlt; simp at hlt
      obtain ⟨c0, c1, c2, c3⟩ := hc n hlt
      have d0 := (HB2.out.cell (p := ⟨b, _, none⟩) hb).trans c0
      have d1 := (HB2.out.cell (p := ⟨b, _, none⟩) hb).trans c1
      have d2 := (HB2.out.cell (p := ⟨b, _, none⟩) hb).trans c2
      have d3 := (HB2.out.cell (p := ⟨b, _, none⟩) hb).trans c3
      clear hc c0 c1 c2 c3
      generalize f[n] = x at d0 d1 d2 d3 hEn
      have HEn : Hid ((x.op == 6 || x.op == 22) = ((L.length : Int) == 0)) := Lib.hid (hEn.trans (by rw [Bool.eq_iff_iff]; simp))
      obtain ⟨ao2, cap2, rfl, h2⟩ := hL0
      have H2 := Lib.hid h2
      clear h2 hEn
      go_wp2_with fail
      refine (refEnds_any x.op x.jt x.jf x.k _).mono ?_
      rintro e w3 ⟨rfl, hb3⟩
      rw [HEn.out]
      have HB3 := Lib.hid (below2 HB2.out hb3)
      have HB23 := Lib.hid hb3
      clear hb3 d0 d1 d2 d3
      have hq : ((((L.length : Int) == 0) == ((L.length : Int) == 0))) = true := by simp
      have hL2' : ¬ (2 : Int) < L.length := by omega
      go_wp2_with fail
      go_loopw [5] (fun i wr => ∃ j : Nat, j ≤ L.length ∧ i = .int .i64 j ∧ Below w3.heap.size w3 wr) (fun i _ => L.length - (intOf i).toNat)
      case atStart => exact ⟨0, by omega, rfl, Below.refl _ _⟩
      case round =>
        obtain ⟨j, hj, rfl, hB⟩ := hrel
        have HBj := Lib.hid (below2 HB3.out hB)
        by_cases hjl : j < L.length
        · rcases H2.out with h0 | ⟨b2, o2, rfl, hb2, hc2⟩
          · rw [h0] at hjl; simp at hjl
          have hb3 : b2 < w3.heap.size := Nat.lt_of_lt_of_le hb2 HB23.out.size
          have hrd : ∀ i (h : i < L.length), wr.cell? ⟨b2, o2 + i, none⟩ = some (.int .i64 L[i]) := fun i h => (hB.cell (p := ⟨b2, _, none⟩) hb3).trans ((HB23.out.cell (p := ⟨b2, _, none⟩) hb2).trans (hc2 i h))
          have HBw := Lib.hid hB
          have hin := HIn.out _ (List.getElem_mem hjl)
          have g1 := hrd j hjl
          by_cases hj0 : 0 < j
          · have hor := HOr.out (j - 1) (by omega)
            have e1 : j - 1 + 1 = j := by omega
            simp only [e1] at hor
            have g0 := hrd (j - 1) (by omega)
            generalize L[j - 1] = q0 at g0 hor
            generalize L[j] = q at g1 hor hin
            obtain ⟨hin1, hin2⟩ := hin
            clear hrd hc2 hB H2 HIn HOr e1
            go_wp2_with fail
            have k1 : decide (q ≤ (n : Int)) = false := decide_eq_false (by omega)
            have k2 : decide ((f.length : Int) ≤ q) = false := decide_eq_false (by omega)
            have k3 : decide ((0 : Int) < j) = true := decide_eq_true (by omega)
            have k3' : decide (0 < j) = true := decide_eq_true hj0
            have k4 : decide (q ≤ q0) = false := decide_eq_false (by omega)
            have k5 : IntKind.i64.wrap ((j : Int) - 1) = (j : Int) - 1 := IntWalk.i64_in _ (by omega)
            have k6 : (0 : Int) ≤ (j : Int) - 1 := by omega
            have k7 : ((j : Int) - 1).toNat = j - 1 := by omega
            go_quiet (fail)
            clear k1 k2 k3 k3' k4 k5 k6 k7
            go_wp2_with fail
            go_roundw
            case rel => exact ⟨j + 1, by omega, by go_num, bdN HBw.out _⟩
            case measure => simp [intOf]; omega
          · generalize L[j] = q at g1 hin
            obtain ⟨hin1, hin2⟩ := hin
            clear hrd hc2 hB H2 HIn HOr
            go_wp2_with fail
            have k1 : decide (q ≤ (n : Int)) = false := decide_eq_false (by omega)
            have k2 : decide ((f.length : Int) ≤ q) = false := decide_eq_false (by omega)
            have k3 : decide ((0 : Int) < j) = false := decide_eq_false (by omega)
            have k3' : decide (0 < j) = false := decide_eq_false hj0
            go_quiet (fail)
            clear k1 k2 k3 k3'
            go_wp2_with fail
            go_roundw
            case rel => exact ⟨j + 1, by omega, by go_num, bdN HBw.out _⟩
            case measure => simp [intOf]; omega
        · clear hB
          go_wp2_with fail
          go_roundw
          case rel => exact ⟨n + 1, by omega, by go_num, HBj.out⟩
          case measure => simp [intOf]; omega
    · go_wp2_with fail
      refine (kknow_end HB.out ht).mono ?_
      rintro e w4 ⟨rfl, hb4⟩
      have HB4 := Lib.hid hb4
      clear hb4
      go_wp2_with fail
      go_ret
      exact ⟨rfl, HB4.out⟩

set_option maxRecDepth 100000 in
/-- The row's contract, for every argument and every world. -/
theorem contract (H : Type) (enc : TypeId × Value → H) (W : World) (base : Nat) (args : Array Value) (ds gs : List (DataW H)) (before : List MemPlace)
    (hval : ∀ (j : Nat) t v, Tryd.f5.params[j]? = some t → args[j]? = some v → Value.okWide Tryd.prog W .any base t v)
    (hW : DataW.Whole enc Tryd.prog Tryd.f5.params.toList Rows.checkForwardSpec.vars false W args.toList ds gs before) (hL : laidMetH Tryd.prog Rows.checkForwardRow.laid W) :
    Calls Tryd.prog 5 args W fun e W' => ∃ v, e = .returned v ∧ Rows.checkForwardSpec.post enc Tryd.prog Tryd.f5 false true false false W args v W' := by
  have hW' := hW
  obtain ⟨p, q, hA0, hV, rfl, hfz, hnd⟩ := hW
  have hA : DataW.TrodAll enc Tryd.prog W 0 (fun _ => true) true Tryd.f5.params.toList args.toList ds p := hA0
  rw [Tryd.params5] at hA hval
  obtain ⟨v0, vs0, d0, ds0, p0, q0, hargs0, rfl, rfl, t0, r0⟩ := trodAll_cons hA
  obtain ⟨rfl, rfl, rfl⟩ := trodAll_nil r0
  obtain rfl : args = #[v0] := by cases args; simp_all
  obtain ⟨f, hF0, hk0, hm0⟩ := open_filt (hval 0 22 v0 rfl rfl) t0
  refine (walk v0 f W hF0 hk0 hm0 (otab1_of hL)).mono fun e W' ⟨he, hg⟩ => ?_
  subst he
  exact ⟨_, rfl, law_post (tb := 4) laidOut (fun t ht => by rw [Tryd.params5] at ht; revert t; exact of_decide_eq_true (by kernel_rfl)) (by kernel_rfl) Tryd.underlying4 rfl
    (fun ds h => by rw [Tryd.params5] at h; match ds, h with | [_], _ => rfl) hW' hg⟩

theorem laid_met (os : Os) : laidMet Tryd.prog Rows.checkForwardRow.laid ((laidWorld os).forCall (fun _ _ => 0) ⟨#[], #[.slice none 0 0], []⟩).memory :=
  laidMet_of_run' 8 (by kernel_rfl) (by kernel_rfl)
theorem reads (os : Os) {H : Type} (enc : TypeId × Value → H) : ∃ places, DataW.whole enc Tryd.prog ((laidWorld os).forCall (fun _ _ => 0) ⟨#[], #[.slice none 0 0], []⟩).memory Tryd.f5.params.toList Rows.checkForwardSpec.vars false #[Value.slice none 0 0].toList 8 = some ([.nil], [], places) :=
  ⟨[], by kernel_rfl⟩

set_option maxRecDepth 100000 in
theorem lifted (os : Os) (started : os.Started) (H : Type) (enc : TypeId × Value → H) (F : Stop.Interp) :
    ReturnsInHanded {} Tryd.checked os 5 .any ((OpenSpec.ofChange Rows.checkForwardSpec).preRow enc Tryd.prog Tryd.f5 Rows.checkForwardRow.domain false Rows.checkForwardRow.laid) (((OpenSpec.ofChange Rows.checkForwardSpec).at F).post enc Tryd.prog Tryd.f5 false true false false) := by
  obtain ⟨places, hx⟩ := reads os enc
  refine returnsInHanded_of_row (C := Tryd.checked) (s := OpenSpec.ofChange Rows.checkForwardSpec) own started (by kernel_rfl) Tryd.func5
    (witness_row_at (enc := enc) (C := Tryd.checked) false (laidWorld os) #[.slice none 0 0] rfl (by kernel_rfl) (by kernel_rfl) (by kernel_rfl)
      (OpenSpec.preRow_of_cond 8 hx (by kernel_rfl) (fun k hk => by cases hk) (by kernel_rfl) (laid_met os))) ?_
  intro W base args ds gs before hval hW _ _ _ hL _ _
  exact contract H enc W base args ds gs before hval hW hL

theorem said : Rows.CheckForwardSaid :=
  OpenClaim.holds_of_cond 5 Tryd.f5 rfl rfl rfl rfl rfl rfl rfl ⟨rfl, rfl, rfl, rfl, rfl⟩ rfl rfl rfl rfl rfl (by kernel_rfl) Tryd.func5 (by kernel_rfl)
    (of_decide_eq_true (by kernel_rfl)) (by unfold Func.isWrapper; first | (rw [if_pos (by decide +kernel)]; kernel_rfl) | (rw [if_neg (by decide +kernel)]; exact ⟨rfl, rfl⟩))
    (fun os started H enc _ F => by rw [OpenClaim.pre_eq_preRow]; exact lifted os started H enc F)

/-- No parameter wants a stand-in; the program's own looks are off. -/
theorem plain (f : FuncId) (fn : Func) (hf : Tryd.pinned.checked.prog.funcNamed "hurdle/hurdlelaw05.CheckForward" = some f) (hfn : Tryd.pinned.checked.prog.funcs[f]? = some fn) :
    false = Tryd.pinned.checked.prog.looks [] ∧ ∀ (j : Nat) t, fn.params[j]? = some t → Tryd.pinned.checked.prog.wantsStandIn t = false := by
  obtain rfl : f = 5 := Option.some.inj ((show Tryd.prog.funcNamed "hurdle/hurdlelaw05.CheckForward" = some 5 by kernel_rfl).symm.trans hf) |>.symm
  obtain rfl : fn = Tryd.f5 := (Option.some.inj (Tryd.func5.symm.trans hfn)).symm
  refine ⟨by kernel_rfl, fun j t ht => ?_⟩
  have hm := Array.mem_of_getElem? ht
  rw [Tryd.params5] at hm
  have all : ∀ t ∈ (#[22] : Array TypeId).toList, Tryd.prog.wantsStandIn t = false := of_decide_eq_true (by kernel_rfl)
  exact all t (Array.mem_toList_iff.2 hm)

/-- The tied card. -/
theorem card : Rows.CheckForwardCardSaid :=
  Claim7.holds_tied_plain_at .later [] _ _ _ _ said (fun _ h => by cases h) (by kernel_rfl) (fun _ h => by cases h) checkForward_row_tie rfl ⟨rfl, rfl⟩ (by kernel_rfl) rfl plain (by kernel_rfl)
end Go.Proofs.YtmiflelmblnkaaaDoor.checkForward
