/-
  For every filter, in every world that has the table of package ins as its initialiser lays it: the law CheckPlaces returns true and changes nothing that was there.
-/
import Derived.Test.YtmiflelmblnkaaaDoorKFrame
namespace Go.Proofs.YtmiflelmblnkaaaDoor.checkPlaces
open Go.ChangeShapes Go.WideShapes Go.ChangeAt Go.RowKit

theorem place_of {l : List X4} {p e : Int} (h : CheckIs l p e) : ∃ i : Nat, p = i ∧ (0 < i → i < l.length) ∧ i ≤ l.length ∧ goodTo l i := by
  rcases h with ⟨_, rfl, _⟩ | ⟨_, rfl, _⟩ | ⟨_, _, i, hi, hg, _, rfl, _⟩ | ⟨a, _, hg, _, rfl, _⟩ | ⟨_, _, _, _, rfl, _⟩
  · exact ⟨0, rfl, fun h => absurd h (by omega), Nat.zero_le _, fun i hi => by omega⟩
  · exact ⟨0, rfl, fun h => absurd h (by omega), Nat.zero_le _, fun i hi => by omega⟩
  · exact ⟨i, rfl, fun _ => hi, Nat.le_of_lt hi, hg⟩
  · exact ⟨l.length - 1, by omega, fun _ => by omega, by omega, fun i hi => hg i (by omega)⟩
  · exact ⟨0, rfl, fun h => absurd h (by omega), Nat.zero_le _, fun i hi => by omega⟩
theorem place_ok {l : List X4} {p : Int} (h : CheckIs l p 0) : p = 0 := by
  rcases h with ⟨_, _, h⟩ | ⟨_, _, h⟩ | ⟨_, _, i, hi, hg, hb, _, h⟩ | ⟨_, _, _, _, _, h⟩ | ⟨_, _, _, _, rfl, _⟩
  · cases h
  · cases h
  · exact absurd h.symm hb
  · cases h
  · rfl

set_option maxHeartbeats 4000000 in
theorem walk (v : Value) (f : List X4) (w : World) (hF : FAt w v f) (hk : ∀ x ∈ f, x.ok) (hm : f.length ≤ 9223372036854775807) (ht : OTab w) :
    Calls Tryd.prog 9 #[v] w fun e w' => e = .returned (.bool true) ∧ Below w.heap.size w w' := by
  have HF := Lib.hid hF
  have HK := Lib.hid hk
  obtain ⟨ao, cap, rfl, hF'⟩ := hF
  clear hk
  by_cases hbig : 500 < f.length
  · clear hF'
    go_enter Tryd.func9, Tryd.ntmps9
    go_wp2_with fail
    refine (kknow_end (Below.refl _ _) ht).mono ?_
    rintro e w1 ⟨rfl, hb1⟩
    have HB1 := Lib.hid hb1
    clear hb1
    go_wp2_with fail
    go_ret
    exact ⟨rfl, HB1.out⟩
  · have HC := Lib.hid hF'
    clear hF'
    go_enter Tryd.func9, Tryd.ntmps9
    go_wp2_with fail
    refine (check_any _ _ _ HF.out HK.out ht).mono ?_
    rintro e w1 ⟨p1, e1, hc1, rfl, hb1⟩
    have HB1 := Lib.hid hb1
    cases he : (e1 == 0)
    · obtain ⟨i, rfl, hi, hil, hg⟩ := place_of hc1
      have HG := Lib.hid hg
      clear hb1 hc1 hg
      by_cases h0 : i = 0
      · subst h0
        clear hi
        go_wp2_with fail
        go_loopw [5] (fun i' wr => i' = .int .i64 0 ∧ Below w.heap.size w wr) (fun _ _ => 0)
        case atStart => exact ⟨rfl, HB1.out⟩
        case round =>
          obtain ⟨rfl, hB⟩ := hrel
          have HB := Lib.hid hB
          clear hB
          go_wp2_with fail
          refine (kknow_end HB.out ht).mono ?_
          rintro e w2 ⟨rfl, hb2⟩
          have HB2 := Lib.hid hb2
          clear hb2
          go_wp2_with fail
          go_ret
          exact ⟨rfl, HB2.out⟩
      · have hi' : i < f.length := hi (by omega)
        have hpos : 0 < i := by omega
        have hfi : decide (f.length ≤ i) = false := decide_eq_false (by omega)
        have hpos' : ((i : Int) == 0) = false := beq_eq_false_iff_ne.2 (by omega)
        clear hi
        go_wp2_with fail
        go_loopw [5] (fun i' wr => ∃ n : Nat, n ≤ i ∧ i' = .int .i64 n ∧ Below w.heap.size w wr) (fun i' _ => i - (intOf i').toNat)
        case atStart => exact ⟨0, by omega, rfl, HB1.out⟩
        case round =>
          obtain ⟨n, hn, rfl, hB⟩ := hrel
          have HB := Lib.hid hB
          by_cases hlt : n < i
          · rcases HC.out with h0 | ⟨b, off, rfl, hb, hc⟩
            · rw [h0] at hi'; simp at hi'
            have hnl : n < f.length := by omega
            obtain ⟨c0, c1, c2, c3⟩ := hc n hnl
            have d0 := (hB.cell (p := ⟨b, _, none⟩) hb).trans c0
            have d1 := (hB.cell (p := ⟨b, _, none⟩) hb).trans c1
            have d2 := (hB.cell (p := ⟨b, _, none⟩) hb).trans c2
            have d3 := (hB.cell (p := ⟨b, _, none⟩) hb).trans c3
            have HO1 := Lib.hid (HK.out _ (List.getElem_mem hnl))
            have HE := Lib.hid ((badAt_at hnl).symm.trans (HG.out n hlt))
            clear hc c0 c1 c2 c3 hB
            go_wp2_with fail
            refine (rone_any f[n] HO1.out (n : Int) (f.length : Int) (by omega) (by omega) (by omega) _).mono ?_
            rintro e w2 ⟨rfl, hb2⟩
            rw [HE.out]
            have HB2 := Lib.hid (below2 HB.out hb2)
            clear hb2 d0 d1 d2 d3
            go_wp2_with fail
            go_roundw
            case rel => exact ⟨n + 1, by omega, by go_num, HB2.out⟩
            case measure => simp [intOf]; omega
          · clear hB
            go_wp2_with fail
            refine (kknow_end HB.out ht).mono ?_
            rintro e w2 ⟨rfl, hb2⟩
            have HB2 := Lib.hid hb2
            clear hb2
            go_wp2_with fail
            go_ret
            exact ⟨rfl, HB2.out⟩
    · have e0 : e1 = 0 := by simpa using he
      subst e0
      obtain rfl := place_ok hc1
      clear hb1 hc1 he
      go_wp2_with fail
      refine (kknow_end HB1.out ht).mono ?_
      rintro e w2 ⟨rfl, hb2⟩
      have HB2 := Lib.hid hb2
      clear hb2
      go_wp2_with fail
      go_ret
      exact ⟨rfl, HB2.out⟩

set_option maxRecDepth 100000 in
/-- The row's contract, for every argument and every world. -/
theorem contract (H : Type) (enc : TypeId × Value → H) (W : World) (base : Nat) (args : Array Value) (ds gs : List (DataW H)) (before : List MemPlace)
    (hval : ∀ (j : Nat) t v, Tryd.f9.params[j]? = some t → args[j]? = some v → Value.okWide Tryd.prog W .any base t v)
    (hW : DataW.Whole enc Tryd.prog Tryd.f9.params.toList Rows.checkPlacesSpec.vars false W args.toList ds gs before) (hL : laidMetH Tryd.prog Rows.checkPlacesRow.laid W) :
    Calls Tryd.prog 9 args W fun e W' => ∃ v, e = .returned v ∧ Rows.checkPlacesSpec.post enc Tryd.prog Tryd.f9 false true false false W args v W' := by
  have hW' := hW
  obtain ⟨p, q, hA0, hV, rfl, hfz, hnd⟩ := hW
  have hA : DataW.TrodAll enc Tryd.prog W 0 (fun _ => true) true Tryd.f9.params.toList args.toList ds p := hA0
  rw [Tryd.params9] at hA hval
  obtain ⟨v0, vs0, d0, ds0, p0, q0, hargs0, rfl, rfl, t0, r0⟩ := trodAll_cons hA
  obtain ⟨rfl, rfl, rfl⟩ := trodAll_nil r0
  obtain rfl : args = #[v0] := by cases args; simp_all
  obtain ⟨f, hF0, hk0, hm0⟩ := open_filt (hval 0 22 v0 rfl rfl) t0
  refine (walk v0 f W hF0 hk0 hm0 (otab1_of hL)).mono fun e W' ⟨he, hg⟩ => ?_
  subst he
  exact ⟨_, rfl, law_post (tb := 4) laidOut (fun t ht => by rw [Tryd.params9] at ht; revert t; exact of_decide_eq_true (by kernel_rfl)) (by kernel_rfl) Tryd.underlying4 rfl
    (fun ds h => by rw [Tryd.params9] at h; match ds, h with | [_], _ => rfl) hW' hg⟩

theorem laid_met (os : Os) : laidMet Tryd.prog Rows.checkPlacesRow.laid ((laidWorld os).forCall (fun _ _ => 0) ⟨#[], #[.slice none 0 0], []⟩).memory :=
  laidMet_of_run' 8 (by kernel_rfl) (by kernel_rfl)
theorem reads (os : Os) {H : Type} (enc : TypeId × Value → H) : ∃ places, DataW.whole enc Tryd.prog ((laidWorld os).forCall (fun _ _ => 0) ⟨#[], #[.slice none 0 0], []⟩).memory Tryd.f9.params.toList Rows.checkPlacesSpec.vars false #[Value.slice none 0 0].toList 8 = some ([.nil], [], places) :=
  ⟨[], by kernel_rfl⟩

set_option maxRecDepth 100000 in
theorem lifted (os : Os) (started : os.Started) (H : Type) (enc : TypeId × Value → H) (F : Stop.Interp) :
    ReturnsInHanded {} Tryd.checked os 9 .any ((OpenSpec.ofChange Rows.checkPlacesSpec).preRow enc Tryd.prog Tryd.f9 Rows.checkPlacesRow.domain false Rows.checkPlacesRow.laid) (((OpenSpec.ofChange Rows.checkPlacesSpec).at F).post enc Tryd.prog Tryd.f9 false true false false) := by
  obtain ⟨places, hx⟩ := reads os enc
  refine returnsInHanded_of_row (C := Tryd.checked) (s := OpenSpec.ofChange Rows.checkPlacesSpec) own started (by kernel_rfl) Tryd.func9
    (witness_row_at (enc := enc) (C := Tryd.checked) false (laidWorld os) #[.slice none 0 0] rfl (by kernel_rfl) (by kernel_rfl) (by kernel_rfl)
      (OpenSpec.preRow_of_cond 8 hx (by kernel_rfl) (fun k hk => by cases hk) (by kernel_rfl) (laid_met os))) ?_
  intro W base args ds gs before hval hW _ _ _ hL _ _
  exact contract H enc W base args ds gs before hval hW hL

theorem said : Rows.CheckPlacesSaid :=
  OpenClaim.holds_of_cond 9 Tryd.f9 rfl rfl rfl rfl rfl rfl rfl ⟨rfl, rfl, rfl, rfl, rfl⟩ rfl rfl rfl rfl rfl (by kernel_rfl) Tryd.func9 (by kernel_rfl)
    (of_decide_eq_true (by kernel_rfl)) (by unfold Func.isWrapper; first | (rw [if_pos (by decide +kernel)]; kernel_rfl) | (rw [if_neg (by decide +kernel)]; exact ⟨rfl, rfl⟩))
    (fun os started H enc _ F => by rw [OpenClaim.pre_eq_preRow]; exact lifted os started H enc F)

/-- No parameter wants a stand-in; the program's own looks are off. -/
theorem plain (f : FuncId) (fn : Func) (hf : Tryd.pinned.checked.prog.funcNamed "hurdle/hurdlelaw05.CheckPlaces" = some f) (hfn : Tryd.pinned.checked.prog.funcs[f]? = some fn) :
    false = Tryd.pinned.checked.prog.looks [] ∧ ∀ (j : Nat) t, fn.params[j]? = some t → Tryd.pinned.checked.prog.wantsStandIn t = false := by
  obtain rfl : f = 9 := Option.some.inj ((show Tryd.prog.funcNamed "hurdle/hurdlelaw05.CheckPlaces" = some 9 by kernel_rfl).symm.trans hf) |>.symm
  obtain rfl : fn = Tryd.f9 := (Option.some.inj (Tryd.func9.symm.trans hfn)).symm
  refine ⟨by kernel_rfl, fun j t ht => ?_⟩
  have hm := Array.mem_of_getElem? ht
  rw [Tryd.params9] at hm
  have all : ∀ t ∈ (#[22] : Array TypeId).toList, Tryd.prog.wantsStandIn t = false := of_decide_eq_true (by kernel_rfl)
  exact all t (Array.mem_toList_iff.2 hm)

/-- The tied card. -/
theorem card : Rows.CheckPlacesCardSaid :=
  Claim7.holds_tied_plain_at .later [] _ _ _ _ said (fun _ h => by cases h) (by kernel_rfl) (fun _ h => by cases h) checkPlaces_row_tie rfl ⟨rfl, rfl⟩ (by kernel_rfl) rfl plain (by kernel_rfl)
end Go.Proofs.YtmiflelmblnkaaaDoor.checkPlaces
