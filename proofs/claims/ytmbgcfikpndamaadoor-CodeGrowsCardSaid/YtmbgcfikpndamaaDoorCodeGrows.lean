/-
  For every code and all acts, in every world that has the table of package ins as its initialiser lays it: the law CodeGrows returns true and changes nothing that was there.
-/
import Derived.Test.YtmbgcfikpndamaaDoorProg
import Derived.WalkKit
import Derived.ProofKit
import Derived.Lib.Hide
import Derived.Laws.Rows
import Derived.Laws.ResultCell
import Derived.Laws.Entries
import Derived.Handy
import Derived.OwnWalk
import Derived.Laws.OwnMore
import Derived.Deep.Draws
import Derived.Laws.IdiomStrings
import Derived.Lib.BufferRead
import Derived.Maps.OwnSet
import Derived.Laws.BitsAllLaws
import Derived.RowKit
import Derived.Lib.QuietBelow
import Derived.Lib.OthersKept
import Derived.BigQuiet
import Derived.Laws.Tables
import Derived.Deep.DeepCutAuto
import Derived.IntWalk
import Derived.Deep.RegionHeld3
import Derived.BigRegion
import Derived.Deep.QuietTactic
import Derived.Test.YtmbgcfikpndamaaDoorRows
import Derived.OpenShut
import Derived.Carry
import Derived.Deep.DeepHandedRow
import Derived.Lib.SmallJoins
import Derived.WalkMore
import Derived.Lib.AppendZerosOnto
import Derived.Lib.SliceRun
import Derived.Test.YtmbgcfikpndamaaDoorCards
import Derived.Test.YtmbgcfikpndamaaDoorTie
import Derived.Lib.LaidTab
import Derived.Stop.LaidErr
import Derived.Deep.Slices
import Derived.Test.YtmbgcfikpndamaaDoorPk1
import Derived.Test.YtmbgcfikpndamaaDoorPk2
import Derived.Test.YtmbgcfikpndamaaDoorPk3
namespace Go.Proofs.YtmbgcfikpndamaaDoor.codeGrows
open Go.ChangeShapes Go.WideShapes Go.ChangeAt Go.RowKit

set_option maxRecDepth 100000 in
set_option maxHeartbeats 8000000 in
theorem walk (v0 : Value) (c : List X4) (v1 : Value) (l : List A4) (w : World) (hF : CdAt w v0 c) (_hk : ∀ x ∈ c, x.ok) (_hm : c.length ≤ 9223372036854775807) (hA : AAt w v1 l) (hok : ∀ x ∈ l, x.ok) (hml : l.length ≤ 9223372036854775807) (ht : OTab w) :
    Calls Tryd.prog 3 #[v0, v1] w fun e w' => e = .returned (.bool true) ∧ Below w.heap.size w w' := by
  obtain ⟨ao, cap, rfl⟩ := hF.shape
  obtain ⟨bo, bcap, rfl⟩ := hA.shape
  have HF := Lib.hid hF
  have HA := Lib.hid hA
  have HO := Lib.hid hok
  have HT := Lib.hid ht
  obtain ⟨m, hm⟩ : ∃ m, m = l.length := ⟨_, rfl⟩
  rw [← hm] at hml HA ⊢
  have HM := Lib.hid hm
  clear hF hA hok hm
  go_enter Tryd.func3, Tryd.ntmps3
  by_cases hbig : 1000 < c.length
  · go_wp2_with fail
    refine (hknow_end (Below.refl w.heap.size w) HT.out).mono ?_
    rintro e w1 ⟨rfl, hb1⟩
    have HB1 := Lib.hid hb1
    clear hb1
    go_wp2_with fail
    go_ret
    exact ⟨rfl, HB1.out⟩
  go_wp2_with fail
  go_loopw [0, 5] (fun u i wr => ∃ (n : Nat) (c' : List X4), n ≤ 60 ∧ n ≤ m ∧ i = .int .i64 n ∧ CdAt wr u c' ∧ c'.length ≤ 1000 + 3 * n ∧ Below w.heap.size w wr) (fun _ i _ => 60 - (intOf i).toNat)
  case atStart => exact ⟨0, c, by omega, by omega, rfl, HF.out, by omega, Below.refl _ _⟩
  case round =>
    obtain ⟨n, c', h60, hnm, rfl, hC, hlen, hB⟩ := hrel
    have HC := Lib.hid hC
    have HB := Lib.hid hB
    obtain ⟨co, ccap, rfl⟩ := hC.shape
    clear hC hB
    by_cases h1 : n < m
    · by_cases h2 : n < 60
      · have hl : n < l.length := by have := HM.out; omega
        obtain ⟨b, off, rfl, d0, d1, d2, d3, d4, d5, d6⟩ := (HA.out.below HB.out).row n hl
        obtain ⟨a, ha⟩ : ∃ a, a = l[n] := ⟨_, rfl⟩
        rw [← ha] at d0 d1 d2 d3 d4 d5 d6
        have hao : a.ok := by rw [ha]; exact HO.out _ (List.getElem_mem hl)
        have HAO := Lib.hid hao
        have hblt := HA.out
        have hbw : b < wr.heap.size := by
          apply Nat.lt_of_not_le
          intro hle
          have e : wr.heap[b]? = none := by simp; exact hle
          simp [World.cell?, e] at d0
        have hl2 := (doN_len c' a).2
        obtain ⟨g, hg⟩ : ∃ g, g = doN c' a := ⟨_, rfl⟩
        rw [← hg] at hl2
        have L2 : g.1.length ≤ 1000 + 3 * (n + 1) := by omega
        have HG := Lib.hid hg
        have D0 := Lib.hid d0
        have D1 := Lib.hid d1
        have D2 := Lib.hid d2
        have D3 := Lib.hid d3
        have D4 := Lib.hid d4
        have D5 := Lib.hid d5
        have D6 := Lib.hid d6
        clear ha hao hl2 hg hblt hl
        go_wp2_with fail
        refine (hdo_any _ c' a _ HC.out (by omega) HAO.out (HT.out.below HB.out)).mono ?_
        rintro e w1 ⟨h, hb1⟩
        rw [← HG.out] at h
        obtain ⟨u1, h1', _, rfl⟩ := h
        have HB1 := Lib.hid (HB.out.trans (hb1.mono HB.out.size))
        have H1 := Lib.hid h1'
        have HC1 := Lib.hid (HC.out.below hb1)
        clear d0 d1 d2 d3 d4 d5 d6
        have d0 := (hb1.cell (p := ⟨b, _, none⟩) hbw).trans D0.out
        have d1 := (hb1.cell (p := ⟨b, _, none⟩) hbw).trans D1.out
        have d2 := (hb1.cell (p := ⟨b, _, none⟩) hbw).trans D2.out
        have d3 := (hb1.cell (p := ⟨b, _, none⟩) hbw).trans D3.out
        have d4 := (hb1.cell (p := ⟨b, _, none⟩) hbw).trans D4.out
        have d5 := (hb1.cell (p := ⟨b, _, none⟩) hbw).trans D5.out
        have d6 := (hb1.cell (p := ⟨b, _, none⟩) hbw).trans D6.out
        obtain ⟨o1, p1, rfl⟩ := h1'.shape
        clear h1' hb1
        go_wp2_with fail
        refine (hmeans_any _ c' a _ HC1.out.1 (by omega) HAO.out).mono ?_
        rintro e w2 ⟨h, hb2⟩
        rw [← HG.out] at h
        obtain ⟨u2, h2', rfl⟩ := h
        have HB2 := Lib.hid (HB1.out.trans (hb2.mono HB1.out.size))
        have H12 := Lib.hid (H1.out.below hb2)
        have H2 := Lib.hid h2'
        obtain ⟨o2, p2, rfl⟩ := h2'.shape
        clear h2' hb2 d0 d1 d2 d3 d4 d5 d6
        have q1 : (g.2.1 == g.2.1) = true := by simp
        have q2 : (g.2.2 == g.2.2) = true := by simp
        go_wp2_with fail
        refine (same_any _ _ g.1 g.1 _ (by omega) H12.out.1 H2.out).mono ?_
        rintro e w3 ⟨rfl, hb3⟩
        rw [decide_eq_true rfl]
        have HB3 := Lib.hid (HB2.out.trans (hb3.mono HB2.out.size))
        have H13 := Lib.hid (H12.out.below hb3)
        clear hb3
        go_wp2_with fail
        go_roundw
        case rel => exact ⟨n + 1, g.1, by omega, by omega, by go_num, H13.out, L2, HB3.out⟩
        case measure => simp [intOf]; omega
      · go_wp2_with fail
        refine (hknow_end HB.out HT.out).mono ?_
        rintro e w1 ⟨rfl, hb1⟩
        have HB1 := Lib.hid hb1
        clear hb1
        go_wp2_with fail
        go_ret
        exact ⟨rfl, HB1.out⟩
    · go_wp2_with fail
      refine (hknow_end HB.out HT.out).mono ?_
      rintro e w1 ⟨rfl, hb1⟩
      have HB1 := Lib.hid hb1
      clear hb1
      go_wp2_with fail
      go_ret
      exact ⟨rfl, HB1.out⟩

set_option maxRecDepth 100000 in
/-- The row's contract, for every argument and every world. -/
theorem contract (H : Type) (enc : TypeId × Value → H) (W : World) (base : Nat) (args : Array Value) (ds gs : List (DataW H)) (before : List MemPlace)
    (hval : ∀ (j : Nat) t v, Tryd.f3.params[j]? = some t → args[j]? = some v → Value.okWide Tryd.prog W .any base t v)
    (hW : DataW.Whole enc Tryd.prog Tryd.f3.params.toList Rows.codeGrowsSpec.vars false W args.toList ds gs before) (hL : laidMetH Tryd.prog Rows.codeGrowsRow.laid W) :
    Calls Tryd.prog 3 args W fun e W' => ∃ v, e = .returned v ∧ Rows.codeGrowsSpec.post enc Tryd.prog Tryd.f3 false true false false W args v W' := by
  have hW' := hW
  obtain ⟨p, q, hA0, hV, rfl, hfz, hnd⟩ := hW
  have hA : DataW.TrodAll enc Tryd.prog W 0 (fun _ => true) true Tryd.f3.params.toList args.toList ds p := hA0
  rw [Tryd.params3] at hA hval
  obtain ⟨v0, vs0, d0, ds0, p0, q0, hargs0, rfl, rfl, t0, r0⟩ := trodAll_cons hA
  obtain ⟨v1, vs1, d1, ds1, p1, q1, hargs1, rfl, rfl, t1, r1⟩ := trodAll_cons r0
  obtain ⟨rfl, rfl, rfl⟩ := trodAll_nil r1
  obtain rfl : args = #[v0, v1] := by cases args; simp_all
  obtain ⟨c, hF0, hk0, hm0⟩ := open_code (hval 0 22 v0 rfl rfl) t0
  obtain ⟨l, hF1, hk1, hm1⟩ := open_acts (hval 1 23 v1 rfl rfl) t1
  refine (walk v0 c v1 l W hF0 hk0 hm0 hF1 hk1 hm1 (otab1_of hL)).mono fun e W' ⟨he, hg⟩ => ?_
  subst he
  exact ⟨_, rfl, law_post (tb := 4) laidOut (fun t ht => by rw [Tryd.params3] at ht; revert t; exact of_decide_eq_true (by kernel_rfl)) (by kernel_rfl) Tryd.underlying4 rfl
    (fun ds h => by rw [Tryd.params3] at h; match ds, h with | [_, _], _ => rfl) hW' hg⟩

theorem laid_met (os : Os) : laidMet Tryd.prog Rows.codeGrowsRow.laid ((laidWorld1 os).forCall (fun _ _ => 0) ⟨#[], #[.slice none 0 0, .slice none 0 0], []⟩).memory :=
  laidMet_of_run' 8 (by kernel_rfl) (by kernel_rfl)
theorem reads (os : Os) {H : Type} (enc : TypeId × Value → H) : ∃ places, DataW.whole enc Tryd.prog ((laidWorld1 os).forCall (fun _ _ => 0) ⟨#[], #[.slice none 0 0, .slice none 0 0], []⟩).memory Tryd.f3.params.toList Rows.codeGrowsSpec.vars false #[Value.slice none 0 0, Value.slice none 0 0].toList 8 = some ([.nil, .nil], [], places) :=
  ⟨[], by kernel_rfl⟩

set_option maxRecDepth 100000 in
theorem lifted (os : Os) (started : os.Started) (H : Type) (enc : TypeId × Value → H) (F : Stop.Interp) :
    ReturnsInHanded {} Tryd.checked os 3 .any ((OpenSpec.ofChange Rows.codeGrowsSpec).preRow enc Tryd.prog Tryd.f3 Rows.codeGrowsRow.domain false Rows.codeGrowsRow.laid) (((OpenSpec.ofChange Rows.codeGrowsSpec).at F).post enc Tryd.prog Tryd.f3 false true false false) := by
  obtain ⟨places, hx⟩ := reads os enc
  refine returnsInHanded_of_row (C := Tryd.checked) (s := OpenSpec.ofChange Rows.codeGrowsSpec) own started (by kernel_rfl) Tryd.func3
    (witness_row_at (enc := enc) (C := Tryd.checked) false (laidWorld1 os) #[.slice none 0 0, .slice none 0 0] rfl (by kernel_rfl) (by kernel_rfl) (by kernel_rfl)
      (OpenSpec.preRow_of_cond 8 hx (by kernel_rfl) (fun k hk => by cases hk) (by kernel_rfl) (laid_met os))) ?_
  intro W base args ds gs before hval hW _ _ _ hL _ _
  exact contract H enc W base args ds gs before hval hW hL

theorem said : Rows.CodeGrowsSaid :=
  OpenClaim.holds_of_cond 3 Tryd.f3 rfl rfl rfl rfl rfl rfl rfl ⟨rfl, rfl, rfl, rfl, rfl⟩ rfl rfl rfl rfl rfl (by kernel_rfl) Tryd.func3 (by kernel_rfl)
    (of_decide_eq_true (by kernel_rfl)) (by unfold Func.isWrapper; first | (rw [if_pos (by decide +kernel)]; kernel_rfl) | (rw [if_neg (by decide +kernel)]; exact ⟨rfl, rfl⟩))
    (fun os started H enc _ F => by rw [OpenClaim.pre_eq_preRow]; exact lifted os started H enc F)

/-- No parameter wants a stand-in; the program's own looks are off. -/
theorem plain (f : FuncId) (fn : Func) (hf : Tryd.pinned.checked.prog.funcNamed "hurdle/hurdlelaw12.CodeGrows" = some f) (hfn : Tryd.pinned.checked.prog.funcs[f]? = some fn) :
    false = Tryd.pinned.checked.prog.looks [] ∧ ∀ (j : Nat) t, fn.params[j]? = some t → Tryd.pinned.checked.prog.wantsStandIn t = false := by
  obtain rfl : f = 3 := Option.some.inj ((show Tryd.prog.funcNamed "hurdle/hurdlelaw12.CodeGrows" = some 3 by kernel_rfl).symm.trans hf) |>.symm
  obtain rfl : fn = Tryd.f3 := (Option.some.inj (Tryd.func3.symm.trans hfn)).symm
  refine ⟨by kernel_rfl, fun j t ht => ?_⟩
  have hm := Array.mem_of_getElem? ht
  rw [Tryd.params3] at hm
  have all : ∀ t ∈ (#[22, 23] : Array TypeId).toList, Tryd.prog.wantsStandIn t = false := of_decide_eq_true (by kernel_rfl)
  exact all t (Array.mem_toList_iff.2 hm)

/-- The tied card. -/
theorem card : Rows.CodeGrowsCardSaid :=
  Claim7.holds_tied_plain_at .later [] _ _ _ _ said (fun _ h => by cases h) (by kernel_rfl) (fun _ h => by cases h) codeGrows_row_tie rfl ⟨rfl, rfl⟩ (by kernel_rfl) rfl plain (by kernel_rfl)
end Go.Proofs.YtmbgcfikpndamaaDoor.codeGrows
