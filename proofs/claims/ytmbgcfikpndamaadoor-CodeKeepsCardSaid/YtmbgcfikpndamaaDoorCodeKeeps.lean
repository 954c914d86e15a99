/-
  For every code and all acts, in every world that has the table of package ins as its initialiser lays it: the law CodeKeeps returns true and changes nothing that was there.
-/
import Derived.Test.YtmbgcfikpndamaaDoorProg
import Derived.WalkKit
import Derived.ProofKit
import Derived.Lib.Hide
import Derived.Laws.Rows
import Derived.Laws.ResultCell
import Derived.Laws.Entries
import Derived.Handy
import Derived.OwnWalk
import Derived.Laws.OwnMore
import Derived.Deep.Draws
import Derived.Laws.IdiomStrings
import Derived.Lib.BufferRead
import Derived.Maps.OwnSet
import Derived.Laws.BitsAllLaws
import Derived.RowKit
import Derived.Lib.QuietBelow
import Derived.Lib.OthersKept
import Derived.BigQuiet
import Derived.Laws.Tables
import Derived.Deep.DeepCutAuto
import Derived.IntWalk
import Derived.Deep.RegionHeld3
import Derived.BigRegion
import Derived.Deep.QuietTactic
import Derived.Test.YtmbgcfikpndamaaDoorRows
import Derived.OpenShut
import Derived.Carry
import Derived.Deep.DeepHandedRow
import Derived.Lib.SmallJoins
import Derived.WalkMore
import Derived.Lib.AppendZerosOnto
import Derived.Lib.SliceRun
import Derived.Test.YtmbgcfikpndamaaDoorCards
import Derived.Test.YtmbgcfikpndamaaDoorTie
import Derived.Lib.LaidTab
import Derived.Stop.LaidErr
import Derived.Deep.Slices
import Derived.Test.YtmbgcfikpndamaaDoorPk1
import Derived.Test.YtmbgcfikpndamaaDoorPk2
import Derived.Test.YtmbgcfikpndamaaDoorPk3
namespace Go.Proofs.YtmbgcfikpndamaaDoor.codeKeeps
open Go.ChangeShapes Go.WideShapes Go.ChangeAt Go.RowKit

set_option maxRecDepth 100000 in
set_option maxHeartbeats 8000000 in
theorem walk (v0 : Value) (c : List X4) (v1 : Value) (l : List A4) (w : World) (hF : CdAt w v0 c) (_hk : ∀ x ∈ c, x.ok) (_hm : c.length ≤ 9223372036854775807) (hA : AAt w v1 l) (hok : ∀ x ∈ l, x.ok) (hml : l.length ≤ 9223372036854775807) (ht : OTab w) :
    Calls Tryd.prog 5 #[v0, v1] w fun e w' => e = .returned (.bool true) ∧ Below w.heap.size w w' := by
  obtain ⟨ao, cap, rfl⟩ := hF.shape
  obtain ⟨bo, bcap, rfl⟩ := hA.shape
  have HF := Lib.hid hF
  have HA := Lib.hid hA
  have HO := Lib.hid hok
  have HT := Lib.hid ht
  obtain ⟨m, hm⟩ : ∃ m, m = l.length := ⟨_, rfl⟩
  rw [← hm] at hml HA ⊢
  have HM := Lib.hid hm
  clear hF hA hok hm
  go_enter Tryd.func5, Tryd.ntmps5
  by_cases hbig : 1000 < c.length
  · go_wp2_with fail
    refine (hknow_end (Below.refl w.heap.size w) HT.out).mono ?_
    rintro e w1 ⟨rfl, hb1⟩
    have HB1 := Lib.hid hb1
    clear hb1
    go_wp2_with fail
    go_ret
    exact ⟨rfl, HB1.out⟩
  go_wp2_with fail
  go_loopw [5, 6] (fun u i wr => ∃ (n : Nat) (c' : List X4), n ≤ 60 ∧ n ≤ m ∧ i = .int .i64 n ∧ CdAt wr u c' ∧ c'.length ≤ 1000 + 3 * n ∧ (∃ p, c' = p ++ c) ∧ Below w.heap.size w wr) (fun _ i _ => 60 - (intOf i).toNat)
  case atStart => exact ⟨0, c, by omega, by omega, rfl, HF.out, by omega, ⟨[], rfl⟩, Below.refl _ _⟩
  case round =>
    obtain ⟨n, c', h60, hnm, rfl, hC, hlen, hp, hB⟩ := hrel
    have HC := Lib.hid hC
    have HP := Lib.hid hp
    have HB := Lib.hid hB
    obtain ⟨co, ccap, rfl⟩ := hC.shape
    clear hC hB hp
    have fin : ∀ q, q = c'.length - c.length → c.length ≤ c'.length ∧ ((c'.length : Int) - (c.length : Int)) = (q : Nat) ∧ ∃ v', (∀ W, (Instr.slice 22 (.slice co c'.length ccap) (some (.int .i64 (q : Nat))) none none).run Tryd.prog W = .ok v' W) ∧ FAt wr v' c := by
      intro q hq
      obtain ⟨p, hp⟩ := HP.out
      have hpl : c'.length = p.length + c.length := by rw [hp, List.length_append]
      have hqp : q = p.length := by omega
      obtain ⟨v', e', h'⟩ := HC.out.past q (by omega)
      have hd : c'.drop q = c := by rw [hqp, hp, List.drop_left]
      rw [hd] at h'
      exact ⟨by omega, by omega, v', e', h'⟩
    have HFin := Lib.hid fin
    clear fin
    by_cases h1 : n < m
    · by_cases h2 : n < 60
      · have hl : n < l.length := by have := HM.out; omega
        obtain ⟨b, off, rfl, d0, d1, d2, d3, d4, d5, d6⟩ := (HA.out.below HB.out).row n hl
        obtain ⟨a, ha⟩ : ∃ a, a = l[n] := ⟨_, rfl⟩
        rw [← ha] at d0 d1 d2 d3 d4 d5 d6
        have hao : a.ok := by rw [ha]; exact HO.out _ (List.getElem_mem hl)
        have HAO := Lib.hid hao
        have hl2 := (doN_len c' a).2
        have HE : Hid (∃ p, (doN c' a).1 = p ++ c) := Lib.hid (by
          obtain ⟨p, hp⟩ := HP.out
          obtain ⟨q, hq⟩ := doN_end c' a
          exact ⟨q ++ p, by rw [hq, List.append_assoc, ← hp]⟩)
        obtain ⟨g, hg⟩ : ∃ g, g = doN c' a := ⟨_, rfl⟩
        rw [← hg] at hl2 HE
        have L2 : g.1.length ≤ 1000 + 3 * (n + 1) := by omega
        have HG := Lib.hid hg
        clear ha hao hl2 hg hl
        go_wp2_with fail
        refine (hdo_any _ c' a _ HC.out (by omega) HAO.out (HT.out.below HB.out)).mono ?_
        rintro e w1 ⟨h, hb1⟩
        rw [← HG.out] at h
        obtain ⟨u1, h1', _, rfl⟩ := h
        have HB1 := Lib.hid (HB.out.trans (hb1.mono HB.out.size))
        have H1 := Lib.hid h1'
        obtain ⟨o1, p1, rfl⟩ := h1'.shape
        clear h1' hb1 d0 d1 d2 d3 d4 d5 d6
        go_wp2_with fail
        go_roundw
        case rel => exact ⟨n + 1, g.1, by omega, by omega, by go_num, H1.out, L2, HE.out, HB1.out⟩
        case measure => simp [intOf]; omega
      · obtain ⟨hle, hs, v', e', h'⟩ := HFin.out _ rfl
        obtain ⟨q, hq⟩ : ∃ q, q = c'.length - c.length := ⟨_, rfl⟩
        rw [← hq] at hs e'
        have H' := Lib.hid h'
        clear h' hq HFin
        go_wp2_with fail
        refine (same_any _ _ c c _ (by omega) H'.out (HF.out.1.below HB.out)).mono ?_
        rintro e w3 ⟨rfl, hb3⟩
        rw [decide_eq_true rfl]
        have HB3 := Lib.hid (HB.out.trans (hb3.mono HB.out.size))
        clear hb3
        go_wp2_with fail
        refine (hknow_end HB3.out HT.out).mono ?_
        rintro e w1 ⟨rfl, hb1⟩
        have HB1 := Lib.hid hb1
        clear hb1
        go_wp2_with fail
        go_ret
        exact ⟨rfl, HB1.out⟩
    · obtain ⟨hle, hs, v', e', h'⟩ := HFin.out _ rfl
      obtain ⟨q, hq⟩ : ∃ q, q = c'.length - c.length := ⟨_, rfl⟩
      rw [← hq] at hs e'
      have H' := Lib.hid h'
      clear h' hq HFin
      go_wp2_with fail
      refine (same_any _ _ c c _ (by omega) H'.out (HF.out.1.below HB.out)).mono ?_
      rintro e w3 ⟨rfl, hb3⟩
      rw [decide_eq_true rfl]
      have HB3 := Lib.hid (HB.out.trans (hb3.mono HB.out.size))
      clear hb3
      go_wp2_with fail
      refine (hknow_end HB3.out HT.out).mono ?_
      rintro e w1 ⟨rfl, hb1⟩
      have HB1 := Lib.hid hb1
      clear hb1
      go_wp2_with fail
      go_ret
      exact ⟨rfl, HB1.out⟩

set_option maxRecDepth 100000 in
/-- The row's contract, for every argument and every world. -/
theorem contract (H : Type) (enc : TypeId × Value → H) (W : World) (base : Nat) (args : Array Value) (ds gs : List (DataW H)) (before : List MemPlace)
    (hval : ∀ (j : Nat) t v, Tryd.f5.params[j]? = some t → args[j]? = some v → Value.okWide Tryd.prog W .any base t v)
    (hW : DataW.Whole enc Tryd.prog Tryd.f5.params.toList Rows.codeKeepsSpec.vars false W args.toList ds gs before) (hL : laidMetH Tryd.prog Rows.codeKeepsRow.laid W) :
    Calls Tryd.prog 5 args W fun e W' => ∃ v, e = .returned v ∧ Rows.codeKeepsSpec.post enc Tryd.prog Tryd.f5 false true false false W args v W' := by
  have hW' := hW
  obtain ⟨p, q, hA0, hV, rfl, hfz, hnd⟩ := hW
  have hA : DataW.TrodAll enc Tryd.prog W 0 (fun _ => true) true Tryd.f5.params.toList args.toList ds p := hA0
  rw [Tryd.params5] at hA hval
  obtain ⟨v0, vs0, d0, ds0, p0, q0, hargs0, rfl, rfl, t0, r0⟩ := trodAll_cons hA
  obtain ⟨v1, vs1, d1, ds1, p1, q1, hargs1, rfl, rfl, t1, r1⟩ := trodAll_cons r0
  obtain ⟨rfl, rfl, rfl⟩ := trodAll_nil r1
  obtain rfl : args = #[v0, v1] := by cases args; simp_all
  obtain ⟨c, hF0, hk0, hm0⟩ := open_code (hval 0 22 v0 rfl rfl) t0
  obtain ⟨l, hF1, hk1, hm1⟩ := open_acts (hval 1 23 v1 rfl rfl) t1
  refine (walk v0 c v1 l W hF0 hk0 hm0 hF1 hk1 hm1 (otab1_of hL)).mono fun e W' ⟨he, hg⟩ => ?_
  subst he
  exact ⟨_, rfl, law_post (tb := 4) laidOut (fun t ht => by rw [Tryd.params5] at ht; revert t; exact of_decide_eq_true (by kernel_rfl)) (by kernel_rfl) Tryd.underlying4 rfl
    (fun ds h => by rw [Tryd.params5] at h; match ds, h with | [_, _], _ => rfl) hW' hg⟩

theorem laid_met (os : Os) : laidMet Tryd.prog Rows.codeKeepsRow.laid ((laidWorld1 os).forCall (fun _ _ => 0) ⟨#[], #[.slice none 0 0, .slice none 0 0], []⟩).memory :=
  laidMet_of_run' 8 (by kernel_rfl) (by kernel_rfl)
theorem reads (os : Os) {H : Type} (enc : TypeId × Value → H) : ∃ places, DataW.whole enc Tryd.prog ((laidWorld1 os).forCall (fun _ _ => 0) ⟨#[], #[.slice none 0 0, .slice none 0 0], []⟩).memory Tryd.f5.params.toList Rows.codeKeepsSpec.vars false #[Value.slice none 0 0, Value.slice none 0 0].toList 8 = some ([.nil, .nil], [], places) :=
  ⟨[], by kernel_rfl⟩

set_option maxRecDepth 100000 in
theorem lifted (os : Os) (started : os.Started) (H : Type) (enc : TypeId × Value → H) (F : Stop.Interp) :
    ReturnsInHanded {} Tryd.checked os 5 .any ((OpenSpec.ofChange Rows.codeKeepsSpec).preRow enc Tryd.prog Tryd.f5 Rows.codeKeepsRow.domain false Rows.codeKeepsRow.laid) (((OpenSpec.ofChange Rows.codeKeepsSpec).at F).post enc Tryd.prog Tryd.f5 false true false false) := by
  obtain ⟨places, hx⟩ := reads os enc
  refine returnsInHanded_of_row (C := Tryd.checked) (s := OpenSpec.ofChange Rows.codeKeepsSpec) own started (by kernel_rfl) Tryd.func5
    (witness_row_at (enc := enc) (C := Tryd.checked) false (laidWorld1 os) #[.slice none 0 0, .slice none 0 0] rfl (by kernel_rfl) (by kernel_rfl) (by kernel_rfl)
      (OpenSpec.preRow_of_cond 8 hx (by kernel_rfl) (fun k hk => by cases hk) (by kernel_rfl) (laid_met os))) ?_
  intro W base args ds gs before hval hW _ _ _ hL _ _
  exact contract H enc W base args ds gs before hval hW hL

theorem said : Rows.CodeKeepsSaid :=
  OpenClaim.holds_of_cond 5 Tryd.f5 rfl rfl rfl rfl rfl rfl rfl ⟨rfl, rfl, rfl, rfl, rfl⟩ rfl rfl rfl rfl rfl (by kernel_rfl) Tryd.func5 (by kernel_rfl)
    (of_decide_eq_true (by kernel_rfl)) (by unfold Func.isWrapper; first | (rw [if_pos (by decide +kernel)]; kernel_rfl) | (rw [if_neg (by decide +kernel)]; exact ⟨rfl, rfl⟩))
    (fun os started H enc _ F => by rw [OpenClaim.pre_eq_preRow]; exact lifted os started H enc F)

/-- No parameter wants a stand-in; the program's own looks are off. -/
theorem plain (f : FuncId) (fn : Func) (hf : Tryd.pinned.checked.prog.funcNamed "hurdle/hurdlelaw12.CodeKeeps" = some f) (hfn : Tryd.pinned.checked.prog.funcs[f]? = some fn) :
    false = Tryd.pinned.checked.prog.looks [] ∧ ∀ (j : Nat) t, fn.params[j]? = some t → Tryd.pinned.checked.prog.wantsStandIn t = false := by
  obtain rfl : f = 5 := Option.some.inj ((show Tryd.prog.funcNamed "hurdle/hurdlelaw12.CodeKeeps" = some 5 by kernel_rfl).symm.trans hf) |>.symm
  obtain rfl : fn = Tryd.f5 := (Option.some.inj (Tryd.func5.symm.trans hfn)).symm
  refine ⟨by kernel_rfl, fun j t ht => ?_⟩
  have hm := Array.mem_of_getElem? ht
  rw [Tryd.params5] at hm
  have all : ∀ t ∈ (#[22, 23] : Array TypeId).toList, Tryd.prog.wantsStandIn t = false := of_decide_eq_true (by kernel_rfl)
  exact all t (Array.mem_toList_iff.2 hm)

/-- The tied card. -/
theorem card : Rows.CodeKeepsCardSaid :=
  Claim7.holds_tied_plain_at .later [] _ _ _ _ said (fun _ h => by cases h) (by kernel_rfl) (fun _ h => by cases h) codeKeeps_row_tie rfl ⟨rfl, rfl⟩ (by kernel_rfl) rfl plain (by kernel_rfl)
end Go.Proofs.YtmbgcfikpndamaaDoor.codeKeeps
