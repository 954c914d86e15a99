/-
  What the laws' texts use, joined.
-/
import Derived.Test.YtmbgcfikpndamaaDoorProg
import Derived.WalkKit
import Derived.ProofKit
import Derived.Lib.Hide
import Derived.Laws.Rows
import Derived.Laws.ResultCell
import Derived.Laws.Entries
import Derived.Handy
import Derived.OwnWalk
import Derived.Laws.OwnMore
import Derived.Deep.Draws
import Derived.Laws.IdiomStrings
import Derived.Lib.BufferRead
import Derived.Maps.OwnSet
import Derived.Laws.BitsAllLaws
import Derived.RowKit
import Derived.Lib.QuietBelow
import Derived.Lib.OthersKept
import Derived.BigQuiet
import Derived.Laws.Tables
import Derived.Deep.DeepCutAuto
import Derived.IntWalk
import Derived.Deep.RegionHeld3
import Derived.BigRegion
import Derived.Deep.QuietTactic
import Derived.Test.YtmbgcfikpndamaaDoorRows
import Derived.OpenShut
import Derived.Carry
import Derived.Deep.DeepHandedRow
import Derived.Lib.SmallJoins
import Derived.WalkMore
import Derived.Lib.AppendZerosOnto
import Derived.Lib.SliceRun
import Derived.Test.YtmbgcfikpndamaaDoorCards
import Derived.Test.YtmbgcfikpndamaaDoorTie
import Derived.Lib.LaidTab
import Derived.Stop.LaidErr
import Derived.Deep.Slices
import Derived.Shelf.Strings.Builder1
import Derived.Shelf.Strings.Search1
import Derived.Lib.IndexLaws
import Derived.DeepKeys
import Derived.Laws.StructEq
import Derived.Test.YtmbgcfikpndamaaDoorPk1
import Derived.Test.YtmbgcfikpndamaaDoorPk2
/-
  slices.Grow and slices.Concat of instructions; code.put.
-/
namespace Go.Proofs.YtmbgcfikpndamaaDoor
open Go.ChangeShapes Go.WideShapes Go.ChangeAt Go.RowKit
set_option maxRecDepth 20000

theorem infoXH : (Tryd.prog.info? 30).map (fun i => (i.zero, i.size, i.bytes)) = some (some (.agg #[.int .i64 0, .int .i64 0, .int .i64 0, .int .u32 0]), 4, 32) := by kernel_rfl
/-- A slice is no longer than there is room. -/
def CapF (v : Value) : Prop := ∃ ao n cap, v = .slice ao n cap ∧ n ≤ cap ∧ cap ≤ 9223372036854775807
theorem CapF.own {w : World} {base : Nat} {e : TypeId} {size : Nat} {v : Value} {n : Nat} {xs : List Value} (h : w.ownsRow base e size v n xs) : CapF v := by
  rcases h.2 with ⟨rfl, h0⟩ | ⟨g, cap, cur, rfl, _, _, hc, hm, _⟩
  · exact ⟨none, 0, 0, rfl, Nat.le_refl _, by omega⟩
  · unfold maxLen at hm
    exact ⟨_, _, _, rfl, hc, hm⟩
theorem CapF.nil : CapF (.slice none 0 0) := ⟨none, 0, 0, rfl, Nat.le_refl _, by omega⟩
/-- Code that lies in a world, in a slice that is well made. -/
def CdAt (w : World) (v : Value) (l : List X4) : Prop := FAt w v l ∧ CapF v
theorem CdAt.below {w w' : World} {v : Value} {l : List X4} (h : CdAt w v l) (hb : Below w.heap.size w w') : CdAt w' v l := ⟨h.1.below hb, h.2⟩
theorem CdAt.own {w : World} {base : Nat} {e : TypeId} {v : Value} {n : Nat} {l : List X4} (h : w.ownsRow base e 4 v n (fcells l)) (hn : n = l.length) : CdAt w v l := ⟨FAt.own h hn, CapF.own h⟩
theorem CdAt.shape {w : World} {v : Value} {l : List X4} (h : CdAt w v l) : ∃ ao cap, v = .slice ao l.length cap := h.1.shape

/-- What is put into one block leaves the code as it is. -/
def Stays (g : Nat) (v : Value) (l : List X4) : Prop := ∀ (W W' : World) (o : Obj), RowPut W W' g o → FAt W v l → FAt W' v l
theorem stays_block {b off n cap g : Nat} {l : List X4} (hb : b ≠ g) : Stays g (.slice (some ⟨b, off, none⟩) n cap) l := by
  intro W W' o hp h
  obtain ⟨ao, cp, e, h⟩ := h
  refine ⟨ao, cp, e, h.imp id ?_⟩
  rintro ⟨b', off', rfl, hl, hc⟩
  cases e
  have hc2 : ∀ p, W'.cell? ⟨b, p, none⟩ = W.cell? ⟨b, p, none⟩ := fun p => by simp only [World.cell?, hp.rest b hb]
  refine ⟨b, off, rfl, by rw [hp.size]; exact hl, fun i hi => ?_⟩
  rw [hc2, hc2, hc2, hc2]
  exact hc i hi
theorem stays_nil {g : Nat} {v : Value} : Stays g v [] := by
  intro W W' o _ h
  obtain ⟨ao, cp, e, _⟩ := h
  exact ⟨ao, cp, e, .inl rfl⟩
theorem stays_at {w : World} {v : Value} {l : List X4} {g : Nat} (h : FAt w v l) (hg : w.heap.size ≤ g) : Stays g v l := by
  obtain ⟨ao, cp, rfl, h⟩ := h
  rcases h with rfl | ⟨b, off, rfl, hl, _⟩
  · exact stays_nil
  · exact stays_block (by omega)
theorem stays_own {w : World} {base : Nat} {e : TypeId} {v : Value} {n : Nat} {l : List X4} (h : w.ownsRow base e 4 v n (fcells l)) (hn : n = l.length) : ∀ g, g < base → Stays g v l := by
  intro g hg
  rcases h.2 with ⟨rfl, h0⟩ | ⟨b, cap, cur, rfl, hb, _⟩
  · obtain rfl : l = [] := List.eq_nil_of_length_eq_zero (by omega)
    exact stays_nil
  · exact stays_block (by omega)
theorem FAt.src_m {w : World} {v : Value} {l : List X4} {n : Nat} (h : FAt w v l) (hn : n = l.length) : SrcAt w 4 v n (fcells l) := by
  rw [hn]
  exact h.src
set_option maxHeartbeats 4000000 in
set_option maxRecDepth 100000 in
theorem hgrow_any (n : Nat) (w : World) (hn : n ≤ 5000) :
    Calls Tryd.prog 53 #[.slice none 0 0, .int .i64 (n : Nat)] w fun e w' => (∃ v, e = .returned v ∧ w'.ownsRow w.heap.size 30 4 v 0 []) ∧ Below w.heap.size w w' := by
  obtain ⟨i0, hi, hz0, hz1, hz2⟩ := info_parts infoXH
  by_cases h0 : n = 0
  · subst h0
    go_enter Tryd.func53, Tryd.ntmps53
    go_wp2_with fail
    go_ret
    exact ⟨⟨_, rfl, rfl, .inl ⟨rfl, rfl⟩⟩, Below.refl _ _⟩
  · have h1 : (0 : Int) < n := by omega
    have hfit : Builtin.nextslicecap (0 + n) 0 * i0.bytes ≤ 281474976710656 := growslice_fits (by omega) (by rw [hz2]; omega)
    have hr : ∀ ty, (Builtin.append_ #[22, 3] ty #[.slice none 0 0, .int .i64 (n : Nat)]).run Tryd.prog w = _ := fun ty =>
      Lib.run_append_grow_zeros w 22 3 ty 30 i0 (.agg #[.int .i64 0, .int .i64 0, .int .i64 0, .int .u32 0]) .i64 .i64 Tryd.underlying22 Tryd.underlying3 hi hz0 none 0 0 [] (run_firstCells_none w.drew i0.size 0 0 0) n (by omega) (by omega) (by omega) (by omega) (by rw [hz2]; omega) hfit
    have hG := grownCap_ge w (0 + n) 0 30
    have hG2 := grownCap_le_maxLen w (0 + n) 0 30 (by unfold maxLen; omega)
    generalize grownCap w (0 + n) 0 30 = G at hr hG hG2
    have hsz : (#[] ++ Builtin.zeroCells (Value.agg #[.int .i64 0, .int .i64 0, .int .i64 0, .int .u32 0]).cells n ++ Builtin.zeroCells (Value.agg #[.int .i64 0, .int .i64 0, .int .i64 0, .int .u32 0]).cells (G - (0 + n))).size = G * 4 := by
      rw [Array.size_append, Array.size_append, size_zeroCells, size_zeroCells]
      simp [Value.cells]
      omega
    have hr' : ∀ ty, (Builtin.append_ #[22, 3] ty #[.slice none 0 0, .int .i64 (n : Nat)]).run Tryd.prog w = .ok (.slice (some ⟨w.heap.size, 0, none⟩) (0 + n) G) (w.drew.alloc (.cells (#[] ++ Builtin.zeroCells (Value.agg #[.int .i64 0, .int .i64 0, .int .i64 0, .int .u32 0]).cells n ++ Builtin.zeroCells (Value.agg #[.int .i64 0, .int .i64 0, .int .i64 0, .int .u32 0]).cells (G - (0 + n))) 30)) := hr
    clear hr hfit
    generalize (#[] ++ Builtin.zeroCells (Value.agg #[.int .i64 0, .int .i64 0, .int .i64 0, .int .u32 0]).cells n ++ Builtin.zeroCells (Value.agg #[.int .i64 0, .int .i64 0, .int .i64 0, .int .u32 0]).cells (G - (0 + n))) = cs at hr' hsz
    rw [Nat.zero_add] at hr' hG
    have HEnd : Hid ((∃ v, (Ending.returned (.slice (some ⟨w.heap.size, 0, none⟩) 0 G)) = .returned v ∧ (w.drew.alloc (.cells cs 30)).ownsRow w.heap.size 30 4 v 0 []) ∧ Below w.heap.size w (w.drew.alloc (.cells cs 30))) := Lib.hid
      ⟨⟨_, rfl, by simp, .inr ⟨w.heap.size, G, cs, rfl, Nat.le_refl _, heap_alloc_new w.drew _, by omega, hG2, hsz, by simp⟩⟩, ba _ (bdN (Below.refl w.heap.size w) 1)⟩
    have hG3 : G ≤ 9223372036854775807 := by unfold maxLen at hG2; omega
    have hG4 : n ≤ G := hG
    clear hsz hG hG2 hi hz0 hz1 hz2
    go_enter Tryd.func53, Tryd.ntmps53
    go_wp2_with (at_builtin; refine Lib.wpList_append_run _ rfl _ _ _ _ rfl _ _ rfl rfl _ _ (hr' _) ?_)
    all_goals (go_ret; exact HEnd.out)

/-- Of two slices, the first so many. -/
def sumN (a b : Nat) : Nat → Nat
  | 0 => 0
  | 1 => a
  | _ => a + b
def catN (k l : List X4) : Nat → List X4
  | 0 => []
  | 1 => k
  | _ => k ++ l
set_option maxHeartbeats 4000000 in
/-- What stands in two slices, one behind the other. -/
theorem hconcat_any (u v : Value) (k l : List X4) (g cap : Nat) (w : World) (hk : FAt w u k) (hl : FAt w v l) (c0 : w.cell? ⟨g, 0, none⟩ = some u) (c1 : w.cell? ⟨g, 1, none⟩ = some v) (hg : g < w.heap.size) (hn : k.length + l.length ≤ 5000) :
    Calls Tryd.prog 39 #[.slice (some ⟨g, 0, none⟩) 2 cap] w fun e w' => (∃ r, e = .returned r ∧ CdAt w' r (k ++ l) ∧ ∀ b, b < w.heap.size → Stays b r (k ++ l)) ∧ Below w.heap.size w w' := by
  obtain ⟨i0, hi, hz0, hz1, hz2⟩ := info_parts infoXH
  obtain ⟨ao, ca, rfl⟩ := hk.shape
  obtain ⟨bo, cb, rfl⟩ := hl.shape
  obtain ⟨m, hm⟩ : ∃ m, m = k.length := ⟨_, rfl⟩
  obtain ⟨n, hnn⟩ : ∃ n, n = l.length := ⟨_, rfl⟩
  rw [← hm, ← hnn] at hn
  rw [← hm] at c0 hk
  rw [← hnn] at c1 hl
  have HK := Lib.hid hk
  have HL := Lib.hid hl
  have HM := Lib.hid hm
  have HN := Lib.hid hnn
  have C0 := Lib.hid c0
  have C1 := Lib.hid c1
  clear hk hl hm hnn
  go_enter Tryd.func39, Tryd.ntmps39
  go_wp2_with fail
  go_loopw [3, 11] (fun z i wr => ∃ r : Nat, r ≤ 2 ∧ i = .int .i64 r ∧ z = .int .i64 (sumN m n r : Nat) ∧ w = wr) (fun _ i _ => 2 - (intOf i).toNat)
  case atStart => exact ⟨0, by omega, rfl, rfl, rfl⟩
  case round =>
    obtain ⟨r, hr, rfl, rfl, rfl⟩ := hrel
    match r, hr with
    | 0, _ =>
      have hs : ((sumN m n 0 : Nat) : Int) = 0 := rfl
      rw [hs]
      clear c1
      go_wp2_with fail
      go_roundw
      case rel => exact ⟨1, by omega, rfl, by show _ = Value.int .i64 ((m : Nat) : Int); go_num, trivial⟩
      case measure => simp [intOf]
    | 1, _ =>
      have hs : ((sumN m n 1 : Nat) : Int) = m := rfl
      rw [hs]
      clear c0
      go_wp2_with fail
      go_roundw
      case rel => exact ⟨2, by omega, rfl, by show _ = Value.int .i64 ((m + n : Nat) : Int); go_num, trivial⟩
      case measure => simp [intOf]
    | 2, _ =>
      have hs : ((sumN m n 2 : Nat) : Int) = ((m + n : Nat) : Int) := rfl
      rw [hs]
      clear c0 c1
      go_wp2_with fail
      refine (hgrow_any (m + n) _ (by omega)).mono ?_
      rintro e w1 ⟨⟨v1, rfl, ho1⟩, hb1⟩
      have HO1 := Lib.hid ho1
      have HB1 := Lib.hid hb1
      clear ho1 hb1 hs
      go_wp2_with fail
      go_loopw [6, 27] (fun u i wr => ∃ r : Nat, r ≤ 2 ∧ i = .int .i64 r ∧ wr.ownsRow w.heap.size 30 4 u (sumN m n r) (fcells (catN k l r)) ∧ Below w.heap.size w wr) (fun _ i _ => 2 - (intOf i).toNat)
      case atStart => exact ⟨0, by omega, rfl, HO1.out, HB1.out⟩
      case round =>
        obtain ⟨r, hr, rfl, ho, hb⟩ := hrel
        have HO := Lib.hid ho
        have HB := Lib.hid hb
        match r, hr with
        | 0, _ =>
          have c0 := (hb.cell (p := ⟨g, 0, none⟩) hg).trans C0.out
          have hsz := hb.size
          clear ho hb
          go_wp2_with (at_builtin; refine wpList_append_src _ rfl _ _ 22 rfl w.heap.size 30 i0 (.agg #[.int .i64 0, .int .i64 0, .int .i64 0, .int .u32 0]) 4 32 Tryd.underlying22 hi hz0 hz1 hz2 rfl (by decide) _ 0 [] rfl HO.out _ m (fcells k) rfl (FAt.src_m (HK.out.below HB.out) HM.out) (fcells_one' k) (by unfold maxLen; omega) (by omega) hsz ?_)
          intro v2 w2 hown hgrow
          have HB2 := Lib.hid (grown_below HB.out HO.out hgrow hsz)
          have HO2 := Lib.hid hown
          clear hown hgrow c0 hsz
          go_wp2_with fail
          go_roundw
          case rel => exact ⟨1, by omega, rfl, HO2.out, HB2.out⟩
          case measure => simp [intOf]
        | 1, _ =>
          have c1 := (hb.cell (p := ⟨g, 1, none⟩) hg).trans C1.out
          have hsz := hb.size
          clear ho hb
          go_wp2_with (at_builtin; refine wpList_append_src _ rfl _ _ 22 rfl w.heap.size 30 i0 (.agg #[.int .i64 0, .int .i64 0, .int .i64 0, .int .u32 0]) 4 32 Tryd.underlying22 hi hz0 hz1 hz2 rfl (by decide) _ m (fcells k) rfl HO.out _ n (fcells l) rfl (FAt.src_m (HL.out.below HB.out) HN.out) (fcells_one' l) (by unfold maxLen; omega) (by omega) hsz ?_)
          intro v2 w2 hown hgrow
          have HB2 := Lib.hid (grown_below HB.out HO.out hgrow hsz)
          have HO2 := Lib.hid hown
          clear hown hgrow c1 hsz
          go_wp2_with fail
          go_roundw
          case rel => exact ⟨2, by omega, rfl, by have h := HO2.out; rw [← fcells_app] at h; exact h, HB2.out⟩
          case measure => simp [intOf]
        | 2, _ =>
          have HE := Lib.hid (CdAt.own (l := k ++ l) ho (by rw [List.length_append, ← HM.out, ← HN.out]; rfl))
          have HS := Lib.hid (stays_own (l := k ++ l) ho (by rw [List.length_append, ← HM.out, ← HN.out]; rfl))
          clear ho hb
          go_wp2_with fail
          go_ret
          exact ⟨⟨_, rfl, HE.out, HS.out⟩, HB.out⟩

/-- What the program's functions answer: code, a label, an error; where the code was made, it lies in no block that was there. -/
def GEnd (B : Nat) (v : Value) (c : List X4) (g : G3) (w' : World) (e : Ending) : Prop := ∃ v', CdAt w' v' g.1 ∧ (∀ b, b < B → Stays b v c → Stays b v' g.1) ∧ e = .returned (.tuple #[v', .int .i64 g.2.1, .int .i64 g.2.2])
theorem gEnd_same {B : Nat} {g : G3} {w' : World} {v : Value} {c : List X4} {l er : Int} (hg : g = (c, l, er)) (h : CdAt w' v c) : GEnd B v c g w' (.returned (.tuple #[v, .int .i64 l, .int .i64 er])) := by
  rw [hg]
  exact ⟨v, h, fun _ _ h => h, rfl⟩
theorem gEnd_new {B : Nat} {g : G3} {w' : World} {v u : Value} {c d : List X4} {l er : Int} (hg : g = (d, l, er)) (h : CdAt w' u d) (hs : ∀ b, b < B → Stays b u d) : GEnd B v c g w' (.returned (.tuple #[u, .int .i64 l, .int .i64 er])) := by
  rw [hg]
  exact ⟨u, h, fun b hb _ => hs b hb, rfl⟩
set_option maxHeartbeats 4000000 in
/-- What code.put answers, where there is room. -/
theorem hput_any (u v : Value) (k l c : List X4) (w : World) (hk : CdAt w u k) (hl : CdAt w v l) (hc : c = k ++ l) (hn : c.length ≤ 4096) :
    Calls Tryd.prog 26 #[v, u] w fun e w' => (∃ r, CdAt w' r c ∧ (∀ b, b < w.heap.size → Stays b r c) ∧ e = .returned (.tuple #[r, .int .i64 (c.length : Nat), .int .i64 0])) ∧ Below w.heap.size w w' := by
  obtain ⟨ao, ca, rfl⟩ := hk.shape
  obtain ⟨bo, cb, rfl⟩ := hl.shape
  have hcl : c.length = k.length + l.length := by rw [hc, List.length_append]
  have HK := Lib.hid hk
  have HL := Lib.hid hl
  have HC := Lib.hid hc
  have HCL := Lib.hid hcl
  have hs : (k.length : Int) + (l.length : Int) = (c.length : Nat) := by omega
  clear hk hl hc hcl
  go_enter Tryd.func26, Tryd.ntmps26
  go_wp2_with fail
  have hb := ba (.cells #[.slice ao k.length ca, .slice bo l.length cb] 22) (Below.refl w.heap.size w)
  refine (hconcat_any _ _ k l w.heap.size _ _ (HK.out.1.below hb) (HL.out.1.below hb) (cell_in (heap_alloc_new w (.cells #[.slice ao k.length ca, .slice bo l.length cb] 22)) 0) (cell_in (heap_alloc_new w (.cells #[.slice ao k.length ca, .slice bo l.length cb] 22)) 1) (by rw [size_alloc]; omega) (by rw [← HCL.out]; omega)).mono ?_
  rintro e w1 ⟨⟨r, rfl, hr, hst⟩, hb1⟩
  rw [← HC.out] at hr hst
  have HB := Lib.hid (below2 hb hb1)
  have HE := Lib.hid hr
  have HS : Hid (∀ b, b < w.heap.size → Stays b r c) := Lib.hid (fun b hbb => hst b (Nat.lt_of_lt_of_le hbb hb.size))
  obtain ⟨ro, rc, rfl⟩ := hr.shape
  clear hb hb1 hr hst
  go_wp2_with fail
  go_ret3
  exact ⟨⟨_, HE.out, HS.out, rfl⟩, HB.out⟩
end Go.Proofs.YtmbgcfikpndamaaDoor
/-
  What Add, Jump and Branch of package code answer.
-/
namespace Go.Proofs.YtmbgcfikpndamaaDoor
open Go.ChangeShapes Go.WideShapes Go.ChangeAt Go.RowKit
set_option maxRecDepth 20000

theorem hdist_any (v : Value) (c : List X4) (l : Int) (w : World) (hF : CdAt w v c) (h0 : -9223372036854775808 ≤ (c.length : Int) - l) (h1 : (c.length : Int) - l ≤ 9223372036854775807) :
    Calls Tryd.prog 27 #[v, .int .i64 l] w fun e w' => e = .returned (.int .i64 ((c.length : Int) - l)) ∧ w = w' := by
  obtain ⟨ao, cap, rfl⟩ := hF.shape
  clear hF
  have hw : IntKind.i64.wrap ((c.length : Int) - l) = (c.length : Int) - l := by rw [IntKind.wrap_i64]; omega
  go_enter Tryd.func27, Tryd.ntmps27
  go_wp2_with fail
  go_ret
  exact ⟨rfl, rfl⟩
theorem hlab_any (v : Value) (c : List X4) (l : Int) (w : World) (hF : CdAt w v c) :
    Calls Tryd.prog 25 #[v, .int .i64 l] w fun e w' => e = .returned (.bool (isLab c l)) ∧ w = w' := by
  obtain ⟨ao, cap, rfl⟩ := hF.shape
  clear hF
  unfold isLab
  have go : ∀ b : Bool, decide (1 ≤ l) = b → Calls Tryd.prog 25 #[.slice ao c.length cap, .int .i64 l] w fun e w' => e = .returned (.bool (b && decide (l ≤ c.length))) ∧ w = w' := by
    intro b h
    cases b
    · go_enter Tryd.func25, Tryd.ntmps25
      go_wp2_with fail
      go_ret
      exact ⟨rfl, rfl⟩
    · go_enter Tryd.func25, Tryd.ntmps25
      go_wp2_with fail
      go_ret
      exact ⟨rfl, rfl⟩
  exact go _ rfl
/-- One instruction, in a slice that was just laid. -/
theorem CdAt.one (w : World) (a b c d : Int) : CdAt (w.alloc (insB a b c d)) (.slice (some ⟨w.heap.size, 0, none⟩) 1 1) [⟨a, b, c, d⟩] :=
  ⟨FAt.lit w [⟨a, b, c, d⟩] 30 1, ⟨_, 1, 1, rfl, Nat.le_refl _, by omega⟩⟩

set_option maxHeartbeats 4000000 in
theorem hadd_any (v : Value) (c : List X4) (op jt jf k : Int) (w : World) (hF : CdAt w v c) (hl : c.length ≤ 4000) (ht : OTab w) :
    Calls Tryd.prog 22 #[v, insV op jt jf k] w fun e w' => GEnd w.heap.size v c (addN c ⟨op, jt, jf, k⟩) w' e ∧ Below w.heap.size w w' := by
  obtain ⟨ao, cap, rfl⟩ := hF.shape
  have HF := Lib.hid hF
  have HG : Hid (addN c ⟨op, jt, jf, k⟩ = if (right op jt jf k && !(op == 5) && !isBranch op) then (⟨op, jt, jf, k⟩ :: c, (c.length : Int) + 1, 0) else (c, 0, 1)) := Lib.hid rfl
  obtain ⟨g, hg⟩ : ∃ g, g = addN c ⟨op, jt, jf, k⟩ := ⟨_, rfl⟩
  rw [← hg] at HG ⊢
  clear hF hg
  obtain ⟨W, hW, X0, HBx⟩ : ∃ W, W = w.alloc (insB op jt jf k) ∧ W.heap[w.heap.size]? = some (insB op jt jf k) ∧ Below w.heap.size w W := ⟨_, rfl, heap_alloc_new _ _, ba _ (Below.refl _ _)⟩
  have HX := Lib.hid X0
  have HB0 := Lib.hid HBx
  clear X0 HBx
  go_enter Tryd.func22, Tryd.ntmps22
  go_upto_region 1 with fail
  rw [← hW]
  clear hW
  obtain ⟨c0, c1, c2, c3⟩ := insX HX.out
  go_wp2_with fail
  refine (right_any op jt jf k _ (ht.below HB0.out)).mono ?_
  rintro e w1 ⟨rfl, hb1⟩
  have HX1 := Lib.hid (kb hb1 HX.out)
  have HB1 := Lib.hid (HB0.out.trans (hb1.mono HB0.out.size))
  clear hb1 c0 c1 c2 c3
  obtain ⟨c0, c1, c2, c3⟩ := insX HX1.out
  have fin : ∀ w', Below w.heap.size w w' → g = (c, 0, 1) → GEnd w.heap.size (.slice ao c.length cap) c g w' (.returned (.tuple #[.slice ao c.length cap, .int .i64 0, .int .i64 1])) ∧ Below w.heap.size w w' := fun w' hb hq => ⟨gEnd_same hq (HF.out.below hb), hb⟩
  have HFin := Lib.hid fin
  clear fin
  cases hr : right op jt jf k
  · have HE := Lib.hid (HFin.out _ HB1.out (by rw [HG.out, hr]; rfl))
    clear hr
    go_wp2_with fail
    go_ret3
    exact HE.out
  cases h5 : (op == 5)
  · go_wp2_with fail
    refine (branch_any op jt jf k _ (ht.below HB1.out)).mono ?_
    rintro e w2 ⟨rfl, hb2⟩
    have HX2 := Lib.hid (kb hb2 HX1.out)
    have HB2 := Lib.hid (HB1.out.trans (hb2.mono HB1.out.size))
    clear hb2 c0 c1 c2 c3
    obtain ⟨c0, c1, c2, c3⟩ := insX HX2.out
    cases hb : isBranch op
    · have HE : Hid (g = (⟨op, jt, jf, k⟩ :: c, (((⟨op, jt, jf, k⟩ :: c).length : Nat) : Int), 0)) := Lib.hid (by rw [HG.out, hr, h5, hb]; rfl)
      clear hr h5 hb
      go_wp2_with fail
      have hbA := ba (insB op jt jf k) (Below.refl w2.heap.size w2)
      refine (hput_any _ _ [⟨op, jt, jf, k⟩] c (⟨op, jt, jf, k⟩ :: c) _ (CdAt.one w2 op jt jf k) (HF.out.below (HB2.out.trans (hbA.mono HB2.out.size))) rfl (by rw [List.length_cons]; omega)).mono ?_
      rintro e w3 ⟨⟨r, hr, hst, rfl⟩, hb3⟩
      have HR := Lib.hid (gEnd_new (B := w.heap.size) (v := .slice ao c.length cap) (c := c) HE.out hr (fun b hb => hst b (Nat.lt_of_lt_of_le hb (Nat.le_trans HB2.out.size hbA.size))))
      have HB3 := Lib.hid (below2 (HB2.out.trans (hbA.mono HB2.out.size)) hb3)
      clear hb3 hr hst hbA
      go_wp2_with fail
      go_ret3
      exact ⟨HR.out, HB3.out⟩
    · have HE := Lib.hid (HFin.out _ HB2.out (by rw [HG.out, hr, h5, hb]; rfl))
      clear hr h5 hb
      go_wp2_with fail
      go_ret3
      exact HE.out
  · have HE := Lib.hid (HFin.out _ HB1.out (by rw [HG.out, hr, h5]; rfl))
    clear hr
    go_wp2_with fail
    go_ret3
    exact HE.out

set_option maxHeartbeats 4000000 in
theorem hjump_any (v : Value) (c : List X4) (q : Int) (w : World) (hF : CdAt w v c) (hl : c.length ≤ 4000) :
    Calls Tryd.prog 12 #[v, .int .i64 q] w fun e w' => GEnd w.heap.size v c (jumpN c q) w' e ∧ Below w.heap.size w w' := by
  obtain ⟨ao, cap, rfl⟩ := hF.shape
  have HF := Lib.hid hF
  have HG : Hid (jumpN c q = if isLab c q then (if q = c.length then (c, q, 0) else (jaTo c q :: c, (c.length : Int) + 1, 0)) else (c, 0, 4)) := Lib.hid rfl
  obtain ⟨g, hg⟩ : ∃ g, g = jumpN c q := ⟨_, rfl⟩
  rw [← hg] at HG ⊢
  clear hF hg
  go_enter Tryd.func12, Tryd.ntmps12
  go_wp2_with fail
  refine (hlab_any _ c q w HF.out).mono ?_
  rintro e w1 ⟨rfl, rfl⟩
  cases hL : isLab c q
  · have HE := Lib.hid (gEnd_same (B := w.heap.size) (g := g) (by rw [HG.out, hL]; rfl) HF.out)
    clear hL
    go_wp2_with fail
    go_ret3
    exact ⟨HE.out, Below.refl _ _⟩
  obtain ⟨q0, q1⟩ := isLab_iff.1 hL
  by_cases hq : q = c.length
  · have HE : Hid (g = (c, ((c.length : Nat) : Int), 0)) := Lib.hid (by rw [HG.out, hL, if_pos hq, hq]; rfl)
    have hq2 : (q == (c.length : Int)) = true := by simpa using hq
    clear hL hq q0 q1
    go_wp2_with fail
    refine (hput_any _ _ [] c c _ ⟨FAt.nil _, CapF.nil⟩ HF.out rfl (by omega)).mono ?_
    rintro e w3 ⟨⟨r, hr, hst, rfl⟩, hb3⟩
    have HR := Lib.hid (gEnd_new (v := .slice ao c.length cap) (c := c) HE.out hr hst)
    have HB3 := Lib.hid hb3
    clear hb3 hr hst
    go_wp2_with fail
    go_ret3
    exact ⟨HR.out, HB3.out⟩
  · have HE : Hid (g = (jaTo c q :: c, (((jaTo c q :: c).length : Nat) : Int), 0)) := Lib.hid (by rw [HG.out, hL, if_neg hq]; rfl)
    have hq2 : (q == (c.length : Int)) = false := by simpa using hq
    have hw : IntKind.u32.wrap ((c.length : Int) - q) = (c.length : Int) - q := by rw [IntKind.wrap_u32]; omega
    clear hL hq
    go_wp2_with fail
    refine (hdist_any _ c q w HF.out (by omega) (by omega)).mono ?_
    rintro e w2 ⟨rfl, rfl⟩
    go_wp2_with fail
    have hbA := ba (insB 5 0 0 ((c.length : Int) - q)) (Below.refl w.heap.size w)
    refine (hput_any _ _ [jaTo c q] c (jaTo c q :: c) _ (CdAt.one w 5 0 0 ((c.length : Int) - q)) (HF.out.below hbA) rfl (by rw [List.length_cons]; omega)).mono ?_
    rintro e w3 ⟨⟨r, hr, hst, rfl⟩, hb3⟩
    have HR := Lib.hid (gEnd_new (B := w.heap.size) (v := .slice ao c.length cap) (c := c) HE.out hr (fun b hb => hst b (Nat.lt_of_lt_of_le hb hbA.size)))
    have HB3 := Lib.hid (below2 hbA hb3)
    clear hb3 hr hst hbA
    go_wp2_with fail
    go_ret3
    exact ⟨HR.out, HB3.out⟩

set_option maxHeartbeats 4000000 in
theorem hnear_any (v : Value) (c : List X4) (q : Int) (w : World) (hF : CdAt w v c) (hl : c.length ≤ 4000) (hL : isLab c q = true) :
    Calls Tryd.prog 30 #[v, .int .i64 q] w fun e w' => GEnd w.heap.size v c ((nearN c q).1, (nearN c q).2, 0) w' e ∧ Below w.heap.size w w' := by
  obtain ⟨ao, cap, rfl⟩ := hF.shape
  have HF := Lib.hid hF
  obtain ⟨q0, q1⟩ := isLab_iff.1 hL
  have HJ := Lib.hid (show jumpN c q = if q = c.length then (c, q, 0) else (jaTo c q :: c, (c.length : Int) + 1, 0) by unfold jumpN; rw [if_pos hL])
  have HN := Lib.hid (nearN_cases c q)
  obtain ⟨g, hg⟩ : ∃ g, g = (((nearN c q).1, (nearN c q).2, 0) : G3) := ⟨_, rfl⟩
  rw [← hg]
  have HGG := Lib.hid hg
  clear hF hg hL
  go_enter Tryd.func30, Tryd.ntmps30
  go_wp2_with fail
  refine (hdist_any _ c q w HF.out (by omega) (by omega)).mono ?_
  rintro e w2 ⟨rfl, rfl⟩
  by_cases hd : (c.length : Int) - q ≤ 254
  · have HE := Lib.hid (gEnd_same (B := w.heap.size) (g := g) (c := c) (l := q) (er := 0) (by
      rw [HGG.out]
      rcases HN.out with ⟨_, h⟩ | ⟨h, _⟩
      · rw [h]
      · omega) HF.out)
    go_wp2_with fail
    go_ret3
    exact ⟨HE.out, Below.refl _ _⟩
  · have HE : Hid (g = (jaTo c q :: c, (c.length : Int) + 1, 0)) := Lib.hid (by
      rw [HGG.out]
      rcases HN.out with ⟨h, _⟩ | ⟨_, h⟩
      · omega
      · rw [h])
    go_wp2_with fail
    refine (hjump_any _ c q w HF.out hl).mono ?_
    rintro e w3 ⟨hr, hb3⟩
    rw [HJ.out, if_neg (by omega), ← HE.out] at hr
    obtain ⟨r, hr, hst, rfl⟩ := hr
    have HR := Lib.hid (show GEnd w.heap.size (.slice ao c.length cap) c g w3 (.returned (.tuple #[r, .int .i64 g.2.1, .int .i64 g.2.2])) from ⟨r, hr, hst, rfl⟩)
    have HB3 := Lib.hid hb3
    obtain ⟨ro, rc, rfl⟩ := hr.shape
    clear hb3 hr hst
    go_wp2_with fail
    go_ret3
    exact ⟨HR.out, HB3.out⟩

theorem hrow_cell {w : World} {g : Nat} {old : Array Value} {t : TypeId} (hg : w.heap[g]? = some (.cells old t)) (i : Nat) (v : Value) : RowPut w (w.setCell ⟨g, i, none⟩ v) g (.cells (old.setIfInBounds i v) t) := by
  have h := rowPut_set hg (old.setIfInBounds i v)
  rwa [← setCell_eq_setRow w _ _ _ _ _ _ hg] at h
theorem hrow_then {w w' w'' : World} {g : Nat} {o o' : Obj} (h : RowPut w w' g o) (h' : RowPut w' w'' g o') : RowPut w w'' g o' :=
  ⟨h'.os.trans h.os, h'.tape.trans h.tape, h'.output.trans h.output, h'.size.trans h.size, h'.row, fun k hk => (h'.rest k hk).trans (h.rest k hk)⟩
theorem hput_jumps {w : World} {g : Nat} {op a b k : Int} (h : w.heap[g]? = some (insB op a b k)) (jt jf : Int) :
    RowPut w ((w.setCell ⟨g, 1, none⟩ (.int .i64 jt)).setCell ⟨g, 2, none⟩ (.int .i64 jf)) g (insB op jt jf k) := by
  have h2 := hrow_cell h 1 (.int .i64 jt)
  have h3 := hrow_cell h2.row 2 (.int .i64 jf)
  exact hrow_then h2 h3

set_option maxHeartbeats 8000000 in
set_option maxRecDepth 100000 in
theorem hbranch_any (v : Value) (c : List X4) (op k t f : Int) (w : World) (hF : CdAt w v c) (hl : c.length ≤ 3000) (ht : OTab w) :
    Calls Tryd.prog 14 #[v, .int .i64 op, .int .u32 k, .int .i64 t, .int .i64 f] w fun e w' => GEnd w.heap.size v c (branchN c op k t f) w' e ∧ Below w.heap.size w w' := by
  obtain ⟨ao, cap, rfl⟩ := hF.shape
  have HF := Lib.hid hF
  have HG : Hid (branchN c op k t f = if right op 0 0 k && isBranch op then (if isLab c t && isLab c f then (brTo c op k t f :: nearC c t f, ((nearC c t f).length : Int) + 1, 0) else (c, 0, 4)) else (c, 0, 1)) := Lib.hid rfl
  obtain ⟨g, hg⟩ : ∃ g, g = branchN c op k t f := ⟨_, rfl⟩
  rw [← hg] at HG ⊢
  clear hF hg
  have fin : ∀ er w', Below w.heap.size w w' → g = (c, 0, er) → GEnd w.heap.size (.slice ao c.length cap) c g w' (.returned (.tuple #[.slice ao c.length cap, .int .i64 0, .int .i64 er])) ∧ Below w.heap.size w w' := fun er w' hb hq => ⟨gEnd_same hq (HF.out.below hb), hb⟩
  have HFin := Lib.hid fin
  clear fin
  have hX0 := heap_alloc_new w (insB op 0 0 k)
  have hB00 := ba (insB op 0 0 k) (Below.refl w.heap.size w)
  go_enter Tryd.func14, Tryd.ntmps14
  go_upto_region 2 with fail
  obtain ⟨W, hW⟩ : ∃ V, V = w.alloc (insB op 0 0 k) := ⟨_, rfl⟩
  rw [← hW] at hX0 hB00 ⊢
  have HX := Lib.hid hX0
  have HB0 := Lib.hid hB00
  clear hW hX0 hB00
  obtain ⟨c0, c1, c2, c3⟩ := insX HX.out
  go_wp2_with fail
  refine (right_any op 0 0 k _ (ht.below HB0.out)).mono ?_
  rintro e w1 ⟨rfl, hb1⟩
  have HX1 := Lib.hid (kb hb1 HX.out)
  have HB1 := Lib.hid (HB0.out.trans (hb1.mono HB0.out.size))
  clear hb1 c0 c1 c2 c3
  obtain ⟨c0, c1, c2, c3⟩ := insX HX1.out
  cases hr : right op 0 0 k
  · have HE := Lib.hid (HFin.out 1 _ HB1.out (by rw [HG.out, hr]; rfl))
    clear hr
    go_wp2_with fail
    go_ret3
    exact HE.out
  go_wp2_with fail
  refine (branch_any op 0 0 k _ (ht.below HB1.out)).mono ?_
  rintro e w2 ⟨rfl, hb2⟩
  have HX2 := Lib.hid (kb hb2 HX1.out)
  have HB2 := Lib.hid (HB1.out.trans (hb2.mono HB1.out.size))
  clear hb2 c0 c1 c2 c3
  obtain ⟨c0, c1, c2, c3⟩ := insX HX2.out
  cases hb : isBranch op
  · have HE := Lib.hid (HFin.out 1 _ HB2.out (by rw [HG.out, hr, hb]; rfl))
    clear hr hb
    go_wp2_with fail
    go_ret3
    exact HE.out
  have HG2 : Hid (g = if isLab c t && isLab c f then (brTo c op k t f :: nearC c t f, ((nearC c t f).length : Int) + 1, 0) else (c, 0, 4)) := Lib.hid (by rw [HG.out, hr, hb]; rfl)
  clear hr hb HG
  go_wp2_with fail
  refine (hlab_any _ c t w2 (HF.out.below HB2.out)).mono ?_
  rintro e w3 ⟨rfl, rfl⟩
  cases hT : isLab c t
  · have HE := Lib.hid (HFin.out 4 _ HB2.out (by rw [HG2.out, hT]; rfl))
    clear hT
    go_wp2_with fail
    go_ret3
    exact HE.out
  go_wp2_with fail
  refine (hlab_any _ c f w2 (HF.out.below HB2.out)).mono ?_
  rintro e w3 ⟨rfl, rfl⟩
  cases hL : isLab c f
  · have HE := Lib.hid (HFin.out 4 _ HB2.out (by rw [HG2.out, hT, hL]; rfl))
    clear hT hL
    go_wp2_with fail
    go_ret3
    exact HE.out
  obtain ⟨n1, n2, n3, n4⟩ := nearC_bd hT hL
  have l1 := nearN_len c t
  have l2 := nearN_len (nearN c t).1 f
  have hf1 := lab_more hL l1.1
  obtain ⟨cc, hcc⟩ : ∃ cc, cc = nearC c t f := ⟨_, rfl⟩
  obtain ⟨c1', hc1⟩ : ∃ a, a = (nearN c t).1 := ⟨_, rfl⟩
  obtain ⟨t1, ht1⟩ : ∃ a, a = (nearN c t).2 := ⟨_, rfl⟩
  have hcc1 : cc = (nearN c1' f).1 := by rw [hcc, hc1]; rfl
  have hbt : brTo c op k t f = brX op k cc t1 (nearN c1' f).2 := by rw [hcc, hc1, ht1]; rfl
  obtain ⟨f1, hf1'⟩ : ∃ a, a = (nearN c1' f).2 := ⟨_, rfl⟩
  rw [← hcc, ← ht1] at n1 n3
  rw [← hcc, ← hc1, ← hf1'] at n2 n4
  rw [← hc1] at l1 l2 hf1
  rw [← hcc1] at l2
  rw [← hf1'] at hbt
  have HE : Hid (g = (brX op k cc t1 f1 :: cc, (((brX op k cc t1 f1 :: cc).length : Nat) : Int), 0)) := Lib.hid (by rw [HG2.out, hT, hL, hbt, ← hcc]; rfl)
  have n1' := isLab_iff.1 n1
  have n2' := isLab_iff.1 n2
  have HT := Lib.hid hT
  have HF1 := Lib.hid hf1
  clear hT hL hbt HG2 n1 n2 hf1 c0 c1 c2 c3
  go_wp2_with fail
  refine (hnear_any _ c t w2 (HF.out.below HB2.out) (by omega) HT.out).mono ?_
  rintro e w3 ⟨⟨v3, hv3, hs3, rfl⟩, hb3⟩
  simp only at hv3 hs3
  rw [← ht1]
  rw [← hc1] at hv3 hs3
  have HV3 := Lib.hid hv3
  have HX3 := Lib.hid (kb hb3 HX2.out)
  have HB3 := Lib.hid (HB2.out.trans (hb3.mono HB2.out.size))
  obtain ⟨vo3, vc3, rfl⟩ := hv3.shape
  have HS3 := Lib.hid (hs3 w.heap.size (lt_of_block HX2.out) (stays_at HF.out.1 (Nat.le_refl _)))
  clear hb3 hv3 hc1 ht1 hs3
  go_wp2_with fail
  refine (hnear_any _ c1' f w3 HV3.out (by omega) HF1.out).mono ?_
  rintro e w4 ⟨⟨v4, hv4, hs4, rfl⟩, hb4⟩
  simp only at hv4 hs4
  rw [← hf1']
  rw [← hcc1] at hv4 hs4
  have HV4 := Lib.hid hv4
  have HX4 := Lib.hid (kb hb4 HX3.out)
  have HB4 := Lib.hid (HB3.out.trans (hb4.mono HB3.out.size))
  obtain ⟨vo4, vc4, rfl⟩ := hv4.shape
  have HS4 := Lib.hid (hs4 w.heap.size (lt_of_block HX3.out) HS3.out)
  clear hb4 hv4 hcc1 hf1' hcc hs4
  go_wp2_with fail
  refine (hdist_any _ cc t1 w4 HV4.out (by omega) (by omega)).mono ?_
  rintro e w5 ⟨rfl, rfl⟩
  go_wp2_with fail
  refine (hdist_any _ cc f1 w4 HV4.out (by omega) (by omega)).mono ?_
  rintro e w5 ⟨rfl, rfl⟩
  have q1 := free_in HX4.out 1
  have q2 := free_in HX4.out 2
  have hlt : w.heap.size < w4.heap.size := lt_of_block HX4.out
  obtain ⟨c0, c1, c2, c3⟩ := insX HX4.out
  go_upto_region 13 with fail
  have hput := hput_jumps HX4.out ((cc.length : Int) - t1) ((cc.length : Int) - f1)
  obtain ⟨W5, hW5⟩ : ∃ V, V = (w4.setCell ⟨w.heap.size, 1, none⟩ (.int .i64 ((cc.length : Int) - t1))).setCell ⟨w.heap.size, 2, none⟩ (.int .i64 ((cc.length : Int) - f1)) := ⟨_, rfl⟩
  rw [← hW5] at hput ⊢
  have HX5 := Lib.hid hput.row
  have HB5 := Lib.hid (hput.below HB4.out (Nat.le_refl _))
  have HV5 : Hid (CdAt W5 (.slice vo4 cc.length vc4) cc) := Lib.hid ⟨HS4.out _ _ _ hput HV4.out.1, HV4.out.2⟩
  clear hW5 hput q1 q2 hlt c0 c1 c2 c3
  obtain ⟨c0, c1, c2, c3⟩ := insX HX5.out
  go_wp2_with fail
  have hbA := ba (insB op ((cc.length : Int) - t1) ((cc.length : Int) - f1) k) (Below.refl W5.heap.size W5)
  refine (hput_any _ _ [brX op k cc t1 f1] cc (brX op k cc t1 f1 :: cc) _ (CdAt.one W5 op ((cc.length : Int) - t1) ((cc.length : Int) - f1) k) (HV5.out.below hbA) rfl (by rw [List.length_cons]; omega)).mono ?_
  rintro e w6 ⟨⟨r, hr, hst, rfl⟩, hb6⟩
  have HR := Lib.hid (gEnd_new (B := w.heap.size) (v := .slice ao c.length cap) (c := c) HE.out hr (fun b hb => hst b (Nat.lt_of_lt_of_le hb (Nat.le_trans HB5.out.size hbA.size))))
  have HB6 := Lib.hid (below2 (HB5.out.trans (hbA.mono HB5.out.size)) hb6)
  clear hb6 hr hst hbA
  go_wp2_with fail
  go_ret3
  exact ⟨HR.out, HB6.out⟩
end Go.Proofs.YtmbgcfikpndamaaDoor
/-
  The document's own answers for code (package hurdleref12): Add, Jump, Branch.
-/
namespace Go.Proofs.YtmbgcfikpndamaaDoor
open Go.ChangeShapes Go.WideShapes Go.ChangeAt Go.RowKit
set_option maxRecDepth 20000

/-- What the document's functions answer. -/
def REnd (g : G3) (w' : World) (e : Ending) : Prop := ∃ v, FAt w' v g.1 ∧ e = .returned (.tuple #[v, .int .i64 g.2.1, .int .i64 g.2.2])
theorem rEnd {g : G3} {w' : World} {v : Value} {c : List X4} {l er : Int} (hg : g = (c, l, er)) (h : FAt w' v c) : REnd g w' (.returned (.tuple #[v, .int .i64 l, .int .i64 er])) := by
  rw [hg]
  exact ⟨v, h, rfl⟩
theorem own_one (w : World) (a b c d : Int) : (w.alloc (insB a b c d)).ownsRow w.heap.size 30 4 (.slice (some ⟨w.heap.size, 0, none⟩) 1 1) 1 (X4.mk a b c d).cells :=
  ⟨by simp, .inr ⟨w.heap.size, 1, _, rfl, Nat.le_refl _, heap_alloc_new w _, Nat.le_refl _, by unfold maxLen; omega, by simp, by simp⟩⟩
set_option maxHeartbeats 4000000 in
theorem rfront_any (v : Value) (c : List X4) (op jt jf k : Int) (w : World) (hF : FAt w v c) (hl : c.length ≤ 4000) :
    Calls Tryd.prog 28 #[v, insV op jt jf k] w fun e w' => (∃ r, FAt w' r (⟨op, jt, jf, k⟩ :: c) ∧ e = .returned (.tuple #[r, .int .i64 ((c.length : Int) + 1), .int .i64 0])) ∧ Below w.heap.size w w' := by
  obtain ⟨ao, cap, rfl⟩ := hF.shape
  obtain ⟨i0, hi, hz0, hz1, hz2⟩ := info_parts infoXH
  have HF := Lib.hid hF
  clear hF
  obtain ⟨W, hW, X0, HBx⟩ : ∃ W, W = w.alloc (insB op jt jf k) ∧ W.heap[w.heap.size]? = some (insB op jt jf k) ∧ Below w.heap.size w W := ⟨_, rfl, heap_alloc_new _ _, ba _ (Below.refl _ _)⟩
  have HX := Lib.hid X0
  have HB0 := Lib.hid HBx
  clear X0 HBx
  go_enter Tryd.func28, Tryd.ntmps28
  go_upto_region 1 with fail
  rw [← hW]
  clear hW
  obtain ⟨c0, c1, c2, c3⟩ := insX HX.out
  have HBA := Lib.hid (ba (insB op jt jf k) (Below.refl W.heap.size W))
  have hsA := HBA.out.size
  have HOne := Lib.hid (own_one W op jt jf k)
  go_wp2_with (at_builtin; refine wpList_append_src _ rfl _ _ 22 rfl W.heap.size 30 i0 (.agg #[.int .i64 0, .int .i64 0, .int .i64 0, .int .u32 0]) 4 32 Tryd.underlying22 hi hz0 hz1 hz2 rfl (by decide) _ 1 (X4.mk op jt jf k).cells rfl HOne.out _ c.length (fcells c) rfl (HF.out.below (HB0.out.trans (HBA.out.mono HB0.out.size))).src (fcells_one' c) (by unfold maxLen; omega) (by omega) hsA ?_)
  intro va wa hown hgrow
  have HBa := Lib.hid (HB0.out.trans ((grown_below HBA.out HOne.out hgrow hsA).mono HB0.out.size))
  have HJ : Hid (FAt wa va (⟨op, jt, jf, k⟩ :: c)) := Lib.hid (FAt.own (l := ⟨op, jt, jf, k⟩ :: c) (by simpa [fcells] using hown) (by rw [List.length_cons]; omega))
  clear hown hgrow HOne HBA c0 c1 c2 c3 hsA
  go_wp2_with fail
  go_ret3
  exact ⟨⟨_, HJ.out, rfl⟩, HBa.out⟩

set_option maxHeartbeats 4000000 in
theorem radd12_any (v : Value) (c : List X4) (op jt jf k : Int) (w : World) (hF : FAt w v c) (hl : c.length ≤ 4000) :
    Calls Tryd.prog 24 #[v, insV op jt jf k] w fun e w' => REnd (addN c ⟨op, jt, jf, k⟩) w' e ∧ Below w.heap.size w w' := by
  obtain ⟨ao, cap, rfl⟩ := hF.shape
  have HF := Lib.hid hF
  have HG : Hid (addN c ⟨op, jt, jf, k⟩ = if (right op jt jf k && !(op == 5) && !isBranch op) then (⟨op, jt, jf, k⟩ :: c, (c.length : Int) + 1, 0) else (c, 0, 1)) := Lib.hid rfl
  obtain ⟨g, hg⟩ : ∃ g, g = addN c ⟨op, jt, jf, k⟩ := ⟨_, rfl⟩
  rw [← hg] at HG ⊢
  clear hF hg
  obtain ⟨W, hW, X0, HBx⟩ : ∃ W, W = w.alloc (insB op jt jf k) ∧ W.heap[w.heap.size]? = some (insB op jt jf k) ∧ Below w.heap.size w W := ⟨_, rfl, heap_alloc_new _ _, ba _ (Below.refl _ _)⟩
  have HX := Lib.hid X0
  have HB0 := Lib.hid HBx
  clear X0 HBx
  go_enter Tryd.func24, Tryd.ntmps24
  go_upto_region 1 with fail
  rw [← hW]
  clear hW
  obtain ⟨c0, c1, c2, c3⟩ := insX HX.out
  go_wp2_with fail
  refine (refRight_any op jt jf k _).mono ?_
  rintro e w1 ⟨rfl, hb1⟩
  have HX1 := Lib.hid (kb hb1 HX.out)
  have HB1 := Lib.hid (HB0.out.trans (hb1.mono HB0.out.size))
  clear hb1 c0 c1 c2 c3
  obtain ⟨c0, c1, c2, c3⟩ := insX HX1.out
  have fin : ∀ w', Below w.heap.size w w' → g = (c, 0, 1) → REnd g w' (.returned (.tuple #[.slice ao c.length cap, .int .i64 0, .int .i64 1])) ∧ Below w.heap.size w w' := fun w' hb hq => ⟨rEnd hq (HF.out.below hb), hb⟩
  have HFin := Lib.hid fin
  clear fin
  cases hr : right op jt jf k
  · have HE := Lib.hid (HFin.out _ HB1.out (by rw [HG.out, hr]; rfl))
    clear hr
    go_wp2_with fail
    go_ret3
    exact HE.out
  cases h5 : (op == 5)
  · go_wp2_with fail
    refine (refBranch_any op jt jf k _).mono ?_
    rintro e w2 ⟨rfl, hb2⟩
    have HX2 := Lib.hid (kb hb2 HX1.out)
    have HB2 := Lib.hid (HB1.out.trans (hb2.mono HB1.out.size))
    clear hb2 c0 c1 c2 c3
    obtain ⟨c0, c1, c2, c3⟩ := insX HX2.out
    cases hb : isBranch op
    · have HE : Hid (g = (⟨op, jt, jf, k⟩ :: c, (c.length : Int) + 1, 0)) := Lib.hid (by rw [HG.out, hr, h5, hb]; rfl)
      clear hr h5 hb
      go_wp2_with fail
      refine (rfront_any _ c op jt jf k _ (HF.out.below HB2.out) hl).mono ?_
      rintro e w3 ⟨⟨r, hr, rfl⟩, hb3⟩
      have HR := Lib.hid (rEnd HE.out hr)
      have HB3 := Lib.hid (below2 HB2.out hb3)
      clear hb3 hr
      go_wp2_with fail
      go_ret3
      exact ⟨HR.out, HB3.out⟩
    · have HE := Lib.hid (HFin.out _ HB2.out (by rw [HG.out, hr, h5, hb]; rfl))
      clear hr h5 hb
      go_wp2_with fail
      go_ret3
      exact HE.out
  · have HE := Lib.hid (HFin.out _ HB1.out (by rw [HG.out, hr, h5]; rfl))
    clear hr
    go_wp2_with fail
    go_ret3
    exact HE.out

set_option maxHeartbeats 4000000 in
theorem rjump12_any (v : Value) (c : List X4) (q : Int) (w : World) (hF : FAt w v c) (hl : c.length ≤ 4000) :
    Calls Tryd.prog 13 #[v, .int .i64 q] w fun e w' => REnd (jumpN c q) w' e ∧ Below w.heap.size w w' := by
  obtain ⟨ao, cap, rfl⟩ := hF.shape
  have HF := Lib.hid hF
  have HG : Hid (jumpN c q = if isLab c q then (if q = c.length then (c, q, 0) else (jaTo c q :: c, (c.length : Int) + 1, 0)) else (c, 0, 4)) := Lib.hid rfl
  obtain ⟨g, hg⟩ : ∃ g, g = jumpN c q := ⟨_, rfl⟩
  rw [← hg] at HG ⊢
  have HIff := Lib.hid (isLab_iff (c := c) (l := q))
  clear hF hg
  have no : ¬ isLab c q = true → g = (c, 0, 4) := fun h => by rw [HG.out, if_neg h]
  have HNo := Lib.hid no
  clear no
  by_cases q0 : q < 1
  · have HE := Lib.hid (rEnd (HNo.out (fun h => by have := HIff.out.1 h; omega)) HF.out)
    go_enter Tryd.func13, Tryd.ntmps13
    go_wp2_with fail
    go_ret3
    exact ⟨HE.out, Below.refl _ _⟩
  by_cases q1 : (c.length : Int) < q
  · have HE := Lib.hid (rEnd (HNo.out (fun h => by have := HIff.out.1 h; omega)) HF.out)
    go_enter Tryd.func13, Tryd.ntmps13
    go_wp2_with fail
    go_ret3
    exact ⟨HE.out, Below.refl _ _⟩
  have HG2 : Hid (g = if q = c.length then (c, q, 0) else (jaTo c q :: c, (c.length : Int) + 1, 0)) := Lib.hid (by rw [HG.out, if_pos (HIff.out.2 (by omega))])
  by_cases hq : q = c.length
  · have HE := Lib.hid (rEnd (g := g) (by rw [HG2.out, if_pos hq]) HF.out)
    have hq2 : (q == (c.length : Int)) = true := by simpa using hq
    clear hq
    go_enter Tryd.func13, Tryd.ntmps13
    go_wp2_with fail
    go_ret3
    exact ⟨HE.out, Below.refl _ _⟩
  · have HE : Hid (g = (jaTo c q :: c, (c.length : Int) + 1, 0)) := Lib.hid (by rw [HG2.out, if_neg hq])
    have hq2 : (q == (c.length : Int)) = false := by simpa using hq
    have hw : IntKind.u32.wrap ((c.length : Int) - q) = (c.length : Int) - q := by rw [IntKind.wrap_u32]; omega
    clear hq
    go_enter Tryd.func13, Tryd.ntmps13
    go_wp2_with fail
    refine (rfront_any _ c 5 0 0 ((c.length : Int) - q) _ HF.out hl).mono ?_
    rintro e w3 ⟨⟨r, hr, rfl⟩, hb3⟩
    have HR := Lib.hid (rEnd HE.out hr)
    have HB3 := Lib.hid hb3
    clear hb3 hr
    go_wp2_with fail
    go_ret3
    exact ⟨HR.out, HB3.out⟩
/-- A jump to what is not near. -/
theorem rjump12_far (v : Value) (c : List X4) (q : Int) (w : World) (hF : FAt w v c) (hl : c.length ≤ 4000) (h0 : 1 ≤ q) (h1 : q < (c.length : Int) - 254) :
    Calls Tryd.prog 13 #[v, .int .i64 q] w fun e w' => (∃ r, FAt w' r (jaTo c q :: c) ∧ e = .returned (.tuple #[r, .int .i64 ((c.length : Int) + 1), .int .i64 0])) ∧ Below w.heap.size w w' := by
  have h := rjump12_any v c q w hF hl
  unfold jumpN at h
  rw [if_pos (isLab_iff.2 (by omega)), if_neg (by omega)] at h
  exact h

set_option maxHeartbeats 8000000 in
set_option maxRecDepth 100000 in
theorem rbranch12_any (v : Value) (c : List X4) (op k t f : Int) (w : World) (hF : FAt w v c) (hl : c.length ≤ 3000) :
    Calls Tryd.prog 15 #[v, .int .i64 op, .int .u32 k, .int .i64 t, .int .i64 f] w fun e w' => REnd (branchN c op k t f) w' e ∧ Below w.heap.size w w' := by
  obtain ⟨ao, cap, rfl⟩ := hF.shape
  have HF := Lib.hid hF
  have HG : Hid (branchN c op k t f = if right op 0 0 k && isBranch op then (if isLab c t && isLab c f then (brTo c op k t f :: nearC c t f, ((nearC c t f).length : Int) + 1, 0) else (c, 0, 4)) else (c, 0, 1)) := Lib.hid rfl
  obtain ⟨g, hg⟩ : ∃ g, g = branchN c op k t f := ⟨_, rfl⟩
  rw [← hg] at HG ⊢
  clear hF hg
  have fin : ∀ er w', Below w.heap.size w w' → g = (c, 0, er) → REnd g w' (.returned (.tuple #[.slice ao c.length cap, .int .i64 0, .int .i64 er])) ∧ Below w.heap.size w w' := fun er w' hb hq => ⟨rEnd hq (HF.out.below hb), hb⟩
  have HFin := Lib.hid fin
  clear fin
  go_enter Tryd.func15, Tryd.ntmps15
  go_wp2_with fail
  refine (refBranch_any op 0 0 0 _).mono ?_
  rintro e w1 ⟨rfl, hb1⟩
  have HB1 := Lib.hid hb1
  clear hb1
  cases hb : isBranch op
  · have HE := Lib.hid (HFin.out 1 _ HB1.out (by rw [HG.out, hb, Bool.and_false]; rfl))
    clear hb
    go_wp2_with fail
    go_ret3
    exact HE.out
  go_wp2_with fail
  refine (refRight_any op 0 0 k _).mono ?_
  rintro e w2 ⟨rfl, hb2⟩
  have HB2 := Lib.hid (below2 HB1.out hb2)
  clear hb2
  cases hr : right op 0 0 k
  · have HE := Lib.hid (HFin.out 1 _ HB2.out (by rw [HG.out, hr]; rfl))
    clear hb hr
    go_wp2_with fail
    go_ret3
    exact HE.out
  have HG2 : Hid (g = if isLab c t && isLab c f then (brTo c op k t f :: nearC c t f, ((nearC c t f).length : Int) + 1, 0) else (c, 0, 4)) := Lib.hid (by rw [HG.out, hr, hb]; rfl)
  clear hr hb HG
  have no : ∀ w', Below w.heap.size w w' → ¬ (isLab c t = true ∧ isLab c f = true) → REnd g w' (.returned (.tuple #[.slice ao c.length cap, .int .i64 0, .int .i64 4])) ∧ Below w.heap.size w w' := fun w' hb h => HFin.out 4 w' hb (by rw [HG2.out, if_neg (by rw [Bool.and_eq_true]; exact h)])
  have HNo := Lib.hid no
  clear no
  have HI1 := Lib.hid (isLab_iff (c := c) (l := t))
  have HI2 := Lib.hid (isLab_iff (c := c) (l := f))
  by_cases t0 : t < 1
  · have HE := Lib.hid (HNo.out _ HB2.out (fun h => by have := HI1.out.1 h.1; omega))
    go_wp2_with fail
    go_ret3
    exact HE.out
  by_cases t1 : (c.length : Int) < t
  · have HE := Lib.hid (HNo.out _ HB2.out (fun h => by have := HI1.out.1 h.1; omega))
    go_wp2_with fail
    go_ret3
    exact HE.out
  by_cases f0 : f < 1
  · have HE := Lib.hid (HNo.out _ HB2.out (fun h => by have := HI2.out.1 h.2; omega))
    go_wp2_with fail
    go_ret3
    exact HE.out
  by_cases f1 : (c.length : Int) < f
  · have HE := Lib.hid (HNo.out _ HB2.out (fun h => by have := HI2.out.1 h.2; omega))
    go_wp2_with fail
    go_ret3
    exact HE.out
  have HG3 : Hid (g = (brTo c op k t f :: nearC c t f, ((nearC c t f).length : Int) + 1, 0)) := Lib.hid (by rw [HG2.out, if_pos (by rw [Bool.and_eq_true]; exact ⟨HI1.out.2 (by omega), HI2.out.2 (by omega)⟩)])
  have HNT := Lib.hid (nearN_cases c t)
  clear HG2 HNo HI1 HI2
  by_cases dt : t < (c.length : Int) - 254
  · have HT : Hid (nearN c t = (jaTo c t :: c, (c.length : Int) + 1)) := Lib.hid (by
      rcases HNT.out with ⟨h, _⟩ | ⟨_, h⟩
      · omega
      · exact h)
    go_wp2_with fail
    refine (rjump12_far _ c t _ (HF.out.below HB2.out) (by omega) (by omega) dt).mono ?_
    rintro e w3 ⟨⟨v3, hv3, rfl⟩, hb3⟩
    obtain ⟨cc, hcc⟩ : ∃ cc, cc = jaTo c t :: c := ⟨_, rfl⟩
    have hcl : cc.length = c.length + 1 := by rw [hcc]; rfl
    obtain ⟨l1, hl1⟩ : ∃ l1 : Int, l1 = (c.length : Int) + 1 := ⟨_, rfl⟩
    rw [← hcc] at hv3 HT
    rw [← hl1] at HT ⊢
    have HV3 := Lib.hid hv3
    have HB3 := Lib.hid (below2 HB2.out hb3)
    have HNF := Lib.hid (nearN_cases cc f)
    have a1 : l1 ≤ (cc.length : Int) := by omega
    have a2 : 1 ≤ l1 := by omega
    have a3 : cc.length ≤ 3001 := by omega
    obtain ⟨vo3, vc3, rfl⟩ := hv3.shape
    clear hb3 hv3 hcc hl1 hcl HNT
    by_cases df : f < (cc.length : Int) - 254
    · have HFN : Hid (nearN cc f = (jaTo cc f :: cc, (cc.length : Int) + 1)) := Lib.hid (by
        rcases HNF.out with ⟨h, _⟩ | ⟨_, h⟩
        · omega
        · exact h)
      go_wp2_with fail
      refine (rjump12_far _ cc f _ HV3.out (by omega) (by omega) df).mono ?_
      rintro e w4 ⟨⟨v4, hv4, rfl⟩, hb4⟩
      obtain ⟨dd, hdd⟩ : ∃ dd, dd = jaTo cc f :: cc := ⟨_, rfl⟩
      have hdl : dd.length = cc.length + 1 := by rw [hdd]; rfl
      obtain ⟨l2, hl2⟩ : ∃ l2 : Int, l2 = (cc.length : Int) + 1 := ⟨_, rfl⟩
      rw [← hdd] at hv4 HFN
      rw [← hl2] at HFN ⊢
      have HV4 := Lib.hid hv4
      have HB4 := Lib.hid (below2 HB3.out hb4)
      have b1 : (l1) ≤ (dd.length : Int) := by omega
      have b2 : l2 ≤ (dd.length : Int) := by omega
      have b3 : 1 ≤ l2 := by omega
      have b4 : dd.length ≤ 3002 := by omega
      obtain ⟨vo4, vc4, rfl⟩ := hv4.shape
      have HE : Hid (g = (⟨op, (dd.length : Int) - (l1), (dd.length : Int) - l2, k⟩ :: dd, (dd.length : Int) + 1, 0)) := Lib.hid (by
        rw [HG3.out]
        unfold brTo nearC brX
        rw [HT.out]
        simp only
        rw [HFN.out])
      clear hb4 hv4 hdd hdl hl2
      go_wp2_with fail
      refine (rfront_any _ dd op ((dd.length : Int) - (l1)) ((dd.length : Int) - l2) k _ HV4.out (by omega)).mono ?_
      rintro e w9 ⟨⟨r, hr, rfl⟩, hb9⟩
      have HR := Lib.hid (rEnd HE.out hr)
      have HB9 := Lib.hid (below2 HB4.out hb9)
      clear hb9 hr
      go_wp2_with fail
      go_ret3
      exact ⟨HR.out, HB9.out⟩
    · have HFN : Hid (nearN cc f = (cc, f)) := Lib.hid (by
        rcases HNF.out with ⟨_, h⟩ | ⟨h, _⟩
        · exact h
        · omega)
      have HE : Hid (g = (⟨op, (cc.length : Int) - (l1), (cc.length : Int) - f, k⟩ :: cc, (cc.length : Int) + 1, 0)) := Lib.hid (by
        rw [HG3.out]
        unfold brTo nearC brX
        rw [HT.out]
        simp only
        rw [HFN.out])
      go_wp2_with fail
      refine (rfront_any _ cc op ((cc.length : Int) - (l1)) ((cc.length : Int) - f) k _ HV3.out (by omega)).mono ?_
      rintro e w9 ⟨⟨r, hr, rfl⟩, hb9⟩
      have HR := Lib.hid (rEnd HE.out hr)
      have HB9 := Lib.hid (below2 HB3.out hb9)
      clear hb9 hr
      go_wp2_with fail
      go_ret3
      exact ⟨HR.out, HB9.out⟩
  · have HT : Hid (nearN c t = (c, t)) := Lib.hid (by
      rcases HNT.out with ⟨_, h⟩ | ⟨h, _⟩
      · exact h
      · omega)
    have HV3 := Lib.hid (HF.out.below HB2.out)
    have HB3 := HB2
    have HNF := Lib.hid (nearN_cases c f)
    clear HNT
    by_cases df : f < (c.length : Int) - 254
    · have HFN : Hid (nearN c f = (jaTo c f :: c, (c.length : Int) + 1)) := Lib.hid (by
        rcases HNF.out with ⟨h, _⟩ | ⟨_, h⟩
        · omega
        · exact h)
      go_wp2_with fail
      refine (rjump12_far _ c f _ HV3.out (by omega) (by omega) df).mono ?_
      rintro e w4 ⟨⟨v4, hv4, rfl⟩, hb4⟩
      obtain ⟨dd, hdd⟩ : ∃ dd, dd = jaTo c f :: c := ⟨_, rfl⟩
      have hdl : dd.length = c.length + 1 := by rw [hdd]; rfl
      obtain ⟨l2, hl2⟩ : ∃ l2 : Int, l2 = (c.length : Int) + 1 := ⟨_, rfl⟩
      rw [← hdd] at hv4 HFN
      rw [← hl2] at HFN ⊢
      have HV4 := Lib.hid hv4
      have HB4 := Lib.hid (below2 HB3.out hb4)
      have b1 : (t) ≤ (dd.length : Int) := by omega
      have b2 : l2 ≤ (dd.length : Int) := by omega
      have b3 : 1 ≤ l2 := by omega
      have b4 : dd.length ≤ 3002 := by omega
      obtain ⟨vo4, vc4, rfl⟩ := hv4.shape
      have HE : Hid (g = (⟨op, (dd.length : Int) - (t), (dd.length : Int) - l2, k⟩ :: dd, (dd.length : Int) + 1, 0)) := Lib.hid (by
        rw [HG3.out]
        unfold brTo nearC brX
        rw [HT.out]
        simp only
        rw [HFN.out])
      clear hb4 hv4 hdd hdl hl2
      go_wp2_with fail
      refine (rfront_any _ dd op ((dd.length : Int) - (t)) ((dd.length : Int) - l2) k _ HV4.out (by omega)).mono ?_
      rintro e w9 ⟨⟨r, hr, rfl⟩, hb9⟩
      have HR := Lib.hid (rEnd HE.out hr)
      have HB9 := Lib.hid (below2 HB4.out hb9)
      clear hb9 hr
      go_wp2_with fail
      go_ret3
      exact ⟨HR.out, HB9.out⟩
    · have HFN : Hid (nearN c f = (c, f)) := Lib.hid (by
        rcases HNF.out with ⟨_, h⟩ | ⟨h, _⟩
        · exact h
        · omega)
      have HE : Hid (g = (⟨op, (c.length : Int) - (t), (c.length : Int) - f, k⟩ :: c, (c.length : Int) + 1, 0)) := Lib.hid (by
        rw [HG3.out]
        unfold brTo nearC brX
        rw [HT.out]
        simp only
        rw [HFN.out])
      go_wp2_with fail
      refine (rfront_any _ c op ((c.length : Int) - (t)) ((c.length : Int) - f) k _ HV3.out (by omega)).mono ?_
      rintro e w9 ⟨⟨r, hr, rfl⟩, hb9⟩
      have HR := Lib.hid (rEnd HE.out hr)
      have HB9 := Lib.hid (below2 HB3.out hb9)
      clear hb9 hr
      go_wp2_with fail
      go_ret3
      exact ⟨HR.out, HB9.out⟩
end Go.Proofs.YtmbgcfikpndamaaDoor
/-
  Package-level variables that a row lists: how they are taken off the list.
-/
namespace Go.Proofs.YtmbgcfikpndamaaDoor
open Go.ChangeShapes Go.WideShapes Go.ChangeAt Go.RowKit

/-- A block's cells, put in. -/
def laidBlock (cs : Array Value) : Obj → Obj
  | .cells _ t fr => .cells cs t fr
  | o => o
/-- A list in chunks of one length. -/
theorem chunks {α : Type} (k : Nat) : ∀ (n : Nat) (cs : List α) (F : Nat → List α), cs.length = n * k → (∀ i, i < n → (cs.drop (i * k)).take k = F i) → cs = (List.range n).flatMap F
  | 0, cs, F, h, _ => by
    have h0 : cs = [] := List.length_eq_zero_iff.1 (by simpa using h)
    simp [h0]
  | n + 1, cs, F, h, hF => by
    have h1 := chunks k n (cs.drop k) (fun i => F (i + 1)) (by rw [List.length_drop, h, Nat.add_mul]; omega) (fun i hi => by
      rw [List.drop_drop, ← hF (i + 1) (by omega), Nat.add_mul, Nat.one_mul, Nat.add_comm k])
    have h0 := hF 0 (by omega)
    rw [Nat.zero_mul, List.drop_zero] at h0
    rw [List.range_succ_eq_map, List.flatMap_cons, List.flatMap_map, ← h0]
    exact (List.take_append_drop k cs).symm.trans (congrArg _ h1)
/-- A variable that heads the list: its block, and how its cells read. -/
theorem laid_head {P : Program} {W : World} {name : String} {d : DataW Unit} {rest : List (String × DataW Unit)} {g : Nat} {t : TypeId} (hg : P.globalNamed name = some g) (hty : (P.globals[g]?).map (·.type) = some t)
    (h : laidMet P ((name, d) :: rest) W) : ∃ cs ty fr fuel p, W.heap[g]? = some (.cells cs ty fr) ∧ DataW.trod (fun _ => ()) P W 0 (fun _ => true) false fuel t cs.toList = some (d, p) := by
  obtain ⟨ps, ⟨g', t', cs, fuel, p, q, hg', ht', hvar, hd, _, _⟩, _⟩ := h
  obtain rfl := Option.some.inj (hg.symm.trans hg')
  obtain rfl := Option.some.inj (hty.symm.trans ht')
  unfold World.var? at hvar
  rw [hg] at hvar
  simp only [Option.bind_some] at hvar
  split at hvar
  · rename_i cs' ty fr hh
    obtain rfl := Option.some.inj hvar
    exact ⟨cs', ty, fr, fuel, p, hh, hd⟩
  · cases hvar
end Go.Proofs.YtmbgcfikpndamaaDoor

/-
  Arguments that are filters or bytes: what the row's reading of them gives of the world's cells.
-/
namespace Go.Proofs.YtmbgcfikpndamaaDoor
open Go.ChangeShapes Go.WideShapes Go.ChangeAt Go.RowKit Go.Deep
set_option maxRecDepth 100000

theorem cellsX : Tryd.prog.cellsOf 30 = 4 := by kernel_rfl
section
variable {H : Type} {enc : TypeId × Value → H} {W : World} {base : Nat} {v : Value} {d : DataW H} {p : List MemPlace}
theorem open_filt (hval : Value.okWide Tryd.prog W .any base 22 v) (h : DataW.Trod enc Tryd.prog W 0 (fun _ => true) true 22 v d p) : ∃ l : List X4, FAt W v l ∧ (∀ x ∈ l, x.ok) ∧ l.length ≤ 9223372036854775807 := by
  obtain ⟨a1, len, cap, rfl⟩ := okWide_slice Tryd.underlying22 hval
  obtain ⟨fuel, hf⟩ := h
  rcases open_slice Tryd.underlying22 hf with ⟨hcs, _⟩ | ⟨a, len', cap', m, n, D, Pl, hcs, _, hl, hm, hmm, _, hi⟩
  · simp [Value.cells] at hcs
    obtain ⟨rfl, rfl, rfl⟩ := hcs
    exact ⟨[], FAt.nil W, by simp, by simp⟩
  · simp [Value.cells] at hcs
    obtain ⟨rfl, rfl, rfl⟩ := hcs
    simp only [if_true] at hmm
    unfold maxLen at hm
    rw [cellsX] at hi
    have hall : ∀ i, i < len → ∃ x : X4, x.ok ∧ W.cell? (a.add (i * 4)) = some (.int .i64 x.op) ∧ W.cell? ((a.add (i * 4)).add 1) = some (.int .i64 x.jt) ∧ W.cell? ((a.add (i * 4)).add 2) = some (.int .i64 x.jf) ∧ W.cell? ((a.add (i * 4)).add 3) = some (.int .u32 x.k) := by
      intro i hil
      obtain ⟨cs', hc, ht'⟩ := hi i (by omega)
      obtain ⟨ys, n', _, _, hlen, hyl, hff⟩ := DataW.trod_struct Tryd.underlying30 ht'
      obtain ⟨_, hcl, hat⟩ := World.cells?_some hc
      rw [cellsX] at hlen
      match cs', hlen with
      | [c0, c1, c2, c3], _ =>
        have h0 : DataW.trod enc Tryd.prog W 0 (fun _ => true) true n' 3 [c0] = ys[0]? := hff 0 _ rfl
        have h1 : DataW.trod enc Tryd.prog W 0 (fun _ => true) true n' 3 [c1] = ys[1]? := hff 1 _ rfl
        have h2 : DataW.trod enc Tryd.prog W 0 (fun _ => true) true n' 3 [c2] = ys[2]? := hff 2 _ rfl
        have h3 : DataW.trod enc Tryd.prog W 0 (fun _ => true) true n' 28 [c3] = ys[3]? := hff 3 _ rfl
        have hy4 : ys.length = 4 := hyl
        match ys, hy4 with
        | [y0, y1, y2, y3], _ =>
          obtain ⟨z0, e0, _, _⟩ := DataW.trod_int Tryd.underlying3 h0
          obtain ⟨z1, e1, _, _⟩ := DataW.trod_int Tryd.underlying3 h1
          obtain ⟨z2, e2, _, _⟩ := DataW.trod_int Tryd.underlying3 h2
          obtain ⟨z3, e3, _, w3⟩ := DataW.trod_int Tryd.underlying28 h3
          simp only [List.cons.injEq, and_true] at e0 e1 e2 e3
          subst e0 e1 e2 e3
          have b3 := bounds_u32 w3
          have g0 := hat 0 (by omega)
          have g1 := hat 1 (by omega)
          have g2 := hat 2 (by omega)
          have g3 := hat 3 (by omega)
          refine ⟨⟨z0, z1, z2, z3⟩, ⟨b3.1, b3.2⟩, ?_, g1, g2, g3⟩
          simpa [Addr.add] using g0
    obtain ⟨l, hll, hq⟩ := pick_list len hall
    subst hll
    refine ⟨l, ⟨some a, cap, rfl, ?_⟩, ?_, by omega⟩
    · by_cases h0 : l = []
      · exact .inl h0
      · have hpos : 0 < l.length := List.length_pos_iff.2 h0
        obtain ⟨ab, ao, spot⟩ := a
        obtain ⟨_, q0, _⟩ := hq 0 hpos
        have hspot : spot = none := by simpa [Addr.add] using World.cell?_spot q0
        subst hspot
        refine .inr ⟨ab, ao, rfl, ?_, fun i hi' => ?_⟩
        · apply Nat.lt_of_not_le
          intro hle
          have e : W.heap[ab]? = none := by simp; exact hle
          rw [Addr.add_lit] at q0
          simp [World.cell?, e] at q0
        · obtain ⟨_, q0, q1, q2, q3⟩ := hq i hi'
          rw [Addr.add_lit] at q0 q1 q2 q3
          rw [Addr.add_lit] at q1 q2 q3
          exact ⟨q0, q1, q2, q3⟩
    · intro x hx
      obtain ⟨i, hi', rfl⟩ := List.getElem_of_mem hx
      exact (hq i hi').1
end
end Go.Proofs.YtmbgcfikpndamaaDoor

/-
  The listed tables: what the rows list of package-level variables, what that says of the world, and a world for the witness.
-/
namespace Go.Proofs.YtmbgcfikpndamaaDoor
open Go.ChangeShapes Go.WideShapes Go.ChangeAt Go.RowKit
set_option maxRecDepth 100000

theorem gOps : Tryd.prog.globalNamed "hurdle/ins.operations" = some 0 := by kernel_rfl
theorem gOpsType : (Tryd.prog.globals[0]?).map (·.type) = some 89 := by kernel_rfl
theorem cellsOps : Tryd.prog.cellsOf 89 = 117 := by kernel_rfl
theorem cellsOp : Tryd.prog.cellsOf 73 = 3 := by kernel_rfl
/-- A row of the table as a datum. -/
def rowD (r : Ip.Row) : DataW Unit := .agg [.lit (.int .i64 r.op), .lit (.string r.word), .lit (.int .i64 r.fmt)]
def rowC (r : Ip.Row) : List Value := [.int .i64 r.op, .string r.str, .int .i64 r.fmt]
theorem opsOf : (Rows.laid_hurdle_ins_operations : DataW Unit) = .agg (Ip.rows.map rowD) := rfl
theorem cellsFlat : (List.range 39).flatMap (fun i => rowC (Ip.rowAt i)) = Ip.cellsL := by kernel_rfl
/-- The three cells of a row, by how they read. -/
theorem row_cells {W : World} {fuel : Nat} {cs : List Value} {r : Ip.Row} {p : List MemPlace} (h : DataW.trod (fun _ => ()) Tryd.prog W 0 (fun _ => true) false fuel 73 cs = some (rowD r, p)) : cs = rowC r := by
  obtain ⟨xs, n, _, hx, hl, hxl, hf⟩ := DataW.trod_struct Tryd.underlying73 h
  have hd : xs.map (·.1) = [.lit (.int .i64 r.op), .lit (.string r.word), .lit (.int .i64 r.fmt)] := by
    have h1 := congrArg Prod.fst hx
    simp only [rowD, DataW.agg.injEq] at h1
    exact h1.symm
  rw [cellsOp] at hl
  match xs, hd, cs, hl with
  | [x0, x1, x2], hd, [a, b, c], _ =>
    simp only [List.map_cons, List.map_nil, List.cons.injEq, and_true] at hd
    have h0 : DataW.trod (fun _ => ()) Tryd.prog W 0 (fun _ => true) false n 3 [a] = some x0 := hf 0 _ rfl
    have h1 : DataW.trod (fun _ => ()) Tryd.prog W 0 (fun _ => true) false n 9 [b] = some x1 := hf 1 _ rfl
    have h2 : DataW.trod (fun _ => ()) Tryd.prog W 0 (fun _ => true) false n 3 [c] = some x2 := hf 2 _ rfl
    obtain ⟨z0, e0, g0, _⟩ := DataW.trod_int Tryd.underlying3 h0
    obtain ⟨s1, e1, g1, _⟩ := DataW.trod_string Tryd.underlying9 h1
    obtain ⟨z2, e2, g2, _⟩ := DataW.trod_int Tryd.underlying3 h2
    subst g0 g1 g2
    simp only [DataW.lit.injEq, Lit.int.injEq, Lit.string.injEq, true_and, List.cons.injEq, and_true] at hd e0 e1 e2
    obtain ⟨d0, d1, d2⟩ := hd
    have hs : s1 = r.str := by
      apply ByteArray.ext
      apply Array.ext'
      rw [d1]
      rfl
    rw [rowC, e0, e1, e2, d0, d2, hs]
/-- A row that lists the table of the operations alone. -/
def lays1 : List (String × DataW Unit) := [("hurdle/ins.operations", Rows.laid_hurdle_ins_operations)]
theorem otab1_of {W : World} (h : laidMetH Tryd.prog lays1 W) : OTab W := by
  have h2 : laidMet Tryd.prog lays1 W := h
  unfold lays1 at h2
  rw [opsOf] at h2
  obtain ⟨cs, ty, fr, fuel, p, hh, hd⟩ := laid_head gOps gOpsType h2
  obtain ⟨xs, m, _, hx, hl, hxl, hf⟩ := DataW.trod_array Tryd.underlying89 hd
  have hm : xs.map (·.1) = Ip.rows.map rowD := by
    have h3 := congrArg Prod.fst hx
    simp only [DataW.agg.injEq] at h3
    exact h3.symm
  rw [cellsOps] at hl
  have hc : cs.toList = Ip.cellsL := by
    rw [← cellsFlat]
    refine chunks 3 39 _ _ hl (fun i hi => ?_)
    have h4 := hf i hi
    rw [cellsOp] at h4
    have h5 : xs[i]? = some (rowD (Ip.rowAt i), (xs[i]'(by omega)).2) := by
      have h6 := congrArg (·[i]?) hm
      simp only [List.getElem?_map] at h6
      rw [List.getElem?_eq_getElem (by omega)] at h6 ⊢
      rw [List.getElem?_eq_getElem (by rw [Ip.rows_len]; exact hi)] at h6
      simp only [Option.map_some, Option.some.injEq] at h6
      rw [show Ip.rowAt i = Ip.rows[i]'(by rw [Ip.rows_len]; exact hi) by unfold Ip.rowAt List.getD; rw [List.getElem?_eq_getElem (by rw [Ip.rows_len]; exact hi)]; rfl, ← h6]
    rw [h5] at h4
    exact row_cells h4
  refine ⟨ty, fr, ?_⟩
  rw [hh, show cs = Ip.cells by apply Array.ext'; exact hc]

/-- The same, where the rows list the table of the operations alone. -/
noncomputable def laidWorld1 (os : Os) : World :=
  { World.holding Tryd.prog os ⟨#[], #[], []⟩ with heap := (World.holding Tryd.prog os ⟨#[], #[], []⟩).heap.modify 0 (laidBlock Ip.cells) }
end Go.Proofs.YtmbgcfikpndamaaDoor
/-
  Acts, as they lie in a world; at, Do and means of package hurdlelaw12.
-/
namespace Go.Proofs.YtmbgcfikpndamaaDoor
open Go.ChangeShapes Go.WideShapes Go.ChangeAt Go.RowKit
set_option maxRecDepth 20000

def A4.ok (a : A4) : Prop := a.x.ok ∧ a.t ≤ 65535 ∧ a.f ≤ 65535
abbrev A4.cells (a : A4) : Array Value := #[.int .i64 a.kind, .int .i64 a.x.op, .int .i64 a.x.jt, .int .i64 a.x.jf, .int .u32 a.x.k, .int .u16 (a.t : Nat), .int .u16 (a.f : Nat)]
abbrev A4.val (a : A4) : Value := .agg #[.int .i64 a.kind, .int .i64 a.x.op, .int .i64 a.x.jt, .int .i64 a.x.jf, .int .u32 a.x.k, .int .u16 (a.t : Nat), .int .u16 (a.f : Nat)]
abbrev acB (a : A4) : Obj := .cells #[.int .i64 a.kind, .int .i64 a.x.op, .int .i64 a.x.jt, .int .i64 a.x.jf, .int .u32 a.x.k, .int .u16 (a.t : Nat), .int .u16 (a.f : Nat)] 33
theorem actX {w : World} {g : Nat} {a : A4} (h : w.heap[g]? = some (acB a)) : w.cell? ⟨g, 0, none⟩ = some (.int .i64 a.kind) ∧ w.cell? ⟨g, 1, none⟩ = some (.int .i64 a.x.op) ∧ w.cell? ⟨g, 2, none⟩ = some (.int .i64 a.x.jt) ∧ w.cell? ⟨g, 3, none⟩ = some (.int .i64 a.x.jf) ∧ w.cell? ⟨g, 4, none⟩ = some (.int .u32 a.x.k) ∧ w.cell? ⟨g, 5, none⟩ = some (.int .u16 (a.t : Nat)) ∧ w.cell? ⟨g, 6, none⟩ = some (.int .u16 (a.f : Nat)) :=
  ⟨cell_in h 0, cell_in h 1, cell_in h 2, cell_in h 3, cell_in h 4, cell_in h 5, cell_in h 6⟩
/-- Acts that lie in a world. -/
def AAt (w : World) (v : Value) (l : List A4) : Prop :=
  ∃ ao cap, v = .slice ao l.length cap ∧ (l = [] ∨ ∃ b off, ao = some ⟨b, off, none⟩ ∧ b < w.heap.size ∧ ∀ i (h : i < l.length),
    w.cell? ⟨b, off + i * 7, none⟩ = some (.int .i64 (l[i]).kind) ∧ w.cell? ⟨b, off + i * 7 + 1, none⟩ = some (.int .i64 (l[i]).x.op) ∧ w.cell? ⟨b, off + i * 7 + 2, none⟩ = some (.int .i64 (l[i]).x.jt) ∧ w.cell? ⟨b, off + i * 7 + 3, none⟩ = some (.int .i64 (l[i]).x.jf) ∧ w.cell? ⟨b, off + i * 7 + 4, none⟩ = some (.int .u32 (l[i]).x.k) ∧
    w.cell? ⟨b, off + i * 7 + 5, none⟩ = some (.int .u16 ((l[i]).t : Nat)) ∧ w.cell? ⟨b, off + i * 7 + 6, none⟩ = some (.int .u16 ((l[i]).f : Nat)))
theorem AAt.nil (w : World) : AAt w (.slice none 0 0) [] := ⟨none, 0, rfl, .inl rfl⟩
theorem AAt.shape {w : World} {v : Value} {l : List A4} (h : AAt w v l) : ∃ ao cap, v = .slice ao l.length cap := by
  obtain ⟨ao, cap, rfl, _⟩ := h
  exact ⟨ao, cap, rfl⟩
theorem AAt.below {w w' : World} {v : Value} {l : List A4} (h : AAt w v l) (hb : Below w.heap.size w w') : AAt w' v l := by
  obtain ⟨ao, cap, rfl, h⟩ := h
  refine ⟨ao, cap, rfl, h.imp id ?_⟩
  rintro ⟨b, off, rfl, hl, hc⟩
  refine ⟨b, off, rfl, Nat.lt_of_lt_of_le hl hb.size, fun i hi => ?_⟩
  obtain ⟨c0, c1, c2, c3, c4, c5, c6⟩ := hc i hi
  exact ⟨(hb.cell (p := ⟨b, _, none⟩) hl).trans c0, (hb.cell (p := ⟨b, _, none⟩) hl).trans c1, (hb.cell (p := ⟨b, _, none⟩) hl).trans c2, (hb.cell (p := ⟨b, _, none⟩) hl).trans c3, (hb.cell (p := ⟨b, _, none⟩) hl).trans c4, (hb.cell (p := ⟨b, _, none⟩) hl).trans c5, (hb.cell (p := ⟨b, _, none⟩) hl).trans c6⟩
/-- The act of a row. -/
theorem AAt.row {w : World} {ao : Option Addr} {cap n : Nat} {l : List A4} (h : AAt w (.slice ao n cap) l) (i : Nat) (hi : i < l.length) : ∃ b off, ao = some ⟨b, off, none⟩ ∧
    w.cell? ⟨b, off + i * 7, none⟩ = some (.int .i64 (l[i]).kind) ∧ w.cell? ⟨b, off + i * 7 + 1, none⟩ = some (.int .i64 (l[i]).x.op) ∧ w.cell? ⟨b, off + i * 7 + 2, none⟩ = some (.int .i64 (l[i]).x.jt) ∧ w.cell? ⟨b, off + i * 7 + 3, none⟩ = some (.int .i64 (l[i]).x.jf) ∧ w.cell? ⟨b, off + i * 7 + 4, none⟩ = some (.int .u32 (l[i]).x.k) ∧
    w.cell? ⟨b, off + i * 7 + 5, none⟩ = some (.int .u16 ((l[i]).t : Nat)) ∧ w.cell? ⟨b, off + i * 7 + 6, none⟩ = some (.int .u16 ((l[i]).f : Nat)) := by
  obtain ⟨ao', cap', e, h⟩ := h
  rcases h with rfl | ⟨b, off, rfl, _, hc⟩
  · cases hi
  · cases e
    exact ⟨b, off, rfl, hc i hi⟩

theorem hat_any (ao : Option Addr) (cap : Nat) (c : List X4) (n : Nat) (hl : c.length ≤ 4000) (hn : n ≤ 65535) (w : World) :
    Calls Tryd.prog 19 #[.slice ao c.length cap, .int .u16 (n : Nat)] w fun e w' => e = .returned (.int .i64 (atN c n)) ∧ w = w' := by
  by_cases h0 : c.length = 0
  · have HE := Lib.hid (show atN c n = 0 by unfold atN; rw [if_pos h0])
    have h1 : ((c.length : Int) == 0) = true := by simpa using h0
    clear h0
    go_enter Tryd.func19, Tryd.ntmps19
    go_wp2_with fail
    go_ret
    exact ⟨retI HE.out, rfl⟩
  · have HE := Lib.hid (show atN c n = 1 + ((n % c.length : Nat) : Int) by unfold atN; rw [if_neg h0])
    have h1 : ((c.length : Int) == 0) = false := by simpa using h0
    have hm := Nat.mod_lt n (show 0 < c.length by omega)
    obtain ⟨m, hm2⟩ : ∃ m, m = n % c.length := ⟨_, rfl⟩
    rw [← hm2] at HE hm
    have hr : (n : Int).tmod (c.length : Int) = (m : Nat) := by rw [hm2, Int.tmod_eq_emod_of_nonneg (by omega)]; rfl
    clear h0 hm2
    go_enter Tryd.func19, Tryd.ntmps19
    go_wp2_with fail
    go_ret
    exact ⟨retI HE.out, rfl⟩

set_option maxHeartbeats 8000000 in
theorem hdo_any (v : Value) (c : List X4) (a : A4) (w : World) (hF : CdAt w v c) (hl : c.length ≤ 3000) (ha : a.ok) (ht : OTab w) :
    Calls Tryd.prog 9 #[v, a.val] w fun e w' => GEnd w.heap.size v c (doN c a) w' e ∧ Below w.heap.size w w' := by
  obtain ⟨ao, cap, rfl⟩ := hF.shape
  have HF := Lib.hid hF
  obtain ⟨_, ht1, hf1⟩ := ha
  obtain ⟨kind, ⟨op, jt, jf, k⟩, t, f⟩ := a
  simp only at ht1 hf1
  have HG : Hid (doN c ⟨kind, ⟨op, jt, jf, k⟩, t, f⟩ = if kind = 0 then addN c ⟨op, jt, jf, k⟩ else if kind = 1 then jumpN c (atN c t) else branchN c op k (atN c t) (atN c f)) := Lib.hid rfl
  obtain ⟨g, hg⟩ : ∃ g, g = doN c ⟨kind, ⟨op, jt, jf, k⟩, t, f⟩ := ⟨_, rfl⟩
  rw [← hg] at HG ⊢
  clear hF hg
  have hA : ∀ (n : Nat) (W : World), n ≤ 65535 → Calls Tryd.prog 19 #[.slice ao c.length cap, .int .u16 (n : Nat)] W fun e w' => e = .returned (.int .i64 (atN c n)) ∧ W = w' := fun n W h => hat_any ao cap c n (by omega) h W
  have HA := Lib.hid hA
  obtain ⟨W, hW, X0, HBx⟩ : ∃ W, W = w.alloc (acB ⟨kind, ⟨op, jt, jf, k⟩, t, f⟩) ∧ W.heap[w.heap.size]? = some (acB ⟨kind, ⟨op, jt, jf, k⟩, t, f⟩) ∧ Below w.heap.size w W := ⟨_, rfl, heap_alloc_new _ _, ba _ (Below.refl _ _)⟩
  have HX := Lib.hid X0
  have HB0 := Lib.hid HBx
  clear X0 HBx hA
  go_enter Tryd.func9, Tryd.ntmps9
  go_upto_region 1 with fail
  change Code.wp _ _ _ _ (w.alloc (acB ⟨kind, ⟨op, jt, jf, k⟩, t, f⟩))
  rw [← hW]
  clear hW
  obtain ⟨c0, c1, c2, c3, c4, c5, c6⟩ := actX HX.out
  simp only at c0 c1 c2 c3 c4 c5 c6
  by_cases k0 : kind = 0
  · have HG2 : Hid (g = addN c ⟨op, jt, jf, k⟩) := Lib.hid (by rw [HG.out, if_pos k0])
    have hk : (kind == 0) = true := by simpa using k0
    clear k0
    go_wp2_with fail
    refine (hadd_any _ c op jt jf k _ (HF.out.below HB0.out) (by omega) (ht.below HB0.out)).mono ?_
    rintro e w3 ⟨hr, hb3⟩
    rw [← HG2.out] at hr
    obtain ⟨r, hr, hst, rfl⟩ := hr
    have HR := Lib.hid (show GEnd w.heap.size (.slice ao c.length cap) c g w3 (.returned (.tuple #[r, .int .i64 g.2.1, .int .i64 g.2.2])) from ⟨r, hr, fun b hb => hst b (Nat.lt_of_lt_of_le hb HB0.out.size), rfl⟩)
    have HB3 := Lib.hid (below2 HB0.out hb3)
    obtain ⟨ro, rc, rfl⟩ := hr.shape
    clear hb3 hr hst
    go_wp2_with fail
    go_ret3
    exact ⟨HR.out, HB3.out⟩
  have hk : (kind == 0) = false := by simpa using k0
  by_cases k1 : kind = 1
  · have HG2 : Hid (g = jumpN c (atN c t)) := Lib.hid (by rw [HG.out, if_neg k0, if_pos k1])
    have hk1 : (kind == 1) = true := by simpa using k1
    clear k0 k1
    go_wp2_with fail
    refine (HA.out t _ ht1).mono ?_
    rintro e w2 ⟨rfl, rfl⟩
    go_wp2_with fail
    refine (hjump_any _ c (atN c t) _ (HF.out.below HB0.out) (by omega)).mono ?_
    rintro e w3 ⟨hr, hb3⟩
    rw [← HG2.out] at hr
    obtain ⟨r, hr, hst, rfl⟩ := hr
    have HR := Lib.hid (show GEnd w.heap.size (.slice ao c.length cap) c g w3 (.returned (.tuple #[r, .int .i64 g.2.1, .int .i64 g.2.2])) from ⟨r, hr, fun b hb => hst b (Nat.lt_of_lt_of_le hb HB0.out.size), rfl⟩)
    have HB3 := Lib.hid (below2 HB0.out hb3)
    obtain ⟨ro, rc, rfl⟩ := hr.shape
    clear hb3 hr hst
    go_wp2_with fail
    go_ret3
    exact ⟨HR.out, HB3.out⟩
  · have HG2 : Hid (g = branchN c op k (atN c t) (atN c f)) := Lib.hid (by rw [HG.out, if_neg k0, if_neg k1])
    have hk1 : (kind == 1) = false := by simpa using k1
    have HBr : Hid (∀ V, Below W.heap.size W V → Calls Tryd.prog 14 #[.slice ao c.length cap, .int .i64 op, .int .u32 k, .int .i64 (atN c t), .int .i64 (atN c f)] V fun e w' => (∃ r, CdAt w' r g.1 ∧ (∀ b, b < w.heap.size → Stays b (.slice ao c.length cap) c → Stays b r g.1) ∧ e = .returned (.tuple #[r, .int .i64 g.2.1, .int .i64 g.2.2])) ∧ Below V.heap.size V w') := Lib.hid (fun V hV => by
      have hbv := HB0.out.trans (hV.mono HB0.out.size)
      refine (hbranch_any _ c op k (atN c t) (atN c f) V (HF.out.below hbv) (by omega) (ht.below hbv)).mono ?_
      rintro e w3 ⟨hr, hb3⟩
      rw [← HG2.out] at hr
      obtain ⟨r, hr, hst, rfl⟩ := hr
      exact ⟨⟨r, hr, fun b hb => hst b (Nat.lt_of_lt_of_le hb hbv.size), rfl⟩, hb3⟩)
    clear k0 k1
    have hgr : w.heap.size < W.heap.size := lt_of_block HX.out
    go_upto_region 6 with fail
    go_region_held3 (fun V => V.cell? ⟨w.heap.size, 1, none⟩ = some (.int .i64 op) ∧ V.cell? ⟨w.heap.size, 4, none⟩ = some (.int .u32 k) ∧ V.cell? ⟨w.heap.size, 5, none⟩ = some (.int .u16 (t : Nat)) ∧ V.cell? ⟨w.heap.size, 6, none⟩ = some (.int .u16 (f : Nat))) (first | exact ⟨c1, c4, c5, c6⟩ | exact ⟨a1, a4, a5, a6⟩ | go_keep)
      (first
        | (go_at_call 19; refine (HA.out _ _ ?_).mono ?_; (first | with_reducible exact ht1 | with_reducible exact hf1); rintro e w9 ⟨rfl, rfl⟩)
        | (go_at_call 14; refine (HBr.out _ ?_).mono ?_; (have hB := Below.refl W.heap.size W; go_grown); rintro e w9 ⟨⟨r, hr, hst, rfl⟩, hb9⟩; have a1 := (hb9.cell (p := ⟨w.heap.size, _, none⟩) hgr).trans c1; have a4 := (hb9.cell (p := ⟨w.heap.size, _, none⟩) hgr).trans c4; have a5 := (hb9.cell (p := ⟨w.heap.size, _, none⟩) hgr).trans c5; have a6 := (hb9.cell (p := ⟨w.heap.size, _, none⟩) hgr).trans c6))
    have HR := Lib.hid (show GEnd w.heap.size (.slice ao c.length cap) c g w9 (.returned (.tuple #[r, .int .i64 g.2.1, .int .i64 g.2.2])) from ⟨r, hr, hst, rfl⟩)
    have HB9 := Lib.hid (below2 HB0.out (below2 (bdN (Below.refl W.heap.size W) 1) hb9))
    obtain ⟨ro, rc, rfl⟩ := hr.shape
    clear hb9 hr hst a1 a4 a5 a6 c0 c1 c2 c3 c4 c5 c6
    go_wp2_with fail
    go_ret3
    exact ⟨HR.out, HB9.out⟩

set_option maxHeartbeats 8000000 in
theorem hmeans_any (v : Value) (c : List X4) (a : A4) (w : World) (hF : FAt w v c) (hl : c.length ≤ 3000) (ha : a.ok) :
    Calls Tryd.prog 10 #[v, a.val] w fun e w' => REnd (doN c a) w' e ∧ Below w.heap.size w w' := by
  obtain ⟨ao, cap, rfl⟩ := hF.shape
  have HF := Lib.hid hF
  obtain ⟨_, ht1, hf1⟩ := ha
  obtain ⟨kind, ⟨op, jt, jf, k⟩, t, f⟩ := a
  simp only at ht1 hf1
  have HG : Hid (doN c ⟨kind, ⟨op, jt, jf, k⟩, t, f⟩ = if kind = 0 then addN c ⟨op, jt, jf, k⟩ else if kind = 1 then jumpN c (atN c t) else branchN c op k (atN c t) (atN c f)) := Lib.hid rfl
  obtain ⟨g, hg⟩ : ∃ g, g = doN c ⟨kind, ⟨op, jt, jf, k⟩, t, f⟩ := ⟨_, rfl⟩
  rw [← hg] at HG ⊢
  clear hF hg
  have hA : ∀ (n : Nat) (W : World), n ≤ 65535 → Calls Tryd.prog 19 #[.slice ao c.length cap, .int .u16 (n : Nat)] W fun e w' => e = .returned (.int .i64 (atN c n)) ∧ W = w' := fun n W h => hat_any ao cap c n (by omega) h W
  have HA := Lib.hid hA
  obtain ⟨W, hW, X0, HBx⟩ : ∃ W, W = w.alloc (acB ⟨kind, ⟨op, jt, jf, k⟩, t, f⟩) ∧ W.heap[w.heap.size]? = some (acB ⟨kind, ⟨op, jt, jf, k⟩, t, f⟩) ∧ Below w.heap.size w W := ⟨_, rfl, heap_alloc_new _ _, ba _ (Below.refl _ _)⟩
  have HX := Lib.hid X0
  have HB0 := Lib.hid HBx
  clear X0 HBx hA
  go_enter Tryd.func10, Tryd.ntmps10
  go_upto_region 1 with fail
  change Code.wp _ _ _ _ (w.alloc (acB ⟨kind, ⟨op, jt, jf, k⟩, t, f⟩))
  rw [← hW]
  clear hW
  obtain ⟨c0, c1, c2, c3, c4, c5, c6⟩ := actX HX.out
  simp only at c0 c1 c2 c3 c4 c5 c6
  by_cases k0 : kind = 0
  · have HG2 : Hid (g = addN c ⟨op, jt, jf, k⟩) := Lib.hid (by rw [HG.out, if_pos k0])
    have hk : (kind == 0) = true := by simpa using k0
    clear k0
    go_wp2_with fail
    refine (radd12_any _ c op jt jf k _ (HF.out.below HB0.out) (by omega)).mono ?_
    rintro e w3 ⟨hr, hb3⟩
    rw [← HG2.out] at hr
    obtain ⟨r, hr, rfl⟩ := hr
    have HR := Lib.hid (show REnd g w3 (.returned (.tuple #[r, .int .i64 g.2.1, .int .i64 g.2.2])) from ⟨r, hr, rfl⟩)
    have HB3 := Lib.hid (below2 HB0.out hb3)
    obtain ⟨ro, rc, rfl⟩ := hr.shape
    clear hb3 hr
    go_wp2_with fail
    go_ret3
    exact ⟨HR.out, HB3.out⟩
  have hk : (kind == 0) = false := by simpa using k0
  by_cases k1 : kind = 1
  · have HG2 : Hid (g = jumpN c (atN c t)) := Lib.hid (by rw [HG.out, if_neg k0, if_pos k1])
    have hk1 : (kind == 1) = true := by simpa using k1
    clear k0 k1
    go_wp2_with fail
    refine (HA.out t _ ht1).mono ?_
    rintro e w2 ⟨rfl, rfl⟩
    go_wp2_with fail
    refine (rjump12_any _ c (atN c t) _ (HF.out.below HB0.out) (by omega)).mono ?_
    rintro e w3 ⟨hr, hb3⟩
    rw [← HG2.out] at hr
    obtain ⟨r, hr, rfl⟩ := hr
    have HR := Lib.hid (show REnd g w3 (.returned (.tuple #[r, .int .i64 g.2.1, .int .i64 g.2.2])) from ⟨r, hr, rfl⟩)
    have HB3 := Lib.hid (below2 HB0.out hb3)
    obtain ⟨ro, rc, rfl⟩ := hr.shape
    clear hb3 hr
    go_wp2_with fail
    go_ret3
    exact ⟨HR.out, HB3.out⟩
  · have HG2 : Hid (g = branchN c op k (atN c t) (atN c f)) := Lib.hid (by rw [HG.out, if_neg k0, if_neg k1])
    have hk1 : (kind == 1) = false := by simpa using k1
    have HBr : Hid (∀ V, Below W.heap.size W V → Calls Tryd.prog 15 #[.slice ao c.length cap, .int .i64 op, .int .u32 k, .int .i64 (atN c t), .int .i64 (atN c f)] V fun e w' => (∃ r, FAt w' r g.1 ∧ e = .returned (.tuple #[r, .int .i64 g.2.1, .int .i64 g.2.2])) ∧ Below V.heap.size V w') := Lib.hid (fun V hV => by
      have hbv := HB0.out.trans (hV.mono HB0.out.size)
      refine (rbranch12_any _ c op k (atN c t) (atN c f) V (HF.out.below hbv) (by omega)).mono ?_
      rintro e w3 ⟨hr, hb3⟩
      rw [← HG2.out] at hr
      obtain ⟨r, hr, rfl⟩ := hr
      exact ⟨⟨r, hr, rfl⟩, hb3⟩)
    clear k0 k1
    have hgr : w.heap.size < W.heap.size := lt_of_block HX.out
    go_upto_region 6 with fail
    go_region_held3 (fun V => V.cell? ⟨w.heap.size, 1, none⟩ = some (.int .i64 op) ∧ V.cell? ⟨w.heap.size, 4, none⟩ = some (.int .u32 k) ∧ V.cell? ⟨w.heap.size, 5, none⟩ = some (.int .u16 (t : Nat)) ∧ V.cell? ⟨w.heap.size, 6, none⟩ = some (.int .u16 (f : Nat))) (first | exact ⟨c1, c4, c5, c6⟩ | exact ⟨a1, a4, a5, a6⟩ | go_keep)
      (first
        | (go_at_call 19; refine (HA.out _ _ ?_).mono ?_; (first | with_reducible exact ht1 | with_reducible exact hf1); rintro e w9 ⟨rfl, rfl⟩)
        | (go_at_call 15; refine (HBr.out _ ?_).mono ?_; (have hB := Below.refl W.heap.size W; go_grown); rintro e w9 ⟨⟨r, hr, rfl⟩, hb9⟩; have a1 := (hb9.cell (p := ⟨w.heap.size, _, none⟩) hgr).trans c1; have a4 := (hb9.cell (p := ⟨w.heap.size, _, none⟩) hgr).trans c4; have a5 := (hb9.cell (p := ⟨w.heap.size, _, none⟩) hgr).trans c5; have a6 := (hb9.cell (p := ⟨w.heap.size, _, none⟩) hgr).trans c6))
    have HR := Lib.hid (show REnd g w9 (.returned (.tuple #[r, .int .i64 g.2.1, .int .i64 g.2.2])) from ⟨r, hr, rfl⟩)
    have HB9 := Lib.hid (below2 HB0.out (below2 (bdN (Below.refl W.heap.size W) 1) hb9))
    obtain ⟨ro, rc, rfl⟩ := hr.shape
    clear hb9 hr a1 a4 a5 a6 c0 c1 c2 c3 c4 c5 c6
    go_wp2_with fail
    go_ret3
    exact ⟨HR.out, HB9.out⟩
end Go.Proofs.YtmbgcfikpndamaaDoor
/-
  What codec.Right, and the document's Check and Same, answer, for any filter that lies in a world.
-/
namespace Go.Proofs.YtmbgcfikpndamaaDoor
open Go.ChangeShapes Go.WideShapes Go.ChangeAt Go.RowKit
set_option maxRecDepth 20000

theorem neq_ins (x y : X4) (W : World) : (binOp .neq 30 (.agg #[.int .i64 x.op, .int .i64 x.jt, .int .i64 x.jf, .int .u32 x.k]) (.agg #[.int .i64 y.op, .int .i64 y.jt, .int .i64 y.jf, .int .u32 y.k])).run Tryd.prog W = .ok (.bool (!decide (x = y))) W := by
  obtain ⟨a, b, c, d⟩ := x
  obtain ⟨a', b', c', d'⟩ := y
  simp only [X4.mk.injEq]
  cases h0 : (a == a') <;> cases h1 : (b == b') <;> cases h2 : (c == c') <;> cases h3 : (d == d') <;> go_simp <;> simp_all
theorem take_step {l l' : List X4} {n : Nat} (h : n < l.length) (h' : n < l'.length) (ht : l.take n = l'.take n) (e : l[n] = l'[n]) : l.take (n + 1) = l'.take (n + 1) := by
  rw [List.take_succ_eq_append_getElem h, List.take_succ_eq_append_getElem h', ht, e]

set_option maxHeartbeats 1000000 in
theorem same_any (v v' : Value) (l l' : List X4) (w : World) (hl : l.length ≤ 1099511627776) (hF : FAt w v l) (hF' : FAt w v' l') :
    Calls Tryd.prog 11 #[v, v'] w fun e w' => e = .returned (.bool (decide (l = l'))) ∧ Below w.heap.size w w' := by
  obtain ⟨ao, cap, rfl, hF⟩ := hF
  obtain ⟨ao', cap', rfl, hF'⟩ := hF'
  by_cases hne : l.length = l'.length
  · have HF := Lib.hid hF
    have HF' := Lib.hid hF'
    have HNE := Lib.hid hne
    rw [← hne]
    clear hF hF' hne
    go_enter Tryd.func11, Tryd.ntmps11
    go_wp2_with fail
    go_loopw [5] (fun i wr => ∃ n : Nat, n ≤ l.length ∧ i = .int .i64 n ∧ Below w.heap.size w wr ∧ l.take n = l'.take n) (fun i _ => l.length - (intOf i).toNat)
    case atStart => exact ⟨0, by omega, rfl, Below.refl _ _, by simp⟩
    case round =>
      obtain ⟨n, hn, rfl, hB, hall⟩ := hrel
      have HB := Lib.hid hB
      have HA := Lib.hid hall
      by_cases hlt : n < l.length
      · have hlt' : n < l'.length := by have := HNE.out; omega
        rcases HF.out with h0 | ⟨b, off, rfl, hb, hc⟩
        · rw [h0] at hlt; simp at hlt
        rcases HF'.out with h0 | ⟨b', off', rfl, hb', hc'⟩
        · rw [h0] at hlt'; simp at hlt'
        obtain ⟨c0, c1, c2, c3⟩ := hc n hlt
        obtain ⟨c0', c1', c2', c3'⟩ := hc' n hlt'
        have d0 := (hB.cell (p := ⟨b, _, none⟩) hb).trans c0
        have d1 := (hB.cell (p := ⟨b, _, none⟩) hb).trans c1
        have d2 := (hB.cell (p := ⟨b, _, none⟩) hb).trans c2
        have d3 := (hB.cell (p := ⟨b, _, none⟩) hb).trans c3
        have e0 := (hB.cell (p := ⟨b', _, none⟩) hb').trans c0'
        have e1 := (hB.cell (p := ⟨b', _, none⟩) hb').trans c1'
        have e2 := (hB.cell (p := ⟨b', _, none⟩) hb').trans c2'
        have e3 := (hB.cell (p := ⟨b', _, none⟩) hb').trans c3'
        clear hc c0 c1 c2 c3 hc' c0' c1' c2' c3' hB hall HF HF'
        go_wp2_with fail
        have hq := neq_ins l[n] l'[n]
        cases hd : decide (l[n] = l'[n])
        · have HE := Lib.hid (show l ≠ l' from fun h => by subst h; simp at hd)
          rw [hd] at hq
          clear hd
          go_quiet (fail)
          go_wp2_with fail
          go_ret
          exact ⟨retB (by simpa using HE.out), bdN HB.out _⟩
        · have HE := Lib.hid (take_step hlt hlt' HA.out (by simpa using hd))
          rw [hd] at hq
          clear hd
          go_quiet (fail)
          go_wp2_with fail
          go_roundw
          case rel => exact ⟨n + 1, by omega, by go_num, bdN HB.out _, HE.out⟩
          case measure => simp [intOf]; omega
      · have HE := Lib.hid (show l = l' by
          have h1 := hall
          rw [List.take_of_length_le (by omega), List.take_of_length_le (by have := HNE.out; omega)] at h1
          exact h1)
        clear hB hall
        go_wp2_with fail
        go_ret
        exact ⟨retB (by simpa using HE.out), HB.out⟩
  · have HE := Lib.hid (show l ≠ l' from fun h => hne (by rw [h]))
    go_enter Tryd.func11, Tryd.ntmps11
    go_wp2_with fail
    go_ret
    exact ⟨retB (by simpa using HE.out), Below.refl _ _⟩
end Go.Proofs.YtmbgcfikpndamaaDoor
/-
  The rows of examples at the end of each law of package hurdlelaw12; arguments that are code, and acts; a slice of code from a place on.
-/
namespace Go.Proofs.YtmbgcfikpndamaaDoor
open Go.ChangeShapes Go.WideShapes Go.ChangeAt Go.RowKit Go.Deep
set_option maxRecDepth 100000

theorem eq_insH (x y : X4) (W : World) : (binOp .eql 30 (.agg #[.int .i64 x.op, .int .i64 x.jt, .int .i64 x.jf, .int .u32 x.k]) (.agg #[.int .i64 y.op, .int .i64 y.jt, .int .i64 y.jf, .int .u32 y.k])).run Tryd.prog W = .ok (.bool (decide (x = y))) W := by
  obtain ⟨a, b, c, d⟩ := x
  obtain ⟨a', b', c', d'⟩ := y
  simp only [X4.mk.injEq]
  cases h0 : (a == a') <;> cases h1 : (b == b') <;> cases h2 : (c == c') <;> cases h3 : (d == d') <;> go_simp <;> simp_all
theorem FAt.row {w : World} {ao : Option Addr} {cap n : Nat} {l : List X4} (h : FAt w (.slice ao n cap) l) (i : Nat) (hi : i < l.length) : ∃ b off, ao = some ⟨b, off, none⟩ ∧ b < w.heap.size ∧
    w.cell? ⟨b, off + i * 4, none⟩ = some (.int .i64 (l[i]).op) ∧ w.cell? ⟨b, off + i * 4 + 1, none⟩ = some (.int .i64 (l[i]).jt) ∧ w.cell? ⟨b, off + i * 4 + 2, none⟩ = some (.int .i64 (l[i]).jf) ∧ w.cell? ⟨b, off + i * 4 + 3, none⟩ = some (.int .u32 (l[i]).k) := by
  obtain ⟨ao', cap', e, h⟩ := h
  rcases h with rfl | ⟨b, off, rfl, hb, hc⟩
  · cases hi
  · cases e
    exact ⟨b, off, rfl, hb, hc i hi⟩
def ex1 : List X4 := [⟨6, 0, 0, 0⟩]
def ex2 : List X4 := [⟨6, 0, 0, 1⟩, ⟨6, 0, 0, 0⟩]
def ex3 : List X4 := [⟨21, 0, 1, 5⟩, ⟨6, 0, 0, 1⟩, ⟨6, 0, 0, 0⟩]
theorem ex_add1 : addN [] ⟨6, 0, 0, 0⟩ = (ex1, 1, 0) := by decide +kernel
theorem ex_add2 : addN ex1 ⟨6, 0, 0, 1⟩ = (ex2, 2, 0) := by decide +kernel
theorem ex_branch : branchN ex2 21 5 2 1 = (ex3, 3, 0) := by decide +kernel
theorem ex_jump : jumpN ex3 3 = (ex3, 3, 0) := by decide +kernel
set_option maxHeartbeats 8000000 in
theorem hknows_any (w : World) (ht : OTab w) :
    Calls Tryd.prog 8 #[] w fun e w' => e = .returned (.bool true) ∧ Below w.heap.size w w' := by
  have HT := Lib.hid ht
  clear ht
  go_enter Tryd.func8, Tryd.ntmps8
  go_wp2_with fail
  refine (hadd_any _ [] 6 0 0 0 w ⟨FAt.nil _, CapF.nil⟩ (by decide) HT.out).mono ?_
  rintro e w1 ⟨h, hb1⟩
  rw [ex_add1] at h
  obtain ⟨v1, h1, _, rfl⟩ := h
  have H1 := Lib.hid h1
  have HB1 := Lib.hid hb1
  obtain ⟨o1, p1, rfl⟩ := h1.shape
  clear h1 hb1
  go_wp2_with fail
  refine (hadd_any _ ex1 6 0 0 1 w1 H1.out (by decide) (HT.out.below HB1.out)).mono ?_
  rintro e w2 ⟨h, hb2⟩
  rw [ex_add2] at h
  obtain ⟨v2, h2, _, rfl⟩ := h
  have H2 := Lib.hid h2
  have HB2 := Lib.hid (below2 HB1.out hb2)
  obtain ⟨o2, p2, rfl⟩ := h2.shape
  clear h2 hb2 H1 HB1
  go_wp2_with fail
  refine (hbranch_any _ ex2 21 5 2 1 w2 H2.out (by decide) (HT.out.below HB2.out)).mono ?_
  rintro e w3 ⟨h, hb3⟩
  rw [ex_branch] at h
  obtain ⟨v3, h3, _, rfl⟩ := h
  have H3 := Lib.hid h3
  have HB3 := Lib.hid (below2 HB2.out hb3)
  obtain ⟨o3, p3, hv3⟩ := h3.shape
  have hv3' : v3 = .slice o3 3 p3 := hv3
  subst hv3'
  clear h3 hb3 H2 HB2 hv3
  go_wp2_with fail
  refine (hjump_any _ ex3 3 w3 H3.out (by decide)).mono ?_
  rintro e w4 ⟨h, hb4⟩
  rw [ex_jump] at h
  obtain ⟨v4, h4, _, rfl⟩ := h
  have H4 := Lib.hid (H3.out.below hb4)
  have HB4 := Lib.hid (below2 HB3.out hb4)
  obtain ⟨o4, p4, rfl⟩ := h4.shape
  clear h4 hb4 H3 HB3
  obtain ⟨b, off, rfl, hb, c0, c1, c2, c3⟩ := H4.out.1.row 0 (by decide)
  obtain ⟨b', off', e', _, _, _, _, d3⟩ := H4.out.1.row 1 (by decide)
  cases e'
  have c0 : w4.cell? ⟨b, off, none⟩ = some (.int .i64 21) := c0
  have c1 : w4.cell? ⟨b, off + 1, none⟩ = some (.int .i64 0) := c1
  have c2 : w4.cell? ⟨b, off + 2, none⟩ = some (.int .i64 1) := c2
  have c3 : w4.cell? ⟨b, off + 3, none⟩ = some (.int .u32 5) := c3
  have d3 : w4.cell? ⟨b, off + 4 + 3, none⟩ = some (.int .u32 1) := d3
  have d4 : w4.cell? ⟨b, off + 7, none⟩ = some (.int .u32 1) := d3
  have hE : ∀ W, (binOp .eql 30 (.agg #[.int .i64 21, .int .i64 0, .int .i64 1, .int .u32 5]) (.agg #[.int .i64 21, .int .i64 0, .int .i64 1, .int .u32 5])).run Tryd.prog W = .ok (.bool true) W := fun W => eq_insH ⟨21, 0, 1, 5⟩ ⟨21, 0, 1, 5⟩ W
  go_wp2_with fail
  refine (branch_any 21 0 1 5 _ (HT.out.below HB4.out)).mono ?_
  rintro e w5 ⟨rfl, hb5⟩
  rw [show isBranch 21 = true by decide]
  have HB5 := Lib.hid (below2 HB4.out hb5)
  clear hb5 c0 c1 c2 c3 d3 d4
  go_wp2_with fail
  go_ret
  exact ⟨rfl, HB5.out⟩
/-- The last word of a law: the rows of examples. -/
theorem hknow_end {a w : World} (hb : Below a.heap.size a w) (ht : OTab a) : Calls Tryd.prog 8 #[] w fun e w' => e = .returned (.bool true) ∧ Below a.heap.size a w' :=
  (hknows_any w (ht.below hb)).mono fun _ _ ⟨he, h⟩ => ⟨he, below2 hb h⟩
/-- Code from a place on. -/
theorem CdAt.past {w : World} {v : Value} {l : List X4} (hh : CdAt w v l) (lo : Nat) (hl : lo ≤ l.length) :
    ∃ v', (∀ W, (Instr.slice 22 v (some (.int .i64 (lo : Nat))) none none).run Tryd.prog W = .ok v' W) ∧ FAt w v' (l.drop lo) := by
  obtain ⟨⟨ao, cap, rfl, hD⟩, hv⟩ := hh
  obtain ⟨_, _, _, e, hcap, hmax⟩ := hv
  simp only [Value.slice.injEq] at e
  obtain ⟨rfl, rfl, rfl⟩ := e
  have hl2 : (l.drop lo).length = l.length - lo := List.length_drop
  rcases hD with rfl | ⟨g, off, rfl, hg, hc⟩
  · simp at hl
    subst hl
    cases ao with
    | none => exact ⟨.slice none 0 cap, fun W => by go_simp, none, cap, rfl, .inl rfl⟩
    | some a => exact ⟨.slice (some a) 0 cap, fun W => by go_simp, some a, cap, rfl, .inl rfl⟩
  · have cR : Tryd.prog.cellsOf 30 = 4 := by kernel_rfl
    by_cases hc1 : cap = lo
    · refine ⟨.slice (some ⟨g, off, none⟩) (l.length - lo) 0, fun W => ?_, some ⟨g, off, none⟩, 0, by rw [hl2], .inl ?_⟩
      · subst hc1
        go_simp
        (try (intro h; omega))
      · exact List.eq_nil_of_length_eq_zero (by omega)
    · refine ⟨.slice (some ⟨g, off + lo * 4, none⟩) (l.length - lo) (cap - lo), fun W => ?_, some ⟨g, off + lo * 4, none⟩, cap - lo, by rw [hl2], .inr ⟨g, off + lo * 4, rfl, hg, fun i hi' => ?_⟩⟩
      · go_simp
        (try (intro h; omega))
      · obtain ⟨c0, c1, c2, c3⟩ := hc (lo + i) (by omega)
        rw [List.getElem_drop]
        rw [Nat.add_mul, ← Nat.add_assoc] at c0 c1 c2 c3
        exact ⟨c0, c1, c2, c3⟩
/-! ### Arguments -/
section
variable {H : Type} {enc : TypeId × Value → H} {W : World} {base : Nat} {v : Value} {d : DataW H} {p : List MemPlace}
theorem capf_of_trod {t e : TypeId} {ao : Option Addr} {n0 c0 : Nat} (ht : Tryd.prog.underlying t = some (.slice e)) (h : DataW.Trod enc Tryd.prog W 0 (fun _ => true) true t (.slice ao n0 c0) d p) : CapF (.slice ao n0 c0) := by
  obtain ⟨fuel, h⟩ := h
  rcases open_slice ht h with ⟨hcs, _⟩ | ⟨a, len', cap', m, n, D, Pl, hcs, _, hl, hm, _⟩
  · simp [Value.cells] at hcs
    obtain ⟨rfl, rfl, rfl⟩ := hcs
    exact CapF.nil
  · simp [Value.cells] at hcs
    obtain ⟨rfl, rfl, rfl⟩ := hcs
    unfold maxLen at hm
    exact ⟨_, _, _, rfl, hl, hm⟩
theorem open_code (hval : Value.okWide Tryd.prog W .any base 22 v) (h : DataW.Trod enc Tryd.prog W 0 (fun _ => true) true 22 v d p) : ∃ l : List X4, CdAt W v l ∧ (∀ x ∈ l, x.ok) ∧ l.length ≤ 9223372036854775807 := by
  obtain ⟨l, hF, r⟩ := open_filt hval h
  obtain ⟨a1, len, cap, rfl⟩ := okWide_slice Tryd.underlying22 hval
  exact ⟨l, ⟨hF, capf_of_trod Tryd.underlying22 h⟩, r⟩
theorem cellsAct : Tryd.prog.cellsOf 33 = 7 := by kernel_rfl
theorem open_acts (hval : Value.okWide Tryd.prog W .any base 23 v) (h : DataW.Trod enc Tryd.prog W 0 (fun _ => true) true 23 v d p) : ∃ l : List A4, AAt W v l ∧ (∀ x ∈ l, x.ok) ∧ l.length ≤ 9223372036854775807 := by
  obtain ⟨a1, len, cap, rfl⟩ := okWide_slice Tryd.underlying23 hval
  obtain ⟨fuel, hf⟩ := h
  rcases open_slice Tryd.underlying23 hf with ⟨hcs, _⟩ | ⟨a, len', cap', m, n, D, Pl, hcs, _, hl, hm, hmm, _, hi⟩
  · simp [Value.cells] at hcs
    obtain ⟨rfl, rfl, rfl⟩ := hcs
    exact ⟨[], AAt.nil W, by simp, by simp⟩
  · simp [Value.cells] at hcs
    obtain ⟨rfl, rfl, rfl⟩ := hcs
    simp only [if_true] at hmm
    unfold maxLen at hm
    rw [cellsAct] at hi
    have hall : ∀ i, i < len → ∃ x : A4, x.ok ∧ W.cell? (a.add (i * 7)) = some (.int .i64 x.kind) ∧ W.cell? ((a.add (i * 7)).add 1) = some (.int .i64 x.x.op) ∧ W.cell? ((a.add (i * 7)).add 2) = some (.int .i64 x.x.jt) ∧ W.cell? ((a.add (i * 7)).add 3) = some (.int .i64 x.x.jf) ∧ W.cell? ((a.add (i * 7)).add 4) = some (.int .u32 x.x.k) ∧ W.cell? ((a.add (i * 7)).add 5) = some (.int .u16 (x.t : Nat)) ∧ W.cell? ((a.add (i * 7)).add 6) = some (.int .u16 (x.f : Nat)) := by
      intro i hil
      obtain ⟨cs', hc, ht'⟩ := hi i (by omega)
      obtain ⟨ys, n', _, _, hlen, hyl, hff⟩ := DataW.trod_struct Tryd.underlying33 ht'
      obtain ⟨_, hcl, hat⟩ := World.cells?_some hc
      rw [cellsAct] at hlen
      match cs', hlen with
      | [c0, c1, c2, c3, c4, c5, c6], _ =>
        have hy4 : ys.length = 4 := hyl
        match ys, hy4 with
        | [y0, y1, y2, y3], _ =>
          have h0 : DataW.trod enc Tryd.prog W 0 (fun _ => true) true n' 3 [c0] = some y0 := hff 0 _ rfl
          have h1 : DataW.trod enc Tryd.prog W 0 (fun _ => true) true n' 30 [c1, c2, c3, c4] = some y1 := hff 1 _ rfl
          have h2 : DataW.trod enc Tryd.prog W 0 (fun _ => true) true n' 31 [c5] = some y2 := hff 2 _ rfl
          have h3 : DataW.trod enc Tryd.prog W 0 (fun _ => true) true n' 31 [c6] = some y3 := hff 3 _ rfl
          obtain ⟨zs, n2, _, _, _, hzl, hzz⟩ := DataW.trod_struct Tryd.underlying30 h1
          have hz4 : zs.length = 4 := hzl
          match zs, hz4 with
          | [z0, z1, z2, z3], _ =>
            have g0 : DataW.trod enc Tryd.prog W 0 (fun _ => true) true n2 3 [c1] = some z0 := hzz 0 _ rfl
            have g1 : DataW.trod enc Tryd.prog W 0 (fun _ => true) true n2 3 [c2] = some z1 := hzz 1 _ rfl
            have g2 : DataW.trod enc Tryd.prog W 0 (fun _ => true) true n2 3 [c3] = some z2 := hzz 2 _ rfl
            have g3 : DataW.trod enc Tryd.prog W 0 (fun _ => true) true n2 28 [c4] = some z3 := hzz 3 _ rfl
            obtain ⟨k0, e0, _, _⟩ := DataW.trod_int Tryd.underlying3 h0
            obtain ⟨k1, e1, _, _⟩ := DataW.trod_int Tryd.underlying3 g0
            obtain ⟨k2, e2, _, _⟩ := DataW.trod_int Tryd.underlying3 g1
            obtain ⟨k3, e3, _, _⟩ := DataW.trod_int Tryd.underlying3 g2
            obtain ⟨k4, e4, _, w4⟩ := DataW.trod_int Tryd.underlying28 g3
            obtain ⟨k5, e5, _, w5⟩ := DataW.trod_int Tryd.underlying31 h2
            obtain ⟨k6, e6, _, w6⟩ := DataW.trod_int Tryd.underlying31 h3
            simp only [List.cons.injEq, and_true] at e0 e1 e2 e3 e4 e5 e6
            subst e0 e1 e2 e3 e4 e5 e6
            have b4 := bounds_u32 w4
            have b5 := bounds_u16 w5
            have b6 := bounds_u16 w6
            have q0 := hat 0 (by omega)
            have q1 := hat 1 (by omega)
            have q2 := hat 2 (by omega)
            have q3 := hat 3 (by omega)
            have q4 := hat 4 (by omega)
            have q5 := hat 5 (by omega)
            have q6 := hat 6 (by omega)
            refine ⟨⟨k0, ⟨k1, k2, k3, k4⟩, k5.toNat, k6.toNat⟩, ⟨⟨b4.1, b4.2⟩, by show k5.toNat ≤ 65535; omega, by show k6.toNat ≤ 65535; omega⟩, ?_, q1, q2, q3, q4, ?_, ?_⟩
            · simpa [Addr.add] using q0
            · rw [show ((k5.toNat : Nat) : Int) = k5 by omega]; exact q5
            · rw [show ((k6.toNat : Nat) : Int) = k6 by omega]; exact q6
    obtain ⟨l, hll, hq⟩ := pick_list len hall
    subst hll
    refine ⟨l, ⟨some a, cap, rfl, ?_⟩, ?_, by omega⟩
    · by_cases h0 : l = []
      · exact .inl h0
      · have hpos : 0 < l.length := List.length_pos_iff.2 h0
        obtain ⟨ab, ao, spot⟩ := a
        obtain ⟨_, q0, _⟩ := hq 0 hpos
        have hspot : spot = none := by simpa [Addr.add] using World.cell?_spot q0
        subst hspot
        refine .inr ⟨ab, ao, rfl, ?_, fun i hi' => ?_⟩
        · apply Nat.lt_of_not_le
          intro hle
          have e : W.heap[ab]? = none := by simp; exact hle
          rw [Addr.add_lit] at q0
          simp [World.cell?, e] at q0
        · obtain ⟨_, q0, q1, q2, q3, q4, q5, q6⟩ := hq i hi'
          rw [Addr.add_lit] at q0 q1 q2 q3 q4 q5 q6
          rw [Addr.add_lit] at q1 q2 q3 q4 q5 q6
          exact ⟨q0, q1, q2, q3, q4, q5, q6⟩
    · intro x hx
      obtain ⟨i, hi', rfl⟩ := List.getElem_of_mem hx
      exact (hq i hi').1
end
end Go.Proofs.YtmbgcfikpndamaaDoor
/-
  A text parted at every byte that is a mark, plainly.
-/
namespace Ip
open Go
/-- All parts of a text between marks. -/
def cutAll (m : UInt8) : List UInt8 → List UInt8 → List (List UInt8)
  | cur, [] => [cur]
  | cur, c :: l => if c = m then cur :: cutAll m [] l else cutAll m (cur ++ [c]) l
/-- How far a text is parted. -/
def Parting (m : UInt8) (L : List UInt8) (p : Nat) (ps : List (List UInt8)) (cur : List UInt8) : Prop :=
  p ≤ L.length ∧ ps.length ≤ p ∧ cur.length ≤ p ∧ cutAll m [] L = ps ++ cutAll m cur (L.drop p)
theorem Parting.go {m : UInt8} {L : List UInt8} {p : Nat} {ps : List (List UInt8)} {cur : List UInt8} (h : Parting m L p ps cur) (hp : p < L.length) (hc : L[p] ≠ m) : Parting m L (p + 1) ps (cur ++ [L[p]]) := by
  obtain ⟨h1, h2, h3, h4⟩ := h
  refine ⟨hp, by omega, by simp; omega, ?_⟩
  rw [h4, List.drop_eq_getElem_cons hp, cutAll, if_neg hc]
end Ip

/-
  Texts of filters, line by line, as plain lists: what a filter's text is read as.
-/
namespace Go.Proofs.YtmbgcfikpndamaaDoor
open Go.ChangeShapes Go.WideShapes Go.ChangeAt Go.RowKit

end Go.Proofs.YtmbgcfikpndamaaDoor
/-
  What codec.take, codec.decodeIns and codec.Decode answer, for any bytes.
-/
namespace Go.Proofs.YtmbgcfikpndamaaDoor
open Go.ChangeShapes Go.WideShapes Go.ChangeAt Go.RowKit
set_option maxRecDepth 20000

/-- The instruction of the eight bytes from a place on. -/
def x8 (l : List UInt8) (o : Nat) : X4 := ⟨numAt l o 2, numAt l (o + 2) 1, numAt l (o + 3) 1, numAt l (o + 4) 4⟩
end Go.Proofs.YtmbgcfikpndamaaDoor

/-
  What codec.Decode answers, for any bytes that lie in a world.
-/
namespace Go.Proofs.YtmbgcfikpndamaaDoor
open Go.ChangeShapes Go.WideShapes Go.ChangeAt Go.RowKit
set_option maxRecDepth 20000

end Go.Proofs.YtmbgcfikpndamaaDoor
/-
  The rows of examples at the end of each law of package hurdlelaw06: knows() answers true in every world that has the table of the operations; and what == answers on a state beside itself.
-/
namespace Go.Proofs.YtmbgcfikpndamaaDoor
open Go.ChangeShapes Go.WideShapes Go.ChangeAt Go.RowKit
set_option maxRecDepth 100000

theorem cellsSt : Tryd.prog.cellsOf 45 = 18 := by kernel_rfl
theorem cells32s : Tryd.prog.cellsOf 28 = 1 := by kernel_rfl
theorem list18 {α : Type} {l : List α} (h : l.length = 18) : ∃ c0 c1 c2 c3 c4 c5 c6 c7 c8 c9 c10 c11 c12 c13 c14 c15 c16 c17, l = [c0, c1, c2, c3, c4, c5, c6, c7, c8, c9, c10, c11, c12, c13, c14, c15, c16, c17] := by
  match l, h with
  | [c0, c1, c2, c3, c4, c5, c6, c7, c8, c9, c10, c11, c12, c13, c14, c15, c16, c17], _ => exact ⟨c0, c1, c2, c3, c4, c5, c6, c7, c8, c9, c10, c11, c12, c13, c14, c15, c16, c17, rfl⟩
section
variable {H : Type} {enc : TypeId × Value → H} {W : World} {base : Nat} {v : Value} {d : DataW H} {p : List MemPlace}
theorem mAt_list (k2 k3 k4 k5 k6 k7 k8 k9 k10 k11 k12 k13 k14 k15 k16 k17 : Nat) : ∀ (a x : Nat), (⟨a, x, [k2, k3, k4, k5, k6, k7, k8, k9, k10, k11, k12, k13, k14, k15, k16, k17]⟩ : St).val = .agg #[.int .u32 a, .int .u32 x, .int .u32 k2, .int .u32 k3, .int .u32 k4, .int .u32 k5, .int .u32 k6, .int .u32 k7, .int .u32 k8, .int .u32 k9, .int .u32 k10, .int .u32 k11, .int .u32 k12, .int .u32 k13, .int .u32 k14, .int .u32 k15, .int .u32 k16, .int .u32 k17] := fun _ _ => rfl
theorem open_state (hval : Value.okWide Tryd.prog W .any base 45 v) (h : DataW.Trod enc Tryd.prog W 0 (fun _ => true) true 45 v d p) : ∃ s : St, v = s.val ∧ s.ok := by
  obtain ⟨cs, rfl, hsz⟩ := okWide_struct Tryd.underlying45 hval
  rw [cellsSt] at hsz
  obtain ⟨c0, c1, c2, c3, c4, c5, c6, c7, c8, c9, c10, c11, c12, c13, c14, c15, c16, c17, hc⟩ := list18 (l := cs.toList) (by simpa using hsz)
  obtain rfl : cs = #[c0, c1, c2, c3, c4, c5, c6, c7, c8, c9, c10, c11, c12, c13, c14, c15, c16, c17] := by rw [← hc]
  obtain ⟨fuel, hf⟩ := h
  obtain ⟨ys, n, _, _, _, hyl, hff⟩ := DataW.trod_struct Tryd.underlying45 hf
  have hy3 : ys.length = 3 := hyl
  match ys, hy3 with
  | [y0, y1, y2], _ =>
    have h0 : DataW.trod enc Tryd.prog W 0 (fun _ => true) true n 28 [c0] = some y0 := hff 0 _ rfl
    have h1 : DataW.trod enc Tryd.prog W 0 (fun _ => true) true n 28 [c1] = some y1 := hff 1 _ rfl
    have h2 : DataW.trod enc Tryd.prog W 0 (fun _ => true) true n 43 [c2, c3, c4, c5, c6, c7, c8, c9, c10, c11, c12, c13, c14, c15, c16, c17] = some y2 := hff 2 _ rfl
    obtain ⟨xs, m, _, _, _, hxl, hxx⟩ := DataW.trod_array Tryd.underlying43 h2
    rw [cells32s] at hxx
    match xs, hxl with
    | [x0, x1, x2, x3, x4, x5, x6, x7, x8, x9, x10, x11, x12, x13, x14, x15], _ =>
      have g0 : DataW.trod enc Tryd.prog W 0 (fun _ => true) true m 28 [c2] = some x0 := hxx 0 (by omega)
      have g1 : DataW.trod enc Tryd.prog W 0 (fun _ => true) true m 28 [c3] = some x1 := hxx 1 (by omega)
      have g2 : DataW.trod enc Tryd.prog W 0 (fun _ => true) true m 28 [c4] = some x2 := hxx 2 (by omega)
      have g3 : DataW.trod enc Tryd.prog W 0 (fun _ => true) true m 28 [c5] = some x3 := hxx 3 (by omega)
      have g4 : DataW.trod enc Tryd.prog W 0 (fun _ => true) true m 28 [c6] = some x4 := hxx 4 (by omega)
      have g5 : DataW.trod enc Tryd.prog W 0 (fun _ => true) true m 28 [c7] = some x5 := hxx 5 (by omega)
      have g6 : DataW.trod enc Tryd.prog W 0 (fun _ => true) true m 28 [c8] = some x6 := hxx 6 (by omega)
      have g7 : DataW.trod enc Tryd.prog W 0 (fun _ => true) true m 28 [c9] = some x7 := hxx 7 (by omega)
      have g8 : DataW.trod enc Tryd.prog W 0 (fun _ => true) true m 28 [c10] = some x8 := hxx 8 (by omega)
      have g9 : DataW.trod enc Tryd.prog W 0 (fun _ => true) true m 28 [c11] = some x9 := hxx 9 (by omega)
      have g10 : DataW.trod enc Tryd.prog W 0 (fun _ => true) true m 28 [c12] = some x10 := hxx 10 (by omega)
      have g11 : DataW.trod enc Tryd.prog W 0 (fun _ => true) true m 28 [c13] = some x11 := hxx 11 (by omega)
      have g12 : DataW.trod enc Tryd.prog W 0 (fun _ => true) true m 28 [c14] = some x12 := hxx 12 (by omega)
      have g13 : DataW.trod enc Tryd.prog W 0 (fun _ => true) true m 28 [c15] = some x13 := hxx 13 (by omega)
      have g14 : DataW.trod enc Tryd.prog W 0 (fun _ => true) true m 28 [c16] = some x14 := hxx 14 (by omega)
      have g15 : DataW.trod enc Tryd.prog W 0 (fun _ => true) true m 28 [c17] = some x15 := hxx 15 (by omega)
      obtain ⟨k0, rfl, b0⟩ := one_u32 h0
      obtain ⟨k1, rfl, b1⟩ := one_u32 h1
      obtain ⟨k2, rfl, b2⟩ := one_u32 g0
      obtain ⟨k3, rfl, b3⟩ := one_u32 g1
      obtain ⟨k4, rfl, b4⟩ := one_u32 g2
      obtain ⟨k5, rfl, b5⟩ := one_u32 g3
      obtain ⟨k6, rfl, b6⟩ := one_u32 g4
      obtain ⟨k7, rfl, b7⟩ := one_u32 g5
      obtain ⟨k8, rfl, b8⟩ := one_u32 g6
      obtain ⟨k9, rfl, b9⟩ := one_u32 g7
      obtain ⟨k10, rfl, b10⟩ := one_u32 g8
      obtain ⟨k11, rfl, b11⟩ := one_u32 g9
      obtain ⟨k12, rfl, b12⟩ := one_u32 g10
      obtain ⟨k13, rfl, b13⟩ := one_u32 g11
      obtain ⟨k14, rfl, b14⟩ := one_u32 g12
      obtain ⟨k15, rfl, b15⟩ := one_u32 g13
      obtain ⟨k16, rfl, b16⟩ := one_u32 g14
      obtain ⟨k17, rfl, b17⟩ := one_u32 g15
      refine ⟨⟨k0, k1, [k2, k3, k4, k5, k6, k7, k8, k9, k10, k11, k12, k13, k14, k15, k16, k17]⟩, (mAt_list k2 k3 k4 k5 k6 k7 k8 k9 k10 k11 k12 k13 k14 k15 k16 k17 k0 k1).symm, by show k0 ≤ 4294967295; omega, by show k1 ≤ 4294967295; omega, rfl, ?_⟩
      intro z hz
      simp only [List.mem_cons, List.not_mem_nil, or_false] at hz
      omega
end
end Go.Proofs.YtmbgcfikpndamaaDoor
