/-
  What the laws' texts use, joined.
-/
import Derived.Test.YtlgoeegpgcilbaaProg
import Derived.WalkKit
import Derived.Laws.BitsAllLaws
import Derived.ProofKit
import Derived.Lib.Hide
import Derived.Laws.Rows
import Derived.Laws.ResultCell
import Derived.Laws.Entries
import Derived.Handy
import Derived.OwnWalk
import Derived.Laws.OwnMore
import Derived.Deep.Draws
import Derived.Laws.IdiomStrings
import Derived.Lib.BufferRead
import Derived.Maps.OwnSet
import Derived.Laws.Tables
import Derived.Deep.DeepCutAuto
import Derived.DeepKeys
import Derived.Laws.StructEq
import Derived.Deep.RegionHeld3
import Derived.BigRegion
import Derived.BigQuiet
import Derived.Test.YtlgoeegpgcilbaaRows
import Derived.OpenShut
import Derived.Carry
import Derived.Deep.DeepHandedRow
import Derived.Lib.SmallJoins
import Derived.Deep.OwnRows
import Derived.Lib.QuietBelow
import Derived.RowKit
import Derived.Deep.QuietTactic
import Derived.Deep.CutBlock
import Derived.Stop.Joined
import Derived.Shelf.Sort.Plain
import Derived.Shelf.Slices.Turned
import Derived.Shelf.Slices.Equal
import Derived.Ground.Names2Prog
import Derived.Shelf.Slices.CompactI
import Derived.Shelf.Slices.In.SortNone
import Derived.Lib.AppendZerosOnto
import Derived.Lib.SliceRun
import Derived.Lib.OwnBridge
import Derived.Sort.OwnSortedInts
import Derived.Deep.MidRow
import Derived.Test.YtlgoeegpgcilbaaPk1
import Derived.Test.YtlgoeegpgcilbaaPk2
/-
  Package hurdleref15: Do, of any two forms.
-/
namespace Go.Proofs.Ytlgoeegpgcilbaa
open Go.ChangeShapes Go.WideShapes Go.ChangeAt Go.RowKit
set_option maxRecDepth 100000

/-- Whole numbers that lie in a world, not in block g. -/
def NRowN (g : Nat) (k : IntKind) (w : World) (u : Value) (l : List Int) : Prop :=
  ∃ ao cap, u = .slice ao l.length cap ∧ (l = [] ∨ ∃ b off, ao = some ⟨b, off, none⟩ ∧ b < w.heap.size ∧ b ≠ g ∧ ∀ i (h : i < l.length), w.cell? ⟨b, off + i, none⟩ = some (.int k l[i]))
theorem NRowN.row {g : Nat} {k : IntKind} {w : World} {u : Value} {l : List Int} (h : NRowN g k w u l) : NRow k w u l := by
  obtain ⟨ao, cap, rfl, h⟩ := h
  exact ⟨ao, cap, rfl, h.imp id fun ⟨b, off, e, hl, _, hc⟩ => ⟨b, off, e, hl, hc⟩⟩
theorem NRowN.below {g : Nat} {k : IntKind} {w w' : World} {u : Value} {l : List Int} (h : NRowN g k w u l) (hb : Below w.heap.size w w') : NRowN g k w' u l := by
  obtain ⟨ao, cap, rfl, h⟩ := h
  refine ⟨ao, cap, rfl, h.imp id ?_⟩
  rintro ⟨b, off, rfl, hl, hn, hc⟩
  exact ⟨b, off, rfl, Nat.lt_of_lt_of_le hl hb.size, hn, fun i hi => (hb.cell (p := ⟨b, _, none⟩) hl).trans (hc i hi)⟩
theorem NRowN.put {g : Nat} {k : IntKind} {w w' : World} {u : Value} {l : List Int} {o : Obj} (h : NRowN g k w u l) (hp : RowPut w w' g o) : NRowN g k w' u l := by
  obtain ⟨ao, cap, rfl, h⟩ := h
  refine ⟨ao, cap, rfl, h.imp id ?_⟩
  rintro ⟨b, off, rfl, hl, hn, hc⟩
  exact ⟨b, off, rfl, by rw [hp.size]; exact hl, hn, fun i hi => (rp_cell hp (p := ⟨b, _, none⟩) hn).trans (hc i hi)⟩
theorem NRowN.old {g : Nat} {k : IntKind} {w : World} {u : Value} {l : List Int} (h : NRow k w u l) (hg : w.heap.size ≤ g) : NRowN g k w u l := by
  obtain ⟨ao, cap, rfl, h⟩ := h
  exact ⟨ao, cap, rfl, h.imp id fun ⟨b, off, e, hl, hc⟩ => ⟨b, off, e, hl, by omega, hc⟩⟩
theorem results_gf2 {fn : Func} {p q : Tmp} (h : fn.results = #[.cell p 37, .tmp q]) {tmps : Array Value} {w : World} {g : Nat} {u1 u2 : Value} {b : Bool}
    (hp : tmps.getD p undef = .pointer (some ⟨g, 0, none⟩)) (hq : tmps.getD q undef = .bool b) (hG : w.heap[g]? = some (gfB u1 u2)) : (results fn tmps).run Try.prog w = .ok (.tuple #[.agg #[u1, u2], .bool b]) w := by
  have hp' : tmps[p]?.getD undef = .pointer (some ⟨g, 0, none⟩) := by simpa using hp
  have hq' : tmps[q]?.getD undef = .bool b := by simpa using hq
  simp [results, h, hp', hq', asAddr, run_loadVar_row w g 37 37 #[u1, u2] (0, 0) _ hG Try.underlying37 rfl infoG]
/-- A row of whole numbers stays where a form's variable is written. -/
theorem NRow.put {g n1 c1 n2 c2 : Nat} {a1 a2 : Option Addr} {k : IntKind} {w w' : World} {u : Value} {l : List Int} {o : Obj} (h : NRow k w u l) (hG : w.heap[g]? = some (gfB (.slice a1 n1 c1) (.slice a2 n2 c2))) (hp : RowPut w w' g o) : NRow k w' u l := by
  obtain ⟨ao, cap, rfl, h⟩ := h
  rcases h with rfl | ⟨b, off, rfl, hl, hc⟩
  · exact ⟨ao, cap, rfl, .inl rfl⟩
  · rcases Nat.eq_zero_or_pos l.length with h0 | h0
    · exact ⟨_, cap, rfl, .inl (List.eq_nil_of_length_eq_zero h0)⟩
    · have hn : b ≠ g := by
        intro e
        subst e
        have h1 := hc 0 h0
        rw [cell_in hG, Nat.add_zero] at h1
        match off, h1 with
        | 0, h1 => simp at h1
        | 1, h1 => simp at h1
        | (q + 2), h1 => simp at h1
      exact ⟨_, cap, rfl, .inr ⟨b, off, rfl, by rw [hp.size]; exact hl, fun i hi => (rp_cell hp (p := ⟨b, _, none⟩) hn).trans (hc i hi)⟩⟩
/-- What Do answers. -/
def DoP (kind : Int) (l : List Int) (t : List Nat) (m : List Int) (s : List Nat) (w' : World) (v' : Value) (b : Bool) : Prop :=
  (¬ (Bf.isK kind ∧ ∃ f g : Bf.BF, Bf.Valid f ∧ Bf.Valid g ∧ l = natsI f.vs ∧ t = f.tb ∧ m = natsI g.vs ∧ s = g.tb ∧ (Bf.bothF f.vs g.vs).length ≤ 4) ∧ GF w' v' [] [] ∧ b = false) ∨
  (b = true ∧ Bf.isK kind ∧ ∃ f g : Bf.BF, Bf.Valid f ∧ Bf.Valid g ∧ l = natsI f.vs ∧ t = f.tb ∧ m = natsI g.vs ∧ s = g.tb ∧ (Bf.bothF f.vs g.vs).length ≤ 4 ∧ GF w' v' (natsI (Bf.doF kind f g).vs) (Bf.doF kind f g).tb)
def DoEnd (kind : Int) (l : List Int) (t : List Nat) (m : List Int) (s : List Nat) (w : World) (e : Ending) (w' : World) : Prop := ∃ v' b, e = .returned (.tuple #[v', .bool b]) ∧ Below w.heap.size w w' ∧ DoP kind l t m s w' v' b
theorem doEnd {kind : Int} {l m : List Int} {t s : List Nat} {w w' : World} {v' : Value} {b : Bool} (hb : Below w.heap.size w w') (h : DoP kind l t m s w' v' b) : DoEnd kind l t m s w (.returned (.tuple #[v', .bool b])) w' := ⟨v', b, rfl, hb, h⟩
theorem do_val {kind : Int} (hk : Bf.isK kind) {a b : Nat} (ha : a < 4294967296) (hb : b < 4294967296) : Wd.doV kind a b = ((Bf.opK kind a b : Nat) : Int) := by
  rcases hk with rfl | rfl | rfl
  · rw [Wd.doV_or, u32_or_nat a b ha hb]; rfl
  · rw [Wd.doV_and, u32_and_nat a b ha hb]; rfl
  · rw [Wd.doV_xor, u32_xor_nat a b ha hb]; rfl
set_option maxHeartbeats 16000000 in
theorem gdo_any (kind : Int) (v1 v2 : Value) (l m : List Int) (t s : List Nat) (w : World) (h1 : GF w v1 l t) (h2 : GF w v2 m s) (htw : ∀ n ∈ t, n < 4294967296) (hsw : ∀ n ∈ s, n < 4294967296) :
    Calls Try.prog 22 #[.int .i64 kind, v1, v2] w (DoEnd kind l t m s w) := by
  have H1 := Lib.hid h1
  have H2 := Lib.hid h2
  obtain ⟨s1, s2, rfl, hs1, hs2⟩ := h1
  obtain ⟨s3, s4, rfl, hs3, hs4⟩ := h2
  obtain ⟨ao1, cap1, rfl⟩ := hs1.shape
  obtain ⟨ao2, cap2, rfl⟩ := hs2.shape
  obtain ⟨ao3, cap3, rfl⟩ := hs3.shape
  obtain ⟨ao4, cap4, rfl⟩ := hs4.shape
  clear hs1 hs2 hs3 hs4
  obtain ⟨W, hW, x0, x1, x2, hB⟩ := box3 w (gfB (.slice ao1 l.length cap1) (.slice ao2 (natsI t).length cap2)) (gfB (.slice ao3 m.length cap3) (.slice ao4 (natsI s).length cap4)) (gfB (.slice none 0 0) (.slice none 0 0))
  have x2 : W.heap[w.heap.size + 1 + 1]? = some (gfB (.slice none 0 0) (.slice none 0 0)) := x2
  have HX1 := Lib.hid x0
  have HX2 := Lib.hid x1
  have HR := Lib.hid x2
  have HB := Lib.hid hB
  have hsz : w.heap.size + 1 + 1 < W.heap.size := lt_of_block x2
  have y1 := (cell_in x0 0).trans rfl
  have y2 := (cell_in x0 1).trans rfl
  clear x0 x1 x2 hB
  obtain ⟨R1, hR1⟩ : ∃ R1, R1 = rightB l t := ⟨_, rfl⟩
  obtain ⟨R2, hR2⟩ : ∃ R2, R2 = rightB m s := ⟨_, rfl⟩
  obtain ⟨Kb, hKb⟩ : ∃ Kb, Kb = decide (kind = 68 ∨ kind = 84 ∨ kind = 164) := ⟨_, rfl⟩
  obtain ⟨Rv, hRv⟩ : ∃ Rv, Rv = !(Kb && R1 && R2) := ⟨_, rfl⟩
  have HR1 := Lib.hid hR1
  have HR2 := Lib.hid hR2
  have HKb := Lib.hid hKb
  have HRv := Lib.hid hRv
  have HFin : Hid (Rv = true → ¬ (Bf.isK kind ∧ ∃ f g : Bf.BF, Bf.Valid f ∧ Bf.Valid g ∧ l = natsI f.vs ∧ t = f.tb ∧ m = natsI g.vs ∧ s = g.tb ∧ (Bf.bothF f.vs g.vs).length ≤ 4)) := Lib.hid (by
    rintro hr ⟨hk, f, g, hf, hg, rfl, rfl, rfl, rfl, _⟩
    have e1 : R1 = true := hR1.trans (rightB_yes ((right_iff htw).2 ⟨f, hf, rfl, rfl⟩))
    have e2 : R2 = true := hR2.trans (rightB_yes ((right_iff hsw).2 ⟨g, hg, rfl, rfl⟩))
    have e3 : Kb = true := hKb.trans (decide_eq_true hk)
    rw [hRv, e1, e2, e3] at hr
    exact absurd hr (by decide))
  have HYes : Hid (Rv = false → Bf.isK kind ∧ ∃ f g : Bf.BF, Bf.Valid f ∧ Bf.Valid g ∧ l = natsI f.vs ∧ t = f.tb ∧ m = natsI g.vs ∧ s = g.tb) := Lib.hid (by
    intro hr
    rw [hRv] at hr
    have e : (Kb && R1 && R2) = true := by simpa using hr
    simp only [Bool.and_eq_true] at e
    obtain ⟨⟨e3, e1⟩, e2⟩ := e
    rw [hKb, decide_eq_true_iff] at e3
    have hr1 : RightP l t := Classical.byContradiction fun h => by have := rightB_no h; rw [← hR1, e1] at this; exact absurd this (by decide)
    have hr2 : RightP m s := Classical.byContradiction fun h => by have := rightB_no h; rw [← hR2, e2] at this; exact absurd this (by decide)
    obtain ⟨f, hf, e4, e5⟩ := (right_iff htw).1 hr1
    obtain ⟨g, hg, e6, e7⟩ := (right_iff hsw).1 hr2
    exact ⟨e3, f, g, hf, hg, e4, e5, e6, e7⟩)
  go_enter Try.func22, Try.ntmps22
  go_upto_region 1 with fail
  rw [← hW]
  clear hW hR1 hR2 hKb hRv
  go_cut [36] (fun s36 wx => s36 = .bool Rv ∧ Below W.heap.size W wx)
  case first =>
    clear HFin HYes
    by_cases hk : kind = 68 ∨ kind = 84 ∨ kind = 164
    · have HKt : Hid (Kb = true) := Lib.hid (HKb.out.trans (decide_eq_true hk))
      clear HKb
      rcases hk with rfl | rfl | rfl
      all_goals
        go_wp2_with fail
        refine (gright_any _ l t _ (H1.out.below HB.out)).mono ?_
        rintro e w1 ⟨rfl, hb1⟩
        rw [← HR1.out]
        have HX21 := Lib.hid (kb hb1 HX2.out)
        have HB1 := Lib.hid (below2 HB.out hb1)
        have HW1 := Lib.hid hb1
        clear hb1 y1 y2
        have y3 := (cell_in HX21.out 0).trans rfl
        have y4 := (cell_in HX21.out 1).trans rfl
        cases R1
        · go_wp2_with fail
          go_meet
          exact ⟨by rw [HRv.out, HKt.out]; rfl, HW1.out⟩
        · go_wp2_with fail
          refine (gright_any _ m s _ (H2.out.below HB1.out)).mono ?_
          rintro e w2 ⟨rfl, hb2⟩
          rw [← HR2.out]
          have HW2 := Lib.hid (below2 HW1.out hb2)
          clear hb2 y3 y4
          cases R2
          · go_wp2_with fail
            go_meet
            exact ⟨by rw [HRv.out, HKt.out]; rfl, HW2.out⟩
          · go_wp2_with fail
            go_meet
            exact ⟨by rw [HRv.out, HKt.out]; rfl, HW2.out⟩
    · have HKf : Hid (Kb = false) := Lib.hid (HKb.out.trans (decide_eq_false hk))
      have e1 : (kind == 68) = false := by simp; omega
      have e2 : (kind == 84) = false := by simp; omega
      have e3 : (kind == 164) = false := by simp; omega
      have n1 : ¬ kind = 68 := fun h => hk (.inl h)
      have n2 : ¬ kind = 84 := fun h => hk (.inr (.inl h))
      have n3 : ¬ kind = 164 := fun h => hk (.inr (.inr h))
      clear HKb hk
      go_wp2_with fail
      go_meet
      exact ⟨by rw [HRv.out, HKf.out]; rfl, Below.refl _ _⟩
  case rest =>
    obtain ⟨rfl, hbc⟩ := hcut
    have HX11 := Lib.hid (kb hbc HX1.out)
    have HX21 := Lib.hid (kb hbc HX2.out)
    have HR11 := Lib.hid (kb hbc HR.out)
    have HB1 := Lib.hid (below2 HB.out hbc)
    have hszc : w.heap.size + 1 + 1 < wc.heap.size := lt_of_block HR11.out
    clear hbc HX1 HX2 HR HB y1 y2 HRv HKb HR1 HR2 hsz
    cases Rv
    · obtain ⟨hk, f, g, hf, hg, rfl, rfl, rfl, rfl⟩ := HYes.out (by trivial)
      have HK := Lib.hid hk
      have HFG := Lib.hid (And.intro hf hg)
      have HUs := Lib.hid (fun j (hj : j < (Bf.bothF f.vs g.vs).length) => (Bf.both_mem.1 (Bf.mem_mAt hj)).1)
      clear HYes HFin hk hf hg
      have y1 := (cell_in HX11.out 0).trans rfl
      have y2 := (cell_in HX11.out 1).trans rfl
      have y3 := (cell_in HX21.out 0).trans rfl
      have y4 := (cell_in HX21.out 1).trans rfl
      go_wp2_with fail
      refine (gboth_any _ _ f.vs g.vs f.tb g.tb _ (H1.out.below HB1.out) (H2.out.below HB1.out) HFG.out.1.most HFG.out.2.most).mono ?_
      rintro e w4 ⟨uU, rfl, hU, hb4⟩
      have HU := Lib.hid hU
      have HX14 := Lib.hid (kb hb4 HX11.out)
      have HX24 := Lib.hid (kb hb4 HX21.out)
      have HR14 := Lib.hid (kb hb4 HR11.out)
      have HB4 := Lib.hid (below2 HB1.out hb4)
      have hs4 := hb4.size
      obtain ⟨aoU, capU, rfl⟩ := hU.shape
      rw [natsI_len] at HU ⊢
      clear hb4 hU y1 y2 y3 y4
      by_cases h4 : (Bf.bothF f.vs g.vs).length ≤ 4
      · have HYes : Hid (∀ (w' : World) (v' : Value), GF w' v' (natsI (Bf.doF kind f g).vs) (Bf.doF kind f g).tb → DoP kind (natsI f.vs) f.tb (natsI g.vs) g.tb w' v' true) := Lib.hid (fun w' v' hh => .inr ⟨rfl, HK.out, f, g, HFG.out.1, HFG.out.2, rfl, rfl, rfl, rfl, h4, hh⟩)
        have HWF := Lib.hid (Bf.wide_fine (k := kind) h4)
        obtain ⟨TW, hTW⟩ : ∃ TW : Nat → Nat, TW = fun n => Bf.opK kind (Bf.valF f (Bf.asgF (Bf.bothF f.vs g.vs) n)) (Bf.valF g (Bf.asgF (Bf.bothF f.vs g.vs) n)) := ⟨_, rfl⟩
        have HTW := Lib.hid (fun n => congrFun hTW n)
        have HWt : Hid ((Bf.wideF kind f g).tb = segA TW (2 ^ (Bf.bothF f.vs g.vs).length)) := Lib.hid (by rw [hTW]; rfl)
        have HWv : Hid ((Bf.wideF kind f g).vs = Bf.bothF f.vs g.vs) := Lib.hid rfl
        have HWd : Hid (Bf.shrinkF (Bf.wideF kind f g) (Bf.bothF f.vs g.vs).length = Bf.doF kind f g) := Lib.hid rfl
        clear hTW
        obtain ⟨U, hUd⟩ : ∃ U, U = Bf.bothF f.vs g.vs := ⟨_, rfl⟩
        rw [← hUd] at h4 HUs HU HTW HWt HWv HWd ⊢
        clear hUd
        obtain ⟨i1, hi1, ha1, hb1, hc1⟩ := info_parts infoN
        have HSz := Lib.hid (gsize_any U.length (by omega))
        have lP : 2 ^ U.length ≤ 16 := Nat.pow_le_pow_right (n := 2) (by omega) (show U.length ≤ 4 from h4)
        obtain ⟨P, hP⟩ : ∃ P, P = 2 ^ U.length := ⟨_, rfl⟩
        rw [← hP] at HSz lP HWt
        clear hP
        have HO5 := Lib.hid (heap_alloc_new w4 (gfB (.slice aoU U.length capU) (.slice none 0 0)))
        have HB5 := Lib.hid (ba (gfB (.slice aoU U.length capU) (.slice none 0 0)) (Below.refl w4.heap.size w4))
        have hs5 : w4.heap.size + 1 ≤ (w4.alloc (gfB (.slice aoU U.length capU) (.slice none 0 0))).heap.size := by rw [size_alloc]; omega
        go_upto_region 7 with fail
        generalize w4.alloc (gfB (.slice aoU U.length capU) (.slice none 0 0)) = W5 at *
        go_wp2_with fail
        go_loopw [10] (fun i wr => ∃ (n : Nat) (u : Value), n ≤ P ∧ i = .int .i64 n ∧ wr.heap[w4.heap.size]? = some (gfB (.slice aoU U.length capU) u) ∧ wr.ownsRow (w4.heap.size + 1) 26 1 u n (ucells (segA TW n)) ∧ Below w4.heap.size w4 wr ∧ w4.heap.size + 1 ≤ wr.heap.size) (fun i _ => P - (intOf i).toNat)
        case atStart => exact ⟨0, _, by omega, rfl, HO5.out, by simpa [segA, ucells] using World.ownsRow_nil _ _ _ _, HB5.out, hs5⟩
        case round =>
          clear HO5 HB5 hs5
          obtain ⟨n, u, hn, rfl, g1, g2, hBr, hsr⟩ := hrel
          have HO := Lib.hid g1
          have HOw := Lib.hid g2
          have HBr := Lib.hid hBr
          clear g1 g2 hBr
          by_cases hlt : n < P
          · go_wp2_with fail
            refine (HSz.out _).mono ?_
            rintro e w5 ⟨rfl, hw5⟩
            rw [hw5]
            clear hw5 w5
            go_wp2_with fail
            refine (gassign_any _ U n _ (HU.out.below HBr.out) (by omega) HUs.out (by omega)).mono ?_
            rintro e w6 ⟨u6, rfl, hu6, hb6⟩
            have HBw := Lib.hid (below2 HBr.out hb6)
            have HX16 := Lib.hid (kb HBw.out HX14.out)
            have HX26 := Lib.hid (kb HBw.out HX24.out)
            have HBa := Lib.hid (below2 HB4.out HBw.out)
            have HU6 := Lib.hid hu6
            have HO6 := Lib.hid (kb hb6 HO.out)
            have HOw6 := Lib.hid (own_below HOw.out hb6)
            have hs6 := hb6.size
            have y1 := cell_regrown (cell_in HX16.out 0)
            have y2 := cell_regrown (cell_in HX16.out 1)
            have y3 := cell_regrown (cell_in HX26.out 0)
            have y4 := cell_regrown (cell_in HX26.out 1)
            have c1 : ∀ d os, Calls Try.prog 19 #[.agg #[.slice ao1 (natsI f.vs).length cap1, .slice ao2 (natsI f.tb).length cap2], u6] (Sort.grow (redrawn w6 d) os) fun e w'' => e = .returned (.int .u32 (Bf.valF f (Bf.asgF U n) : Nat)) ∧ ∃ p : Regrown, w'' = Sort.grow (redrawn w6 p.d) p.os := fun d os => Calls.regrown_of (geval_any _ _ f (Bf.asgF U n) _ (H1.out.below (HBa.out.trans ((below_regrown w6 d os).mono HBa.out.size))) (HU6.out.below (below_regrown w6 d os)) HFG.out.1.toFine (fun i _ => asgF_lt U n i))
            have c2 : ∀ d os, Calls Try.prog 19 #[.agg #[.slice ao3 (natsI g.vs).length cap3, .slice ao4 (natsI g.tb).length cap4], u6] (Sort.grow (redrawn w6 d) os) fun e w'' => e = .returned (.int .u32 (Bf.valF g (Bf.asgF U n) : Nat)) ∧ ∃ p : Regrown, w'' = Sort.grow (redrawn w6 p.d) p.os := fun d os => Calls.regrown_of (geval_any _ _ g (Bf.asgF U n) _ (H2.out.below (HBa.out.trans ((below_regrown w6 d os).mono HBa.out.size))) (HU6.out.below (below_regrown w6 d os)) HFG.out.2.toFine (fun i _ => asgF_lt U n i))
            have lE := Bf.val_lt f (Bf.asgF U n)
            have lG := Bf.val_lt g (Bf.asgF U n)
            have HTn := Lib.hid (HTW.out n)
            obtain ⟨E, hE⟩ : ∃ E, E = Bf.valF f (Bf.asgF U n) := ⟨_, rfl⟩
            obtain ⟨G, hG⟩ : ∃ G, G = Bf.valF g (Bf.asgF U n) := ⟨_, rfl⟩
            rw [← hE] at c1 lE HTn
            rw [← hG] at c2 lG HTn
            have c3 : ∀ d os, Calls Try.prog 42 #[.int .i64 kind, .int .u32 (E : Int), .int .u32 (G : Int)] (Sort.grow (redrawn w6 d) os) fun e w'' => e = .returned (.tuple #[.int .u32 ((TW n : Nat) : Int), .bool (Wd.doB kind (G : Int))]) ∧ ∃ p : Regrown, w'' = Sort.grow (redrawn w6 p.d) p.os := fun d os => Calls.regrown_of ((refDo_any kind E G _ (by omega) (by omega) (by omega) (by omega)).mono fun e w' hh => ⟨by rw [hh.1, do_val HK.out lE lG, HTn.out], hh.2⟩)
            generalize Wd.doB kind (G : Int) = Db at *
            obtain ⟨X, hX⟩ : ∃ X, X = TW n := ⟨_, rfl⟩
            rw [← hX] at c3
            have HX := Lib.hid hX
            clear hE hG hX hu6 hb6
            go_wp2_with fail
            refine wp_region_quiet_below (by kernel_rfl) (by kernel_rfl) ?_
            repeat (quiet_step (first | with_reducible exact c1 _ _ | with_reducible exact c2 _ _ | with_reducible exact c3 _ _))
            refine wpQuiet_nil ?_
            intro _ hw'
            obtain ⟨⟨dq, osq⟩, hw''⟩ := hw'
            subst hw''
            have hbq := below_regrown w6 dq osq
            have HBq := Lib.hid (below2 HBw.out hbq)
            have HOq := Lib.hid (kb hbq HO6.out)
            have HOwq := Lib.hid (own_below HOw6.out hbq)
            have hsq : w4.heap.size + 1 ≤ (Sort.grow (redrawn w6 dq) osq).heap.size := Nat.le_trans (by omega) hbq.size
            clear hbq c1 c2 c3 y1 y2 y3 y4 HTn HX16 HX26 HO6 HOw6 HBw HBa
            generalize Sort.grow (redrawn w6 dq) osq = Wq at *
            have xO := (cell_in HOq.out 1).trans rfl
            go_wp2_with (at_builtin; refine wpList_append_own _ rfl _ _ 23 rfl (w4.heap.size + 1) 26 i1 (.int .u32 0) 1 4 Try.underlying23 hi1 ha1 hb1 hc1 rfl (by decide) _ _ _ rfl (HOwq.out.alloc _) ⟨Wq.heap.size, 0, none⟩ 1 1 [.int .u32 (X : Int)] rfl rfl (new_at Wq #[.int .u32 (X : Int)] 26) (by simp [Value.oneCell']) (by unfold maxLen; omega) (by omega) (by rw [size_alloc]; omega) ?_)
            intro v3 w3 hown3 hgrow3 _
            have hB3 := grown_below ((Below.refl (w4.heap.size + 1) Wq).alloc hsq (.cells #[.int .u32 (X : Int)] 26)) (HOwq.out.alloc _) hgrow3 (by rw [size_alloc]; omega)
            obtain ⟨ao3', cap3', hv3⟩ := own_shape hown3
            subst hv3
            have HO3 := Lib.hid ((hB3.block _ (Nat.lt_succ_self _)).trans HOq.out)
            have aO := (cell_in HO3.out 1).trans rfl
            have fO := free_in HO3.out 1
            have hp := g1_put (v := .slice ao3' (n + 1) cap3') HO3.out
            have hOn := ownsRow_setCell_below (a := ⟨w4.heap.size, 1, none⟩) hown3 (Nat.lt_succ_self _) (.slice ao3' (n + 1) cap3')
            have HP := Lib.hid hp
            have HOn : Hid ((w3.setCell ⟨w4.heap.size, 1, none⟩ (.slice ao3' (n + 1) cap3')).ownsRow (w4.heap.size + 1) 26 1 (.slice ao3' (n + 1) cap3') (n + 1) (ucells (segA TW (n + 1)))) := Lib.hid (by
              rw [segA_succ, ucells_app, ← HX.out]
              exact hOn)
            have HB3 := Lib.hid (hp.below (HBq.out.trans (hB3.mono (by omega))) (Nat.le_refl _))
            have hs3 : w4.heap.size + 1 ≤ (w3.setCell ⟨w4.heap.size, 1, none⟩ (.slice ao3' (n + 1) cap3')).heap.size := by rw [hp.size]; exact Nat.le_trans hsq hB3.size
            clear hown3 hgrow3 hB3 hp hOn xO HOq HOwq HBq
            go_wp2_with fail
            go_roundw
            case rel => exact ⟨n + 1, _, by omega, by go_num, HP.out.row, HOn.out, HB3.out, hs3⟩
            case measure => simp [intOf]; omega
          · obtain rfl : n = P := by omega
            have HWE : Hid (Bf.wideF kind f g = ⟨U, segA TW n⟩) := Lib.hid (by
              show (⟨(Bf.wideF kind f g).vs, (Bf.wideF kind f g).tb⟩ : Bf.BF) = _
              rw [HWv.out, HWt.out])
            have HF0 : Hid (Bf.Fine ⟨U, segA TW n⟩) := Lib.hid (HWE.out ▸ HWF.out)
            have HD0 : Hid (Bf.shrinkF ⟨U, segA TW n⟩ U.length = Bf.doF kind f g) := Lib.hid (by rw [← HWE.out]; exact HWd.out)
            have hT0 := (NRowB.ownU HOw.out (segA_len TW n).symm).row
            have hV0 := HU.out.below HBr.out
            obtain ⟨aT, capT, hu⟩ := own_shape HOw.out
            subst hu
            have HT0 := Lib.hid hT0
            have HV0 := Lib.hid hV0
            have lU := segA_len TW n
            clear hT0 hV0 HWE HWF HWd HWt HWv HOw HTW
            go_wp2_with fail
            refine (HSz.out _).mono ?_
            rintro e w5 ⟨rfl, hw5⟩
            rw [hw5]
            clear hw5 w5
            go_wp2_with fail
            go_loopw [14] (fun j wx => ∃ (jn : Nat) (h : Bf.BF) (a1 a2 : Option Addr) (c1 c2 : Nat), Bf.Fine h ∧ jn ≤ h.vs.length ∧ Bf.shrinkF h jn = Bf.doF kind f g ∧ j = .int .i64 ((jn : Int) - 1) ∧ wx.heap[w4.heap.size]? = some (gfB (.slice a1 h.vs.length c1) (.slice a2 h.tb.length c2)) ∧ NRow .i64 wx (.slice a1 h.vs.length c1) (natsI h.vs) ∧ NRow .u32 wx (.slice a2 h.tb.length c2) (natsI h.tb) ∧ Below w4.heap.size w4 wx ∧ w4.heap.size + 1 ≤ wx.heap.size) (fun j _ => (intOf j + 1).toNat)
            case atStart => exact ⟨U.length, ⟨U, segA TW n⟩, aoU, aT, capU, capT, HF0.out, Nat.le_refl _, HD0.out, rfl, by rw [lU]; exact HO.out, HV0.out, by rw [lU]; exact HT0.out, HBr.out, hsr⟩
            case round =>
              clear HO HBr HF0 HD0 HT0 HV0 hsr
              obtain ⟨jn, h, a1, a2, c1, c2, hF, hjl, hsh, rfl, g1, g2, g3, hBx, hsx⟩ := hrel
              have HF := Lib.hid hF
              have HSh := Lib.hid hsh
              have HO := Lib.hid g1
              have HN1 := Lib.hid g2
              have HN2 := Lib.hid g3
              have HBx := Lib.hid hBx
              have h4v := hF.most
              have HTs := Lib.hid hF.size
              clear hF hsh g1 g2 g3 hBx
              by_cases h0 : jn = 0
              · subst h0
                have HRx := Lib.hid (kb HBx.out HR14.out)
                have HDo : Hid (h = Bf.doF kind f g) := Lib.hid HSh.out
                have hR4 : w.heap.size + 1 + 1 < w4.heap.size := lt_of_block HR14.out
                clear HSh
                go_wp2_with (first | (refine ld_gf HO.out rfl rfl rfl ?_) | (refine st_gf HRx.out rfl rfl rfl rfl rfl rfl rfl ?_; intro W2 hp2; have HP2 := Lib.hid hp2; clear hp2))
                (try simp only [Exit.inBlock, Exit.then])
                refine bodyPost_ret (results_gf2 rfl rfl rfl HP2.out.row) rfl (doEnd (HP2.out.below (below2 HB4.out HBx.out) (by omega)) (HYes.out _ _ ?_))
                rw [← HDo.out]
                exact ⟨_, _, rfl, HN1.out.put HRx.out HP2.out, HN2.out.put HRx.out HP2.out⟩
              · obtain ⟨j1, rfl⟩ : ∃ q, jn = q + 1 := ⟨jn - 1, by omega⟩
                have ej : (((j1 + 1 : Nat) : Int) - 1) = (j1 : Int) := by omega
                rw [ej]
                have hj1 : j1 < h.vs.length := by omega
                have HC2 := Lib.hid (HN2.out.at2 rfl).2
                rw [natsI_len] at HC2
                have HT2 := Lib.hid (fun (i : Nat) (hh : i < h.tb.length) => natsI_iAt hh)
                have HCi : Hid (cntK h.tb j1 (2 ^ h.vs.length) = true ↔ Bf.Counts h j1) := Lib.hid cnt_iff
                rw [← HTs.out] at HCi
                have lT : h.tb.length ≤ 16 := by rw [HTs.out]; exact Nat.pow_le_pow_right (n := 2) (by omega) (show h.vs.length ≤ 4 from h4v)
                have lT0 : 0 < h.tb.length := by rw [HTs.out]; exact Nat.two_pow_pos _
                have HTl : Hid (∀ q, q < h.tb.length → q ^^^ 2 ^ j1 < h.tb.length) := Lib.hid (fun q hq => by rw [HTs.out] at hq ⊢; exact Bf.turn_lt hq hj1)
                obtain ⟨T, hT⟩ : ∃ T, T = h.tb.length := ⟨_, rfl⟩
                have HTe := Lib.hid hT
                rw [← hT] at HC2 HT2 HCi lT lT0 HTl HO
                clear hT ej h0
                go_wp2_with fail
                go_loopw [15, 16] (fun q i wy => ∃ (m : Nat) (B : Bool), m ≤ T ∧ i = .int .i64 m ∧ q = .bool B ∧ B = cntK h.tb j1 m ∧ Below wr.heap.size wr wy) (fun _ i _ => T - (intOf i).toNat)
                case atStart => exact ⟨0, false, by omega, rfl, rfl, rfl, Below.refl _ _⟩
                case round =>
                  obtain ⟨m, B, hm, rfl, rfl, hBv, hBy⟩ := hrel
                  have HBv := Lib.hid hBv
                  have HBy := Lib.hid hBy
                  have HOy := Lib.hid (kb hBy HO.out)
                  have y2 := (cell_in HOy.out 1).trans rfl
                  clear hBv
                  by_cases hlm : m < T
                  · obtain ⟨b2, o2, rfl, hb2, hc2⟩ := HC2.out (by omega)
                    have x4 := (hBy.cell (p := ⟨b2, o2 + m, none⟩) hb2).trans (hc2 m hlm)
                    rw [HT2.out m hlm] at x4
                    have hn2 := HTl.out m hlm
                    have x5 := (hBy.cell (p := ⟨b2, o2 + (m ^^^ 2 ^ j1), none⟩) hb2).trans (hc2 _ hn2)
                    rw [HT2.out _ hn2] at x5
                    have HTu := Lib.hid (gturned_any m j1 (by omega) (by omega))
                    have HN := Lib.hid (cntK_next h.tb j1 m)
                    generalize m ^^^ 2 ^ j1 = N at *
                    generalize mAt h.tb m = Y at *
                    generalize mAt h.tb N = Z at *
                    clear hc2 hBy
                    cases B
                    · go_wp2_with (go_quiet (first | (go_at_call 32; refine Calls.quiet_of_same (HTu.out _))))
                      go_roundw
                      case rel => exact ⟨m + 1, _, by omega, by go_num, rfl, by rw [HN.out, ← HBv.out, Bool.false_or]; apply Bool.eq_iff_iff.2; rw [bne_iff_ne, bne_iff_ne]; omega, bdN HBy.out _⟩
                      case measure => simp [intOf]; omega
                    · go_wp2_with (go_quiet (first | (go_at_call 32; refine Calls.quiet_of_same (HTu.out _))))
                      go_roundw
                      case rel => exact ⟨m + 1, _, by omega, by go_num, rfl, by rw [HN.out, ← HBv.out, Bool.true_or], bdN HBy.out _⟩
                      case measure => simp [intOf]; omega
                  · obtain rfl : m = T := by omega
                    have HNy1 := Lib.hid (HN1.out.below hBy)
                    have HNy2 := Lib.hid (HN2.out.below hBy)
                    have HBz := Lib.hid (HBx.out.trans (hBy.mono (by omega)))
                    have hsz : w4.heap.size + 1 ≤ _ := Nat.le_trans hsx hBy.size
                    clear hBy hsx HC2 HT2 HTl
                    cases B
                    · have HNc : Hid (¬ Bf.Counts h j1) := Lib.hid (fun hc => by
                        have e := HCi.out.2 hc
                        rw [← HBv.out] at e
                        exact absurd e (by decide))
                      have HShd : Hid (Bf.shrinkF (Bf.dropF h j1) j1 = Bf.doF kind f g) := Lib.hid (by
                        have e := HSh.out
                        unfold Bf.shrinkF at e
                        rw [if_neg HNc.out] at e
                        exact e)
                      clear HBv HCi
                      go_wp2_with (refine ld_gf HOy.out rfl rfl rfl ?_)
                      refine (gwithout_any _ h j1 _ ⟨_, _, rfl, HNy1.out, by rw [HTe.out]; exact HNy2.out⟩ HF.out hj1).mono ?_
                      rintro e w9 ⟨s1', s2', rfl, hn1, hn2, hb9⟩
                      obtain ⟨a1', c1', hs1e⟩ := hn1.row.shape
                      obtain ⟨a2', c2', hs2e⟩ := hn2.row.shape
                      rw [natsI_len] at hs1e hs2e
                      subst hs1e
                      subst hs2e
                      have HM1 := Lib.hid hn1.row
                      have HM2 := Lib.hid hn2.row
                      have HO9 := Lib.hid (kb hb9 HOy.out)
                      have HB9 := Lib.hid (HBz.out.trans (hb9.mono (by omega)))
                      have hs9 := Nat.le_trans hsz hb9.size
                      clear hn1 hn2 hb9 y2
                      go_wp2_with (refine st_gf HO9.out rfl rfl rfl rfl rfl rfl rfl ?_; intro W2 hp2; have HP2 := Lib.hid hp2; clear hp2)
                      go_roundw
                      case rel => exact ⟨j1, Bf.dropF h j1, a1', a2', c1', c2', Bf.drop_fine HF.out hj1, by rw [Bf.drop_len hj1]; omega, HShd.out, by go_num, HP2.out.row, HM1.out.put HO9.out HP2.out, HM2.out.put HO9.out HP2.out, HP2.out.below HB9.out (Nat.le_refl _), by rw [HP2.out.size]; exact hs9⟩
                      case measure => simp [intOf]
                    · have HYc : Hid (Bf.Counts h j1) := Lib.hid (HCi.out.1 HBv.out.symm)
                      have HShd : Hid (Bf.shrinkF h j1 = Bf.doF kind f g) := Lib.hid (by
                        have e := HSh.out
                        unfold Bf.shrinkF at e
                        rw [if_pos HYc.out] at e
                        exact e)
                      clear HBv HCi
                      go_wp2_with fail
                      go_roundw
                      case rel => exact ⟨j1, h, a1, a2, c1, c2, HF.out, by omega, HShd.out, by go_num, by rw [← HTe.out]; exact HOy.out, HNy1.out, HNy2.out, HBz.out, hsz⟩
                      case measure => simp [intOf]
      · have HNo : Hid (¬ (Bf.isK kind ∧ ∃ f' g' : Bf.BF, Bf.Valid f' ∧ Bf.Valid g' ∧ natsI f.vs = natsI f'.vs ∧ f.tb = f'.tb ∧ natsI g.vs = natsI g'.vs ∧ g.tb = g'.tb ∧ (Bf.bothF f'.vs g'.vs).length ≤ 4)) := Lib.hid (by
          rintro ⟨_, f', g', _, _, e1, _, e2, _, h⟩
          rw [← natsI_inj e1, ← natsI_inj e2] at h
          exact h4 h)
        have g4 : (4 : Int) < ((Bf.bothF f.vs g.vs).length : Int) := by omega
        clear h4
        go_wp2_with (refine st_gf HR14.out rfl rfl rfl rfl rfl rfl rfl ?_; intro W2 hp2; have HP2 := Lib.hid hp2; clear hp2)
        (try simp only [Exit.inBlock, Exit.then])
        exact bodyPost_ret (results_gf2 rfl rfl rfl HP2.out.row) rfl (doEnd (HP2.out.below HB4.out (by omega)) (.inl ⟨HNo.out, ⟨_, _, rfl, NRow.nil _ _, NRow.nil _ _⟩, rfl⟩))
    · go_wp2_with (refine st_gf HR11.out rfl rfl rfl rfl rfl rfl rfl ?_; intro W2 hp2; have HP2 := Lib.hid hp2; clear hp2)
      (try simp only [Exit.inBlock, Exit.then])
      exact bodyPost_ret (results_gf2 rfl rfl rfl HP2.out.row) rfl (doEnd (HP2.out.below HB1.out (by omega)) (.inl ⟨HFin.out (by trivial), ⟨_, _, rfl, NRow.nil _ _, NRow.nil _ _⟩, rfl⟩))
end Go.Proofs.Ytlgoeegpgcilbaa
/-
  What package bits is to answer, as plain functions of what lies in the rows.
-/
namespace Go.Proofs.Ytlgoeegpgcilbaa
open Go.ChangeShapes Go.WideShapes Go.ChangeAt Go.RowKit
set_option maxRecDepth 100000

/-- Few numbers, which fit. -/
structure Small (l : List Int) (t : List Nat) : Prop where
  vs : l.length ≤ 50
  tb : t.length ≤ 100
  ints : ∀ n ∈ l, -9223372036854775808 ≤ n ∧ n ≤ 9223372036854775807
  words : ∀ n ∈ t, n < 4294967296
theorem words_of {f : Bf.BF} (h : Bf.Fine f) : ∀ n ∈ f.tb, n < 4294967296 := by
  intro n hn
  obtain ⟨j, _, rfl⟩ := Bf.mAt_of_mem hn
  exact h.words j
theorem small_of {f : Bf.BF} (h : Bf.Fine f) : Small (natsI f.vs) f.tb := by
  refine ⟨by rw [natsI_len]; have := h.most; omega, ?_, fun n hn => ?_, words_of h⟩
  · rw [h.size]
    have : 2 ^ f.vs.length ≤ 2 ^ 4 := Nat.pow_le_pow_right (by omega) h.most
    omega
  · obtain ⟨z, hz, rfl⟩ := List.mem_map.1 hn
    obtain ⟨j, hj, rfl⟩ := Bf.mAt_of_mem hz
    have := h.small j hj
    omega
theorem small_nil : Small [] [] := ⟨by simp, by simp, fun _ h => by simp at h, fun _ h => by simp at h⟩
theorem right_back {f : Bf.BF} (h : Bf.Valid f) : RightP (natsI f.vs) f.tb := (right_iff (words_of h.toFine)).2 ⟨f, h, rfl, rfl⟩
/-- The form of two rows. -/
def bfOf (l : List Int) (t : List Nat) : Bf.BF := ⟨l.map Int.toNat, t⟩
theorem of_natsI (f : Bf.BF) : bfOf (natsI f.vs) f.tb = f := by
  have e : ∀ l : List Nat, (natsI l).map Int.toNat = l := fun l => by
    induction l with
    | nil => rfl
    | cons a l ih => simpa [natsI] using ih
  simp [bfOf, e]
theorem gright_of {l : List Int} {t : List Nat} (ht : ∀ n ∈ t, n < 4294967296) (h : RightP l t) : Bf.Valid (bfOf l t) ∧ natsI (bfOf l t).vs = l := by
  obtain ⟨f, hf, rfl, rfl⟩ := (right_iff ht).1 h
  rw [of_natsI]
  exact ⟨hf, rfl⟩
theorem right_no {l : List Int} {t : List Nat} (h : rightB l t = false) : ¬ RightP l t := fun h2 => by rw [rightB_yes h2] at h; exact absurd h (by simp)
theorem right_yes {l : List Int} {t : List Nat} (h : rightB l t = true) : RightP l t := Classical.byContradiction fun h2 => by rw [rightB_no h2] at h; exact absurd h (by simp)
/-- A form's value; 0, if it is not right. -/
noncomputable def evalB (l : List Int) (t : List Nat) (V : Nat → Nat) : Nat := if rightB l t = true then Bf.valF (bfOf l t) V else 0
theorem evalB_lt (l : List Int) (t : List Nat) (V : Nat → Nat) : evalB l t V < 4294967296 := by
  unfold evalB
  split
  · exact Bf.val_lt _ _
  · omega
theorem evalB_of {f : Bf.BF} (h : Bf.Valid f) (V : Nat → Nat) : evalB (natsI f.vs) f.tb V = Bf.valF f V := by
  unfold evalB
  rw [if_pos (rightB_yes (right_back h)), of_natsI]
/-- May it be done? -/
def doOk (k : Int) (l : List Int) (t : List Nat) (m : List Int) (s : List Nat) : Prop := Bf.isK k ∧ RightP l t ∧ RightP m s ∧ (Bf.bothF (bfOf l t).vs (bfOf m s).vs).length ≤ 4
noncomputable def okB (k : Int) (l : List Int) (t : List Nat) (m : List Int) (s : List Nat) : Bool := @decide (doOk k l t m s) (Classical.propDecidable _)
theorem okB_no {k : Int} {l : List Int} {t : List Nat} {m : List Int} {s : List Nat} (h : ¬ doOk k l t m s) : okB k l t m s = false := @decide_eq_false _ (Classical.propDecidable _) h
theorem okB_yes {k : Int} {l : List Int} {t : List Nat} {m : List Int} {s : List Nat} (h : doOk k l t m s) : okB k l t m s = true := @decide_eq_true _ (Classical.propDecidable _) h
theorem ok_yes {k : Int} {l : List Int} {t : List Nat} {m : List Int} {s : List Nat} (h : okB k l t m s = true) : doOk k l t m s := Classical.byContradiction fun h2 => by rw [okB_no h2] at h; exact absurd h (by simp)
/-- What is done; the zero form, if it may not be. -/
noncomputable def doB (k : Int) (l : List Int) (t : List Nat) (m : List Int) (s : List Nat) : Bf.BF := if okB k l t m s = true then Bf.doF k (bfOf l t) (bfOf m s) else ⟨[], []⟩
theorem doB_no {k : Int} {l : List Int} {t : List Nat} {m : List Int} {s : List Nat} (h : okB k l t m s = false) : doB k l t m s = ⟨[], []⟩ := by
  unfold doB
  rw [if_neg (by rw [h]; simp)]
theorem doB_yes {k : Int} {l : List Int} {t : List Nat} {m : List Int} {s : List Nat} (h : okB k l t m s = true) : doB k l t m s = Bf.doF k (bfOf l t) (bfOf m s) := by
  unfold doB
  rw [if_pos h]
section
variable {k : Int} {l m : List Int} {t s : List Nat}
theorem doB_is (ht : ∀ n ∈ t, n < 4294967296) (hs : ∀ n ∈ s, n < 4294967296) (h : okB k l t m s = true) : Bf.Valid (doB k l t m s) ∧ ∀ V, Bf.valF (doB k l t m s) V = Bf.opK k (evalB l t V) (evalB m s V) := by
  obtain ⟨_, h1, h2, h4⟩ := ok_yes h
  have hf := (gright_of ht h1).1
  have hg := (gright_of hs h2).1
  have hd := Bf.do_is (k := k) hf.toFine hg.toFine h4
  rw [doB_yes h]
  refine ⟨hd.1, fun V => ?_⟩
  rw [hd.2, evalB, evalB, if_pos (rightB_yes h1), if_pos (rightB_yes h2)]
theorem doB_small (ht : ∀ n ∈ t, n < 4294967296) (hs : ∀ n ∈ s, n < 4294967296) : Small (natsI (doB k l t m s).vs) (doB k l t m s).tb := by
  cases h : okB k l t m s with
  | false => rw [doB_no h]; exact small_nil
  | true => exact small_of (doB_is ht hs h).1.toFine
theorem do_of (ht : ∀ n ∈ t, n < 4294967296) (hs : ∀ n ∈ s, n < 4294967296) {w' : World} {v' : Value} {b : Bool} (h : DoP k l t m s w' v' b) : b = okB k l t m s ∧ GF w' v' (natsI (doB k l t m s).vs) (doB k l t m s).tb := by
  rcases h with ⟨hn, hG, rfl⟩ | ⟨rfl, hk, f, g, hf, hg, rfl, rfl, rfl, rfl, h4, hG⟩
  · have e : okB k l t m s = false := okB_no fun ⟨hk, h1, h2, h4⟩ => by
      have hf := gright_of ht h1
      have hg := gright_of hs h2
      exact hn ⟨hk, bfOf l t, bfOf m s, hf.1, hg.1, hf.2.symm, rfl, hg.2.symm, rfl, h4⟩
    rw [doB_no e]
    exact ⟨e.symm, hG⟩
  · have e : okB k (natsI f.vs) f.tb (natsI g.vs) g.tb = true := okB_yes ⟨hk, right_back hf, right_back hg, by rw [of_natsI, of_natsI]; exact h4⟩
    rw [doB_yes e, of_natsI, of_natsI]
    exact ⟨e.symm, hG⟩
theorem ok_comm : okB k l t m s = okB k m s l t := by
  apply Bool.eq_iff_iff.2
  have h : ∀ {l m : List Int} {t s : List Nat}, okB k l t m s = true → okB k m s l t = true := fun h => by
    obtain ⟨h0, h1, h2, h4⟩ := ok_yes h
    exact okB_yes ⟨h0, h2, h1, by rw [Bf.both_comm]; exact h4⟩
  exact ⟨h, h⟩
theorem doB_comm (ht : ∀ n ∈ t, n < 4294967296) (hs : ∀ n ∈ s, n < 4294967296) : doB k l t m s = doB k m s l t := by
  cases h : okB k l t m s with
  | false => rw [doB_no h, doB_no (ok_comm.symm.trans h)]
  | true =>
    rw [doB_yes h, doB_yes (ok_comm.symm.trans h)]
    obtain ⟨_, h1, h2, h4⟩ := ok_yes h
    exact Bf.do_comm (gright_of ht h1).1.toFine (gright_of hs h2).1.toFine h4
theorem ok_self (hk : Bf.isK k) (ht : ∀ n ∈ t, n < 4294967296) (h : RightP l t) : okB k l t l t = true :=
  have hv := (gright_of ht h).1
  okB_yes ⟨hk, h, h, by rw [Bf.both_self hv.rise hv.small]; exact hv.most⟩
theorem doB_self (ht : ∀ n ∈ t, n < 4294967296) (h : RightP l t) : doB 68 l t l t = bfOf l t ∧ doB 84 l t l t = bfOf l t ∧ doB 164 l t l t = Bf.constB 0 := by
  have hs := Bf.do_self (gright_of ht h).1
  rw [doB_yes (ok_self (.inl rfl) ht h), doB_yes (ok_self (.inr (.inl rfl)) ht h), doB_yes (ok_self (.inr (.inr rfl)) ht h)]
  exact hs
/-- What Apart answers is one thing. -/
theorem ap_one {A A' : Nat → Nat} {b b' : Bool} (h : ApartP l t m s A b) (h' : ApartP l t m s A' b') : b = b' ∧ ∀ x, x < 34 → A x = A' x := by
  have no : ∀ {f g : Bf.BF}, Bf.Valid f → Bf.Valid g → l = natsI f.vs → t = f.tb → m = natsI g.vs → s = g.tb → ¬ f = g → RightP l t ∧ RightP m s ∧ ¬ (l = m ∧ t = s) := by
    rintro f g hf hg rfl rfl rfl rfl hne
    exact ⟨right_back hf, right_back hg, fun h => hne (same_iff.1 h)⟩
  rcases h with ⟨hn, hA, rfl⟩ | ⟨rfl, f, g, hf, hg, e1, e2, e3, e4, hne, n, hn, hA, hx, hl⟩ <;> rcases h' with ⟨hn', hA', rfl⟩ | ⟨rfl, f', g', hf', hg', e1', e2', e3', e4', hne', n', hn', hA', hx', hl'⟩
  · exact ⟨rfl, fun x hx => by rw [hA x hx, hA' x hx]⟩
  · exact absurd (no hf' hg' e1' e2' e3' e4' hne') hn
  · exact absurd (no hf hg e1 e2 e3 e4 hne) hn'
  · obtain rfl : f = f' := same_iff.1 ⟨e1.symm.trans e1', e2.symm.trans e2'⟩
    obtain rfl : g = g' := same_iff.1 ⟨e3.symm.trans e3', e4.symm.trans e4'⟩
    obtain rfl : n = n' := by
      rcases Nat.lt_trichotomy n n' with h | h | h
      · exact absurd (hl' n h) hx
      · exact h
      · exact absurd (hl n' h) hx'
    exact ⟨rfl, fun x hx => by rw [hA x hx, hA' x hx]⟩
/-- What it answers of forms that are right. -/
theorem ap_right {A : Nat → Nat} {b : Bool} (ht : ∀ n ∈ t, n < 4294967296) (hs : ∀ n ∈ s, n < 4294967296) (h1 : RightP l t) (h2 : RightP m s) (h : ApartP l t m s A b) :
    b = (!decide (l = m ∧ t = s)) ∧ (b = true → ¬ evalB l t A = evalB m s A) := by
  rcases h with ⟨hn, _, rfl⟩ | ⟨rfl, f, g, hf, hg, rfl, rfl, rfl, rfl, hne, n, _, hA, hx, _⟩
  · refine ⟨?_, fun h => absurd h (by simp)⟩
    by_cases h : l = m ∧ t = s
    · rw [decide_eq_true h]; rfl
    · exact absurd ⟨h1, h2, h⟩ hn
  · refine ⟨?_, fun _ => ?_⟩
    · rw [decide_eq_false fun h => hne (same_iff.1 h)]; rfl
    · rw [evalB_of hf, evalB_of hg, Bf.val_congr (v' := Bf.asgF (Bf.bothF f.vs g.vs) n) fun j hj => hA _ (hf.small j hj), Bf.val_congr (f := g) (v' := Bf.asgF (Bf.bothF f.vs g.vs) n) fun j hj => hA _ (hg.small j hj)]
      exact hx
end

/-! ### The examples -/
theorem shrink_same : ∀ (j : Nat) (f : Bf.BF), Bf.Valid f → j ≤ f.vs.length → Bf.shrinkF f j = f
  | 0, _, _, _ => rfl
  | j + 1, f, hf, hj => by
    unfold Bf.shrinkF
    rw [if_pos (hf.counts j (by omega))]
    exact shrink_same j f hf (by omega)
theorem do_known {k : Int} {f g h : Bf.BF} (hh : Bf.Valid h) (hw : Bf.wideF k f g = h) : Bf.doF k f g = h := by
  have e : (Bf.bothF f.vs g.vs).length = h.vs.length := by rw [← hw]; rfl
  unfold Bf.doF
  rw [hw, e]
  exact shrink_same _ h hh (Nat.le_refl _)
instance (l : List Int) (t : List Nat) : Decidable (RightP l t) := by unfold RightP GoodJ; exact inferInstance
theorem right_var {n : Nat} (hn : n < 34) : RightP [(n : Int)] [0, 4294967295] := by
  refine ⟨by simp, rfl, fun j hj => ?_⟩
  obtain rfl : j = 0 := by simp at hj; exact hj
  refine ⟨?_, ?_, fun h => by omega, show cntK [0, 4294967295] 0 2 = true by decide⟩
  · show (0 : Int) ≤ (n : Int)
    omega
  · show (n : Int) ≤ 33
    omega
theorem right_const (c : Nat) : RightP [] [c] := ⟨by simp, rfl, fun j hj => by simp at hj⟩
theorem ex_r0 : RightP [0] [0, 255] := by decide
theorem ex_r1 : RightP [1] [0, 65280] := by decide
theorem ex_r2 : RightP [0, 1] [0, 255, 65280, 65535] := by decide
theorem ex_d0 : okB 84 [0] [0, 4294967295] [] [255] = true ∧ doB 84 [0] [0, 4294967295] [] [255] = ⟨[0], [0, 255]⟩ := by
  have e : okB 84 [0] [0, 4294967295] [] [255] = true := okB_yes ⟨.inr (.inl rfl), right_var (n := 0) (by omega), right_const 255, by decide⟩
  refine ⟨e, (doB_yes e).trans (do_known ((gright_of (by decide) ex_r0).1) ?_)⟩
  decide +kernel
theorem ex_d1 : okB 84 [1] [0, 4294967295] [] [65280] = true ∧ doB 84 [1] [0, 4294967295] [] [65280] = ⟨[1], [0, 65280]⟩ := by
  have e : okB 84 [1] [0, 4294967295] [] [65280] = true := okB_yes ⟨.inr (.inl rfl), right_var (n := 1) (by omega), right_const 65280, by decide⟩
  refine ⟨e, (doB_yes e).trans (do_known ((gright_of (by decide) ex_r1).1) ?_)⟩
  decide +kernel
theorem ex_d2 : okB 68 [0] [0, 255] [1] [0, 65280] = true ∧ doB 68 [0] [0, 255] [1] [0, 65280] = ⟨[0, 1], [0, 255, 65280, 65535]⟩ := by
  have e : okB 68 [0] [0, 255] [1] [0, 65280] = true := okB_yes ⟨.inl rfl, ex_r0, ex_r1, by decide⟩
  refine ⟨e, (doB_yes e).trans (do_known ((gright_of (by decide) ex_r2).1) ?_)⟩
  decide +kernel
end Go.Proofs.Ytlgoeegpgcilbaa
/-
  Package bits: matters, ordered, Right.
-/
namespace Go.Proofs.Ytlgoeegpgcilbaa
open Go.ChangeShapes Go.WideShapes Go.ChangeAt Go.RowKit
set_option maxRecDepth 100000

theorem ofInt_i64 (a : Nat) (ha : a < 9223372036854775808) : (BitVec.ofInt 64 (a : Int)).toNat = a := by
  rw [BitVec.ofInt_natCast, BitVec.toNat_ofNat]
  exact Nat.mod_eq_of_lt (by omega)
theorem i64_xor_nat {a b : Nat} (ha : a < 9223372036854775808) (hb : b < 9223372036854775808) : bits .xor .i64 (a : Int) (b : Int) = ((a ^^^ b : Nat) : Int) := by
  have hx : a ^^^ b < 2 ^ 63 := Nat.xor_lt_two_pow ha hb
  show IntKind.i64.wrap ((BitVec.ofInt 64 (a : Int) ^^^ BitVec.ofInt 64 (b : Int)).toNat : Int) = _
  rw [BitVec.toNat_xor, ofInt_i64 a ha, ofInt_i64 b hb, wrap_fit (by omega)]
theorem i64_or_nat {a b : Nat} (ha : a < 9223372036854775808) (hb : b < 9223372036854775808) : bits .or .i64 (a : Int) (b : Int) = ((a ||| b : Nat) : Int) := by
  have hx : a ||| b < 2 ^ 63 := Nat.or_lt_two_pow ha hb
  show IntKind.i64.wrap ((BitVec.ofInt 64 (a : Int) ||| BitVec.ofInt 64 (b : Int)).toNat : Int) = _
  rw [BitVec.toNat_or, ofInt_i64 a ha, ofInt_i64 b hb, wrap_fit (by omega)]
theorem cntK_hit {t : List Nat} {k m n : Nat} (hn : n < m) (h : ¬ mAt t n = mAt t (n ^^^ 2 ^ k)) : cntK t k m = true := by
  unfold cntK
  rw [List.any_eq_true]
  exact ⟨n, List.mem_range.2 hn, by simpa using h⟩
set_option maxHeartbeats 4000000 in
theorem bmatters_any (v : Value) (l : List Int) (t : List Nat) (L j : Nat) (w : World) (h1 : GF w v l t) (hT : t.length = 2 ^ L) (hL : L ≤ 4) (hj : j < L) :
    Calls Try.prog 30 #[v, .int .i64 j] w fun e w' => e = .returned (.bool (cntK t j (2 ^ L))) ∧ Below w.heap.size w w' := by
  obtain ⟨_, _, rfl, hs1, hs2⟩ := h1
  obtain ⟨ao1, cap1, rfl⟩ := hs1.shape
  obtain ⟨ao2, cap2, rfl⟩ := hs2.shape
  have HC2 := Lib.hid (hs2.at2 rfl).2
  rw [natsI_len] at HC2
  rw [natsI_len]
  have HT2 := Lib.hid (fun (i : Nat) (h : i < t.length) => natsI_iAt h)
  have l16 : 2 ^ L ≤ 16 := Nat.pow_le_pow_right (n := 2) (by omega) (show L ≤ 4 from hL)
  have lP : 2 ^ j ≤ 8 := Nat.pow_le_pow_right (n := 2) (by omega) (show j ≤ 3 by omega)
  have HTurn := Lib.hid (fun n (hn : n < 2 ^ L) => Bf.turn_lt hn hj)
  have HHit := Lib.hid (fun n (hn : n < 2 ^ L) (h : ¬ mAt t n = mAt t (n ^^^ 2 ^ j)) => cntK_hit hn h)
  have HN := Lib.hid (fun m => cntK_next t j m)
  have H0 : Hid (cntK t j 0 = false) := Lib.hid rfl
  have HP := Lib.hid (show ((2 ^ j : Nat) : Int) = 2 ^ j by simp)
  have m1 : min j 64 = j := by omega
  generalize l.length = LL at *
  rw [hT] at HC2 HT2 ⊢
  generalize 2 ^ L = T at *
  generalize 2 ^ j = P at *
  have h0 := heap_alloc_new w (.cells #[.slice ao1 LL cap1, .slice ao2 T cap2] 25)
  have hb := ba (.cells #[.slice ao1 LL cap1, .slice ao2 T cap2] 25) (Below.refl w.heap.size w)
  obtain ⟨W, hW⟩ : ∃ W, W = w.alloc (.cells #[.slice ao1 LL cap1, .slice ao2 T cap2] 25) := ⟨_, rfl⟩
  rw [← hW] at h0 hb
  have HX := Lib.hid h0
  have HB := Lib.hid hb
  have hsW := hb.size
  clear hs1 hs2 h0 hb hT
  go_enter Try.func30, Try.ntmps30
  go_upto_region 1 with fail
  rw [← hW]
  clear hW
  have y2 := (cell_in HX.out 1).trans rfl
  go_wp2_with fail
  clear y2
  go_loopw [5, 6, 10] (fun _ _ i wr => ∃ k : Nat, k ≤ T ∧ i = .int .i64 k ∧ cntK t j k = false ∧ Below W.heap.size W wr) (fun _ _ i _ => T - (intOf i).toNat)
  case atStart => exact ⟨0, by omega, rfl, H0.out, Below.refl _ _⟩
  case round =>
    obtain ⟨k, hk, rfl, hA, hBr⟩ := hrel
    have HA := Lib.hid hA
    have HBr := Lib.hid hBr
    have y2 := (cell_in (kb hBr HX.out) 1).trans rfl
    clear hA
    by_cases hlt : k < T
    · obtain ⟨b2, o2, rfl, hb2, hc2⟩ := HC2.out (by omega)
      have x4 := ((hBr.cell (p := ⟨b2, o2 + k, none⟩) (Nat.lt_of_lt_of_le hb2 hsW)).trans (HB.out.cell (p := ⟨b2, o2 + k, none⟩) hb2)).trans (hc2 k hlt)
      rw [HT2.out k hlt] at x4
      have hn2 := HTurn.out k hlt
      have x5 := ((hBr.cell (p := ⟨b2, o2 + (k ^^^ P), none⟩) (Nat.lt_of_lt_of_le hb2 hsW)).trans (HB.out.cell (p := ⟨b2, o2 + (k ^^^ P), none⟩) hb2)).trans (hc2 _ hn2)
      rw [HT2.out _ hn2] at x5
      have e1 : bits .xor .i64 (k : Int) (P : Int) = ((k ^^^ P : Nat) : Int) := i64_xor_nat (by omega) (by omega)
      have HNk := Lib.hid (HN.out k)
      have HHk := Lib.hid (HHit.out k hlt)
      have e0 : (2 : Int) ^ j = (P : Int) := HP.out.symm
      generalize k ^^^ P = N at *
      generalize mAt t k = Y at *
      generalize mAt t N = Z at *
      clear hc2 hBr
      by_cases hYZ : Y = Z
      · have g1 : ((Y : Int) != (Z : Int)) = false := by simp [hYZ]
        have HY := Lib.hid hYZ
        clear hYZ
        go_wp2_with (go_quiet (fail))
        go_roundw
        case rel => exact ⟨k + 1, by omega, by go_num, by rw [HNk.out, HA.out, HY.out]; simp, bdN HBr.out _⟩
        case measure => simp [intOf]; omega
      · have g1 : ((Y : Int) != (Z : Int)) = true := by simp; omega
        have HY := Lib.hid (HHk.out hYZ)
        clear hYZ
        go_wp2_with (go_quiet (fail))
        go_ret
        exact ⟨retB HY.out, below2 HB.out (bdN HBr.out _)⟩
    · obtain rfl : k = T := by omega
      clear hBr
      go_wp2_with fail
      go_ret
      exact ⟨retB HA.out, below2 HB.out HBr.out⟩
/-! ### Rising variables -/
def belowN (l : List Int) (k : Nat) : Int := if k = 0 then -1 else iAt l (k - 1)
theorem below_zero (l : List Int) : belowN l 0 = -1 := rfl
theorem below_succ (l : List Int) (k : Nat) : belowN l (k + 1) = iAt l k := rfl
def OrdJ (l : List Int) (j : Nat) : Prop := belowN l j < iAt l j ∧ iAt l j ≤ 33
def OrdP (l : List Int) : Prop := l.length ≤ 4 ∧ ∀ j, j < l.length → OrdJ l j
noncomputable def ordB (l : List Int) : Bool := @decide (OrdP l) (Classical.propDecidable _)
theorem ordB_no {l : List Int} (h : ¬ OrdP l) : ordB l = false := @decide_eq_false _ (Classical.propDecidable _) h
theorem ordB_yes {l : List Int} (h : OrdP l) : ordB l = true := @decide_eq_true _ (Classical.propDecidable _) h
theorem ord_good {l : List Int} {t : List Nat} (h : OrdP l) {j : Nat} (hj : j < l.length) (hc : cntK t j (2 ^ l.length) = true) : GoodJ l t j := by
  have pos : ∀ j, j < l.length → 0 ≤ iAt l j := fun j => by
    induction j with
    | zero =>
      intro hj
      have := (h.2 0 hj).1
      rw [below_zero] at this
      omega
    | succ j ih =>
      intro hj
      have := (h.2 (j + 1) hj).1
      rw [below_succ] at this
      have := ih (by omega)
      omega
  refine ⟨pos j hj, (h.2 j hj).2, fun h0 => ?_, hc⟩
  have := (h.2 j hj).1
  unfold belowN at this
  rwa [if_neg (by omega)] at this
theorem good_ord {l : List Int} {t : List Nat} (h4 : l.length ≤ 4) (h : ∀ j, j < l.length → GoodJ l t j) : OrdP l := by
  refine ⟨h4, fun j hj => ⟨?_, (h j hj).2.1⟩⟩
  unfold belowN
  split
  · have := (h j hj).1; omega
  · exact (h j hj).2.2.1 (by omega)
set_option maxHeartbeats 4000000 in
theorem bordered_any (u : Value) (l : List Int) (w : World) (h1 : NRow .i64 w u l) :
    Calls Try.prog 29 #[u] w fun e w' => e = .returned (.bool (ordB l)) ∧ w' = w := by
  obtain ⟨ao, cap, rfl⟩ := h1.shape
  have HC := Lib.hid (h1.at2 rfl).2
  have H0 := Lib.hid (fun h : ¬ l.length ≤ 4 => ordB_no fun hr => h hr.1)
  have H1 := Lib.hid (fun (j : Nat) (hj : j < l.length) (h : ¬ OrdJ l j) => ordB_no fun hr => h (hr.2 j hj))
  have H2 := Lib.hid (fun (a : l.length ≤ 4) (c : ∀ j, j < l.length → OrdJ l j) => ordB_yes ⟨a, c⟩)
  have HJ : Hid (∀ j, OrdJ l j ↔ belowN l j < iAt l j ∧ iAt l j ≤ 33) := Lib.hid (fun j => Iff.rfl)
  have HS := Lib.hid (below_succ l)
  have HZ := Lib.hid (below_zero l)
  generalize ordB l = R at *
  clear h1
  generalize l.length = L at *
  go_enter Try.func29, Try.ntmps29
  by_cases hL : L ≤ 4
  · have g1 : ¬ (4 : Int) < (L : Int) := by omega
    go_wp2_with fail
    go_loopw [3, 5, 11] (fun b _ i wr => ∃ (k : Nat) (B : Int), k ≤ L ∧ i = .int .i64 k ∧ b = .int .i64 B ∧ B = belowN l k ∧ (∀ j, j < k → OrdJ l j) ∧ wr = w) (fun _ _ i _ => L - (intOf i).toNat)
    case atStart => exact ⟨0, -1, by omega, rfl, rfl, HZ.out.symm, fun j hj => by omega, rfl⟩
    case round =>
      obtain ⟨k, B, hk, rfl, rfl, hB, hA, rfl⟩ := hrel
      have HA := Lib.hid hA
      have HBv := Lib.hid hB
      clear hA hB
      by_cases hlt : k < L
      · obtain ⟨b1, o1, rfl, hb1, hc1⟩ := HC.out (by omega)
        have x2 := hc1 k hlt
        have HJk := Lib.hid (HJ.out k)
        have H1k := Lib.hid (H1.out k hlt)
        have HSk := Lib.hid (HS.out k)
        obtain ⟨X, hX⟩ : ∃ X, X = iAt l k := ⟨_, rfl⟩
        rw [← hX] at x2 HJk HSk
        rw [← HBv.out] at HJk
        clear hX hc1
        by_cases hle : X ≤ B
        · have n1 : decide (X ≤ B) = true := decide_eq_true hle
          have HR := Lib.hid (H1k.out fun h => by have := (HJk.out.1 h).1; omega)
          go_wp2_with fail
          go_ret
          exact ⟨retB HR.out, rfl⟩
        · have n1 : decide (X ≤ B) = false := decide_eq_false hle
          by_cases hbig : 34 ≤ X
          · have n2 : decide (34 ≤ X) = true := decide_eq_true hbig
            have HR := Lib.hid (H1k.out fun h => by have := (HJk.out.1 h).2; omega)
            go_wp2_with fail
            go_ret
            exact ⟨retB HR.out, rfl⟩
          · have n2 : decide (34 ≤ X) = false := decide_eq_false hbig
            have HG := Lib.hid (HJk.out.2 ⟨by omega, by omega⟩)
            go_wp2_with fail
            go_roundw
            case rel => exact ⟨k + 1, X, by omega, by go_num, rfl, HSk.out.symm, fun j hj => by
              rcases Nat.lt_or_eq_of_le (Nat.le_of_lt_succ hj) with h | rfl
              · exact HA.out j h
              · exact HG.out, trivial⟩
            case measure => simp [intOf]; omega
      · obtain rfl : k = L := by omega
        have HR := Lib.hid (H2.out (by trivial) HA.out)
        go_wp2_with fail
        go_ret
        exact ⟨retB HR.out, rfl⟩
  · have g1 : (4 : Int) < (L : Int) := by omega
    have HR := Lib.hid (H0.out hL)
    clear hL
    go_wp2_with fail
    go_ret
    exact ⟨retB HR.out, rfl⟩
set_option maxHeartbeats 4000000 in
theorem bright_any (v : Value) (l : List Int) (t : List Nat) (w : World) (h : GF w v l t) (hs : Small l t) : Calls Try.prog 14 #[v] w fun e w' => e = .returned (.bool (rightB l t)) ∧ Below w.heap.size w w' := by
  have HG0 := Lib.hid h
  obtain ⟨s1, s2, rfl, hs1, hs2⟩ := h
  obtain ⟨ao1, cap1, rfl⟩ := hs1.shape
  obtain ⟨ao2, cap2, rfl⟩ := hs2.shape
  have HO := Lib.hid (fun V (hV : Below w.heap.size w V) => bordered_any _ l V (hs1.below hV))
  have HM := Lib.hid (fun V (hV : Below w.heap.size w V) L j a b c => bmatters_any _ l t L j V (HG0.out.below hV) a b c)
  have hle := hs.vs
  have hle2 := hs.tb
  rw [natsI_len] at *
  have H0 := Lib.hid (fun h : ¬ OrdP l => rightB_no (l := l) (t := t) fun hr => h (good_ord hr.1 hr.2.2))
  have H1 := Lib.hid (fun h : ¬ t.length = 2 ^ l.length => rightB_no (l := l) fun hr => h hr.2.1)
  have H2 := Lib.hid (fun (j : Nat) (hj : j < l.length) (h : ¬ cntK t j (2 ^ l.length) = true) => rightB_no (l := l) (t := t) fun hr => h (hr.2.2 j hj).2.2.2)
  have H3 := Lib.hid (fun (a : OrdP l) (b : t.length = 2 ^ l.length) (c : ∀ j, j < l.length → cntK t j (2 ^ l.length) = true) => rightB_yes ⟨a.1, b, fun j hj => ord_good a hj (c j hj)⟩)
  generalize rightB l t = R at *
  have h0 := heap_alloc_new w (.cells #[.slice ao1 l.length cap1, .slice ao2 t.length cap2] 25)
  have hb := ba (.cells #[.slice ao1 l.length cap1, .slice ao2 t.length cap2] 25) (Below.refl w.heap.size w)
  obtain ⟨W, hW⟩ : ∃ W, W = w.alloc (.cells #[.slice ao1 l.length cap1, .slice ao2 t.length cap2] 25) := ⟨_, rfl⟩
  rw [← hW] at h0 hb
  have HX := Lib.hid h0
  have HB := Lib.hid hb
  have hsW := hb.size
  clear hs1 hs2 h0 hb HG0 hs
  have HOW := Lib.hid (fun d => HO.out (W.drewN d) (bdN HB.out d))
  obtain ⟨b, hbO⟩ : ∃ b, b = ordB l := ⟨_, rfl⟩
  rw [← hbO] at HOW
  have HbO := Lib.hid hbO
  clear hbO HO
  have HL4 : Hid (b = true → l.length ≤ 4) := Lib.hid (fun e => Classical.byContradiction fun h => by rw [HbO.out, ordB_no fun hr => h hr.1] at e; exact absurd e (by decide))
  have HOP : Hid (b = true → OrdP l) := Lib.hid (fun e => Classical.byContradiction fun h => by rw [HbO.out, ordB_no h] at e; exact absurd e (by decide))
  have HON : Hid (b = false → R = false) := Lib.hid (fun e => H0.out fun h => by rw [HbO.out, ordB_yes h] at e; exact absurd e (by decide))
  clear HbO H0
  generalize l.length = L at *
  generalize t.length = T at *
  go_enter Try.func14, Try.ntmps14
  go_upto_region 1 with fail
  rw [← hW]
  clear hW
  have y1 := (cell_in HX.out 0).trans rfl
  have y2 := (cell_in HX.out 1).trans rfl
  cases b
  · have HR := Lib.hid (HON.out rfl)
    go_wp2_with (go_quiet (first | (go_at_call 29; refine Calls.quiet_of_same (HOW.out _))))
    go_ret
    exact ⟨retB HR.out, bdN HB.out _⟩
  · have hL := HL4.out rfl
    have HOr := Lib.hid (HOP.out rfl)
    have l16 : 2 ^ L ≤ 16 := Nat.pow_le_pow_right (n := 2) (by omega) (show L ≤ 4 from hL)
    have HP := Lib.hid (show ((2 ^ L : Nat) : Int) = 2 ^ L by simp)
    have m1 : min L 64 = L := by omega
    have HM2 := Lib.hid (fun V hV j a c => HM.out V hV L j a hL c)
    clear HL4 HOP HON HM
    obtain ⟨P, hP⟩ : ∃ P, P = 2 ^ L := ⟨_, rfl⟩
    rw [← hP] at H1 H2 H3 HM2 HP l16
    clear hP
    have e0 : (2 : Int) ^ L = (P : Int) := HP.out.symm
    by_cases hT : T = P
    · subst hT
      have g1 : ((T : Int) != (T : Int)) = false := by simp
      go_wp2_with (go_quiet (first | (go_at_call 29; refine Calls.quiet_of_same (HOW.out _))))
      clear y1 y2 g1
      go_loopw [3, 21] (fun _ i wr => ∃ k : Nat, k ≤ L ∧ i = .int .i64 k ∧ (∀ j, j < k → cntK t j T = true) ∧ Below W.heap.size W wr) (fun _ i _ => L - (intOf i).toNat)
      case atStart => exact ⟨0, by omega, rfl, fun j hj => by omega, bdN (Below.refl _ _) _⟩
      case round =>
        obtain ⟨k, hk, rfl, hA, hBr⟩ := hrel
        have HA := Lib.hid hA
        have HBr := Lib.hid hBr
        have y1 := (cell_in (kb hBr HX.out) 0).trans rfl
        have y2 := (cell_in (kb hBr HX.out) 1).trans rfl
        clear hA hBr
        by_cases hlt : k < L
        · have H2k := Lib.hid (H2.out k hlt)
          go_wp2_with fail
          refine (HM2.out _ (below2 HB.out HBr.out) k (by trivial) hlt).mono ?_
          rintro e w1 ⟨rfl, hb1⟩
          have HB1 := Lib.hid (below2 HBr.out hb1)
          clear hb1 y1 y2
          cases hc : cntK t k T
          · have HR := Lib.hid (H2k.out (by rw [hc]; decide))
            clear hc
            go_wp2_with fail
            go_ret
            exact ⟨retB HR.out, below2 HB.out HB1.out⟩
          · have HC := Lib.hid hc
            clear hc
            go_wp2_with fail
            go_roundw
            case rel => exact ⟨k + 1, by omega, by go_num, fun j hj => by
              rcases Nat.lt_or_eq_of_le (Nat.le_of_lt_succ hj) with h | rfl
              · exact HA.out j h
              · exact HC.out, HB1.out⟩
            case measure => simp [intOf]; omega
        · obtain rfl : k = L := by omega
          have HR := Lib.hid (H3.out HOr.out (by trivial) HA.out)
          go_wp2_with fail
          go_ret
          exact ⟨retB HR.out, below2 HB.out HBr.out⟩
    · have HR := Lib.hid (H1.out hT)
      have g1 : ((T : Int) != (P : Int)) = true := by simp; omega
      clear hT
      go_wp2_with (go_quiet (first | (go_at_call 29; refine Calls.quiet_of_same (HOW.out _))))
      go_ret
      exact ⟨retB HR.out, bdN HB.out _⟩
end Go.Proofs.Ytlgoeegpgcilbaa
/-
  Forms bit by bit as variables: whole loads and stores, results.
-/
namespace Go.Proofs.Ytlgoeegpgcilbaa
open Go.ChangeShapes Go.WideShapes Go.ChangeAt Go.RowKit
set_option maxRecDepth 100000

/-! ### A form's variable -/
abbrev bfB (u1 u2 : Value) : Obj := .cells #[u1, u2] 25
theorem infoB : (Try.prog.info? 25).map (·.size) = some 2 := by kernel_rfl
theorem GF.split {w : World} {v : Value} {l : List Int} {t : List Nat} (h : GF w v l t) : ∃ u1 u2, v = .agg #[u1, u2] ∧ u1.oneCell' = true ∧ u2.oneCell' = true := by
  obtain ⟨s1, s2, rfl, h1, h2⟩ := h
  obtain ⟨a1, c1, rfl⟩ := h1.shape
  obtain ⟨a2, c2, rfl⟩ := h2.shape
  exact ⟨_, _, rfl, rfl, rfl⟩
theorem NRow.putr {g n1 c1 n2 c2 : Nat} {ty : TypeId} {a1 a2 : Option Addr} {k : IntKind} {w w' : World} {u : Value} {l : List Int} {o : Obj} (h : NRow k w u l) (hG : w.heap[g]? = some (.cells #[.slice a1 n1 c1, .slice a2 n2 c2] ty)) (hp : RowPut w w' g o) : NRow k w' u l := by
  obtain ⟨ao, cap, rfl, h⟩ := h
  rcases h with rfl | ⟨b, off, rfl, hl, hc⟩
  · exact ⟨ao, cap, rfl, .inl rfl⟩
  · rcases Nat.eq_zero_or_pos l.length with h0 | h0
    · exact ⟨_, cap, rfl, .inl (List.eq_nil_of_length_eq_zero h0)⟩
    · have hn : b ≠ g := by
        intro e
        subst e
        have h1 := hc 0 h0
        rw [cell_in hG, Nat.add_zero] at h1
        match off, h1 with
        | 0, h1 => simp at h1
        | 1, h1 => simp at h1
        | (q + 2), h1 => simp at h1
      exact ⟨_, cap, rfl, .inr ⟨b, off, rfl, by rw [hp.size]; exact hl, fun i hi => (rp_cell hp (p := ⟨b, _, none⟩) hn).trans (hc i hi)⟩⟩
/-- A form stands where a form's variable is written. -/
theorem GF.putr {g n1 c1 n2 c2 : Nat} {ty : TypeId} {a1 a2 : Option Addr} {w w' : World} {v : Value} {l : List Int} {t : List Nat} {o : Obj} (h : GF w v l t) (hG : w.heap[g]? = some (.cells #[.slice a1 n1 c1, .slice a2 n2 c2] ty)) (hp : RowPut w w' g o) : GF w' v l t := by
  obtain ⟨s1, s2, rfl, h1, h2⟩ := h
  exact ⟨s1, s2, rfl, h1.putr hG hp, h2.putr hG hp⟩
section
variable {ops : Array Oper} {rest : List Oper} {o : Oper} {a : Act} {w : World} {Q : Exit → Act → World → Prop}
theorem ld_bf {g : Nat} {u1 u2 : Value} {x : Operand} (hG : w.heap[g]? = some (bfB u1 u2)) (hgd : o.guard = none) (ho : o.op = .load 25 x) (hx : a.eval x = .pointer (some ⟨g, 0, none⟩))
    (h : wpList Try.prog ops Q rest (a.put o.dst (.agg #[u1, u2])) w) : wpList Try.prog ops Q (o :: rest) a w :=
  wpList_load_row hgd 25 x ho g hx 25 #[u1, u2] (0, 0) _ hG Try.underlying25 rfl infoB h
theorem ld_bfg {g : Nat} {u1 u2 : Value} {x : Operand} (hG : w.heap[g]? = some (bfB u1 u2)) (hw : Region.wanted o (yielded ops a.tmps) = true) (ho : o.op = .load 25 x) (hx : a.eval x = .pointer (some ⟨g, 0, none⟩))
    (h : wpList Try.prog ops Q rest (a.put o.dst (.agg #[u1, u2])) w) : wpList Try.prog ops Q (o :: rest) a w := by
  unfold wpList
  rw [if_pos hw]
  exact .inl (wp_load_row 25 x ho g hx 25 #[u1, u2] (0, 0) _ hG Try.underlying25 rfl infoB h)
theorem st_bf {g : Nat} {u1 u2 : Value} {old : Array Value} {x y : Operand} (hG : w.heap[g]? = some (.cells old 25)) (hold : old.size = 2) (h1 : u1.oneCell' = true) (h2 : u2.oneCell' = true) (hgd : o.guard = none) (ho : o.op = .store 25 x y) (hx : a.eval x = .pointer (some ⟨g, 0, none⟩)) (hy : a.eval y = .agg #[u1, u2])
    (h : ∀ w', RowPut w w' g (bfB u1 u2) → wpList Try.prog ops Q rest (a.put o.dst undef) w') : wpList Try.prog ops Q (o :: rest) a w :=
  wpList_store_row hgd 25 x y ho g #[u1, u2] hx hy 25 old hG infoB hold (by simp [h1, h2]) (h _ (rowPut_set hG _))
end
section
variable {o : Oper} {a : Act} {w : World} {K : Act → World → Prop} {Q : Exit → Act → World → Prop}
theorem wp_putb {g : Nat} {u1 u2 : Value} {old : Array Value} {x y : Operand} (hG : w.heap[g]? = some (.cells old 25)) (hold : old.size = 2) (h1 : u1.oneCell' = true) (h2 : u2.oneCell' = true) (ho : o.op = .store 25 x y) (hx : a.eval x = .pointer (some ⟨g, 0, none⟩)) (hy : a.eval y = .agg #[u1, u2])
    (h : ∀ w', RowPut w w' g (bfB u1 u2) → K (a.put o.dst undef) w') : o.wp Try.prog a w K Q :=
  wp_store_row 25 x y ho g #[u1, u2] hx hy 25 old hG infoB hold (by simp [h1, h2]) (h _ (rowPut_set hG _))
theorem wp_putg {g : Nat} {u1 u2 : Value} {old : Array Value} {x y : Operand} (hG : w.heap[g]? = some (.cells old 37)) (hold : old.size = 2) (h1 : u1.oneCell' = true) (h2 : u2.oneCell' = true) (ho : o.op = .store 37 x y) (hx : a.eval x = .pointer (some ⟨g, 0, none⟩)) (hy : a.eval y = .agg #[u1, u2])
    (h : ∀ w', RowPut w w' g (gfB u1 u2) → K (a.put o.dst undef) w') : o.wp Try.prog a w K Q :=
  wp_store_row 37 x y ho g #[u1, u2] hx hy 37 old hG infoG hold (by simp [h1, h2]) (h _ (rowPut_set hG _))
end
section
variable {ops : Array Oper} {o : Oper} {a : Act} {S : World → Prop}
theorem gyi_row {g : Nat} {ty : TypeId} {x : Operand} {cs : Array Value} (hw : Region.wanted o (yielded ops a.tmps) = true) (ho : o.op = .load ty x) (hx : a.eval x = .pointer (some ⟨g, 0, none⟩)) (hS : ∀ V, S V → (loadVar ty ⟨g, 0, none⟩).run Try.prog V = .ok (.agg cs) V) : YieldsIf Try.prog ops S o (.agg cs) a :=
  .inl ⟨hw, fun V hV => by
    unfold execOp
    simp only [ho, hx, Instr.loadAt, Instr.sureAddr, Sem.run_bind, Sem.run_pure, Result.andThen_ok, hS V hV]⟩
end
theorem lv_bf {V : World} {g : Nat} {u1 u2 : Value} (h : V.heap[g]? = some (bfB u1 u2)) : (loadVar 25 ⟨g, 0, none⟩).run Try.prog V = .ok (.agg #[u1, u2]) V :=
  run_loadVar_row V g 25 25 #[u1, u2] (0, 0) _ h Try.underlying25 rfl infoB
theorem lv_gf {V : World} {g : Nat} {u1 u2 : Value} (h : V.heap[g]? = some (gfB u1 u2)) : (loadVar 37 ⟨g, 0, none⟩).run Try.prog V = .ok (.agg #[u1, u2]) V :=
  run_loadVar_row V g 37 37 #[u1, u2] (0, 0) _ h Try.underlying37 rfl infoG
theorem lv_asg {V : World} {g : Nat} {v : List Nat} (h : V.heap[g]? = some (rowB v)) (hv : v.length = 34) : (loadVar 27 ⟨g, 0, none⟩).run Try.prog V = .ok (formV v) V :=
  run_loadVar_row V g 27 27 (numsC v) (0, 0) _ h Try.underlying27 rfl (by rw [numsC_size, hv]; exact infoV)
section
variable {ops : Array Oper} {rest : List Oper} {o : Oper} {a : Act} {W : World} {Q : Act → Prop}
theorem qg_bf {g : Nat} {u1 u2 : Value} {x : Operand} (hG : W.heap[g]? = some (bfB u1 u2)) (hw : Region.wanted o (yielded ops a.tmps) = true) (ho : o.op = .load 25 x) (hx : a.eval x = .pointer (some ⟨g, 0, none⟩))
    (h : wpQuiet Try.prog ops (fun w' => ∃ p : Regrown, w' = Sort.grow (redrawn W p.d) p.os) Q rest (a.put o.dst (.agg #[u1, u2]))) : wpQuiet Try.prog ops (fun w' => ∃ p : Regrown, w' = Sort.grow (redrawn W p.d) p.os) Q (o :: rest) a := by
  unfold wpQuiet
  rw [if_pos hw]
  refine ⟨.agg #[u1, u2], fun w' hw' => ?_, h⟩
  obtain ⟨p, rfl⟩ := hw'
  have hG' : (Sort.grow (redrawn W p.d) p.os).heap[g]? = some (bfB u1 u2) := ((below_regrown W p.d p.os).block g (lt_of_block hG)).trans hG
  unfold Oper.quietAt execOp
  simp only [ho, hx, Instr.loadAt, Instr.sureAddr, Sem.run_bind, Sem.run_pure, Result.andThen_ok, lv_bf hG']
  exact ⟨rfl, rfl⟩
theorem qg_gf {g : Nat} {u1 u2 : Value} {x : Operand} (hG : W.heap[g]? = some (gfB u1 u2)) (hw : Region.wanted o (yielded ops a.tmps) = true) (ho : o.op = .load 37 x) (hx : a.eval x = .pointer (some ⟨g, 0, none⟩))
    (h : wpQuiet Try.prog ops (fun w' => ∃ p : Regrown, w' = Sort.grow (redrawn W p.d) p.os) Q rest (a.put o.dst (.agg #[u1, u2]))) : wpQuiet Try.prog ops (fun w' => ∃ p : Regrown, w' = Sort.grow (redrawn W p.d) p.os) Q (o :: rest) a := by
  unfold wpQuiet
  rw [if_pos hw]
  refine ⟨.agg #[u1, u2], fun w' hw' => ?_, h⟩
  obtain ⟨p, rfl⟩ := hw'
  have hG' : (Sort.grow (redrawn W p.d) p.os).heap[g]? = some (gfB u1 u2) := ((below_regrown W p.d p.os).block g (lt_of_block hG)).trans hG
  unfold Oper.quietAt execOp
  simp only [ho, hx, Instr.loadAt, Instr.sureAddr, Sem.run_bind, Sem.run_pure, Result.andThen_ok, lv_gf hG']
  exact ⟨rfl, rfl⟩
end
theorem results_bf {fn : Func} {p : Tmp} (h : fn.results = #[.cell p 25]) {tmps : Array Value} {w : World} {g : Nat} {u1 u2 : Value}
    (hp : tmps.getD p undef = .pointer (some ⟨g, 0, none⟩)) (hG : w.heap[g]? = some (bfB u1 u2)) : (results fn tmps).run Try.prog w = .ok (.agg #[u1, u2]) w :=
  results_cell_row h tmps w g 25 #[u1, u2] (0, 0) _ hp hG Try.underlying25 rfl infoB
theorem results_bf2 {fn : Func} {p q : Tmp} (h : fn.results = #[.cell p 25, .tmp q]) {tmps : Array Value} {w : World} {g : Nat} {u1 u2 : Value} {b : Value}
    (hp : tmps.getD p undef = .pointer (some ⟨g, 0, none⟩)) (hq : tmps.getD q undef = b) (hG : w.heap[g]? = some (bfB u1 u2)) : (results fn tmps).run Try.prog w = .ok (.tuple #[.agg #[u1, u2], b]) w := by
  have hp' : tmps[p]?.getD undef = .pointer (some ⟨g, 0, none⟩) := by simpa using hp
  have hq' : tmps[q]?.getD undef = b := by simpa using hq
  simp [results, h, hp', hq', asAddr, run_loadVar_row w g 25 25 #[u1, u2] (0, 0) _ hG Try.underlying25 rfl infoB]
end Go.Proofs.Ytlgoeegpgcilbaa
/-
  The library's own contracts for slices of integers (Sort, Index, Equal, Compact) at this program.
-/
namespace Go.Proofs.Ytlgoeegpgcilbaa
open Go.Shelf Go.Sort Go.RowKit
def lays189_ren : Go.Shelf.Ren := ⟨fun | 189 => 47 | 125 => 57 | 257 => 56 | 128 => 68 | 129 => 69 | 294 => 59 | 295 => 60 | 296 => 61 | 297 => 62 | 298 => 63 | 299 => 64 | 216 => 65 | 300 => 66 | 301 => 67 | 328 => 70 | 329 => 71 | 330 => 72 | 331 => 73 | 332 => 74 | 215 => 75 | 343 => 76 | n => n, fun | 28 => 22 | 3 => 3 | 46 => 89 | 0 => 0 | 51 => 26 | 53 => 67 | 4 => 4 | 183 => 93 | 182 => 92 | 131 => 98 | 5 => 5 | 9 => 9 | 218 => 102 | 222 => 106 | 228 => 109 | 229 => 110 | n => n, fun | n => n⟩
theorem lays189 : Go.Proofs.Lays.n189 Try.prog lays189_ren := {
  mixed := by kernel_rfl
  f125 := Try.func57.trans (congrArg some (by kernel_rfl))
  f128 := Try.func68.trans (congrArg some (by kernel_rfl))
  f129 := Try.func69.trans (congrArg some (by kernel_rfl))
  f189 := Try.func47.trans (congrArg some (by kernel_rfl))
  f215 := Try.func75.trans (congrArg some (by kernel_rfl))
  f216 := Try.func65.trans (congrArg some (by kernel_rfl))
  f257 := Try.func56.trans (congrArg some (by kernel_rfl))
  f294 := Try.func59.trans (congrArg some (by kernel_rfl))
  f295 := Try.func60.trans (congrArg some (by kernel_rfl))
  f296 := Try.func61.trans (congrArg some (by kernel_rfl))
  f297 := Try.func62.trans (congrArg some (by kernel_rfl))
  f298 := Try.func63.trans (congrArg some (by kernel_rfl))
  f299 := Try.func64.trans (congrArg some (by kernel_rfl))
  f300 := Try.func66.trans (congrArg some (by kernel_rfl))
  f301 := Try.func67.trans (congrArg some (by kernel_rfl))
  f328 := Try.func70.trans (congrArg some (by kernel_rfl))
  f329 := Try.func71.trans (congrArg some (by kernel_rfl))
  f330 := Try.func72.trans (congrArg some (by kernel_rfl))
  f331 := Try.func73.trans (congrArg some (by kernel_rfl))
  f332 := Try.func74.trans (congrArg some (by kernel_rfl))
  f343 := Try.func76.trans (congrArg some (by kernel_rfl))
  t0 := Try.underlying0
  a0 := Try.isAgg0
  z0 := Try.sizeOf0
  v0 := Try.zeroValue0
  t3 := Try.underlying3
  a3 := Try.isAgg3
  z3 := Try.sizeOf3
  v3 := Try.zeroValue3
  t4 := Try.underlying4
  a4 := Try.isAgg4
  z4 := Try.sizeOf4
  v4 := Try.zeroValue4
  t5 := Try.underlying5
  a5 := Try.isAgg5
  z5 := Try.sizeOf5
  v5 := Try.zeroValue5
  t9 := Try.underlying9
  a9 := Try.isAgg9
  z9 := Try.sizeOf9
  v9 := Try.zeroValue9
  t28 := Try.underlying22
  a28 := Try.isAgg22
  z28 := Try.sizeOf22
  v28 := Try.zeroValue22
  t46 := Try.underlying89
  a46 := Try.isAgg89
  z46 := Try.sizeOf89
  v46 := Try.zeroValue89
  t51 := Try.underlying26
  a51 := Try.isAgg26
  z51 := Try.sizeOf26
  v51 := Try.zeroValue26
  t53 := Try.underlying67
  a53 := Try.isAgg67
  z53 := Try.sizeOf67
  v53 := Try.zeroValue67
  t131 := Try.underlying98
  a131 := Try.isAgg98
  z131 := Try.sizeOf98
  v131 := Try.zeroValue98
  t182 := Try.underlying92
  a182 := Try.isAgg92
  z182 := Try.sizeOf92
  v182 := Try.zeroValue92
  t183 := Try.underlying93
  a183 := Try.isAgg93
  z183 := Try.sizeOf93
  v183 := Try.zeroValue93
  t218 := Try.underlying102
  a218 := Try.isAgg102
  z218 := Try.sizeOf102
  v218 := Try.zeroValue102
  t222 := Try.underlying106
  a222 := Try.isAgg106
  z222 := Try.sizeOf106
  v222 := Try.zeroValue106
  t228 := Try.underlying109
  a228 := Try.isAgg109
  z228 := Try.sizeOf109
  v228 := Try.zeroValue109
  t229 := Try.underlying110
  a229 := Try.isAgg110
  z229 := Try.sizeOf110
  v229 := Try.zeroValue110 }
open Go.Sort Go.RowKit in
theorem slices_Sort_int (blk off cap : Nat) (zs : List Int) (w : World) (hH : Holds (Value.int .i64) w blk off zs.toArray) (hblk : blk < w.heap.size) (hsz : zs.length < 4611686018427387904) :
    Calls Try.prog 47 #[.slice (some ⟨blk, off, none⟩) zs.length cap] w fun e w' =>
      e = .returned (.tuple #[]) ∧ ∃ n os, w' = grow (putRow (Value.int .i64) (Sort.ahead w n) blk off (zs.mergeSort fun x y => decide (x ≤ y)).toArray) os := Any.slices_Sort_int lays189 blk off cap zs w hH hblk hsz
def lays108_ren : Go.Shelf.Ren := ⟨fun | 108 => 51 | n => n, fun | 28 => 22 | 3 => 3 | 0 => 0 | 4 => 4 | n => n, fun | n => n⟩
theorem lays108 : Go.Proofs.Lays.n108 Try.prog lays108_ren := {
  mixed := by kernel_rfl
  f108 := Try.func51.trans (congrArg some (by kernel_rfl))
  t0 := Try.underlying0
  a0 := Try.isAgg0
  z0 := Try.sizeOf0
  v0 := Try.zeroValue0
  t3 := Try.underlying3
  a3 := Try.isAgg3
  z3 := Try.sizeOf3
  v3 := Try.zeroValue3
  t4 := Try.underlying4
  a4 := Try.isAgg4
  z4 := Try.sizeOf4
  v4 := Try.zeroValue4
  t28 := Try.underlying22
  a28 := Try.isAgg22
  z28 := Try.sizeOf22
  v28 := Try.zeroValue22 }
open Go.Lib in
theorem slices_Index_int (b off n c : Nat) (zs : List Int) (x : Int) (w : World) (hz : n ≤ zs.length) (hbig : n ≤ 9223372036854775807) (hc : ∀ j, j < zs.length → w.cell? ⟨b, off + j, none⟩ = some (.int .i64 (zs.getD j 0))) :
    Calls Try.prog 51 #[.slice (some ⟨b, off, none⟩) n c, .int .i64 x] w fun e w' => e = .returned (.int .i64 (Lib.idxOf (zs.take n) x)) ∧ w' = w := Any.slices_Index_int lays108 b off n c zs x w hz hbig hc
open Go.Lib in
theorem slices_Index_int_empty (a : Option Addr) (c : Nat) (x : Int) (w : World) :
    Calls Try.prog 51 #[.slice a 0 c, .int .i64 x] w fun e w' => e = .returned (.int .i64 (Lib.idxOf [] x)) ∧ w' = w := Any.slices_Index_int_empty lays108 a c x w
def lays111_ren : Go.Shelf.Ren := ⟨fun | 111 => 33 | n => n, fun | 28 => 22 | 3 => 3 | 4 => 4 | 0 => 0 | n => n, fun | n => n⟩
theorem lays111 : Go.Proofs.Lays.n111 Try.prog lays111_ren := {
  mixed := by kernel_rfl
  f111 := Try.func33.trans (congrArg some (by kernel_rfl))
  t0 := Try.underlying0
  a0 := Try.isAgg0
  z0 := Try.sizeOf0
  v0 := Try.zeroValue0
  t3 := Try.underlying3
  a3 := Try.isAgg3
  z3 := Try.sizeOf3
  v3 := Try.zeroValue3
  t4 := Try.underlying4
  a4 := Try.isAgg4
  z4 := Try.sizeOf4
  v4 := Try.zeroValue4
  t28 := Try.underlying22
  a28 := Try.isAgg22
  z28 := Try.sizeOf22
  v28 := Try.zeroValue22 }
open Go.RowKit Go.Lib in
theorem slices_Equal_int (b1 o1 n c b2 o2 m d : Nat) (xs ys : List Int) (w : World) (hx : n ≤ xs.length) (hy : m ≤ ys.length) (hbig : n ≤ 9223372036854775807) (hbig2 : m ≤ 9223372036854775807) (hc1 : ∀ j, j < xs.length → w.cell? ⟨b1, o1 + j, none⟩ = some (.int .i64 (xs.getD j 0))) (hc2 : ∀ j, j < ys.length → w.cell? ⟨b2, o2 + j, none⟩ = some (.int .i64 (ys.getD j 0))) :
    Calls Try.prog 33 #[.slice (some ⟨b1, o1, none⟩) n c, .slice (some ⟨b2, o2, none⟩) m d] w fun e w' => e = .returned (.bool (xs.take n == ys.take m)) ∧ ∃ q, w' = w.drewN q := Any.slices_Equal_int lays111 b1 o1 n c b2 o2 m d xs ys w hx hy hbig hbig2 hc1 hc2
open Go.RowKit Go.Lib in
theorem slices_Equal_int_empty (a1 a2 : Option Addr) (c m d : Nat) (w : World) (hbig2 : m ≤ 9223372036854775807) :
    Calls Try.prog 33 #[.slice a1 0 c, .slice a2 m d] w fun e w' => e = .returned (.bool (decide (m = 0))) ∧ w' = w := Any.slices_Equal_int_empty lays111 a1 a2 c m d w hbig2
def laysNm220_ren : Go.Shelf.Ren := ⟨fun | 20 => 48 | n => n, fun | 22 => 22 | 3 => 3 | 4 => 4 | 0 => 0 | n => n, fun | n => n⟩
theorem laysNm220 : Go.Proofs.Lays2.n20 Try.prog laysNm220_ren := {
  mixed := by kernel_rfl
  f20 := Try.func48.trans (congrArg some (by kernel_rfl))
  t0 := Try.underlying0
  a0 := Try.isAgg0
  z0 := Try.sizeOf0
  v0 := Try.zeroValue0
  t3 := Try.underlying3
  a3 := Try.isAgg3
  z3 := Try.sizeOf3
  v3 := Try.zeroValue3
  t4 := Try.underlying4
  a4 := Try.isAgg4
  z4 := Try.sizeOf4
  v4 := Try.zeroValue4
  t22 := Try.underlying22
  a22 := Try.isAgg22
  z22 := Try.sizeOf22
  v22 := Try.zeroValue22
  i3 := by kernel_rfl }
open Go.RowKit Go.Lib Go.Sort in
theorem slices_Compact_int (blk off cap : Nat) (zs : List Int) (w : World) (hH : Holds (Value.int .i64) w blk off zs.toArray) (hsz : zs.length ≤ 9223372036854775807) (hcap : zs.length ≤ cap) :
    Calls Try.prog 48 #[.slice (some ⟨blk, off, none⟩) zs.length cap] w fun e w' => e = .returned (.slice (some ⟨blk, off, none⟩) (Lib.compact zs).length cap) ∧ ∃ q, w' = putRow (Value.int .i64) (Sort.ahead w q) blk off (Lib.compact zs ++ List.replicate (zs.length - (Lib.compact zs).length) 0).toArray := Any.slices_Compact_int laysNm220 blk off cap zs w hH hsz hcap
open Go.RowKit Go.Lib Go.Sort in
theorem slices_Compact_int_empty (a : Option Addr) (cap : Nat) (w : World) :
    Calls Try.prog 48 #[.slice a 0 cap] w fun e w' => e = .returned (.slice a 0 cap) ∧ w' = w := Any.slices_Compact_int_empty laysNm220 a cap w
open Go.RowKit Go.Sort in
theorem slices_Sort_int_none (p : Option Addr) (cap : Nat) (w : World) :
    Calls Try.prog 47 #[.slice p 0 cap] w fun e w' => e = .returned (.tuple #[]) ∧ w' = w := Any.slices_Sort_int_none lays189 p cap w
end Go.Proofs.Ytlgoeegpgcilbaa
/-
  slices.Grow and slices.Concat of integers; package bits: together.
-/
namespace Go.Proofs.Ytlgoeegpgcilbaa
open Go.ChangeShapes Go.WideShapes Go.ChangeAt Go.RowKit
set_option maxRecDepth 20000

theorem gs_asc_eq : ∀ {l m : List Int}, l.Pairwise (· < ·) → m.Pairwise (· < ·) → (∀ x, x ∈ l ↔ x ∈ m) → l = m
  | [], [], _, _, _ => rfl
  | [], b :: m, _, _, h => by have := (h b).2 (List.mem_cons_self ..); simp at this
  | a :: l, [], _, _, h => by have := (h a).1 (List.mem_cons_self ..); simp at this
  | a :: l, b :: m, hl, hm, h => by
    have hl1 := List.pairwise_cons.1 hl
    have hm1 := List.pairwise_cons.1 hm
    have e : a = b := by
      rcases List.mem_cons.1 ((h a).1 (List.mem_cons_self ..)) with e | ha
      · exact e
      · rcases List.mem_cons.1 ((h b).2 (List.mem_cons_self ..)) with e | hb
        · exact e.symm
        · have := hm1.1 _ ha
          have := hl1.1 _ hb
          omega
    subst e
    refine congrArg (a :: ·) (gs_asc_eq hl1.2 hm1.2 fun x => ⟨fun hx => ?_, fun hx => ?_⟩)
    · rcases List.mem_cons.1 ((h x).1 (List.mem_cons_of_mem _ hx)) with e | hx2
      · have := hl1.1 _ hx; omega
      · exact hx2
    · rcases List.mem_cons.1 ((h x).2 (List.mem_cons_of_mem _ hx)) with e | hx2
      · have := hm1.1 _ hx; omega
      · exact hx2
theorem gs_arr {zs : List Int} {j : Nat} (h : j < zs.length) : zs.toArray[j]! = zs[j] := by simp [h]
theorem gs_compact_mem {zs : List Int} {x : Int} : x ∈ Lib.compact zs ↔ x ∈ zs := by
  unfold Lib.compact Lib.compactUpTo
  rw [List.mem_map]
  constructor
  · rintro ⟨j, hj, rfl⟩
    have hj := List.mem_range.1 (List.mem_filter.1 hj).1
    rw [gs_arr hj]
    exact List.getElem_mem hj
  · intro hx
    obtain ⟨j, hj, rfl⟩ := List.getElem_of_mem hx
    induction j with
    | zero => exact ⟨0, List.mem_filter.2 ⟨List.mem_range.2 hj, by simp [Lib.keeps]⟩, gs_arr hj⟩
    | succ j ih =>
      by_cases hk : Lib.keeps zs.toArray (j + 1) = true
      · exact ⟨j + 1, List.mem_filter.2 ⟨List.mem_range.2 hj, hk⟩, gs_arr hj⟩
      · have e : zs[j + 1] = zs[j] := by
          refine Classical.byContradiction fun hne => hk (Lib.keeps_pos ?_)
          rw [gs_arr hj, Nat.add_sub_cancel, gs_arr (show j < zs.length by omega)]
          exact hne
        obtain ⟨i, hi, he⟩ := ih (by omega) (List.getElem_mem _)
        exact ⟨i, hi, he.trans e.symm⟩
theorem gs_compact_asc {zs : List Int} (h : zs.Pairwise (· ≤ ·)) : (Lib.compact zs).Pairwise (· < ·) := by
  have hp := List.pairwise_iff_getElem.1 h
  unfold Lib.compact Lib.compactUpTo
  rw [List.pairwise_map]
  refine List.Pairwise.imp_of_mem ?_ (List.Pairwise.filter _ List.pairwise_lt_range)
  intro a b ha hb hab
  have hbl := List.mem_range.1 (List.mem_filter.1 hb).1
  have hk := (List.mem_filter.1 hb).2
  have hne : zs.toArray[b]! ≠ zs.toArray[b - 1]! := by
    simp only [Lib.keeps, decide_eq_true_eq] at hk
    rcases hk with h0 | hk
    · omega
    · exact hk
  rw [gs_arr hbl, gs_arr (show b - 1 < zs.length by omega)] at hne
  rw [gs_arr hbl, gs_arr (show a < zs.length by omega)]
  have h1 : zs[b - 1] ≤ zs[b] := hp (b - 1) b (by omega) hbl (by omega)
  have h2 : zs[a] ≤ zs[b - 1] := by
    rcases Nat.lt_or_eq_of_le (show a ≤ b - 1 by omega) with h | h
    · exact hp a (b - 1) (by omega) (by omega) h
    · simp only [h]; exact Int.le_refl _
  have h3 : zs[b] ≠ zs[b - 1] := hne
  omega
/-- What stands in two rising lists, sorted and without what is there twice: the variables of both. -/
theorem gs_together {a b : List Nat} (ha : ∀ x ∈ a, x < 34) (hb : ∀ x ∈ b, x < 34) : Lib.compact ((natsI a ++ natsI b).mergeSort fun x y => decide (x ≤ y)) = natsI (Bf.bothF a b) := by
  refine gs_asc_eq (gs_compact_asc ?_) ?_ fun x => ?_
  · refine List.Pairwise.imp ?_ (List.pairwise_mergeSort (le := fun x y : Int => decide (x ≤ y)) (fun x y z h1 h2 => by simp only [decide_eq_true_eq] at h1 h2 ⊢; omega) (fun x y => by simp only [Bool.or_eq_true, decide_eq_true_eq]; omega) _)
    intro x y h
    simpa using h
  · unfold natsI
    rw [List.pairwise_map]
    refine List.Pairwise.imp ?_ (show (Bf.bothF a b).Pairwise (· < ·) from List.Pairwise.filter _ List.pairwise_lt_range)
    intro x y h
    omega
  · rw [gs_compact_mem, List.mem_mergeSort, List.mem_append]
    simp only [natsI, List.mem_map]
    constructor
    · rintro (⟨n, hn, rfl⟩ | ⟨n, hn, rfl⟩)
      · exact ⟨n, Bf.both_mem.2 ⟨ha n hn, .inl hn⟩, rfl⟩
      · exact ⟨n, Bf.both_mem.2 ⟨hb n hn, .inr hn⟩, rfl⟩
    · rintro ⟨n, hn, rfl⟩
      rcases (Bf.both_mem.1 hn).2 with h | h
      · exact .inl ⟨n, h, rfl⟩
      · exact .inr ⟨n, h, rfl⟩

theorem zcells_one (l : List Int) : ∀ u ∈ zcells l, u.oneCell' = true := by
  intro u hu
  obtain ⟨x, _, rfl⟩ := List.mem_map.1 hu
  rfl
theorem NRow.src_m {w : World} {v : Value} {l : List Int} {n : Nat} (h : NRow .i64 w v l) (hn : n = l.length) : SrcAt w 1 v n (zcells l) := by
  subst hn
  obtain ⟨ao, cap, rfl, h⟩ := h
  refine ⟨ao, cap, rfl, by simp [zcells], fun h0 => ?_, fun ad had j u hu => ?_⟩
  · rcases h with rfl | ⟨b, off, rfl, _⟩
    · rfl
    · cases h0
  · rcases h with rfl | ⟨b, off, rfl, _, hc⟩
    · simp [zcells] at hu
    · cases had
      have hj : j < l.length := by have := (List.getElem?_eq_some_iff.1 hu).1; simpa [zcells] using this
      rw [Addr.add_lit, hc j hj]
      simpa [zcells, hj] using hu
set_option maxHeartbeats 4000000 in
set_option maxRecDepth 100000 in
theorem gsgrow_any (n : Nat) (w : World) (hn : n ≤ 5000) :
    Calls Try.prog 55 #[.slice none 0 0, .int .i64 (n : Nat)] w fun e w' => (∃ v, e = .returned v ∧ w'.ownsRow w.heap.size 3 1 v 0 []) ∧ Below w.heap.size w w' := by
  obtain ⟨i0, hi, hz0, hz1, hz2⟩ := info_parts infoJ
  by_cases h0 : n = 0
  · subst h0
    go_enter Try.func55, Try.ntmps55
    go_wp2_with fail
    go_ret
    exact ⟨⟨_, rfl, rfl, .inl ⟨rfl, rfl⟩⟩, Below.refl _ _⟩
  · have h1 : (0 : Int) < n := by omega
    have hfit : Builtin.nextslicecap (0 + n) 0 * i0.bytes ≤ 281474976710656 := growslice_fits (by omega) (by rw [hz2]; omega)
    have hr : ∀ ty, (Builtin.append_ #[22, 3] ty #[.slice none 0 0, .int .i64 (n : Nat)]).run Try.prog w = _ := fun ty =>
      Lib.run_append_grow_zeros w 22 3 ty 3 i0 (.int .i64 0) .i64 .i64 Try.underlying22 Try.underlying3 hi hz0 none 0 0 [] (run_firstCells_none w.drew i0.size 0 0 0) n (by omega) (by omega) (by omega) (by omega) (by rw [hz2]; omega) hfit
    have hG := grownCap_ge w (0 + n) 0 3
    have hG2 := grownCap_le_maxLen w (0 + n) 0 3 (by unfold maxLen; omega)
    generalize grownCap w (0 + n) 0 3 = G at hr hG hG2
    have hsz : (#[] ++ Builtin.zeroCells (Value.int .i64 0).cells n ++ Builtin.zeroCells (Value.int .i64 0).cells (G - (0 + n))).size = G * 1 := by
      rw [Array.size_append, Array.size_append, size_zeroCells, size_zeroCells]
      simp [Value.cells]
      omega
    have hr' : ∀ ty, (Builtin.append_ #[22, 3] ty #[.slice none 0 0, .int .i64 (n : Nat)]).run Try.prog w = .ok (.slice (some ⟨w.heap.size, 0, none⟩) (0 + n) G) (w.drew.alloc (.cells (#[] ++ Builtin.zeroCells (Value.int .i64 0).cells n ++ Builtin.zeroCells (Value.int .i64 0).cells (G - (0 + n))) 3)) := hr
    clear hr hfit
    generalize (#[] ++ Builtin.zeroCells (Value.int .i64 0).cells n ++ Builtin.zeroCells (Value.int .i64 0).cells (G - (0 + n))) = cs at hr' hsz
    rw [Nat.zero_add] at hr' hG
    have HEnd : Hid ((∃ v, (Ending.returned (.slice (some ⟨w.heap.size, 0, none⟩) 0 G)) = .returned v ∧ (w.drew.alloc (.cells cs 3)).ownsRow w.heap.size 3 1 v 0 []) ∧ Below w.heap.size w (w.drew.alloc (.cells cs 3))) := Lib.hid
      ⟨⟨_, rfl, by simp, .inr ⟨w.heap.size, G, cs, rfl, Nat.le_refl _, heap_alloc_new w.drew _, by omega, hG2, hsz, by simp⟩⟩, ba _ (bdN (Below.refl w.heap.size w) 1)⟩
    have hG3 : G ≤ 9223372036854775807 := by unfold maxLen at hG2; omega
    have hG4 : n ≤ G := hG
    clear hsz hG hG2 hi hz0 hz1 hz2
    go_enter Try.func55, Try.ntmps55
    go_wp2_with (at_builtin; refine Lib.wpList_append_run _ rfl _ _ _ _ rfl _ _ rfl rfl _ _ (hr' _) ?_)
    all_goals (go_ret; exact HEnd.out)
/-- Of two slices, the first so many. -/
def gsumN (a b : Nat) : Nat → Nat
  | 0 => 0
  | 1 => a
  | _ => a + b
def gcatN (k l : List Int) : Nat → List Int
  | 0 => []
  | 1 => k
  | _ => k ++ l
set_option maxHeartbeats 4000000 in
/-- What stands in two slices, one behind the other. -/
theorem gsconcat_any (u v : Value) (k l : List Int) (g cap : Nat) (w : World) (hk : NRow .i64 w u k) (hl : NRow .i64 w v l) (c0 : w.cell? ⟨g, 0, none⟩ = some u) (c1 : w.cell? ⟨g, 1, none⟩ = some v) (hg : g < w.heap.size) (hn : k.length + l.length ≤ 5000) :
    Calls Try.prog 46 #[.slice (some ⟨g, 0, none⟩) 2 cap] w fun e w' => (∃ r, e = .returned r ∧ w'.ownsRow w.heap.size 3 1 r (k.length + l.length) (zcells (k ++ l))) ∧ Below w.heap.size w w' := by
  obtain ⟨i0, hi, hz0, hz1, hz2⟩ := info_parts infoJ
  obtain ⟨ao, ca, rfl⟩ := hk.shape
  obtain ⟨bo, cb, rfl⟩ := hl.shape
  obtain ⟨m, hm⟩ : ∃ m, m = k.length := ⟨_, rfl⟩
  obtain ⟨n, hnn⟩ : ∃ n, n = l.length := ⟨_, rfl⟩
  rw [← hm, ← hnn] at hn ⊢
  rw [← hm] at c0 hk
  rw [← hnn] at c1 hl
  have HK := Lib.hid hk
  have HL := Lib.hid hl
  have HM := Lib.hid hm
  have HN := Lib.hid hnn
  have C0 := Lib.hid c0
  have C1 := Lib.hid c1
  clear hk hl hm hnn
  go_enter Try.func46, Try.ntmps46
  go_wp2_with fail
  go_loopw [3, 11] (fun z i wr => ∃ r : Nat, r ≤ 2 ∧ i = .int .i64 r ∧ z = .int .i64 (gsumN m n r : Nat) ∧ w = wr) (fun _ i _ => 2 - (intOf i).toNat)
  case atStart => exact ⟨0, by omega, rfl, rfl, rfl⟩
  case round =>
    obtain ⟨r, hr, rfl, rfl, rfl⟩ := hrel
    match r, hr with
    | 0, _ =>
      have hs : ((gsumN m n 0 : Nat) : Int) = 0 := rfl
      rw [hs]
      clear c1
      go_wp2_with fail
      go_roundw
      case rel => exact ⟨1, by omega, rfl, by show _ = Value.int .i64 ((m : Nat) : Int); go_num, trivial⟩
      case measure => simp [intOf]
    | 1, _ =>
      have hs : ((gsumN m n 1 : Nat) : Int) = m := rfl
      rw [hs]
      clear c0
      go_wp2_with fail
      go_roundw
      case rel => exact ⟨2, by omega, rfl, by show _ = Value.int .i64 ((m + n : Nat) : Int); go_num, trivial⟩
      case measure => simp [intOf]
    | 2, _ =>
      have hs : ((gsumN m n 2 : Nat) : Int) = ((m + n : Nat) : Int) := rfl
      rw [hs]
      clear c0 c1
      go_wp2_with fail
      refine (gsgrow_any (m + n) _ (by omega)).mono ?_
      rintro e w1 ⟨⟨v1, rfl, ho1⟩, hb1⟩
      have HO1 := Lib.hid ho1
      have HB1 := Lib.hid hb1
      clear ho1 hb1 hs
      go_wp2_with fail
      go_loopw [6, 27] (fun u i wr => ∃ r : Nat, r ≤ 2 ∧ i = .int .i64 r ∧ wr.ownsRow w.heap.size 3 1 u (gsumN m n r) (zcells (gcatN k l r)) ∧ Below w.heap.size w wr) (fun _ i _ => 2 - (intOf i).toNat)
      case atStart => exact ⟨0, by omega, rfl, HO1.out, HB1.out⟩
      case round =>
        obtain ⟨r, hr, rfl, ho, hb⟩ := hrel
        have HO := Lib.hid ho
        have HB := Lib.hid hb
        match r, hr with
        | 0, _ =>
          have c0 := (hb.cell (p := ⟨g, 0, none⟩) hg).trans C0.out
          have hsz := hb.size
          clear ho hb
          go_wp2_with (at_builtin; refine wpList_append_src _ rfl _ _ 22 rfl w.heap.size 3 i0 (.int .i64 0) 1 8 Try.underlying22 hi hz0 hz1 hz2 rfl (by decide) _ 0 [] rfl HO.out _ m (zcells k) rfl (NRow.src_m (HK.out.below HB.out) HM.out) (zcells_one k) (by unfold maxLen; omega) (by omega) hsz ?_)
          intro v2 w2 hown hgrow
          have HB2 := Lib.hid (grown_below HB.out HO.out hgrow hsz)
          have HO2 := Lib.hid hown
          clear hown hgrow c0 hsz
          go_wp2_with fail
          go_roundw
          case rel => exact ⟨1, by omega, rfl, by have h := HO2.out; simpa [gsumN, gcatN] using h, HB2.out⟩
          case measure => simp [intOf]
        | 1, _ =>
          have c1 := (hb.cell (p := ⟨g, 1, none⟩) hg).trans C1.out
          have hsz := hb.size
          clear ho hb
          go_wp2_with (at_builtin; refine wpList_append_src _ rfl _ _ 22 rfl w.heap.size 3 i0 (.int .i64 0) 1 8 Try.underlying22 hi hz0 hz1 hz2 rfl (by decide) _ m (zcells k) rfl HO.out _ n (zcells l) rfl (NRow.src_m (HL.out.below HB.out) HN.out) (zcells_one l) (by unfold maxLen; omega) (by omega) hsz ?_)
          intro v2 w2 hown hgrow
          have HB2 := Lib.hid (grown_below HB.out HO.out hgrow hsz)
          have HO2 := Lib.hid hown
          clear hown hgrow c1 hsz
          go_wp2_with fail
          go_roundw
          case rel => exact ⟨2, by omega, rfl, by have h := HO2.out; rw [← zcells_app] at h; exact h, HB2.out⟩
          case measure => simp [intOf]
        | 2, _ =>
          have HE := Lib.hid ho
          clear ho hb
          go_wp2_with fail
          go_ret
          exact ⟨⟨_, rfl, HE.out⟩, HB.out⟩
/-- Behind Sort and Compact: the row, and nothing below it has turned. -/
theorem gs_end {w0 w1 : World} {B C g cap n nn q : Nat} {os : Array Obj} {zs : List Int} (hown : w1.ownsRow C 3 1 (.slice (some ⟨g, 0, none⟩) n cap) n (zs.map (Value.int .i64))) (hbel : Below B w0 w1) (hlen : zs.length = n) (hB : B ≤ w1.heap.size) (hBC : B ≤ C) :
    NRow .i64 (Sort.putRow (Value.int .i64) (Sort.ahead (Sort.grow (Sort.putRow (Value.int .i64) (Sort.ahead w1 nn) g 0 (zs.mergeSort fun x y => decide (x ≤ y)).toArray) os) q) g 0 (Lib.compact (zs.mergeSort fun x y => decide (x ≤ y)) ++ List.replicate ((zs.mergeSort fun x y => decide (x ≤ y)).length - (Lib.compact (zs.mergeSort fun x y => decide (x ≤ y))).length) 0).toArray)
      (.slice (some ⟨g, 0, none⟩) (Lib.compact (zs.mergeSort fun x y => decide (x ≤ y))).length cap) (Lib.compact (zs.mergeSort fun x y => decide (x ≤ y))) ∧
    Below B w0 (Sort.putRow (Value.int .i64) (Sort.ahead (Sort.grow (Sort.putRow (Value.int .i64) (Sort.ahead w1 nn) g 0 (zs.mergeSort fun x y => decide (x ≤ y)).toArray) os) q) g 0 (Lib.compact (zs.mergeSort fun x y => decide (x ≤ y)) ++ List.replicate ((zs.mergeSort fun x y => decide (x ≤ y)).length - (Lib.compact (zs.mergeSort fun x y => decide (x ≤ y))).length) 0).toArray) := by
  have hl2 : (zs.mergeSort fun x y => decide (x ≤ y)).length = zs.length := List.length_mergeSort zs
  have hle := Lib.compact_length_le (zs.mergeSort fun x y => decide (x ≤ y))
  subst hlen
  rcases hown.2 with ⟨h0, _⟩ | ⟨g', cap', cur, hv, hbase, hb, h1, h2, h3, h4⟩
  · cases h0
  cases hv
  have hs := ownsRow_sortedI (n := nn) (os := os) (ts := zs.mergeSort fun x y => decide (x ≤ y)) hl2 hbase hb h1 h2 h3
  have hc := Lib.ownsRow_putRow (q := q) (k := (Lib.compact (zs.mergeSort fun x y => decide (x ≤ y))).length) (ys := Lib.compact (zs.mergeSort fun x y => decide (x ≤ y)) ++ List.replicate ((zs.mergeSort fun x y => decide (x ≤ y)).length - (Lib.compact (zs.mergeSort fun x y => decide (x ≤ y))).length) 0) hs (by simp; omega) (by omega)
  rw [List.take_left] at hc
  exact ⟨NRow.own hc rfl, Lib.below_putRow (hbel.grown (grownBy_sortedI _) hB (fun j hj => by cases hj; exact Nat.le_trans hBC hbase)) (Nat.le_trans hBC hbase)⟩
set_option maxHeartbeats 4000000 in
set_option maxRecDepth 100000 in
theorem btogether_any (v1 v2 : Value) (a b t s : List Nat) (w : World) (h1 : GF w v1 (natsI a) t) (h2 : GF w v2 (natsI b) s) (ha : ∀ x ∈ a, x < 34) (hb : ∀ x ∈ b, x < 34) (hn : a.length + b.length ≤ 5000) :
    Calls Try.prog 36 #[v1, v2] w fun e w' => ∃ u, e = .returned u ∧ NRow .i64 w' u (natsI (Bf.bothF a b)) ∧ Below w.heap.size w w' := by
  obtain ⟨s1, s2, rfl, hs1, hs2⟩ := h1
  obtain ⟨s3, s4, rfl, hs3, hs4⟩ := h2
  have HT := Lib.hid (gs_together ha hb)
  have HN : Hid ((natsI a).length + (natsI b).length ≤ 5000) := Lib.hid (by rw [natsI_len, natsI_len]; exact hn)
  clear ha hb hn
  generalize natsI (Bf.bothF a b) = R at *
  generalize natsI a = k at *
  generalize natsI b = l at *
  have H1 := Lib.hid hs1
  have H2 := Lib.hid hs3
  obtain ⟨ao1, cap1, rfl⟩ := hs1.shape
  obtain ⟨ao2, cap2, rfl⟩ := hs2.shape
  obtain ⟨ao3, cap3, rfl⟩ := hs3.shape
  obtain ⟨ao4, cap4, rfl⟩ := hs4.shape
  clear hs1 hs2 hs3 hs4
  obtain ⟨W, hW, x0, x1, hB⟩ := box2 w (.cells #[.slice ao1 k.length cap1, .slice ao2 (natsI t).length cap2] 25) (.cells #[.slice ao3 l.length cap3, .slice ao4 (natsI s).length cap4] 25)
  have HB := Lib.hid hB
  have y1 := (cell_in x0 0).trans rfl
  have y2 := (cell_in x0 1).trans rfl
  have y3 := (cell_in x1 0).trans rfl
  have y4 := (cell_in x1 1).trans rfl
  clear x0 x1 hB
  generalize (natsI t).length = T at *
  generalize (natsI s).length = S at *
  go_enter Try.func36, Try.ntmps36
  go_upto_region 1 with fail
  rw [← hW]
  clear hW
  go_wp2_with fail
  have hn1 := heap_alloc_new W (.cells #[.slice ao1 k.length cap1, .slice ao3 l.length cap3] 22)
  have HB0 := Lib.hid (ba (.cells #[.slice ao1 k.length cap1, .slice ao3 l.length cap3] 22) HB.out)
  refine (gsconcat_any _ _ k l W.heap.size 2 _ (H1.out.below HB0.out) (H2.out.below HB0.out) ((cell_in hn1 0).trans rfl) ((cell_in hn1 1).trans rfl) (by rw [size_alloc]; omega) HN.out).mono ?_
  rintro e w1 ⟨⟨r, rfl, ho⟩, hb1⟩
  have HO := Lib.hid ho
  have HB1 := Lib.hid (below2 HB0.out hb1)
  have HBo := Lib.hid hb1
  clear ho hb1 hn1 y1 y2 y3 y4
  rw [← List.length_append] at HO HN
  obtain ⟨Z, hZ⟩ : ∃ Z, Z = k ++ l := ⟨_, rfl⟩
  rw [← hZ] at HO HN HT
  clear hZ
  by_cases hnil : r = .slice none 0 0
  · have h0 : Z = [] := by
      obtain ⟨a, c, he⟩ := own_shape HO.out
      rw [hnil] at he
      injection he with _ he _
      exact List.eq_nil_of_length_eq_zero he.symm
    have hR : R = [] := by rw [← HT.out, h0, List.mergeSort_nil]; rfl
    subst hnil hR
    clear h0 HT HO HN
    go_wp2_with fail
    refine (slices_Sort_int_none none 0 _).mono ?_
    rintro e w2 ⟨rfl, rfl⟩
    go_wp2_with fail
    refine (slices_Compact_int_empty none 0 _).mono ?_
    rintro e w2 ⟨rfl, rfl⟩
    go_wp2_with fail
    go_ret
    exact ⟨_, rfl, NRow.nil _ _, HB1.out⟩
  · obtain ⟨g, cap, rfl, hbg, hgl, hncap, hcm, _, hH⟩ := Lib.holds_of_ownsRow (enc := Value.int .i64) HO.out hnil
    have HE := Lib.hid (fun nn os q => gs_end (nn := nn) (os := os) (q := q) (zs := Z) HO.out HB1.out rfl HB1.out.size HB0.out.size)
    rw [HT.out] at HE
    have HS : Hid ((Z.mergeSort fun x y => decide (x ≤ y)).length = Z.length) := Lib.hid (List.length_mergeSort Z)
    have HH := Lib.hid hH
    have HN2 : Z.length < 4611686018427387904 := by have := HN.out; omega
    clear hnil hH hbg HO hcm
    have HC := Lib.hid (fun nn os => slices_Compact_int g 0 cap (Z.mergeSort fun x y => decide (x ≤ y)) (Sort.grow (Sort.putRow (Value.int .i64) (Sort.ahead w1 nn) g 0 (Z.mergeSort fun x y => decide (x ≤ y)).toArray) os)
      (Sort.holds_grow (Value.int .i64) _ os g 0 _ (by simpa [Sort.putRow, Sort.mapBlock, Sort.ahead] using hgl) (Sort.holds_putRow (Value.int .i64) _ g 0 _ _ (Sort.holds_ahead (Value.int .i64) w1 nn g 0 _ HH.out) (by simp [HS.out])))
      (by rw [HS.out]; omega) (by rw [HS.out]; exact hncap))
    rw [HT.out, HS.out] at HC
    rw [HS.out] at HE
    have HSort := Lib.hid (slices_Sort_int g 0 cap Z _ HH.out hgl HN2)
    generalize (Z.mergeSort fun x y => decide (x ≤ y)) = M at *
    generalize Z.length = n at *
    go_wp2_with fail
    refine HSort.out.mono ?_
    rintro e w2 ⟨rfl, nn, os, hw2⟩
    have HCw := Lib.hid (HC.out nn os)
    have HEw := Lib.hid (HE.out nn os)
    rw [← hw2] at HCw HEw
    clear hw2 HC HE HSort
    go_wp2_with fail
    refine HCw.out.mono ?_
    rintro e w3 ⟨rfl, q, hw3⟩
    have HEq := Lib.hid (HEw.out q)
    rw [← hw3] at HEq
    clear hw3 HEw HCw
    go_wp2_with fail
    go_ret
    exact ⟨_, rfl, HEq.out⟩
end Go.Proofs.Ytlgoeegpgcilbaa
/-
  Package affine.
-/
namespace Go.Proofs.Ytlgoeegpgcilbaa
open Go.ChangeShapes Go.WideShapes Go.ChangeAt Go.RowKit
set_option maxRecDepth 100000

/-! ### Plain -/
theorem var_set {n : Nat} (hn : n < 34) : (constF 0).set (1 + n) 1 = varF n := by
  refine form_ext (by simp [(constF_ok (c := 0) (by omega)).1]) (varF_ok n).1 fun i hi => ?_
  rw [mAt_set _ _ i (by rw [(constF_ok (c := 0) (by omega)).1]; omega), varF, formOf_at hi, constF, formOf_at hi]
  by_cases h : i = 1 + n
  · rw [if_pos h, if_pos (by omega)]
  · rw [if_neg h, if_neg (show ¬ i = n + 1 by omega)]
    split <;> rfl
/-- The results: a form in a cell, and a number. -/
theorem results_forme {fn : Func} {p q : Tmp} (h : fn.results = #[.cell p 57, .tmp q]) {tmps : Array Value} {w : World} {g : Nat} {f : List Nat} {e : Value} (hf : f.length = 35)
    (hp : tmps.getD p undef = .pointer (some ⟨g, 0, none⟩)) (hq : tmps.getD q undef = e) (hG : w.heap[g]? = some (formB f)) : (results fn tmps).run Try.prog w = .ok (.tuple #[formV f, e]) w := by
  have hp' : tmps[p]?.getD undef = .pointer (some ⟨g, 0, none⟩) := by simpa using hp
  have hq' : tmps[q]?.getD undef = e := by simpa using hq
  simp [results, h, hp', hq', asAddr, run_loadVar_row w g 57 57 (numsC f) (0, 0) _ hG Try.underlying57 rfl (by rw [numsC_size, hf]; exact infoF)]
section
variable {ops : Array Oper} {rest : List Oper} {o : Oper} {a : Act} {w : World} {Q : Exit → Act → World → Prop}
end
section
variable {ops : Array Oper} {o : Oper} {a : Act} {S : World → Prop}
end
section
variable {ops : Array Oper} {rest : List Oper} {o : Oper} {a : Act} {w : World} {Q : Exit → Act → World → Prop}
end
/-! ### == on forms -/
/-- The results: an assignment in a cell, and a bool. -/
theorem results_rowb {fn : Func} {p q : Tmp} (h : fn.results = #[.cell p 27, .tmp q]) {tmps : Array Value} {w : World} {g : Nat} {v : List Nat} {e : Value} (hv : v.length = 34)
    (hp : tmps.getD p undef = .pointer (some ⟨g, 0, none⟩)) (hq : tmps.getD q undef = e) (hG : w.heap[g]? = some (rowB v)) : (results fn tmps).run Try.prog w = .ok (.tuple #[formV v, e]) w := by
  have hp' : tmps[p]?.getD undef = .pointer (some ⟨g, 0, none⟩) := by simpa using hp
  have hq' : tmps[q]?.getD undef = e := by simpa using hq
  simp [results, h, hp', hq', asAddr, run_loadVar_row w g 27 27 (numsC v) (0, 0) _ hG Try.underlying27 rfl (by rw [numsC_size, hv]; exact infoV)]
section
variable {o : Oper} {a : Act} {w : World} {K : Act → World → Prop} {Q : Exit → Act → World → Prop}
end

/-! ### Const, Var -/
theorem avar_in (n : Nat) (w : World) (hn : n < 34) : Calls Try.prog 26 #[.int .i64 (n : Nat)] w fun e w' => e = .returned (.tuple #[formV (varF n), .int .i64 0]) ∧ Below w.heap.size w w' := by
  have HS := Lib.hid (var_set hn)
  have HL := Lib.hid ((varF_ok n).1)
  obtain ⟨W, hW, h0, h1, hb⟩ := box2 w (formB (constF 0)) (formB (constF 0))
  have HX := Lib.hid h0
  have HY := Lib.hid h1
  have HB := Lib.hid hb
  obtain ⟨Q, hQ⟩ : ∃ Q, Q = bodyPost Try.prog Try.f26 (fun e w' => e = .returned (.tuple #[formV (varF n), .int .i64 0]) ∧ Below w.heap.size w w') := ⟨_, rfl⟩
  have HQ0 := Lib.hid hQ
  go_enter Try.func26, Try.ntmps26
  rw [← hQ]
  clear hQ h0 h1 hb
  go_wp2_with (first
    | (rw [zform, ← hW]; refine st_num (n := 1) HY.out (by rw [(constF_ok (c := 0) (by omega)).1]; omega) rfl rfl rfl rfl ?_; intro W2 hp2; have HP2 := Lib.hid hp2; clear hp2; rw [HS.out] at HP2)
    | (refine ld_form HP2.out.row HL.out rfl rfl rfl ?_)
    | (refine st_form (HP2.out.keep (by omega) HX.out) rfl HL.out rfl rfl rfl rfl ?_; intro W3 hp3; have HP3 := Lib.hid hp3; clear hp3))
  (try simp only [Exit.inBlock, Exit.then])
  rw [HQ0.out]
  exact bodyPost_ret (results_forme rfl HL.out rfl rfl HP3.out.row) rfl ⟨rfl, HP3.out.below (HP2.out.below HB.out (by omega)) (Nat.le_refl _)⟩
theorem avar_out (n : Int) (w : World) (hn : n < 0 ∨ 33 < n) : Calls Try.prog 26 #[.int .i64 n] w fun e w' => e = .returned (.tuple #[formV (constF 0), .int .i64 1]) ∧ Below w.heap.size w w' := by
  have HL := Lib.hid ((constF_ok (c := 0) (by omega)).1)
  have HX := Lib.hid (heap_alloc_new w (formB (constF 0)))
  have HB := Lib.hid (ba (formB (constF 0)) (Below.refl w.heap.size w))
  obtain ⟨Q, hQ⟩ : ∃ Q, Q = bodyPost Try.prog Try.f26 (fun e w' => e = .returned (.tuple #[formV (constF 0), .int .i64 1]) ∧ Below w.heap.size w w') := ⟨_, rfl⟩
  have HQ0 := Lib.hid hQ
  by_cases h0 : n < 0
  · have g0 : decide (n < 0) = true := decide_eq_true h0
    go_enter Try.func26, Try.ntmps26
    rw [← hQ]
    clear hQ hn
    go_wp2_with (refine st_form HX.out rfl HL.out rfl rfl rfl rfl ?_; intro W3 hp3; have HP3 := Lib.hid hp3; clear hp3)
    (try simp only [Exit.inBlock, Exit.then])
    rw [HQ0.out]
    exact bodyPost_ret (results_forme rfl HL.out rfl rfl HP3.out.row) rfl ⟨rfl, HP3.out.below HB.out (Nat.le_refl _)⟩
  · have g0 : decide (n < 0) = false := decide_eq_false h0
    have g1 : (34 : Int) ≤ n := by omega
    go_enter Try.func26, Try.ntmps26
    rw [← hQ]
    clear hQ hn
    go_wp2_with (refine st_form HX.out rfl HL.out rfl rfl rfl rfl ?_; intro W3 hp3; have HP3 := Lib.hid hp3; clear hp3)
    (try simp only [Exit.inBlock, Exit.then])
    rw [HQ0.out]
    exact bodyPost_ret (results_forme rfl HL.out rfl rfl HP3.out.row) rfl ⟨rfl, HP3.out.below HB.out (Nat.le_refl _)⟩

/-! ### Add, Mul, Eval -/
/-! ### Constant -/
/-! ### Single -/
/-! ### Sub -/
/-! ### Apart -/
section
variable {o : Oper} {a : Act} {w : World} {K : Act → World → Prop} {Q : Exit → Act → World → Prop}
end
end Go.Proofs.Ytlgoeegpgcilbaa
