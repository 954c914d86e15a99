/-
  What the laws' texts use, joined.
-/
import Derived.Test.YtbekkdhlfkongaaGreatDoorProg
import Derived.WalkKit
import Derived.ProofKit
import Derived.Lib.Hide
import Derived.Laws.Rows
import Derived.Laws.ResultCell
import Derived.Laws.Entries
import Derived.Handy
import Derived.OwnWalk
import Derived.Laws.OwnMore
import Derived.Deep.Draws
import Derived.Laws.IdiomStrings
import Derived.Lib.BufferRead
import Derived.Maps.OwnSet
import Derived.Laws.BitsAllLaws
import Derived.RowKit
import Derived.Lib.QuietBelow
import Derived.Lib.OthersKept
import Derived.BigQuiet
import Derived.IntWalk
import Derived.Deep.RegionHeld3
import Derived.BigRegion
import Derived.Laws.Tables
import Derived.Deep.DeepCutAuto
import Derived.Deep.QuietTactic
import Derived.Test.YtbekkdhlfkongaaGreatDoorRows
import Derived.OpenShut
import Derived.Carry
import Derived.Deep.DeepHandedRow
import Derived.Lib.SmallJoins
import Derived.WalkMore
import Derived.Shelf.Strings.Builder1
import Derived.Shelf.Strings.Search1
import Derived.Lib.IndexLaws
import Derived.Lib.AppendZerosOnto
import Derived.Lib.SliceRun
import Derived.Deep.RegionWith
import Derived.Deep.Cut
import Derived.Deep.Slices
import Derived.RangeFuncNested
import Derived.RangeFuncBound
import Derived.RangeFuncCalls
import Derived.RangeFuncLeaves
import Derived.Shelf.Abstract
import Derived.Shelf.RegionOpen
import Derived.OwnWalkIn
import Derived.TacticsInMore
import Derived.LoopNIn
import Derived.LoopIn
import Derived.Sort.MapsRangeIn
import Derived.Sort.KeysCollected
import Derived.Maps.AppendAt
import Derived.RangeFuncBox
import Derived.RangeFuncFrom
import Derived.RangeFuncSeq
import Derived.Sort.WalkA
import Derived.CellFam
import Derived.Sort.WalkC
import Derived.Sort.LotC
import Derived.Deep.CutBlock
import Derived.Deep.LoopGhost
import Derived.Sort.WalkC4
import Derived.Sort.WalkA6
import Derived.Laws.Closers25b
import Derived.Laws.Bits64b
import Derived.Sort.WalkB2
import Derived.Sort.WalkB3
import Derived.Sort.LotB
import Derived.Sort.LotD3
import Derived.Maps.RangeWalk
import Derived.StringKeys
import Derived.Lib.Split
import Derived.Deep.OwnRows
import Derived.Laws.Strings3
import Derived.Lib.Join
import Derived.Lib.MakeNoZero
import Derived.Lib.Builder
import Derived.Laws.IdiomCopy
import Derived.Test.YtbekkdhlfkongaaGreatDoorCards
import Derived.Test.YtbekkdhlfkongaaGreatDoorTie
import Derived.Lib.LaidTab
import Derived.Stop.LaidErr
import Derived.Laws.RangeAny
import Derived.Deep.AppendLies
import Derived.Deep.RegionLaw
import Derived.Test.YtbekkdhlfkongaaGreatDoorPk1
import Derived.Test.YtbekkdhlfkongaaGreatDoorPk2
import Derived.Test.YtbekkdhlfkongaaGreatDoorPk3
import Derived.Test.YtbekkdhlfkongaaGreatDoorPk4
import Derived.Test.YtbekkdhlfkongaaGreatDoorPk5
import Derived.Test.YtbekkdhlfkongaaGreatDoorPk6
import Derived.Test.YtbekkdhlfkongaaGreatDoorPk7
import Derived.Test.YtbekkdhlfkongaaGreatDoorPk8
import Derived.Test.YtbekkdhlfkongaaGreatDoorPk9
/-
  What the places of machines put.
-/
namespace Go.Proofs.YtbekkdhlfkongaaGreatDoor
open Go.ChangeShapes Go.WideShapes Go.ChangeAt Go.RowKit Go.Shelf
set_option maxRecDepth 20000

theorem place_callsG {B b m : Nat} {fn1 lo : Nat} {rv : Value} {df : Nat} {w : World} {v : Value} {l : List (Gr × Value)} (h : GPl fn1 lo w b v l) {r : LS × Int} {G : World → Prop} (hc : ∀ V, G V → PCalls v V (fun e w' => LEnd B V b rv df m r w' e)) :
    (v = otherV b ∧ ∀ V, G V → Calls Tryz.prog 31 #[ptrV b] V (fun e w' => LEnd B V b rv df m r w' e)) ∨
      (∃ a1 a2 a3, v = .func (.func fn1) #[] #[ptrV a1, ptrV a2, ptrV a3] ∧ ∀ V, G V → Calls Tryz.prog fn1 #[ptrV a1, ptrV a2, ptrV a3] V (fun e w' => LEnd B V b rv df m r w' e)) := by
  cases l with
  | nil =>
    have h : v = otherV b := h
    refine .inl ⟨h, fun V hV => ?_⟩
    have hh := hc V hV 31 #[ptrV b] #[] h
    rwa [show (#[ptrV b] ++ #[] : Array Value) = #[ptrV b] from rfl] at hh
  | cons q l =>
    obtain ⟨a1, a2, a3, _, e, _⟩ := h
    refine .inr ⟨a1, a2, a3, e, fun V hV => ?_⟩
    have hh := hc V hV fn1 #[] #[ptrV a1, ptrV a2, ptrV a3] e
    rwa [show (#[] ++ #[ptrV a1, ptrV a2, ptrV a3] : Array Value) = #[ptrV a1, ptrV a2, ptrV a3] from rfl] at hh
theorem costC_len : ∀ gs : List (Nat × List Rl), gs.length ≤ costC gs
  | [] => Nat.zero_le _
  | g :: gs => by
    have := costC_len gs
    rw [List.length_cons]
    unfold costC
    omega
set_option maxHeartbeats 16000000 in
set_option maxRecDepth 100000 in
theorem lmachs_any {B b m lo : Nat} {rv : Value} {df : Nat} (hdf : df < 4294967296) (hlo : b < lo) : ∀ (gl : List (Gr × Value)) (v : Value) (S : LS) (w : World), GPl 55 lo w b v gl → LwAt w b rv df m S → LwIn B b m w → ReadyL S →
    (∀ p ∈ gl, p.1.1 < 4294967296 ∧ RulesOk p.1.2 ∧ p.1.2.length ≤ 64) → (∀ p ∈ gl, SrcR B b w p) → S.s.c.length + costM (gl.map (·.1)) ≤ 3850 → PCalls v w (fun e w' => LEnd B w b rv df m (emitM df (gl.map (·.1)) S) w' e)
  | [], v, S, w, hp, h, hi, hr, _, _, hl => by
    have hp : v = otherV b := hp
    subst hp
    exact other_calls h hi hdf hr (by unfold costM at hl; simp at hl; omega)
  | p :: gl, v, S, w, hp, h, hi, hr, hok, hsrc, hl => by
    obtain ⟨pn, pg, pl, nv, rfl, bN, bG, bL, n1, n2, n3, hrest⟩ := hp
    intro f bd lb he
    cases he
    obtain ⟨⟨num, rs⟩, gv⟩ := p
    rw [List.map_cons] at hl ⊢
    unfold costM at hl
    simp only at hl bG
    obtain ⟨hnum, hrok, h64⟩ := hok ((num, rs), gv) List.mem_cons_self
    have hsr := hsrc ((num, rs), gv) List.mem_cons_self
    simp only at hnum hrok h64
    obtain ⟨go, gcap, gn, hgv⟩ : ∃ go gcap gn, gv = .slice go gn gcap := by
      obtain ⟨rl, _, _, hSl, _⟩ := hsr
      obtain ⟨a, c, e, _⟩ := hSl.now
      exact ⟨a, c, _, e⟩
    subst hgv
    have cL := bL.cell
    have cN := bN.cell
    have hpl : pl < w.heap.size := bL.lt
    have hblt : b < w.heap.size := h.1.lt
    have hgok := groups_ok hrok (key := Rl.nr) (fun x hx => hx.2.1)
    obtain ⟨i1, _⟩ := emitM_goes hdf (gl.map (·.1)) S hr (fun q hq => by obtain ⟨p, hp, rfl⟩ := List.mem_map.1 hq; have := hok p (List.mem_cons_of_mem _ hp); exact ⟨this.1, this.2.1⟩) (by omega)
    have il := i1.len
    obtain ⟨e1, _⟩ := emitC_goes hdf (groupsOf Rl.nr rs) _ (.inl i1.good) hgok (by omega)
    have el := e1.len
    have IH := lmachs_any hdf hlo gl nv S w hrest h hi hr (fun q hq => hok q (List.mem_cons_of_mem _ hq)) (fun q hq => hsrc q (List.mem_cons_of_mem _ hq)) (by omega)
    obtain ⟨r, hrr⟩ : ∃ r, r = emitM df ((num, rs) :: gl.map (·.1)) S := ⟨_, rfl⟩
    obtain ⟨R1, hR1⟩ : ∃ q, q = emitM df (gl.map (·.1)) S := ⟨_, rfl⟩
    obtain ⟨R2, hR2⟩ : ∃ q, q = emitC df (groupsOf Rl.nr rs) R1.1 := ⟨_, rfl⟩
    obtain ⟨R3, hR3⟩ : ∃ q, q = ownS R2 := ⟨_, rfl⟩
    have HE : Hid (r = putLS R3.1 (branchS R3.1.s 21 (num : Nat) R3.2 R1.2)) := Lib.hid (by rw [hrr, hR3, hR2, hR1]; rfl)
    have HE3 : Hid (R3 = putLS R2.1 (aheadS R2.1.s (ldX 0) R2.2)) := Lib.hid (by rw [hR3]; rfl)
    have G1 := Lib.hid (show GoodL R1.1 by rw [hR1]; exact i1.good)
    have l1 : R1.1.s.c.length ≤ S.s.c.length + costM (gl.map (·.1)) := by rw [hR1]; exact il.2
    have l2 : R2.1.s.c.length ≤ R1.1.s.c.length + costC (groupsOf Rl.nr rs) := by rw [hR2, hR1]; exact el.2
    have l3 : R2.1.s.c.length ≤ 3850 := by omega
    have l4 : R3.1.s.c.length ≤ 3880 := by
      have := (aheadS_len R2.1.s (ldX 0) R2.2).2
      rw [HE3.out]
      show (aheadS R2.1.s (ldX 0) R2.2).1.c.length ≤ _
      omega
    have lg := costC_len (groupsOf Rl.nr rs)
    have lg2 : (groupsOf Rl.nr rs).length ≤ 3850 := by omega
    rw [← hR1] at IH
    have HSH := Lib.hid (place_calls hrest IH)
    have HRC : Hid (∀ (lo' : Nat) (V : World) (v' : Value) (gl' : List (Gr × Value)), b < lo' → gl'.map (·.1) = groupsOf Rl.nr rs → GPl 96 lo' V b v' gl' → (∀ q ∈ gl', SrcR B b V q) → LwAt V b rv df m R1.1 → LwIn B b m V → PCalls v' V (fun e w' => LEnd B V b rv df m R2 w' e)) := Lib.hid (fun lo' V v' gl' hb' hgm hp' hsrc' h1 h2 => by
      rw [hR2, ← hgm]
      exact lcalls_any hdf hb' gl' v' R1.1 V hp' h1 h2 (.inl G1.out) (fun q hq => hgok _ (by rw [← hgm]; exact List.mem_map_of_mem hq)) hsrc' (by rw [hgm]; omega))
    have HI := Lib.hid hi
    have HSR := Lib.hid hsr
    have HRO := Lib.hid hrok
    have HGb := Lib.hid bG
    have HLb := Lib.hid bL
    simp only
    rw [← hrr]
    obtain ⟨x0, x1⟩ := groups_cells bG
    clear IH hrr hR1 hR2 hR3 i1 il e1 el hok hsrc hsr h hi hr hrest bG bL bN hl hrok hgok
    rcases HSH.out with ⟨rfl, HN⟩ | ⟨a1, a2, a3, rfl, HN⟩
    all_goals
      have HN := Lib.hid HN
      clear HSH
      go_enter Tryz.func55, Tryz.ntmps55
      go_wp2_with fail
      refine HN.out.mono ?_
      rintro e w1 ⟨rfl, hw1, hlr1⟩
      have HW1 := Lib.hid hw1
      have HLR1 := Lib.hid hlr1
      have hs1 := hlr1.size
      have hbs := HI.out.hsz
      clear HN cN x0 x1 cL hw1 hlr1
      have bG1 := HLR1.out.block HGb.out (by omega)
      have bL1 := HLR1.out.boxed HLb.out (by omega)
      have hplw : pl < w1.heap.size := by omega
      obtain ⟨x0, x1⟩ := groups_cells bG1
      have cL := bL1.cell
      have HGR : Hid (∀ V, Below w1.heap.size w1 V → Calls Tryz.prog 28 #[.slice go gn gcap, .func (.func 56) #[] #[]] V fun e w' => (∃ (v : Value) (gl : List (Gr × Value)), e = .returned v ∧ gl.map (·.1) = groupsOf Rl.nr rs ∧ (∀ q ∈ gl, ∃ ao k cap, q.2 = .slice ao k cap) ∧
          LStay B b w' (fun V => SlG V v gl.length (fun j => (gl[j]?.map fun p => [.int .u32 (p.1.1 : Nat), p.2]).getD [])) ∧ ∀ q ∈ gl, SrcR B b w' q) ∧ Below V.heap.size V w') := Lib.hid (fun V hV => zgrouped_any (.inr ⟨rfl, rfl⟩) _ (num, rs) V (by have := hV.size; omega) (by have := hV.size; omega) (HSR.out.next (HLR1.out.trans (LR.of_below hV (by omega)))) h64 (fun x hx => (HRO.out x hx).1))
      go_upto_region 2 with fail
      refine wp_region_held_drew (S := fun V => V.cell? ⟨pl, 0, none⟩ = some (ptrV b) ∧ V.cell? ⟨pg, 1, none⟩ = some (.slice go gn gcap)) (by kernel_rfl) ⟨cL, x1⟩ (fun hHeld => ?_)
      refine zheld_take (i := 0) (v := .pointer (some ⟨pg, 1, none⟩)) (some 9) rfl rfl (by kernel_rfl) (by kernel_rfl) (by kernel_rfl) (fun _ _ _ h => h) (.inl ⟨by rfl, fun V hV => by go_simp⟩) hHeld ?_
      simp only [Act.put, List.setIfInBounds_toArray, List.set_cons_zero, List.set_cons_succ]
      refine zheld_take (i := 1) (v := .slice go gn gcap) (some 10) rfl rfl (by kernel_rfl) (by kernel_rfl) (by kernel_rfl) (fun _ _ _ h => h) (.inl ⟨by rfl, fun V hV => by obtain ⟨_, s1⟩ := hV; go_simp⟩) hHeld ?_
      simp only [Act.put, List.setIfInBounds_toArray, List.set_cons_zero, List.set_cons_succ]
      refine zheld_take (i := 3) (v := ptrV b) (some 12) rfl rfl (by kernel_rfl) (by kernel_rfl) (by kernel_rfl) (fun _ _ _ h => h) (.inl ⟨by rfl, fun V hV => by obtain ⟨s0, _⟩ := hV; go_simp⟩) hHeld ?_
      simp only [Act.put, List.setIfInBounds_toArray, List.set_cons_zero, List.set_cons_succ]
      refine zheld_take (i := 4) (v := .func (.func 57) #[ptrV b] #[]) (some 13) rfl rfl (by kernel_rfl) (by kernel_rfl) (by kernel_rfl) (fun _ _ _ h => h) (.inl ⟨by rfl, fun V hV => by go_simp⟩) hHeld ?_
      simp only [Act.put, List.setIfInBounds_toArray, List.set_cons_zero, List.set_cons_succ]
      refine zheld_take (i := 5) (v := ptrV b) (some 14) rfl rfl (by kernel_rfl) (by kernel_rfl) (by kernel_rfl) (fun _ _ _ h => h) (.inl ⟨by rfl, fun V hV => by obtain ⟨s0, _⟩ := hV; go_simp⟩) hHeld ?_
      simp only [Act.put, List.setIfInBounds_toArray, List.set_cons_zero, List.set_cons_succ]
      refine zheld_take (i := 6) (v := otherV b) (some 15) rfl rfl (by kernel_rfl) (by kernel_rfl) (by kernel_rfl) (fun _ _ _ h => h) (.inl ⟨by rfl, fun V hV => by go_simp⟩) hHeld ?_
      simp only [Act.put, List.setIfInBounds_toArray, List.set_cons_zero, List.set_cons_succ]
      refine wpAnyH_ready (rs := [2]) (by kernel_rfl) (by simp) ?_
      refine AllReadyH.cons rfl (fun K hK => ?_) AllReadyH.nil
      go_simp
      refine (HGR.out _ (Below.refl w1.heap.size w1).drew).mono ?_
      rintro e w2 ⟨⟨v2, gl2, rfl, hgm, hgs, hgS, hgr⟩, hb2⟩
      have hb2' : Below w1.heap.size w1 w2 := below2 (Below.refl w1.heap.size w1).drew hb2
      have d0 := (hb2'.cell (p := ⟨pl, 0, none⟩) hplw).trans cL
      have d1 := (hb2'.cell (p := ⟨pg, 1, none⟩) (lt_of_block bG1)).trans x1
      go_simp
      refine hK.out _ _ ⟨d0, d1⟩ (fun hHeld => ?_)
      clear hK K hHeld
      refine wpAnyH_ready (rs := [7]) (by kernel_rfl) (by simp) ?_
      refine AllReadyH.cons rfl (fun K hK => ?_) AllReadyH.nil
      go_simp
      have hgl2 : gl2.length ≤ 100000 := by have := congrArg List.length hgm; rw [List.length_map] at this; omega
      have hs2 := hb2'.size
      refine (lKchain_any (B := B) (b := b) v2 gl2 hgs hgl2 w2 (by omega) (by omega) hgS).mono ?_
      rintro e w3 ⟨⟨v3, rfl, hv3⟩, hb3⟩
      have f0 := (hb3.cell (p := ⟨pl, 0, none⟩) (Nat.lt_of_lt_of_le hplw hb2'.size)).trans d0
      have f1 := (hb3.cell (p := ⟨pg, 1, none⟩) (Nat.lt_of_lt_of_le (lt_of_block bG1) hb2'.size)).trans d1
      go_simp
      refine hK.out _ _ ⟨f0, f1⟩ (fun hHeld => ?_)
      clear hK K
      refine zheld_take (i := 8) (v := v3) (some 5) rfl rfl (by kernel_rfl) (by kernel_rfl) (by kernel_rfl) (fun _ _ _ h => h) (.inl ⟨by rfl, fun V hV => by go_simp⟩) hHeld ?_
      simp only [Act.put, List.setIfInBounds_toArray, List.set_cons_zero, List.set_cons_succ]
      refine wpAnyH_done (by kernel_rfl) ?_ _
      clear hHeld
      have HB3 := Lib.hid (below2 hb2' hb3)
      have hs3 := HB3.out.size
      have HLR3 := Lib.hid (HLR1.out.trans (LR.of_below (B := B) (b := b) HB3.out (by omega)))
      have HW3 := Lib.hid (HW1.out.below HB3.out)
      have hlr23 : LR B b w2 w3 := LR.of_below hb3 (by omega)
      have HPR := Lib.hid (place_callsG hv3 (G := fun V => Below w3.heap.size w3 V) (r := R2) (B := B) (m := m) (rv := rv) (df := df) (fun V hV => HRC.out _ V v3 gl2 (by omega) hgm (hv3.lr (LR.of_below (B := B) (b := b) hV (by omega)) (by omega)) (fun q hq => ((hgr q hq).next hlr23).next (LR.of_below hV (by omega))) (HW3.out.below hV) (HI.out.next (HLR3.out.trans (LR.of_below hV (by omega))))))
      obtain ⟨ft3, bd3, lb3, hsh3⟩ := hv3.shape
      clear hv3 hb3 hb2 hb2' hlr23 hgm hgs hgS hgr d0 d1 f0 f1 x0 x1 cL bG1 bL1 HGR hsh3
      have bL3 := HLR3.out.boxed HLb.out (by omega)
      have bG3 := HLR3.out.block HGb.out (by omega)
      have cL := bL3.cell
      have hpl3 : pl < w3.heap.size := bL3.lt
      have hbs3 : B ≤ w3.drew.heap.size := Nat.le_trans hbs (Nat.le_trans hs1 hs3)
      obtain ⟨x0, x1⟩ := groups_cells bG3
      have HAH : Hid (∀ V, LwAt V b rv df m R2.1 → LwIn B b m V → Calls Tryz.prog 32 #[ptrV b, insV 32 0 0 0, .int .i64 R2.2] V fun e w' => e = .returned (.int .i64 R3.2) ∧ LwAt w' b rv df m R3.1 ∧ LR B b V w') := Lib.hid (fun V h1 h2 => by
        refine (dahead_any 32 0 0 0 R2.2 V h1.1 (by omega) h2.ops h2.opsAt.2).mono ?_
        rintro e w' ⟨rfl, hd, hc⟩
        rw [HE3.out]
        exact ⟨rfl, h1.draft hd hc h2.hne, LR.of_chg hc h2.hsz h2.hb⟩)
      have HBR : Hid (∀ V, LwAt V b rv df m R3.1 → LwIn B b m V → Calls Tryz.prog 58 #[ptrV b, .int .i64 21, .int .u32 (num : Nat), .int .i64 R3.2, .int .i64 R1.2] V fun e w' => e = .returned (.int .i64 r.2) ∧ LwAt w' b rv df m r.1 ∧ LR B b V w') := Lib.hid (fun V h1 h2 => by
        refine (dbranch_any 21 (num : Nat) R3.2 R1.2 V h1.1 (by omega) h2.ops).mono ?_
        rintro e w' ⟨rfl, hd, hc⟩
        rw [HE.out]
        exact ⟨rfl, h1.draft hd hc h2.hne, LR.of_chg hc h2.hsz h2.hb⟩)
      have HD3 : Hid (LR B b w3 w3.drew) := Lib.hid (LR.of_below (Below.refl w3.heap.size w3).drew (by omega))
      rcases HPR.out with ⟨rfl, HQ⟩ | ⟨c1, c2, c3, rfl, HQ⟩
      all_goals
        have HQ := Lib.hid HQ
        clear HPR
        go_upto_region 3 with fail
        go_region_held3 (fun V => V.cell? ⟨pl, 0, none⟩ = some (ptrV b)) (first | exact cL | exact d0 | exact dl | exact f0 | go_keep)
          (first
            | (go_at_call 33; refine (dload_any 0 _).mono ?_; rintro e wl ⟨rfl, hbl⟩; (try have hstl : LwAt wl b rv df m R2.1 ∧ LR B b w3 wl := ⟨hst.1.below hbl, hst.2.trans (LR.of_below hbl (Nat.le_trans hbs (Nat.le_trans hs1 (Nat.le_trans hs3 hst.2.size))))⟩); (try have dl := (hstl.2.boxed bL3 (Nat.ne_of_gt (Nat.lt_of_lt_of_le hlo n3))).cell); (try have dl := (hbl.cell (p := ⟨pl, 0, none⟩) hpl3).trans cL))
            | (go_at_call 31; refine (HQ.out _ ?_).mono ?_; (first | exact (Below.refl w3.heap.size w3).drew | exact below2 (Below.refl w3.heap.size w3).drew hbl); rintro e wc ⟨rfl, hwc, hlrc⟩; have hst : LwAt wc b rv df m R2.1 ∧ LR B b w3 wc := ⟨hwc, (by first | exact HD3.out.trans hlrc | exact (HD3.out.trans (LR.of_below hbl hbs3)).trans hlrc)⟩; have d0 := (hst.2.boxed bL3 (Nat.ne_of_gt (Nat.lt_of_lt_of_le hlo n3))).cell)
            | (go_at_call 96; refine (HQ.out _ ?_).mono ?_; (first | exact (Below.refl w3.heap.size w3).drew | exact below2 (Below.refl w3.heap.size w3).drew hbl); rintro e wc ⟨rfl, hwc, hlrc⟩; have hst : LwAt wc b rv df m R2.1 ∧ LR B b w3 wc := ⟨hwc, (by first | exact HD3.out.trans hlrc | exact (HD3.out.trans (LR.of_below hbl hbs3)).trans hlrc)⟩; have d0 := (hst.2.boxed bL3 (Nat.ne_of_gt (Nat.lt_of_lt_of_le hlo n3))).cell)
            | (go_at_call 32; refine (HAH.out _ ?_ ?_).mono ?_; (first | exact hstl.1 | exact hst.1); (first | exact HI.out.next (HLR3.out.trans hstl.2) | exact HI.out.next (HLR3.out.trans hst.2)); rintro e w9 ⟨rfl, hw9, hlr9⟩; have hst9 : LR B b w3 w9 := (by first | exact hstl.2.trans hlr9 | exact hst.2.trans hlr9); have f0 := (hst9.boxed bL3 (Nat.ne_of_gt (Nat.lt_of_lt_of_le hlo n3))).cell))
        all_goals
          have HW9 := Lib.hid hw9
          have HLR9 := Lib.hid (HLR3.out.trans hst9)
          have bL9 := HLR9.out.boxed HLb.out (Nat.ne_of_gt (Nat.lt_of_lt_of_le hlo n3))
          have bG9 := HLR9.out.block HGb.out (Nat.ne_of_gt (Nat.lt_of_lt_of_le hlo n2))
          have hs9 := HLR9.out.size
          clear hw9 hst9 hst hlr9 f0 hwc hlrc cL x0 x1 HQ HAH hbl
          have cL := bL9.cell
          obtain ⟨x0, x1⟩ := groups_cells bG9
          have HD9 : Hid (LR B b w9 w9.drew) := Lib.hid (LR.of_below (Below.refl w9.heap.size w9).drew (by omega))
          have HWd : Hid (LwAt w9.drew b rv df m R3.1) := Lib.hid (HW9.out.below (Below.refl w9.heap.size w9).drew)
          go_upto_region 4 with fail
          go_region_held3 (fun V => V.cell? ⟨pl, 0, none⟩ = some (ptrV b) ∧ V.cell? ⟨pg, 0, none⟩ = some (.int .u32 (num : Nat))) (first | exact ⟨cL, x0⟩ | exact ⟨f0, f1⟩ | go_keep)
            (first
              | (go_at_call 58; refine (HBR.out _ HWd.out (HI.out.next (HLR9.out.trans HD9.out))).mono ?_; rintro e w10 ⟨rfl, hw10, hlr10⟩; have f0 := ((HD9.out.trans hlr10).boxed bL9 (Nat.ne_of_gt (Nat.lt_of_lt_of_le hlo n3))).cell; have f1 := (groups_cells ((HD9.out.trans hlr10).block bG9 (Nat.ne_of_gt (Nat.lt_of_lt_of_le hlo n2)))).1))
          have HEnd : Hid (LEnd B w b rv df m r w10 (.returned (.int .i64 r.2))) := Lib.hid ⟨rfl, hw10, HLR9.out.trans (HD9.out.trans hlr10)⟩
          clear hw10 hlr10 f0 f1 x0 x1 cL bL9 bG9
          go_wp2_with fail
          go_ret
          exact HEnd.out
end Go.Proofs.YtbekkdhlfkongaaGreatDoor
/-
  What package names of the program answers: its tables are maps from names to numbers.
-/
namespace Go.Proofs.YtbekkdhlfkongaaGreatDoor
open Go.ChangeShapes Go.WideShapes Go.ChangeAt Go.RowKit
set_option maxRecDepth 20000

/-! ### A table as a map -/
/-- The elements of a map read as themselves. -/
def nmR : Value → Option (DataW Value × List MemPlace) := fun v => some (.held v, [])
theorem keyS : Go.Maps.Keyed Tryz.prog 9 := Go.Maps.string_keyed Tryz.underlying9
def nkey (s : ByteArray) : Lit := .string s.data.toList
def nval (n : Nat) : Value := .int .u32 n
theorem nkey_lit (s : ByteArray) : WideAt.IsKeyLit (nkey s) := by unfold nkey; exact True.intro
theorem nkey_inj {s t : ByteArray} (h : nkey s = nkey t) : s = t := by
  unfold nkey at h
  exact ByteArray.ext (Array.ext' (by simpa using h))
theorem keyOfS {s : ByteArray} (h : s.size ≤ maxLen) : keyOf Tryz.prog 9 (.string s) = some (nkey s) := WideMaps.keyOf_string_mk Tryz.underlying9 h
def tblPut : Tbl → DataW Value → DataW Value
  | [], D => D
  | p :: T, D => tblPut T (D.put (nkey p.1) (.held (nval p.2)))
def tblD (T : Tbl) : DataW Value := tblPut T (.map [])
theorem put_isMap {D : DataW Value} (h : Maps.IsMap D) (k : Lit) (v : DataW Value) : Maps.IsMap (D.put k v) := Maps.IsMap.put h k v
theorem has_tblPut : ∀ (T : Tbl) (D : DataW Value) (kl : Lit), Maps.IsMap D → (Maps.has (tblPut T D) kl = true ↔ (∃ p ∈ T, nkey p.1 = kl) ∨ Maps.has D kl = true)
  | [], D, kl, _ => by simp [tblPut]
  | p :: T, D, kl, hm => by
    have ih := has_tblPut T (D.put (nkey p.1) (.held (nval p.2))) kl (put_isMap hm _ _)
    show Maps.has (tblPut T _) kl = true ↔ _
    rw [ih]
    by_cases e : nkey p.1 = kl
    · subst e
      rw [Maps.has_put_same hm (nkey_lit _)]
      simp
    · rw [Maps.has_put_other (fun h => e h.symm)]
      simp [e]
theorem has_tbl (T : Tbl) (kl : Lit) : Maps.has (tblD T) kl = true ↔ ∃ p ∈ T, nkey p.1 = kl := by
  unfold tblD
  rw [has_tblPut T _ kl Maps.isMap_empty]
  constructor
  · rintro (h | h)
    · exact h
    · cases h
  · exact .inl
theorem at_miss : ∀ (T : Tbl) (D : DataW Value) (kl : Lit) (z : DataW Value), (∀ p ∈ T, nkey p.1 ≠ kl) → (tblPut T D).atKey kl z = D.atKey kl z
  | [], _, _, _, _ => rfl
  | p :: T, D, kl, z, h => by
    show (tblPut T _).atKey kl z = _
    rw [at_miss T _ kl z (fun q hq => h q (by simp [hq])), Maps.atKey_put_other (fun e => h p (by simp) e.symm)]
theorem at_hit : ∀ (T : Tbl) (D : DataW Value) (p : ByteArray × Nat) (z : DataW Value), tblGood T = true → p ∈ T → Maps.IsMap D → (tblPut T D).atKey (nkey p.1) z = .held (nval p.2)
  | q :: T, D, p, z, hT, hp, hm => by
    obtain ⟨h1, _, _, h4⟩ := tbl_cons hT
    show (tblPut T _).atKey _ z = _
    rcases List.mem_cons.1 hp with rfl | hp
    · rw [at_miss T _ _ z (fun r hr e => (h1 r hr).1 (nkey_inj e).symm), Maps.atKey_put_same hm (nkey_lit _)]
    · exact at_hit T _ p z h4 hp (put_isMap hm _ _)
theorem at_tbl {T : Tbl} (hT : tblGood T = true) {p : ByteArray × Nat} (hp : p ∈ T) (z : DataW Value) : (tblD T).atKey (nkey p.1) z = .held (nval p.2) := at_hit T _ p z hT hp Maps.isMap_empty
/-- A table, as it lies in a world. -/
def MAt (w : World) (v : Value) (T : Tbl) : Prop := (T = [] ∧ v = .map none) ∨ ∃ b, v = .map (some b) ∧ w.ownsMap Tryz.prog 9 nmR b T.length (tblD T)
theorem nmap_below {w w' : World} {b n : Nat} {D : DataW Value} (h : w.ownsMap Tryz.prog 9 nmR b n D) (hb : Below w.heap.size w w') : w'.ownsMap Tryz.prog 9 nmR b n D := by
  obtain ⟨es, clock, hh, r⟩ := h
  exact ⟨es, clock, (hb.block b (lt_of_block hh)).trans hh, r⟩
theorem MAt.below {w w' : World} {v : Value} {T : Tbl} (h : MAt w v T) (hb : Below w.heap.size w w') : MAt w' v T := h.imp id fun ⟨b, e, h⟩ => ⟨b, e, nmap_below h hb⟩
/-- The map while it is filled. -/
def NK (w0 : World) (b n : Nat) (D : DataW Value) (w : World) : Prop := w.ownsMap Tryz.prog 9 nmR b n D ∧ Below w0.heap.size w0 w ∧ w0.heap.size ≤ b
theorem nk_new (w : World) : NK w w.heap.size 0 (.map []) (w.alloc (.map #[] 0)) :=
  ⟨World.ownsMap_made w Tryz.prog 9 nmR, ba _ (Below.refl _ _), Nat.le_refl _⟩
theorem wpList_nins (w : World) {ops : Array Oper} {rest : List Oper} {o : Oper} {a : Act} {Q : Exit → Act → World → Prop}
    (hg : o.guard = none) (m x v : Operand) (hop : o.op = Op.insert 185 m x v) {w0 : World} {b n : Nat} {D : DataW Value}
    (hm : a.eval m = .map (some b)) (h : NK w0 b n D w) (hn : n < 100) (k : ByteArray) (hk : k.size ≤ 100) (hx : a.eval x = .string k) (y : Int) (hv : a.eval v = .int .u32 y) (z : Nat) (hz : y = z)
    (hK : ∀ w', NK w0 b (n + 1) (D.put (nkey k) (.held (nval z))) w' → wpList Tryz.prog ops Q rest (a.put o.dst undef) w') : wpList Tryz.prog ops Q (o :: rest) a w := by
  subst hz
  obtain ⟨h1, h2, h3⟩ := h
  refine wpList_insert_own w hg m x v _ hop _ _ keyS Tryz.underlying185 nmR b n D hm h1 (by unfold maxLen; omega) _ _ _ hx hv (keyOfS (by unfold maxLen; omega)) _ [] rfl ?_
  intro w' h1' hg'
  exact hK w' ⟨h1', h2.grown hg' h2.size (fun k hk => by cases hk; exact h3), h3⟩
/-- What a table's making ends with. -/
def MkEnd (T : Tbl) (w : World) (e : Ending) (w' : World) : Prop := ∃ v, e = .returned v ∧ MAt w' v T ∧ Below w.heap.size w w'
theorem mkEnd {T : Tbl} {w w' : World} {n : Nat} (h : NK w w.heap.size n (tblD T) w') (hn : n = T.length) : MkEnd T w (.returned (.map (some w.heap.size))) w' := by
  subst hn
  exact ⟨_, rfl, .inr ⟨_, rfl, h.1⟩, h.2.1⟩
/-! ### The three tables -/
def actTab : Tbl := [(bkillA, 0), (btrap, 196608), (blog, 2147221504), (ballow, 2147418112)]
theorem actTab_good : tblGood actTab = true := by decide
theorem actions_any (w : World) : Calls Tryz.prog 129 #[] w (MkEnd actTab w) := by
  have hend : ∀ w', NK w w.heap.size 4 (tblD actTab) w' → MkEnd actTab w (.returned (.map (some w.heap.size))) w' := fun w' h => mkEnd h rfl
  have hmm := @run_makeMap Tryz.prog
  have M0 := nk_new w
  go_enter Tryz.func129, Tryz.ntmps129
  go_wp2_with (first | (refine wpList_nins _ rfl _ _ _ rfl rfl (by assumption) (by omega) _ (by decide) rfl _ rfl _ rfl ?_; intro w' h') | go_in)
  go_ret
  exact hend _ (by assumption)
theorem eqN {m k : Nat} (h : m = k) : ((m : Int) == (k : Int)) = true := by simp [h]
theorem neN {m k : Nat} (h : m ≠ k) : ((m : Int) == (k : Int)) = false := by simp; omega
/-! ### A number's name -/
/-- What a look for a number's name ends with. -/
def NameEnd (T : Tbl) (n : Nat) (e : Ending) : Prop :=
  (∃ p ∈ T, p.2 = n ∧ e = .returned (.tuple #[.string p.1, .bool true])) ∨ ((∀ p ∈ T, p.2 ≠ n) ∧ e = .returned (.tuple #[.string ⟨#[]⟩, .bool false]))
theorem wpList_ntbl {T : Tbl} (hT : tblGood T = true) (w : World) {ops : Array Oper} {rest : List Oper} {o : Oper} {a : Act} {Q : Exit → Act → World → Prop}
    (hg : o.guard = none) (it : Operand) (hop : o.op = Op.next it false) (b r n : Nat) (left : Lit → Bool) (cnt : Nat) (hit : a.eval it = .pointer (some ⟨r, 0, none⟩))
    (h : w.ranges Tryz.prog 9 nmR b r n (tblD T) left cnt)
    (hDone : (∀ kl, left kl = false) → wpList Tryz.prog ops Q rest (a.put o.dst (.tuple #[.bool false])) w)
    (hMore : ∀ (p : ByteArray × Nat) (w' : World) (cnt' : Nat), p ∈ T → w'.ranges Tryz.prog 9 nmR b r n (tblD T) (fun z => left z && !z.sameKey (nkey p.1)) cnt' → cnt' < cnt → w.grownBy w' (some r) →
      (Instr.entry (.pointer (some ⟨r, 0, none⟩))).run Tryz.prog w' = .ok (.tuple #[.string p.1, .int .u32 (p.2 : Nat)]) w' → wpList Tryz.prog ops Q rest (a.put o.dst (.tuple #[.bool true, .string p.1, .int .u32 (p.2 : Nat)])) w') :
    wpList Tryz.prog ops Q (o :: rest) a w := by
  refine wpList_next_ranges w hg it hop 9 keyS nmR (fun s : ByteArray => Value.string s) (fun v : Value => v) (fun key kl hk => ?_) (fun v y _ => ⟨v, rfl⟩) b r n (tblD T) left cnt hit h (fun _ hl => hDone hl) ?_
  · obtain ⟨s, rfl, _, _⟩ := WideMaps.string_of_keyOf Tryz.underlying9 hk
    exact ⟨s, rfl⟩
  · intro x c kl y w' cnt' hk hl hR hat hrg hlt hgr _ hen
    obtain ⟨s, e, rfl, _⟩ := WideMaps.string_of_keyOf Tryz.underlying9 hk
    obtain rfl : x = s := by injection e
    have hh : Maps.has (tblD T) (nkey x) = true := Maps.has_true_of_atKey hat
    obtain ⟨p, hp, ep⟩ := (has_tbl T _).1 hh
    have ex := nkey_inj ep
    subst ex
    have hv := hat (.held .nilFunc)
    have h2 := at_tbl hT hp (.held .nilFunc)
    unfold nkey at h2
    rw [h2] at hv
    unfold nmR at hR
    simp only [Option.some.injEq] at hR
    subst hR
    simp only [DataW.held.injEq] at hv
    subst hv
    exact hMore p w' cnt' hp hrg hlt hgr hen
theorem nameOf_nil (n : Nat) (w : World) : Calls Tryz.prog 128 #[.map none, .int .u32 n] w fun e w' => e = .returned (.tuple #[.string ⟨#[]⟩, .bool false]) ∧ Below w.heap.size w w' := by
  have hrg := run_range_nilMap (P := Tryz.prog) w 185 9 23 Tryz.underlying185
  have hnx : ∀ ty, (Instr.next (.pointer (some ⟨w.heap.size, 0, none⟩)) false ty).run Tryz.prog (w.alloc (.mapIter none 0 #[] 0)) = _ := fun ty => run_next_nilMap w ty 0 0 #[]
  go_enter Tryz.func128, Tryz.ntmps128
  go_wp2
  refine wp_loop_rounds 1 ?_
  rw [rounds_succ]
  go_wp2
  go_ret2
  exact ⟨rfl, ba _ (Below.refl _ _)⟩
/-- What has not been found so far. -/
def Past (T : Tbl) (left : Lit → Bool) (n : Nat) : Prop := ∀ p ∈ T, left (nkey p.1) = false → p.2 ≠ n
theorem past_start (T : Tbl) (n : Nat) : Past T (Maps.has (tblD T)) n := fun p hp h => by
  rw [(has_tbl T _).2 ⟨p, hp, rfl⟩] at h
  cases h
theorem past_step {T : Tbl} (hT : tblGood T = true) {left : Lit → Bool} {n : Nat} (h : Past T left n) {p : ByteArray × Nat} (hp : p ∈ T) (hn : p.2 ≠ n) : Past T (fun z => left z && !z.sameKey (nkey p.1)) n := fun q hq e => by
  cases hl : left (nkey q.1)
  · exact h q hq hl
  · have e2 : (left (nkey q.1) && !(nkey q.1).sameKey (nkey p.1)) = false := e
    rw [hl] at e2
    have e3 : (nkey q.1).sameKey (nkey p.1) = true := by simpa using e2
    rw [tbl_names hT hq hp (nkey_inj (WideAt.sameKey_eq e3))]
    exact hn
theorem nameOf_some {T : Tbl} (hT : tblGood T = true) (b n : Nat) (w : World) (hown : w.ownsMap Tryz.prog 9 nmR b T.length (tblD T)) :
    Calls Tryz.prog 128 #[.map (some b), .int .u32 n] w fun e w' => NameEnd T n e ∧ Below w.heap.size w w' := by
  have HTG := Lib.hid hT
  go_enter Tryz.func128, Tryz.ntmps128
  go_wp2_with (first
    | (at_range; refine wpList_range_own _ rfl _ 185 rfl 9 23 keyS Tryz.underlying185 _ b _ _ rfl hown ?_; intro w0 hrg0 hg0 hs0)
    | go_in)
  go_frame
  have hb0 : Below w.heap.size w w0 := (Below.refl _ _).grown hg0 (Nat.le_refl _) (fun k hk => by cases hk)
  clear hg0 hs0 hT hown
  go_loopw [6, 7] (fun _ _ wr => ∃ (left : Lit → Bool) (cnt : Nat), wr.ranges Tryz.prog 9 nmR b w.heap.size T.length (tblD T) left cnt ∧ Below w.heap.size w wr ∧ Past T left n)
    (fun _ _ wr => wr.rangeLeft b w.heap.size)
  case atStart => exact ⟨_, _, hrg0, hb0, past_start T n⟩
  case round =>
    obtain ⟨left, cnt, hrg, hbw, hpa⟩ := hrel
    have HB := Lib.hid hbw
    have HP := Lib.hid hpa
    clear hrg0 hb0 hbw hpa
    go_wp2_with (first
      | (at_next; refine wpList_ntbl HTG.out _ rfl _ rfl b w.heap.size _ _ _ rfl hrg ?_ ?_)
      | go_in)
    · intro hl
      have HE : Hid (NameEnd T n (.returned (.tuple #[.string ⟨#[]⟩, .bool false]))) := Lib.hid (.inr ⟨fun p hp => HP.out p hp (hl _), rfl⟩)
      clear hl
      go_wp2
      go_ret2
      exact ⟨HE.out, HB.out⟩
    · intro pk pn w1 cnt1 hp hrg1 hlt hgr hen
      have HB1 : Hid (Below w.heap.size w w1) := Lib.hid (HB.out.grown hgr HB.out.size (fun k hk => by cases hk; exact Nat.le_refl _))
      have HM := Lib.hid (show w1.rangeLeft b w.heap.size < wr.rangeLeft b w.heap.size by rw [hrg1.left_eq, hrg.left_eq]; exact hlt)
      have HRG := Lib.hid hrg1
      clear hgr hlt hrg hrg1
      by_cases hq : pn = n
      · have hqd : ((pn : Int) == (n : Int)) = true := eqN hq
        have HE : Hid (NameEnd T n (.returned (.tuple #[.string pk, .bool true]))) := Lib.hid (.inl ⟨(pk, pn), hp, hq, rfl⟩)
        clear hq hp
        go_wp2
        go_ret2
        exact ⟨HE.out, HB1.out⟩
      · have hqd : ((pn : Int) == (n : Int)) = false := neN hq
        have HP1 := Lib.hid (past_step HTG.out HP.out hp hq)
        clear hq hp
        go_wp2
        go_roundw
        case rel => exact ⟨_, _, HRG.out, HB1.out, HP1.out⟩
        case measure => exact HM.out
theorem nameOf_any {T : Tbl} (hT : tblGood T = true) (v : Value) (n : Nat) (w : World) (hv : MAt w v T) :
    Calls Tryz.prog 128 #[v, .int .u32 n] w fun e w' => NameEnd T n e ∧ Below w.heap.size w w' := by
  rcases hv with ⟨rfl, rfl⟩ | ⟨b, rfl, h⟩
  · refine (nameOf_nil n w).mono ?_
    rintro e w' ⟨rfl, hb⟩
    exact ⟨.inr ⟨by simp, rfl⟩, hb⟩
  · exact nameOf_some hT b n w h
/-! ### Machines and calls -/
/-! ### Actions -/
theorem act_named {v : Nat} {p : ByteArray × Nat} (hp : p ∈ actTab) (hv : p.2 = v) : actT v = some p.1 := by
  subst hv
  unfold actTab at hp
  simp only [List.mem_cons, List.not_mem_nil, or_false] at hp
  unfold actT
  rcases hp with rfl | rfl | rfl | rfl
  · show (if 327680 ≤ 0 ∧ 0 ≤ 331775 then _ else _) = _
    rw [if_neg (by omega), if_pos rfl]
  · show (if 327680 ≤ 196608 ∧ 196608 ≤ 331775 then _ else _) = _
    rw [if_neg (by omega), if_neg (by decide), if_pos rfl]
  · show (if 327680 ≤ 2147221504 ∧ 2147221504 ≤ 331775 then _ else _) = _
    rw [if_neg (by omega), if_neg (by decide), if_neg (by decide), if_pos rfl]
  · show (if 327680 ≤ 2147418112 ∧ 2147418112 ≤ 331775 then _ else _) = _
    rw [if_neg (by omega), if_neg (by decide), if_neg (by decide), if_neg (by decide), if_pos rfl]
theorem act_unnamed {v : Nat} (h : ∀ p ∈ actTab, p.2 ≠ v) : actT v = if 327680 ≤ v ∧ v ≤ 331775 then some (berror ++ Wd.txt (v - 327680)) else none := by
  have h0 : v ≠ 0 := fun e => h (bkillA, 0) (by unfold actTab; simp) e.symm
  have h1 : v ≠ 196608 := fun e => h (btrap, 196608) (by unfold actTab; simp) e.symm
  have h2 : v ≠ 2147221504 := fun e => h (blog, 2147221504) (by unfold actTab; simp) e.symm
  have h3 : v ≠ 2147418112 := fun e => h (ballow, 2147418112) (by unfold actTab; simp) e.symm
  unfold actT
  rw [if_neg h0, if_neg h1, if_neg h2, if_neg h3]
/-- What an action's text ends with. -/
def ActEnd (v : Nat) (e : Ending) : Prop := e = .returned (.tuple #[.string (actS v), .int .i64 (if (actT v).isSome then 0 else 1)])
theorem actEnd_some {v : Nat} {s : ByteArray} (h : actT v = some s) : ActEnd v (.returned (.tuple #[.string s, .int .i64 0])) := by
  unfold ActEnd actS
  rw [h]
  rfl
theorem actEnd_none {v : Nat} (h : actT v = none) : ActEnd v (.returned (.tuple #[.string ⟨#[]⟩, .int .i64 1])) := by
  unfold ActEnd actS
  rw [h]
  rfl
set_option maxRecDepth 100000 in
set_option maxHeartbeats 2000000 in
theorem naction_gen (v : Nat) (w : World) (hv : v < 4294967296) (ht : Tab w) (E : Ending → Prop) (hE1 : ∀ s, actT v = some s → E (.returned (.tuple #[.string s, .int .i64 0]))) (hE2 : actT v = none → E (.returned (.tuple #[.string ⟨#[]⟩, .int .i64 1]))) :
    Calls Tryz.prog 92 #[.int .u32 v] w fun e w' => E e ∧ Below w.heap.size w w' := by
  have HE1 := Lib.hid hE1
  have HE2 := Lib.hid hE2
  clear hE1 hE2
  have HTab := Lib.hid ht
  clear ht
  go_enter Tryz.func92, Tryz.ntmps92
  go_wp2_with fail
  refine (actions_any _).mono ?_
  rintro e w1 ⟨t, rfl, hm, hb1⟩
  have HM := Lib.hid hm
  have HB1 := Lib.hid hb1
  clear hm hb1
  go_wp2_with fail
  refine (nameOf_any actTab_good t v _ HM.out).mono ?_
  rintro e w2 ⟨hE, hb2⟩
  have HB2 := Lib.hid (below2 HB1.out hb2)
  clear hb2
  rcases hE with ⟨p, hp, hq, rfl⟩ | ⟨hno, rfl⟩
  · have HR := Lib.hid (HE1.out _ (act_named hp hq))
    clear hp hq
    go_wp2_with fail
    go_ret2
    exact ⟨HR.out, HB2.out⟩
  · have HA := Lib.hid (act_unnamed hno)
    clear hno
    by_cases h1 : v < 327680
    · have d1 : decide ((v : Int) < 327680) = true := by simp; omega
      have HR := Lib.hid (HE2.out (by rw [HA.out, if_neg (by omega)]))
      clear h1 HE1 HE2 HA
      generalize (v : Int) = A at d1 ⊢
      go_wp2_with fail
      go_ret2
      exact ⟨HR.out, HB2.out⟩
    by_cases h2 : 331775 < v
    · have d1 : decide ((v : Int) < 327680) = false := by simp; omega
      have d2 : decide ((331775 : Int) < (v : Int)) = true := by simp; omega
      have HR := Lib.hid (HE2.out (by rw [HA.out, if_neg (by omega)]))
      clear h1 h2 HE1 HE2 HA
      generalize (v : Int) = A at d1 d2 ⊢
      go_wp2_with fail
      go_ret2
      exact ⟨HR.out, HB2.out⟩
    · obtain ⟨m, hm⟩ : ∃ m, v = 327680 + m := ⟨v - 327680, by omega⟩
      have HR := Lib.hid (HE1.out _ (by rw [HA.out, if_pos (by omega)]))
      rw [show v - 327680 = m by omega, show berror = ⟨#[101, 114, 114, 111, 114, 58]⟩ from rfl] at HR
      have HT : Hid (Calls Tryz.prog 130 #[.int .u64 (m : Nat)] w2 fun e w' => e = .returned (.string (Wd.txt m)) ∧ Below w2.heap.size w2 w') := Lib.hid (text_any m w2 (by omega) (HTab.out.below HB2.out))
      have hz := txt_lt18 (n := m) (by omega)
      have hzE : (⟨#[101, 114, 114, 111, 114, 58]⟩ : ByteArray).size = 6 := rfl
      have l1 : ¬ (v : Int) < 327680 := by omega
      have l2 : ¬ (331775 : Int) < (v : Int) := by omega
      have l3 : IntKind.u32.wrap ((v : Int) - 327680) = (m : Int) := by unfold IntKind.wrap; simp [IntKind.bits, IntKind.signed]; omega
      have hml : m < 4096 := by omega
      clear h1 h2 HE1 HE2 HA hm
      generalize (v : Int) = A at l1 l2 l3 ⊢
      generalize Wd.txt m = TX at HT HR hz
      go_wp2_with fail
      refine HT.out.mono ?_
      rintro e w3 ⟨rfl, hb3⟩
      have HB3 := Lib.hid (below2 HB2.out hb3)
      clear hb3
      go_wp2_with fail
      go_ret2
      exact ⟨HR.out, HB3.out⟩
theorem naction_end (v : Nat) (w : World) (hv : v < 4294967296) (ht : Tab w) :
    Calls Tryz.prog 92 #[.int .u32 v] w fun e w' => ActEnd v e ∧ Below w.heap.size w w' := naction_gen v w hv ht (ActEnd v) (fun _ h => actEnd_some h) actEnd_none
theorem naction_any (v : Nat) (w : World) (hv : v < 4294967296) (ht : Tab w) :
    Calls Tryz.prog 92 #[.int .u32 v] w fun e w' => e = .returned (.tuple #[.string (actS v), .int .i64 (if (actT v).isSome then 0 else 1)]) ∧ Below w.heap.size w w' := naction_end v w hv ht
/-! ### What is read of an action's text -/
end Go.Proofs.YtbekkdhlfkongaaGreatDoor
/-
  Package policy: which policies are right.
-/
namespace Go.Proofs.YtbekkdhlfkongaaGreatDoor
open Go.ChangeShapes Go.WideShapes Go.ChangeAt Go.RowKit
set_option maxRecDepth 20000

theorem pisaction_any (v : Nat) (w : World) (hv : v < 4294967296) (ht : Tab w) :
    Calls Tryz.prog 51 #[.int .u32 (v : Nat)] w fun e w' => e = .returned (.bool (actT v).isSome) ∧ Below w.heap.size w w' := by
  go_enter Tryz.func51, Tryz.ntmps51
  go_wp2_with fail
  refine (naction_any v _ hv ht).mono ?_
  rintro e w1 ⟨rfl, hb1⟩
  have HB1 := Lib.hid hb1
  clear hb1
  generalize actS v = A
  cases hs : (actT v).isSome
  · have HS := Lib.hid hs
    rw [if_neg (by decide)]
    clear hs
    go_wp2_with fail
    go_ret
    exact ⟨by rw [HS.out]; rfl, HB1.out⟩
  · have HS := Lib.hid hs
    rw [if_pos rfl]
    clear hs
    go_wp2_with fail
    go_ret
    exact ⟨by rw [HS.out]; rfl, HB1.out⟩
set_option maxHeartbeats 8000000 in
theorem pisrule_any (cv : Value) (x : Rl) (w : World) (hC : CAt w cv x.conds) (hk : x.ok) (hl : x.conds.length ≤ 9223372036854775807) (ht : Tab w) :
    Calls Tryz.prog 52 #[x.val cv] w fun e w' => e = .returned (.bool x.right) ∧ Below w.heap.size w w' := by
  obtain ⟨co, ccap, rfl, hrows⟩ := hC.rows
  have HROW := Lib.hid hrows
  have HX0 := Lib.hid (heap_alloc_new w (rlB x (.slice co x.conds.length ccap)))
  have HB0 := Lib.hid (ba (rlB x (.slice co x.conds.length ccap)) (Below.refl w.heap.size w))
  obtain ⟨W, hW⟩ : ∃ W, W = w.alloc (rlB x (.slice co x.conds.length ccap)) := ⟨_, rfl⟩
  rw [← hW] at HX0 HB0
  obtain ⟨R, hR⟩ : ∃ R, R = x.right := ⟨_, rfl⟩
  rw [← hR]
  have HR := Lib.hid hR
  have HT := Lib.hid ht
  have hv := hk.2.2.1
  clear hR hrows hC ht hk
  go_enter Tryz.func52, Tryz.ntmps52
  go_upto_region 1 with fail
  change Code.wp _ _ _ _ (w.alloc (rlB x (.slice co x.conds.length ccap)))
  rw [← hW]
  clear hW
  obtain ⟨r0, r1, r2, r3⟩ := rbox HX0.out
  by_cases h4 : 4 < x.conds.length
  · have HE : Hid (R = false) := Lib.hid (by rw [HR.out]; unfold Rl.right; rw [show decide (x.conds.length ≤ 4) = false by simp; omega]; rfl)
    have hb : decide ((4 : Int) < (x.conds.length : Int)) = true := by simp; omega
    clear h4
    go_wp2_with fail
    go_ret
    exact ⟨by rw [HE.out]; rfl, HB0.out⟩
  have hb : decide ((4 : Int) < (x.conds.length : Int)) = false := by simp; omega
  go_wp2_with fail
  refine (pisaction_any x.act _ hv (HT.out.below HB0.out)).mono ?_
  rintro e w1 ⟨rfl, hb1⟩
  have HB1 := Lib.hid (below2 HB0.out hb1)
  have HX1 := Lib.hid (kb hb1 HX0.out)
  clear hb1 r0 r1 r2 r3 HX0 HB0
  cases hs : (actT x.act).isSome
  · have HE : Hid (R = false) := Lib.hid (by rw [HR.out]; unfold Rl.right; rw [hs]; simp)
    clear hs h4
    go_wp2_with fail
    go_ret
    exact ⟨by rw [HE.out]; rfl, HB1.out⟩
  have HRR : Hid (R = x.conds.all Cd.right) := Lib.hid (by rw [HR.out]; unfold Rl.right; rw [hs, show decide (x.conds.length ≤ 4) = true by simp; omega]; rfl)
  clear hs h4
  obtain ⟨r0, r1, r2, r3⟩ := rbox HX1.out
  go_wp2_with fail
  go_loopw [18] (fun i wr => ∃ j : Nat, j ≤ x.conds.length ∧ i = .int .i64 j ∧ Below w.heap.size w wr ∧ wr.heap[w.heap.size]? = some (rlB x (.slice co x.conds.length ccap)) ∧ (x.conds.take j).all Cd.right = true) (fun i _ => x.conds.length - (Lib.intOf i).toNat)
  case atStart => exact ⟨0, Nat.zero_le _, rfl, HB1.out, HX1.out, rfl⟩
  case round =>
    obtain ⟨j, hj, rfl, hbw, hxx, hall⟩ := hrel
    have HB := Lib.hid hbw
    have HX := Lib.hid hxx
    have HA := Lib.hid hall
    clear hbw hxx hall HB1 HX1 r0 r1 r2 r3
    obtain ⟨r0, r1, r2, r3⟩ := rbox HX.out
    by_cases hjl : j < x.conds.length
    · obtain ⟨cb, coff, rfl, hcb, d0, d1, d2, d3⟩ := HROW.out j hjl
      obtain ⟨c, hc⟩ : ∃ c, c = x.conds[j] := ⟨_, rfl⟩
      rw [← hc] at d0 d1 d2 d3
      have e0 := (HB.out.cell (p := ⟨cb, _, none⟩) hcb).trans d0
      have e1 := (HB.out.cell (p := ⟨cb, _, none⟩) hcb).trans d1
      have e2 := (HB.out.cell (p := ⟨cb, _, none⟩) hcb).trans d2
      have e3 := (HB.out.cell (p := ⟨cb, _, none⟩) hcb).trans d3
      have HCJ := Lib.hid hc
      have l0 : (j : Int) < (x.conds.length : Int) := by omega
      have l1 : (0 : Int) ≤ (j : Int) := by omega
      have l2 : (j : Int).toNat = j := by omega
      clear hc d0 d1 d2 d3
      go_wp2_with fail
      have hba : Below wr.heap.size wr (wr.alloc (cdB c)) := ba _ (Below.refl _ _)
      refine (qright_any c _ (HT.out.below (below2 HB.out hba))).mono ?_
      rintro e w5 ⟨rfl, hb5'⟩
      have hb5 := below2 hba hb5'
      clear hb5' hba
      have HB5 := Lib.hid (below2 HB.out hb5)
      have HX5 := Lib.hid (kb hb5 HX.out)
      clear hb5 e0 e1 e2 e3 r0 r1 r2 r3
      cases hr : c.right
      · have HE : Hid (R = false) := Lib.hid (by
          rw [HRR.out]
          refine not_all hjl ?_
          rw [← HCJ.out, hr])
        clear hr
        go_wp2_with fail
        go_ret
        exact ⟨by rw [HE.out]; rfl, HB5.out⟩
      · have HN : Hid ((x.conds.take (j + 1)).all Cd.right = true) := Lib.hid (take_all_succ hjl HA.out (by rw [← HCJ.out]; exact hr))
        clear hr
        go_wp2_with fail
        go_roundw
        case rel => exact ⟨j + 1, by omega, by go_num, HB5.out, HX5.out, HN.out⟩
        case measure => simp [Lib.intOf]; omega
    · have HE : Hid (R = true) := Lib.hid (by rw [HRR.out]; exact take_all_end (by omega) HA.out)
      go_wp2_with fail
      go_ret
      exact ⟨by rw [HE.out]; rfl, HB.out⟩
set_option maxHeartbeats 8000000 in
theorem ppright_any (rv : Value) (p : Po) (w : World) (hL : LAt w rv p.rules) (hk : p.ok) (hl : p.rules.length ≤ 9223372036854775807) (hl2 : ∀ x ∈ p.rules, x.conds.length ≤ 9223372036854775807) (ht : Tab w) :
    Calls Tryz.prog 26 #[poV rv p.dflt] w fun e w' => e = .returned (.bool p.right) ∧ Below w.heap.size w w' := by
  obtain ⟨rs, d⟩ := p
  simp only at hL hl hl2
  obtain ⟨hd, hok⟩ := hk
  simp only at hd hok
  obtain ⟨ao, cap, rfl, hrows⟩ := hL.rows
  have HROW := Lib.hid hrows
  have HX0 := Lib.hid (heap_alloc_new w (poB (.slice ao rs.length cap) d))
  have HB0 := Lib.hid (ba (poB (.slice ao rs.length cap) d) (Below.refl w.heap.size w))
  obtain ⟨W, hW⟩ : ∃ W, W = w.alloc (poB (.slice ao rs.length cap) d) := ⟨_, rfl⟩
  rw [← hW] at HX0 HB0
  obtain ⟨R, hR⟩ : ∃ R, R = (⟨rs, d⟩ : Po).right := ⟨_, rfl⟩
  rw [← hR]
  have HR := Lib.hid hR
  have HL2 := Lib.hid hl2
  have HOK := Lib.hid hok
  have HT := Lib.hid ht
  clear hR hrows hL hl2 hok ht
  go_enter Tryz.func26, Tryz.ntmps26
  go_upto_region 1 with fail
  change Code.wp _ _ _ _ (w.alloc (poB (.slice ao rs.length cap) d))
  rw [← hW]
  clear hW
  obtain ⟨c0, c1⟩ := pbox HX0.out
  by_cases h64 : 64 < rs.length
  · have HE : Hid (R = false) := Lib.hid (by rw [HR.out]; unfold Po.right; rw [show decide (rs.length ≤ 64) = false by simp; omega]; rfl)
    have hb : decide ((64 : Int) < (rs.length : Int)) = true := by simp; omega
    clear h64
    go_wp2_with fail
    go_ret
    exact ⟨by rw [HE.out]; rfl, HB0.out⟩
  have hb : decide ((64 : Int) < (rs.length : Int)) = false := by simp; omega
  go_wp2_with fail
  refine (pisaction_any d _ hd (HT.out.below HB0.out)).mono ?_
  rintro e w1 ⟨rfl, hb1⟩
  have HB1 := Lib.hid (below2 HB0.out hb1)
  have HX1 := Lib.hid (kb hb1 HX0.out)
  clear hb1 c0 c1 HX0 HB0
  cases hs : (actT d).isSome
  · have HE : Hid (R = false) := Lib.hid (by rw [HR.out]; unfold Po.right; rw [hs]; simp)
    clear hs h64
    go_wp2_with fail
    go_ret
    exact ⟨by rw [HE.out]; rfl, HB1.out⟩
  have HRR : Hid (R = rs.all Rl.right) := Lib.hid (by rw [HR.out]; unfold Po.right; rw [hs, show decide (rs.length ≤ 64) = true by simp; omega]; rfl)
  clear hs h64
  obtain ⟨c0, c1⟩ := pbox HX1.out
  go_wp2_with fail
  go_loopw [18] (fun i wr => ∃ k : Nat, k ≤ rs.length ∧ i = .int .i64 k ∧ Below w.heap.size w wr ∧ wr.heap[w.heap.size]? = some (poB (.slice ao rs.length cap) d) ∧ (rs.take k).all Rl.right = true) (fun i _ => rs.length - (Lib.intOf i).toNat)
  case atStart => exact ⟨0, Nat.zero_le _, rfl, HB1.out, HX1.out, rfl⟩
  case round =>
    obtain ⟨k, hk, rfl, hbw, hxx, hall⟩ := hrel
    have HB := Lib.hid hbw
    have HX := Lib.hid hxx
    have HA := Lib.hid hall
    clear hbw hxx hall HB1 HX1 c0 c1
    obtain ⟨c0, c1⟩ := pbox HX.out
    by_cases hlt : k < rs.length
    · obtain ⟨b, off, cv, rfl, hb', hcv, d0, d1, d2, d3⟩ := HROW.out k hlt
      obtain ⟨x, hx⟩ : ∃ x, x = rs[k] := ⟨_, rfl⟩
      rw [← hx] at hcv d0 d1 d3
      have hxk : x.ok := by rw [hx]; exact HOK.out _ (List.getElem_mem hlt)
      have hxl : x.conds.length ≤ 9223372036854775807 := by rw [hx]; exact HL2.out _ (List.getElem_mem hlt)
      have HIR : Hid (∀ V, Below wr.heap.size wr V → Calls Tryz.prog 52 #[x.val cv] V fun e w' => e = .returned (.bool x.right) ∧ Below V.heap.size V w') := Lib.hid (fun V hV => pisrule_any cv x V (hcv.below (below2 HB.out hV)) hxk hxl (HT.out.below (below2 HB.out hV)))
      obtain ⟨co, ccap, rfl⟩ := hcv.shape
      have HXR := Lib.hid hx
      have e0 := (HB.out.cell (p := ⟨b, _, none⟩) hb').trans d0
      have e1 := (HB.out.cell (p := ⟨b, _, none⟩) hb').trans d1
      have e2 := (HB.out.cell (p := ⟨b, _, none⟩) hb').trans d2
      have e3 := (HB.out.cell (p := ⟨b, _, none⟩) hb').trans d3
      have l0 : (k : Int) < (rs.length : Int) := by omega
      have l1 : (0 : Int) ≤ (k : Int) := by omega
      have l2 : (k : Int).toNat = k := by omega
      clear hx d0 d1 d2 d3 hcv hxk hxl
      go_wp2_with fail
      have hba : Below wr.heap.size wr (wr.alloc (rlB x (.slice co x.conds.length ccap))) := ba _ (Below.refl _ _)
      refine (HIR.out _ hba).mono ?_
      rintro e w5 ⟨rfl, hb5'⟩
      have hb5 := below2 hba hb5'
      clear hb5' hba
      have HB5 := Lib.hid (below2 HB.out hb5)
      have HX5 := Lib.hid (kb hb5 HX.out)
      clear hb5 e0 e1 e2 e3 c0 c1 HIR
      cases hr : x.right
      · have HE : Hid (R = false) := Lib.hid (by
          rw [HRR.out]
          refine not_all hlt ?_
          rw [← HXR.out, hr])
        clear hr
        go_wp2_with fail
        go_ret
        exact ⟨by rw [HE.out]; rfl, HB5.out⟩
      · have HN : Hid ((rs.take (k + 1)).all Rl.right = true) := Lib.hid (take_all_succ hlt HA.out (by rw [← HXR.out]; exact hr))
        clear hr
        go_wp2_with fail
        go_roundw
        case rel => exact ⟨k + 1, by omega, by go_num, HB5.out, HX5.out, HN.out⟩
        case measure => simp [Lib.intOf]; omega
    · have HE : Hid (R = true) := Lib.hid (by rw [HRR.out]; exact take_all_end (by omega) HA.out)
      go_wp2_with fail
      go_ret
      exact ⟨by rw [HE.out]; rfl, HB.out⟩
end Go.Proofs.YtbekkdhlfkongaaGreatDoor
/-
  What Lower answers.
-/
namespace Go.Proofs.YtbekkdhlfkongaaGreatDoor
open Go.ChangeShapes Go.WideShapes Go.ChangeAt Go.RowKit Go.Shelf
set_option maxRecDepth 20000

theorem src_LAt {B b : Nat} {w W : World} {rv : Value} {rs : List Rl} (n : Nat) (h : LAt w rv rs) (hb : Below w.heap.size w W) (hB : w.heap.size ≤ B) : SrcR B b W ((n, rs), rv) := by
  obtain ⟨rl, hrs, hq, hc⟩ := h
  refine ⟨rl, hrs, fun q hq' => ?_, fun V hV => ?_, fun q hq' V hV => ?_⟩
  · obtain ⟨ao, cap, e⟩ := (hc q hq').shape
    exact ⟨ao, _, cap, e⟩
  · have hb2 : Below w.heap.size w V := hb.trans (hV.below.mono hB)
    have h2 := hq.below hb2
    obtain ⟨ao, cap, e, h3⟩ := h2
    rw [List.length_map] at e
    refine ⟨ao, cap, e, ?_⟩
    rcases h3 with h3 | ⟨g, off, rfl, _, hrow⟩
    · exact .inl (by have := congrArg List.length h3; simpa using this)
    · refine .inr ⟨g, off, rfl, fun j hj => ?_⟩
      obtain ⟨d0, d1, d2, d3⟩ := hrow j (by rw [List.length_map]; exact hj)
      simp only [List.getElem_map] at d0 d1 d2 d3
      simp only [List.getElem?_eq_getElem hj]
      exact ⟨d0, d1, d2, d3⟩
  · exact (hc q hq').below (hb.trans (hV.below.mono hB))
theorem start_at {W : World} (rv : Value) (df : Nat) : LwAt ((W.alloc (.map #[] 0)).alloc (.cells #[.slice none 0 0, .int .i64 0, rv, .int .u32 (df : Nat), .map (some W.heap.size)] 71)) (W.heap.size + 1) rv df W.heap.size startL := by
  have h1 := heap_alloc_new (W.alloc (.map #[] 0)) (.cells #[.slice none 0 0, .int .i64 0, rv, .int .u32 (df : Nat), .map (some W.heap.size)] 71)
  rw [size_alloc] at h1
  refine ⟨⟨.slice none 0 0, h1, ⟨FAt.nil _, CapF.nil⟩, stays_nil⟩, .map [], ?_, mapsTo_nil⟩
  exact (World.ownsMap_made W Tryz.prog 23 fnR).alloc _
set_option maxHeartbeats 16000000 in
set_option maxRecDepth 100000 in
theorem lower_any (rv : Value) (q : Po) (w : World) (hL : LAt w rv q.rules) (hk : q.ok) (h100 : q.rules.length ≤ 100) (h20 : ∀ x ∈ q.rules, x.conds.length ≤ 20) (ht : Tab w) (hot : OTab w) :
    Calls Tryz.prog 10 #[poV rv q.dflt] w fun e w' => (∃ v, FAt w' v (if q.right then lowerN q else []) ∧ e = .returned (.tuple #[v, .int .i64 (if q.right then 0 else 1)])) ∧ Below w.heap.size w w' := by
  obtain ⟨ao, cap, hrv⟩ := hL.shape
  subst hrv
  have HL := Lib.hid hL
  have HT := Lib.hid ht
  have HO := Lib.hid hot
  have HK := Lib.hid hk
  have H20 := Lib.hid h20
  obtain ⟨W, hW, X0, HBx⟩ : ∃ W, W = w.alloc (poB (.slice ao q.rules.length cap) q.dflt) ∧ W.heap[w.heap.size]? = some (poB (.slice ao q.rules.length cap) q.dflt) ∧ Below w.heap.size w W := ⟨_, rfl, heap_alloc_new _ _, ba _ (Below.refl _ _)⟩
  have HX := Lib.hid X0
  have HB := Lib.hid HBx
  clear X0 HBx hL ht hot hk h20
  obtain ⟨g, hg⟩ : ∃ g, g = if q.right then lowerN q else [] := ⟨_, rfl⟩
  obtain ⟨er, her⟩ : ∃ er : Int, er = if q.right then 0 else 1 := ⟨_, rfl⟩
  rw [← hg, ← her]
  have HG := Lib.hid hg
  have HER := Lib.hid her
  clear hg her
  go_enter Tryz.func10, Tryz.ntmps10
  go_upto_region 1 with fail
  change Code.wp _ _ _ _ (w.alloc (poB (.slice ao q.rules.length cap) q.dflt))
  rw [← hW]
  clear hW
  obtain ⟨c0, c1⟩ := pbox HX.out
  go_wp2_with fail
  refine (ppright_any (.slice ao q.rules.length cap) q W (HL.out.below HB.out) HK.out (by omega) (fun x hx => by have := H20.out x hx; omega) (HT.out.below HB.out)).mono ?_
  rintro e w1 ⟨rfl, hb1⟩
  have HX1 := Lib.hid (kb hb1 HX.out)
  have HB1 := Lib.hid (below2 HB.out hb1)
  clear hb1 c0 c1
  obtain ⟨c0, c1⟩ := pbox HX1.out
  cases hr : q.right
  · have HE : Hid (g = [] ∧ er = 1) := Lib.hid (by rw [HG.out, HER.out, hr]; exact ⟨rfl, rfl⟩)
    clear hr
    go_wp2_with fail
    go_ret2
    rw [HE.out.1, HE.out.2]
    exact ⟨⟨_, FAt.nil _, rfl⟩, HB1.out⟩
  have HE : Hid (g = lowerN q ∧ er = 0) := Lib.hid (by rw [HG.out, HER.out, hr]; exact ⟨rfl, rfl⟩)
  have HR := Lib.hid hr
  clear hr
  have hmm := @run_makeMap Tryz.prog
  go_upto_region 4 with fail
  obtain ⟨W3, hW3, hb3, hst, hsz3⟩ : ∃ V, V = (w1.alloc (.map #[] 0)).alloc (.cells #[.slice none 0 0, .int .i64 0, .slice ao q.rules.length cap, .int .u32 (q.dflt : Nat), .map (some w1.heap.size)] 71) ∧ Below w1.heap.size w1 V ∧ LwAt V (w1.heap.size + 1) (.slice ao q.rules.length cap) q.dflt w1.heap.size startL ∧ V.heap.size = w1.heap.size + 1 + 1 :=
    ⟨_, rfl, ba _ (ba _ (Below.refl _ _)), start_at _ _, by rw [size_alloc, size_alloc]⟩
  rw [← hW3]
  clear hmm hW3 c0 c1
  have hs1 : w.heap.size ≤ w1.heap.size := HB1.out.size
  have hoT := HO.out.below HB1.out
  have htT := HT.out.below HB1.out
  obtain ⟨B, hBe⟩ : ∃ B, B = w1.heap.size := ⟨_, rfl⟩
  obtain ⟨b, hbe⟩ : ∃ b, b = w1.heap.size + 1 := ⟨_, rfl⟩
  have HI : Hid (LwIn B b B W3) := Lib.hid ⟨by omega, Nat.le_refl _, by omega, hoT.below hb3, htT.below hb3, by rw [hBe]; exact hoT.lt, by rw [hBe]; exact htT.2, by omega⟩
  rw [← hbe, ← hBe] at hst
  rw [← hbe]
  have HB3 := Lib.hid (below2 HB1.out hb3)
  have HX3 := Lib.hid (kb hb3 HX1.out)
  have HW3 := Lib.hid hst
  have HSR : Hid (SrcR B b W3 ((0, q.rules), .slice ao q.rules.length cap)) := Lib.hid (src_LAt 0 HL.out HB3.out (by omega))
  have hg0 : w.heap.size ≠ b := by omega
  have hBs : w.heap.size ≤ B := by omega
  have hb3s : b < W3.heap.size := by omega
  clear hb3 hst hbe hBe hoT htT hsz3
  obtain ⟨c0, c1⟩ := pbox HX3.out
  obtain ⟨h64, hcr⟩ := right_bounds HR.out
  go_wp2_with fail
  refine (zgrouped_any (B := B) (b := b) (.inl ⟨rfl, rfl⟩) (.slice ao q.rules.length cap) (0, q.rules) W3 HI.out.hsz hb3s HSR.out h64 (fun x hx => HK.out.2 x hx)).mono ?_
  rintro e w4 ⟨⟨v4, gl, rfl, hgm, hgs, hgS, hgr⟩, hb4⟩
  have hs4 := hb4.size
  have HGM := Lib.hid hgm
  have HGR := Lib.hid hgr
  have HGS := Lib.hid hgS
  have HGSh := Lib.hid hgs
  have HLR4 := Lib.hid (LR.of_below (B := B) (b := b) hb4 HI.out.hsz)
  have HW4 := Lib.hid (HW3.out.below hb4)
  have HX4 := Lib.hid (kb hb4 HX3.out)
  have HB4 := Lib.hid (below2 HB3.out hb4)
  have hcost := whole_cost HR.out
  have hgl : gl.length ≤ 100000 := by
    have h1 := congrArg List.length hgm
    rw [List.length_map] at h1
    have h2 : ∀ gs : List (Nat × List Rl), gs.length ≤ costM gs := by
      intro gs
      induction gs with
      | nil => exact Nat.zero_le _
      | cons g gs ih => rw [List.length_cons]; unfold costM; omega
    have := h2 (groupsOf Rl.arch q.rules)
    simp only at h1
    omega
  clear hgm hgs hgS hgr hb4 c0 c1
  obtain ⟨c0, c1⟩ := pbox HX4.out
  go_wp2_with fail
  refine (lMchain_any (B := B) (b := b) v4 gl HGSh.out hgl w4 (by have := HI.out.hsz; omega) (by omega) HGS.out).mono ?_
  rintro e w5 ⟨⟨v5, rfl, hv5⟩, hb5⟩
  have hs5 := hb5.size
  have hbs := HI.out.hsz
  have hlr45 : LR B b w4 w5 := LR.of_below hb5 (by omega)
  have HLR5 := Lib.hid (HLR4.out.trans hlr45)
  have HW5 := Lib.hid (HW4.out.below hb5)
  have HX5 := Lib.hid (kb hb5 HX4.out)
  have HB5 := Lib.hid (below2 HB4.out hb5)
  have hrok : RulesOk q.rules := fun x hx => ⟨HK.out.2 x hx, (hcr x hx).2⟩
  have hcalls := lmachs_any (B := B) (b := b) (m := B) (rv := .slice ao q.rules.length cap) HK.out.1 (show b < w4.heap.size by omega) gl v5 startL w5 hv5 HW5.out (HI.out.next HLR5.out) (.inr rfl)
    (fun p hp => by
      have hp' : p.1 ∈ groupsOf Rl.arch q.rules := by rw [← HGM.out]; exact List.mem_map_of_mem hp
      have h1 := groups_ok hrok (key := Rl.arch) (fun x hx => hx.1) _ hp'
      refine ⟨h1.1, h1.2, ?_⟩
      rw [(groups_mem hp').2]
      exact Nat.le_trans (List.length_filter_le _ _) h64)
    (fun p hp => (HGR.out p hp).next hlr45) (by rw [HGM.out]; show 0 + costM (groupsOf Rl.arch q.rules) ≤ _; omega)
  rw [show emitM q.dflt (gl.map (·.1)) startL = wholeL q by rw [HGM.out]; rfl] at hcalls
  have HSH := Lib.hid (place_calls hv5 hcalls)
  obtain ⟨g1, _⟩ := whole_goes HK.out HR.out
  have hgl1 := g1.len
  have h0l : startL.s.c.length = 0 := rfl
  have HLS : Hid (lastS q = if 0 < q.rules.length then (aheadS (wholeL q).1.s (ldX 4) (wholeL q).2).1 else (wholeL q).1.s) := Lib.hid rfl
  have HLN := Lib.hid (lowerN_is HK.out HR.out)
  have HLG := Lib.hid (last_goes HK.out HR.out).1
  obtain ⟨R, hRe⟩ : ∃ R, R = wholeL q := ⟨_, rfl⟩
  rw [← hRe] at HSH hgl1 HLS
  clear hv5 hb5 hlr45 hrok hcalls c0 c1 g1 hRe
  obtain ⟨c0, c1⟩ := pbox HX5.out
  rcases HSH.out with ⟨rfl, HN⟩ | ⟨a1, a2, a3, rfl, HN⟩
  all_goals
    have HN := Lib.hid HN
    clear HSH
    go_wp2_with fail
    refine HN.out.mono ?_
    rintro e w6 ⟨rfl, hw6, hlr6⟩
    have HLR6 := Lib.hid (HLR5.out.trans hlr6)
    have HW6 := Lib.hid hw6
    have HX6 := Lib.hid (hlr6.block HX5.out hg0)
    have HB6 := Lib.hid (HB3.out.trans (HLR6.out.below.mono hBs))
    clear hw6 hlr6 HN c0 c1
    obtain ⟨c0, c1⟩ := pbox HX6.out
    by_cases hn : 0 < q.rules.length
    · have hn2 : (0 : Int) < (q.rules.length : Int) := by omega
      have HLS2 := Lib.hid (HLS.out.trans (if_pos hn))
      clear hn HLS
      go_wp2_with fail
      refine (dload_any 4 w6).mono ?_
      rintro e w7 ⟨rfl, hb7⟩
      have HW7 := Lib.hid (HW6.out.below hb7)
      have HLR7 := Lib.hid (HLR6.out.trans (LR.of_below (B := B) (b := b) hb7 (Nat.le_trans hbs HLR6.out.size)))
      clear hb7 c0 c1
      have hin := HI.out.next HLR7.out
      go_wp2_with fail
      refine (dahead_any 32 0 0 4 R.2 w7 HW7.out.1 (by omega) hin.ops hin.opsAt.2).mono ?_
      rintro e w8 ⟨rfl, hd8, hc8⟩
      have hl8 : (aheadS R.1.s ⟨32, 0, 0, 4⟩ R.2).1 = lastS q := HLS2.out.symm
      rw [hl8] at hd8
      have HD8 := Lib.hid hd8
      have HLR8 := Lib.hid (HLR7.out.trans (LR.of_chg hc8 hin.hsz hin.hb))
      clear hd8 hc8 hl8 hin
      go_wp2_with fail
      refine (dresult_any (.slice none 0 0) [] w8 HD8.out ⟨FAt.nil _, CapF.nil⟩).mono ?_
      rintro e w9 ⟨⟨u, hu, rfl⟩, hb9⟩
      have he9 : resultN (lastS q) [] = (lowerN q, (((lastS q).c.length : Nat) : Int), 0) := by unfold resultN; rw [if_pos HLG.out.1, HLN.out]
      rw [he9] at hu ⊢
      have HU := Lib.hid hu
      have HB9 := Lib.hid (below2 (HB3.out.trans (HLR8.out.below.mono hBs)) hb9)
      obtain ⟨uo, uc, rfl⟩ := hu.shape
      clear hu hb9 he9
      go_wp2_with fail
      go_ret2
      rw [HE.out.1, HE.out.2]
      exact ⟨⟨_, HU.out.1, rfl⟩, HB9.out⟩
    · have hn2 : ¬ (0 : Int) < (q.rules.length : Int) := by omega
      have HLS2 := Lib.hid (HLS.out.trans (if_neg hn))
      clear hn HLS
      go_wp2_with fail
      refine (dresult_any (.slice none 0 0) [] w6 HW6.out.1 ⟨FAt.nil _, CapF.nil⟩).mono ?_
      rintro e w9 ⟨⟨u, hu, rfl⟩, hb9⟩
      have he9 : resultN R.1.s [] = (lowerN q, (((lastS q).c.length : Nat) : Int), 0) := by rw [← HLS2.out]; unfold resultN; rw [if_pos HLG.out.1, HLN.out]
      rw [he9] at hu ⊢
      have HU := Lib.hid hu
      have HB9 := Lib.hid (below2 HB6.out hb9)
      obtain ⟨uo, uc, rfl⟩ := hu.shape
      clear hu hb9 he9 c0 c1
      go_wp2_with fail
      go_ret2
      rw [HE.out.1, HE.out.2]
      exact ⟨⟨_, HU.out.1, rfl⟩, HB9.out⟩
end Go.Proofs.YtbekkdhlfkongaaGreatDoor
/-
  Package-level variables that a row lists: how they are taken off the list.
-/
namespace Go.Proofs.YtbekkdhlfkongaaGreatDoor
open Go.ChangeShapes Go.WideShapes Go.ChangeAt Go.RowKit

/-- The listed numbers of a table. -/
def numsOf : DataW Unit → List Int
  | .agg l => l.map fun | .lit (.int _ n) => n | _ => 0
  | _ => []
/-- The cells of a listed table. -/
def cellsOfD (k : IntKind) (d : DataW Unit) : Array Value := ((numsOf d).map fun n => Value.int k n).toArray
/-- A block's cells, put in. -/
def laidBlock (cs : Array Value) : Obj → Obj
  | .cells _ t fr => .cells cs t fr
  | o => o
/-- A list in chunks of one length. -/
theorem chunks {α : Type} (k : Nat) : ∀ (n : Nat) (cs : List α) (F : Nat → List α), cs.length = n * k → (∀ i, i < n → (cs.drop (i * k)).take k = F i) → cs = (List.range n).flatMap F
  | 0, cs, F, h, _ => by
    have h0 : cs = [] := List.length_eq_zero_iff.1 (by simpa using h)
    simp [h0]
  | n + 1, cs, F, h, hF => by
    have h1 := chunks k n (cs.drop k) (fun i => F (i + 1)) (by rw [List.length_drop, h, Nat.add_mul]; omega) (fun i hi => by
      rw [List.drop_drop, ← hF (i + 1) (by omega), Nat.add_mul, Nat.one_mul, Nat.add_comm k])
    have h0 := hF 0 (by omega)
    rw [Nat.zero_mul, List.drop_zero] at h0
    rw [List.range_succ_eq_map, List.flatMap_cons, List.flatMap_map, ← h0]
    exact (List.take_append_drop k cs).symm.trans (congrArg _ h1)
/-- A variable that heads the list: its block, and how its cells read. -/
theorem laid_head {P : Program} {W : World} {name : String} {d : DataW Unit} {rest : List (String × DataW Unit)} {g : Nat} {t : TypeId} (hg : P.globalNamed name = some g) (hty : (P.globals[g]?).map (·.type) = some t)
    (h : laidMet P ((name, d) :: rest) W) : ∃ cs ty fr fuel p, W.heap[g]? = some (.cells cs ty fr) ∧ DataW.trod (fun _ => ()) P W 0 (fun _ => true) false fuel t cs.toList = some (d, p) := by
  obtain ⟨ps, ⟨g', t', cs, fuel, p, q, hg', ht', hvar, hd, _, _⟩, _⟩ := h
  obtain rfl := Option.some.inj (hg.symm.trans hg')
  obtain rfl := Option.some.inj (hty.symm.trans ht')
  unfold World.var? at hvar
  rw [hg] at hvar
  simp only [Option.bind_some] at hvar
  split at hvar
  · rename_i cs' ty fr hh
    obtain rfl := Option.some.inj hvar
    exact ⟨cs', ty, fr, fuel, p, hh, hd⟩
  · cases hvar
end Go.Proofs.YtbekkdhlfkongaaGreatDoor

/-
  Arguments that are filters or bytes: what the row's reading of them gives of the world's cells.
-/
namespace Go.Proofs.YtbekkdhlfkongaaGreatDoor
open Go.ChangeShapes Go.WideShapes Go.ChangeAt Go.RowKit Go.Deep
set_option maxRecDepth 100000

theorem cellsX : Tryz.prog.cellsOf 64 = 4 := by kernel_rfl
section
variable {H : Type} {enc : TypeId × Value → H} {W : World} {base : Nat} {v : Value} {d : DataW H} {p : List MemPlace}
theorem open_filt (hval : Value.okWide Tryz.prog W .any base 32 v) (h : DataW.Trod enc Tryz.prog W 0 (fun _ => true) true 32 v d p) : ∃ l : List X4, FAt W v l ∧ (∀ x ∈ l, x.ok) ∧ l.length ≤ 9223372036854775807 := by
  obtain ⟨a1, len, cap, rfl⟩ := okWide_slice Tryz.underlying32 hval
  obtain ⟨fuel, hf⟩ := h
  rcases open_slice Tryz.underlying32 hf with ⟨hcs, _⟩ | ⟨a, len', cap', m, n, D, Pl, hcs, _, hl, hm, hmm, _, hi⟩
  · simp [Value.cells] at hcs
    obtain ⟨rfl, rfl, rfl⟩ := hcs
    exact ⟨[], FAt.nil W, by simp, by simp⟩
  · simp [Value.cells] at hcs
    obtain ⟨rfl, rfl, rfl⟩ := hcs
    simp only [if_true] at hmm
    unfold maxLen at hm
    rw [cellsX] at hi
    have hall : ∀ i, i < len → ∃ x : X4, x.ok ∧ W.cell? (a.add (i * 4)) = some (.int .i64 x.op) ∧ W.cell? ((a.add (i * 4)).add 1) = some (.int .i64 x.jt) ∧ W.cell? ((a.add (i * 4)).add 2) = some (.int .i64 x.jf) ∧ W.cell? ((a.add (i * 4)).add 3) = some (.int .u32 x.k) := by
      intro i hil
      obtain ⟨cs', hc, ht'⟩ := hi i (by omega)
      obtain ⟨ys, n', _, _, hlen, hyl, hff⟩ := DataW.trod_struct Tryz.underlying64 ht'
      obtain ⟨_, hcl, hat⟩ := World.cells?_some hc
      rw [cellsX] at hlen
      match cs', hlen with
      | [c0, c1, c2, c3], _ =>
        have h0 : DataW.trod enc Tryz.prog W 0 (fun _ => true) true n' 3 [c0] = ys[0]? := hff 0 _ rfl
        have h1 : DataW.trod enc Tryz.prog W 0 (fun _ => true) true n' 3 [c1] = ys[1]? := hff 1 _ rfl
        have h2 : DataW.trod enc Tryz.prog W 0 (fun _ => true) true n' 3 [c2] = ys[2]? := hff 2 _ rfl
        have h3 : DataW.trod enc Tryz.prog W 0 (fun _ => true) true n' 23 [c3] = ys[3]? := hff 3 _ rfl
        have hy4 : ys.length = 4 := hyl
        match ys, hy4 with
        | [y0, y1, y2, y3], _ =>
          obtain ⟨z0, e0, _, _⟩ := DataW.trod_int Tryz.underlying3 h0
          obtain ⟨z1, e1, _, _⟩ := DataW.trod_int Tryz.underlying3 h1
          obtain ⟨z2, e2, _, _⟩ := DataW.trod_int Tryz.underlying3 h2
          obtain ⟨z3, e3, _, w3⟩ := DataW.trod_int Tryz.underlying23 h3
          simp only [List.cons.injEq, and_true] at e0 e1 e2 e3
          subst e0 e1 e2 e3
          have b3 := bounds_u32 w3
          have g0 := hat 0 (by omega)
          have g1 := hat 1 (by omega)
          have g2 := hat 2 (by omega)
          have g3 := hat 3 (by omega)
          refine ⟨⟨z0, z1, z2, z3⟩, ⟨b3.1, b3.2⟩, ?_, g1, g2, g3⟩
          simpa [Addr.add] using g0
    obtain ⟨l, hll, hq⟩ := pick_list len hall
    subst hll
    refine ⟨l, ⟨some a, cap, rfl, ?_⟩, ?_, by omega⟩
    · by_cases h0 : l = []
      · exact .inl h0
      · have hpos : 0 < l.length := List.length_pos_iff.2 h0
        obtain ⟨ab, ao, spot⟩ := a
        obtain ⟨_, q0, _⟩ := hq 0 hpos
        have hspot : spot = none := by simpa [Addr.add] using World.cell?_spot q0
        subst hspot
        refine .inr ⟨ab, ao, rfl, ?_, fun i hi' => ?_⟩
        · apply Nat.lt_of_not_le
          intro hle
          have e : W.heap[ab]? = none := by simp; exact hle
          rw [Addr.add_lit] at q0
          simp [World.cell?, e] at q0
        · obtain ⟨_, q0, q1, q2, q3⟩ := hq i hi'
          rw [Addr.add_lit] at q0 q1 q2 q3
          rw [Addr.add_lit] at q1 q2 q3
          exact ⟨q0, q1, q2, q3⟩
    · intro x hx
      obtain ⟨i, hi', rfl⟩ := List.getElem_of_mem hx
      exact (hq i hi').1
end
end Go.Proofs.YtbekkdhlfkongaaGreatDoor

/-
  The listed tables: what the rows list of package-level variables, what that says of the world, and a world for the witness.
-/
namespace Go.Proofs.YtbekkdhlfkongaaGreatDoor
open Go.ChangeShapes Go.WideShapes Go.ChangeAt Go.RowKit
set_option maxRecDepth 100000

theorem gTab : Tryz.prog.globalNamed "math/bits.deBruijn64tab" = some 3 := by kernel_rfl
theorem gTabType : (Tryz.prog.globals[3]?).map (·.type) = some 235 := by kernel_rfl
theorem cells64 : Tryz.prog.cellsOf 235 = 64 := by kernel_rfl
theorem cells8 : Tryz.prog.cellsOf 5 = 1 := by kernel_rfl
theorem gOps : Tryz.prog.globalNamed "hurdle/ins.operations" = some 0 := by kernel_rfl
theorem gOpsType : (Tryz.prog.globals[0]?).map (·.type) = some 167 := by kernel_rfl
theorem cellsOps : Tryz.prog.cellsOf 167 = 117 := by kernel_rfl
theorem cellsOp : Tryz.prog.cellsOf 127 = 3 := by kernel_rfl
/-- What the rows list of package-level variables. -/
def lays : List (String × DataW Unit) := [("math/bits.deBruijn32tab", Rows.laid_math_bits_deBruijn32tab), ("math/bits.deBruijn64tab", Rows.laid_math_bits_deBruijn64tab), ("internal/strconv.uint64pow10", Rows.laid_internal_strconv_uint64pow10), ("hurdle/ins.operations", Rows.laid_hurdle_ins_operations)]

theorem tabOf : (Rows.laid_math_bits_deBruijn64tab : DataW Unit) = Lib.tabData .u8 (numsOf Rows.laid_math_bits_deBruijn64tab) := rfl
theorem tab_of {W : World} (h : laidMetH Tryz.prog lays W) : Tab W := by
  have h1 : laidMet Tryz.prog lays W := h
  have h2 := laidMet.tail h1
  rw [tabOf] at h2
  have ht := Lib.tabIs_of_head gTab gTabType Tryz.underlying235 Tryz.underlying5 cells8 cells64 h2
  have hc : W.cell? ⟨3, 15, none⟩ = some (.int .u8 4) := ht.cell gTab 15 (by decide)
  refine ⟨hc, ?_⟩
  apply Nat.lt_of_not_le
  intro hle
  have e : W.heap[3]? = none := by simp; exact hle
  simp [World.cell?, e] at hc

/-- A row of the table as a datum. -/
def rowD (r : Ip.Row) : DataW Unit := .agg [.lit (.int .i64 r.op), .lit (.string r.word), .lit (.int .i64 r.fmt)]
def rowC (r : Ip.Row) : List Value := [.int .i64 r.op, .string r.str, .int .i64 r.fmt]
theorem opsOf : (Rows.laid_hurdle_ins_operations : DataW Unit) = .agg (Ip.rows.map rowD) := rfl
theorem cellsFlat : (List.range 39).flatMap (fun i => rowC (Ip.rowAt i)) = Ip.cellsL := by kernel_rfl
/-- The three cells of a row, by how they read. -/
theorem row_cells {W : World} {fuel : Nat} {cs : List Value} {r : Ip.Row} {p : List MemPlace} (h : DataW.trod (fun _ => ()) Tryz.prog W 0 (fun _ => true) false fuel 127 cs = some (rowD r, p)) : cs = rowC r := by
  obtain ⟨xs, n, _, hx, hl, hxl, hf⟩ := DataW.trod_struct Tryz.underlying127 h
  have hd : xs.map (·.1) = [.lit (.int .i64 r.op), .lit (.string r.word), .lit (.int .i64 r.fmt)] := by
    have h1 := congrArg Prod.fst hx
    simp only [rowD, DataW.agg.injEq] at h1
    exact h1.symm
  rw [cellsOp] at hl
  match xs, hd, cs, hl with
  | [x0, x1, x2], hd, [a, b, c], _ =>
    simp only [List.map_cons, List.map_nil, List.cons.injEq, and_true] at hd
    have h0 : DataW.trod (fun _ => ()) Tryz.prog W 0 (fun _ => true) false n 3 [a] = some x0 := hf 0 _ rfl
    have h1 : DataW.trod (fun _ => ()) Tryz.prog W 0 (fun _ => true) false n 9 [b] = some x1 := hf 1 _ rfl
    have h2 : DataW.trod (fun _ => ()) Tryz.prog W 0 (fun _ => true) false n 3 [c] = some x2 := hf 2 _ rfl
    obtain ⟨z0, e0, g0, _⟩ := DataW.trod_int Tryz.underlying3 h0
    obtain ⟨s1, e1, g1, _⟩ := DataW.trod_string Tryz.underlying9 h1
    obtain ⟨z2, e2, g2, _⟩ := DataW.trod_int Tryz.underlying3 h2
    subst g0 g1 g2
    simp only [DataW.lit.injEq, Lit.int.injEq, Lit.string.injEq, true_and, List.cons.injEq, and_true] at hd e0 e1 e2
    obtain ⟨d0, d1, d2⟩ := hd
    have hs : s1 = r.str := by
      apply ByteArray.ext
      apply Array.ext'
      rw [d1]
      rfl
    rw [rowC, e0, e1, e2, d0, d2, hs]
/-- A row that lists the table of the operations alone. -/
def lays1 : List (String × DataW Unit) := [("hurdle/ins.operations", Rows.laid_hurdle_ins_operations)]
theorem otab1_of {W : World} (h : laidMetH Tryz.prog lays1 W) : OTab W := by
  have h2 : laidMet Tryz.prog lays1 W := h
  unfold lays1 at h2
  rw [opsOf] at h2
  obtain ⟨cs, ty, fr, fuel, p, hh, hd⟩ := laid_head gOps gOpsType h2
  obtain ⟨xs, m, _, hx, hl, hxl, hf⟩ := DataW.trod_array Tryz.underlying167 hd
  have hm : xs.map (·.1) = Ip.rows.map rowD := by
    have h3 := congrArg Prod.fst hx
    simp only [DataW.agg.injEq] at h3
    exact h3.symm
  rw [cellsOps] at hl
  have hc : cs.toList = Ip.cellsL := by
    rw [← cellsFlat]
    refine chunks 3 39 _ _ hl (fun i hi => ?_)
    have h4 := hf i hi
    rw [cellsOp] at h4
    have h5 : xs[i]? = some (rowD (Ip.rowAt i), (xs[i]'(by omega)).2) := by
      have h6 := congrArg (·[i]?) hm
      simp only [List.getElem?_map] at h6
      rw [List.getElem?_eq_getElem (by omega)] at h6 ⊢
      rw [List.getElem?_eq_getElem (by rw [Ip.rows_len]; exact hi)] at h6
      simp only [Option.map_some, Option.some.injEq] at h6
      rw [show Ip.rowAt i = Ip.rows[i]'(by rw [Ip.rows_len]; exact hi) by unfold Ip.rowAt List.getD; rw [List.getElem?_eq_getElem (by rw [Ip.rows_len]; exact hi)]; rfl, ← h6]
    rw [h5] at h4
    exact row_cells h4
  refine ⟨ty, fr, ?_⟩
  rw [hh, show cs = Ip.cells by apply Array.ext'; exact hc]

theorem otab_of {W : World} (h : laidMetH Tryz.prog lays W) : OTab W := by
  have h1 : laidMet Tryz.prog lays W := h
  exact otab1_of (show laidMet Tryz.prog lays1 W from laidMet.tail (laidMet.tail (laidMet.tail h1)))

/-- A world for the witness: the settled one, its tables as their initialisers lay them. -/
noncomputable def laidWorld (os : Os) : World :=
  { World.holding Tryz.prog os ⟨#[], #[], []⟩ with heap := ((((World.holding Tryz.prog os ⟨#[], #[], []⟩).heap.modify 2 (laidBlock (cellsOfD .u8 Rows.laid_math_bits_deBruijn32tab))).modify 3 (laidBlock (cellsOfD .u8 Rows.laid_math_bits_deBruijn64tab))).modify 1 (laidBlock (cellsOfD .u64 Rows.laid_internal_strconv_uint64pow10))).modify 0 (laidBlock Ip.cells) }
end Go.Proofs.YtbekkdhlfkongaaGreatDoor
/-
  Acts, as they lie in a world; at, Do and means of package hurdlelaw12.
-/
namespace Go.Proofs.YtbekkdhlfkongaaGreatDoor
open Go.ChangeShapes Go.WideShapes Go.ChangeAt Go.RowKit
set_option maxRecDepth 20000

def A4.ok (a : A4) : Prop := a.x.ok ∧ a.t ≤ 65535 ∧ a.f ≤ 65535
abbrev A4.cells (a : A4) : Array Value := #[.int .i64 a.kind, .int .i64 a.x.op, .int .i64 a.x.jt, .int .i64 a.x.jf, .int .u32 a.x.k, .int .u16 (a.t : Nat), .int .u16 (a.f : Nat)]
abbrev A4.val (a : A4) : Value := .agg #[.int .i64 a.kind, .int .i64 a.x.op, .int .i64 a.x.jt, .int .i64 a.x.jf, .int .u32 a.x.k, .int .u16 (a.t : Nat), .int .u16 (a.f : Nat)]
/-- Acts that lie in a world. -/
def AAt (w : World) (v : Value) (l : List A4) : Prop :=
  ∃ ao cap, v = .slice ao l.length cap ∧ (l = [] ∨ ∃ b off, ao = some ⟨b, off, none⟩ ∧ b < w.heap.size ∧ ∀ i (h : i < l.length),
    w.cell? ⟨b, off + i * 7, none⟩ = some (.int .i64 (l[i]).kind) ∧ w.cell? ⟨b, off + i * 7 + 1, none⟩ = some (.int .i64 (l[i]).x.op) ∧ w.cell? ⟨b, off + i * 7 + 2, none⟩ = some (.int .i64 (l[i]).x.jt) ∧ w.cell? ⟨b, off + i * 7 + 3, none⟩ = some (.int .i64 (l[i]).x.jf) ∧ w.cell? ⟨b, off + i * 7 + 4, none⟩ = some (.int .u32 (l[i]).x.k) ∧
    w.cell? ⟨b, off + i * 7 + 5, none⟩ = some (.int .u16 ((l[i]).t : Nat)) ∧ w.cell? ⟨b, off + i * 7 + 6, none⟩ = some (.int .u16 ((l[i]).f : Nat)))
theorem AAt.nil (w : World) : AAt w (.slice none 0 0) [] := ⟨none, 0, rfl, .inl rfl⟩
theorem AAt.shape {w : World} {v : Value} {l : List A4} (h : AAt w v l) : ∃ ao cap, v = .slice ao l.length cap := by
  obtain ⟨ao, cap, rfl, _⟩ := h
  exact ⟨ao, cap, rfl⟩
theorem AAt.below {w w' : World} {v : Value} {l : List A4} (h : AAt w v l) (hb : Below w.heap.size w w') : AAt w' v l := by
  obtain ⟨ao, cap, rfl, h⟩ := h
  refine ⟨ao, cap, rfl, h.imp id ?_⟩
  rintro ⟨b, off, rfl, hl, hc⟩
  refine ⟨b, off, rfl, Nat.lt_of_lt_of_le hl hb.size, fun i hi => ?_⟩
  obtain ⟨c0, c1, c2, c3, c4, c5, c6⟩ := hc i hi
  exact ⟨(hb.cell (p := ⟨b, _, none⟩) hl).trans c0, (hb.cell (p := ⟨b, _, none⟩) hl).trans c1, (hb.cell (p := ⟨b, _, none⟩) hl).trans c2, (hb.cell (p := ⟨b, _, none⟩) hl).trans c3, (hb.cell (p := ⟨b, _, none⟩) hl).trans c4, (hb.cell (p := ⟨b, _, none⟩) hl).trans c5, (hb.cell (p := ⟨b, _, none⟩) hl).trans c6⟩
/-- The act of a row. -/
theorem AAt.row {w : World} {ao : Option Addr} {cap n : Nat} {l : List A4} (h : AAt w (.slice ao n cap) l) (i : Nat) (hi : i < l.length) : ∃ b off, ao = some ⟨b, off, none⟩ ∧
    w.cell? ⟨b, off + i * 7, none⟩ = some (.int .i64 (l[i]).kind) ∧ w.cell? ⟨b, off + i * 7 + 1, none⟩ = some (.int .i64 (l[i]).x.op) ∧ w.cell? ⟨b, off + i * 7 + 2, none⟩ = some (.int .i64 (l[i]).x.jt) ∧ w.cell? ⟨b, off + i * 7 + 3, none⟩ = some (.int .i64 (l[i]).x.jf) ∧ w.cell? ⟨b, off + i * 7 + 4, none⟩ = some (.int .u32 (l[i]).x.k) ∧
    w.cell? ⟨b, off + i * 7 + 5, none⟩ = some (.int .u16 ((l[i]).t : Nat)) ∧ w.cell? ⟨b, off + i * 7 + 6, none⟩ = some (.int .u16 ((l[i]).f : Nat)) := by
  obtain ⟨ao', cap', e, h⟩ := h
  rcases h with rfl | ⟨b, off, rfl, _, hc⟩
  · cases hi
  · cases e
    exact ⟨b, off, rfl, hc i hi⟩

end Go.Proofs.YtbekkdhlfkongaaGreatDoor
/-
  What codec.Right, and the document's Check and Same, answer, for any filter that lies in a world.
-/
namespace Go.Proofs.YtbekkdhlfkongaaGreatDoor
open Go.ChangeShapes Go.WideShapes Go.ChangeAt Go.RowKit
set_option maxRecDepth 20000

theorem neq_ins (x y : X4) (W : World) : (binOp .neq 64 (.agg #[.int .i64 x.op, .int .i64 x.jt, .int .i64 x.jf, .int .u32 x.k]) (.agg #[.int .i64 y.op, .int .i64 y.jt, .int .i64 y.jf, .int .u32 y.k])).run Tryz.prog W = .ok (.bool (!decide (x = y))) W := by
  obtain ⟨a, b, c, d⟩ := x
  obtain ⟨a', b', c', d'⟩ := y
  simp only [X4.mk.injEq]
  cases h0 : (a == a') <;> cases h1 : (b == b') <;> cases h2 : (c == c') <;> cases h3 : (d == d') <;> go_simp <;> simp_all
theorem take_step {l l' : List X4} {n : Nat} (h : n < l.length) (h' : n < l'.length) (ht : l.take n = l'.take n) (e : l[n] = l'[n]) : l.take (n + 1) = l'.take (n + 1) := by
  rw [List.take_succ_eq_append_getElem h, List.take_succ_eq_append_getElem h', ht, e]

set_option maxHeartbeats 1000000 in
theorem same_any (v v' : Value) (l l' : List X4) (w : World) (hl : l.length ≤ 1099511627776) (hF : FAt w v l) (hF' : FAt w v' l') :
    Calls Tryz.prog 21 #[v, v'] w fun e w' => e = .returned (.bool (decide (l = l'))) ∧ Below w.heap.size w w' := by
  obtain ⟨ao, cap, rfl, hF⟩ := hF
  obtain ⟨ao', cap', rfl, hF'⟩ := hF'
  by_cases hne : l.length = l'.length
  · have HF := Lib.hid hF
    have HF' := Lib.hid hF'
    have HNE := Lib.hid hne
    rw [← hne]
    clear hF hF' hne
    go_enter Tryz.func21, Tryz.ntmps21
    go_wp2_with fail
    go_loopw [5] (fun i wr => ∃ n : Nat, n ≤ l.length ∧ i = .int .i64 n ∧ Below w.heap.size w wr ∧ l.take n = l'.take n) (fun i _ => l.length - (intOf i).toNat)
    case atStart => exact ⟨0, by omega, rfl, Below.refl _ _, by simp⟩
    case round =>
      obtain ⟨n, hn, rfl, hB, hall⟩ := hrel
      have HB := Lib.hid hB
      have HA := Lib.hid hall
      by_cases hlt : n < l.length
      · have hlt' : n < l'.length := by have := HNE.out; omega
        rcases HF.out with h0 | ⟨b, off, rfl, hb, hc⟩
        · rw [h0] at hlt; simp at hlt
        rcases HF'.out with h0 | ⟨b', off', rfl, hb', hc'⟩
        · rw [h0] at hlt'; simp at hlt'
        obtain ⟨c0, c1, c2, c3⟩ := hc n hlt
        obtain ⟨c0', c1', c2', c3'⟩ := hc' n hlt'
        have d0 := (hB.cell (p := ⟨b, _, none⟩) hb).trans c0
        have d1 := (hB.cell (p := ⟨b, _, none⟩) hb).trans c1
        have d2 := (hB.cell (p := ⟨b, _, none⟩) hb).trans c2
        have d3 := (hB.cell (p := ⟨b, _, none⟩) hb).trans c3
        have e0 := (hB.cell (p := ⟨b', _, none⟩) hb').trans c0'
        have e1 := (hB.cell (p := ⟨b', _, none⟩) hb').trans c1'
        have e2 := (hB.cell (p := ⟨b', _, none⟩) hb').trans c2'
        have e3 := (hB.cell (p := ⟨b', _, none⟩) hb').trans c3'
        clear hc c0 c1 c2 c3 hc' c0' c1' c2' c3' hB hall HF HF'
        go_wp2_with fail
        have hq := neq_ins l[n] l'[n]
        cases hd : decide (l[n] = l'[n])
        · have HE := Lib.hid (show l ≠ l' from fun h => by subst h; simp at hd)
          rw [hd] at hq
          clear hd
          go_quiet (fail)
          go_wp2_with fail
          go_ret
          exact ⟨retB (by simpa using HE.out), bdN HB.out _⟩
        · have HE := Lib.hid (take_step hlt hlt' HA.out (by simpa using hd))
          rw [hd] at hq
          clear hd
          go_quiet (fail)
          go_wp2_with fail
          go_roundw
          case rel => exact ⟨n + 1, by omega, by go_num, bdN HB.out _, HE.out⟩
          case measure => simp [intOf]; omega
      · have HE := Lib.hid (show l = l' by
          have h1 := hall
          rw [List.take_of_length_le (by omega), List.take_of_length_le (by have := HNE.out; omega)] at h1
          exact h1)
        clear hB hall
        go_wp2_with fail
        go_ret
        exact ⟨retB (by simpa using HE.out), HB.out⟩
  · have HE := Lib.hid (show l ≠ l' from fun h => hne (by rw [h]))
    go_enter Tryz.func21, Tryz.ntmps21
    go_wp2_with fail
    go_ret
    exact ⟨retB (by simpa using HE.out), Below.refl _ _⟩
end Go.Proofs.YtbekkdhlfkongaaGreatDoor
/-
  The rows of examples at the end of each law of package hurdlelaw12; arguments that are code, and acts; a slice of code from a place on.
-/
namespace Go.Proofs.YtbekkdhlfkongaaGreatDoor
open Go.ChangeShapes Go.WideShapes Go.ChangeAt Go.RowKit Go.Deep
set_option maxRecDepth 100000

theorem eq_insH (x y : X4) (W : World) : (binOp .eql 64 (.agg #[.int .i64 x.op, .int .i64 x.jt, .int .i64 x.jf, .int .u32 x.k]) (.agg #[.int .i64 y.op, .int .i64 y.jt, .int .i64 y.jf, .int .u32 y.k])).run Tryz.prog W = .ok (.bool (decide (x = y))) W := by
  obtain ⟨a, b, c, d⟩ := x
  obtain ⟨a', b', c', d'⟩ := y
  simp only [X4.mk.injEq]
  cases h0 : (a == a') <;> cases h1 : (b == b') <;> cases h2 : (c == c') <;> cases h3 : (d == d') <;> go_simp <;> simp_all
theorem FAt.row {w : World} {ao : Option Addr} {cap n : Nat} {l : List X4} (h : FAt w (.slice ao n cap) l) (i : Nat) (hi : i < l.length) : ∃ b off, ao = some ⟨b, off, none⟩ ∧ b < w.heap.size ∧
    w.cell? ⟨b, off + i * 4, none⟩ = some (.int .i64 (l[i]).op) ∧ w.cell? ⟨b, off + i * 4 + 1, none⟩ = some (.int .i64 (l[i]).jt) ∧ w.cell? ⟨b, off + i * 4 + 2, none⟩ = some (.int .i64 (l[i]).jf) ∧ w.cell? ⟨b, off + i * 4 + 3, none⟩ = some (.int .u32 (l[i]).k) := by
  obtain ⟨ao', cap', e, h⟩ := h
  rcases h with rfl | ⟨b, off, rfl, hb, hc⟩
  · cases hi
  · cases e
    exact ⟨b, off, rfl, hb, hc i hi⟩
/-- Code from a place on. -/
theorem CdAt.past {w : World} {v : Value} {l : List X4} (hh : CdAt w v l) (lo : Nat) (hl : lo ≤ l.length) :
    ∃ v', (∀ W, (Instr.slice 32 v (some (.int .i64 (lo : Nat))) none none).run Tryz.prog W = .ok v' W) ∧ FAt w v' (l.drop lo) := by
  obtain ⟨⟨ao, cap, rfl, hD⟩, hv⟩ := hh
  obtain ⟨_, _, _, e, hcap, hmax⟩ := hv
  simp only [Value.slice.injEq] at e
  obtain ⟨rfl, rfl, rfl⟩ := e
  have hl2 : (l.drop lo).length = l.length - lo := List.length_drop
  rcases hD with rfl | ⟨g, off, rfl, hg, hc⟩
  · simp at hl
    subst hl
    cases ao with
    | none => exact ⟨.slice none 0 cap, fun W => by go_simp, none, cap, rfl, .inl rfl⟩
    | some a => exact ⟨.slice (some a) 0 cap, fun W => by go_simp, some a, cap, rfl, .inl rfl⟩
  · have cR : Tryz.prog.cellsOf 64 = 4 := by kernel_rfl
    by_cases hc1 : cap = lo
    · refine ⟨.slice (some ⟨g, off, none⟩) (l.length - lo) 0, fun W => ?_, some ⟨g, off, none⟩, 0, by rw [hl2], .inl ?_⟩
      · subst hc1
        go_simp
        (try (intro h; omega))
      · exact List.eq_nil_of_length_eq_zero (by omega)
    · refine ⟨.slice (some ⟨g, off + lo * 4, none⟩) (l.length - lo) (cap - lo), fun W => ?_, some ⟨g, off + lo * 4, none⟩, cap - lo, by rw [hl2], .inr ⟨g, off + lo * 4, rfl, hg, fun i hi' => ?_⟩⟩
      · go_simp
        (try (intro h; omega))
      · obtain ⟨c0, c1, c2, c3⟩ := hc (lo + i) (by omega)
        rw [List.getElem_drop]
        rw [Nat.add_mul, ← Nat.add_assoc] at c0 c1 c2 c3
        exact ⟨c0, c1, c2, c3⟩
/-! ### Arguments -/
section
variable {H : Type} {enc : TypeId × Value → H} {W : World} {base : Nat} {v : Value} {d : DataW H} {p : List MemPlace}
theorem capf_of_trod {t e : TypeId} {ao : Option Addr} {n0 c0 : Nat} (ht : Tryz.prog.underlying t = some (.slice e)) (h : DataW.Trod enc Tryz.prog W 0 (fun _ => true) true t (.slice ao n0 c0) d p) : CapF (.slice ao n0 c0) := by
  obtain ⟨fuel, h⟩ := h
  rcases open_slice ht h with ⟨hcs, _⟩ | ⟨a, len', cap', m, n, D, Pl, hcs, _, hl, hm, _⟩
  · simp [Value.cells] at hcs
    obtain ⟨rfl, rfl, rfl⟩ := hcs
    exact CapF.nil
  · simp [Value.cells] at hcs
    obtain ⟨rfl, rfl, rfl⟩ := hcs
    unfold maxLen at hm
    exact ⟨_, _, _, rfl, hl, hm⟩
theorem open_code (hval : Value.okWide Tryz.prog W .any base 32 v) (h : DataW.Trod enc Tryz.prog W 0 (fun _ => true) true 32 v d p) : ∃ l : List X4, CdAt W v l ∧ (∀ x ∈ l, x.ok) ∧ l.length ≤ 9223372036854775807 := by
  obtain ⟨l, hF, r⟩ := open_filt hval h
  obtain ⟨a1, len, cap, rfl⟩ := okWide_slice Tryz.underlying32 hval
  exact ⟨l, ⟨hF, capf_of_trod Tryz.underlying32 h⟩, r⟩
end
end Go.Proofs.YtbekkdhlfkongaaGreatDoor
/-
  The rows of examples at the end of each law of package hurdlelaw13.
-/
namespace Go.Proofs.YtbekkdhlfkongaaGreatDoor
open Go.ChangeShapes Go.WideShapes Go.ChangeAt Go.RowKit
set_option maxRecDepth 100000

def zexR : Rl := ⟨7, 3, 2147418112, []⟩
def zexP : Po := ⟨[zexR], 0⟩
def zexO : Po := ⟨[], 0⟩
theorem zact_allow : (actT 2147418112).isSome = true := by decide
theorem zact_kill : (actT 0).isSome = true := by decide
theorem zexP_right : zexP.right = true := right_po (by decide) zact_kill (fun x hx => by rw [List.mem_singleton.1 hx]; exact rl_right (by decide) zact_allow (fun c hc => by cases hc))
theorem zexO_right : zexO.right = true := right_po (by decide) zact_kill (fun x hx => by cases hx)
theorem zexP_ok : zexP.ok := ⟨by decide, fun x hx => by rw [List.mem_singleton.1 hx]; exact ⟨by decide, by decide, by decide, fun c hc => by cases hc⟩⟩
theorem zexO_ok : zexO.ok := ⟨by decide, fun x hx => by cases hx⟩
def zrec (n : Nat) : Rec := ⟨n, 7, 0, 0, 0, 0, 0, 0, 0⟩
theorem zrec_ok {n : Nat} (h : n < 4294967296) : (zrec n).ok := by
  refine ⟨h, ?_, ?_, ?_, ?_, ?_, ?_, ?_, ?_⟩ <;> (simp only [zrec]; omega)
theorem zjudge3 : judgeR zexP.rules zexP.dflt (zrec 3) = 2147418112 := by decide
theorem zjudge4 : judgeR zexP.rules zexP.dflt (zrec 4) = 0 := by decide
/-- A rule of which nothing but numbers is given. -/
theorem zrule_at (w : World) : LAt (w.alloc (rlB zexR (.slice none 0 0))) (.slice (some ⟨w.heap.size, 0, none⟩) 1 1) [zexR] := by
  refine ⟨[(zexR, .slice none 0 0)], rfl, ?_, fun p hp => by rw [List.mem_singleton.1 hp]; exact CAt.nil _⟩
  exact QAt.of_cells (l := [rlQ (zexR, .slice none 0 0)]) (fun _ => by rw [size_alloc]; omega) (fun i u hu => by
    rw [Nat.zero_add, cell_in (heap_alloc_new w _) i]
    simpa [qcells] using hu)
set_option maxHeartbeats 8000000 in
theorem zknows_any (w : World) (ht : Tab w) (hot : OTab w) :
    Calls Tryz.prog 9 #[] w fun e w' => e = .returned (.bool true) ∧ Below w.heap.size w w' := by
  have HT := Lib.hid ht
  have HOT := Lib.hid hot
  clear ht hot
  obtain ⟨s1, k1, _, r1⟩ := lower_ok zexP_ok zexP_right
  have HS1 := Lib.hid s1
  have HK1 := Lib.hid k1
  have HR3 := Lib.hid ((r1 (zrec 3) (zrec_ok (by omega))).trans zjudge3)
  have HR4 := Lib.hid ((r1 (zrec 4) (zrec_ok (by omega))).trans zjudge4)
  clear s1 k1 r1
  go_enter Tryz.func9, Tryz.ntmps9
  go_wp2_with fail
  refine (lower_any (.slice none 0 0) zexO w (LAt.nil w) zexO_ok (by decide) (fun x hx => by cases hx) HT.out HOT.out).mono ?_
  rintro e w1 ⟨⟨v1, h1, rfl⟩, hb1⟩
  rw [if_pos zexO_right] at h1 ⊢
  rw [show lowerN zexO = [⟨6, 0, 0, (0 : Nat)⟩] from lower_none 0] at h1
  have H1 := Lib.hid h1
  have HB1 := Lib.hid hb1
  obtain ⟨o1, p1, hv1⟩ := h1.shape
  have hv1' : v1 = .slice o1 1 p1 := hv1
  subst hv1'
  clear h1 hb1 hv1
  go_wp2_with fail
  have hbA := ba (rlB zexR (.slice none 0 0)) (Below.refl w1.heap.size w1)
  refine (lower_any (.slice (some ⟨w1.heap.size, 0, none⟩) 1 1) zexP (w1.alloc (rlB zexR (.slice none 0 0))) (zrule_at w1) zexP_ok (by decide) (fun x hx => by rw [List.mem_singleton.1 hx]; exact Nat.zero_le _) (HT.out.below (HB1.out.trans (hbA.mono HB1.out.size))) (HOT.out.below (HB1.out.trans (hbA.mono HB1.out.size)))).mono ?_
  rintro e w2 ⟨⟨v2, h2, rfl⟩, hb2⟩
  rw [if_pos zexP_right] at h2 ⊢
  have H2 := Lib.hid h2
  have HB2 := Lib.hid (below2 (HB1.out.trans (hbA.mono HB1.out.size)) hb2)
  have H12 := Lib.hid ((H1.out.below hbA).below hb2)
  obtain ⟨o2, p2, rfl⟩ := h2.shape
  obtain ⟨g, hg⟩ : ∃ g, g = lowerN zexP := ⟨_, rfl⟩
  rw [← hg] at H2 HS1 HK1 HR3 HR4 ⊢
  clear h2 hb2 hbA H1 hg
  go_wp2_with fail
  refine (run_any _ g (zrec 3) _ H2.out HK1.out (zrec_ok (by omega)) (HOT.out.below HB2.out) (soundB_iff.2 HS1.out)).mono ?_
  rintro e w3 ⟨rfl, hb3⟩
  rw [HR3.out]
  have HB3 := Lib.hid (below2 HB2.out hb3)
  have H13 := Lib.hid (H12.out.below hb3)
  have H23 := Lib.hid (H2.out.below hb3)
  clear hb3
  go_wp2_with fail
  refine (run_any _ g (zrec 4) _ H23.out HK1.out (zrec_ok (by omega)) (HOT.out.below HB3.out) (soundB_iff.2 HS1.out)).mono ?_
  rintro e w4 ⟨rfl, hb4⟩
  rw [HR4.out]
  have HB4 := Lib.hid (below2 HB3.out hb4)
  have H14 := Lib.hid (H13.out.below hb4)
  clear hb4
  obtain ⟨b, off, rfl, hb, c0, c1, c2, c3⟩ := H14.out.row 0 (by decide)
  have c0 : w4.cell? ⟨b, off, none⟩ = some (.int .i64 6) := c0
  have c1 : w4.cell? ⟨b, off + 1, none⟩ = some (.int .i64 0) := c1
  have c2 : w4.cell? ⟨b, off + 2, none⟩ = some (.int .i64 0) := c2
  have c3 : w4.cell? ⟨b, off + 3, none⟩ = some (.int .u32 0) := c3
  have hE : ∀ W, (binOp .eql 64 (.agg #[.int .i64 6, .int .i64 0, .int .i64 0, .int .u32 0]) (.agg #[.int .i64 6, .int .i64 0, .int .i64 0, .int .u32 0])).run Tryz.prog W = .ok (.bool true) W := fun W => eq_insH ⟨6, 0, 0, 0⟩ ⟨6, 0, 0, 0⟩ W
  go_wp2_with fail
  go_ret
  exact ⟨rfl, HB4.out⟩
/-- The last word of a law: the rows of examples. -/
theorem zknow_end {a w : World} (hb : Below a.heap.size a w) (ht : Tab a) (hot : OTab a) : Calls Tryz.prog 9 #[] w fun e w' => e = .returned (.bool true) ∧ Below a.heap.size a w' :=
  (zknows_any w (ht.below hb) (hot.below hb)).mono fun _ _ ⟨he, h⟩ => ⟨he, below2 hb h⟩
end Go.Proofs.YtbekkdhlfkongaaGreatDoor
/-
  The document's Read of a rule's line (package hurdleref10).
-/
namespace Go.Proofs.YtbekkdhlfkongaaGreatDoor
open Go.ChangeShapes Go.WideShapes Go.ChangeAt Go.RowKit
set_option maxRecDepth 20000

theorem infoCd : (Tryz.prog.info? 55).map (fun i => (i.zero, i.size, i.bytes)) = some (some (.agg #[.int .i64 0, .int .i64 0, .int .u64 0, .int .u64 0]), 4, 32) := by kernel_rfl
/-- A row of the call's own stays where another block is written. -/
theorem own_put {w w' : World} {g base : Nat} {o : Obj} {e : TypeId} {size : Nat} {v : Value} {n : Nat} {xs : List Value} (h : w.ownsRow base e size v n xs) (hp : RowPut w w' g o) (hg : g < base) : w'.ownsRow base e size v n xs := by
  obtain ⟨h1, h2⟩ := h
  refine ⟨h1, h2.imp id ?_⟩
  rintro ⟨k, cap, cur, hv, hk, hh, r⟩
  exact ⟨k, cap, cur, hv, hk, hp.keep (by omega) hh, r⟩
theorem RowPut.then {w w' w'' : World} {g : Nat} {o o' : Obj} (h : RowPut w w' g o) (h' : RowPut w' w'' g o') : RowPut w w'' g o' :=
  ⟨h'.os.trans h.os, h'.tape.trans h.tape, h'.output.trans h.output, h'.size.trans h.size, h'.row, fun k hk => (h'.rest k hk).trans (h.rest k hk)⟩
end Go.Proofs.YtbekkdhlfkongaaGreatDoor
/-
  The document's Parse of a policy (package hurdleref10).
-/
namespace Go.Proofs.YtbekkdhlfkongaaGreatDoor
open Go.ChangeShapes Go.WideShapes Go.ChangeAt Go.RowKit
set_option maxRecDepth 20000

theorem infoRl : (Tryz.prog.info? 45).map (fun i => (i.zero, i.size, i.bytes)) = some (some (.agg #[.int .u32 0, .int .u32 0, .slice none 0 0, .int .u32 0]), 4, 40) := by kernel_rfl
/-- A row of the call's own stays where another one grows. -/
theorem own_keep {w w' : World} {base : Nat} {e : TypeId} {size : Nat} {u v : Value} {n : Nat} {xs : List Value} (h : w.ownsRow base e size v n xs) (hg : w.grownBy w' u.ownBlock) (hne : v.ownBlock = none ∨ v.ownBlock ≠ u.ownBlock) : w'.ownsRow base e size v n xs := by
  obtain ⟨h1, h2⟩ := h
  refine ⟨h1, h2.imp id ?_⟩
  rintro ⟨k, cap, cur, rfl, hk, hh, r⟩
  refine ⟨k, cap, cur, rfl, hk, (hg.block k (lt_of_block hh) (fun e => ?_)).trans hh, r⟩
  rcases hne with h | h
  · simp [Value.ownBlock] at h
  · exact h (by rw [← e]; simp [Value.ownBlock])
/-- Rules that lie in rows of the call's own. -/
structure LOwn (w : World) (B : Nat) (rv : Value) (l : List (Rl × Value)) : Prop where
  row : w.ownsRow B 45 4 rv l.length (qcells (l.map rlQ))
  conds : ∀ p ∈ l, w.ownsRow B 55 4 p.2 p.1.conds.length (qcells (p.1.conds.map cdQ))
theorem LOwn.nil (w : World) (B : Nat) : LOwn w B (.slice none 0 0) [] := ⟨World.ownsRow_nil _ _ _ _, by simp⟩
theorem LOwn.below {w w' : World} {B : Nat} {rv : Value} {l : List (Rl × Value)} (h : LOwn w B rv l) (hb : Below w.heap.size w w') : LOwn w' B rv l := ⟨own_below h.row hb, fun p hp => own_below (h.conds p hp) hb⟩
theorem LOwn.put {w w' : World} {B g : Nat} {o : Obj} {rv : Value} {l : List (Rl × Value)} (h : LOwn w B rv l) (hp : RowPut w w' g o) (hg : g < B) : LOwn w' B rv l := ⟨own_put h.row hp hg, fun p hq => own_put (h.conds p hq) hp hg⟩
theorem LOwn.at {w : World} {B : Nat} {rv : Value} {l : List (Rl × Value)} (h : LOwn w B rv l) : LAt w rv (l.map (·.1)) :=
  ⟨l, rfl, QAt.own h.row (by rw [List.length_map]), fun p hp => QAt.own (h.conds p hp) (by rw [List.length_map])⟩
theorem ne_types : 45 ≠ 55 := by decide
theorem LOwn.grow {w w' : World} {B : Nat} {rv rv' : Value} {l : List (Rl × Value)} {x : Rl} {cv : Value} (h : LOwn w B rv l) (hc : w.ownsRow B 55 4 cv x.conds.length (qcells (x.conds.map cdQ))) (hg : w.grownBy w' rv.ownBlock)
    (hr : w'.ownsRow B 45 4 rv' (l.length + 1) (qcells (l.map rlQ) ++ V4.cells (rlQ (x, cv)))) : LOwn w' B rv' (l ++ [(x, cv)]) := by
  refine ⟨?_, fun p hp => ?_⟩
  · rw [List.length_append, List.length_singleton, List.map_append, qcells_app, List.map_singleton, qcells_one]
    exact hr
  · rcases List.mem_append.1 hp with hp | hp
    · exact own_keep (h.conds p hp) hg (own_apart h.row (h.conds p hp) ne_types)
    · rw [List.mem_singleton.1 hp]
      exact own_keep hc hg (own_apart h.row hc ne_types)
end Go.Proofs.YtbekkdhlfkongaaGreatDoor
/-
  Package policy: a reader's words: take, more, wordsOf; strings.Join of any texts.
-/
namespace Go.Proofs.YtbekkdhlfkongaaGreatDoor
open Go.ChangeShapes Go.WideShapes Go.ChangeAt Go.RowKit
set_option maxRecDepth 20000

/-- Below block B nothing else than block g has changed. -/
structure OwnAt (B : Nat) (w w' : World) (g : Nat) (o : Obj) : Prop where
  os : w'.os = w.os
  tape : w'.tape = w.tape
  output : w'.output = w.output
  size : w.heap.size ≤ w'.heap.size
  row : w'.heap[g]? = some o
  rest : ∀ k, k ≠ g → k < B → w'.heap[k]? = w.heap[k]?
section
variable {B g : Nat} {w w' w'' : World} {o o' : Obj}
theorem OwnAt.refl (h : w.heap[g]? = some o) : OwnAt B w w g o := ⟨rfl, rfl, rfl, Nat.le_refl _, h, fun _ _ _ => rfl⟩
theorem OwnAt.then {B' : Nat} (h : OwnAt B w w' g o) (hb : Below B' w' w'') (hB : B ≤ B') (hg : g < B') : OwnAt B w w'' g o :=
  ⟨hb.os.trans h.os, hb.tape.trans h.tape, hb.output.trans h.output, Nat.le_trans h.size hb.size, (hb.block g hg).trans h.row, fun k hk hkB => (hb.block k (by omega)).trans (h.rest k hk hkB)⟩
theorem OwnAt.next (h : OwnAt B w w' g o) (hb : Below w'.heap.size w' w'') (hB : B ≤ w.heap.size) : OwnAt B w w'' g o :=
  h.then hb (Nat.le_trans hB h.size) (lt_of_block h.row)
theorem OwnAt.put (h : OwnAt B w w' g o) (hp : RowPut w' w'' g o') : OwnAt B w w'' g o' :=
  ⟨hp.os.trans h.os, hp.tape.trans h.tape, hp.output.trans h.output, by rw [hp.size]; exact h.size, hp.row, fun k hk hkB => (hp.rest k hk).trans (h.rest k hk hkB)⟩
theorem OwnAt.trans {B' : Nat} (h : OwnAt B w w' g o) (h' : OwnAt B' w' w'' g o') (hB : B ≤ B') : OwnAt B w w'' g o' :=
  ⟨h'.os.trans h.os, h'.tape.trans h.tape, h'.output.trans h.output, Nat.le_trans h.size h'.size, h'.row, fun k hk hkB => (h'.rest k hk (by omega)).trans (h.rest k hk hkB)⟩
theorem OwnAt.below {a : World} {C : Nat} (h : OwnAt B w w' g o) (hb : Below C a w) (hC : C ≤ B) (hg : C ≤ g) : Below C a w' :=
  ⟨h.os.trans hb.os, h.tape.trans hb.tape, h.output.trans hb.output, Nat.le_trans hb.size h.size, fun k hk => (h.rest k (by omega) (by omega)).trans (hb.block k hk)⟩
theorem OwnAt.keep {k : Nat} {x : Obj} (h : OwnAt B w w' g o) (hk : k ≠ g) (hkB : k < B) (ho : w.heap[k]? = some x) : w'.heap[k]? = some x := (h.rest k hk hkB).trans ho
theorem OwnAt.own {base size n : Nat} {e : TypeId} {v : Value} {xs : List Value} (h : OwnAt B w w' g o) (hw : w.ownsRow base e size v n xs) (hg : g < base) (hB : w.heap.size ≤ B) : w'.ownsRow base e size v n xs := by
  obtain ⟨h1, h2⟩ := hw
  refine ⟨h1, h2.imp id ?_⟩
  rintro ⟨k, cap, cur, hv, hk, hh, r⟩
  exact ⟨k, cap, cur, hv, hk, h.keep (by omega) (Nat.lt_of_lt_of_le (lt_of_block hh) hB) hh, r⟩
theorem OwnAt.grown {base size n : Nat} {e : TypeId} {v : Value} {xs : List Value} (h : OwnAt B w w' g o) (hw : w'.ownsRow base e size v n xs) (hgr : w'.grownBy w'' v.ownBlock) (hB : B ≤ w'.heap.size) (hb : B ≤ base) (hg : g < base) : OwnAt B w w'' g o := by
  have hlt := hw.lt
  have hgs := lt_of_block h.row
  refine ⟨hgr.os.trans h.os, hgr.tape.trans h.tape, hgr.output.trans h.output, Nat.le_trans h.size hgr.size, (hgr.block g hgs (fun e => ?_)).trans h.row, fun k hk hkB => (hgr.block k (by omega) (fun e => ?_)).trans (h.rest k hk hkB)⟩
  · have := (hlt g e.symm).1
    omega
  · have := (hlt k e.symm).1
    omega
end
/-! ### strings.Join of the texts of a row of the call's own -/
/-! ### A reader -/
end Go.Proofs.YtbekkdhlfkongaaGreatDoor
/-
  The rows of examples at the end of each law of package hurdlelaw10; an argument that is a policy.
-/
namespace Go.Proofs.YtbekkdhlfkongaaGreatDoor
open Go.ChangeShapes Go.WideShapes Go.ChangeAt Go.RowKit Go.Deep
set_option maxRecDepth 100000

/-! ### What is looked at -/
def smallR (x : Rl) : Bool := decide (x.conds.length ≤ 20)
def greatP (p : Po) : Bool := !(p.rules.all smallR) || decide (100 < p.rules.length)
theorem great_no {p : Po} (h : greatP p = false) : p.rules.length ≤ 100 ∧ ∀ x ∈ p.rules, x.conds.length ≤ 20 := by
  unfold greatP at h
  simp only [Bool.or_eq_false_iff, Bool.not_eq_false', List.all_eq_true, decide_eq_false_iff_not] at h
  refine ⟨by omega, fun x hx => ?_⟩
  have := h.1 x hx
  unfold smallR at this
  simpa using this
set_option maxHeartbeats 8000000 in
theorem great_any (rv : Value) (p : Po) (w : World) (hL : LAt w rv p.rules) (hl : p.rules.length ≤ 9223372036854775807) (hl2 : ∀ x ∈ p.rules, x.conds.length ≤ 9223372036854775807) :
    Calls Tryz.prog 8 #[poV rv p.dflt] w fun e w' => e = .returned (.bool (greatP p)) ∧ Below w.heap.size w w' := by
  obtain ⟨rs, d⟩ := p
  simp only at hL hl hl2
  obtain ⟨ao, cap, rfl, hrows⟩ := hL.rows
  have HROW := Lib.hid hrows
  have HX0 := Lib.hid (heap_alloc_new w (poB (.slice ao rs.length cap) d))
  have HB0 := Lib.hid (ba (poB (.slice ao rs.length cap) d) (Below.refl w.heap.size w))
  obtain ⟨W, hW⟩ : ∃ W, W = w.alloc (poB (.slice ao rs.length cap) d) := ⟨_, rfl⟩
  rw [← hW] at HX0 HB0
  obtain ⟨R, hR⟩ : ∃ R, R = greatP ⟨rs, d⟩ := ⟨_, rfl⟩
  rw [← hR]
  have HR := Lib.hid hR
  have HL2 := Lib.hid hl2
  clear hR hrows hL hl2
  go_enter Tryz.func8, Tryz.ntmps8
  go_upto_region 1 with fail
  change Code.wp _ _ _ _ (w.alloc (poB (.slice ao rs.length cap) d))
  rw [← hW]
  clear hW
  go_wp2_with fail
  go_loopw [3] (fun i wr => ∃ k : Nat, k ≤ rs.length ∧ i = .int .i64 k ∧ Below w.heap.size w wr ∧ wr.heap[w.heap.size]? = some (poB (.slice ao rs.length cap) d) ∧ (rs.take k).all smallR = true) (fun i _ => rs.length - (Lib.intOf i).toNat)
  case atStart => exact ⟨0, Nat.zero_le _, rfl, HB0.out, HX0.out, rfl⟩
  case round =>
    obtain ⟨k, hk, rfl, hbw, hxx, hall⟩ := hrel
    have HB := Lib.hid hbw
    have HX := Lib.hid hxx
    have HA := Lib.hid hall
    clear hbw hxx hall HB0 HX0
    obtain ⟨c0, c1⟩ := pbox HX.out
    by_cases hlt : k < rs.length
    · obtain ⟨b, off, cv, rfl, hb', hcv, d0, d1, d2, d3⟩ := HROW.out k hlt
      obtain ⟨x, hx⟩ : ∃ x, x = rs[k] := ⟨_, rfl⟩
      rw [← hx] at hcv d0 d1 d3
      have hxl : x.conds.length ≤ 9223372036854775807 := by rw [hx]; exact HL2.out _ (List.getElem_mem hlt)
      obtain ⟨co, ccap, rfl⟩ := hcv.shape
      have HXR := Lib.hid hx
      have e2 := (HB.out.cell (p := ⟨b, _, none⟩) hb').trans d2
      have l0 : (k : Int) < (rs.length : Int) := by omega
      have l1 : (0 : Int) ≤ (k : Int) := by omega
      have l2 : (k : Int).toNat = k := by omega
      clear hx d0 d1 d2 d3 hcv
      by_cases h20 : 20 < x.conds.length
      · have HE : Hid (R = true) := Lib.hid (by
          rw [HR.out]
          unfold greatP
          rw [not_all (P := smallR) hlt (by rw [← HXR.out]; unfold smallR; simp; omega)]
          rfl)
        have hb : decide ((20 : Int) < (x.conds.length : Int)) = true := by simp; omega
        clear h20
        go_wp2_with fail
        go_ret
        exact ⟨by rw [HE.out]; rfl, HB.out⟩
      · have HN : Hid ((rs.take (k + 1)).all smallR = true) := Lib.hid (take_all_succ hlt HA.out (by rw [← HXR.out]; unfold smallR; simp; omega))
        have hb : decide ((20 : Int) < (x.conds.length : Int)) = false := by simp; omega
        clear h20
        go_wp2_with fail
        go_roundw
        case rel => exact ⟨k + 1, by omega, by go_num, HB.out, HX.out, HN.out⟩
        case measure => simp [Lib.intOf]; omega
    · have HE : Hid (R = decide (100 < rs.length)) := Lib.hid (by
        rw [HR.out]
        unfold greatP
        rw [take_all_end (by omega) HA.out]
        rfl)
      have hn : ¬ ((k : Int) < (rs.length : Int)) := by omega
      by_cases h100 : 100 < rs.length
      · have hb : decide ((100 : Int) < (rs.length : Int)) = true := by simp; omega
        have HE2 : Hid (R = true) := Lib.hid (by rw [HE.out]; simp; omega)
        clear h100
        go_wp2_with fail
        go_ret
        exact ⟨by rw [HE2.out]; rfl, HB.out⟩
      · have hb : decide ((100 : Int) < (rs.length : Int)) = false := by simp; omega
        have HE2 : Hid (R = false) := Lib.hid (by rw [HE.out]; simp; omega)
        clear h100
        go_wp2_with fail
        go_ret
        exact ⟨by rw [HE2.out]; rfl, HB.out⟩
/-! ### The rows of examples -/
/-! ### What comes of a text, by letters -/
end Go.Proofs.YtbekkdhlfkongaaGreatDoor
