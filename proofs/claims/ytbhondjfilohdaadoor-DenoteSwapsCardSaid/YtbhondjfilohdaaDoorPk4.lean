/-
  What the laws' texts use, joined.
-/
import Derived.Test.YtbhondjfilohdaaDoorProg
import Derived.WalkKit
import Derived.Laws.BitsAllLaws
import Derived.RowKit
import Derived.ProofKit
import Derived.Lib.Hide
import Derived.Laws.Rows
import Derived.Laws.ResultCell
import Derived.Laws.Entries
import Derived.Handy
import Derived.OwnWalk
import Derived.Laws.OwnMore
import Derived.Deep.Draws
import Derived.Laws.IdiomStrings
import Derived.Lib.BufferRead
import Derived.Maps.OwnSet
import Derived.BigQuiet
import Derived.IntWalk
import Derived.Deep.RegionHeld3
import Derived.BigRegion
import Derived.Lib.OthersKept
import Derived.Lib.QuietBelow
import Derived.Shelf.Strings.Builder1
import Derived.Shelf.Strings.Search1
import Derived.Lib.IndexLaws
import Derived.Laws.Tables
import Derived.Deep.DeepCutAuto
import Derived.Deep.Cut
import Derived.Deep.Slices
import Derived.Maps.RangeWalk
import Derived.StringKeys
import Derived.Lib.Split
import Derived.Deep.OwnRows
import Derived.Laws.Strings3
import Derived.Lib.Join
import Derived.Lib.MakeNoZero
import Derived.Lib.Builder
import Derived.Laws.IdiomCopy
import Derived.Test.YtbhondjfilohdaaDoorRows
import Derived.OpenShut
import Derived.Carry
import Derived.Deep.DeepHandedRow
import Derived.Lib.SmallJoins
import Derived.Laws.RangeAny
import Derived.Deep.LoopGhost
import Derived.WalkMore
import Derived.Test.YtbhondjfilohdaaDoorPk1
import Derived.Test.YtbhondjfilohdaaDoorPk2
import Derived.Test.YtbhondjfilohdaaDoorPk3
/-
  Package policy: which policies are right.
-/
namespace Go.Proofs.YtbhondjfilohdaaDoor
open Go.ChangeShapes Go.WideShapes Go.ChangeAt Go.RowKit
set_option maxRecDepth 20000

theorem pisaction_any (v : Nat) (w : World) (hv : v < 4294967296) (ht : Tab w) :
    Calls Tryd.prog 32 #[.int .u32 (v : Nat)] w fun e w' => e = .returned (.bool (actT v).isSome) ∧ Below w.heap.size w w' := by
  go_enter Tryd.func32, Tryd.ntmps32
  go_wp2_with fail
  refine (naction_any v _ hv ht).mono ?_
  rintro e w1 ⟨rfl, hb1⟩
  have HB1 := Lib.hid hb1
  clear hb1
  generalize actS v = A
  cases hs : (actT v).isSome
  · have HS := Lib.hid hs
    rw [if_neg (by decide)]
    clear hs
    go_wp2_with fail
    go_ret
    exact ⟨by rw [HS.out]; rfl, HB1.out⟩
  · have HS := Lib.hid hs
    rw [if_pos rfl]
    clear hs
    go_wp2_with fail
    go_ret
    exact ⟨by rw [HS.out]; rfl, HB1.out⟩
set_option maxHeartbeats 8000000 in
theorem pisrule_any (cv : Value) (x : Rl) (w : World) (hC : CAt w cv x.conds) (hk : x.ok) (hl : x.conds.length ≤ 9223372036854775807) (ht : Tab w) :
    Calls Tryd.prog 33 #[x.val cv] w fun e w' => e = .returned (.bool x.right) ∧ Below w.heap.size w w' := by
  obtain ⟨co, ccap, rfl, hrows⟩ := hC.rows
  have HROW := Lib.hid hrows
  have HX0 := Lib.hid (heap_alloc_new w (rlB x (.slice co x.conds.length ccap)))
  have HB0 := Lib.hid (ba (rlB x (.slice co x.conds.length ccap)) (Below.refl w.heap.size w))
  obtain ⟨W, hW⟩ : ∃ W, W = w.alloc (rlB x (.slice co x.conds.length ccap)) := ⟨_, rfl⟩
  rw [← hW] at HX0 HB0
  obtain ⟨R, hR⟩ : ∃ R, R = x.right := ⟨_, rfl⟩
  rw [← hR]
  have HR := Lib.hid hR
  have HT := Lib.hid ht
  have hv := hk.2.2.1
  clear hR hrows hC ht hk
  go_enter Tryd.func33, Tryd.ntmps33
  go_upto_region 1 with fail
  change Code.wp _ _ _ _ (w.alloc (rlB x (.slice co x.conds.length ccap)))
  rw [← hW]
  clear hW
  obtain ⟨r0, r1, r2, r3⟩ := rbox HX0.out
  by_cases h4 : 4 < x.conds.length
  · have HE : Hid (R = false) := Lib.hid (by rw [HR.out]; unfold Rl.right; rw [show decide (x.conds.length ≤ 4) = false by simp; omega]; rfl)
    have hb : decide ((4 : Int) < (x.conds.length : Int)) = true := by simp; omega
    clear h4
    go_wp2_with fail
    go_ret
    exact ⟨by rw [HE.out]; rfl, HB0.out⟩
  have hb : decide ((4 : Int) < (x.conds.length : Int)) = false := by simp; omega
  go_wp2_with fail
  refine (pisaction_any x.act _ hv (HT.out.below HB0.out)).mono ?_
  rintro e w1 ⟨rfl, hb1⟩
  have HB1 := Lib.hid (below2 HB0.out hb1)
  have HX1 := Lib.hid (kb hb1 HX0.out)
  clear hb1 r0 r1 r2 r3 HX0 HB0
  cases hs : (actT x.act).isSome
  · have HE : Hid (R = false) := Lib.hid (by rw [HR.out]; unfold Rl.right; rw [hs]; simp)
    clear hs h4
    go_wp2_with fail
    go_ret
    exact ⟨by rw [HE.out]; rfl, HB1.out⟩
  have HRR : Hid (R = x.conds.all Cd.right) := Lib.hid (by rw [HR.out]; unfold Rl.right; rw [hs, show decide (x.conds.length ≤ 4) = true by simp; omega]; rfl)
  clear hs h4
  obtain ⟨r0, r1, r2, r3⟩ := rbox HX1.out
  go_wp2_with fail
  go_loopw [18] (fun i wr => ∃ j : Nat, j ≤ x.conds.length ∧ i = .int .i64 j ∧ Below w.heap.size w wr ∧ wr.heap[w.heap.size]? = some (rlB x (.slice co x.conds.length ccap)) ∧ (x.conds.take j).all Cd.right = true) (fun i _ => x.conds.length - (Lib.intOf i).toNat)
  case atStart => exact ⟨0, Nat.zero_le _, rfl, HB1.out, HX1.out, rfl⟩
  case round =>
    obtain ⟨j, hj, rfl, hbw, hxx, hall⟩ := hrel
    have HB := Lib.hid hbw
    have HX := Lib.hid hxx
    have HA := Lib.hid hall
    clear hbw hxx hall HB1 HX1 r0 r1 r2 r3
    obtain ⟨r0, r1, r2, r3⟩ := rbox HX.out
    by_cases hjl : j < x.conds.length
    · obtain ⟨cb, coff, rfl, hcb, d0, d1, d2, d3⟩ := HROW.out j hjl
      obtain ⟨c, hc⟩ : ∃ c, c = x.conds[j] := ⟨_, rfl⟩
      rw [← hc] at d0 d1 d2 d3
      have e0 := (HB.out.cell (p := ⟨cb, _, none⟩) hcb).trans d0
      have e1 := (HB.out.cell (p := ⟨cb, _, none⟩) hcb).trans d1
      have e2 := (HB.out.cell (p := ⟨cb, _, none⟩) hcb).trans d2
      have e3 := (HB.out.cell (p := ⟨cb, _, none⟩) hcb).trans d3
      have HCJ := Lib.hid hc
      have l0 : (j : Int) < (x.conds.length : Int) := by omega
      have l1 : (0 : Int) ≤ (j : Int) := by omega
      have l2 : (j : Int).toNat = j := by omega
      clear hc d0 d1 d2 d3
      go_wp2_with fail
      have hba : Below wr.heap.size wr (wr.alloc (cdB c)) := ba _ (Below.refl _ _)
      refine (qright_any c _ (HT.out.below (below2 HB.out hba))).mono ?_
      rintro e w5 ⟨rfl, hb5'⟩
      have hb5 := below2 hba hb5'
      clear hb5' hba
      have HB5 := Lib.hid (below2 HB.out hb5)
      have HX5 := Lib.hid (kb hb5 HX.out)
      clear hb5 e0 e1 e2 e3 r0 r1 r2 r3
      cases hr : c.right
      · have HE : Hid (R = false) := Lib.hid (by
          rw [HRR.out]
          refine not_all hjl ?_
          rw [← HCJ.out, hr])
        clear hr
        go_wp2_with fail
        go_ret
        exact ⟨by rw [HE.out]; rfl, HB5.out⟩
      · have HN : Hid ((x.conds.take (j + 1)).all Cd.right = true) := Lib.hid (take_all_succ hjl HA.out (by rw [← HCJ.out]; exact hr))
        clear hr
        go_wp2_with fail
        go_roundw
        case rel => exact ⟨j + 1, by omega, by go_num, HB5.out, HX5.out, HN.out⟩
        case measure => simp [Lib.intOf]; omega
    · have HE : Hid (R = true) := Lib.hid (by rw [HRR.out]; exact take_all_end (by omega) HA.out)
      go_wp2_with fail
      go_ret
      exact ⟨by rw [HE.out]; rfl, HB.out⟩
set_option maxHeartbeats 8000000 in
theorem ppright_any (rv : Value) (p : Po) (w : World) (hL : LAt w rv p.rules) (hk : p.ok) (hl : p.rules.length ≤ 9223372036854775807) (hl2 : ∀ x ∈ p.rules, x.conds.length ≤ 9223372036854775807) (ht : Tab w) :
    Calls Tryd.prog 23 #[poV rv p.dflt] w fun e w' => e = .returned (.bool p.right) ∧ Below w.heap.size w w' := by
  obtain ⟨rs, d⟩ := p
  simp only at hL hl hl2
  obtain ⟨hd, hok⟩ := hk
  simp only at hd hok
  obtain ⟨ao, cap, rfl, hrows⟩ := hL.rows
  have HROW := Lib.hid hrows
  have HX0 := Lib.hid (heap_alloc_new w (poB (.slice ao rs.length cap) d))
  have HB0 := Lib.hid (ba (poB (.slice ao rs.length cap) d) (Below.refl w.heap.size w))
  obtain ⟨W, hW⟩ : ∃ W, W = w.alloc (poB (.slice ao rs.length cap) d) := ⟨_, rfl⟩
  rw [← hW] at HX0 HB0
  obtain ⟨R, hR⟩ : ∃ R, R = (⟨rs, d⟩ : Po).right := ⟨_, rfl⟩
  rw [← hR]
  have HR := Lib.hid hR
  have HL2 := Lib.hid hl2
  have HOK := Lib.hid hok
  have HT := Lib.hid ht
  clear hR hrows hL hl2 hok ht
  go_enter Tryd.func23, Tryd.ntmps23
  go_upto_region 1 with fail
  change Code.wp _ _ _ _ (w.alloc (poB (.slice ao rs.length cap) d))
  rw [← hW]
  clear hW
  obtain ⟨c0, c1⟩ := pbox HX0.out
  by_cases h64 : 64 < rs.length
  · have HE : Hid (R = false) := Lib.hid (by rw [HR.out]; unfold Po.right; rw [show decide (rs.length ≤ 64) = false by simp; omega]; rfl)
    have hb : decide ((64 : Int) < (rs.length : Int)) = true := by simp; omega
    clear h64
    go_wp2_with fail
    go_ret
    exact ⟨by rw [HE.out]; rfl, HB0.out⟩
  have hb : decide ((64 : Int) < (rs.length : Int)) = false := by simp; omega
  go_wp2_with fail
  refine (pisaction_any d _ hd (HT.out.below HB0.out)).mono ?_
  rintro e w1 ⟨rfl, hb1⟩
  have HB1 := Lib.hid (below2 HB0.out hb1)
  have HX1 := Lib.hid (kb hb1 HX0.out)
  clear hb1 c0 c1 HX0 HB0
  cases hs : (actT d).isSome
  · have HE : Hid (R = false) := Lib.hid (by rw [HR.out]; unfold Po.right; rw [hs]; simp)
    clear hs h64
    go_wp2_with fail
    go_ret
    exact ⟨by rw [HE.out]; rfl, HB1.out⟩
  have HRR : Hid (R = rs.all Rl.right) := Lib.hid (by rw [HR.out]; unfold Po.right; rw [hs, show decide (rs.length ≤ 64) = true by simp; omega]; rfl)
  clear hs h64
  obtain ⟨c0, c1⟩ := pbox HX1.out
  go_wp2_with fail
  go_loopw [18] (fun i wr => ∃ k : Nat, k ≤ rs.length ∧ i = .int .i64 k ∧ Below w.heap.size w wr ∧ wr.heap[w.heap.size]? = some (poB (.slice ao rs.length cap) d) ∧ (rs.take k).all Rl.right = true) (fun i _ => rs.length - (Lib.intOf i).toNat)
  case atStart => exact ⟨0, Nat.zero_le _, rfl, HB1.out, HX1.out, rfl⟩
  case round =>
    obtain ⟨k, hk, rfl, hbw, hxx, hall⟩ := hrel
    have HB := Lib.hid hbw
    have HX := Lib.hid hxx
    have HA := Lib.hid hall
    clear hbw hxx hall HB1 HX1 c0 c1
    obtain ⟨c0, c1⟩ := pbox HX.out
    by_cases hlt : k < rs.length
    · obtain ⟨b, off, cv, rfl, hb', hcv, d0, d1, d2, d3⟩ := HROW.out k hlt
      obtain ⟨x, hx⟩ : ∃ x, x = rs[k] := ⟨_, rfl⟩
      rw [← hx] at hcv d0 d1 d3
      have hxk : x.ok := by rw [hx]; exact HOK.out _ (List.getElem_mem hlt)
      have hxl : x.conds.length ≤ 9223372036854775807 := by rw [hx]; exact HL2.out _ (List.getElem_mem hlt)
      have HIR : Hid (∀ V, Below wr.heap.size wr V → Calls Tryd.prog 33 #[x.val cv] V fun e w' => e = .returned (.bool x.right) ∧ Below V.heap.size V w') := Lib.hid (fun V hV => pisrule_any cv x V (hcv.below (below2 HB.out hV)) hxk hxl (HT.out.below (below2 HB.out hV)))
      obtain ⟨co, ccap, rfl⟩ := hcv.shape
      have HXR := Lib.hid hx
      have e0 := (HB.out.cell (p := ⟨b, _, none⟩) hb').trans d0
      have e1 := (HB.out.cell (p := ⟨b, _, none⟩) hb').trans d1
      have e2 := (HB.out.cell (p := ⟨b, _, none⟩) hb').trans d2
      have e3 := (HB.out.cell (p := ⟨b, _, none⟩) hb').trans d3
      have l0 : (k : Int) < (rs.length : Int) := by omega
      have l1 : (0 : Int) ≤ (k : Int) := by omega
      have l2 : (k : Int).toNat = k := by omega
      clear hx d0 d1 d2 d3 hcv hxk hxl
      go_wp2_with fail
      have hba : Below wr.heap.size wr (wr.alloc (rlB x (.slice co x.conds.length ccap))) := ba _ (Below.refl _ _)
      refine (HIR.out _ hba).mono ?_
      rintro e w5 ⟨rfl, hb5'⟩
      have hb5 := below2 hba hb5'
      clear hb5' hba
      have HB5 := Lib.hid (below2 HB.out hb5)
      have HX5 := Lib.hid (kb hb5 HX.out)
      clear hb5 e0 e1 e2 e3 c0 c1 HIR
      cases hr : x.right
      · have HE : Hid (R = false) := Lib.hid (by
          rw [HRR.out]
          refine not_all hlt ?_
          rw [← HXR.out, hr])
        clear hr
        go_wp2_with fail
        go_ret
        exact ⟨by rw [HE.out]; rfl, HB5.out⟩
      · have HN : Hid ((rs.take (k + 1)).all Rl.right = true) := Lib.hid (take_all_succ hlt HA.out (by rw [← HXR.out]; exact hr))
        clear hr
        go_wp2_with fail
        go_roundw
        case rel => exact ⟨k + 1, by omega, by go_num, HB5.out, HX5.out, HN.out⟩
        case measure => simp [Lib.intOf]; omega
    · have HE : Hid (R = true) := Lib.hid (by rw [HRR.out]; exact take_all_end (by omega) HA.out)
      go_wp2_with fail
      go_ret
      exact ⟨by rw [HE.out]; rfl, HB.out⟩
end Go.Proofs.YtbhondjfilohdaaDoor
/-
  What is the same for every law: what is owed once the call is known to return true and to leave all that was there as it was.
-/
namespace Go.Proofs.YtbhondjfilohdaaDoor
open Go.ChangeShapes Go.WideShapes Go.ChangeAt Go.RowKit

section
variable {H : Type} {enc : TypeId × Value → H} {P : Program}
/-- Arguments read in a world that has only grown as they read before. -/
theorem args_stay (hl : laidOutB P = true) {W W' : World} (hb : Below W.heap.size W W') :
    ∀ (ts : List TypeId) (vs : List Value) (ds : List (DataW H)) (ps : List MemPlace), (∀ t ∈ ts, P.readableRec t = true ∧ t < P.types.size) → (∀ x ∈ ps, x.block < W.heap.size) →
      DataW.TrodAll enc P W 0 (fun _ => true) true ts vs ds ps → DataW.TrodAll enc P W' 0 (fun b => decide (b < W.heap.size)) true ts vs ds ps
  | [], _, _, _, _, _, h => by
    obtain ⟨rfl, rfl, rfl⟩ := trodAll_nil h
    exact trodAll_mk0
  | t :: ts, _, _, _, hts, hlt, h => by
    obtain ⟨v, vs, d, ds, p, q, rfl, rfl, rfl, h1, h2⟩ := trodAll_cons h
    have ht := hts t (List.mem_cons_self)
    exact trodAll_cons_mk (Below.trod hl ht.1 ht.2 h1 hb (fun x hx => hlt x (List.mem_append_left _ hx)))
      (args_stay hl hb ts vs ds q (fun u hu => hts u (List.mem_cons_of_mem _ hu)) (fun x hx => hlt x (List.mem_append_right _ hx)) h2)

/-- What a law owes behind its call: true was returned, and nothing below the heap's old size has changed. -/
theorem law_post {f : Func} {s : ChangeSpec} {tb : TypeId} (hl : laidOutB P = true) (hts : ∀ t ∈ f.params.toList, P.readableRec t = true ∧ t < P.types.size) (hrt : f.resultTypes = #[tb]) (htb : P.underlying tb = some .bool)
    (hv : s.vars = []) (hfn : ∀ ds : List (DataW H), ds.length = f.params.toList.length → s.fn H ds = { results := [.lit (.bool true)], args := ds })
    {W W' : World} {args : Array Value} {ds gs : List (DataW H)} {before : List MemPlace} (hW : DataW.Whole enc P f.params.toList s.vars false W args.toList ds gs before) (hB : Below W.heap.size W W') :
    s.post enc P f false true false false W args (.bool true) W' := by
  have hlt : ∀ x ∈ before, x.block < W.heap.size := fun x hx => by simpa using hW.lt x hx
  have hW' := hW
  obtain ⟨p, q, hA, hV, rfl, _, _⟩ := hW
  rw [hv] at hV
  obtain ⟨rfl, rfl⟩ := trodVars_none hV
  have hlen : ds.length = f.params.toList.length := by
    have aux : ∀ (ts : List TypeId) (vs : List Value) (ds : List (DataW H)) (ps : List MemPlace), DataW.TrodAll enc P W 0 (fun _ => true) true ts vs ds ps → ds.length = ts.length := by
      intro ts
      induction ts with
      | nil => intro vs ds ps h; obtain ⟨_, rfl, _⟩ := trodAll_nil h; rfl
      | cons t ts ih =>
        intro vs ds ps h
        obtain ⟨v, vs, d, ds, p, q, _, rfl, _, _, h2⟩ := trodAll_cons h
        simp [ih vs ds q h2]
    exact aux _ _ _ _ hA
  have e := hfn ds hlen
  refine ⟨ds, [], _, [], p, [], hW', ?_, ?_, ?_, ?_, fun h => by cases h⟩
  · rw [List.append_nil, e, hrt]
    exact trodAll_cons_mk (shut_bool htb _) trodAll_mk0
  · rw [List.append_nil, e]
    exact args_stay hl hB _ _ _ _ hts (fun x hx => hlt x (List.mem_append_left _ hx)) hA
  · rw [List.append_nil, e, hv]
    exact rfl
  · exact hB.frame _
end

theorem own : ownKnob Tryd.prog.godebug = none := by kernel_rfl
theorem laidOut : laidOutB Tryd.prog = true := by kernel_rfl

end Go.Proofs.YtbhondjfilohdaaDoor

/-
  An argument that is bytes: what the row's reading of it gives of the world's cells.
-/
namespace Go.Proofs.YtbhondjfilohdaaDoor
open Go.ChangeShapes Go.WideShapes Go.ChangeAt Go.RowKit Go.Deep
set_option maxRecDepth 100000

section
variable {H : Type} {enc : TypeId × Value → H} {W : World} {base : Nat} {v : Value} {d : DataW H} {p : List MemPlace}
end
end Go.Proofs.YtbhondjfilohdaaDoor
/-
  An argument that is a record: what the row's reading of it gives.
-/
namespace Go.Proofs.YtbhondjfilohdaaDoor
open Go.ChangeShapes Go.WideShapes Go.ChangeAt Go.RowKit Go.Deep
set_option maxRecDepth 100000

theorem cellsD : Tryd.prog.cellsOf 32 = 9 := by kernel_rfl
theorem cellsU64 : Tryd.prog.cellsOf 29 = 1 := by kernel_rfl
theorem list9 {α : Type} {l : List α} (h : l.length = 9) : ∃ x0 x1 x2 x3 x4 x5 x6 x7 x8, l = [x0, x1, x2, x3, x4, x5, x6, x7, x8] := by
  match l, h with
  | [x0, x1, x2, x3, x4, x5, x6, x7, x8], _ => exact ⟨x0, x1, x2, x3, x4, x5, x6, x7, x8, rfl⟩
section
variable {H : Type} {enc : TypeId × Value → H} {W : World} {base : Nat} {v : Value} {d : DataW H} {p : List MemPlace}
theorem one_u32 {n : Nat} {c : Value} {y : DataW H × List MemPlace} (h : DataW.trod enc Tryd.prog W 0 (fun _ => true) true n 23 [c] = some y) : ∃ k : Nat, c = .int .u32 k ∧ k < 4294967296 := by
  obtain ⟨z, e, _, w⟩ := DataW.trod_int Tryd.underlying23 h
  simp only [List.cons.injEq, and_true] at e
  have b := bounds_u32 w
  refine ⟨z.toNat, ?_, by omega⟩
  rw [e]
  congr 1
  omega
theorem one_u64 {n : Nat} {c : Value} {y : DataW H × List MemPlace} (h : DataW.trod enc Tryd.prog W 0 (fun _ => true) true n 29 [c] = some y) : ∃ k : Nat, c = .int .u64 k ∧ k < 18446744073709551616 := by
  obtain ⟨z, e, _, w⟩ := DataW.trod_int Tryd.underlying29 h
  simp only [List.cons.injEq, and_true] at e
  have b := bounds_u64 w
  refine ⟨z.toNat, ?_, by omega⟩
  rw [e]
  congr 1
  omega
theorem open_data (hval : Value.okWide Tryd.prog W .any base 32 v) (h : DataW.Trod enc Tryd.prog W 0 (fun _ => true) true 32 v d p) : ∃ D : Rec, v = D.val ∧ D.ok := by
  obtain ⟨cs, rfl, hsz⟩ := okWide_struct Tryd.underlying32 hval
  rw [cellsD] at hsz
  obtain ⟨c0, c1, c2, c3, c4, c5, c6, c7, c8, hc⟩ := list9 (l := cs.toList) (by simpa using hsz)
  obtain rfl : cs = #[c0, c1, c2, c3, c4, c5, c6, c7, c8] := by rw [← hc]
  obtain ⟨fuel, hf⟩ := h
  obtain ⟨ys, n, _, _, _, hyl, hff⟩ := DataW.trod_struct Tryd.underlying32 hf
  have hy4 : ys.length = 4 := hyl
  match ys, hy4 with
  | [y0, y1, y2, y3], _ =>
    have h0 : DataW.trod enc Tryd.prog W 0 (fun _ => true) true n 23 [c0] = some y0 := hff 0 _ rfl
    have h1 : DataW.trod enc Tryd.prog W 0 (fun _ => true) true n 23 [c1] = some y1 := hff 1 _ rfl
    have h2 : DataW.trod enc Tryd.prog W 0 (fun _ => true) true n 29 [c2] = some y2 := hff 2 _ rfl
    have h3 : DataW.trod enc Tryd.prog W 0 (fun _ => true) true n 30 [c3, c4, c5, c6, c7, c8] = some y3 := hff 3 _ rfl
    obtain ⟨xs, m, _, _, _, hxl, hxx⟩ := DataW.trod_array Tryd.underlying30 h3
    rw [cellsU64] at hxx
    match xs, hxl with
    | [x0, x1, x2, x3, x4, x5], _ =>
      have g0 : DataW.trod enc Tryd.prog W 0 (fun _ => true) true m 29 [c3] = some x0 := hxx 0 (by omega)
      have g1 : DataW.trod enc Tryd.prog W 0 (fun _ => true) true m 29 [c4] = some x1 := hxx 1 (by omega)
      have g2 : DataW.trod enc Tryd.prog W 0 (fun _ => true) true m 29 [c5] = some x2 := hxx 2 (by omega)
      have g3 : DataW.trod enc Tryd.prog W 0 (fun _ => true) true m 29 [c6] = some x3 := hxx 3 (by omega)
      have g4 : DataW.trod enc Tryd.prog W 0 (fun _ => true) true m 29 [c7] = some x4 := hxx 4 (by omega)
      have g5 : DataW.trod enc Tryd.prog W 0 (fun _ => true) true m 29 [c8] = some x5 := hxx 5 (by omega)
      obtain ⟨k0, rfl, b0⟩ := one_u32 h0
      obtain ⟨k1, rfl, b1⟩ := one_u32 h1
      obtain ⟨k2, rfl, b2⟩ := one_u64 h2
      obtain ⟨k3, rfl, b3⟩ := one_u64 g0
      obtain ⟨k4, rfl, b4⟩ := one_u64 g1
      obtain ⟨k5, rfl, b5⟩ := one_u64 g2
      obtain ⟨k6, rfl, b6⟩ := one_u64 g3
      obtain ⟨k7, rfl, b7⟩ := one_u64 g4
      obtain ⟨k8, rfl, b8⟩ := one_u64 g5
      exact ⟨⟨k0, k1, k2, k3, k4, k5, k6, k7, k8⟩, rfl, b0, b1, b2, b3, b4, b5, b6, b7, b8⟩
end
/-- The nine cells of a record's block. -/
theorem rec_cells {w : World} {g : Nat} {d : Rec} {t : TypeId} {fr : Nat × Nat} (h : w.heap[g]? = some (.cells d.cells t fr)) : w.cell? ⟨g, 0, none⟩ = some (.int .u32 d.nr) ∧ w.cell? ⟨g, 1, none⟩ = some (.int .u32 d.arch) ∧ w.cell? ⟨g, 2, none⟩ = some (.int .u64 d.ip) ∧ w.cell? ⟨g, 3, none⟩ = some (.int .u64 d.a0) ∧ w.cell? ⟨g, 4, none⟩ = some (.int .u64 d.a1) ∧ w.cell? ⟨g, 5, none⟩ = some (.int .u64 d.a2) ∧ w.cell? ⟨g, 6, none⟩ = some (.int .u64 d.a3) ∧ w.cell? ⟨g, 7, none⟩ = some (.int .u64 d.a4) ∧ w.cell? ⟨g, 8, none⟩ = some (.int .u64 d.a5) :=
  ⟨cell_in h 0, cell_in h 1, cell_in h 2, cell_in h 3, cell_in h 4, cell_in h 5, cell_in h 6, cell_in h 7, cell_in h 8⟩
end Go.Proofs.YtbhondjfilohdaaDoor
/-
  Package denote: which rules fit, which is the first one, and what a policy says.
-/
namespace Go.Proofs.YtbhondjfilohdaaDoor
open Go.ChangeShapes Go.WideShapes Go.ChangeAt Go.RowKit
set_option maxRecDepth 20000

/-- The closure of Fits: does a condition fail? -/
theorem efails_any (c : Cd) (d : Rec) (g : Nat) (w : World) (hc : c.ok) (hd : d.ok) (hg : w.heap[g]? = some (.cells d.cells 32)) (ht : QTab w) :
    Calls Tryd.prog 17 #[c.val, .pointer (some ⟨g, 0, none⟩)] w fun e w' => e = .returned (.bool (!c.holds d)) ∧ Below w.heap.size w w' := by
  have HT := Lib.hid ht
  have HG0 := Lib.hid hg
  have hz := heap_alloc_new w (cdB c)
  have hb0 := ba (cdB c) (Below.refl w.heap.size w)
  obtain ⟨W, hW⟩ : ∃ W, W = w.alloc (cdB c) := ⟨_, rfl⟩
  rw [← hW] at hz hb0
  have HX := Lib.hid hz
  have HB := Lib.hid hb0
  have HG := Lib.hid (kb hb0 hg)
  clear hz hb0 hg ht HG0
  go_enter Tryd.func17, Tryd.ntmps17
  go_upto_region 1 with fail
  change Code.wp _ _ _ _ (w.alloc (cdB c))
  rw [← hW]
  clear hW
  obtain ⟨c0, c1, c2, c3⟩ := cdX HX.out
  obtain ⟨d0, d1, d2, d3, d4, d5, d6, d7, d8⟩ := rec_cells HG.out
  go_wp2_with fail
  refine (qholds_any c d _ hc hd (HT.out.below HB.out)).mono ?_
  rintro e w1 ⟨rfl, hb1⟩
  have HB1 := Lib.hid (below2 HB.out hb1)
  clear hb1 c0 c1 c2 c3 d0 d1 d2 d3 d4 d5 d6 d7 d8
  go_wp2_with fail
  go_ret
  exact ⟨rfl, HB1.out⟩
/-- Where the first condition that fails stands. -/
def badN : List Cd → Nat → Rec → Int
  | [], _, _ => -1
  | c :: cs, o, d => if c.holds d then badN cs (o + 1) d else (o : Int)
theorem badN_step {cs : List Cd} {k : Nat} (h : k < cs.length) (d : Rec) : badN (cs.drop k) k d = if (cs[k]).holds d then badN (cs.drop (k + 1)) (k + 1) d else (k : Int) := by
  rw [List.drop_eq_getElem_cons h]
  rfl
theorem badN_end {cs : List Cd} {k : Nat} (h : cs.length ≤ k) (d : Rec) : badN (cs.drop k) k d = -1 := by
  rw [List.drop_eq_nil_of_le h]
  rfl
theorem badN_all (cs : List Cd) (o : Nat) (d : Rec) : decide (0 ≤ badN cs o d) = !(cs.all (·.holds d)) := by
  induction cs generalizing o with
  | nil => rfl
  | cons c cs ih =>
    cases hc : c.holds d
    · rw [badN, hc]
      simp [hc]
    · rw [badN, hc, if_pos rfl, ih]
      simp [hc]
set_option maxHeartbeats 4000000 in
theorem cidx_any (cv : Value) (cs : List Cd) (d : Rec) (g : Nat) (w : World) (hC : CAt w cv cs) (hok : ∀ c ∈ cs, c.ok) (hl : cs.length ≤ 9223372036854775807) (hd : d.ok) (hg : w.heap[g]? = some (.cells d.cells 32)) (ht : QTab w) :
    Calls Tryd.prog 27 #[cv, .func (.func 17) #[] #[.pointer (some ⟨g, 0, none⟩)]] w fun e w' => e = .returned (.int .i64 (badN cs 0 d)) ∧ Below w.heap.size w w' := by
  obtain ⟨co, ccap, rfl, hrows⟩ := hC.rows
  have HROW := Lib.hid hrows
  have HC : Hid (∀ V c, c ∈ cs → Below w.heap.size w V → Calls Tryd.prog 17 #[c.val, .pointer (some ⟨g, 0, none⟩)] V fun e w' => e = .returned (.bool (!c.holds d)) ∧ Below V.heap.size V w') := Lib.hid (fun V c hc hV => efails_any c d g V (hok c hc) hd (kb hV hg) (QTab.below ht hV))
  obtain ⟨R, hR⟩ : ∃ R, R = badN cs 0 d := ⟨_, rfl⟩
  rw [← hR]
  have HR := Lib.hid hR
  clear hR hrows hok hC hg ht
  go_enter Tryd.func27, Tryd.ntmps27
  go_wp2_with fail
  go_loopw [5, 8] (fun _ i wr => ∃ k : Nat, k ≤ cs.length ∧ i = .int .i64 k ∧ Hid (Below w.heap.size w wr) ∧ Hid (R = badN (cs.drop k) k d)) (fun _ i _ => cs.length - (Lib.intOf i).toNat)
  case atStart => exact ⟨0, Nat.zero_le _, rfl, Lib.hid (Below.refl _ _), HR⟩
  case round =>
    obtain ⟨k, hk, rfl, HB, HK⟩ := hrel
    by_cases hlt : k < cs.length
    · obtain ⟨b, off, rfl, hb', d0, d1, d2, d3⟩ := HROW.out k hlt
      obtain ⟨c, hc⟩ : ∃ c, c = cs[k] := ⟨_, rfl⟩
      rw [← hc] at d0 d1 d2 d3
      have HS : Hid (badN (cs.drop k) k d = if c.holds d then badN (cs.drop (k + 1)) (k + 1) d else (k : Int)) := Lib.hid (by rw [badN_step hlt, ← hc])
      have e0 := (HB.out.cell (p := ⟨b, _, none⟩) hb').trans d0
      have e1 := (HB.out.cell (p := ⟨b, _, none⟩) hb').trans d1
      have e2 := (HB.out.cell (p := ⟨b, _, none⟩) hb').trans d2
      have e3 := (HB.out.cell (p := ⟨b, _, none⟩) hb').trans d3
      have hmem : c ∈ cs := by rw [hc]; exact List.getElem_mem hlt
      have l0 : (k : Int) < (cs.length : Int) := by omega
      have l1 : (0 : Int) ≤ (k : Int) := by omega
      have l2 : (k : Int).toNat = k := by omega
      clear hc d0 d1 d2 d3
      go_wp2_with fail
      refine (HC.out _ c hmem HB.out).mono ?_
      rintro e w1 ⟨rfl, hb1⟩
      have HB1 := Lib.hid (below2 HB.out hb1)
      clear hb1 e0 e1 e2 e3 hmem
      cases hh : c.holds d
      · rw [hh] at HS
        have HE : Hid (R = (k : Int)) := Lib.hid (by rw [HK.out, HS.out]; rfl)
        clear hh
        go_wp2_with fail
        go_ret
        exact ⟨by rw [HE.out]; rfl, HB1.out⟩
      · rw [hh] at HS
        have HE : Hid (R = badN (cs.drop (k + 1)) (k + 1) d) := Lib.hid (by rw [HK.out, HS.out]; rfl)
        clear hh
        go_wp2_with fail
        go_roundw
        case rel => exact ⟨k + 1, by omega, by go_num, HB1, HE⟩
        case measure => simp [Lib.intOf]; omega
    · have HE : Hid (R = -1) := Lib.hid (by rw [HK.out]; exact badN_end (by omega) d)
      have hnl : decide ((k : Int) < (cs.length : Int)) = false := by simp; omega
      go_wp2_with fail
      go_ret
      exact ⟨by rw [HE.out]; rfl, HB.out⟩
theorem ccont_any (cv : Value) (cs : List Cd) (d : Rec) (g : Nat) (w : World) (hC : CAt w cv cs) (hok : ∀ c ∈ cs, c.ok) (hl : cs.length ≤ 9223372036854775807) (hd : d.ok) (hg : w.heap[g]? = some (.cells d.cells 32)) (ht : QTab w) :
    Calls Tryd.prog 19 #[cv, .func (.func 17) #[] #[.pointer (some ⟨g, 0, none⟩)]] w fun e w' => e = .returned (.bool (!(cs.all (·.holds d)))) ∧ Below w.heap.size w w' := by
  have HE := Lib.hid (badN_all cs 0 d)
  have HC := Lib.hid (cidx_any cv cs d g w hC hok hl hd hg ht)
  clear hC hok hl hd hg ht
  go_enter Tryd.func19, Tryd.ntmps19
  go_wp2_with fail
  refine HC.out.mono ?_
  rintro e w1 ⟨rfl, hb1⟩
  have HB1 := Lib.hid hb1
  clear hb1
  go_wp2_with fail
  go_ret
  exact ⟨by rw [HE.out]; rfl, HB1.out⟩
set_option maxHeartbeats 4000000 in
theorem efits_any (cv : Value) (x : Rl) (d : Rec) (w : World) (hC : CAt w cv x.conds) (hk : x.ok) (hl : x.conds.length ≤ 9223372036854775807) (hd : d.ok) (ht : QTab w) :
    Calls Tryd.prog 12 #[x.val cv, d.val] w fun e w' => e = .returned (.bool (fitsR x d)) ∧ Below w.heap.size w w' := by
  obtain ⟨co, ccap, rfl⟩ := hC.shape
  obtain ⟨W, hW, X0, X1, HBx⟩ := box2 w (rlB x (.slice co x.conds.length ccap)) (.cells d.cells 32)
  have HX := Lib.hid X0
  have HD := Lib.hid X1
  have HB := Lib.hid HBx
  clear X0 X1 HBx
  obtain ⟨R, hR⟩ : ∃ R, R = fitsR x d := ⟨_, rfl⟩
  rw [← hR]
  have HR := Lib.hid hR
  have HC : Hid (Calls Tryd.prog 19 #[.slice co x.conds.length ccap, .func (.func 17) #[] #[.pointer (some ⟨w.heap.size + 1, 0, none⟩)]] W fun e w' => e = .returned (.bool (!(x.conds.all (·.holds d)))) ∧ Below W.heap.size W w') := Lib.hid (ccont_any _ _ d _ W (hC.below HB.out) hk.2.2.2 hl hd HD.out (QTab.below ht HB.out))
  clear hR hC hk ht hd hl
  go_enter Tryd.func12, Tryd.ntmps12
  go_upto_region 1 with fail
  change Code.wp _ _ _ _ ((w.alloc (rlB x (.slice co x.conds.length ccap))).alloc (.cells d.cells 32))
  rw [← hW]
  clear hW
  obtain ⟨r0, r1, r2, r3⟩ := rbox HX.out
  obtain ⟨d0, d1, d2, d3, d4, d5, d6, d7, d8⟩ := rec_cells HD.out
  by_cases h0 : x.arch = d.arch
  case neg =>
    have HE : Hid (R = false) := Lib.hid (by rw [HR.out]; unfold fitsR; simp [h0])
    have hb0 : ((x.arch : Int) == (d.arch : Int)) = false := by simp; omega
    clear h0
    go_wp2_with fail
    go_ret
    exact ⟨by rw [HE.out]; rfl, HB.out⟩
  have hb0 : ((x.arch : Int) == (d.arch : Int)) = true := by simp; omega
  by_cases h1 : x.nr = d.nr
  case neg =>
    have HE : Hid (R = false) := Lib.hid (by rw [HR.out]; unfold fitsR; simp [h1])
    have hb1 : ((x.nr : Int) == (d.nr : Int)) = false := by simp; omega
    clear h0 h1
    go_wp2_with fail
    go_ret
    exact ⟨by rw [HE.out]; rfl, HB.out⟩
  have hb1 : ((x.nr : Int) == (d.nr : Int)) = true := by simp; omega
  have HE : Hid (R = x.conds.all (·.holds d)) := Lib.hid (by rw [HR.out]; unfold fitsR; simp [h0, h1])
  clear h0 h1
  go_wp2_with fail
  refine HC.out.mono ?_
  rintro e w1 ⟨rfl, hb2⟩
  have HB1 := Lib.hid (below2 HB.out hb2)
  clear hb2
  go_wp2_with fail
  go_ret
  exact ⟨by rw [HE.out]; simp, HB1.out⟩
end Go.Proofs.YtbhondjfilohdaaDoor
/-
  Package denote: which rule is the first one, and what a policy says.
-/
namespace Go.Proofs.YtbhondjfilohdaaDoor
open Go.ChangeShapes Go.WideShapes Go.ChangeAt Go.RowKit
set_option maxRecDepth 20000

/-- The closure of First: does a rule fit? -/
theorem efitc_any (cv : Value) (x : Rl) (d : Rec) (g : Nat) (w : World) (hC : CAt w cv x.conds) (hk : x.ok) (hl : x.conds.length ≤ 9223372036854775807) (hd : d.ok) (hg : w.heap[g]? = some (.cells d.cells 32)) (ht : QTab w) :
    Calls Tryd.prog 24 #[x.val cv, .pointer (some ⟨g, 0, none⟩)] w fun e w' => e = .returned (.bool (fitsR x d)) ∧ Below w.heap.size w w' := by
  obtain ⟨co, ccap, rfl⟩ := hC.shape
  have hz := heap_alloc_new w (rlB x (.slice co x.conds.length ccap))
  have hb0 := ba (rlB x (.slice co x.conds.length ccap)) (Below.refl w.heap.size w)
  obtain ⟨W, hW⟩ : ∃ W, W = w.alloc (rlB x (.slice co x.conds.length ccap)) := ⟨_, rfl⟩
  rw [← hW] at hz hb0
  have HX := Lib.hid hz
  have HB := Lib.hid hb0
  have HG := Lib.hid (kb hb0 hg)
  have HF : Hid (Calls Tryd.prog 12 #[x.val (.slice co x.conds.length ccap), d.val] W fun e w' => e = .returned (.bool (fitsR x d)) ∧ Below W.heap.size W w') := Lib.hid (efits_any _ x d W (hC.below hb0) hk hl hd (QTab.below ht hb0))
  obtain ⟨R, hR⟩ : ∃ R, R = fitsR x d := ⟨_, rfl⟩
  rw [← hR] at HF ⊢
  clear hz hb0 hg ht hC hk hl hd hR
  go_enter Tryd.func24, Tryd.ntmps24
  go_upto_region 1 with fail
  change Code.wp _ _ _ _ (w.alloc (rlB x (.slice co x.conds.length ccap)))
  rw [← hW]
  clear hW
  obtain ⟨c0, c1, c2, c3⟩ := rbox HX.out
  obtain ⟨d0, d1, d2, d3, d4, d5, d6, d7, d8⟩ := rec_cells HG.out
  go_wp2_with fail
  refine HF.out.mono ?_
  rintro e w1 ⟨rfl, hb1⟩
  have HB1 := Lib.hid (below2 HB.out hb1)
  clear hb1 c0 c1 c2 c3 d0 d1 d2 d3 d4 d5 d6 d7 d8
  go_wp2_with fail
  go_ret
  exact ⟨rfl, HB1.out⟩
set_option maxHeartbeats 4000000 in
theorem ridx_any (rv : Value) (rs : List Rl) (d : Rec) (g : Nat) (w : World) (hL : LAt w rv rs) (hok : ∀ x ∈ rs, x.ok) (hl : rs.length ≤ 9223372036854775807) (hl2 : ∀ x ∈ rs, x.conds.length ≤ 9223372036854775807) (hd : d.ok) (hg : w.heap[g]? = some (.cells d.cells 32)) (ht : QTab w) :
    Calls Tryd.prog 25 #[rv, .func (.func 24) #[] #[.pointer (some ⟨g, 0, none⟩)]] w fun e w' => e = .returned (.int .i64 (firstN rs 0 d)) ∧ Below w.heap.size w w' := by
  obtain ⟨ao, cap, rfl, hrows⟩ := hL.rows
  have HROW := Lib.hid hrows
  have HC : Hid (∀ V x cv, x ∈ rs → CAt w cv x.conds → Below w.heap.size w V → Calls Tryd.prog 24 #[x.val cv, .pointer (some ⟨g, 0, none⟩)] V fun e w' => e = .returned (.bool (fitsR x d)) ∧ Below V.heap.size V w') := Lib.hid (fun V x cv hx hcv hV => efitc_any cv x d g V (hcv.below hV) (hok x hx) (hl2 x hx) hd (kb hV hg) (QTab.below ht hV))
  obtain ⟨R, hR⟩ : ∃ R, R = firstN rs 0 d := ⟨_, rfl⟩
  rw [← hR]
  have HR := Lib.hid hR
  clear hR hrows hok hL hg ht hl2
  go_enter Tryd.func25, Tryd.ntmps25
  go_wp2_with fail
  go_loopw [5, 8] (fun _ i wr => ∃ k : Nat, k ≤ rs.length ∧ i = .int .i64 k ∧ Hid (Below w.heap.size w wr) ∧ Hid (R = firstN (rs.drop k) k d)) (fun _ i _ => rs.length - (Lib.intOf i).toNat)
  case atStart => exact ⟨0, Nat.zero_le _, rfl, Lib.hid (Below.refl _ _), HR⟩
  case round =>
    obtain ⟨k, hk, rfl, HB, HK⟩ := hrel
    by_cases hlt : k < rs.length
    · obtain ⟨b, off, cv, rfl, hb', hcv, d0, d1, d2, d3⟩ := HROW.out k hlt
      obtain ⟨x, hx⟩ : ∃ x, x = rs[k] := ⟨_, rfl⟩
      rw [← hx] at d0 d1 d3 hcv
      have HS : Hid (firstN (rs.drop k) k d = if fitsR x d then (k : Int) else firstN (rs.drop (k + 1)) (k + 1) d) := Lib.hid (by rw [firstN_step hlt, ← hx])
      have e0 := (HB.out.cell (p := ⟨b, _, none⟩) hb').trans d0
      have e1 := (HB.out.cell (p := ⟨b, _, none⟩) hb').trans d1
      have e2 := (HB.out.cell (p := ⟨b, _, none⟩) hb').trans d2
      have e3 := (HB.out.cell (p := ⟨b, _, none⟩) hb').trans d3
      have hmem : x ∈ rs := by rw [hx]; exact List.getElem_mem hlt
      have HCX : Hid (Calls Tryd.prog 24 #[x.val cv, .pointer (some ⟨g, 0, none⟩)] wr fun e w' => e = .returned (.bool (fitsR x d)) ∧ Below wr.heap.size wr w') := Lib.hid (HC.out _ x cv hmem hcv HB.out)
      have l0 : (k : Int) < (rs.length : Int) := by omega
      have l1 : (0 : Int) ≤ (k : Int) := by omega
      have l2 : (k : Int).toNat = k := by omega
      obtain ⟨co, ccap, rfl⟩ := hcv.shape
      clear hx d0 d1 d2 d3 hcv hmem
      go_wp2_with fail
      refine HCX.out.mono ?_
      rintro e w1 ⟨rfl, hb1⟩
      have HB1 := Lib.hid (below2 HB.out hb1)
      clear hb1 e0 e1 e2 e3 HCX
      cases hh : fitsR x d
      · rw [hh] at HS
        have HE : Hid (R = firstN (rs.drop (k + 1)) (k + 1) d) := Lib.hid (by rw [HK.out, HS.out]; rfl)
        clear hh
        go_wp2_with fail
        go_roundw
        case rel => exact ⟨k + 1, by omega, by go_num, HB1, HE⟩
        case measure => simp [Lib.intOf]; omega
      · rw [hh] at HS
        have HE : Hid (R = (k : Int)) := Lib.hid (by rw [HK.out, HS.out]; rfl)
        clear hh
        go_wp2_with fail
        go_ret
        exact ⟨by rw [HE.out]; rfl, HB1.out⟩
    · have HE : Hid (R = -1) := Lib.hid (by rw [HK.out]; exact firstN_end (by omega) d)
      have hnl : decide ((k : Int) < (rs.length : Int)) = false := by simp; omega
      go_wp2_with fail
      go_ret
      exact ⟨by rw [HE.out]; rfl, HB.out⟩
set_option maxHeartbeats 4000000 in
theorem efirst_any (rv : Value) (p : Po) (d : Rec) (w : World) (hL : LAt w rv p.rules) (hk : p.ok) (hl : p.rules.length ≤ 9223372036854775807) (hl2 : ∀ x ∈ p.rules, x.conds.length ≤ 9223372036854775807) (hd : d.ok) (ht : QTab w) :
    Calls Tryd.prog 16 #[poV rv p.dflt, d.val] w fun e w' => e = .returned (.tuple #[.int .i64 (if p.right then firstN p.rules 0 d else 0), .int .i64 (if p.right then 0 else 1)]) ∧ Below w.heap.size w w' := by
  obtain ⟨ao, cap, rfl⟩ := hL.shape
  obtain ⟨W, hW, X0, X1, HBx⟩ := box2 w (poB (.slice ao p.rules.length cap) p.dflt) (.cells d.cells 32)
  have HX := Lib.hid X0
  have HD := Lib.hid X1
  have HB := Lib.hid HBx
  clear X0 X1 HBx
  have HP : Hid (Calls Tryd.prog 23 #[poV (.slice ao p.rules.length cap) p.dflt] W fun e w' => e = .returned (.bool p.right) ∧ Below W.heap.size W w') := Lib.hid (ppright_any _ p W (hL.below HB.out) hk hl hl2 (QTab.below ht HB.out))
  have HC : Hid (∀ V, Below W.heap.size W V → Calls Tryd.prog 25 #[.slice ao p.rules.length cap, .func (.func 24) #[] #[.pointer (some ⟨w.heap.size + 1, 0, none⟩)]] V fun e w' => e = .returned (.int .i64 (firstN p.rules 0 d)) ∧ Below V.heap.size V w') := Lib.hid (fun V hV => ridx_any _ _ d _ V (hL.below (below2 HB.out hV)) hk.2 hl hl2 hd (kb hV HD.out) (QTab.below ht (below2 HB.out hV)))
  obtain ⟨R1, hR1⟩ : ∃ R : Int, R = if p.right then firstN p.rules 0 d else 0 := ⟨_, rfl⟩
  obtain ⟨R2, hR2⟩ : ∃ R : Int, R = if p.right then 0 else 1 := ⟨_, rfl⟩
  rw [← hR1, ← hR2]
  have HR1 := Lib.hid hR1
  have HR2 := Lib.hid hR2
  clear hL hk hl hl2 hd ht hR1 hR2
  go_enter Tryd.func16, Tryd.ntmps16
  go_upto_region 1 with fail
  change Code.wp _ _ _ _ ((w.alloc (poB (.slice ao p.rules.length cap) p.dflt)).alloc (.cells d.cells 32))
  rw [← hW]
  clear hW
  obtain ⟨c0, c1⟩ := pbox HX.out
  go_wp2_with fail
  refine HP.out.mono ?_
  rintro e w1 ⟨rfl, hb1⟩
  have HB1 := Lib.hid hb1
  have HX1 := Lib.hid (kb hb1 HX.out)
  clear hb1 c0 c1 HP
  cases hr : p.right
  · have HE : Hid (R1 = 0 ∧ R2 = 1) := Lib.hid ⟨by rw [HR1.out, hr]; rfl, by rw [HR2.out, hr]; rfl⟩
    clear hr
    go_wp2_with fail
    go_ret2
    exact ⟨by rw [HE.out.1, HE.out.2]; rfl, below2 HB.out HB1.out⟩
  · have HE : Hid (R1 = firstN p.rules 0 d ∧ R2 = 0) := Lib.hid ⟨by rw [HR1.out, hr]; rfl, by rw [HR2.out, hr]; rfl⟩
    clear hr
    obtain ⟨c0, c1⟩ := pbox HX1.out
    go_wp2_with fail
    refine (HC.out _ HB1.out).mono ?_
    rintro e w2 ⟨rfl, hb2⟩
    have HB2 := Lib.hid (below2 (below2 HB.out HB1.out) hb2)
    clear hb2 c0 c1 HC
    go_wp2_with fail
    go_ret2
    exact ⟨by rw [HE.out.1, HE.out.2]; rfl, HB2.out⟩
set_option maxHeartbeats 4000000 in
theorem ejudge_any (rv : Value) (p : Po) (d : Rec) (w : World) (hL : LAt w rv p.rules) (hk : p.ok) (hl : p.rules.length ≤ 9223372036854775807) (hl2 : ∀ x ∈ p.rules, x.conds.length ≤ 9223372036854775807) (hd : d.ok) (ht : QTab w) :
    Calls Tryd.prog 10 #[poV rv p.dflt, d.val] w fun e w' => e = .returned (.tuple #[.int .u32 ((if p.right then judgeR p.rules p.dflt d else 0 : Nat) : Int), .int .i64 (if p.right then 0 else 1)]) ∧ Below w.heap.size w w' := by
  obtain ⟨ao, cap, rfl, hrows⟩ := hL.rows
  obtain ⟨W, hW, X0, X1, HBx⟩ := box2 w (poB (.slice ao p.rules.length cap) p.dflt) (.cells d.cells 32)
  have HX := Lib.hid X0
  have HD := Lib.hid X1
  have HB := Lib.hid HBx
  have HROW := Lib.hid hrows
  clear X0 X1 HBx
  have HF : Hid (Calls Tryd.prog 16 #[poV (.slice ao p.rules.length cap) p.dflt, d.val] W fun e w' => e = .returned (.tuple #[.int .i64 (if p.right then firstN p.rules 0 d else 0), .int .i64 (if p.right then 0 else 1)]) ∧ Below W.heap.size W w') := Lib.hid (efirst_any _ p d W (hL.below HB.out) hk hl hl2 hd (QTab.below ht HB.out))
  have HJ := Lib.hid (first_judge p.rules 0 p.dflt d)
  obtain ⟨R1, hR1⟩ : ∃ R : Nat, R = if p.right then judgeR p.rules p.dflt d else 0 := ⟨_, rfl⟩
  obtain ⟨R2, hR2⟩ : ∃ R : Int, R = if p.right then 0 else 1 := ⟨_, rfl⟩
  rw [← hR1, ← hR2]
  rw [← hR2] at HF
  have HR1 := Lib.hid hR1
  have HR2 := Lib.hid hR2
  clear hL hk hl2 hd ht hrows hR1 hR2
  go_enter Tryd.func10, Tryd.ntmps10
  go_upto_region 1 with fail
  change Code.wp _ _ _ _ ((w.alloc (poB (.slice ao p.rules.length cap) p.dflt)).alloc (.cells d.cells 32))
  rw [← hW]
  clear hW
  obtain ⟨c0, c1⟩ := pbox HX.out
  obtain ⟨d0, d1, d2, d3, d4, d5, d6, d7, d8⟩ := rec_cells HD.out
  go_wp2_with fail
  refine HF.out.mono ?_
  rintro e w1 ⟨rfl, hb1⟩
  have HB1 := Lib.hid (below2 HB.out hb1)
  have HX1 := Lib.hid (kb hb1 HX.out)
  clear hb1 c0 c1 d0 d1 d2 d3 d4 d5 d6 d7 d8 HF
  cases hr : p.right
  · obtain rfl : R2 = 1 := by rw [HR2.out, hr]; rfl
    have HE : Hid (R1 = 0) := Lib.hid (by rw [HR1.out, hr]; rfl)
    rw [if_neg (by decide)]
    clear hr HR2
    go_wp2_with fail
    go_ret2
    exact ⟨by rw [HE.out]; rfl, HB1.out⟩
  · obtain rfl : R2 = 0 := by rw [HR2.out, hr]; rfl
    rw [if_pos rfl]
    obtain ⟨c0, c1⟩ := pbox HX1.out
    rcases HJ.out with ⟨h1, h2⟩ | ⟨k, hk, h1, h2⟩
    · have HE : Hid (R1 = p.dflt) := Lib.hid (by rw [HR1.out, hr, if_pos rfl, h2])
      rw [h1]
      clear h1 h2 HJ hr HR2
      go_wp2_with fail
      go_ret2
      exact ⟨by rw [HE.out]; rfl, HB1.out⟩
    · have HE : Hid (R1 = (p.rules[k]).act) := Lib.hid (by rw [HR1.out, hr, if_pos rfl, h2])
      rw [h1, Nat.zero_add]
      clear hr HR2
      obtain ⟨b, off, cv, rfl, hb', hcv, e0, e1, e2, e3⟩ := HROW.out k hk
      obtain ⟨x, hx⟩ : ∃ x, x = p.rules[k] := ⟨_, rfl⟩
      rw [← hx] at e3 HE
      have e := (HB1.out.cell (p := ⟨b, _, none⟩) hb').trans e3
      have l0 : (k : Int) < (p.rules.length : Int) := by omega
      have l1 : (0 : Int) ≤ (k : Int) := by omega
      have l2 : (k : Int).toNat = k := by omega
      have l3 : decide ((k : Int) < 0) = false := by simp
      clear h1 h2 HJ hcv e0 e1 e2 e3 hx
      go_wp2_with fail
      go_ret2
      exact ⟨by rw [HE.out]; rfl, HB1.out⟩
end Go.Proofs.YtbhondjfilohdaaDoor
/-
  The document's line of a rule (package hurdleref10).
-/
namespace Go.Proofs.YtbhondjfilohdaaDoor
open Go.ChangeShapes Go.WideShapes Go.ChangeAt Go.RowKit
set_option maxRecDepth 20000

theorem join_app : ∀ (ws vs : List (List UInt8)), ws ≠ [] → Ip.join (ws ++ vs) = Ip.join ws ++ vs.flatMap (32 :: ·)
  | [], _, h => absurd rfl h
  | [x], vs, _ => by
    induction vs generalizing x with
    | nil => simp [Ip.join]
    | cons y l ih =>
      have e : Ip.join ([x] ++ y :: l) = x ++ 32 :: Ip.join ([y] ++ l) := rfl
      rw [e, ih y (by simp)]
      simp [Ip.join]
  | x :: y :: l, vs, _ => by
    have e : Ip.join (x :: y :: l ++ vs) = x ++ 32 :: Ip.join (y :: l ++ vs) := rfl
    have e2 : Ip.join (x :: y :: l) = x ++ 32 :: Ip.join (y :: l) := rfl
    rw [e, e2, join_app (y :: l) vs (by simp)]
    simp
def lineH (x : Rl) : List UInt8 := [111, 110, 32] ++ bl (textN machT x.arch) ++ [32] ++ bl (textN (callT x.arch) x.nr) ++ [32] ++ bl (actB x.act)
def condL (k : Nat) (c : Cd) : List UInt8 := (32 :: glue k ++ [32]) ++ textQ c
def condsL : Nat → List Cd → List UInt8
  | _, [] => []
  | k, c :: cs => condL k c ++ condsL (k + 1) cs
theorem condsL_eq : ∀ (k : Nat) (cs : List Cd), (condsW k cs).flatMap (32 :: ·) = condsL k cs
  | _, [] => rfl
  | k, c :: cs => by
    rw [condsW, List.flatMap_append, condsL_eq (k + 1) cs, condsL]
    simp [condW, condL, textQ]
theorem lineL_eq (x : Rl) : lineL x = lineH x ++ condsL 0 x.conds := by
  unfold lineL wordsR
  rw [join_app _ _ (by simp [headW]), condsL_eq]
  congr 1
  simp [headW, Ip.join, lineH, wOn]
theorem mkT (l m : List UInt8) : (⟨l.toArray⟩ : ByteArray) ++ (⟨m.toArray⟩ : ByteArray) = ⟨(l ++ m).toArray⟩ := Wd.joined l m
/-! ### Sizes -/
end Go.Proofs.YtbhondjfilohdaaDoor
/-
  The document's Read of a rule's line (package hurdleref10).
-/
namespace Go.Proofs.YtbhondjfilohdaaDoor
open Go.ChangeShapes Go.WideShapes Go.ChangeAt Go.RowKit
set_option maxRecDepth 20000

theorem infoCd : (Tryd.prog.info? 46).map (fun i => (i.zero, i.size, i.bytes)) = some (some (.agg #[.int .i64 0, .int .i64 0, .int .u64 0, .int .u64 0]), 4, 32) := by kernel_rfl
/-- A row of the call's own stays where another block is written. -/
theorem own_put {w w' : World} {g base : Nat} {o : Obj} {e : TypeId} {size : Nat} {v : Value} {n : Nat} {xs : List Value} (h : w.ownsRow base e size v n xs) (hp : RowPut w w' g o) (hg : g < base) : w'.ownsRow base e size v n xs := by
  obtain ⟨h1, h2⟩ := h
  refine ⟨h1, h2.imp id ?_⟩
  rintro ⟨k, cap, cur, hv, hk, hh, r⟩
  exact ⟨k, cap, cur, hv, hk, hp.keep (by omega) hh, r⟩
theorem rowPut_cell {w : World} {g : Nat} {old : Array Value} {t : TypeId} (hg : w.heap[g]? = some (.cells old t)) (i : Nat) (v : Value) : RowPut w (w.setCell ⟨g, i, none⟩ v) g (.cells (old.setIfInBounds i v) t) := by
  have h := rowPut_set hg (old.setIfInBounds i v)
  rwa [← setCell_eq_setRow w _ _ _ _ _ _ hg] at h
theorem RowPut.then {w w' w'' : World} {g : Nat} {o o' : Obj} (h : RowPut w w' g o) (h' : RowPut w' w'' g o') : RowPut w w'' g o' :=
  ⟨h'.os.trans h.os, h'.tape.trans h.tape, h'.output.trans h.output, h'.size.trans h.size, h'.row, fun k hk => (h'.rest k hk).trans (h.rest k hk)⟩
theorem put_four {w : World} {g : Nat} {x : Rl} {u : Value} (h : w.heap[g]? = some (rlB x u)) (a n v : Nat) (cs : List Cd) (cv : Value) :
    RowPut w ((((w.setCell ⟨g, 0, none⟩ (.int .u32 (a : Nat))).setCell ⟨g, 1, none⟩ (.int .u32 (n : Nat))).setCell ⟨g, 2, none⟩ cv).setCell ⟨g, 3, none⟩ (.int .u32 (v : Nat))) g (rlB ⟨a, n, v, cs⟩ cv) := by
  have h1 := rowPut_cell h 0 (.int .u32 (a : Nat))
  have h2 := rowPut_cell h1.row 1 (.int .u32 (n : Nat))
  have h3 := rowPut_cell h2.row 2 cv
  have h4 := rowPut_cell h3.row 3 (.int .u32 (v : Nat))
  exact ((h1.then h2).then h3).then h4
theorem qcells_snoc (cs : List Cd) (c : Cd) : qcells ((cs ++ [c]).map cdQ) = qcells (cs.map cdQ) ++ V4.cells (cdQ c) := by
  rw [List.map_append, qcells_app, List.map_singleton, qcells_one]
/-- What comes of a line. -/
def PReadEnd (l : List UInt8) (B : Nat) (w' : World) (e : Ending) : Prop :=
  (∃ x cv, readR l = some x ∧ w'.ownsRow B 46 4 cv x.conds.length (qcells (x.conds.map cdQ)) ∧ e = .returned (.tuple #[x.val cv, .bool true])) ∨ (readR l = none ∧ e = .returned (.tuple #[zeroRl.val (.slice none 0 0), .bool false]))
theorem preadNo {l : List UInt8} {B : Nat} {w' : World} (h : readR l = none) : PReadEnd l B w' (.returned (.tuple #[.agg #[.int .u32 0, .int .u32 0, .slice none 0 0, .int .u32 0], .bool false])) := .inr ⟨h, rfl⟩
end Go.Proofs.YtbhondjfilohdaaDoor
/-
  The document's Parse of a policy (package hurdleref10).
-/
namespace Go.Proofs.YtbhondjfilohdaaDoor
open Go.ChangeShapes Go.WideShapes Go.ChangeAt Go.RowKit
set_option maxRecDepth 20000

theorem results_cell_tmp2 {fn : Func} {p u v : Tmp} {ty : TypeId} (h : fn.results = #[.cell p ty, .tmp u, .tmp v]) (tmps : Array Value) (P : Program) (w : World) :
    (results fn tmps).run P w =
      ((asAddr (tmps.getD p undef)).run P w).andThen fun a w₁ => ((loadVar ty a).run P w₁).andThen fun x w₂ => .ok (.tuple #[x, tmps.getD u undef, tmps.getD v undef]) w₂ := by
  simp only [results, h]
  simp [Sem.run_bind, Result.andThen]
theorem infoRl : (Tryd.prog.info? 28).map (fun i => (i.zero, i.size, i.bytes)) = some (some (.agg #[.int .u32 0, .int .u32 0, .slice none 0 0, .int .u32 0]), 4, 40) := by kernel_rfl
/-- A row of the call's own stays where another one grows. -/
theorem own_keep {w w' : World} {base : Nat} {e : TypeId} {size : Nat} {u v : Value} {n : Nat} {xs : List Value} (h : w.ownsRow base e size v n xs) (hg : w.grownBy w' u.ownBlock) (hne : v.ownBlock = none ∨ v.ownBlock ≠ u.ownBlock) : w'.ownsRow base e size v n xs := by
  obtain ⟨h1, h2⟩ := h
  refine ⟨h1, h2.imp id ?_⟩
  rintro ⟨k, cap, cur, rfl, hk, hh, r⟩
  refine ⟨k, cap, cur, rfl, hk, (hg.block k (lt_of_block hh) (fun e => ?_)).trans hh, r⟩
  rcases hne with h | h
  · simp [Value.ownBlock] at h
  · exact h (by rw [← e]; simp [Value.ownBlock])
/-- Rules that lie in rows of the call's own. -/
structure LOwn (w : World) (B : Nat) (rv : Value) (l : List (Rl × Value)) : Prop where
  row : w.ownsRow B 28 4 rv l.length (qcells (l.map rlQ))
  conds : ∀ p ∈ l, w.ownsRow B 46 4 p.2 p.1.conds.length (qcells (p.1.conds.map cdQ))
theorem LOwn.nil (w : World) (B : Nat) : LOwn w B (.slice none 0 0) [] := ⟨World.ownsRow_nil _ _ _ _, by simp⟩
theorem LOwn.below {w w' : World} {B : Nat} {rv : Value} {l : List (Rl × Value)} (h : LOwn w B rv l) (hb : Below w.heap.size w w') : LOwn w' B rv l := ⟨own_below h.row hb, fun p hp => own_below (h.conds p hp) hb⟩
theorem LOwn.put {w w' : World} {B g : Nat} {o : Obj} {rv : Value} {l : List (Rl × Value)} (h : LOwn w B rv l) (hp : RowPut w w' g o) (hg : g < B) : LOwn w' B rv l := ⟨own_put h.row hp hg, fun p hq => own_put (h.conds p hq) hp hg⟩
theorem LOwn.at {w : World} {B : Nat} {rv : Value} {l : List (Rl × Value)} (h : LOwn w B rv l) : LAt w rv (l.map (·.1)) :=
  ⟨l, rfl, QAt.own h.row (by rw [List.length_map]), fun p hp => QAt.own (h.conds p hp) (by rw [List.length_map])⟩
theorem ne_types : 28 ≠ 46 := by decide
theorem LOwn.grow {w w' : World} {B : Nat} {rv rv' : Value} {l : List (Rl × Value)} {x : Rl} {cv : Value} (h : LOwn w B rv l) (hc : w.ownsRow B 46 4 cv x.conds.length (qcells (x.conds.map cdQ))) (hg : w.grownBy w' rv.ownBlock)
    (hr : w'.ownsRow B 28 4 rv' (l.length + 1) (qcells (l.map rlQ) ++ V4.cells (rlQ (x, cv)))) : LOwn w' B rv' (l ++ [(x, cv)]) := by
  refine ⟨?_, fun p hp => ?_⟩
  · rw [List.length_append, List.length_singleton, List.map_append, qcells_app, List.map_singleton, qcells_one]
    exact hr
  · rcases List.mem_append.1 hp with hp | hp
    · exact own_keep (h.conds p hp) hg (own_apart h.row (h.conds p hp) ne_types)
    · rw [List.mem_singleton.1 hp]
      exact own_keep hc hg (own_apart h.row hc ne_types)
/-- What comes of a text. -/
def PPEnd (l : List UInt8) (w' : World) (e : Ending) : Prop :=
  ∃ rv, LAt w' rv (polT l).1.rules ∧ e = .returned (.tuple #[poV rv (polT l).1.dflt, .int .i64 ((polT l).2.1 : Nat), .int .i64 ((polT l).2.2 : Nat)])
theorem ppEnd_bad {l : List UInt8} {w' : World} {i e : Nat} (h : polT l = (zeroPo, i, e)) : PPEnd l w' (.returned (.tuple #[.agg #[.slice none 0 0, .int .u32 0], .int .i64 (i : Nat), .int .i64 (e : Nat)])) := by
  refine ⟨.slice none 0 0, ?_, ?_⟩
  · rw [h]
    exact LAt.nil w'
  · rw [h]
    rfl
theorem ppEnd_good {l : List UInt8} {w' : World} {rs : List Rl} {d : Nat} {rv : Value} (h : polT l = (⟨rs, d⟩, 0, 0)) (hL : LAt w' rv rs) : PPEnd l w' (.returned (.tuple #[.agg #[rv, .int .u32 (d : Nat)], .int .i64 0, .int .i64 0])) := by
  refine ⟨rv, ?_, ?_⟩
  · rw [h]
    exact hL
  · rw [h]
    rfl
theorem put_pol {w : World} {g : Nat} {u : Value} {d : Nat} (h : w.heap[g]? = some (poB u d)) (rv : Value) (v : Nat) : RowPut w ((w.setCell ⟨g, 0, none⟩ rv).setCell ⟨g, 1, none⟩ (.int .u32 (v : Nat))) g (poB rv v) := by
  have h1 := rowPut_cell h 0 rv
  have h2 := rowPut_cell h1.row 1 (.int .u32 (v : Nat))
  exact h1.then h2
theorem put_rules {w : World} {g : Nat} {u : Value} {d : Nat} (h : w.heap[g]? = some (poB u d)) (rv : Value) : RowPut w (w.setCell ⟨g, 0, none⟩ rv) g (poB rv d) := rowPut_cell h 0 rv
end Go.Proofs.YtbhondjfilohdaaDoor
/-
  A policy with a rule put in (package hurdlelaw11): slices of rules, and their copies.
-/
namespace Go.Proofs.YtbhondjfilohdaaDoor
open Go.ChangeShapes Go.WideShapes Go.ChangeAt Go.RowKit
set_option maxRecDepth 20000

/-- Rows of four cells as they come into an append. -/
theorem QAt.src {w : World} {v : Value} {l : List V4} (h : QAt w v l) : SrcAt w 4 v l.length (qcells l) := by
  obtain ⟨ao, cap, rfl, h⟩ := h
  refine ⟨ao, cap, rfl, qcells_len l, fun h0 => ?_, fun ad had j u hu => ?_⟩
  · rcases h with rfl | ⟨b, off, rfl, _⟩
    · rfl
    · cases h0
  · rcases h with rfl | ⟨b, off, rfl, _, hc⟩
    · simp [qcells] at hu
    · cases had
      have hj : j < l.length * 4 := by rw [← qcells_len]; exact (List.getElem?_eq_some_iff.1 hu).1
      have hd : j / 4 < l.length := by omega
      have e : j = j / 4 * 4 + j % 4 := by omega
      have h4 := qcells_at l (j / 4) hd (j % 4) (by omega)
      rw [← e, hu] at h4
      obtain ⟨c0, c1, c2, c3⟩ := hc (j / 4) hd
      rw [add_plain]
      have hm : j % 4 = 0 ∨ j % 4 = 1 ∨ j % 4 = 2 ∨ j % 4 = 3 := by omega
      rcases hm with m | m | m | m
      · rw [m] at h4
        rw [show off + j = off + j / 4 * 4 by omega, c0]
        exact h4.symm
      · rw [m] at h4
        rw [show off + j = off + j / 4 * 4 + 1 by omega, c1]
        exact h4.symm
      · rw [m] at h4
        rw [show off + j = off + j / 4 * 4 + 2 by omega, c2]
        exact h4.symm
      · rw [m] at h4
        rw [show off + j = off + j / 4 * 4 + 3 by omega, c3]
        exact h4.symm
/-- A slice is no longer than there is room. -/
def CapOk (v : Value) : Prop := ∃ ao n cap, v = .slice ao n cap ∧ n ≤ cap ∧ cap ≤ 9223372036854775807
theorem CapOk.own {w : World} {base : Nat} {e : TypeId} {size : Nat} {v : Value} {n : Nat} {xs : List Value} (h : w.ownsRow base e size v n xs) : CapOk v := by
  rcases h.2 with ⟨rfl, h0⟩ | ⟨g, cap, cur, rfl, _, _, hc, hm, _⟩
  · exact ⟨none, 0, 0, rfl, Nat.le_refl _, by omega⟩
  · unfold maxLen at hm
    exact ⟨_, _, _, rfl, hc, hm⟩
theorem QAt.upto {w : World} {v : Value} {l : List V4} (h : QAt w v l) (hv : CapOk v) (hi : Nat) (hh : hi ≤ l.length) :
    ∃ v', (∀ W, (Instr.slice 22 v none (some (.int .i64 (hi : Nat))) none).run Tryd.prog W = .ok v' W) ∧ QAt w v' (l.take hi) := by
  obtain ⟨ao, cap, rfl, hD⟩ := h
  obtain ⟨_, _, _, e, hcap, hmax⟩ := hv
  simp only [Value.slice.injEq] at e
  obtain ⟨rfl, rfl, rfl⟩ := e
  have hl : (l.take hi).length = hi := by rw [List.length_take]; omega
  rcases hD with rfl | ⟨g, off, rfl, hg, hc⟩
  · simp at hh
    subst hh
    cases ao with
    | none => exact ⟨.slice none 0 cap, fun W => by go_simp, none, cap, rfl, .inl rfl⟩
    | some a => exact ⟨.slice (some a) 0 cap, fun W => by go_simp, some a, cap, rfl, .inl rfl⟩
  · refine ⟨.slice (some ⟨g, off, none⟩) hi cap, fun W => ?_, some ⟨g, off, none⟩, cap, by rw [hl], .inr ⟨g, off, rfl, hg, fun i hi' => ?_⟩⟩
    · go_simp
      (try (intro h; omega))
    · rw [List.getElem_take]
      exact hc i (by omega)
theorem QAt.past {w : World} {v : Value} {l : List V4} (h : QAt w v l) (hv : CapOk v) (lo : Nat) (hh : lo ≤ l.length) :
    ∃ v', (∀ W, (Instr.slice 22 v (some (.int .i64 (lo : Nat))) none none).run Tryd.prog W = .ok v' W) ∧ QAt w v' (l.drop lo) := by
  obtain ⟨ao, cap, rfl, hD⟩ := h
  obtain ⟨_, _, _, e, hcap, hmax⟩ := hv
  simp only [Value.slice.injEq] at e
  obtain ⟨rfl, rfl, rfl⟩ := e
  have hl : (l.drop lo).length = l.length - lo := List.length_drop
  rcases hD with rfl | ⟨g, off, rfl, hg, hc⟩
  · simp at hh
    subst hh
    cases ao with
    | none => exact ⟨.slice none 0 cap, fun W => by go_simp, none, cap, rfl, .inl rfl⟩
    | some a => exact ⟨.slice (some a) 0 cap, fun W => by go_simp, some a, cap, rfl, .inl rfl⟩
  · have cR : Tryd.prog.cellsOf 28 = 4 := by kernel_rfl
    by_cases hc1 : cap = lo
    · refine ⟨.slice (some ⟨g, off, none⟩) (l.length - lo) 0, fun W => ?_, some ⟨g, off, none⟩, 0, by rw [hl], .inl ?_⟩
      · subst hc1
        go_simp
        (try (intro h; omega))
      · exact List.eq_nil_of_length_eq_zero (by omega)
    · refine ⟨.slice (some ⟨g, off + lo * 4, none⟩) (l.length - lo) (cap - lo), fun W => ?_, some ⟨g, off + lo * 4, none⟩, cap - lo, by rw [hl], .inr ⟨g, off + lo * 4, rfl, hg, fun i hi' => ?_⟩⟩
      · go_simp
        (try (intro h; omega))
      · obtain ⟨c0, c1, c2, c3⟩ := hc (lo + i) (by omega)
        rw [List.getElem_drop]
        rw [Nat.add_mul, ← Nat.add_assoc] at c0 c1 c2 c3
        exact ⟨c0, c1, c2, c3⟩
theorem QAt.src_n {w : World} {v : Value} {l : List V4} {n : Nat} (h : QAt w v l) (hn : l.length = n) : SrcAt w 4 v n (qcells l) := by
  have h1 := h.src
  rw [hn] at h1
  exact h1
/-- Each of a rule's cells is one. -/
theorem rules_one {w : World} {l : List (Rl × Value)} (h : ∀ p ∈ l, CAt w p.2 p.1.conds) : ∀ u ∈ qcells (l.map rlQ), u.oneCell' = true := by
  intro u hu
  unfold qcells at hu
  rw [List.mem_flatMap] at hu
  obtain ⟨q, hq, hu⟩ := hu
  obtain ⟨p, hp, rfl⟩ := List.mem_map.1 hq
  obtain ⟨ao, cap, e⟩ := (h p hp).shape
  simp only [V4.cells, List.mem_cons, List.not_mem_nil, or_false] at hu
  rcases hu with rfl | rfl | rfl | rfl
  · rfl
  · rfl
  · rw [e]; rfl
  · rfl
theorem eresults_one {fn : Func} {p : Tmp} {ty : TypeId} (h : fn.results = #[.cell p ty]) (tmps : Array Value) (P : Program) (w : World) :
    (results fn tmps).run P w = ((asAddr (tmps.getD p undef)).run P w).andThen fun a w₁ => (loadVar ty a).run P w₁ := by
  simp only [results, h]
  simp [Sem.run_bind]
theorem own_block {w : World} {base : Nat} {e : TypeId} {size : Nat} {v : Value} {n : Nat} {xs : List Value} (h : w.ownsRow base e size v n xs) (hn : 0 < n) : ∃ g cap, v = .slice (some ⟨g, 0, none⟩) n cap ∧ base ≤ g := by
  rcases h.2 with ⟨_, h0⟩ | ⟨g, cap, cur, rfl, hg, _⟩
  · omega
  · exact ⟨g, cap, rfl, hg⟩
theorem own_lt {w : World} {base : Nat} {e : TypeId} {size n cap : Nat} {a : Addr} {xs : List Value} (h : w.ownsRow base e size (.slice (some a) n cap) n xs) : a.block < w.heap.size := by
  rcases h.2 with ⟨h0, _⟩ | ⟨g, cap, cur, h0, _, hb, _⟩
  · cases h0
  · cases h0
    exact lt_of_block hb
theorem own_has {w : World} {base : Nat} {e : TypeId} {size n g cap : Nat} {xs : List Value} (h : w.ownsRow base e size (.slice (some ⟨g, 0, none⟩) n cap) n xs) {j : Nat} (hj : j < xs.length) : ∃ u, w.cell? ⟨g, j, none⟩ = some u := by
  rw [h.cellAt j (by rw [← h.1]; exact hj)]
  exact ⟨_, List.getElem?_eq_getElem hj⟩
/-- Its rows, where its length is known by a letter. -/
theorem LAt.rows_at {w : World} {ao : Option Addr} {cap n : Nat} {rs : List Rl} (h : LAt w (.slice ao rs.length cap) rs) (hn : n = rs.length) (k : Nat) (hk : k < n) : ∃ b off cv, ao = some ⟨b, off, none⟩ ∧ b < w.heap.size ∧ CAt w cv (rs[k]'(by rw [← hn]; exact hk)).conds ∧
    w.cell? ⟨b, off + k * 4, none⟩ = some (.int .u32 ((rs[k]'(by rw [← hn]; exact hk)).arch : Nat)) ∧ w.cell? ⟨b, off + k * 4 + 1, none⟩ = some (.int .u32 ((rs[k]'(by rw [← hn]; exact hk)).nr : Nat)) ∧ w.cell? ⟨b, off + k * 4 + 2, none⟩ = some cv ∧ w.cell? ⟨b, off + k * 4 + 3, none⟩ = some (.int .u32 ((rs[k]'(by rw [← hn]; exact hk)).act : Nat)) := by
  obtain ⟨b, off, cap', cv, e, hb, hc, d⟩ := h.row (i := k) (by rw [← hn]; exact hk)
  simp only [Value.slice.injEq] at e
  exact ⟨b, off, cv, e.1, hb, hc, d⟩
/-- A row of four cells, one of which was put. -/
theorem qcells_set : ∀ (l : List V4) (k : Nat) (y : V4), k < l.length → ((((qcells l).set (k * 4) y.1).set (k * 4 + 1) y.2.1).set (k * 4 + 2) y.2.2.1).set (k * 4 + 3) y.2.2.2 = qcells (l.set k y)
  | [], _, _, h => by cases h
  | x :: l, 0, y, _ => by
    have e : qcells (x :: l) = x.1 :: x.2.1 :: x.2.2.1 :: x.2.2.2 :: qcells l := rfl
    have e2 : qcells ((x :: l).set 0 y) = y.1 :: y.2.1 :: y.2.2.1 :: y.2.2.2 :: qcells l := rfl
    rw [e, e2]
    rfl
  | x :: l, k + 1, y, h => by
    have ih := qcells_set l k y (by simpa using h)
    have e : qcells (x :: l) = x.1 :: x.2.1 :: x.2.2.1 :: x.2.2.2 :: qcells l := rfl
    have e2 : qcells ((x :: l).set (k + 1) y) = x.1 :: x.2.1 :: x.2.2.1 :: x.2.2.2 :: qcells (l.set k y) := rfl
    rw [e, e2, ← ih, show (k + 1) * 4 = k * 4 + 4 by omega]
    rfl
theorem own_four {w : World} {base : Nat} {e : TypeId} {n g cap : Nat} {l : List V4} (h : w.ownsRow base e 4 (.slice (some ⟨g, 0, none⟩) n cap) n (qcells l)) (k : Nat) (y : V4) (hk : k < l.length) :
    ((((w.setCell ⟨g, k * 4, none⟩ y.1).setCell ⟨g, k * 4 + 1, none⟩ y.2.1).setCell ⟨g, k * 4 + 2, none⟩ y.2.2.1).setCell ⟨g, k * 4 + 3, none⟩ y.2.2.2).ownsRow base e 4 (.slice (some ⟨g, 0, none⟩) n cap) n (qcells (l.set k y)) := by
  rw [← qcells_set l k y hk]
  exact ((((h.stored _ _).1.stored _ _).1.stored _ _).1.stored _ _).1
theorem own_four_grown {w : World} {base : Nat} {e : TypeId} {n g cap : Nat} {l : List V4} (h : w.ownsRow base e 4 (.slice (some ⟨g, 0, none⟩) n cap) n (qcells l)) (k : Nat) (y : V4) :
    Below base w ((((w.setCell ⟨g, k * 4, none⟩ y.1).setCell ⟨g, k * 4 + 1, none⟩ y.2.1).setCell ⟨g, k * 4 + 2, none⟩ y.2.2.1).setCell ⟨g, k * 4 + 3, none⟩ y.2.2.2) := by
  obtain ⟨h1, g1⟩ := h.stored (k * 4) y.1
  obtain ⟨h2, g2⟩ := h1.stored (k * 4 + 1) y.2.1
  obtain ⟨h3, g3⟩ := h2.stored (k * 4 + 2) y.2.2.1
  obtain ⟨h4, g4⟩ := h3.stored (k * 4 + 3) y.2.2.2
  have hb : base ≤ g := by
    rcases h.2 with ⟨h0, _⟩ | ⟨g', cap', cur, h0, hb, _⟩
    · cases h0
    · cases h0
      exact hb
  have hlt : g < w.heap.size := by
    rcases h.2 with ⟨h0, _⟩ | ⟨g', cap', cur, h0, _, hh, _⟩
    · cases h0
    · cases h0
      exact lt_of_block hh
  have s1 := g1.size
  have s2 := g2.size
  have s3 := g3.size
  exact (((Below.refl base w).grown g1 (by omega) (fun k' hk => by cases hk; exact hb)).grown g2 (by omega) (fun k' hk => by cases hk; exact hb)).grown g3 (by omega) (fun k' hk => by cases hk; exact hb) |>.grown g4 (by omega) (fun k' hk => by cases hk; exact hb)
/-- What put answers. -/
def PutEnd (q : Po) (k : Nat) (x : Rl) (w' : World) (e : Ending) : Prop := ∃ rv, LAt w' rv (putR q.rules k x) ∧ CapOk rv ∧ e = .returned (poV rv q.dflt)
set_option maxHeartbeats 8000000 in
theorem eput_any (rv cv : Value) (q : Po) (k : Nat) (x : Rl) (w : World) (hL : LAt w rv q.rules) (hcap : CapOk rv) (hC : CAt w cv x.conds) (hk : k ≤ q.rules.length) (h100 : q.rules.length ≤ 1000) :
    Calls Tryd.prog 9 #[poV rv q.dflt, .int .i64 (k : Nat), x.val cv] w fun e w' => PutEnd q k x w' e ∧ Below w.heap.size w w' := by
  obtain ⟨i0, hi, hz0, hz1, hz2⟩ := info_parts infoRl
  obtain ⟨l, hlr, hq, hcs⟩ := hL
  have hll : (l.map rlQ).length = q.rules.length := by rw [hlr, List.length_map, List.length_map]
  obtain ⟨n, hn⟩ : ∃ n, n = q.rules.length := ⟨_, rfl⟩
  rw [← hn] at hll hk h100
  obtain ⟨vA, eA, hA⟩ := hq.upto hcap k (by omega)
  obtain ⟨vB, eB, hB⟩ := hq.past hcap k (by omega)
  have hAl : ((l.map rlQ).take k).length = k := by rw [List.length_take]; omega
  have hBl : ((l.map rlQ).drop k).length = n - k := by rw [List.length_drop]; omega
  have HA := Lib.hid hA
  have HBB := Lib.hid hB
  have hoA : ∀ u ∈ qcells ((l.map rlQ).take k), u.oneCell' = true := by
    rw [← List.map_take]
    exact rules_one (w := w) fun p hp => hcs p (List.mem_of_mem_take hp)
  have hoB : ∀ u ∈ qcells ((l.map rlQ).drop k), u.oneCell' = true := by
    rw [← List.map_drop]
    exact rules_one (w := w) fun p hp => hcs p (List.mem_of_mem_drop hp)
  have HOA1 := Lib.hid hoA
  have HOB1 := Lib.hid hoB
  have HAl := Lib.hid hAl
  have HBl := Lib.hid hBl
  obtain ⟨co, ccap, rfl⟩ := hC.shape
  obtain ⟨ao, n', cap, rfl, hc1, hc2⟩ := hcap
  have HCX := Lib.hid hC
  have HCS := Lib.hid hcs
  have HLR := Lib.hid hlr
  have HN := Lib.hid hn
  obtain ⟨W, hW, X0, X1, X2, HBx⟩ := box3 w (poB (.slice ao n' cap) q.dflt) (rlB x (.slice co x.conds.length ccap)) (poB (.slice none 0 0) 0)
  have HP := Lib.hid X0
  have HX := Lib.hid X1
  have HZ := Lib.hid X2
  have HB0 := Lib.hid HBx
  clear X0 X1 X2 HBx hA hB hAl hBl hoA hoB hq hcs hlr hC hll hn
  go_enter Tryd.func9, Tryd.ntmps9
  obtain ⟨Q, hQ⟩ : ∃ Q, Q = bodyPost Tryd.prog Tryd.f9 (fun e w' => PutEnd q k x w' e ∧ Below w.heap.size w w') := ⟨_, rfl⟩
  rw [← hQ]
  have HQ0 := Lib.hid hQ
  clear hQ
  go_upto_region 1 with fail
  change Code.wp _ _ _ _ (((w.alloc (poB (.slice ao n' cap) q.dflt)).alloc (rlB x (.slice co x.conds.length ccap))).alloc (poB (.slice none 0 0) 0))
  rw [← hW]
  clear hW
  obtain ⟨c0, c1⟩ := pbox HP.out
  have hlt : w.heap.size < W.heap.size := lt_of_block HP.out
  have hbE := ba (.cells #[] 28) (Below.refl W.heap.size W)
  have HBE := Lib.hid hbE
  have hsE := hbE.size
  clear hbE
  go_wp2_with (at_builtin; refine wpList_append_src _ rfl _ _ 22 rfl W.heap.size 28 i0 (.agg #[.int .u32 0, .int .u32 0, .slice none 0 0, .int .u32 0]) 4 40 Tryd.underlying22 hi hz0 hz1 hz2 rfl (by decide) _ 0 [] rfl (own_empty W W.heap.size 28 4 (Nat.le_refl _)) vA k (qcells ((l.map rlQ).take k)) rfl (QAt.src_n (HA.out.below (HB0.out.trans (HBE.out.mono HB0.out.size))) HAl.out) HOA1.out (by unfold maxLen; omega) (by omega) hsE ?_)
  intro v1 w1 hO hg
  have HB1 := Lib.hid (grown_below HBE.out (own_empty W W.heap.size 28 4 (Nat.le_refl _)) hg hsE)
  have HO1 := Lib.hid hO
  have HP1 := Lib.hid (kb HB1.out HP.out)
  have HX1 := Lib.hid (kb HB1.out HX.out)
  have HZ1 := Lib.hid (kb HB1.out HZ.out)
  have hs1 := HB1.out.size
  clear hO hg c0 c1 HBE hsE eA
  obtain ⟨c0, c1⟩ := pbox HP1.out
  obtain ⟨x0, x1, x2, x3⟩ := rbox HX1.out
  go_upto_region 2 with fail
  clear HOA1 HA HAl c1
  have HBv := Lib.hid (bdN (ba (rlB x (.slice co x.conds.length ccap)) HB1.out) 1)
  have HOv := Lib.hid (own_below HO1.out (bdN (ba (rlB x (.slice co x.conds.length ccap)) (Below.refl w1.heap.size w1)) 1))
  have HSx : Hid (SrcAt ((w1.alloc (rlB x (.slice co x.conds.length ccap))).drewN 1) 4 (.slice (some ⟨w1.heap.size, 0, none⟩) 1 1) 1 (V4.cells (rlQ (x, .slice co x.conds.length ccap)))) := Lib.hid ⟨_, _, rfl, rfl, fun h => (by cases h), fun ad had j u hu => (by cases had; exact new_at w1 _ _ j u hu)⟩
  have hsv := HBv.out.size
  have b1 : k + 1 ≤ maxLen := by unfold maxLen; omega
  have b2 : (k + 1) * 40 ≤ 140737488355328 := by omega
  have b3 : k + 1 + (n - k) ≤ maxLen := by unfold maxLen; omega
  have b4 : (k + 1 + (n - k)) * 40 ≤ 140737488355328 := by omega
  go_region_held3 (fun V => V.cell? ⟨w.heap.size, 0, none⟩ = some (.slice ao n' cap) ∧ V.cell? ⟨w.heap.size + 1, 0, none⟩ = some (.int .u32 (x.arch : Nat)) ∧ V.cell? ⟨w.heap.size + 1, 1, none⟩ = some (.int .u32 (x.nr : Nat)) ∧ V.cell? ⟨w.heap.size + 1, 2, none⟩ = some (.slice co x.conds.length ccap) ∧ V.cell? ⟨w.heap.size + 1, 3, none⟩ = some (.int .u32 (x.act : Nat)))
      (first | exact ⟨c0, x0, x1, x2, x3⟩ | go_keep)
      (first
        | (refine step_append_src _ (by rfl) _ _ 22 (by rfl) W.heap.size 28 i0 (.agg #[.int .u32 0, .int .u32 0, .slice none 0 0, .int .u32 0]) 4 40 Tryd.underlying22 hi hz0 hz1 hz2 (by rfl) (by decide) u17 (k + 1) _ (by rfl) hO17.out vB (n - k) (qcells ((l.map rlQ).drop k)) (by rfl) (QAt.src_n (HBB.out.below (HB0.out.trans (HB17.out.mono HB0.out.size))) HBl.out) HOB1.out b3 b4 HB17.out.size ?_; intro u22 w22 hO hg; have hO22 := Lib.hid hO; have HB22 := Lib.hid (grown_below HB17.out hO17.out hg HB17.out.size); obtain ⟨c0, c1⟩ := pbox (kb HB22.out HP.out); obtain ⟨x0, x1, x2, x3⟩ := rbox (kb HB22.out HX.out); clear hO hg)
        | (refine step_append_src _ (by rfl) _ _ 22 (by rfl) W.heap.size 28 i0 (.agg #[.int .u32 0, .int .u32 0, .slice none 0 0, .int .u32 0]) 4 40 Tryd.underlying22 hi hz0 hz1 hz2 (by rfl) (by decide) v1 k _ (by rfl) HOv.out _ 1 (V4.cells (rlQ (x, .slice co x.conds.length ccap))) (by rfl) HSx.out (by simp [Value.oneCell']) b1 b2 hsv ?_; intro u17 w17 hO hg; have hO17 := Lib.hid hO; have HB17 := Lib.hid (grown_below HBv.out HOv.out hg hsv); obtain ⟨c0, c1⟩ := pbox (kb HB17.out HP.out); obtain ⟨x0, x1, x2, x3⟩ := rbox (kb HB17.out HX.out); clear hO hg))
  have HB9 := Lib.hid (below2 HB0.out HB22.out)
  have hz9 : w22.heap[w.heap.size + 1 + 1]? = some (poB (.slice none 0 0) 0) := kb HB22.out HZ.out
  have HK := Lib.hid (CapOk.own hO22.out)
  have hrow : w22.ownsRow W.heap.size 28 4 u22 (n + 1) (qcells ((l.take k ++ (x, .slice co x.conds.length ccap) :: l.drop k).map rlQ)) := by
    have h := hO22.out
    rw [show k + 1 + (n - k) = n + 1 by omega, ← qcells_one, ← qcells_app, ← qcells_app] at h
    rw [List.map_append, List.map_cons, List.map_take, List.map_drop]
    simpa using h
  have HRow := Lib.hid hrow
  have hgz : w.heap.size + 1 + 1 < W.heap.size := lt_of_block HZ.out
  have hlt9 : w.heap.size + 1 + 1 < w22.heap.size := lt_of_block hz9
  have hput := put_pol hz9 u22 q.dflt
  have HF : Hid (PutEnd q k x ((w22.setCell ⟨w.heap.size + 1 + 1, 0, none⟩ u22).setCell ⟨w.heap.size + 1 + 1, 1, none⟩ (.int .u32 (q.dflt : Nat))) (.returned (poV u22 q.dflt))) := Lib.hid (by
    have hbl := hput.below HB9.out (by omega : w.heap.size ≤ w.heap.size + 1 + 1)
    refine ⟨u22, ⟨l.take k ++ (x, .slice co x.conds.length ccap) :: l.drop k, ?_, ?_, ?_⟩, HK.out, rfl⟩
    · unfold putR
      rw [HLR.out, List.map_append, List.map_cons, List.map_take, List.map_drop]
    · refine QAt.own (own_put HRow.out hput hgz) ?_
      rw [List.length_map, List.length_append, List.length_cons, List.length_take, List.length_drop]
      have := HN.out
      rw [HLR.out, List.length_map] at this
      omega
    · intro p hp
      rcases List.mem_append.1 hp with hp | hp
      · exact (HCS.out p (List.mem_of_mem_take hp)).below hbl
      · rcases List.mem_cons.1 hp with rfl | hp
        · exact HCX.out.below hbl
        · exact (HCS.out p (List.mem_of_mem_drop hp)).below hbl)
  have r0 := cell_in hz9 0
  have r1 := cell_in hz9 1
  have f0 := free_in hz9 0
  have f1 := free_in hz9 1
  obtain ⟨a22, c22, rfl⟩ := own_shape hO22.out
  clear hput hrow hz9 x0 x1 x2 x3 hO22 hO17
  go_wp2_with fail
  (try simp only [Exit.inBlock, Exit.then])
  rw [HQ0.out]
  refine bodyPost_ret (v := poV (.slice a22 (k + 1 + (n - k)) c22) q.dflt) ?_ rfl ⟨HF.out, ?_⟩
  · rw [eresults_one rfl]
    go_simp
  · have hB := HB9.out
    go_grown
end Go.Proofs.YtbhondjfilohdaaDoor
/-
  A line's words, each with a space behind it, plainly: what is taken of them, and what they say. What a round of a range over a text passes by.
-/
namespace Go.Proofs.YtbhondjfilohdaaDoor
open Go.RowKit
set_option maxRecDepth 20000

/-! ### Runes -/
theorem decode_32 (s : ByteArray) (k : Nat) (h : k < s.size) (h32 : (s[k]'h).toNat = 32) : Utf8.decode s k = (32, 1) := by
  rw [decode_ascii s k h (by omega), h32]
theorem decode_not (s : ByteArray) (k : Nat) (h : k < s.size) (h32 : (s[k]'h).toNat ≠ 32) : (Utf8.decode s k).1 ≠ 32 := by
  by_cases ha : (s[k]'h).toNat < 128
  · rw [decode_ascii s k h ha]
    exact h32
  · have := (decode_high s k h (by omega)).1
    omega
theorem decode_pos (s : ByteArray) (k : Nat) (h : k < s.size) : 1 ≤ (Utf8.decode s k).2 := by
  by_cases ha : (s[k]'h).toNat < 128
  · rw [decode_ascii s k h ha]
    exact Nat.le_refl _
  · exact (decode_high s k h (by omega)).2
theorem get_in (s : ByteArray) (k : Nat) (h : k < s.size) : s.get! k = s[k]'h := by
  have := get_at s k h
  simpa using this
/-- A rune ends ahead of the next space. -/
theorem decode_upto (s : ByteArray) (i k : Nat) (hk : k < s.size) (hik : i < k) (h32 : (s[k]'hk).toNat = 32) : i + (Utf8.decode s i).2 ≤ k := by
  have hg : (s.get! k).toNat = 32 := by rw [get_in s k hk, h32]
  obtain ⟨j, rfl⟩ : ∃ j, k = i + j := ⟨k - i, by omega⟩
  have hw : (Utf8.decode s i).2 ≤ j := by
    by_cases j1 : j = 1
    · subst j1
      simp only [Utf8.decode, hg]
      repeat' split
      all_goals simp_all
    · by_cases j2 : j = 2
      · subst j2
        simp only [Utf8.decode, hg]
        repeat' split
        all_goals simp_all
      · by_cases j3 : j = 3
        · subst j3
          simp only [Utf8.decode, hg]
          repeat' split
          all_goals simp_all
        · simp only [Utf8.decode]
          repeat' split
          all_goals (show _ ≤ _; simp; omega)
  omega
/-! ### Words with a space behind each -/
def restT (ws : List (List UInt8)) : List UInt8 := ws.flatMap (· ++ [32])
def freeW (ws : List (List UInt8)) : Prop := ∀ p ∈ ws, ∀ c ∈ p, c ≠ 32
theorem restT_cons (p : List UInt8) (ws : List (List UInt8)) : restT (p :: ws) = p ++ 32 :: restT ws := by simp [restT]
theorem restT_join : ∀ (ws : List (List UInt8)), ws ≠ [] → restT ws = Ip.join ws ++ [32]
  | [], h => absurd rfl h
  | [x], _ => by simp [restT, Ip.join]
  | x :: y :: l, _ => by
    rw [restT_cons, restT_join (y :: l) (by simp)]
    show _ = (x ++ 32 :: Ip.join (y :: l)) ++ [32]
    simp
theorem restT_line (p : List UInt8) : p ++ [32] = restT (Ip.cutAll 32 [] p) := by
  rw [restT_join _ (Ip.cutAll_ne 32 p []), Ip.join_cutAll]
  simp
theorem cutAll_free (m : UInt8) (l : List UInt8) : ∀ cur, (∀ c ∈ cur, c ≠ m) → ∀ y ∈ Ip.cutAll m cur l, ∀ c ∈ y, c ≠ m := by
  induction l with
  | nil =>
    intro cur h y hy
    simp [Ip.cutAll] at hy
    subst hy
    exact h
  | cons c l ih =>
    intro cur h y hy
    rw [Ip.cutAll] at hy
    split at hy
    · rcases List.mem_cons.1 hy with rfl | hy
      · exact h
      · exact ih [] (by simp) y hy
    · rename_i hc
      refine ih (cur ++ [c]) ?_ y hy
      intro d hd
      rcases List.mem_append.1 hd with hd | hd
      · exact h d hd
      · rw [List.mem_singleton.1 hd]
        exact hc
theorem freeW_cut (p : List UInt8) : freeW (Ip.cutAll 32 [] p) := cutAll_free 32 p [] (by simp)
theorem freeW_drop {ws : List (List UInt8)} (h : freeW ws) (k : Nat) : freeW (ws.drop k) := fun p hp => h p (List.mem_of_mem_drop hp)
theorem freeW_take {ws : List (List UInt8)} (h : freeW ws) (k : Nat) : freeW (ws.take k) := fun p hp => h p (List.mem_of_mem_take hp)
theorem restT_drop_le (ws : List (List UInt8)) : ∀ (k : Nat), (restT (ws.drop k)).length ≤ (restT ws).length := by
  induction ws with
  | nil => intro k; simp [restT]
  | cons p l ih =>
    intro k
    cases k with
    | zero => simp
    | succ k =>
      rw [List.drop_succ_cons, restT_cons]
      have := ih k
      simp
      omega
theorem join_take_le (ws : List (List UInt8)) : ∀ (k : Nat), (Ip.join (ws.take k)).length ≤ (restT ws).length := by
  intro k
  by_cases h : ws.take k = []
  · rw [h]
    simp [Ip.join]
  · have e := congrArg List.length (restT_join _ h)
    have : (restT (ws.take k)).length ≤ (restT ws).length := by
      clear e h
      induction ws generalizing k with
      | nil => simp [restT]
      | cons p l ih =>
        cases k with
        | zero => simp [restT]
        | succ k =>
          rw [List.take_succ_cons, restT_cons, restT_cons]
          have := ih k
          simp
          omega
    rw [List.length_append] at e
    simp at e
    omega
theorem join_lib : ∀ (ws : List (List UInt8)), Lib.join ws [32] = Ip.join ws
  | [] => rfl
  | [x] => by rw [Lib.join_one]; rfl
  | x :: y :: l => by
    rw [Lib.join_cons]
    have h := join_lib (y :: l)
    rw [Lib.join_cons] at h
    show _ = x ++ 32 :: Ip.join (y :: l)
    rw [← h]
    simp [Lib.joinTail]
theorem word_at {ws : List (List UInt8)} {p : List UInt8} {l : List (List UInt8)} {k : Nat} (h : ws.drop k = p :: l) : ws.take (k + 1) = ws.take k ++ [p] ∧ ws.drop (k + 1) = l := by
  have hk : k < ws.length := by
    apply Nat.lt_of_not_le
    intro hle
    rw [List.drop_eq_nil_of_le hle] at h
    cases h
  have e := List.drop_eq_getElem_cons hk
  rw [h] at e
  simp only [List.cons.injEq] at e
  obtain ⟨rfl, rfl⟩ := e
  exact ⟨by rw [List.take_succ_eq_append_getElem hk], rfl⟩
/-! ### What a rule's words say of its conditions -/
theorem condsW_app : ∀ (k : Nat) (cs : List Cd) (c : Cd), condsW k (cs ++ [c]) = condsW k cs ++ condW (k + cs.length) c
  | k, [], c => by simp [condsW]
  | k, d :: cs, c => by
    rw [List.cons_append, condsW, condsW, condsW_app (k + 1) cs c, List.append_assoc, List.length_cons, show k + 1 + cs.length = k + (cs.length + 1) by omega]
def textW (c : Cd) : List (List UInt8) := [argW c.arg, numT c.mask, cmpW c.cmp, numT c.value]
theorem condW_eq (k : Nat) (c : Cd) : condW k c = glue k :: textW c := rfl
theorem textW_join (c : Cd) : Ip.join (textW c) = textQ c := by
  show argW c.arg ++ 32 :: (numT c.mask ++ 32 :: (cmpW c.cmp ++ 32 :: numT c.value)) = textQ c
  rfl
theorem textW_free {c : Cd} (h : c.right = true) : freeW (textW c) := by
  obtain ⟨a0, a5, _, _⟩ := (c.right_iff).1 h
  intro p hp d hd
  have : free2 p := by
    unfold textW at hp
    simp only [List.mem_cons, List.not_mem_nil, or_false] at hp
    rcases hp with rfl | rfl | rfl | rfl
    · exact free_arg a0 a5
    · exact free_num _
    · exact free_cmp _
    · exact free_num _
  exact (this d hd).1
/-- Words that are a condition's text when they are joined. -/
theorem words_cond {l : List (List UInt8)} (hf : freeW l) {c : Cd} (hc : c.right = true) (h : Ip.join (l.take 4) = textQ c) : l = textW c ++ l.drop 4 := by
  have hne : l.take 4 ≠ [] := by
    intro e
    rw [e] at h
    have := congrArg List.length h
    simp [Ip.join, textQ, argW] at this
  have e1 := Ip.cutAll_join (l.take 4) hne (freeW_take hf 4)
  have e2 := Ip.cutAll_join (textW c) (by simp [textW]) (textW_free hc)
  rw [textW_join, ← h, e1] at e2
  rw [← e2, List.take_append_drop]
theorem condsW_pre : ∀ (k : Nat) (cs ds : List Cd) (l : List (List UInt8)), (∀ c ∈ cs, c.right = true) → (∀ c ∈ ds, c.right = true) → condsW k cs ++ l = condsW k ds → ∃ es, ds = cs ++ es ∧ l = condsW (k + cs.length) es
  | k, [], ds, l, _, _, h => ⟨ds, rfl, h⟩
  | k, c :: cs, [], l, _, _, h => by simp [condsW, condW] at h
  | k, c :: cs, d :: ds, l, hc, hd, h => by
    obtain ⟨a0, a5, k0, k5⟩ := (c.right_iff).1 (hc c (by simp))
    obtain ⟨b0, b5, j0, j5⟩ := (d.right_iff).1 (hd d (by simp))
    unfold condsW condW at h
    simp only [List.cons_append, List.nil_append, List.cons.injEq, true_and] at h
    obtain ⟨h1, h2, h3, h4, h5⟩ := h
    obtain ⟨es, rfl, e⟩ := condsW_pre (k + 1) cs ds l (fun x hx => hc x (by simp [hx])) (fun x hx => hd x (by simp [hx])) h5
    have e1 := argW_inj a0 a5 b0 b5 h1
    have e3 := cmpW_inj k0 k5 j0 j5 h3
    have e2 := numT_inj h2
    have e4 := numT_inj h4
    refine ⟨es, ?_, ?_⟩
    · obtain ⟨_, _, _, _⟩ := c
      obtain ⟨_, _, _, _⟩ := d
      simp_all
    · rw [e]
      congr 1
      simp
      omega
/-- These words are no conditions'. -/
def noConds (ws : List (List UInt8)) : Prop := ∀ ds : List Cd, ds.length ≤ 4 → (∀ c ∈ ds, c.ok ∧ c.right = true) → ws ≠ condsW 0 ds
section
variable {ws l : List (List UInt8)} {cs : List Cd}
theorem noConds_of (h : ws = condsW 0 cs ++ l) (hcs : ∀ c ∈ cs, c.ok ∧ c.right = true) (hno : ∀ es : List Cd, cs.length + es.length ≤ 4 → (∀ c ∈ es, c.ok ∧ c.right = true) → l ≠ condsW cs.length es) : noConds ws := by
  intro ds hl hds e
  rw [h] at e
  obtain ⟨es, rfl, e2⟩ := condsW_pre 0 cs ds l (fun c hc => (hcs c hc).2) (fun c hc => (hds c hc).2) e
  rw [Nat.zero_add] at e2
  exact hno es (by simpa using hl) (fun c hc => hds c (by simp [hc])) e2
theorem noConds_many (h : ws = condsW 0 cs ++ l) (hcs : ∀ c ∈ cs, c.ok ∧ c.right = true) (hl : l ≠ []) (h4 : cs.length = 4) : noConds ws :=
  noConds_of h hcs fun es hes _ e => by
    have : es = [] := List.length_eq_zero_iff.1 (by omega)
    subst this
    exact hl e
theorem noConds_word (h : ws = condsW 0 cs ++ l) (hcs : ∀ c ∈ cs, c.ok ∧ c.right = true) {p : List UInt8} {m : List (List UInt8)} (hl : l = p :: m) (hp : p ≠ glue cs.length) : noConds ws :=
  noConds_of h hcs fun es _ _ e => by
    cases es with
    | nil => rw [hl] at e; cases e
    | cons d es =>
      rw [hl] at e
      simp only [condsW, condW, List.cons_append, List.cons.injEq] at e
      exact hp e.1
theorem noConds_text (h : ws = condsW 0 cs ++ l) (hcs : ∀ c ∈ cs, c.ok ∧ c.right = true) {p : List UInt8} {m : List (List UInt8)} (hl : l = p :: m) (hp : ∀ c : Cd, c.ok → c.right = true → Ip.join (m.take 4) ≠ textQ c) : noConds ws :=
  noConds_of h hcs fun es _ hes e => by
    cases es with
    | nil => rw [hl] at e; cases e
    | cons d es =>
      rw [hl] at e
      rw [condsW, condW_eq, List.cons_append, List.cons.injEq] at e
      have hd := hes d (by simp)
      refine hp d hd.1 hd.2 ?_
      rw [e.2]
      show Ip.join (textW d) = _
      exact textW_join d
theorem conds_more (h : ws = condsW 0 cs ++ l) (hf : freeW l) {p : List UInt8} {m : List (List UInt8)} (hl : l = p :: m) (hp : p = glue cs.length) {c : Cd} (hc : c.right = true) (ht : Ip.join (m.take 4) = textQ c) :
    ws = condsW 0 (cs ++ [c]) ++ m.drop 4 := by
  have e := words_cond (l := m) (fun q hq => hf q (by rw [hl]; simp [hq])) hc ht
  rw [h, hl, condsW_app, Nat.zero_add, condW_eq, hp, List.append_assoc, List.cons_append]
  congr 2
end
/-! ### Rules and defaults -/
theorem lineL_words {p : List UInt8} {x : Rl} (hx : x.right = true) : p = lineL x ↔ Ip.cutAll 32 [] p = wordsR x := by
  constructor
  · rintro rfl
    exact cut_line hx
  · intro h
    have := Ip.join_cutAll p []
    rw [h] at this
    exact this.symm
theorem lineD_words {p : List UInt8} {v : Nat} : p = lineD v ↔ Ip.cutAll 32 [] p = defW v := by
  constructor
  · rintro rfl
    exact cut_def v
  · intro h
    have := Ip.join_cutAll p []
    rw [h] at this
    exact this.symm
/-- The word at a place, as it is taken: nothing where there is none. -/
def wordN (ws : List (List UInt8)) (k : Nat) : List UInt8 := Ip.join ((ws.drop k).take 1)
theorem wordN_some {ws : List (List UInt8)} {k : Nat} (h : wordN ws k ≠ []) : ws.drop k = wordN ws k :: ws.drop (k + 1) := by
  cases e : ws.drop k with
  | nil =>
    unfold wordN at h
    rw [e] at h
    exact absurd rfl h
  | cons p l =>
    unfold wordN
    rw [e, (word_at e).2]
    rfl
def tblFull (T : Tbl) : Bool := T.all fun p => !(bl p.1).isEmpty
theorem textN_ne {T : Tbl} (h : tblFull T = true) (n : Nat) : bl (textN T n) ≠ [] := by
  rcases textN_is T n with ⟨p, hp, _, e⟩ | ⟨_, e⟩
  · rw [e]
    unfold tblFull at h
    rw [List.all_eq_true] at h
    simpa using h p hp
  · rw [e]
    show numT n ≠ []
    simp [numT]
theorem machT_full : tblFull machT = true := by decide
theorem callT_full (a : Nat) : tblFull (callT a) = true := by
  unfold callT
  split
  · decide
  split
  · decide
  split
  · decide
  split
  · decide
  rfl
theorem act_ne {v : Nat} (h : (actT v).isSome = true) : bl (actB v) ≠ [] := by
  unfold actB
  cases hv : actT v with
  | none => rw [hv] at h; cases h
  | some s =>
    show bl s ≠ []
    rcases actT_some hv with ⟨n, _, _, rfl⟩ | ⟨_, rfl⟩ | ⟨_, rfl⟩ | ⟨_, rfl⟩ | ⟨_, rfl⟩
    · unfold bl
      rw [err_list]
      simp
    all_goals simp [bl]; try decide
section
variable {p : List UInt8} {ws : List (List UInt8)}
theorem rule_of (hw : ws = Ip.cutAll 32 [] p) {a n v : Nat} {cs : List Cd} (h0 : wordN ws 0 = wOn) (h1 : wordN ws 1 = bl (textN machT a)) (h2 : wordN ws 2 = bl (textN (callT a) n)) (h3 : wordN ws 3 = bl (actB v)) (hv : (actT v).isSome = true) (hc : ws.drop 4 = condsW 0 cs) (h4 : cs.length ≤ 4) (hcs : ∀ c ∈ cs, c.right = true) : p = lineL ⟨a, n, v, cs⟩ := by
  have e0 := wordN_some (ws := ws) (k := 0) (by rw [h0]; decide)
  have e1 := wordN_some (ws := ws) (k := 1) (by rw [h1]; exact textN_ne machT_full _)
  have e2 := wordN_some (ws := ws) (k := 2) (by rw [h2]; exact textN_ne (callT_full _) _)
  have e3 := wordN_some (ws := ws) (k := 3) (by rw [h3]; exact act_ne hv)
  rw [List.drop_zero, h0] at e0
  rw [h1] at e1
  rw [h2] at e2
  rw [h3] at e3
  refine (lineL_words (x := ⟨a, n, v, cs⟩) (rl_right h4 hv hcs)).2 ?_
  rw [← hw, e0]
  show wOn :: ws.drop 1 = _
  rw [e1]
  show wOn :: _ :: ws.drop 2 = _
  rw [e2]
  show wOn :: _ :: _ :: ws.drop 3 = _
  rw [e3]
  show wOn :: _ :: _ :: _ :: ws.drop 4 = _
  rw [hc]
  rfl
theorem rule_no (hw : ws = Ip.cutAll 32 [] p) {x : Rl} (hx : x.right = true) (h : p = lineL x) : wordN ws 0 = wOn ∧ wordN ws 1 = bl (textN machT x.arch) ∧ wordN ws 2 = bl (textN (callT x.arch) x.nr) ∧ wordN ws 3 = bl (actB x.act) ∧ ws.drop 4 = condsW 0 x.conds := by
  have e := (lineL_words hx).1 h
  rw [← hw] at e
  rw [e]
  exact ⟨rfl, rfl, rfl, rfl, rfl⟩
theorem def_is (hw : ws = Ip.cutAll 32 [] p) {v : Nat} (h0 : wordN ws 0 = wDefault) (h1 : wordN ws 1 = bl (actB v)) (hv : (actT v).isSome = true) (h2 : ws.drop 2 = []) : p = lineD v := by
  have e0 := wordN_some (ws := ws) (k := 0) (by rw [h0]; decide)
  have e1 := wordN_some (ws := ws) (k := 1) (by rw [h1]; exact act_ne hv)
  rw [List.drop_zero, h0] at e0
  rw [h1] at e1
  refine lineD_words.2 ?_
  rw [← hw, e0]
  show wDefault :: ws.drop 1 = _
  rw [e1]
  show wDefault :: _ :: ws.drop 2 = _
  rw [h2]
  rfl
theorem def_no (hw : ws = Ip.cutAll 32 [] p) {v : Nat} (h : p = lineD v) : wordN ws 0 = wDefault ∧ wordN ws 1 = bl (actB v) ∧ ws.drop 2 = [] := by
  have e := lineD_words.1 h
  rw [← hw] at e
  rw [e]
  exact ⟨rfl, rfl, rfl⟩
end
end Go.Proofs.YtbhondjfilohdaaDoor
/-
  Package policy: a reader's words: take, more, wordsOf; strings.Join of any texts.
-/
namespace Go.Proofs.YtbhondjfilohdaaDoor
open Go.ChangeShapes Go.WideShapes Go.ChangeAt Go.RowKit
set_option maxRecDepth 20000

/-- Below block B nothing else than block g has changed. -/
structure OwnAt (B : Nat) (w w' : World) (g : Nat) (o : Obj) : Prop where
  os : w'.os = w.os
  tape : w'.tape = w.tape
  output : w'.output = w.output
  size : w.heap.size ≤ w'.heap.size
  row : w'.heap[g]? = some o
  rest : ∀ k, k ≠ g → k < B → w'.heap[k]? = w.heap[k]?
section
variable {B g : Nat} {w w' w'' : World} {o o' : Obj}
theorem OwnAt.refl (h : w.heap[g]? = some o) : OwnAt B w w g o := ⟨rfl, rfl, rfl, Nat.le_refl _, h, fun _ _ _ => rfl⟩
theorem OwnAt.then {B' : Nat} (h : OwnAt B w w' g o) (hb : Below B' w' w'') (hB : B ≤ B') (hg : g < B') : OwnAt B w w'' g o :=
  ⟨hb.os.trans h.os, hb.tape.trans h.tape, hb.output.trans h.output, Nat.le_trans h.size hb.size, (hb.block g hg).trans h.row, fun k hk hkB => (hb.block k (by omega)).trans (h.rest k hk hkB)⟩
theorem OwnAt.next (h : OwnAt B w w' g o) (hb : Below w'.heap.size w' w'') (hB : B ≤ w.heap.size) : OwnAt B w w'' g o :=
  h.then hb (Nat.le_trans hB h.size) (lt_of_block h.row)
theorem OwnAt.put (h : OwnAt B w w' g o) (hp : RowPut w' w'' g o') : OwnAt B w w'' g o' :=
  ⟨hp.os.trans h.os, hp.tape.trans h.tape, hp.output.trans h.output, by rw [hp.size]; exact h.size, hp.row, fun k hk hkB => (hp.rest k hk).trans (h.rest k hk hkB)⟩
theorem OwnAt.trans {B' : Nat} (h : OwnAt B w w' g o) (h' : OwnAt B' w' w'' g o') (hB : B ≤ B') : OwnAt B w w'' g o' :=
  ⟨h'.os.trans h.os, h'.tape.trans h.tape, h'.output.trans h.output, Nat.le_trans h.size h'.size, h'.row, fun k hk hkB => (h'.rest k hk (by omega)).trans (h.rest k hk hkB)⟩
theorem OwnAt.below {a : World} {C : Nat} (h : OwnAt B w w' g o) (hb : Below C a w) (hC : C ≤ B) (hg : C ≤ g) : Below C a w' :=
  ⟨h.os.trans hb.os, h.tape.trans hb.tape, h.output.trans hb.output, Nat.le_trans hb.size h.size, fun k hk => (h.rest k (by omega) (by omega)).trans (hb.block k hk)⟩
theorem OwnAt.keep {k : Nat} {x : Obj} (h : OwnAt B w w' g o) (hk : k ≠ g) (hkB : k < B) (ho : w.heap[k]? = some x) : w'.heap[k]? = some x := (h.rest k hk hkB).trans ho
theorem OwnAt.own {base size n : Nat} {e : TypeId} {v : Value} {xs : List Value} (h : OwnAt B w w' g o) (hw : w.ownsRow base e size v n xs) (hg : g < base) (hB : w.heap.size ≤ B) : w'.ownsRow base e size v n xs := by
  obtain ⟨h1, h2⟩ := hw
  refine ⟨h1, h2.imp id ?_⟩
  rintro ⟨k, cap, cur, hv, hk, hh, r⟩
  exact ⟨k, cap, cur, hv, hk, h.keep (by omega) (Nat.lt_of_lt_of_le (lt_of_block hh) hB) hh, r⟩
theorem OwnAt.grown {base size n : Nat} {e : TypeId} {v : Value} {xs : List Value} (h : OwnAt B w w' g o) (hw : w'.ownsRow base e size v n xs) (hgr : w'.grownBy w'' v.ownBlock) (hB : B ≤ w'.heap.size) (hb : B ≤ base) (hg : g < base) : OwnAt B w w'' g o := by
  have hlt := hw.lt
  have hgs := lt_of_block h.row
  refine ⟨hgr.os.trans h.os, hgr.tape.trans h.tape, hgr.output.trans h.output, Nat.le_trans h.size hgr.size, (hgr.block g hgs (fun e => ?_)).trans h.row, fun k hk hkB => (hgr.block k (by omega) (fun e => ?_)).trans (h.rest k hk hkB)⟩
  · have := (hlt g e.symm).1
    omega
  · have := (hlt k e.symm).1
    omega
end
/-! ### strings.Join of the texts of a row of the call's own -/
theorem strJoin_own (base n : Nat) (v : Value) (xs : List (List UInt8)) (m : UInt8) (w : World) (hw : w.ownsRow base 9 1 v n (strs xs)) (hn : xs.length = n) (hN : n ≤ 140737488355328) (hlen : (Lib.join xs [m]).length ≤ 140737488355328) :
    Calls Tryd.prog 55 #[v, .string ⟨#[m]⟩] w fun e w' => e = .returned (.string (bsT (Lib.join xs [m]))) ∧ Below w.heap.size w w' := by
  subst hn
  rcases hw.2 with ⟨rfl, h0⟩ | ⟨g, cap, cur, rfl, _, hg, hc, _, _, ht⟩
  · obtain rfl := List.length_eq_zero_iff.1 h0
    go_enter Tryd.func55, Tryd.ntmps55
    go_wp2_with fail
    go_ret
    exact ⟨rfl, Below.refl _ _⟩
  · have hcell : ∀ i (h : i < xs.length), w.cell? ⟨g, i, none⟩ = some (.string ⟨xs[i].toArray⟩) := fun i hi => by
      rw [cell_in hg, ← Array.getElem?_toList]
      have hu : (strs xs)[i]? = some (.string ⟨xs[i].toArray⟩) := by simp [hi]
      rw [← ht, List.getElem?_take, if_pos (by omega)] at hu
      exact hu
    match xs, hcell, hN, hlen, hc with
    | [], _, _, _, _ =>
      go_enter Tryd.func55, Tryd.ntmps55
      go_wp2_with fail
      go_ret
      exact ⟨rfl, Below.refl _ _⟩
    | [x], hcell, _, _, _ =>
      have h0 : w.cell? ⟨g, 0, none⟩ = some (.string ⟨x.toArray⟩) := hcell 0 (by simp)
      have HE : Hid ((⟨x.toArray⟩ : ByteArray) = bsT (Lib.join [x] [m])) := Lib.hid (by rw [Lib.join_one])
      clear hcell
      generalize (⟨x.toArray⟩ : ByteArray) = X at *
      rw [← HE.out]
      go_enter Tryd.func55, Tryd.ntmps55
      go_wp2_with fail
      go_ret
      exact ⟨rfl, Below.refl _ _⟩
    | x :: y :: l, hcell, hN, hlen, hc =>
      refine strJoin_any g 0 cap (x :: y :: l) m w (fun j z hz => ?_) (lt_of_block hg) (by simp) hN hc hlen
      rw [Nat.zero_add]
      have hj := (List.getElem?_eq_some_iff.1 hz)
      obtain ⟨hj1, rfl⟩ := hj
      exact hcell j hj1
/-! ### A reader -/
abbrev rdB (l : List UInt8) : Obj := .cells #[.string (bsT l)] 78
theorem iter_below {w : World} {S : ByteArray} {pos : Nat} : Below w.heap.size w (w.iter S pos) := ba _ (Below.refl _ _)
theorem rest_head (p r : List UInt8) : (bsT (p ++ 32 :: r)).extract 0 p.length = bsT p ∧ (bsT (p ++ 32 :: r)).extract (p.length + 1) (bsT (p ++ 32 :: r)).size = bsT r := by
  constructor
  · rw [take_str]
    simp
  · rw [drop_str]
    show bsT ((p ++ 32 :: r).drop (p.length + 1)) = bsT r
    rw [← List.drop_drop, List.drop_left]
    rfl
theorem rest_at (p r : List UInt8) (hf : ∀ c ∈ p, c ≠ 32) (S : ByteArray) (hS : S = bsT (p ++ 32 :: r)) : S.size = p.length + 1 + r.length ∧ Utf8.decode S p.length = (32, 1) ∧ ∀ pos, pos < p.length → (Utf8.decode S pos).1 ≠ 32 ∧ 1 ≤ (Utf8.decode S pos).2 ∧ pos + (Utf8.decode S pos).2 ≤ p.length := by
  have hz : S.size = p.length + 1 + r.length := by
    rw [hS]
    show (p ++ 32 :: r).length = _
    simp
    omega
  have hb : ∀ (i : Nat) (h : i < S.size), S[i]'h = (p ++ 32 :: r)[i]'(by simp; omega) := by
    subst hS
    intro i h
    rfl
  have h32 : (S[p.length]'(by omega)).toNat = 32 := by
    rw [hb]
    simp
  refine ⟨hz, decode_32 S _ (by omega) h32, fun pos hp => ⟨?_, decode_pos S pos (by omega), decode_upto S pos p.length (by omega) hp h32⟩⟩
  refine decode_not S pos (by omega) fun e => ?_
  rw [hb, List.getElem_append_left hp] at e
  exact hf _ (List.getElem_mem hp) (UInt8.toNat_inj.1 e)
set_option maxHeartbeats 8000000 in
/-- The next words, as one text. -/
theorem take_any (g n : Nat) (ws : List (List UInt8)) (w : World) (hg : w.heap[g]? = some (rdB (restT ws))) (hf : freeW ws) (hz : (restT ws).length ≤ 100000) (hn : n ≤ 4) :
    Calls Tryd.prog 37 #[.pointer (some ⟨g, 0, none⟩), .int .i64 (n : Nat)] w fun e w' => e = .returned (.string (bsT (Ip.join (ws.take n)))) ∧ OwnAt w.heap.size w w' g (rdB (restT (ws.drop n))) := by
  obtain ⟨i0, hi, hz0, hz1, hz2⟩ := info_parts infoS
  have hglt := lt_of_block hg
  have HF := Lib.hid hf
  have HZ := Lib.hid hz
  have HO0 : Hid (w.ownsRow w.heap.size 9 1 (.slice none 0 0) 0 (strs (ws.take 0))) := Lib.hid (World.ownsRow_nil _ _ _ _)
  have HA0 : Hid (OwnAt w.heap.size w w g (rdB (restT (ws.drop 0)))) := Lib.hid (OwnAt.refl (by rw [List.drop_zero]; exact hg))
  have HJL : Hid (∀ j, (Lib.join (ws.take j) [32]).length ≤ 140737488355328) := Lib.hid fun j => by
    rw [join_lib]
    have := join_take_le ws j
    omega
  clear hf hg hz
  go_enter Tryd.func37, Tryd.ntmps37
  go_wp2_with fail
  go_step3
  go_wp2_with fail
  go_step3
  go_wp2_with fail
  go_loopg [5] (n + 1) (fun k v wr => ∃ j : Nat, j + k = n + 1 ∧ j ≤ n ∧ j ≤ ws.length ∧ Hid (wr.ownsRow w.heap.size 9 1 v j (strs (ws.take j))) ∧ Hid (OwnAt w.heap.size w wr g (rdB (restT (ws.drop j)))))
  case atStart => exact ⟨0, by omega, Nat.zero_le _, Nat.zero_le _, HO0, HA0⟩
  case round =>
    obtain ⟨j, hjk, hjn, hjl, HO, HA⟩ := hrel
    clear HO0 HA0
    have HJ : Hid (Calls Tryd.prog 55 #[u5, .string ⟨#[32]⟩] wr fun e w' => e = .returned (.string (bsT (Lib.join (ws.take j) [32]))) ∧ Below wr.heap.size wr w') :=
      Lib.hid (strJoin_own w.heap.size j u5 (ws.take j) 32 wr HO.out (by rw [List.length_take]; omega) (by omega) (HJL.out j))
    obtain ⟨ao, cap, rfl⟩ := own_shape HO.out
    have hws : w.heap.size ≤ wr.heap.size := HA.out.size
    by_cases hjlt : j < n
    case neg =>
      obtain rfl : j = n := by omega
      have hb : ¬ ((j : Int) < (j : Int)) := by omega
      go_wp2_with fail
      refine HJ.out.mono ?_
      rintro e w2 ⟨rfl, hb2⟩
      have HA2 := Lib.hid (HA.out.next hb2 (Nat.le_refl _))
      clear hb2
      go_wp2_with fail
      (try rw [Exit.noGoto_ret])
      go_ret
      exact ⟨by rw [join_lib]; rfl, HA2.out⟩
    have hlt : (j : Int) < (n : Int) := by omega
    cases hd : ws.drop j with
    | nil =>
      have hje : ws.length ≤ j := List.drop_eq_nil_iff.1 hd
      have HT : Hid (ws.take n = ws.take j) := Lib.hid (by rw [List.take_of_length_le hje, List.take_of_length_le (by omega)])
      have HD : Hid (ws.drop n = ws.drop j) := Lib.hid (by rw [List.drop_eq_nil_of_le hje, List.drop_eq_nil_of_le (by omega)])
      have c0 : wr.cell? ⟨g, 0, none⟩ = some (.string ⟨#[]⟩) := by
        rw [cell_in HA.out.row 0, hd]
        rfl
      clear hd hje
      go_wp2_with fail
      go_loopg [5] 0 (fun k v wv => v = .slice ao j cap ∧ wv = wr.iter ⟨#[]⟩ 0)
      case atStart => exact ⟨rfl, rfl⟩
      case round =>
        obtain ⟨rfl, rfl⟩ := hrel
        have hnx : ∀ ty, (Instr.next (.pointer (some ⟨wr.heap.size, 0, none⟩)) true ty).run Tryd.prog (wr.iter ⟨#[]⟩ 0) = _ := fun ty => run_next_end wr ⟨#[]⟩ 0 ty (by decide)
        have HJ2 : Hid (Calls Tryd.prog 55 #[.slice ao j cap, .string ⟨#[32]⟩] (wr.iter ⟨#[]⟩ 0) fun e w' => e = .returned (.string (bsT (Lib.join (ws.take j) [32]))) ∧ Below (wr.iter ⟨#[]⟩ 0).heap.size (wr.iter ⟨#[]⟩ 0) w') :=
          Lib.hid (strJoin_own w.heap.size j _ (ws.take j) 32 _ (own_below HO.out iter_below) (by rw [List.length_take]; omega) (by omega) (HJL.out j))
        have HA3 : Hid (OwnAt w.heap.size w (wr.iter ⟨#[]⟩ 0) g (rdB (restT (ws.drop j)))) := Lib.hid (HA.out.next iter_below (Nat.le_refl _))
        go_wp2_with fail
        refine HJ2.out.mono ?_
        rintro e w2 ⟨rfl, hb2⟩
        have HA2 := Lib.hid (HA3.out.next hb2 (Nat.le_refl _))
        clear hb2
        go_wp2_with fail
        (try rw [Exit.noGoto_ret])
        go_ret
        exact ⟨by rw [join_lib, HT.out]; rfl, by rw [HD.out]; exact HA2.out⟩
    | cons p l =>
      obtain ⟨htk, hdr⟩ := word_at hd
      have hpf : ∀ c ∈ p, c ≠ 32 := HF.out p (List.mem_of_mem_drop (i := j) (by rw [hd]; simp))
      have hlj : j < ws.length := by
        apply Nat.lt_of_not_le
        intro hle
        rw [List.drop_eq_nil_of_le hle] at hd
        cases hd
      obtain ⟨S, hSe⟩ : ∃ S : ByteArray, S = bsT (p ++ 32 :: restT l) := ⟨_, rfl⟩
      obtain ⟨hSz, hS1, hS2⟩ := rest_at p (restT l) hpf S hSe
      have c0 : wr.cell? ⟨g, 0, none⟩ = some (.string S) := by
        rw [cell_in HA.out.row 0, hd, restT_cons, hSe]
        rfl
      obtain ⟨he1, he2⟩ := rest_head p (restT l)
      rw [← hSe] at he1 he2
      have HN : Hid (∀ pos, pos < p.length → (Utf8.decode S pos).1 ≠ 32 ∧ 1 ≤ (Utf8.decode S pos).2 ∧ pos + (Utf8.decode S pos).2 ≤ p.length) := Lib.hid hS2
      have HP := Lib.hid hS1
      have HSE : Hid (bsT (restT (ws.drop j)) = S) := Lib.hid (by rw [hd, restT_cons, hSe])
      have HE1 := Lib.hid he1
      have HE2 := Lib.hid he2
      have HTK := Lib.hid htk
      have HDR := Lib.hid hdr
      have hzl : S.size ≤ 100001 := by
        have h1 := restT_drop_le ws j
        have h2 := HZ.out
        rw [hd, restT_cons, List.length_append, List.length_cons] at h1
        omega
      have hSz1 : p.length + 1 ≤ S.size := by omega
      clear hSe hS1 hS2 he1 he2 htk hdr hpf hd hSz
      go_wp2_with fail
      go_loopg [5] (p.length + 1) (fun k v wv => ∃ pos : Nat, pos ≤ p.length ∧ p.length + 1 ≤ k + pos ∧ v = .slice ao j cap ∧ wv = wr.iter S pos)
      case atStart => exact ⟨0, Nat.zero_le _, by omega, rfl, rfl⟩
      case round =>
        obtain ⟨pos, hp1, hp2, rfl, rfl⟩ := hrel
        by_cases hpl : pos < p.length
        · obtain ⟨hd1, hd2, hd3⟩ := HN.out pos hpl
          have hnx : ∀ ty, (Instr.next (.pointer (some ⟨wr.heap.size, 0, none⟩)) true ty).run Tryd.prog (wr.iter S pos) = _ := fun ty => run_next_any wr S pos ty (by omega)
          obtain ⟨D, hD⟩ : ∃ D, D = Utf8.decode S pos := ⟨_, rfl⟩
          rw [← hD] at hnx hd1 hd2 hd3
          obtain ⟨D1, D2⟩ := D
          simp only at hnx hd1 hd2 hd3
          have hne : ((D1 : Int) == 32) = false := by simp; omega
          clear hD
          go_wp2_with fail
          go_roundg (gk - 1)
          case measure => omega
          case rel => exact ⟨pos + D2, by omega, by omega, rfl, rfl⟩
        · obtain rfl : pos = p.length := by omega
          have hnx : ∀ ty, (Instr.next (.pointer (some ⟨wr.heap.size, 0, none⟩)) true ty).run Tryd.prog (wr.iter S p.length) = .ok (.tuple #[.bool true, .int .i64 p.length, .int .i32 32]) (wr.iter S (p.length + 1)) := fun ty => by
            rw [run_next_any wr S p.length ty (by omega), HP.out]
            rfl
          have hb1 : Below wr.heap.size wr (wr.iter S (p.length + 1)) := iter_below
          have HO1 := Lib.hid (own_below HO.out hb1)
          have HA1 := Lib.hid (HA.out.next hb1 (Nat.le_refl _))
          have c1 := (hb1.cell (p := ⟨g, _, none⟩) (lt_of_block HA.out.row)).trans c0
          have hs1 : w.heap.size ≤ (wr.iter S (p.length + 1)).heap.size := HA1.out.size
          have q1 : (p.length : Int) ≤ (S.size : Int) := by omega
          clear hb1
          go_upto_region 7 with fail
          obtain ⟨W1, hW1⟩ : ∃ V, V = wr.iter S (p.length + 1) := ⟨_, rfl⟩
          rw [← hW1] at HO1 HA1 c1 hs1 ⊢
          clear hW1 hnx
          go_wp2_with (at_builtin; refine wpList_append_own _ rfl _ _ 91 rfl w.heap.size 9 i0 (.string ⟨#[]⟩) 1 16 Tryd.underlying91 hi hz0 hz1 hz2 rfl (by decide) _ _ _ rfl (HO1.out.alloc _) ⟨W1.heap.size, 0, none⟩ 1 1 [.string (S.extract 0 p.length)] rfl rfl (new_at W1 #[.string (S.extract 0 p.length)] 9) (by simp [Value.oneCell']) (by unfold maxLen; omega) (by omega) (by rw [size_alloc]; omega) ?_)
          intro v2 w5 hown hgrow _
          have HA5 : Hid (OwnAt w.heap.size w w5 g (rdB (restT (ws.drop j)))) := Lib.hid ((HA1.out.next (ba _ (Below.refl _ _)) (Nat.le_refl _)).grown (HO1.out.alloc _) hgrow (by rw [size_alloc]; omega) (Nat.le_refl _) hglt)
          have HO5 : Hid (w5.ownsRow w.heap.size 9 1 v2 (j + 1) (strs (ws.take (j + 1)))) := Lib.hid (by
            rw [HTK.out]
            rw [HE1.out] at hown
            simpa using hown)
          have c5 : w5.cell? ⟨g, 0, none⟩ = some (.string S) := by
            rw [cell_in HA5.out.row 0, ← HSE.out]
            rfl
          have f5 := free_in HA5.out.row 0
          have HPUT : Hid (RowPut w5 (w5.setCell ⟨g, 0, none⟩ (.string (S.extract (p.length + 1) S.size))) g (rdB (restT (ws.drop (j + 1))))) := Lib.hid (by
            rw [HDR.out, HE2.out]
            exact rowPut_cell HA5.out.row 0 _)
          have q2 : (p.length : Int) + 1 ≤ (S.size : Int) := by omega
          obtain ⟨ao2, cap2, rfl⟩ := own_shape hown
          clear hown hgrow HO1 HA1 HO HA
          go_wp2_with fail
          have HO9 := Lib.hid (own_put HO5.out HPUT.out hglt)
          have HA9 := Lib.hid (HA5.out.put HPUT.out)
          go_roundg (n - j)
          case measure => omega
          case rel => exact ⟨j + 1, by omega, by omega, by omega, HO9, HA9⟩
end Go.Proofs.YtbhondjfilohdaaDoor
/-
  Package policy: a policy's text.
-/
namespace Go.Proofs.YtbhondjfilohdaaDoor
open Go.ChangeShapes Go.WideShapes Go.ChangeAt Go.RowKit
set_option maxRecDepth 20000

theorem popening_any (k : Nat) (w : World) (hk : k ≤ 1000) :
    Calls Tryd.prog 62 #[.int .i64 (k : Nat)] w fun e w' => e = .returned (.string (bsT (glue k))) ∧ Below w.heap.size w w' := by
  by_cases h : k = 0
  · subst h
    go_enter Tryd.func62, Tryd.ntmps62
    go_wp2_with fail
    go_ret
    exact ⟨rfl, Below.refl _ _⟩
  · have hb : ((k : Int) == 0) = false := by simp; omega
    have HE : Hid ((⟨#[97, 110, 100]⟩ : ByteArray) = bsT (glue k)) := Lib.hid (by unfold glue; rw [if_neg h]; rfl)
    rw [← HE.out]
    go_enter Tryd.func62, Tryd.ntmps62
    go_wp2_with fail
    go_ret
    exact ⟨rfl, Below.refl _ _⟩
/-! ### The parts of a rule's line -/
/-! ### The lines -/
/-! ### Print -/
end Go.Proofs.YtbhondjfilohdaaDoor
