/-
  What the laws' texts use, joined.
-/
import Derived.Test.YtbekkdhlfkongaaGreatDoorRows
import Derived.WalkKit
import Derived.OpenShut
import Derived.Carry
import Derived.Deep.DeepHandedRow
import Derived.Lib.SmallJoins
import Derived.Test.YtbekkdhlfkongaaGreatDoorProg
import Derived.ProofKit
import Derived.Lib.Hide
import Derived.Laws.Rows
import Derived.Laws.ResultCell
import Derived.Laws.Entries
import Derived.Handy
import Derived.OwnWalk
import Derived.Laws.OwnMore
import Derived.Deep.Draws
import Derived.Laws.IdiomStrings
import Derived.Lib.BufferRead
import Derived.Maps.OwnSet
import Derived.Laws.BitsAllLaws
import Derived.BigQuiet
import Derived.IntWalk
import Derived.Deep.RegionHeld3
import Derived.BigRegion
import Derived.RowKit
import Derived.Lib.QuietBelow
import Derived.Lib.OthersKept
import Derived.Laws.Tables
import Derived.Deep.DeepCutAuto
import Derived.Deep.QuietTactic
import Derived.WalkMore
import Derived.Test.YtbekkdhlfkongaaGreatDoorPk1
import Derived.Test.YtbekkdhlfkongaaGreatDoorPk2
/-
  What is the same for every law: what is owed once the call is known to return true and to leave all that was there as it was.
-/
namespace Go.Proofs.YtbekkdhlfkongaaGreatDoor
open Go.ChangeShapes Go.WideShapes Go.ChangeAt Go.RowKit

section
variable {H : Type} {enc : TypeId × Value → H} {P : Program}
/-- Arguments read in a world that has only grown as they read before. -/
theorem args_stay (hl : laidOutB P = true) {W W' : World} (hb : Below W.heap.size W W') :
    ∀ (ts : List TypeId) (vs : List Value) (ds : List (DataW H)) (ps : List MemPlace), (∀ t ∈ ts, P.readableRec t = true ∧ t < P.types.size) → (∀ x ∈ ps, x.block < W.heap.size) →
      DataW.TrodAll enc P W 0 (fun _ => true) true ts vs ds ps → DataW.TrodAll enc P W' 0 (fun b => decide (b < W.heap.size)) true ts vs ds ps
  | [], _, _, _, _, _, h => by
    obtain ⟨rfl, rfl, rfl⟩ := trodAll_nil h
    exact trodAll_mk0
  | t :: ts, _, _, _, hts, hlt, h => by
    obtain ⟨v, vs, d, ds, p, q, rfl, rfl, rfl, h1, h2⟩ := trodAll_cons h
    have ht := hts t (List.mem_cons_self)
    exact trodAll_cons_mk (Below.trod hl ht.1 ht.2 h1 hb (fun x hx => hlt x (List.mem_append_left _ hx)))
      (args_stay hl hb ts vs ds q (fun u hu => hts u (List.mem_cons_of_mem _ hu)) (fun x hx => hlt x (List.mem_append_right _ hx)) h2)

/-- What a law owes behind its call: true was returned, and nothing below the heap's old size has changed. -/
theorem law_post {f : Func} {s : ChangeSpec} {tb : TypeId} (hl : laidOutB P = true) (hts : ∀ t ∈ f.params.toList, P.readableRec t = true ∧ t < P.types.size) (hrt : f.resultTypes = #[tb]) (htb : P.underlying tb = some .bool)
    (hv : s.vars = []) (hfn : ∀ ds : List (DataW H), ds.length = f.params.toList.length → s.fn H ds = { results := [.lit (.bool true)], args := ds })
    {W W' : World} {args : Array Value} {ds gs : List (DataW H)} {before : List MemPlace} (hW : DataW.Whole enc P f.params.toList s.vars false W args.toList ds gs before) (hB : Below W.heap.size W W') :
    s.post enc P f false true false false W args (.bool true) W' := by
  have hlt : ∀ x ∈ before, x.block < W.heap.size := fun x hx => by simpa using hW.lt x hx
  have hW' := hW
  obtain ⟨p, q, hA, hV, rfl, _, _⟩ := hW
  rw [hv] at hV
  obtain ⟨rfl, rfl⟩ := trodVars_none hV
  have hlen : ds.length = f.params.toList.length := by
    have aux : ∀ (ts : List TypeId) (vs : List Value) (ds : List (DataW H)) (ps : List MemPlace), DataW.TrodAll enc P W 0 (fun _ => true) true ts vs ds ps → ds.length = ts.length := by
      intro ts
      induction ts with
      | nil => intro vs ds ps h; obtain ⟨_, rfl, _⟩ := trodAll_nil h; rfl
      | cons t ts ih =>
        intro vs ds ps h
        obtain ⟨v, vs, d, ds, p, q, _, rfl, _, _, h2⟩ := trodAll_cons h
        simp [ih vs ds q h2]
    exact aux _ _ _ _ hA
  have e := hfn ds hlen
  refine ⟨ds, [], _, [], p, [], hW', ?_, ?_, ?_, ?_, fun h => by cases h⟩
  · rw [List.append_nil, e, hrt]
    exact trodAll_cons_mk (shut_bool htb _) trodAll_mk0
  · rw [List.append_nil, e]
    exact args_stay hl hB _ _ _ _ hts (fun x hx => hlt x (List.mem_append_left _ hx)) hA
  · rw [List.append_nil, e, hv]
    exact rfl
  · exact hB.frame _
end

theorem own : ownKnob Tryz.prog.godebug = none := by kernel_rfl
theorem laidOut : laidOutB Tryz.prog = true := by kernel_rfl

end Go.Proofs.YtbekkdhlfkongaaGreatDoor

/-
  An argument that is bytes: what the row's reading of it gives of the world's cells.
-/
namespace Go.Proofs.YtbekkdhlfkongaaGreatDoor
open Go.ChangeShapes Go.WideShapes Go.ChangeAt Go.RowKit Go.Deep
set_option maxRecDepth 100000

section
variable {H : Type} {enc : TypeId × Value → H} {W : World} {base : Nat} {v : Value} {d : DataW H} {p : List MemPlace}
end
end Go.Proofs.YtbekkdhlfkongaaGreatDoor
/-
  An argument that is a record: what the row's reading of it gives.
-/
namespace Go.Proofs.YtbekkdhlfkongaaGreatDoor
open Go.ChangeShapes Go.WideShapes Go.ChangeAt Go.RowKit Go.Deep
set_option maxRecDepth 100000

theorem cellsD : Tryz.prog.cellsOf 29 = 9 := by kernel_rfl
theorem cellsU64 : Tryz.prog.cellsOf 26 = 1 := by kernel_rfl
theorem list9 {α : Type} {l : List α} (h : l.length = 9) : ∃ x0 x1 x2 x3 x4 x5 x6 x7 x8, l = [x0, x1, x2, x3, x4, x5, x6, x7, x8] := by
  match l, h with
  | [x0, x1, x2, x3, x4, x5, x6, x7, x8], _ => exact ⟨x0, x1, x2, x3, x4, x5, x6, x7, x8, rfl⟩
section
variable {H : Type} {enc : TypeId × Value → H} {W : World} {base : Nat} {v : Value} {d : DataW H} {p : List MemPlace}
theorem one_u32 {n : Nat} {c : Value} {y : DataW H × List MemPlace} (h : DataW.trod enc Tryz.prog W 0 (fun _ => true) true n 23 [c] = some y) : ∃ k : Nat, c = .int .u32 k ∧ k < 4294967296 := by
  obtain ⟨z, e, _, w⟩ := DataW.trod_int Tryz.underlying23 h
  simp only [List.cons.injEq, and_true] at e
  have b := bounds_u32 w
  refine ⟨z.toNat, ?_, by omega⟩
  rw [e]
  congr 1
  omega
theorem one_u64 {n : Nat} {c : Value} {y : DataW H × List MemPlace} (h : DataW.trod enc Tryz.prog W 0 (fun _ => true) true n 26 [c] = some y) : ∃ k : Nat, c = .int .u64 k ∧ k < 18446744073709551616 := by
  obtain ⟨z, e, _, w⟩ := DataW.trod_int Tryz.underlying26 h
  simp only [List.cons.injEq, and_true] at e
  have b := bounds_u64 w
  refine ⟨z.toNat, ?_, by omega⟩
  rw [e]
  congr 1
  omega
theorem open_data (hval : Value.okWide Tryz.prog W .any base 29 v) (h : DataW.Trod enc Tryz.prog W 0 (fun _ => true) true 29 v d p) : ∃ D : Rec, v = D.val ∧ D.ok := by
  obtain ⟨cs, rfl, hsz⟩ := okWide_struct Tryz.underlying29 hval
  rw [cellsD] at hsz
  obtain ⟨c0, c1, c2, c3, c4, c5, c6, c7, c8, hc⟩ := list9 (l := cs.toList) (by simpa using hsz)
  obtain rfl : cs = #[c0, c1, c2, c3, c4, c5, c6, c7, c8] := by rw [← hc]
  obtain ⟨fuel, hf⟩ := h
  obtain ⟨ys, n, _, _, _, hyl, hff⟩ := DataW.trod_struct Tryz.underlying29 hf
  have hy4 : ys.length = 4 := hyl
  match ys, hy4 with
  | [y0, y1, y2, y3], _ =>
    have h0 : DataW.trod enc Tryz.prog W 0 (fun _ => true) true n 23 [c0] = some y0 := hff 0 _ rfl
    have h1 : DataW.trod enc Tryz.prog W 0 (fun _ => true) true n 23 [c1] = some y1 := hff 1 _ rfl
    have h2 : DataW.trod enc Tryz.prog W 0 (fun _ => true) true n 26 [c2] = some y2 := hff 2 _ rfl
    have h3 : DataW.trod enc Tryz.prog W 0 (fun _ => true) true n 27 [c3, c4, c5, c6, c7, c8] = some y3 := hff 3 _ rfl
    obtain ⟨xs, m, _, _, _, hxl, hxx⟩ := DataW.trod_array Tryz.underlying27 h3
    rw [cellsU64] at hxx
    match xs, hxl with
    | [x0, x1, x2, x3, x4, x5], _ =>
      have g0 : DataW.trod enc Tryz.prog W 0 (fun _ => true) true m 26 [c3] = some x0 := hxx 0 (by omega)
      have g1 : DataW.trod enc Tryz.prog W 0 (fun _ => true) true m 26 [c4] = some x1 := hxx 1 (by omega)
      have g2 : DataW.trod enc Tryz.prog W 0 (fun _ => true) true m 26 [c5] = some x2 := hxx 2 (by omega)
      have g3 : DataW.trod enc Tryz.prog W 0 (fun _ => true) true m 26 [c6] = some x3 := hxx 3 (by omega)
      have g4 : DataW.trod enc Tryz.prog W 0 (fun _ => true) true m 26 [c7] = some x4 := hxx 4 (by omega)
      have g5 : DataW.trod enc Tryz.prog W 0 (fun _ => true) true m 26 [c8] = some x5 := hxx 5 (by omega)
      obtain ⟨k0, rfl, b0⟩ := one_u32 h0
      obtain ⟨k1, rfl, b1⟩ := one_u32 h1
      obtain ⟨k2, rfl, b2⟩ := one_u64 h2
      obtain ⟨k3, rfl, b3⟩ := one_u64 g0
      obtain ⟨k4, rfl, b4⟩ := one_u64 g1
      obtain ⟨k5, rfl, b5⟩ := one_u64 g2
      obtain ⟨k6, rfl, b6⟩ := one_u64 g3
      obtain ⟨k7, rfl, b7⟩ := one_u64 g4
      obtain ⟨k8, rfl, b8⟩ := one_u64 g5
      exact ⟨⟨k0, k1, k2, k3, k4, k5, k6, k7, k8⟩, rfl, b0, b1, b2, b3, b4, b5, b6, b7, b8⟩
end
/-- The nine cells of a record's block. -/
theorem rec_cells {w : World} {g : Nat} {d : Rec} {t : TypeId} {fr : Nat × Nat} (h : w.heap[g]? = some (.cells d.cells t fr)) : w.cell? ⟨g, 0, none⟩ = some (.int .u32 d.nr) ∧ w.cell? ⟨g, 1, none⟩ = some (.int .u32 d.arch) ∧ w.cell? ⟨g, 2, none⟩ = some (.int .u64 d.ip) ∧ w.cell? ⟨g, 3, none⟩ = some (.int .u64 d.a0) ∧ w.cell? ⟨g, 4, none⟩ = some (.int .u64 d.a1) ∧ w.cell? ⟨g, 5, none⟩ = some (.int .u64 d.a2) ∧ w.cell? ⟨g, 6, none⟩ = some (.int .u64 d.a3) ∧ w.cell? ⟨g, 7, none⟩ = some (.int .u64 d.a4) ∧ w.cell? ⟨g, 8, none⟩ = some (.int .u64 d.a5) :=
  ⟨cell_in h 0, cell_in h 1, cell_in h 2, cell_in h 3, cell_in h 4, cell_in h 5, cell_in h 6, cell_in h 7, cell_in h 8⟩
end Go.Proofs.YtbekkdhlfkongaaGreatDoor
/-
  What run.calculate and run.Step answer.
-/
namespace Go.Proofs.YtbekkdhlfkongaaGreatDoor
open Go.ChangeShapes Go.WideShapes Go.ChangeAt Go.RowKit
set_option maxRecDepth 20000

/-- The state behind arithmetic. -/
def calcS (s : St) (x : X4) : St := if aluB x.op && goesS s x then ⟨(Wd.doV (aluV x.op) s.a (argS s x)).toNat, s.x, s.m⟩ else s
set_option maxHeartbeats 1000000 in
theorem calculate_any (s : St) (op jt jf : Int) (k : Nat) (w : World) (hs : s.ok) (hk : k < 4294967296) (ht : OTab w) :
    Calls Tryz.prog 68 #[s.val, insV op jt jf k] w fun e w' => e = .returned (.tuple #[(calcS s ⟨op, jt, jf, k⟩).val, .bool (goesS s ⟨op, jt, jf, k⟩)]) ∧ Below w.heap.size w w' := by
  obtain ⟨W, hW, hG, hX, hR, hb⟩ := box3 w (stB s) (insB op jt jf k) (stB zeroSt)
  have hz := st_zero
  have HG := Lib.hid hG
  have HX := Lib.hid hX
  have HR := Lib.hid hR
  have HB := Lib.hid hb
  have HT := Lib.hid (ht.below hb)
  obtain ⟨h1, h2, _, _⟩ := hs
  have HA1 := Lib.hid h1
  have HX1 := Lib.hid h2
  clear hG hX hR hb ht h1 h2
  go_enter Tryz.func68, Tryz.ntmps68
  go_upto_region 1 with fail
  rw [← hW]
  clear hW hz
  have c0 := cell_in HX.out 0
  have c1 := cell_in HX.out 1
  have c2 := cell_in HX.out 2
  have c3 := cell_in HX.out 3
  go_wp2_with fail
  refine (alu_is op jt jf k _ HT.out).mono ?_
  rintro e w1 ⟨rfl, hb1⟩
  have HG1 := Lib.hid (kb hb1 HG.out)
  have HXX := Lib.hid (kb hb1 HX.out)
  have HR1 := Lib.hid (kb hb1 HR.out)
  have HB1 := Lib.hid (below2 HB.out (hb1.mono (Nat.le_refl _)))
  clear hb1 c0 c1 c2 c3
  cases hB : aluB op
  · have HC : Hid (calcS s ⟨op, jt, jf, k⟩ = s) := Lib.hid (by simp [calcS, hB])
    have HE : Hid (goesS s ⟨op, jt, jf, k⟩ = true) := Lib.hid (by simp [goesS, hB])
    clear hB
    go_wp2_with (first | (refine ld_st HG1.out rfl rfl rfl ?_) | (refine st_st HR1.out rfl rfl rfl rfl rfl ?_; intro W2 hp2; have HP2 := Lib.hid hp2; clear hp2))
    (try simp only [Exit.inBlock, Exit.then])
    exact bodyPost_ret (results_st rfl rfl rfl HP2.out.row) rfl ⟨by rw [HC.out, HE.out], HP2.out.below HB1.out (by omega)⟩
  · obtain ⟨q, hq⟩ : ∃ q : Nat, argS s ⟨op, jt, jf, k⟩ = q := by
      unfold argS
      split
      · exact ⟨_, rfl⟩
      · exact ⟨_, rfl⟩
    have hq4 : (q : Int) ≤ 4294967295 := by
      rw [← hq]
      unfold argS
      have := HX1.out
      split
      · omega
      · simp only; omega
    have f0 := (cell_in HG1.out 0).trans (st_a s)
    have f1 := (cell_in HG1.out 1).trans (st_x s)
    have c3 := cell_in HXX.out 3
    have hgo : goesS s ⟨op, jt, jf, k⟩ = Wd.doB (aluV op) q := by simp [goesS, hB, hq]
    obtain ⟨v, hv⟩ : ∃ v : Nat, Wd.doV (aluV op) s.a q = v := ⟨(Wd.doV (aluV op) s.a q).toNat, by have := Wd.doV_bd (aluV op) s.a q (by omega) (by have := HA1.out; omega) (by omega); omega⟩
    have hc : calcS s ⟨op, jt, jf, k⟩ = if Wd.doB (aluV op) q then ⟨v, s.x, s.m⟩ else s := by
      simp [calcS, hB, hgo, hq, hv]
    have HD := Lib.hid (do_any (aluV op) s.a q w1 (by omega) (by have := HA1.out; omega) (by omega) hq4)
    rw [hv] at HD
    have HSA := Lib.hid (set_a s v)
    cases hX2 : aluX op
    · have e : q = k := by
        have h : (k : Int) = q := by rw [← hq]; unfold argS; simp [hX2]
        omega
      subst e
      cases hb2 : Wd.doB (aluV op) q
      · rw [hb2] at HD hgo hc
        have HCQ := Lib.hid hc
        have HGO := Lib.hid hgo
        clear hb2 hc hgo hv hq hB hX2
        go_wp2_with fail
        refine HD.out.mono ?_
        rintro e w2 ⟨rfl, rfl⟩
        go_wp2_with (first | (refine ld_st HG1.out rfl rfl rfl ?_) | (refine st_st HR1.out rfl rfl rfl rfl rfl ?_; intro W2 hp2; have HP2 := Lib.hid hp2; clear hp2))
        (try simp only [Exit.inBlock, Exit.then])
        exact bodyPost_ret (results_st rfl rfl rfl HP2.out.row) rfl ⟨by rw [HCQ.out, HGO.out]; rfl, HP2.out.below HB1.out (by omega)⟩
      · rw [hb2] at HD hgo hc
        have HCQ := Lib.hid hc
        have HGO := Lib.hid hgo
        clear hb2 hc hgo hv hq hB hX2
        go_wp2_with fail
        refine HD.out.mono ?_
        rintro e w2 ⟨rfl, rfl⟩
        go_wp2_with (first | (refine st_fld HSA.out HG1.out (by omega) rfl rfl rfl rfl ?_; intro W1 hp1; have HP1 := Lib.hid hp1; clear hp1) | (refine ld_st HP1.out.row rfl rfl rfl ?_) | (refine st_st (HP1.out.keep (by omega) HR1.out) rfl rfl rfl rfl rfl ?_; intro W2 hp2; have HP2 := Lib.hid hp2; clear hp2))
        (try simp only [Exit.inBlock, Exit.then])
        exact bodyPost_ret (results_st rfl rfl rfl HP2.out.row) rfl ⟨by rw [HCQ.out, HGO.out]; rfl, HP2.out.below (HP1.out.below HB1.out (by omega)) (by omega)⟩
    · have e : q = s.x := by
        have h : (s.x : Int) = q := by rw [← hq]; unfold argS; simp [hX2]
        omega
      subst e
      cases hb2 : Wd.doB (aluV op) s.x
      · rw [hb2] at HD hgo hc
        have HCQ := Lib.hid hc
        have HGO := Lib.hid hgo
        clear hb2 hc hgo hv hq hB hX2
        go_wp2_with fail
        refine HD.out.mono ?_
        rintro e w2 ⟨rfl, rfl⟩
        go_wp2_with (first | (refine ld_st HG1.out rfl rfl rfl ?_) | (refine st_st HR1.out rfl rfl rfl rfl rfl ?_; intro W2 hp2; have HP2 := Lib.hid hp2; clear hp2))
        (try simp only [Exit.inBlock, Exit.then])
        exact bodyPost_ret (results_st rfl rfl rfl HP2.out.row) rfl ⟨by rw [HCQ.out, HGO.out]; rfl, HP2.out.below HB1.out (by omega)⟩
      · rw [hb2] at HD hgo hc
        have HCQ := Lib.hid hc
        have HGO := Lib.hid hgo
        clear hb2 hc hgo hv hq hB hX2
        go_wp2_with fail
        refine HD.out.mono ?_
        rintro e w2 ⟨rfl, rfl⟩
        go_wp2_with (first | (refine st_fld HSA.out HG1.out (by omega) rfl rfl rfl rfl ?_; intro W1 hp1; have HP1 := Lib.hid hp1; clear hp1) | (refine ld_st HP1.out.row rfl rfl rfl ?_) | (refine st_st (HP1.out.keep (by omega) HR1.out) rfl rfl rfl rfl rfl ?_; intro W2 hp2; have HP2 := Lib.hid hp2; clear hp2))
        (try simp only [Exit.inBlock, Exit.then])
        exact bodyPost_ret (results_st rfl rfl rfl HP2.out.row) rfl ⟨by rw [HCQ.out, HGO.out]; rfl, HP2.out.below (HP1.out.below HB1.out (by omega)) (by omega)⟩

set_option maxHeartbeats 1000000 in
theorem step_o0 (s : St) (jt jf : Int) (k : Nat) (d : Rec) (w : World) (hs : s.ok) (_hk : k < 4294967296) (hd : d.ok) :
    Calls Tryz.prog 36 #[s.val, insV 0 jt jf k, d.val] w fun e w' => e = .returned (.tuple #[(⟨k, s.x, s.m⟩ : St).val, .bool true]) ∧ Below w.heap.size w w' := by
  obtain ⟨W, hW, hG, hX, hD, hR, hb⟩ := box4 w (stB s) (insB 0 jt jf k) (.cells d.cells 29) (stB zeroSt)
  have hz := st_zero
  have HG := Lib.hid hG
  have HX := Lib.hid hX
  have HD := Lib.hid hD
  have HR := Lib.hid hR
  have HB := Lib.hid hb
  have HSo := Lib.hid hs
  have HDo := Lib.hid hd
  clear hG hX hD hR hb hs hd
  go_enter Tryz.func36, Tryz.ntmps36
  go_upto_region 1 with fail
  rw [← hW]
  clear hW hz
  have c0 := cell_in HX.out 0
  have c3 := cell_in HX.out 3
  go_wp2_with (first | (refine st_fld (set_a s k) HG.out (by omega) rfl rfl rfl rfl ?_; intro W1 hp1; have HP1 := Lib.hid hp1; clear hp1) | (refine ld_st HP1.out.row rfl rfl rfl ?_) | (refine st_st (HP1.out.keep (by omega) HR.out) rfl rfl rfl rfl rfl ?_; intro W2 hp2; have HP2 := Lib.hid hp2; clear hp2))
  (try simp only [Exit.inBlock, Exit.then])
  exact bodyPost_ret (results_st rfl rfl rfl HP2.out.row) rfl ⟨rfl, HP2.out.below (HP1.out.below HB.out (by omega)) (by omega)⟩

set_option maxHeartbeats 1000000 in
theorem step_o1 (s : St) (jt jf : Int) (k : Nat) (d : Rec) (w : World) (hs : s.ok) (_hk : k < 4294967296) (hd : d.ok) :
    Calls Tryz.prog 36 #[s.val, insV 1 jt jf k, d.val] w fun e w' => e = .returned (.tuple #[(⟨s.a, k, s.m⟩ : St).val, .bool true]) ∧ Below w.heap.size w w' := by
  obtain ⟨W, hW, hG, hX, hD, hR, hb⟩ := box4 w (stB s) (insB 1 jt jf k) (.cells d.cells 29) (stB zeroSt)
  have hz := st_zero
  have HG := Lib.hid hG
  have HX := Lib.hid hX
  have HD := Lib.hid hD
  have HR := Lib.hid hR
  have HB := Lib.hid hb
  have HSo := Lib.hid hs
  have HDo := Lib.hid hd
  clear hG hX hD hR hb hs hd
  go_enter Tryz.func36, Tryz.ntmps36
  go_upto_region 1 with fail
  rw [← hW]
  clear hW hz
  have c0 := cell_in HX.out 0
  have c3 := cell_in HX.out 3
  go_wp2_with (first | (refine st_fld (set_x s k) HG.out (by omega) rfl rfl rfl rfl ?_; intro W1 hp1; have HP1 := Lib.hid hp1; clear hp1) | (refine ld_st HP1.out.row rfl rfl rfl ?_) | (refine st_st (HP1.out.keep (by omega) HR.out) rfl rfl rfl rfl rfl ?_; intro W2 hp2; have HP2 := Lib.hid hp2; clear hp2))
  (try simp only [Exit.inBlock, Exit.then])
  exact bodyPost_ret (results_st rfl rfl rfl HP2.out.row) rfl ⟨rfl, HP2.out.below (HP1.out.below HB.out (by omega)) (by omega)⟩

set_option maxHeartbeats 1000000 in
theorem step_o7 (s : St) (jt jf : Int) (k : Nat) (d : Rec) (w : World) (hs : s.ok) (_hk : k < 4294967296) (hd : d.ok) :
    Calls Tryz.prog 36 #[s.val, insV 7 jt jf k, d.val] w fun e w' => e = .returned (.tuple #[(⟨s.a, s.a, s.m⟩ : St).val, .bool true]) ∧ Below w.heap.size w w' := by
  obtain ⟨W, hW, hG, hX, hD, hR, hb⟩ := box4 w (stB s) (insB 7 jt jf k) (.cells d.cells 29) (stB zeroSt)
  have hz := st_zero
  have HG := Lib.hid hG
  have HX := Lib.hid hX
  have HD := Lib.hid hD
  have HR := Lib.hid hR
  have HB := Lib.hid hb
  have HSo := Lib.hid hs
  have HDo := Lib.hid hd
  clear hG hX hD hR hb hs hd
  go_enter Tryz.func36, Tryz.ntmps36
  go_upto_region 1 with fail
  rw [← hW]
  clear hW hz
  have c0 := cell_in HX.out 0
  have c3 := cell_in HX.out 3
  have f0 := (cell_in HG.out 0).trans (st_a s)
  go_wp2_with (first | (refine st_fld (set_x s s.a) HG.out (by omega) rfl rfl rfl rfl ?_; intro W1 hp1; have HP1 := Lib.hid hp1; clear hp1) | (refine ld_st HP1.out.row rfl rfl rfl ?_) | (refine st_st (HP1.out.keep (by omega) HR.out) rfl rfl rfl rfl rfl ?_; intro W2 hp2; have HP2 := Lib.hid hp2; clear hp2))
  (try simp only [Exit.inBlock, Exit.then])
  exact bodyPost_ret (results_st rfl rfl rfl HP2.out.row) rfl ⟨rfl, HP2.out.below (HP1.out.below HB.out (by omega)) (by omega)⟩

set_option maxHeartbeats 1000000 in
theorem step_o135 (s : St) (jt jf : Int) (k : Nat) (d : Rec) (w : World) (hs : s.ok) (_hk : k < 4294967296) (hd : d.ok) :
    Calls Tryz.prog 36 #[s.val, insV 135 jt jf k, d.val] w fun e w' => e = .returned (.tuple #[(⟨s.x, s.x, s.m⟩ : St).val, .bool true]) ∧ Below w.heap.size w w' := by
  obtain ⟨W, hW, hG, hX, hD, hR, hb⟩ := box4 w (stB s) (insB 135 jt jf k) (.cells d.cells 29) (stB zeroSt)
  have hz := st_zero
  have HG := Lib.hid hG
  have HX := Lib.hid hX
  have HD := Lib.hid hD
  have HR := Lib.hid hR
  have HB := Lib.hid hb
  have HSo := Lib.hid hs
  have HDo := Lib.hid hd
  clear hG hX hD hR hb hs hd
  go_enter Tryz.func36, Tryz.ntmps36
  go_upto_region 1 with fail
  rw [← hW]
  clear hW hz
  have c0 := cell_in HX.out 0
  have c3 := cell_in HX.out 3
  have f1 := (cell_in HG.out 1).trans (st_x s)
  go_wp2_with (first | (refine st_fld (set_a s s.x) HG.out (by omega) rfl rfl rfl rfl ?_; intro W1 hp1; have HP1 := Lib.hid hp1; clear hp1) | (refine ld_st HP1.out.row rfl rfl rfl ?_) | (refine st_st (HP1.out.keep (by omega) HR.out) rfl rfl rfl rfl rfl ?_; intro W2 hp2; have HP2 := Lib.hid hp2; clear hp2))
  (try simp only [Exit.inBlock, Exit.then])
  exact bodyPost_ret (results_st rfl rfl rfl HP2.out.row) rfl ⟨rfl, HP2.out.below (HP1.out.below HB.out (by omega)) (by omega)⟩

set_option maxHeartbeats 1000000 in
theorem step_o132 (s : St) (jt jf : Int) (k : Nat) (d : Rec) (w : World) (hs : s.ok) (_hk : k < 4294967296) (hd : d.ok) :
    Calls Tryz.prog 36 #[s.val, insV 132 jt jf k, d.val] w fun e w' => e = .returned (.tuple #[(⟨((-(s.a : Int)) % 4294967296).toNat, s.x, s.m⟩ : St).val, .bool true]) ∧ Below w.heap.size w w' := by
  obtain ⟨W, hW, hG, hX, hD, hR, hb⟩ := box4 w (stB s) (insB 132 jt jf k) (.cells d.cells 29) (stB zeroSt)
  have hz := st_zero
  have HG := Lib.hid hG
  have HX := Lib.hid hX
  have HD := Lib.hid hD
  have HR := Lib.hid hR
  have HB := Lib.hid hb
  have HSo := Lib.hid hs
  have HDo := Lib.hid hd
  clear hG hX hD hR hb hs hd
  go_enter Tryz.func36, Tryz.ntmps36
  go_upto_region 1 with fail
  rw [← hW]
  clear hW hz
  have c0 := cell_in HX.out 0
  have c3 := cell_in HX.out 3
  have f0 := (cell_in HG.out 0).trans (st_a s)
  obtain ⟨v, hv⟩ : ∃ v : Nat, (-(s.a : Int)) % 4294967296 = v := ⟨((-(s.a : Int)) % 4294967296).toNat, by omega⟩
  have HN := Lib.hid (neg_any s.a W)
  rw [hv] at HN
  have HV := Lib.hid hv
  clear hv
  go_wp2_with fail
  refine HN.out.mono ?_
  rintro e w1 ⟨rfl, rfl⟩
  go_wp2_with (first | (refine st_fld (set_a s v) HG.out (by omega) rfl rfl rfl rfl ?_; intro W1 hp1; have HP1 := Lib.hid hp1; clear hp1) | (refine ld_st HP1.out.row rfl rfl rfl ?_) | (refine st_st (HP1.out.keep (by omega) HR.out) rfl rfl rfl rfl rfl ?_; intro W2 hp2; have HP2 := Lib.hid hp2; clear hp2))
  (try simp only [Exit.inBlock, Exit.then])
  exact bodyPost_ret (results_st rfl rfl rfl HP2.out.row) rfl ⟨by rw [HV.out]; rfl, HP2.out.below (HP1.out.below HB.out (by omega)) (by omega)⟩

set_option maxHeartbeats 1000000 in
theorem step_o32 (s : St) (jt jf : Int) (k : Nat) (d : Rec) (w : World) (hs : s.ok) (hk : k < 4294967296) (hd : d.ok) :
    Calls Tryz.prog 36 #[s.val, insV 32 jt jf k, d.val] w fun e w' => e = .returned (.tuple #[(⟨wordAtD d k, s.x, s.m⟩ : St).val, .bool true]) ∧ Below w.heap.size w w' := by
  obtain ⟨W, hW, hG, hX, hD, hR, hb⟩ := box4 w (stB s) (insB 32 jt jf k) (.cells d.cells 29) (stB zeroSt)
  have hz := st_zero
  have HG := Lib.hid hG
  have HX := Lib.hid hX
  have HD := Lib.hid hD
  have HR := Lib.hid hR
  have HB := Lib.hid hb
  have HSo := Lib.hid hs
  have HDo := Lib.hid hd
  clear hG hX hD hR hb hs hd
  go_enter Tryz.func36, Tryz.ntmps36
  go_upto_region 1 with fail
  rw [← hW]
  clear hW hz
  have c0 := cell_in HX.out 0
  have c3 := cell_in HX.out 3
  obtain ⟨x0, x1, x2, x3, x4, x5, x6, x7, x8⟩ := rec_cells HD.out
  go_wp2_with fail
  refine (word_any d k _ HDo.out hk).mono ?_
  rintro e w1 ⟨rfl, hb1⟩
  have HG1 := Lib.hid (kb hb1 HG.out)
  have HR1 := Lib.hid (kb hb1 HR.out)
  have HB1 := Lib.hid (below2 HB.out (hb1.mono (Nat.le_refl _)))
  clear hb1 c0 c3 x0 x1 x2 x3 x4 x5 x6 x7 x8
  obtain ⟨v, hv⟩ : ∃ v, v = wordAtD d k := ⟨_, rfl⟩
  rw [← hv]
  have HV := Lib.hid hv
  clear hv
  go_wp2_with (first | (refine st_fld (set_a s v) HG1.out (by omega) rfl rfl rfl rfl ?_; intro W1 hp1; have HP1 := Lib.hid hp1; clear hp1) | (refine ld_st HP1.out.row rfl rfl rfl ?_) | (refine st_st (HP1.out.keep (by omega) HR1.out) rfl rfl rfl rfl rfl ?_; intro W2 hp2; have HP2 := Lib.hid hp2; clear hp2))
  (try simp only [Exit.inBlock, Exit.then])
  exact bodyPost_ret (results_st rfl rfl rfl HP2.out.row) rfl ⟨by rw [HV.out], HP2.out.below (HP1.out.below HB1.out (by omega)) (by omega)⟩

set_option maxHeartbeats 1000000 in
theorem step_o96 (s : St) (jt jf : Int) (k : Nat) (d : Rec) (w : World) (hs : s.ok) (hk : k < 4294967296) (hd : d.ok) :
    Calls Tryz.prog 36 #[s.val, insV 96 jt jf k, d.val] w fun e w' => e = .returned (.tuple #[(⟨mAt s.m k, s.x, s.m⟩ : St).val, .bool true]) ∧ Below w.heap.size w w' := by
  obtain ⟨W, hW, hG, hX, hD, hR, hb⟩ := box4 w (stB s) (insB 96 jt jf k) (.cells d.cells 29) (stB zeroSt)
  have hz := st_zero
  have HG := Lib.hid hG
  have HX := Lib.hid hX
  have HD := Lib.hid hD
  have HR := Lib.hid hR
  have HB := Lib.hid hb
  have HSo := Lib.hid hs
  have HDo := Lib.hid hd
  clear hG hX hD hR hb hs hd
  go_enter Tryz.func36, Tryz.ntmps36
  go_upto_region 1 with fail
  rw [← hW]
  clear hW hz
  have c0 := cell_in HX.out 0
  have c3 := cell_in HX.out 3
  go_wp2_with (refine ld_st HG.out rfl rfl rfl ?_)
  refine (cell_any s k _ HSo.out hk).mono ?_
  rintro e w1 ⟨rfl, hb1⟩
  have HG1 := Lib.hid (kb hb1 HG.out)
  have HR1 := Lib.hid (kb hb1 HR.out)
  have HB1 := Lib.hid (below2 HB.out (hb1.mono (Nat.le_refl _)))
  clear hb1 c0 c3
  obtain ⟨v, hv⟩ : ∃ v, v = mAt s.m k := ⟨_, rfl⟩
  rw [← hv]
  have HV := Lib.hid hv
  clear hv
  go_wp2_with (first | (refine st_fld (set_a s v) HG1.out (by omega) rfl rfl rfl rfl ?_; intro W1 hp1; have HP1 := Lib.hid hp1; clear hp1) | (refine ld_st HP1.out.row rfl rfl rfl ?_) | (refine st_st (HP1.out.keep (by omega) HR1.out) rfl rfl rfl rfl rfl ?_; intro W2 hp2; have HP2 := Lib.hid hp2; clear hp2))
  (try simp only [Exit.inBlock, Exit.then])
  exact bodyPost_ret (results_st rfl rfl rfl HP2.out.row) rfl ⟨by rw [HV.out], HP2.out.below (HP1.out.below HB1.out (by omega)) (by omega)⟩

set_option maxHeartbeats 1000000 in
theorem step_o97 (s : St) (jt jf : Int) (k : Nat) (d : Rec) (w : World) (hs : s.ok) (hk : k < 4294967296) (hd : d.ok) :
    Calls Tryz.prog 36 #[s.val, insV 97 jt jf k, d.val] w fun e w' => e = .returned (.tuple #[(⟨s.a, mAt s.m k, s.m⟩ : St).val, .bool true]) ∧ Below w.heap.size w w' := by
  obtain ⟨W, hW, hG, hX, hD, hR, hb⟩ := box4 w (stB s) (insB 97 jt jf k) (.cells d.cells 29) (stB zeroSt)
  have hz := st_zero
  have HG := Lib.hid hG
  have HX := Lib.hid hX
  have HD := Lib.hid hD
  have HR := Lib.hid hR
  have HB := Lib.hid hb
  have HSo := Lib.hid hs
  have HDo := Lib.hid hd
  clear hG hX hD hR hb hs hd
  go_enter Tryz.func36, Tryz.ntmps36
  go_upto_region 1 with fail
  rw [← hW]
  clear hW hz
  have c0 := cell_in HX.out 0
  have c3 := cell_in HX.out 3
  go_wp2_with (refine ld_st HG.out rfl rfl rfl ?_)
  refine (cell_any s k _ HSo.out hk).mono ?_
  rintro e w1 ⟨rfl, hb1⟩
  have HG1 := Lib.hid (kb hb1 HG.out)
  have HR1 := Lib.hid (kb hb1 HR.out)
  have HB1 := Lib.hid (below2 HB.out (hb1.mono (Nat.le_refl _)))
  clear hb1 c0 c3
  obtain ⟨v, hv⟩ : ∃ v, v = mAt s.m k := ⟨_, rfl⟩
  rw [← hv]
  have HV := Lib.hid hv
  clear hv
  go_wp2_with (first | (refine st_fld (set_x s v) HG1.out (by omega) rfl rfl rfl rfl ?_; intro W1 hp1; have HP1 := Lib.hid hp1; clear hp1) | (refine ld_st HP1.out.row rfl rfl rfl ?_) | (refine st_st (HP1.out.keep (by omega) HR1.out) rfl rfl rfl rfl rfl ?_; intro W2 hp2; have HP2 := Lib.hid hp2; clear hp2))
  (try simp only [Exit.inBlock, Exit.then])
  exact bodyPost_ret (results_st rfl rfl rfl HP2.out.row) rfl ⟨by rw [HV.out], HP2.out.below (HP1.out.below HB1.out (by omega)) (by omega)⟩

set_option maxHeartbeats 1000000 in
theorem step_o2 (s : St) (jt jf : Int) (k : Nat) (d : Rec) (w : World) (hs : s.ok) (hk : k < 4294967296) (hd : d.ok) :
    Calls Tryz.prog 36 #[s.val, insV 2 jt jf k, d.val] w fun e w' => e = .returned (.tuple #[(⟨s.a, s.x, s.m.set k s.a⟩ : St).val, .bool true]) ∧ Below w.heap.size w w' := by
  obtain ⟨W, hW, hG, hX, hD, hR, hb⟩ := box4 w (stB s) (insB 2 jt jf k) (.cells d.cells 29) (stB zeroSt)
  have hz := st_zero
  have HG := Lib.hid hG
  have HX := Lib.hid hX
  have HD := Lib.hid hD
  have HR := Lib.hid hR
  have HB := Lib.hid hb
  have HSo := Lib.hid hs
  have HDo := Lib.hid hd
  clear hG hX hD hR hb hs hd
  go_enter Tryz.func36, Tryz.ntmps36
  go_upto_region 1 with fail
  rw [← hW]
  clear hW hz
  have c0 := cell_in HX.out 0
  have c3 := cell_in HX.out 3
  have f0 := (cell_in HG.out 0).trans (st_a s)
  go_wp2_with (refine ld_st HG.out rfl rfl rfl ?_)
  refine (withCell_any s k s.a _ HSo.out hk).mono ?_
  rintro e w1 ⟨rfl, hb1⟩
  have HG1 := Lib.hid (kb hb1 HG.out)
  have HR1 := Lib.hid (kb hb1 HR.out)
  have HB1 := Lib.hid (below2 HB.out (hb1.mono (Nat.le_refl _)))
  clear hb1 c0 c3 f0
  go_wp2_with (first | (refine st_st HG1.out rfl rfl rfl rfl rfl ?_; intro W1 hp1; have HP1 := Lib.hid hp1; clear hp1) | (refine ld_st HP1.out.row rfl rfl rfl ?_) | (refine st_st (HP1.out.keep (by omega) HR1.out) rfl rfl rfl rfl rfl ?_; intro W2 hp2; have HP2 := Lib.hid hp2; clear hp2))
  (try simp only [Exit.inBlock, Exit.then])
  exact bodyPost_ret (results_st rfl rfl rfl HP2.out.row) rfl ⟨rfl, HP2.out.below (HP1.out.below HB1.out (by omega)) (by omega)⟩

set_option maxHeartbeats 1000000 in
theorem step_o3 (s : St) (jt jf : Int) (k : Nat) (d : Rec) (w : World) (hs : s.ok) (hk : k < 4294967296) (hd : d.ok) :
    Calls Tryz.prog 36 #[s.val, insV 3 jt jf k, d.val] w fun e w' => e = .returned (.tuple #[(⟨s.a, s.x, s.m.set k s.x⟩ : St).val, .bool true]) ∧ Below w.heap.size w w' := by
  obtain ⟨W, hW, hG, hX, hD, hR, hb⟩ := box4 w (stB s) (insB 3 jt jf k) (.cells d.cells 29) (stB zeroSt)
  have hz := st_zero
  have HG := Lib.hid hG
  have HX := Lib.hid hX
  have HD := Lib.hid hD
  have HR := Lib.hid hR
  have HB := Lib.hid hb
  have HSo := Lib.hid hs
  have HDo := Lib.hid hd
  clear hG hX hD hR hb hs hd
  go_enter Tryz.func36, Tryz.ntmps36
  go_upto_region 1 with fail
  rw [← hW]
  clear hW hz
  have c0 := cell_in HX.out 0
  have c3 := cell_in HX.out 3
  have f1 := (cell_in HG.out 1).trans (st_x s)
  go_wp2_with (refine ld_st HG.out rfl rfl rfl ?_)
  refine (withCell_any s k s.x _ HSo.out hk).mono ?_
  rintro e w1 ⟨rfl, hb1⟩
  have HG1 := Lib.hid (kb hb1 HG.out)
  have HR1 := Lib.hid (kb hb1 HR.out)
  have HB1 := Lib.hid (below2 HB.out (hb1.mono (Nat.le_refl _)))
  clear hb1 c0 c3 f1
  go_wp2_with (first | (refine st_st HG1.out rfl rfl rfl rfl rfl ?_; intro W1 hp1; have HP1 := Lib.hid hp1; clear hp1) | (refine ld_st HP1.out.row rfl rfl rfl ?_) | (refine st_st (HP1.out.keep (by omega) HR1.out) rfl rfl rfl rfl rfl ?_; intro W2 hp2; have HP2 := Lib.hid hp2; clear hp2))
  (try simp only [Exit.inBlock, Exit.then])
  exact bodyPost_ret (results_st rfl rfl rfl HP2.out.row) rfl ⟨rfl, HP2.out.below (HP1.out.below HB1.out (by omega)) (by omega)⟩

set_option maxHeartbeats 1000000 in
theorem step_else (s : St) (op jt jf : Int) (k : Nat) (d : Rec) (w : World) (hs : s.ok) (hk : k < 4294967296) (hd : d.ok) (ht : OTab w) (h0 : (op == 0) = false) (h1 : (op == 1) = false) (h32 : (op == 32) = false) (h96 : (op == 96) = false) (h97 : (op == 97) = false) (h2 : (op == 2) = false) (h3 : (op == 3) = false) (h7 : (op == 7) = false) (h135 : (op == 135) = false) (h132 : (op == 132) = false) :
    Calls Tryz.prog 36 #[s.val, insV op jt jf k, d.val] w fun e w' => e = .returned (.tuple #[(calcS s ⟨op, jt, jf, k⟩).val, .bool (goesS s ⟨op, jt, jf, k⟩)]) ∧ Below w.heap.size w w' := by
  obtain ⟨W, hW, hG, hX, hD, hR, hb⟩ := box4 w (stB s) (insB op jt jf k) (.cells d.cells 29) (stB zeroSt)
  have hz := st_zero
  have HG := Lib.hid hG
  have HX := Lib.hid hX
  have HD := Lib.hid hD
  have HR := Lib.hid hR
  have HB := Lib.hid hb
  have HT := Lib.hid (ht.below hb)
  have HSo := Lib.hid hs
  have HDo := Lib.hid hd
  clear ht hG hX hD hR hb hs hd
  go_enter Tryz.func36, Tryz.ntmps36
  go_upto_region 1 with fail
  rw [← hW]
  clear hW hz
  have c0 := cell_in HX.out 0
  have c3 := cell_in HX.out 3
  have c1 := cell_in HX.out 1
  have c2 := cell_in HX.out 2
  go_wp2_with (refine ld_st HG.out rfl rfl rfl ?_)
  refine (calculate_any s op jt jf k _ HSo.out hk HT.out).mono ?_
  rintro e w1 ⟨rfl, hb1⟩
  have HR1 := Lib.hid (kb hb1 HR.out)
  have HB1 := Lib.hid (below2 HB.out (hb1.mono (Nat.le_refl _)))
  clear hb1 c0 c1 c2 c3
  obtain ⟨s', hs'⟩ : ∃ s', s' = calcS s ⟨op, jt, jf, k⟩ := ⟨_, rfl⟩
  obtain ⟨g', hg'⟩ : ∃ g', g' = goesS s ⟨op, jt, jf, k⟩ := ⟨_, rfl⟩
  rw [← hs', ← hg']
  have HS' := Lib.hid hs'
  have HG' := Lib.hid hg'
  clear hs' hg'
  go_wp2_with (refine st_st HR1.out rfl rfl rfl rfl rfl ?_; intro W2 hp2; have HP2 := Lib.hid hp2; clear hp2)
  (try simp only [Exit.inBlock, Exit.then])
  exact bodyPost_ret (results_st rfl rfl rfl HP2.out.row) rfl ⟨by rw [HS'.out, HG'.out], HP2.out.below HB1.out (by omega)⟩

theorem alu_o : aluB 0 = false ∧ aluB 1 = false ∧ aluB 32 = false ∧ aluB 96 = false ∧ aluB 97 = false ∧ aluB 2 = false ∧ aluB 3 = false ∧ aluB 7 = false ∧ aluB 135 = false ∧ aluB 132 = false := by decide
theorem step_any (s : St) (op jt jf : Int) (k : Nat) (d : Rec) (w : World) (hs : s.ok) (hk : k < 4294967296) (hd : d.ok) (ht : OTab w) :
    Calls Tryz.prog 36 #[s.val, insV op jt jf k, d.val] w fun e w' => e = .returned (.tuple #[(stepS s ⟨op, jt, jf, k⟩ d).val, .bool (goesS s ⟨op, jt, jf, k⟩)]) ∧ Below w.heap.size w w' := by
  obtain ⟨a0, a1, a32, a96, a97, a2, a3, a7, a135, a132⟩ := alu_o
  by_cases e0 : op = 0
  · subst e0
    have hg : goesS s ⟨0, jt, jf, k⟩ = true := by simp [goesS, a0]
    refine (step_o0 s jt jf k d w hs hk hd).mono fun e w' h => ⟨h.1.trans ?_, h.2⟩
    rw [hg]
    simp [stepS, a0]
  by_cases e1 : op = 1
  · subst e1
    have hg : goesS s ⟨1, jt, jf, k⟩ = true := by simp [goesS, a1]
    refine (step_o1 s jt jf k d w hs hk hd).mono fun e w' h => ⟨h.1.trans ?_, h.2⟩
    rw [hg]
    simp [stepS, a1]
  by_cases e32 : op = 32
  · subst e32
    have hg : goesS s ⟨32, jt, jf, k⟩ = true := by simp [goesS, a32]
    refine (step_o32 s jt jf k d w hs hk hd).mono fun e w' h => ⟨h.1.trans ?_, h.2⟩
    rw [hg]
    simp [stepS, a32]
  by_cases e96 : op = 96
  · subst e96
    have hg : goesS s ⟨96, jt, jf, k⟩ = true := by simp [goesS, a96]
    refine (step_o96 s jt jf k d w hs hk hd).mono fun e w' h => ⟨h.1.trans ?_, h.2⟩
    rw [hg]
    simp [stepS, a96, mAt]
  by_cases e97 : op = 97
  · subst e97
    have hg : goesS s ⟨97, jt, jf, k⟩ = true := by simp [goesS, a97]
    refine (step_o97 s jt jf k d w hs hk hd).mono fun e w' h => ⟨h.1.trans ?_, h.2⟩
    rw [hg]
    simp [stepS, a97, mAt]
  by_cases e2 : op = 2
  · subst e2
    have hg : goesS s ⟨2, jt, jf, k⟩ = true := by simp [goesS, a2]
    refine (step_o2 s jt jf k d w hs hk hd).mono fun e w' h => ⟨h.1.trans ?_, h.2⟩
    rw [hg]
    simp [stepS, a2]
  by_cases e3 : op = 3
  · subst e3
    have hg : goesS s ⟨3, jt, jf, k⟩ = true := by simp [goesS, a3]
    refine (step_o3 s jt jf k d w hs hk hd).mono fun e w' h => ⟨h.1.trans ?_, h.2⟩
    rw [hg]
    simp [stepS, a3]
  by_cases e7 : op = 7
  · subst e7
    have hg : goesS s ⟨7, jt, jf, k⟩ = true := by simp [goesS, a7]
    refine (step_o7 s jt jf k d w hs hk hd).mono fun e w' h => ⟨h.1.trans ?_, h.2⟩
    rw [hg]
    simp [stepS, a7]
  by_cases e135 : op = 135
  · subst e135
    have hg : goesS s ⟨135, jt, jf, k⟩ = true := by simp [goesS, a135]
    refine (step_o135 s jt jf k d w hs hk hd).mono fun e w' h => ⟨h.1.trans ?_, h.2⟩
    rw [hg]
    simp [stepS, a135]
  by_cases e132 : op = 132
  · subst e132
    have hg : goesS s ⟨132, jt, jf, k⟩ = true := by simp [goesS, a132]
    refine (step_o132 s jt jf k d w hs hk hd).mono fun e w' h => ⟨h.1.trans ?_, h.2⟩
    rw [hg]
    simp [stepS, a132]
  have hst : stepS s ⟨op, jt, jf, k⟩ d = calcS s ⟨op, jt, jf, k⟩ := by
    unfold stepS calcS
    cases hB : aluB op
    · simp [e0, e1, e32, e96, e97, e2, e3, e7, e135, e132]
    · simp
  rw [hst]
  exact step_else s op jt jf k d w hs hk hd ht (by simpa using e0) (by simpa using e1) (by simpa using e32) (by simpa using e96) (by simpa using e97) (by simpa using e2) (by simpa using e3) (by simpa using e7) (by simpa using e135) (by simpa using e132)

end Go.Proofs.YtbekkdhlfkongaaGreatDoor
/-
  What run.Takes and run.skips answer.
-/
namespace Go.Proofs.YtbekkdhlfkongaaGreatDoor
open Go.ChangeShapes Go.WideShapes Go.ChangeAt Go.RowKit
set_option maxRecDepth 20000

set_option maxHeartbeats 1000000 in
theorem takes_o21 (s : St) (jt jf : Int) (k : Nat) (w : World) :
    Calls Tryz.prog 70 #[s.val, insV 21 jt jf k] w fun e w' => e = .returned (.bool ((s.a : Int) == (k : Int))) ∧ Below w.heap.size w w' := by
  obtain ⟨W, hW, hG, hX, hb⟩ := box2 w (stB s) (insB 21 jt jf k)
  have HG := Lib.hid hG
  have HX := Lib.hid hX
  have HB := Lib.hid hb
  clear hG hX hb
  go_enter Tryz.func70, Tryz.ntmps70
  go_upto_region 1 with fail
  rw [← hW]
  clear hW
  have c0 := cell_in HX.out 0
  have f0 := (cell_in HG.out 0).trans (st_a s)
  have c3 := cell_in HX.out 3
  go_wp2_with fail
  go_ret
  exact ⟨rfl, HB.out⟩

set_option maxHeartbeats 1000000 in
theorem takes_o37 (s : St) (jt jf : Int) (k : Nat) (w : World) :
    Calls Tryz.prog 70 #[s.val, insV 37 jt jf k] w fun e w' => e = .returned (.bool (decide (k < s.a))) ∧ Below w.heap.size w w' := by
  obtain ⟨W, hW, hG, hX, hb⟩ := box2 w (stB s) (insB 37 jt jf k)
  have HG := Lib.hid hG
  have HX := Lib.hid hX
  have HB := Lib.hid hb
  clear hG hX hb
  go_enter Tryz.func70, Tryz.ntmps70
  go_upto_region 1 with fail
  rw [← hW]
  clear hW
  have c0 := cell_in HX.out 0
  have f0 := (cell_in HG.out 0).trans (st_a s)
  have c3 := cell_in HX.out 3
  go_wp2_with fail
  go_ret
  exact ⟨rfl, HB.out⟩

set_option maxHeartbeats 1000000 in
theorem takes_o53 (s : St) (jt jf : Int) (k : Nat) (w : World) :
    Calls Tryz.prog 70 #[s.val, insV 53 jt jf k] w fun e w' => e = .returned (.bool (decide (k ≤ s.a))) ∧ Below w.heap.size w w' := by
  obtain ⟨W, hW, hG, hX, hb⟩ := box2 w (stB s) (insB 53 jt jf k)
  have HG := Lib.hid hG
  have HX := Lib.hid hX
  have HB := Lib.hid hb
  clear hG hX hb
  go_enter Tryz.func70, Tryz.ntmps70
  go_upto_region 1 with fail
  rw [← hW]
  clear hW
  have c0 := cell_in HX.out 0
  have f0 := (cell_in HG.out 0).trans (st_a s)
  have c3 := cell_in HX.out 3
  go_wp2_with fail
  go_ret
  exact ⟨rfl, HB.out⟩

set_option maxHeartbeats 1000000 in
theorem takes_o69 (s : St) (jt jf : Int) (k : Nat) (w : World) :
    Calls Tryz.prog 70 #[s.val, insV 69 jt jf k] w fun e w' => e = .returned (.bool (!(bits .and .u32 (s.a : Int) (k : Int) == 0))) ∧ Below w.heap.size w w' := by
  obtain ⟨W, hW, hG, hX, hb⟩ := box2 w (stB s) (insB 69 jt jf k)
  have HG := Lib.hid hG
  have HX := Lib.hid hX
  have HB := Lib.hid hb
  clear hG hX hb
  go_enter Tryz.func70, Tryz.ntmps70
  go_upto_region 1 with fail
  rw [← hW]
  clear hW
  have c0 := cell_in HX.out 0
  have f0 := (cell_in HG.out 0).trans (st_a s)
  have c3 := cell_in HX.out 3
  go_wp2_with fail
  go_ret
  exact ⟨rfl, HB.out⟩

set_option maxHeartbeats 1000000 in
theorem takes_o29 (s : St) (jt jf : Int) (k : Nat) (w : World) :
    Calls Tryz.prog 70 #[s.val, insV 29 jt jf k] w fun e w' => e = .returned (.bool ((s.a : Int) == (s.x : Int))) ∧ Below w.heap.size w w' := by
  obtain ⟨W, hW, hG, hX, hb⟩ := box2 w (stB s) (insB 29 jt jf k)
  have HG := Lib.hid hG
  have HX := Lib.hid hX
  have HB := Lib.hid hb
  clear hG hX hb
  go_enter Tryz.func70, Tryz.ntmps70
  go_upto_region 1 with fail
  rw [← hW]
  clear hW
  have c0 := cell_in HX.out 0
  have f0 := (cell_in HG.out 0).trans (st_a s)
  have f1 := (cell_in HG.out 1).trans (st_x s)
  go_wp2_with fail
  go_ret
  exact ⟨rfl, HB.out⟩

set_option maxHeartbeats 1000000 in
theorem takes_o45 (s : St) (jt jf : Int) (k : Nat) (w : World) :
    Calls Tryz.prog 70 #[s.val, insV 45 jt jf k] w fun e w' => e = .returned (.bool (decide (s.x < s.a))) ∧ Below w.heap.size w w' := by
  obtain ⟨W, hW, hG, hX, hb⟩ := box2 w (stB s) (insB 45 jt jf k)
  have HG := Lib.hid hG
  have HX := Lib.hid hX
  have HB := Lib.hid hb
  clear hG hX hb
  go_enter Tryz.func70, Tryz.ntmps70
  go_upto_region 1 with fail
  rw [← hW]
  clear hW
  have c0 := cell_in HX.out 0
  have f0 := (cell_in HG.out 0).trans (st_a s)
  have f1 := (cell_in HG.out 1).trans (st_x s)
  go_wp2_with fail
  go_ret
  exact ⟨rfl, HB.out⟩

set_option maxHeartbeats 1000000 in
theorem takes_o61 (s : St) (jt jf : Int) (k : Nat) (w : World) :
    Calls Tryz.prog 70 #[s.val, insV 61 jt jf k] w fun e w' => e = .returned (.bool (decide (s.x ≤ s.a))) ∧ Below w.heap.size w w' := by
  obtain ⟨W, hW, hG, hX, hb⟩ := box2 w (stB s) (insB 61 jt jf k)
  have HG := Lib.hid hG
  have HX := Lib.hid hX
  have HB := Lib.hid hb
  clear hG hX hb
  go_enter Tryz.func70, Tryz.ntmps70
  go_upto_region 1 with fail
  rw [← hW]
  clear hW
  have c0 := cell_in HX.out 0
  have f0 := (cell_in HG.out 0).trans (st_a s)
  have f1 := (cell_in HG.out 1).trans (st_x s)
  go_wp2_with fail
  go_ret
  exact ⟨rfl, HB.out⟩

set_option maxHeartbeats 1000000 in
theorem takes_o77 (s : St) (jt jf : Int) (k : Nat) (w : World) :
    Calls Tryz.prog 70 #[s.val, insV 77 jt jf k] w fun e w' => e = .returned (.bool (!(bits .and .u32 (s.a : Int) (s.x : Int) == 0))) ∧ Below w.heap.size w w' := by
  obtain ⟨W, hW, hG, hX, hb⟩ := box2 w (stB s) (insB 77 jt jf k)
  have HG := Lib.hid hG
  have HX := Lib.hid hX
  have HB := Lib.hid hb
  clear hG hX hb
  go_enter Tryz.func70, Tryz.ntmps70
  go_upto_region 1 with fail
  rw [← hW]
  clear hW
  have c0 := cell_in HX.out 0
  have f0 := (cell_in HG.out 0).trans (st_a s)
  have f1 := (cell_in HG.out 1).trans (st_x s)
  go_wp2_with fail
  go_ret
  exact ⟨rfl, HB.out⟩

set_option maxHeartbeats 1000000 in
theorem takes_else (s : St) (op jt jf : Int) (k : Nat) (w : World) (h21 : (op == 21) = false) (h29 : (op == 29) = false) (h37 : (op == 37) = false) (h45 : (op == 45) = false) (h53 : (op == 53) = false) (h61 : (op == 61) = false) (h69 : (op == 69) = false) (h77 : (op == 77) = false) :
    Calls Tryz.prog 70 #[s.val, insV op jt jf k] w fun e w' => e = .returned (.bool (false)) ∧ Below w.heap.size w w' := by
  obtain ⟨W, hW, hG, hX, hb⟩ := box2 w (stB s) (insB op jt jf k)
  have HG := Lib.hid hG
  have HX := Lib.hid hX
  have HB := Lib.hid hb
  clear hG hX hb
  go_enter Tryz.func70, Tryz.ntmps70
  go_upto_region 1 with fail
  rw [← hW]
  clear hW
  have c0 := cell_in HX.out 0
  go_wp2_with fail
  go_ret
  exact ⟨rfl, HB.out⟩

theorem beq_cast (a b : Nat) : ((a : Int) == (b : Int)) = (a == b) := Bool.eq_iff_iff.2 (by simp [Int.natCast_inj])
theorem takes_any (s : St) (op jt jf : Int) (k : Nat) (w : World) :
    Calls Tryz.prog 70 #[s.val, insV op jt jf k] w fun e w' => e = .returned (.bool (takesS s ⟨op, jt, jf, k⟩)) ∧ Below w.heap.size w w' := by
  by_cases e21 : op = 21
  · subst e21
    exact (takes_o21 s jt jf k w).mono fun e w' h => ⟨h.1.trans (by simp [takesS]), h.2⟩
  by_cases e29 : op = 29
  · subst e29
    exact (takes_o29 s jt jf k w).mono fun e w' h => ⟨h.1.trans (by simp [takesS, beq_cast]), h.2⟩
  by_cases e37 : op = 37
  · subst e37
    exact (takes_o37 s jt jf k w).mono fun e w' h => ⟨h.1.trans (by simp [takesS]), h.2⟩
  by_cases e45 : op = 45
  · subst e45
    exact (takes_o45 s jt jf k w).mono fun e w' h => ⟨h.1.trans (by simp [takesS]), h.2⟩
  by_cases e53 : op = 53
  · subst e53
    exact (takes_o53 s jt jf k w).mono fun e w' h => ⟨h.1.trans (by simp [takesS]), h.2⟩
  by_cases e61 : op = 61
  · subst e61
    exact (takes_o61 s jt jf k w).mono fun e w' h => ⟨h.1.trans (by simp [takesS]), h.2⟩
  by_cases e69 : op = 69
  · subst e69
    exact (takes_o69 s jt jf k w).mono fun e w' h => ⟨h.1.trans (by simp [takesS, bne]), h.2⟩
  by_cases e77 : op = 77
  · subst e77
    exact (takes_o77 s jt jf k w).mono fun e w' h => ⟨h.1.trans (by simp [takesS, bne]), h.2⟩
  refine (takes_else s op jt jf k w (by simpa using e21) (by simpa using e29) (by simpa using e37) (by simpa using e45) (by simpa using e53) (by simpa using e61) (by simpa using e69) (by simpa using e77)).mono fun e w' h => ⟨h.1.trans ?_, h.2⟩
  simp [takesS, e21, e29, e37, e45, e53, e61, e69, e77]

/-- How many instructions a run leaves out behind an instruction. -/
def skipS (s : St) (x : X4) : Int := if x.op = 5 then x.k else if isBranch x.op then (if takesS s x then x.jt else x.jf) else 0
theorem skip_place (s : St) (x : X4) (p : Nat) (hx : x.ok) (h1 : 0 ≤ x.jt) (h2 : 0 ≤ x.jf) : ((placeS s x p : Nat) : Int) = p + skipS s x + 1 ∧ 0 ≤ skipS s x := by
  have hk := hx.1
  unfold placeS skipS
  split
  · omega
  · split
    · split <;> omega
    · omega
set_option maxHeartbeats 1000000 in
theorem skips_any (s : St) (op jt jf : Int) (k : Nat) (w : World) (hk : k < 4294967296) (ht : OTab w) :
    Calls Tryz.prog 37 #[s.val, insV op jt jf k] w fun e w' => e = .returned (.int .i64 (skipS s ⟨op, jt, jf, k⟩)) ∧ Below w.heap.size w w' := by
  obtain ⟨W, hW, hG, hX, hb⟩ := box2 w (stB s) (insB op jt jf k)
  have HG := Lib.hid hG
  have HX := Lib.hid hX
  have HB := Lib.hid hb
  have HT := Lib.hid (ht.below hb)
  clear hG hX hb ht
  go_enter Tryz.func37, Tryz.ntmps37
  go_upto_region 1 with fail
  rw [← hW]
  clear hW
  have c0 := cell_in HX.out 0
  have c1 := cell_in HX.out 1
  have c2 := cell_in HX.out 2
  have c3 := cell_in HX.out 3
  cases h5 : (op == 5)
  · have n5 : ¬ op = 5 := by simpa using h5
    have HE : Hid (skipS s ⟨op, jt, jf, k⟩ = if isBranch op then (if takesS s ⟨op, jt, jf, k⟩ then jt else jf) else 0) := Lib.hid (by simp [skipS, n5])
    clear n5
    go_wp2_with fail
    refine (branch_any op jt jf k _ HT.out).mono ?_
    rintro e w1 ⟨rfl, hb1⟩
    have HG1 := Lib.hid (kb hb1 HG.out)
    have HX1 := Lib.hid (kb hb1 HX.out)
    have HB1 := Lib.hid (below2 HB.out hb1)
    clear hb1 c0 c1 c2 c3
    cases hB : isBranch op
    · rw [hB] at HE
      clear hB
      go_wp2_with fail
      go_ret
      exact ⟨by rw [HE.out]; rfl, HB1.out⟩
    · rw [hB] at HE
      clear hB
      have c0 := cell_in HX1.out 0
      have c1 := cell_in HX1.out 1
      have c2 := cell_in HX1.out 2
      have c3 := cell_in HX1.out 3
      go_wp2_with (refine ld_st HG1.out rfl rfl rfl ?_)
      refine (takes_any s op jt jf k _).mono ?_
      rintro e w2 ⟨rfl, hb2⟩
      have HX2 := Lib.hid (kb hb2 HX1.out)
      have HB2 := Lib.hid (below2 HB1.out hb2)
      clear hb2 c0 c1 c2 c3
      have c1 := cell_in HX2.out 1
      have c2 := cell_in HX2.out 2
      cases hT : takesS s ⟨op, jt, jf, k⟩
      · rw [hT] at HE
        clear hT
        go_wp2_with fail
        go_ret
        exact ⟨by rw [HE.out]; rfl, HB2.out⟩
      · rw [hT] at HE
        clear hT
        go_wp2_with fail
        go_ret
        exact ⟨by rw [HE.out]; rfl, HB2.out⟩
  · have n5 : op = 5 := by simpa using h5
    have HE : Hid (skipS s ⟨op, jt, jf, k⟩ = k) := Lib.hid (by simp [skipS, n5])
    clear n5
    go_wp2_with fail
    go_ret
    exact ⟨by rw [HE.out]; rfl, HB.out⟩
end Go.Proofs.YtbekkdhlfkongaaGreatDoor
/-
  What run.Run answers, for any filter that lies in a world, and any record.
-/
namespace Go.Proofs.YtbekkdhlfkongaaGreatDoor
open Go.ChangeShapes Go.WideShapes Go.ChangeAt Go.RowKit
set_option maxRecDepth 20000

/-- So many instructions are done; what is left gives the rest. -/
def RunsTo (l : List X4) (d : Rec) (s : St) (p c : Nat) : Prop := runS l d = ((fromS l d (l.length - p) s p).1, (fromS l d (l.length - p) s p).2 + c)
theorem runsTo_start (l : List X4) (d : Rec) : RunsTo l d zeroSt 0 0 := rfl
theorem len_succ {n p : Nat} (h : p < n) : n - p = (n - p - 1) + 1 := by omega
section
variable {l : List X4} {d : Rec} {s : St} {p c : Nat}
theorem runsTo_ret (h : RunsTo l d s p c) (hp : p < l.length) (h6 : (l.getD p zeroX).op = 6) : runS l d = ((l.getD p zeroX).k.toNat, c + 1) := by
  unfold RunsTo at h
  rw [len_succ hp, fromS_succ, if_pos h6] at h
  rw [h]
  simp only [Prod.mk.injEq, true_and]
  omega
theorem runsTo_reta (h : RunsTo l d s p c) (hp : p < l.length) (h6 : (l.getD p zeroX).op = 22) : runS l d = (s.a, c + 1) := by
  unfold RunsTo at h
  rw [len_succ hp, fromS_succ, if_neg (by omega), if_pos h6] at h
  rw [h]
  simp only [Prod.mk.injEq, true_and]
  omega
theorem runsTo_kill (h : RunsTo l d s p c) (hp : p < l.length) (h6 : ¬ (l.getD p zeroX).op = 6) (h22 : ¬ (l.getD p zeroX).op = 22) (hg : goesS s (l.getD p zeroX) = false) : runS l d = (0, c + 1) := by
  unfold RunsTo at h
  rw [len_succ hp, fromS_succ, if_neg h6, if_neg h22, if_pos hg] at h
  rw [h]
  simp only [Prod.mk.injEq, true_and]
  omega
theorem runsTo_next (h : RunsTo l d s p c) (hs : SoundL l) (hok : ∀ x ∈ l, x.ok) (hp : p < l.length) (h6 : ¬ (l.getD p zeroX).op = 6) (h22 : ¬ (l.getD p zeroX).op = 22) (hg : goesS s (l.getD p zeroX) = true) :
    RunsTo l d (stepS s (l.getD p zeroX) d) (placeS s (l.getD p zeroX) p) (c + 1) := by
  obtain ⟨q1, q2⟩ := placeS_in hs hok hp s (ends_op.2 ⟨h6, h22⟩)
  unfold RunsTo at h ⊢
  rw [len_succ hp, fromS_succ, if_neg h6, if_neg h22, if_neg (by rw [hg]; decide)] at h
  rw [fromS_more hs hok d (l.length - p - 1) (l.length - placeS s (l.getD p zeroX) p) _ _ q2 (by omega) (by omega)] at h
  rw [h]
  simp only [Prod.mk.injEq, true_and]
  omega
end
theorem nat_k {x : X4} (h : x.ok) : ∃ k : Nat, x.k = k ∧ k < 4294967296 := ⟨x.k.toNat, by have := h.1; omega, by have := h.1; have := h.2; omega⟩
theorem retRun {l : List X4} {d : Rec} {a b : Nat} {x y : Int} (h : runS l d = (a, b)) (hx : x = a) (hy : y = b) : Ending.returned (.tuple #[.int .u32 x, .int .i64 y, .int .i64 0]) = .returned (.tuple #[.int .u32 ((runS l d).1 : Nat), .int .i64 ((runS l d).2 : Nat), .int .i64 0]) := by rw [h, hx, hy]

theorem branch_all : ∀ i, i < 39 → isBranch (Ip.refOps.getD i 0) = true → Ip.refOps.getD i 0 ∈ ([21, 29, 37, 45, 53, 61, 69, 77] : List Int) := by decide +kernel
theorem branch_ops {op : Int} (h : isBranch op = true) : op ∈ ([21, 29, 37, 45, 53, 61, 69, 77] : List Int) := by
  rcases Ip.plc_cases op with ⟨i, hi, _, hq, _, _⟩ | ⟨_, hb⟩
  · rw [hq] at h ⊢
    exact branch_all i hi h
  · unfold isBranch at h
    rw [hb] at h
    cases h
/-- A branch leaves the state as it is. -/
theorem step_branch (s : St) (x : X4) (d : Rec) (h : isBranch x.op = true) : stepS s x d = s := by
  have ha : aluB 21 = false ∧ aluB 29 = false ∧ aluB 37 = false ∧ aluB 45 = false ∧ aluB 53 = false ∧ aluB 61 = false ∧ aluB 69 = false ∧ aluB 77 = false := by decide
  obtain ⟨a1, a2, a3, a4, a5, a6, a7, a8⟩ := ha
  have := branch_ops h
  simp only [List.mem_cons, List.not_mem_nil, or_false] at this
  rcases this with e | e | e | e | e | e | e | e <;> simp [stepS, e, a1, a2, a3, a4, a5, a6, a7, a8]
theorem skip_step (s : St) (x : X4) (d : Rec) : skipS (stepS s x d) x = skipS s x := by
  unfold skipS
  by_cases h5 : x.op = 5
  · rw [if_pos h5, if_pos h5]
  · rw [if_neg h5, if_neg h5]
    cases hB : isBranch x.op
    · rfl
    · rw [step_branch s x d hB]
theorem insX {w : World} {g : Nat} {op jt jf k : Int} (h : w.heap[g]? = some (insB op jt jf k)) : w.cell? ⟨g, 0, none⟩ = some (.int .i64 op) ∧ w.cell? ⟨g, 1, none⟩ = some (.int .i64 jt) ∧ w.cell? ⟨g, 2, none⟩ = some (.int .i64 jf) ∧ w.cell? ⟨g, 3, none⟩ = some (.int .u32 k) :=
  ⟨cell_in h 0, cell_in h 1, cell_in h 2, cell_in h 3⟩

set_option maxHeartbeats 4000000 in
theorem run_any (v : Value) (l : List X4) (d : Rec) (w : World) (hF : FAt w v l) (hok : ∀ x ∈ l, x.ok) (hd : d.ok) (ht : OTab w) (hs : soundB l = true) :
    Calls Tryz.prog 12 #[v, d.val] w fun e w' => e = .returned (.tuple #[.int .u32 ((runS l d).1 : Nat), .int .i64 ((runS l d).2 : Nat), .int .i64 0]) ∧ Below w.heap.size w w' := by
  have HS := soundB_iff.1 hs
  have hpos : 0 < l.length := HS.1
  have hlen : l.length ≤ 4096 := HS.2.1
  have HSd := Lib.hid HS
  have HF := Lib.hid hF
  have HO := Lib.hid hok
  have HDo := Lib.hid hd
  have HT := Lib.hid ht
  obtain ⟨ao, cap, rfl, hF'⟩ := hF
  have HD0 := Lib.hid (heap_alloc_new w (.cells d.cells 29))
  have HB0 := Lib.hid (ba (.cells d.cells 29) (Below.refl w.heap.size w))
  rcases hF' with h0 | ⟨b, off, rfl, hb, hc⟩
  · rw [h0] at hpos; simp at hpos
  have HC := Lib.hid hc
  clear hc hd ht hok HS
  go_enter Tryz.func12, Tryz.ntmps12
  go_wp2_with fail
  go_step3
  go_wp2_with fail
  refine (sound_any _ l _ (HF.out.below HB0.out) HO.out (HT.out.below HB0.out)).mono ?_
  rintro e w1 ⟨rfl, hb1⟩
  rw [hs]
  have HD1 := Lib.hid (kb hb1 HD0.out)
  have HB1 := Lib.hid (below2 HB0.out (hb1.mono (Nat.le_refl _)))
  clear hb1 hs
  have hz := st_zero
  have HG0 := Lib.hid (heap_alloc_new w1 (stB zeroSt))
  have HD2 := Lib.hid (ka (stB zeroSt) HD1.out)
  have HB2 := Lib.hid (ba (stB zeroSt) HB1.out)
  have hgs : w.heap.size < w1.heap.size := lt_of_block HD1.out
  go_wp2_with fail
  go_step3
  go_wp2_with fail
  clear hz
  go_loopw [8, 9, 10] (fun r cn i wr => ∃ (s : St) (p c : Nat), p < l.length ∧ c ≤ p ∧ r = .int .u32 0 ∧ cn = .int .i64 c ∧ i = .int .i64 p ∧ s.ok ∧ RunsTo l d s p c ∧ wr.heap[w1.heap.size]? = some (stB s) ∧ wr.heap[w.heap.size]? = some (.cells d.cells 29) ∧ Below w.heap.size w wr) (fun _ _ i _ => l.length - (intOf i).toNat)
  case atStart => exact ⟨zeroSt, 0, 0, hpos, by omega, rfl, rfl, rfl, zeroSt_ok, runsTo_start l d, HG0.out, HD2.out, HB2.out⟩
  case round =>
    clear HG0 HD2 HB2 HD1 HB1 HD0 HB0
    obtain ⟨s, p, c, hp, hcp, rfl, rfl, rfl, hso, hrt, hg, hdd, hbw⟩ := hrel
    have HG := Lib.hid hg
    have HDD := Lib.hid hdd
    have HB := Lib.hid hbw
    have HSo := Lib.hid hso
    have HRT := Lib.hid hrt
    have HTW := Lib.hid (HT.out.below hbw)
    obtain ⟨q0, q1, q2, q3⟩ := HC.out p hp
    have d0 := (hbw.cell (p := ⟨b, _, none⟩) hb).trans q0
    have d1 := (hbw.cell (p := ⟨b, _, none⟩) hb).trans q1
    have d2 := (hbw.cell (p := ⟨b, _, none⟩) hb).trans q2
    have d3 := (hbw.cell (p := ⟨b, _, none⟩) hb).trans q3
    have HXo := Lib.hid (HO.out _ (List.getElem_mem hp))
    have HXE := Lib.hid (getD_at hp)
    have HXJ := Lib.hid (right_jumps (one_right (by have h := HSd.out.2.2.1 p hp; rw [badAt_at hp] at h; exact h)))
    generalize l[p] = x at d0 d1 d2 d3 HXo HXE HXJ
    obtain ⟨op, jt, jf, kk⟩ := x
    obtain ⟨k, hk, hk4⟩ := nat_k HXo.out
    simp only at hk
    subst hk
    have HX0 := Lib.hid (heap_alloc_new wr (insB op jt jf k))
    have HG1 := Lib.hid (ka (insB op jt jf k) HG.out)
    have HDD1 := Lib.hid (ka (insB op jt jf k) HDD.out)
    have HB1 := Lib.hid (ba (insB op jt jf k) HB.out)
    have HT1 := Lib.hid (HTW.out.alloc (insB op jt jf k))
    have hgw : w1.heap.size < wr.heap.size := lt_of_block hg
    clear hg hdd hbw hso hrt q0 q1 q2 q3
    cases h6 : (op == 6)
    · have n6 : ¬ op = 6 := by simpa using h6
      have N6 := Lib.hid n6
      clear n6
      cases h22 : (op == 22)
      · have n22 : ¬ op = 22 := by simpa using h22
        have N22 := Lib.hid n22
        clear n22
        obtain ⟨x0, x1, x2, x3, x4, x5, x6, x7, x8⟩ := rec_cells HDD1.out
        have hz := st_zero
        go_wp2_with (refine ld_st HG1.out rfl rfl rfl ?_)
        refine (step_any s op jt jf k d _ HSo.out hk4 HDo.out HT1.out).mono ?_
        rintro e w2 ⟨rfl, hb2⟩
        have HX2 := Lib.hid (kb hb2 HX0.out)
        have HG2 := Lib.hid (kb hb2 HG1.out)
        have HDD2 := Lib.hid (kb hb2 HDD1.out)
        have HB2 := Lib.hid (HB1.out.trans (hb2.mono HB1.out.size))
        have HN2 := Lib.hid (heap_alloc_new w2 (stB zeroSt))
        have HX3 := Lib.hid (ka (stB zeroSt) HX2.out)
        have HG3 := Lib.hid (ka (stB zeroSt) HG2.out)
        have HDD3 := Lib.hid (ka (stB zeroSt) HDD2.out)
        have HB3 := Lib.hid (ba (stB zeroSt) HB2.out)
        have hz1 := lt_of_block HX2.out
        have hz2 := lt_of_block HG2.out
        clear hb2 x0 x1 x2 x3 x4 x5 x6 x7 x8 HX0 HG1 HDD1 HX2 HG2 HDD2 HB2
        obtain ⟨s', hs'⟩ : ∃ s', s' = stepS s ⟨op, jt, jf, k⟩ d := ⟨_, rfl⟩
        rw [← hs']
        have HS' := Lib.hid hs'
        clear hs'
        cases hgo : goesS s ⟨op, jt, jf, k⟩
        · have HE := Lib.hid (runsTo_kill HRT.out hp (by rw [HXE.out]; exact N6.out) (by rw [HXE.out]; exact N22.out) (by rw [HXE.out]; exact hgo))
          clear hgo
          go_wp2_with (refine st_st HN2.out rfl rfl rfl rfl rfl ?_; intro W4 hp4; have HP4 := Lib.hid hp4; clear hp4)
          rw [Exit.noGoto_ret]
          go_ret3
          exact ⟨retRun HE.out rfl (by omega), HP4.out.below HB3.out (by omega)⟩
        · have HNX := Lib.hid (runsTo_next HRT.out HSd.out HO.out hp (by rw [HXE.out]; exact N6.out) (by rw [HXE.out]; exact N22.out) (by rw [HXE.out]; exact hgo))
          have HPL := Lib.hid (placeS_in HSd.out HO.out hp s (ends_op.2 ⟨by rw [HXE.out]; exact N6.out, by rw [HXE.out]; exact N22.out⟩))
          rw [HXE.out, ← HS'.out] at HNX
          rw [HXE.out] at HPL
          have HSo' := Lib.hid (stepS_ok (d := d) HSo.out HXo.out HDo.out)
          rw [← HS'.out] at HSo'
          clear hgo hz
          go_wp2_with (first | (refine st_st HN2.out rfl rfl rfl rfl rfl ?_; intro W4 hp4; have HP4 := Lib.hid hp4; clear hp4) | (refine ld_st HP4.out.row rfl rfl rfl ?_) | (refine st_st (HP4.out.keep (by omega) HG3.out) rfl rfl rfl rfl rfl ?_; intro W5 hp5; have HP5 := Lib.hid hp5; clear hp5; obtain ⟨y0, y1, y2, y3⟩ := insX (HP5.out.keep (by omega) (HP4.out.keep (by omega) HX3.out))) | (refine ld_st HP5.out.row rfl rfl rfl ?_))
          have HB5 := Lib.hid (HP5.out.below (HP4.out.below HB3.out (by omega)) (by omega))
          have HG5 := Lib.hid HP5.out.row
          have HDD5 := Lib.hid (HP5.out.keep (by omega) (HP4.out.keep (by omega) HDD3.out))
          refine (skips_any s' op jt jf k _ hk4 (HT.out.below HB5.out)).mono ?_
          rintro e w6 ⟨rfl, hb6⟩
          have HB6 := Lib.hid (HB5.out.trans (hb6.mono HB5.out.size))
          have HG6 := Lib.hid (kb hb6 HG5.out)
          have HDD6 := Lib.hid (kb hb6 HDD5.out)
          obtain ⟨k1, k2⟩ := skip_place s ⟨op, jt, jf, k⟩ p HXo.out HXJ.out.1 HXJ.out.2.1
          clear hb6 y0 y1 y2 y3
          rw [← skip_step s _ d, ← HS'.out] at k1 k2
          have hpb := HPL.out
          obtain ⟨q, hq⟩ : ∃ q, q = skipS s' ⟨op, jt, jf, k⟩ := ⟨_, rfl⟩
          obtain ⟨P, hP⟩ : ∃ P, P = placeS s ⟨op, jt, jf, k⟩ p := ⟨_, rfl⟩
          rw [← hq] at k1 k2 ⊢
          rw [← hP] at k1 hpb HNX
          clear hq hP HPL
          obtain ⟨hp1, hp2⟩ := hpb
          have HK := Lib.hid k1
          have k3 : (p : Int) + q ≤ 4096 := by omega
          have hp' : (p : Int) ≤ 4096 := by omega
          have hq' : q ≤ 4096 := by omega
          have hc' : (c : Int) ≤ 4096 := by omega
          clear k1
          go_wp2_with fail
          go_roundw
          case rel => exact ⟨s', P, c + 1, hp2, by omega, rfl, by go_num, by rw [HK.out], HSo'.out, HNX.out, HG6.out, HDD6.out, HB6.out⟩
          case measure =>
            have := HK.out
            simp [intOf]
            omega
      · have o6 : op = 22 := by simpa using h22
        have HE := Lib.hid (runsTo_reta HRT.out hp (by rw [HXE.out]; exact o6))
        have f0 := (cell_in HG1.out 0).trans (st_a s)
        clear o6
        go_wp2_with fail
        go_ret3
        exact ⟨retRun HE.out rfl (by omega), HB1.out⟩
    · have o6 : op = 6 := by simpa using h6
      have HE := Lib.hid (runsTo_ret HRT.out hp (by rw [HXE.out]; exact o6))
      rw [HXE.out] at HE
      clear o6
      go_wp2_with fail
      go_ret3
      exact ⟨retRun HE.out (by simp) (by omega), HB1.out⟩
end Go.Proofs.YtbekkdhlfkongaaGreatDoor
/-
  Code that grows at its front, plainly: what Add, Jump and Branch make of it; that it stays sound, and that a run from a label is what it was.
-/
namespace Go.Proofs.YtbekkdhlfkongaaGreatDoor
open Go.RowKit

abbrev G3 := List X4 × Int × Int
def isLab (c : List X4) (l : Int) : Bool := decide (1 ≤ l) && decide (l ≤ c.length)
theorem isLab_iff {c : List X4} {l : Int} : isLab c l = true ↔ 1 ≤ l ∧ l ≤ c.length := by unfold isLab; simp
/-- A jump to a label. -/
def jaTo (c : List X4) (q : Int) : X4 := ⟨5, 0, 0, (c.length : Int) - q⟩
def plainX (x : X4) : Bool := x.right && !(x.op == 5) && !isBranch x.op
def addN (c : List X4) (x : X4) : G3 := if plainX x then (x :: c, (c.length : Int) + 1, 0) else (c, 0, 1)
def jumpN (c : List X4) (q : Int) : G3 := if isLab c q then (if q = c.length then (c, q, 0) else (jaTo c q :: c, (c.length : Int) + 1, 0)) else (c, 0, 4)
/-- The code, and the label, by which a branch comes to a label. -/
def nearN (c : List X4) (q : Int) : List X4 × Int := if (c.length : Int) - q ≤ 254 then (c, q) else (jaTo c q :: c, (c.length : Int) + 1)
def brX (op k : Int) (c : List X4) (t f : Int) : X4 := ⟨op, (c.length : Int) - t, (c.length : Int) - f, k⟩
/-- The code of both labels' jumps. -/
def nearC (c : List X4) (t f : Int) : List X4 := (nearN (nearN c t).1 f).1
def brTo (c : List X4) (op k t f : Int) : X4 := brX op k (nearC c t f) (nearN c t).2 (nearN (nearN c t).1 f).2
def branchN (c : List X4) (op k t f : Int) : G3 :=
  if right op 0 0 k && isBranch op then (if isLab c t && isLab c f then (brTo c op k t f :: nearC c t f, ((nearC c t f).length : Int) + 1, 0) else (c, 0, 4)) else (c, 0, 1)

/-! ### Lengths, ends, numbers -/
theorem nearN_cases (c : List X4) (q : Int) : ((c.length : Int) - q ≤ 254 ∧ nearN c q = (c, q)) ∨ (254 < (c.length : Int) - q ∧ nearN c q = (jaTo c q :: c, (c.length : Int) + 1)) := by
  unfold nearN
  split
  · exact .inl ⟨by assumption, rfl⟩
  · exact .inr ⟨by omega, rfl⟩
theorem nearN_len (c : List X4) (q : Int) : c.length ≤ (nearN c q).1.length ∧ (nearN c q).1.length ≤ c.length + 1 := by
  rcases nearN_cases c q with ⟨_, h⟩ | ⟨_, h⟩ <;> rw [h] <;> simp
theorem nearN_end (c : List X4) (q : Int) : ∃ p, (nearN c q).1 = p ++ c := by
  rcases nearN_cases c q with ⟨_, h⟩ | ⟨_, h⟩ <;> rw [h]
  · exact ⟨[], rfl⟩
  · exact ⟨[jaTo c q], rfl⟩
theorem nearN_lab {c : List X4} {q : Int} (h : isLab c q = true) : isLab (nearN c q).1 (nearN c q).2 = true ∧ ((nearN c q).1.length : Int) - (nearN c q).2 ≤ 254 := by
  rw [isLab_iff] at h
  rcases nearN_cases c q with ⟨h1, h2⟩ | ⟨h1, h2⟩ <;> rw [h2, isLab_iff]
  · simp only; omega
  · simp only [List.length_cons]; omega
theorem lab_more {c d : List X4} {l : Int} (h : isLab c l = true) (hl : c.length ≤ d.length) : isLab d l = true := by
  rw [isLab_iff] at h ⊢
  omega
theorem nearC_len (c : List X4) (t f : Int) : c.length ≤ (nearC c t f).length ∧ (nearC c t f).length ≤ c.length + 2 := by
  have h1 := nearN_len c t
  have h2 := nearN_len (nearN c t).1 f
  unfold nearC
  omega
theorem nearC_end (c : List X4) (t f : Int) : ∃ p, nearC c t f = p ++ c := by
  obtain ⟨p, hp⟩ := nearN_end c t
  obtain ⟨q, hq⟩ := nearN_end (nearN c t).1 f
  exact ⟨q ++ p, by unfold nearC; rw [hq, hp, List.append_assoc]⟩
/-- Where the branch goes: at most 255 on, and to labels. -/
theorem nearC_bd {c : List X4} {t f : Int} (ht : isLab c t = true) (hf : isLab c f = true) :
    isLab (nearC c t f) (nearN c t).2 = true ∧ isLab (nearC c t f) (nearN (nearN c t).1 f).2 = true ∧ ((nearC c t f).length : Int) - (nearN c t).2 ≤ 255 ∧ ((nearC c t f).length : Int) - (nearN (nearN c t).1 f).2 ≤ 255 := by
  obtain ⟨a1, a2⟩ := nearN_lab ht
  have l1 := nearN_len c t
  obtain ⟨b1, b2⟩ := nearN_lab (lab_more hf l1.1)
  have l2 := nearN_len (nearN c t).1 f
  unfold nearC
  exact ⟨lab_more a1 l2.1, b1, by omega, by omega⟩
theorem ok_cons {x : X4} {f : List X4} (hx : x.ok) (h : ∀ y ∈ f, y.ok) : ∀ y ∈ x :: f, y.ok := fun y hy => by
  rcases List.mem_cons.1 hy with rfl | hy
  · exact hx
  · exact h y hy
theorem ja_ok {c : List X4} {q : Int} (h : isLab c q = true) (hl : c.length ≤ 4000) : (jaTo c q).ok := by
  rw [isLab_iff] at h
  exact ⟨by show 0 ≤ (c.length : Int) - q; omega, by show (c.length : Int) - q ≤ 4294967295; omega⟩
theorem nearN_ok {c : List X4} {q : Int} (h : isLab c q = true) (hl : c.length ≤ 4000) (hk : ∀ x ∈ c, x.ok) : ∀ x ∈ (nearN c q).1, x.ok := by
  rcases nearN_cases c q with ⟨_, h2⟩ | ⟨_, h2⟩ <;> rw [h2]
  · exact hk
  · exact ok_cons (ja_ok h hl) hk
theorem nearC_ok {c : List X4} {t f : Int} (ht : isLab c t = true) (hf : isLab c f = true) (hl : c.length ≤ 3900) (hk : ∀ x ∈ c, x.ok) : ∀ x ∈ nearC c t f, x.ok := by
  have l1 := nearN_len c t
  exact nearN_ok (lab_more hf l1.1) (by omega) (nearN_ok ht (by omega) hk)

/-! ### Acts -/
structure A4 where
  kind : Int
  x : X4
  t : Nat
  f : Nat
/-- What each of the three answers: the code as it was, or what stands behind a jump, an instruction or a branch. -/
theorem addN_len (c : List X4) (x : X4) : c.length ≤ (addN c x).1.length ∧ (addN c x).1.length ≤ c.length + 3 := by
  unfold addN
  split <;> simp
theorem jumpN_len (c : List X4) (t : Int) : c.length ≤ (jumpN c t).1.length ∧ (jumpN c t).1.length ≤ c.length + 3 := by
  unfold jumpN
  repeat' split
  all_goals simp
theorem branchN_len (c : List X4) (op k t f : Int) : c.length ≤ (branchN c op k t f).1.length ∧ (branchN c op k t f).1.length ≤ c.length + 3 := by
  have := nearC_len c t f
  unfold branchN
  repeat' split
  all_goals simp
  omega
/-! ### Sound code -/
theorem sound_cons {l : List X4} {x : X4} (h : SoundL l) (hl : l.length ≤ 4000) (hz : oneE x l.length = 0) : SoundL (x :: l) := by
  obtain ⟨h0, h1, hg, he⟩ := h
  refine ⟨by simp, by simp; omega, ?_, ?_⟩
  · intro i hi
    match i with
    | 0 =>
      unfold badAt
      rw [List.getD_cons_zero, List.length_cons, show (((l.length + 1 : Nat) : Int) - 1 - ((0 : Nat) : Int)) = (l.length : Int) by omega]
      exact hz
    | i + 1 =>
      have h2 := hg i (by simpa using hi)
      unfold badAt at h2 ⊢
      rw [List.getD_cons_succ, List.length_cons, show (((l.length + 1 : Nat) : Int) - 1 - ((i + 1 : Nat) : Int)) = (l.length : Int) - 1 - (i : Int) by omega]
      exact h2
  · unfold lastX at he ⊢
    rw [List.length_cons, Nat.add_sub_cancel, show l.length = (l.length - 1) + 1 by omega, List.getD_cons_succ]
    exact he
theorem right_ja (k : Int) : right 5 0 0 k = true := by
  have h1 : (Ip.byOp 5).isSome = true := by decide
  have h2 : Ip.hasK ((Ip.byOp 5).getD Ip.zeroRow).fmt = true := by decide
  have h3 : Ip.hasJ ((Ip.byOp 5).getD Ip.zeroRow).fmt = false := by decide
  unfold right Ip.fits
  rw [h1, h2, h3]
  rfl
theorem right_branch {op k jt jf : Int} (hr : right op 0 0 k = true) (hb : isBranch op = true) (h0 : 0 ≤ jt) (h1 : jt ≤ 255) (h2 : 0 ≤ jf) (h3 : jf ≤ 255) : right op jt jf k = true := by
  unfold isBranch at hb
  rw [Bool.and_eq_true] at hb
  unfold right Ip.fits at hr ⊢
  rw [hb.1, hb.2] at hr ⊢
  have e1 : Ip.isJ jt = true := by unfold Ip.isJ; simp; omega
  have e2 : Ip.isJ jf = true := by unfold Ip.isJ; simp; omega
  simp only [Bool.true_and, if_true, Bool.and_eq_true] at hr ⊢
  exact ⟨hr.1, e1, e2⟩
theorem one_ja {k n : Int} (h0 : 0 ≤ k) (h : k < n) : oneE ⟨5, 0, 0, k⟩ n = 0 := by
  have hr : (⟨5, 0, 0, k⟩ : X4).right = true := right_ja k
  rw [one_kind _ _ h0, hr]
  have hk : kindOf 5 = 5 := by decide
  simp only [hk, Bool.true_eq_false, if_false]
  have : (holdsB 5 0 0 k n) = true := by unfold holdsB; simpa using h
  rw [this]
  rfl
theorem one_branch {op k jt jf n : Int} (hk : 0 ≤ k) (hr : right op 0 0 k = true) (hb : isBranch op = true) (h0 : 0 ≤ jt) (h1 : jt ≤ 255) (h2 : 0 ≤ jf) (h3 : jf ≤ 255) (ht : jt < n) (hf : jf < n) : oneE ⟨op, jt, jf, k⟩ n = 0 := by
  have hr : (⟨op, jt, jf, k⟩ : X4).right = true := right_branch hr hb h0 h1 h2 h3
  rw [one_kind _ _ hk, hr]
  rw [branch_kind] at hb
  have hb : kindOf op = 6 := by simpa using hb
  simp only [hb, Bool.true_eq_false, if_false]
  have : (holdsB 6 jt jf k n) = true := by unfold holdsB; simp; omega
  rw [this]
  rfl
theorem nearN_sound {c : List X4} {q : Int} (h : isLab c q = true) (hl : c.length ≤ 3998) (hs : SoundL c) : SoundL (nearN c q).1 := by
  rcases nearN_cases c q with ⟨_, h2⟩ | ⟨_, h2⟩ <;> rw [h2]
  · exact hs
  · rw [isLab_iff] at h
    exact sound_cons hs (by omega) (one_ja (by omega) (by omega))
theorem nearC_sound {c : List X4} {t f : Int} (ht : isLab c t = true) (hf : isLab c f = true) (hl : c.length ≤ 3900) (hs : SoundL c) : SoundL (nearC c t f) := by
  have l1 := nearN_len c t
  exact nearN_sound (lab_more hf l1.1) (by omega) (nearN_sound ht (by omega) hs)
theorem brTo_one {c : List X4} {op k t f : Int} (hk : 0 ≤ k) (hr : right op 0 0 k = true) (hb : isBranch op = true) (ht : isLab c t = true) (hf : isLab c f = true) : oneE (brTo c op k t f) (nearC c t f).length = 0 := by
  obtain ⟨h1, h2, h3, h4⟩ := nearC_bd ht hf
  rw [isLab_iff] at h1 h2
  unfold brTo brX
  exact one_branch hk hr hb (by omega) (by omega) (by omega) (by omega) (by omega) (by omega)

/-! ### Runs from a label -/
/-- What comes of a run from a label. -/
def labR (c : List X4) (d : Rec) (s : St) (l : Int) : Nat := (fromS c d c.length s ((c.length : Int) - l).toNat).1
theorem labR_any {c : List X4} (hs : SoundL c) (hok : ∀ x ∈ c, x.ok) (d : Rec) (s : St) {l : Int} (hl : isLab c l = true) (n : Nat) (hn : l ≤ n) : (fromS c d n s ((c.length : Int) - l).toNat).1 = labR c d s l := by
  rw [isLab_iff] at hl
  unfold labR
  rw [fromS_more hs hok d n c.length s _ (by omega) (by omega) (by omega)]
theorem labR_cons {c : List X4} (hs : SoundL c) (hok : ∀ x ∈ c, x.ok) (x : X4) (d : Rec) (s : St) {l : Int} (hl : isLab c l = true) : labR (x :: c) d s l = labR c d s l := by
  have h := isLab_iff.1 hl
  have e : (((x :: c).length : Int) - l).toNat = [x].length + ((c.length : Int) - l).toNat := by simp only [List.length_cons, List.length_nil]; omega
  show (fromS (x :: c) d _ s _).1 = _
  rw [e]
  have e2 := fromS_behind [x] c d (x :: c).length s ((c.length : Int) - l).toNat
  rw [List.cons_append, List.nil_append] at e2
  rw [e2]
  exact labR_any hs hok d s hl _ (by rw [List.length_cons]; omega)
theorem alu_not {op : Int} (h : op = 5 ∨ isBranch op = true) : aluB op = false := by
  rcases h with rfl | h
  · exact alu5
  · have := branch_ops h
    simp only [List.mem_cons, List.not_mem_nil, or_false] at this
    rcases this with rfl | rfl | rfl | rfl | rfl | rfl | rfl | rfl <;> decide
theorem labR_step {c : List X4} (x : X4) (d : Rec) (s : St) (hx : x.op = 5 ∨ isBranch x.op = true) (P : Nat) (hP : placeS s x 0 = P + 1) :
    labR (x :: c) d s ((c.length : Int) + 1) = (fromS c d c.length s P).1 := by
  have ha := alu_not hx
  have hn : ¬ x.op = 6 ∧ ¬ x.op = 22 ∧ ¬ x.op = 0 ∧ ¬ x.op = 1 ∧ ¬ x.op = 32 ∧ ¬ x.op = 96 ∧ ¬ x.op = 97 ∧ ¬ x.op = 2 ∧ ¬ x.op = 3 ∧ ¬ x.op = 7 ∧ ¬ x.op = 135 ∧ ¬ x.op = 132 := by
    rcases hx with h | h
    · omega
    · have := branch_ops h
      simp only [List.mem_cons, List.not_mem_nil, or_false] at this
      omega
  have hg : goesS s x = true := by unfold goesS; rw [ha]; rfl
  have hst : stepS s x d = s := by
    obtain ⟨_, _, n0, n1, n32, n96, n97, n2, n3, n7, n135, n132⟩ := hn
    unfold stepS
    rw [ha, if_neg (by decide), if_neg n0, if_neg n1, if_neg n32, if_neg n96, if_neg n97, if_neg n2, if_neg n3, if_neg n7, if_neg n135, if_neg n132]
  unfold labR
  rw [show (((x :: c).length : Int) - ((c.length : Int) + 1)).toNat = 0 by rw [List.length_cons]; omega, List.length_cons, fromS_succ, List.getD_cons_zero, if_neg hn.1, if_neg hn.2.1, hg, if_neg (by decide), hst, hP]
  simp only
  have e2 := fromS_behind [x] c d c.length s P
  rw [List.cons_append, List.nil_append, List.length_singleton, Nat.add_comm] at e2
  rw [e2]
theorem labR_ja {c : List X4} (d : Rec) (s : St) (q : Int) : labR (jaTo c q :: c) d s ((c.length : Int) + 1) = labR c d s q := by
  rw [labR_step (jaTo c q) d s (.inl rfl) ((c.length : Int) - q).toNat]
  · rfl
  · unfold placeS jaTo
    rw [if_pos rfl]
    simp only
    omega
theorem labR_near {c : List X4} (d : Rec) (s : St) (q : Int) : labR (nearN c q).1 d s (nearN c q).2 = labR c d s q := by
  rcases nearN_cases c q with ⟨_, h2⟩ | ⟨_, h2⟩ <;> rw [h2]
  exact labR_ja d s q
theorem labR_nearO {c : List X4} (hs : SoundL c) (hok : ∀ x ∈ c, x.ok) (d : Rec) (s : St) (q : Int) {l : Int} (hl : isLab c l = true) : labR (nearN c q).1 d s l = labR c d s l := by
  rcases nearN_cases c q with ⟨_, h2⟩ | ⟨_, h2⟩ <;> rw [h2]
  exact labR_cons hs hok _ d s hl
theorem labR_branch {c : List X4} (hs : SoundL c) (hok : ∀ x ∈ c, x.ok) (hlen : c.length ≤ 3900) (d : Rec) (s : St) {op k t f : Int} (hb : isBranch op = true) (ht : isLab c t = true) (hf : isLab c f = true) :
    labR (brTo c op k t f :: nearC c t f) d s (((nearC c t f).length : Int) + 1) = labR c d s (if takesS s ⟨op, 0, 0, k⟩ then t else f) := by
  obtain ⟨h1, h2, h3, h4⟩ := nearC_bd ht hf
  have g1 := isLab_iff.1 h1
  have g2 := isLab_iff.1 h2
  have l1 := nearN_len c t
  have hs1 := nearN_sound ht (by omega) hs
  have hok1 := nearN_ok ht (by omega) hok
  have hf1 := lab_more hf l1.1
  have h5 : ¬ op = 5 := fun h => by rw [h] at hb; revert hb; decide
  have hop : (brTo c op k t f).op = op := rfl
  rw [labR_step (brTo c op k t f) d s (.inr hb) (((nearC c t f).length : Int) - (if takesS s ⟨op, 0, 0, k⟩ then (nearN c t).2 else (nearN (nearN c t).1 f).2)).toNat]
  · show labR (nearC c t f) d s _ = _
    cases takesS s ⟨op, 0, 0, k⟩
    · simp only [Bool.false_eq_true, if_false]
      unfold nearC
      rw [labR_near d s f, labR_nearO hs hok d s t hf]
    · simp only [if_true]
      unfold nearC
      rw [labR_nearO hs1 hok1 d s f (nearN_lab ht).1, labR_near d s t]
  · unfold placeS
    rw [hop, if_neg h5, if_pos hb, show takesS s (brTo c op k t f) = takesS s ⟨op, 0, 0, k⟩ from rfl]
    unfold brTo brX
    cases takesS s ⟨op, 0, 0, k⟩
    · simp only [Bool.false_eq_true, if_false]
      omega
    · simp only [if_true]
      omega

/-! ### What an act does -/
end Go.Proofs.YtbekkdhlfkongaaGreatDoor
/-
  Masks: what is so of numbers, as the bits of a number.
-/
namespace Go.Proofs.YtbekkdhlfkongaaGreatDoor
open Go.RowKit

/-- A mask's number. -/
def maskN (P : Nat → Bool) : Nat → Nat
  | 0 => 0
  | n + 1 => maskN P n + (if P n then 2 ^ n else 0)
theorem maskN_lt (P : Nat → Bool) : ∀ n, maskN P n < 2 ^ n
  | 0 => by simp [maskN]
  | n + 1 => by
    have := maskN_lt P n
    rw [maskN, Nat.pow_succ]
    split <;> omega
theorem maskN_bit (P : Nat → Bool) : ∀ n i, i < n → (maskN P n).testBit i = P i
  | 0, _, h => by omega
  | n + 1, i, h => by
    have hlt := maskN_lt P n
    rw [maskN]
    by_cases hi : i = n
    · subst hi
      cases hP : P i
      · rw [if_neg (by decide), Nat.add_zero]
        exact Nat.testBit_lt_two_pow hlt
      · rw [if_pos rfl, Nat.add_comm, Nat.testBit_two_pow_add_eq, Nat.testBit_lt_two_pow hlt]
        rfl
    · cases hP : P n
      · rw [if_neg (by decide), Nat.add_zero]
        exact maskN_bit P n i (by omega)
      · rw [if_pos rfl, Nat.add_comm, Nat.testBit_two_pow_add_gt (by omega)]
        exact maskN_bit P n i (by omega)
theorem maskN_test (P : Nat → Bool) (n i : Nat) : (maskN P n).testBit i = (decide (i < n) && P i) := by
  by_cases h : i < n
  · rw [maskN_bit P n i h, decide_eq_true h, Bool.true_and]
  · rw [decide_eq_false h, Bool.false_and]
    exact Nat.testBit_lt_two_pow (Nat.lt_of_lt_of_le (maskN_lt P n) (Nat.pow_le_pow_right (by omega) (by omega)))
end Go.Proofs.YtbekkdhlfkongaaGreatDoor
/-
  The document's own way (package hurdleref04): low and number; pieces of bytes.
-/
namespace Go.Proofs.YtbekkdhlfkongaaGreatDoor
open Go.ChangeShapes Go.WideShapes Go.ChangeAt Go.RowKit
set_option maxRecDepth 20000

theorem byte_step (N k : Nat) : N / 2 ^ (8 * k) / 256 = N / 2 ^ (8 * (k + 1)) := by
  rw [Nat.div_div_eq_div_mul, show 8 * (k + 1) = 8 * k + 8 by omega, Nat.pow_add]
theorem numAt_cons (l : List UInt8) (o sz : Nat) : numAt l o (sz + 1) = (l.getD o 0).toNat + 256 * numAt l (o + 1) sz := by
  induction sz with
  | zero => simp [numAt]
  | succ n ih =>
    have e1 : numAt l o (n + 1 + 1) = numAt l o (n + 1) + (l.getD (o + (n + 1)) 0).toNat * 2 ^ (8 * (n + 1)) := rfl
    have e2 : numAt l (o + 1) (n + 1) = numAt l (o + 1) n + (l.getD (o + 1 + n) 0).toNat * 2 ^ (8 * n) := rfl
    rw [e1, ih, e2, show o + 1 + n = o + (n + 1) by omega, show 8 * (n + 1) = 8 * n + 8 by omega, Nat.pow_add, Nat.mul_add]
    have h8 : (2 : Nat) ^ 8 = 256 := by decide
    rw [h8, ← Nat.mul_assoc, Nat.mul_comm _ 256]
    omega

set_option maxHeartbeats 1000000 in
theorem lowb_any (N sz : Nat) (hsz : sz ≤ 8) (hN : N < 18446744073709551616) (w : World) :
    Calls Tryz.prog 151 #[.int .u64 N, .int .i64 sz] w fun e w' => ∃ v', e = .returned v' ∧ w'.ownsRow w.heap.size 5 1 v' sz (bcells (lowBytes N sz)) ∧ Below w.heap.size w w' := by
  obtain ⟨i0, hi, hz0, hz1, hz2⟩ := info_parts info8
  go_enter Tryz.func151, Tryz.ntmps151
  go_wp2_with fail
  go_loopw [0, 5, 6] (fun v u i wr => ∃ k M : Nat, k ≤ sz ∧ M = N / 2 ^ (8 * k) ∧ v = .int .u64 M ∧ i = .int .i64 k ∧ wr.ownsRow w.heap.size 5 1 u k (bcells (lowBytes N k)) ∧ Below w.heap.size w wr) (fun _ _ i _ => sz - (intOf i).toNat)
  case atStart => exact ⟨0, N, by omega, by simp, rfl, rfl, by simpa [lowBytes] using World.ownsRow_nil _ _ _ _, Below.refl _ _⟩
  case round =>
    obtain ⟨k, M, hk, hM, rfl, rfl, hO1, hB1⟩ := hrel
    have HO1 := Lib.hid hO1
    have HB1 := Lib.hid hB1
    have hbw := hB1.size
    have hM64 : M < 18446744073709551616 := by rw [hM]; exact Nat.lt_of_le_of_lt (Nat.div_le_self _ _) hN
    have HV : Hid (bcells [byteAt N k] = [.int .u8 ((M : Int) % 256)]) := Lib.hid (by
      simp only [List.map_cons, List.map_nil, byteAt_val, ← hM]
      simp)
    have HM2 : Hid (M / 256 = N / 2 ^ (8 * (k + 1))) := Lib.hid (by rw [hM, byte_step])
    clear hO1 hB1 hM
    by_cases hlt : k < sz
    · go_wp2_with (at_builtin; refine wpList_append_own _ rfl _ _ 48 rfl w.heap.size 5 i0 (.int .u8 0) 1 1 Tryz.underlying48 hi hz0 hz1 hz2 rfl (by decide) _ _ _ rfl (HO1.out.alloc _) ⟨wr.heap.size, 0, none⟩ 1 1 [.int .u8 ((M : Int) % 256)] rfl rfl (new_at wr #[.int .u8 ((M : Int) % 256)] 5) (by simp [Value.oneCell']) (by unfold maxLen; omega) (by omega) (by rw [size_alloc]; omega) ?_)
      intro v2 w2 hown2 hgrow2 _
      have HB2 := Lib.hid (grown_below (HB1.out.alloc hbw (.cells #[.int .u8 ((M : Int) % 256)] 5)) (HO1.out.alloc _) hgrow2 (by rw [size_alloc]; omega))
      have HO2 : Hid (w2.ownsRow w.heap.size 5 1 v2 (k + 1) (bcells (lowBytes N (k + 1)))) := Lib.hid (by
        rw [lowBytes_succ, bcells_app, HV.out]
        exact hown2)
      clear hgrow2 hown2 HO1 HB1 HV
      go_wp2_with fail
      go_roundw
      case rel => exact ⟨k + 1, M / 256, by omega, HM2.out, by go_num, by go_num, HO2.out, HB2.out⟩
      case measure => simp [intOf]; omega
    · obtain rfl : k = sz := by omega
      go_wp2_with fail
      go_ret
      exact ⟨_, rfl, HO1.out, HB1.out⟩

set_option maxHeartbeats 1000000 in
theorem num_any (v : Value) (b : List UInt8) (w : World) (hb : BAt w v b) (h8 : b.length ≤ 8) :
    Calls Tryz.prog 126 #[v] w fun e w' => e = .returned (.int .u64 ((numAt b 0 b.length : Nat) : Int)) ∧ w = w' := by
  obtain ⟨ao, cap, rfl, hcap, hmax, hD⟩ := hb
  have HD := Lib.hid hD
  clear hD
  go_enter Tryz.func126, Tryz.ntmps126
  go_wp2_with fail
  go_loop [3, 4] (fun u i => ∃ (j M : Nat) (z : Int), j ≤ b.length ∧ z = (j : Int) - 1 ∧ i = .int .i64 z ∧ M = numAt b j (b.length - j) ∧ u = .int .u64 M) (fun _ i => (intOf i + 1).toNat)
  case atStart => exact ⟨b.length, 0, (b.length : Int) - 1, by omega, rfl, rfl, by simp [numAt], rfl⟩
  case round =>
    obtain ⟨j, M, z, hj, hz, rfl, hM, rfl⟩ := hrel
    have HM := Lib.hid hM
    by_cases h0 : 0 < j
    · obtain ⟨g, off, rfl, hg, hc⟩ : ∃ g off, ao = some ⟨g, off, none⟩ ∧ g < w.heap.size ∧ ∀ i (h : i < b.length), w.cell? ⟨g, off + i, none⟩ = some (.int .u8 ((b[i]).toNat : Int)) := by
        rcases HD.out with h0' | h
        · rw [h0'] at hj; simp at hj; omega
        · exact h
      obtain ⟨i, rfl⟩ : ∃ i, j = i + 1 := ⟨j - 1, by omega⟩
      obtain rfl : z = (i : Int) := by omega
      have hMl : M < 2 ^ 56 := by
        rw [hM]
        refine Nat.lt_of_lt_of_le (numAt_lt _ _ _) (Nat.pow_le_pow_right (by omega) (by omega))
      have c0 : w.cell? ⟨g, off + i, none⟩ = some (.int .u8 ((b.getD i 0).toNat : Int)) := by
        rw [hc i (by omega), List.getD_eq_getElem?_getD, List.getElem?_eq_getElem (by omega)]
        rfl
      have hcl := UInt8.toNat_lt (b.getD i 0)
      have HN : Hid (numAt b i (b.length - i) = (b.getD i 0).toNat + 256 * M) := Lib.hid (by
        rw [show b.length - i = (b.length - (i + 1)) + 1 by omega, numAt_cons, hM])
      generalize (b.getD i 0).toNat = c at *
      clear hc hM hz
      simp at hMl
      go_wp2_with fail
      refine ⟨⟨i, c + 256 * M, (i : Int) - 1, by omega, rfl, by go_num, HN.out.symm, by go_num⟩, by simp [intOf] <;> omega⟩
    · obtain rfl : j = 0 := by omega
      obtain rfl : z = -1 := by omega
      clear hM hz
      rw [Nat.sub_zero] at HM
      go_wp2_with fail
      go_ret
      exact ⟨by rw [HM.out]; rfl, rfl⟩
/-- Pieces of bytes. -/
theorem BAt.sub {w : World} {v : Value} {b : List UInt8} (h : BAt w v b) (lo hi : Nat) (x y : Int) (hx : x = lo) (hy : y = hi) (hlh : lo ≤ hi) (hh : hi ≤ b.length) :
    ∃ v', (∀ W, (Instr.slice 48 v (some (.int .i64 x)) (some (.int .i64 y)) none).run Tryz.prog W = .ok v' W) ∧ BAt w v' ((b.drop lo).take (hi - lo)) := by
  subst hx hy
  obtain ⟨ao, cap, rfl, hcap, hmax, hD⟩ := h
  have hl : ((b.drop lo).take (hi - lo)).length = hi - lo := by rw [List.length_take, List.length_drop]; omega
  rcases hD with rfl | ⟨g, off, rfl, hg, hc⟩
  · simp at hh
    subst hh
    obtain rfl : lo = 0 := by omega
    cases ao with
    | none => exact ⟨.slice none 0 cap, fun W => by go_simp, none, cap, rfl, hcap, hmax, .inl rfl⟩
    | some a => exact ⟨.slice (some a) 0 cap, fun W => by go_simp, some a, cap, rfl, hcap, hmax, .inl rfl⟩
  · by_cases hc1 : cap = lo
    · refine ⟨.slice (some ⟨g, off, none⟩) (hi - lo) 0, fun W => ?_, some ⟨g, off, none⟩, 0, by rw [hl], by omega, by omega, .inl ?_⟩
      · obtain rfl : lo = hi := by omega
        subst hc1
        go_simp
      · exact List.eq_nil_of_length_eq_zero (by omega)
    · refine ⟨.slice (some ⟨g, off + lo, none⟩) (hi - lo) (cap - lo), fun W => ?_, some ⟨g, off + lo, none⟩, cap - lo, by rw [hl], by omega, by omega, .inr ⟨g, off + lo, rfl, hg, fun i hi' => ?_⟩⟩
      · go_simp
        intro h
        omega
      · rw [Nat.add_assoc, hc (lo + i) (by omega)]
        simp
theorem BAt.past {w : World} {v : Value} {b : List UInt8} (h : BAt w v b) (lo : Nat) (x : Int) (hx : x = lo) (hh : lo ≤ b.length) :
    ∃ v', (∀ W, (Instr.slice 48 v (some (.int .i64 x)) none none).run Tryz.prog W = .ok v' W) ∧ BAt w v' (b.drop lo) := by
  subst hx
  obtain ⟨ao, cap, rfl, hcap, hmax, hD⟩ := h
  have hl : (b.drop lo).length = b.length - lo := List.length_drop
  rcases hD with rfl | ⟨g, off, rfl, hg, hc⟩
  · simp at hh
    subst hh
    cases ao with
    | none => exact ⟨.slice none 0 cap, fun W => by go_simp, none, cap, rfl, hcap, hmax, .inl rfl⟩
    | some a => exact ⟨.slice (some a) 0 cap, fun W => by go_simp, some a, cap, rfl, hcap, hmax, .inl rfl⟩
  · by_cases hc1 : cap = lo
    · refine ⟨.slice (some ⟨g, off, none⟩) (b.length - lo) 0, fun W => ?_, some ⟨g, off, none⟩, 0, by rw [hl], by omega, by omega, .inl ?_⟩
      · subst hc1
        go_simp
        (try (intro h; omega))
      · exact List.eq_nil_of_length_eq_zero (by omega)
    · refine ⟨.slice (some ⟨g, off + lo, none⟩) (b.length - lo) (cap - lo), fun W => ?_, some ⟨g, off + lo, none⟩, cap - lo, by rw [hl], by omega, by omega, .inr ⟨g, off + lo, rfl, hg, fun i hi' => ?_⟩⟩
      · go_simp
        (try (intro h; omega))
      · rw [Nat.add_assoc, hc (lo + i) (by omega)]
        simp
theorem numAt_sub (b : List UInt8) (lo n : Nat) (h : lo + n ≤ b.length) : numAt ((b.drop lo).take n) 0 n = numAt b lo n := by
  have e : b = b.take lo ++ ((b.drop lo).take n ++ (b.drop lo).drop n) := by rw [List.take_append_drop, List.take_append_drop]
  have hl : (b.take lo).length = lo := by rw [List.length_take]; omega
  have hr : ((b.drop lo).take n).length = n := by rw [List.length_take, List.length_drop]; omega
  have h1 := numAt_front (b.take lo) ((b.drop lo).take n ++ (b.drop lo).drop n) 0 n
  rw [← e, hl, Nat.add_zero, numAt_behind _ _ _ _ (by rw [hr]; omega)] at h1
  exact h1.symm
end Go.Proofs.YtbekkdhlfkongaaGreatDoor

/-
  The document's own way (package hurdleref04): Bytes.
-/
namespace Go.Proofs.YtbekkdhlfkongaaGreatDoor
open Go.ChangeShapes Go.WideShapes Go.ChangeAt Go.RowKit
set_option maxRecDepth 20000

def argsD (d : Rec) : List Nat := [d.a0, d.a1, d.a2, d.a3, d.a4, d.a5]
theorem low_eight (x : Nat) : lowBytes x 8 = lowBytes (x % 4294967296) 4 ++ lowBytes (x / 4294967296) 4 := by
  simp only [lowBytes, show List.range 8 = [0, 1, 2, 3, 4, 5, 6, 7] from rfl, show List.range 4 = [0, 1, 2, 3] from rfl, List.map_cons, List.map_nil, List.cons_append, List.nil_append, List.cons.injEq, and_true]
  refine ⟨?_, ?_, ?_, ?_, ?_, ?_, ?_, ?_⟩
  all_goals
    apply UInt8.toNat.inj
    simp only [byteAt, UInt8.toNat_ofNat', Nat.mul_zero, Nat.pow_zero, Nat.div_one, Nat.mul_one, Nat.reduceMul, Nat.reducePow]
    try omega
def headR (d : Rec) : List UInt8 := lowBytes d.nr 4 ++ lowBytes d.arch 4 ++ lowBytes d.ip 8
def bytesR (d : Rec) (k : Nat) : List UInt8 := headR d ++ ((argsD d).take k).flatMap (lowBytes · 8)
theorem bytesR_all (d : Rec) : bytesR d 6 = bytesD d := by
  simp only [bytesR, headR, argsD, bytesD, wordsD, List.take_succ_cons, List.take_zero, List.flatMap_cons, List.flatMap_nil, List.append_nil, low_eight, List.append_assoc]
theorem bytesR_next (d : Rec) (k : Nat) (hk : k < 6) : bytesR d (k + 1) = bytesR d k ++ lowBytes ((argsD d).getD k 0) 8 := by
  have hk' : k < (argsD d).length := hk
  rw [bytesR, List.take_succ_eq_append_getElem hk', List.getD_eq_getElem?_getD, List.getElem?_eq_getElem hk', List.flatMap_append, List.flatMap_cons, List.flatMap_nil, List.append_nil, ← List.append_assoc]
  rfl
theorem args_lt {d : Rec} (h : d.ok) (k : Nat) : (argsD d).getD k 0 < 18446744073709551616 := by
  obtain ⟨nr, arch, ip, a0, a1, a2, a3, a4, a5⟩ := d
  obtain ⟨h0, h1, h2, h3, h4, h5, h6, h7, h8⟩ := h
  simp only at h0 h1 h2 h3 h4 h5 h6 h7 h8
  rcases k with _ | _ | _ | _ | _ | _ | k <;> simp [argsD] <;> omega
theorem args_cell (d : Rec) (k : Nat) (hk : k < 6) : d.cells[3 + k]? = some (.int .u64 (((argsD d).getD k 0 : Nat) : Int)) := by
  obtain rfl | rfl | rfl | rfl | rfl | rfl : k = 0 ∨ k = 1 ∨ k = 2 ∨ k = 3 ∨ k = 4 ∨ k = 5 := by omega
  all_goals rfl
theorem own_src {w : World} {base : Nat} {v : Value} {n : Nat} {l : List UInt8} (h : w.ownsRow base 5 1 v n (bcells l)) (hn : n = l.length) : SrcAt w 1 v n (bcells l) := by
  have h1 := (BAt.own h hn).src
  rw [← hn] at h1
  exact h1
/-- low, from a world on. -/
theorem lowb_here {W V : World} (hV : Below W.heap.size W V) (N sz : Nat) (hsz : sz ≤ 8) (hN : N < 18446744073709551616) :
    Calls Tryz.prog 151 #[.int .u64 N, .int .i64 sz] V fun e w' => ∃ v' L, e = .returned v' ∧ Hid (L = lowBytes N sz ∧ sz = L.length) ∧ Hid (w'.ownsRow W.heap.size 5 1 v' sz (bcells L)) ∧ Hid (Below W.heap.size W w') ∧ Hid (Below V.heap.size V w') := by
  refine (lowb_any N sz hsz hN V).mono ?_
  rintro e w' ⟨v', rfl, hO, hB⟩
  exact ⟨v', _, rfl, Lib.hid ⟨rfl, (lowBytes_len _ _).symm⟩, Lib.hid (own_mono hO hV.size), Lib.hid (hV.trans (hB.mono hV.size)), Lib.hid hB⟩
theorem lowb4 {W V : World} (hV : Below W.heap.size W V) (N : Nat) (hN : N < 18446744073709551616) :
    Calls Tryz.prog 151 #[.int .u64 N, .int .i64 4] V fun e w' => ∃ v' L, e = .returned v' ∧ Hid (L = lowBytes N 4 ∧ 4 = L.length) ∧ Hid (w'.ownsRow W.heap.size 5 1 v' 4 (bcells L)) ∧ Hid (Below W.heap.size W w') ∧ Hid (Below V.heap.size V w') := lowb_here hV N 4 (by omega) hN
theorem lowb8 {W V : World} (hV : Below W.heap.size W V) (N : Nat) (hN : N < 18446744073709551616) :
    Calls Tryz.prog 151 #[.int .u64 N, .int .i64 8] V fun e w' => ∃ v' L, e = .returned v' ∧ Hid (L = lowBytes N 8 ∧ 8 = L.length) ∧ Hid (w'.ownsRow W.heap.size 5 1 v' 8 (bcells L)) ∧ Hid (Below W.heap.size W w') ∧ Hid (Below V.heap.size V w') := lowb_here hV N 8 (by omega) hN

set_option maxHeartbeats 4000000 in
theorem rbytes_any (d : Rec) (w : World) (hd : d.ok) :
    Calls Tryz.prog 127 #[d.val] w fun e w' => ∃ v, e = .returned v ∧ w'.ownsRow w.heap.size 5 1 v 64 (bcells (bytesD d)) ∧ Below w.heap.size w w' := by
  obtain ⟨i0, hi, hz0, hz1, hz2⟩ := info_parts info8
  have h0 := hd.1
  have h1 := hd.2.1
  have h2 := hd.2.2.1
  have HK := Lib.hid hd
  clear hd
  go_enter Tryz.func127, Tryz.ntmps127
  go_wp2_with fail
  obtain ⟨W, hW⟩ : ∃ W, W = w.alloc (.cells d.cells 29) := ⟨_, rfl⟩
  have HX : Hid (W.heap[w.heap.size]? = some (.cells d.cells 29)) := Lib.hid (by rw [hW]; exact heap_alloc_new _ _)
  have HW : Hid (Below w.heap.size w W) := Lib.hid (by rw [hW]; exact ba _ (Below.refl _ _))
  rw [← hW]
  have sx := lt_of_block HX.out
  have x0 : W.cell? ⟨w.heap.size, 0, none⟩ = some (.int .u32 d.nr) := cell_in HX.out 0
  have x1 : W.cell? ⟨w.heap.size, 1, none⟩ = some (.int .u32 d.arch) := cell_in HX.out 1
  obtain ⟨n0, hn0⟩ : ∃ n0, n0 = d.nr := ⟨_, rfl⟩
  obtain ⟨n1, hn1⟩ : ∃ n1, n1 = d.arch := ⟨_, rfl⟩
  rw [← hn0] at x0 h0
  rw [← hn1] at x1 h1
  have HN := Lib.hid (And.intro hn0 hn1)
  clear hW hn0 hn1
  have m0 : n0 < 18446744073709551616 := by omega
  have m1 : n1 < 18446744073709551616 := by omega
  have q0 : IntKind.u64.wrap (n0 : Int) = (n0 : Int) := by rw [IntKind.wrap_u64]; omega
  have q1 : IntKind.u64.wrap (n1 : Int) = (n1 : Int) := by rw [IntKind.wrap_u64]; omega
  go_region_held3 (fun w' => w'.cell? ⟨w.heap.size, 0, none⟩ = some (.int .u32 n0) ∧ w'.cell? ⟨w.heap.size, 1, none⟩ = some (.int .u32 n1)) (first | exact ⟨x0, x1⟩ | exact ⟨a0, a1⟩ | go_keep)
    (first
      | (go_at_call 151; refine (lowb4 (W := W) hB8.out _ ?_).mono ?_; exact m1; rintro e w12 ⟨u12, L12, rfl, hL12, hO12, hB12, hb12⟩; have a0 := (hB12.out.cell (p := ⟨w.heap.size, 0, none⟩) sx).trans x0; have a1 := (hB12.out.cell (p := ⟨w.heap.size, 1, none⟩) sx).trans x1)
      | (go_at_call 151; refine (lowb4 (W := W) (bdN (Below.refl _ _) 1) _ ?_).mono ?_; exact m0; rintro e w8 ⟨u8, L8, rfl, hL8, hO8, hB8, hb8⟩; have a0 := (hB8.out.cell (p := ⟨w.heap.size, 0, none⟩) sx).trans x0; have a1 := (hB8.out.cell (p := ⟨w.heap.size, 1, none⟩) sx).trans x1)
      | (refine step_append_src _ (by rfl) _ _ 48 (by rfl) W.heap.size 5 i0 (.int .u8 0) 1 1 Tryz.underlying48 hi hz0 hz1 hz2 (by rfl) (by decide) u8 4 (bcells L8) (by rfl) (own_below hO8.out hb12.out) u12 4 (bcells L12) (by rfl) (own_src hO12.out hL12.out.2) (bcells_one _) (by decide) (by decide) hB12.out.size ?_; intro u13 w13 hO13 hg13; have hB13 := Lib.hid (grown_below hB12.out (own_below hO8.out hb12.out) hg13 hB12.out.size); have a0 := (hB13.out.cell (p := ⟨w.heap.size, 0, none⟩) sx).trans x0; have a1 := (hB13.out.cell (p := ⟨w.heap.size, 1, none⟩) sx).trans x1))
  rename_i hh
  have HO13 : Hid (w13.ownsRow W.heap.size 5 1 u13 8 (bcells (lowBytes d.nr 4 ++ lowBytes d.arch 4))) := Lib.hid (by
    rw [hL8.out.1, hL12.out.1, HN.out.1, HN.out.2] at hO13
    rw [bcells_app]
    exact hO13)
  have hX13 := (hB13.out.block _ sx).trans HX.out
  clear hh a0 a1 hO13 hg13 hL8 hL12 hO8 hO12 hB8 hb8 hB12 hb12 q0 q1 m0 m1 x0 x1 HN
  have x2 : w13.cell? ⟨w.heap.size, 2, none⟩ = some (.int .u64 d.ip) := cell_in hX13 2
  clear hX13
  go_wp2_with fail
  refine (lowb8 (W := W) hB13.out _ h2).mono ?_
  rintro e w17 ⟨u17, L17, rfl, hL17, hO17, hB17, hb17⟩
  clear x2
  go_wp2_with (at_builtin; refine wpList_append_src _ rfl _ _ 48 rfl W.heap.size 5 i0 (.int .u8 0) 1 1 Tryz.underlying48 hi hz0 hz1 hz2 rfl (by decide) u13 8 (bcells (lowBytes d.nr 4 ++ lowBytes d.arch 4)) rfl (own_below HO13.out hb17.out) u17 8 (bcells L17) rfl (own_src hO17.out hL17.out.2) (bcells_one _) (by decide) (by decide) hB17.out.size ?_)
  intro u18 w18 hO18 hg18
  have HO18 : Hid (w18.ownsRow W.heap.size 5 1 u18 16 (bcells (bytesR d 0))) := Lib.hid (by
    rw [hL17.out.1] at hO18
    have e : bytesR d 0 = lowBytes d.nr 4 ++ lowBytes d.arch 4 ++ lowBytes d.ip 8 := by simp [bytesR, headR]
    rw [e, bcells_app]
    exact hO18)
  have HB18 := Lib.hid (grown_below hB17.out (own_below HO13.out hb17.out) hg18 hB17.out.size)
  clear hO18 hg18 hL17 hO17 hB17 hb17 HO13 hB13
  go_wp2_with fail
  go_loopw [3, 4] (fun u i wr => ∃ k n : Nat, k ≤ 6 ∧ n = 16 + 8 * k ∧ i = .int .i64 k ∧ wr.ownsRow W.heap.size 5 1 u n (bcells (bytesR d k)) ∧ Below W.heap.size W wr) (fun _ i _ => 6 - (intOf i).toNat)
  case atStart => exact ⟨0, 16, by omega, rfl, rfl, HO18.out, HB18.out⟩
  case round =>
    obtain ⟨k, n, hk, hn, rfl, hO, hB⟩ := hrel
    have HO := Lib.hid hO
    have HB := Lib.hid hB
    have hsz := hB.size
    clear hO
    by_cases hlt : k < 6
    · have hXr := (hB.block _ sx).trans HX.out
      have xk := (cell_in hXr (3 + k)).trans (args_cell d k hlt)
      have HAk := Lib.hid (args_lt HK.out k)
      have HNx := Lib.hid (bytesR_next d k hlt)
      obtain ⟨x, hx⟩ : ∃ x, x = (argsD d).getD k 0 := ⟨_, rfl⟩
      rw [← hx] at xk HAk HNx
      clear hx hXr hB HO18 HB18
      go_wp2_with fail
      refine (lowb8 (W := W) HB.out _ HAk.out).mono ?_
      rintro e w28 ⟨u28, L28, rfl, hL28, hO28, hB28, hb28⟩
      clear xk
      go_wp2_with (at_builtin; refine wpList_append_src _ rfl _ _ 48 rfl W.heap.size 5 i0 (.int .u8 0) 1 1 Tryz.underlying48 hi hz0 hz1 hz2 rfl (by decide) u3 n (bcells (bytesR d k)) rfl (own_below HO.out hb28.out) u28 8 (bcells L28) rfl (own_src hO28.out hL28.out.2) (bcells_one _) (by unfold maxLen; omega) (by omega) hB28.out.size ?_)
      intro u29 w29 hO29 hg29
      have HO29 : Hid (w29.ownsRow W.heap.size 5 1 u29 (n + 8) (bcells (bytesR d (k + 1)))) := Lib.hid (by
        rw [hL28.out.1] at hO29
        rw [HNx.out, bcells_app, hn]
        exact hO29)
      have HB29 := Lib.hid (grown_below hB28.out (own_below HO.out hb28.out) hg29 hB28.out.size)
      clear hO29 hg29 hL28 hO28 hB28 hb28 HO HB
      go_wp2_with fail
      go_roundw
      case rel => exact ⟨k + 1, n + 8, by omega, by omega, by go_num, HO29.out, HB29.out⟩
      case measure => simp [intOf]; omega
    · obtain rfl : k = 6 := by omega
      obtain rfl : n = 64 := by omega
      have HE := Lib.hid (bytesR_all d)
      clear hB HO18 HB18 hn
      go_wp2_with fail
      go_ret
      refine ⟨_, rfl, ?_, HW.out.trans (HB.out.mono HW.out.size)⟩
      have h := HO.out
      rw [HE.out] at h
      exact own_mono h HW.out.size
end Go.Proofs.YtbekkdhlfkongaaGreatDoor
/-
  Conditions, plainly: which are right, of which records they hold, their texts, and what is read of a text.
-/
namespace Go.Proofs.YtbekkdhlfkongaaGreatDoor
open Go.RowKit

/-- A condition. -/
structure Cd where
  arg : Int
  cmp : Int
  mask : Nat
  value : Nat
deriving DecidableEq
def Cd.ok (c : Cd) : Prop := c.mask < 18446744073709551616 ∧ c.value < 18446744073709551616
abbrev cdB (c : Cd) : Obj := .cells #[.int .i64 c.arg, .int .i64 c.cmp, .int .u64 (c.mask : Nat), .int .u64 (c.value : Nat)] 55
abbrev Cd.val (c : Cd) : Value := .agg #[.int .i64 c.arg, .int .i64 c.cmp, .int .u64 (c.mask : Nat), .int .u64 (c.value : Nat)]
def zeroCd : Cd := ⟨0, 0, 0, 0⟩
def Cd.right (c : Cd) : Bool := decide (0 ≤ c.arg) && decide (c.arg ≤ 5) && decide (0 ≤ c.cmp) && decide (c.cmp ≤ 5)
theorem Cd.right_iff (c : Cd) : c.right = true ↔ 0 ≤ c.arg ∧ c.arg ≤ 5 ∧ 0 ≤ c.cmp ∧ c.cmp ≤ 5 := by
  unfold Cd.right
  simp only [Bool.and_eq_true, decide_eq_true_eq]
  omega
/-- What a comparison says of two numbers. -/
def cmpB (k : Int) (v x : Nat) : Bool := if k = 0 then v == x else if k = 1 then v != x else if k = 2 then decide (v < x) else if k = 3 then decide (v ≤ x) else if k = 4 then decide (x < v) else decide (x ≤ v)
/-- The bits of the argument that the mask has. -/
def Cd.bits (c : Cd) (d : Rec) : Nat := (argsD d).getD c.arg.toNat 0 &&& c.mask
def Cd.holds (c : Cd) (d : Rec) : Bool := c.right && cmpB c.cmp (c.bits d) c.value
def notK (k : Int) : Int := if k = 0 then 1 else if k = 1 then 0 else if k = 2 then 5 else if k = 5 then 2 else if k = 3 then 4 else if k = 4 then 3 else k
def Cd.not (c : Cd) : Cd := if c.right then ⟨c.arg, notK c.cmp, c.mask, c.value⟩ else c
theorem six {k : Int} (h0 : 0 ≤ k) (h5 : k ≤ 5) : k = 0 ∨ k = 1 ∨ k = 2 ∨ k = 3 ∨ k = 4 ∨ k = 5 := by omega
theorem not_right {c : Cd} (h : c.right = true) : c.not.right = true := by
  have h' := (c.right_iff).1 h
  unfold Cd.not
  rw [if_pos h, Cd.right_iff]
  obtain ⟨a, b, e, f⟩ := h'
  refine ⟨a, b, ?_⟩
  show 0 ≤ notK c.cmp ∧ notK c.cmp ≤ 5
  rcases six e f with h | h | h | h | h | h <;> rw [h] <;> decide
theorem cmp_not {k : Int} (h0 : 0 ≤ k) (h5 : k ≤ 5) (v x : Nat) : cmpB (notK k) v x = !cmpB k v x := by
  rcases six h0 h5 with rfl | rfl | rfl | rfl | rfl | rfl
  · show (v != x) = !(v == x); rfl
  · show (v == x) = !(v != x); simp [bne]
  · show decide (x ≤ v) = !decide (v < x); rw [Bool.eq_iff_iff]; simp
  · show decide (x < v) = !decide (v ≤ x); rw [Bool.eq_iff_iff]; simp
  · show decide (v ≤ x) = !decide (x < v); rw [Bool.eq_iff_iff]; simp
  · show decide (v < x) = !decide (x ≤ v); rw [Bool.eq_iff_iff]; simp
theorem holds_not {c : Cd} (h : c.right = true) (d : Rec) : c.not.holds d = !c.holds d := by
  have hr := not_right h
  have h' := (c.right_iff).1 h
  unfold Cd.holds
  rw [hr, h]
  unfold Cd.not
  rw [if_pos h]
  exact cmp_not h'.2.2.1 h'.2.2.2 _ _
theorem holds_bad {c : Cd} (h : c.right = false) (d : Rec) : c.holds d = false := by unfold Cd.holds; rw [h]; rfl
/-- The number of two numbers' common bits, bit by bit. -/
theorem mask_and64 {a b : Nat} (ha : a < 18446744073709551616) : maskN (fun i => a.testBit i && b.testBit i) 64 = a &&& b := by
  apply Nat.eq_of_testBit_eq
  intro i
  rw [maskN_test, Nat.testBit_and]
  by_cases h : i < 64
  · rw [decide_eq_true h, Bool.true_and]
  · have : a.testBit i = false := Nat.testBit_lt_two_pow (Nat.lt_of_lt_of_le ha (show 2 ^ 64 ≤ 2 ^ i from Nat.pow_le_pow_right (by omega) (by omega)))
    rw [decide_eq_false h, this]
    rfl

/-! ### Texts -/
/-- The words of the comparisons. -/
def cmpW (k : Int) : List UInt8 := if k = 0 then [101, 113] else if k = 1 then [110, 101] else if k = 2 then [108, 116] else if k = 3 then [108, 101] else if k = 4 then [103, 116] else [103, 101]
/-! ### The consequences -/
end Go.Proofs.YtbekkdhlfkongaaGreatDoor
/-
  Names, plainly: a table's text of a number, and which number has a text; machines, calls and actions.
-/
namespace Go.Proofs.YtbekkdhlfkongaaGreatDoor
open Go.RowKit

/-- Names and their numbers. -/
abbrev Tbl := List (ByteArray × Nat)
/-- A table is right: names apart, numbers apart, no name begins as digits do, numbers are small. -/
def tblGood : Tbl → Bool
  | [] => true
  | p :: T => T.all (fun q => decide (p.1 ≠ q.1) && decide (p.2 ≠ q.2)) && (p.1.data.toList.head? != some 48) && decide (p.2 < 4294967296) && tblGood T
theorem tbl_cons {p : ByteArray × Nat} {T : Tbl} (h : tblGood (p :: T) = true) : (∀ q ∈ T, p.1 ≠ q.1 ∧ p.2 ≠ q.2) ∧ p.1.data.toList.head? ≠ some 48 ∧ p.2 < 4294967296 ∧ tblGood T = true := by
  unfold tblGood at h
  simp only [Bool.and_eq_true, List.all_eq_true, bne_iff_ne, ne_eq, decide_eq_true_eq] at h
  exact ⟨h.1.1.1, h.1.1.2, h.1.2, h.2⟩
theorem tbl_names {T : Tbl} (hT : tblGood T = true) {p q : ByteArray × Nat} (hp : p ∈ T) (hq : q ∈ T) (h : p.1 = q.1) : p = q := by
  induction T with
  | nil => simp at hp
  | cons r T ih =>
    obtain ⟨h1, _, _, h4⟩ := tbl_cons hT
    rcases List.mem_cons.1 hp with e | hp' <;> rcases List.mem_cons.1 hq with e' | hq'
    · rw [e, e']
    · rw [e] at h
      exact absurd h (h1 q hq').1
    · rw [e'] at h
      exact absurd h.symm (h1 p hp').1
    · exact ih h4 hp' hq'
/-! ### Machines and calls -/
def bx64 : ByteArray := ⟨#[120, 54, 52]⟩
def bx86 : ByteArray := ⟨#[120, 56, 54]⟩
def ba64 : ByteArray := ⟨#[97, 54, 52]⟩
def barm : ByteArray := ⟨#[97, 114, 109]⟩
def machT : Tbl := [(bx64, 3221225534), (bx86, 1073741827), (ba64, 3221225655), (barm, 1073741864)]
/-! ### Actions -/
def bkillA : ByteArray := ⟨#[107, 105, 108, 108]⟩
def btrap : ByteArray := ⟨#[116, 114, 97, 112]⟩
def blog : ByteArray := ⟨#[108, 111, 103]⟩
def ballow : ByteArray := ⟨#[97, 108, 108, 111, 119]⟩
def berror : ByteArray := ⟨#[101, 114, 114, 111, 114, 58]⟩
/-- An action's text; none: it is no action. -/
def actT (v : Nat) : Option ByteArray :=
  if 327680 ≤ v ∧ v ≤ 331775 then some (berror ++ Wd.txt (v - 327680)) else if v = 0 then some bkillA else if v = 196608 then some btrap else if v = 2147221504 then some blog else if v = 2147418112 then some ballow else none
theorem err_list (n : Nat) : (berror ++ Wd.txt n).data.toList = [101, 114, 114, 111, 114, 58] ++ (Wd.txt n).data.toList := by
  rw [ByteArray.data_append, Array.toList_append]
  rfl
theorem actT_some {v : Nat} {s : ByteArray} (h : actT v = some s) : (∃ n, n < 4096 ∧ v = 327680 + n ∧ s = berror ++ Wd.txt n) ∨ (v = 0 ∧ s = bkillA) ∨ (v = 196608 ∧ s = btrap) ∨ (v = 2147221504 ∧ s = blog) ∨ (v = 2147418112 ∧ s = ballow) := by
  unfold actT at h
  split at h
  · rename_i hv
    exact .inl ⟨v - 327680, by omega, by omega, by simpa using h.symm⟩
  split at h
  · rename_i hv; exact .inr (.inl ⟨hv, by simpa using h.symm⟩)
  split at h
  · rename_i hv; exact .inr (.inr (.inl ⟨hv, by simpa using h.symm⟩))
  split at h
  · rename_i hv; exact .inr (.inr (.inr (.inl ⟨hv, by simpa using h.symm⟩)))
  split at h
  · rename_i hv; exact .inr (.inr (.inr (.inr ⟨hv, by simpa using h.symm⟩)))
  cases h
end Go.Proofs.YtbekkdhlfkongaaGreatDoor
