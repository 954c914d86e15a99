/-
  What the laws' texts use, joined.
-/
import Derived.Test.YtbekkdhlfkongaaGreatDoorProg
import Derived.WalkKit
import Derived.ProofKit
import Derived.Lib.Hide
import Derived.Laws.Rows
import Derived.Laws.ResultCell
import Derived.Laws.Entries
import Derived.Handy
import Derived.OwnWalk
import Derived.Laws.OwnMore
import Derived.Deep.Draws
import Derived.Laws.IdiomStrings
import Derived.Lib.BufferRead
import Derived.Maps.OwnSet
import Derived.Laws.BitsAllLaws
import Derived.RowKit
import Derived.Lib.QuietBelow
import Derived.Lib.OthersKept
import Derived.BigQuiet
import Derived.IntWalk
import Derived.Deep.RegionHeld3
import Derived.BigRegion
import Derived.Laws.Tables
import Derived.Deep.DeepCutAuto
import Derived.Deep.QuietTactic
import Derived.Test.YtbekkdhlfkongaaGreatDoorRows
import Derived.OpenShut
import Derived.Carry
import Derived.Deep.DeepHandedRow
import Derived.Lib.SmallJoins
import Derived.WalkMore
import Derived.Shelf.Strings.Builder1
import Derived.Shelf.Strings.Search1
import Derived.Lib.IndexLaws
import Derived.Lib.AppendZerosOnto
import Derived.Lib.SliceRun
import Derived.Deep.RegionWith
import Derived.Deep.Cut
import Derived.Test.YtbekkdhlfkongaaGreatDoorPk1
import Derived.Test.YtbekkdhlfkongaaGreatDoorPk2
import Derived.Test.YtbekkdhlfkongaaGreatDoorPk3
import Derived.Test.YtbekkdhlfkongaaGreatDoorPk4
/-
  The draft of package lower, as it lies in a block: take, add, ahead, branch, result.
-/
namespace Go.Proofs.YtbekkdhlfkongaaGreatDoor
open Go.ChangeShapes Go.WideShapes Go.ChangeAt Go.RowKit
set_option maxRecDepth 20000

/-- All but one block lies as it lay. -/
structure Chg (b : Nat) (w w' : World) : Prop where
  os : w'.os = w.os
  tape : w'.tape = w.tape
  output : w'.output = w.output
  size : w.heap.size ≤ w'.heap.size
  block : ∀ k, k < w.heap.size → k ≠ b → w'.heap[k]? = w.heap[k]?
theorem Chg.refl (b : Nat) (w : World) : Chg b w w := ⟨rfl, rfl, rfl, Nat.le_refl _, fun _ _ _ => rfl⟩
theorem Chg.trans {b : Nat} {u v w : World} (h : Chg b u v) (k : Chg b v w) : Chg b u w :=
  ⟨k.os.trans h.os, k.tape.trans h.tape, k.output.trans h.output, Nat.le_trans h.size k.size, fun i hi hn => (k.block i (Nat.lt_of_lt_of_le hi h.size) hn).trans (h.block i hi hn)⟩
theorem Chg.of_below {b : Nat} {w w' : World} (h : Below w.heap.size w w') : Chg b w w' := ⟨h.os, h.tape, h.output, h.size, fun k hk _ => h.block k hk⟩
theorem Chg.of_put {b : Nat} {w w' : World} {o : Obj} (h : RowPut w w' b o) : Chg b w w' := ⟨h.os, h.tape, h.output, by rw [h.size]; exact Nat.le_refl _, fun k _ hn => h.rest k hn⟩
theorem Chg.below {b B : Nat} {a w w' : World} (h : Chg b w w') (hb : Below B a w) (hB : B ≤ b) (hs : B ≤ w.heap.size) : Below B a w' :=
  ⟨h.os.trans hb.os, h.tape.trans hb.tape, h.output.trans hb.output, Nat.le_trans hb.size h.size, fun k hk => (h.block k (by omega) (by omega)).trans (hb.block k hk)⟩
theorem Chg.keep {b k : Nat} {w w' : World} {o : Obj} (h : Chg b w w') (ho : w.heap[k]? = some o) (hk : k ≠ b) : w'.heap[k]? = some o := (h.block k (lt_of_block ho) hk).trans ho
theorem Chg.drew {b : Nat} {w w' : World} (h : Chg b w w') : Chg b w.drew w' := ⟨h.os, h.tape, h.output, h.size, h.block⟩

/-- A draft in the first two cells of a block. -/
def DrAt (w : World) (b : Nat) (t : TypeId) (rest : Array Value) (s : DS) : Prop := ∃ v, w.heap[b]? = some (.cells (#[v, .int .i64 s.e] ++ rest) t) ∧ CdAt w v s.c ∧ Stays b v s.c
theorem DrAt.drew {w : World} {b : Nat} {t : TypeId} {rest : Array Value} {s : DS} (h : DrAt w b t rest s) : DrAt w.drew b t rest s := by
  obtain ⟨v, h1, h2, h3⟩ := h
  exact ⟨v, h1, h2.below (Below.refl _ _).drew, h3⟩
theorem DrAt.lt {w : World} {b : Nat} {t : TypeId} {rest : Array Value} {s : DS} (h : DrAt w b t rest s) : b < w.heap.size := by
  obtain ⟨v, h1, _⟩ := h
  exact lt_of_block h1
theorem DrAt.below {w w' : World} {b : Nat} {t : TypeId} {rest : Array Value} {s : DS} (h : DrAt w b t rest s) (hb : Below w.heap.size w w') : DrAt w' b t rest s := by
  obtain ⟨v, h1, h2, h3⟩ := h
  exact ⟨v, kb hb h1, h2.below hb, h3⟩
theorem pair0 (v e : Value) (rest : Array Value) : (#[v, e] ++ rest)[0]? = some v := by rw [Array.getElem?_append_left (by simp)]; rfl
theorem pair1 (v e : Value) (rest : Array Value) : (#[v, e] ++ rest)[1]? = some e := by rw [Array.getElem?_append_left (by simp)]; rfl
theorem pair_in {w : World} {b : Nat} {t : TypeId} {rest : Array Value} {v e : Value} (h : w.heap[b]? = some (.cells (#[v, e] ++ rest) t)) :
    w.cell? ⟨b, 0, none⟩ = some v ∧ w.cell? ⟨b, 1, none⟩ = some e ∧ w.frozen? ⟨b, 0, none⟩ = false ∧ w.frozen? ⟨b, 1, none⟩ = false :=
  ⟨by rw [cell_in h, pair0], by rw [cell_in h, pair1], free_in h 0, free_in h 1⟩
theorem pair_put {w : World} {b : Nat} {t : TypeId} {rest : Array Value} {v e : Value} (h : w.heap[b]? = some (.cells (#[v, e] ++ rest) t)) (v' e' : Value) :
    RowPut w ((w.setCell ⟨b, 0, none⟩ v').setCell ⟨b, 1, none⟩ e') b (.cells (#[v', e'] ++ rest) t) := by
  have h1 := hrow_cell h 0 v'
  have h2 := hrow_cell h1.row 1 e'
  have h3 := hrow_then h1 h2
  have e0 : ((#[v, e] ++ rest).setIfInBounds 0 v').setIfInBounds 1 e' = #[v', e'] ++ rest := by
    apply Array.ext'
    simp
  rw [e0] at h3
  exact h3
/-- take: what package code made of the draft. -/
theorem dtake_any {b : Nat} {t : TypeId} {rest : Array Value} {s : DS} (v : Value) (l : Int) (g : G3) (w : World) (h : DrAt w b t rest s) (hv : CdAt w v g.1) (hst : Stays b v g.1) :
    Calls Tryz.prog 60 #[.pointer (some ⟨b, 0, none⟩), v, .int .i64 l, .int .i64 g.2.2] w fun e w' => e = .returned (.int .i64 l) ∧ DrAt w' b t rest (takeS s g) ∧ Chg b w w' ∧ w'.heap.size = w.heap.size := by
  obtain ⟨u, hh, hu, hsu⟩ := h
  obtain ⟨c0, c1, f0, f1⟩ := pair_in hh
  have HH := Lib.hid hh
  have HU := Lib.hid hu
  have HV := Lib.hid hv
  obtain ⟨ao, cap, rfl⟩ := hv.shape
  clear hh hu hv
  by_cases he : s.e = 0
  · have he2 : (s.e == 0) = true := by simpa using he
    have HE := Lib.hid (takeS_ok he g)
    clear he
    go_enter Tryz.func60, Tryz.ntmps60
    go_wp2_with fail
    go_ret
    have hp := pair_put HH.out (.slice ao g.1.length cap) (.int .i64 g.2.2)
    refine ⟨rfl, ?_, Chg.of_put hp, hp.size⟩
    rw [HE.out]
    exact ⟨_, hp.row, ⟨hst _ _ _ hp HV.out.1, HV.out.2⟩, hst⟩
  · have he2 : (s.e == 0) = false := by simpa using he
    have HE := Lib.hid (takeS_bad he g)
    clear he
    go_enter Tryz.func60, Tryz.ntmps60
    go_wp2_with fail
    go_ret
    refine ⟨rfl, ?_, Chg.refl _ _, rfl⟩
    rw [HE.out]
    exact ⟨u, HH.out, HU.out, hsu⟩

/-- What a method of the draft answers: a label; the draft is another one. -/
def DEnd (w : World) (b : Nat) (t : TypeId) (rest : Array Value) (r : DS × Int) (w' : World) (e : Ending) : Prop := e = .returned (.int .i64 r.2) ∧ DrAt w' b t rest r.1 ∧ Chg b w w'
set_option maxHeartbeats 8000000 in
theorem dadd_any {b : Nat} {t : TypeId} {rest : Array Value} {s : DS} (op jt jf k : Int) (w : World) (h : DrAt w b t rest s) (hl : s.c.length ≤ 4000) (hot : OTab w) :
    Calls Tryz.prog 62 #[.pointer (some ⟨b, 0, none⟩), insV op jt jf k] w fun e w' => DEnd w b t rest (addS s ⟨op, jt, jf, k⟩) w' e := by
  have HD0 := Lib.hid h
  obtain ⟨u, hh, hu, hsu⟩ := h
  obtain ⟨ao, cap, rfl⟩ := hu.shape
  have HSU := Lib.hid hsu
  have HU := Lib.hid hu
  have hlt := lt_of_block hh
  obtain ⟨g, hg⟩ : ∃ g, g = addN s.c ⟨op, jt, jf, k⟩ := ⟨_, rfl⟩
  have HR : Hid (addS s ⟨op, jt, jf, k⟩ = (takeS s g, g.2.1)) := Lib.hid (by rw [hg]; rfl)
  obtain ⟨r, hr⟩ : ∃ r, r = addS s ⟨op, jt, jf, k⟩ := ⟨_, rfl⟩
  rw [← hr] at HR ⊢
  obtain ⟨W, hW, X0, HBx⟩ : ∃ W, W = w.alloc (insB op jt jf k) ∧ W.heap[w.heap.size]? = some (insB op jt jf k) ∧ Below w.heap.size w W := ⟨_, rfl, heap_alloc_new _ _, ba _ (Below.refl _ _)⟩
  have HX := Lib.hid X0
  have HB0 := Lib.hid HBx
  have HC : Hid (∀ V, Below W.heap.size W V → Calls Tryz.prog 103 #[.slice ao s.c.length cap, insV op jt jf k] V fun e w' => (∃ q, CdAt w' q g.1 ∧ Stays b q g.1 ∧ e = .returned (.tuple #[q, .int .i64 g.2.1, .int .i64 g.2.2])) ∧ DrAt w' b t rest s ∧ Chg b w w') := Lib.hid (fun V hV => by
    have hbv := HB0.out.trans (hV.mono HB0.out.size)
    refine (hadd_any _ s.c op jt jf k V (HU.out.below hbv) hl (hot.below hbv)).mono ?_
    rintro e w' ⟨hq, hb'⟩
    rw [← hg] at hq
    obtain ⟨q, hq, hst, rfl⟩ := hq
    exact ⟨⟨q, hq, hst b (Nat.lt_of_lt_of_le hlt hbv.size) HSU.out, rfl⟩, HD0.out.below (below2 hbv hb'), Chg.of_below (below2 hbv hb')⟩)
  obtain ⟨c0, _, _, _⟩ := pair_in (kb HB0.out hh)
  clear hh hu hsu X0 HBx hg hr
  go_enter Tryz.func62, Tryz.ntmps62
  go_upto_region 1 with fail
  rw [← hW]
  clear hW
  obtain ⟨x0, x1, x2, x3⟩ := insX HX.out
  go_region_with (first
    | (go_at_call 103; refine (HC.out _ ?_).mono ?_; exact bdN (Below.refl W.heap.size W) 1; rintro e w3 ⟨⟨q, hq, hst, rfl⟩, hd3, hc3⟩)
    | (go_at_call 60; refine (dtake_any _ _ g _ hd3 hq hst).mono ?_; rintro e w4 ⟨rfl, hd4, hc4, _⟩))
  all_goals
    have HE : Hid (DEnd w b t rest r w4 (.returned (.int .i64 g.2.1))) := Lib.hid ⟨by rw [HR.out], by rw [HR.out]; exact hd4, hc3.trans hc4⟩
    clear hd4 hc4 hd3 hc3 hq hst x0 x1 x2 x3 c0
    go_wp2_with fail
    go_ret
    exact HE.out

set_option maxHeartbeats 8000000 in
theorem dahead_any {b : Nat} {t : TypeId} {rest : Array Value} {s : DS} (op jt jf k l : Int) (w : World) (h : DrAt w b t rest s) (hl : s.c.length ≤ 3990) (hot : OTab w) (hb0 : 0 ≠ b) :
    Calls Tryz.prog 32 #[.pointer (some ⟨b, 0, none⟩), insV op jt jf k, .int .i64 l] w fun e w' => DEnd w b t rest (aheadS s ⟨op, jt, jf, k⟩ l) w' e := by
  have HD0 := Lib.hid h
  obtain ⟨u, hh, hu, hsu⟩ := h
  obtain ⟨ao, cap, rfl⟩ := hu.shape
  have HSU := Lib.hid hsu
  have HU := Lib.hid hu
  have hlt := lt_of_block hh
  obtain ⟨g, hg⟩ : ∃ g, g = jumpN s.c l := ⟨_, rfl⟩
  have hgl : g.1.length ≤ s.c.length + 3 := by rw [hg]; exact (jumpN_len s.c l).2
  have htl := (takeS_len (s := s) (g := g) (n := 3) (by rw [hg]; exact jumpN_len s.c l)).2
  have HR : Hid (aheadS s ⟨op, jt, jf, k⟩ l = addS (takeS s g) ⟨op, jt, jf, k⟩) := Lib.hid (by rw [hg]; rfl)
  obtain ⟨r, hr⟩ : ∃ r, r = aheadS s ⟨op, jt, jf, k⟩ l := ⟨_, rfl⟩
  rw [← hr] at HR ⊢
  obtain ⟨W, hW, X0, HBx⟩ : ∃ W, W = w.alloc (insB op jt jf k) ∧ W.heap[w.heap.size]? = some (insB op jt jf k) ∧ Below w.heap.size w W := ⟨_, rfl, heap_alloc_new _ _, ba _ (Below.refl _ _)⟩
  have HX := Lib.hid X0
  have HB0 := Lib.hid HBx
  have HOT := Lib.hid hot
  obtain ⟨c0, _, _, _⟩ := pair_in (kb HB0.out hh)
  clear hh hu hsu X0 HBx hr hot
  go_enter Tryz.func32, Tryz.ntmps32
  go_upto_region 1 with fail
  rw [← hW]
  clear hW
  go_wp2_with fail
  refine (hjump_any _ s.c l _ (HU.out.below HB0.out) (by omega)).mono ?_
  rintro e w3 ⟨hq, hb3⟩
  rw [← hg] at hq
  obtain ⟨q, hq, hst, rfl⟩ := hq
  have HQ := Lib.hid hq
  have HS := Lib.hid (hst b (Nat.lt_of_lt_of_le hlt HB0.out.size) HSU.out)
  have HB3 := Lib.hid (below2 HB0.out hb3)
  have HX3 := Lib.hid (kb hb3 HX.out)
  obtain ⟨qo, qc, rfl⟩ := hq.shape
  clear hq hst hb3 c0 hg
  go_wp2_with fail
  refine (dtake_any _ _ g _ (HD0.out.below HB3.out) HQ.out HS.out).mono ?_
  rintro e w4 ⟨rfl, hd4, hc4, _⟩
  have HC4 := Lib.hid ((Chg.of_below HB3.out).trans hc4)
  have HD4 := Lib.hid hd4
  have hX4 := hc4.keep HX3.out (Nat.ne_of_gt hlt)
  obtain ⟨x0, x1, x2, x3⟩ := insX hX4
  clear hd4 hc4 hX4
  have hot4 : OTab w4 := by
    obtain ⟨t0, fr, h0⟩ := HOT.out
    exact ⟨t0, fr, HC4.out.keep h0 hb0⟩
  have HO4 := Lib.hid hot4
  clear hot4
  go_wp2_with fail
  refine (dadd_any op jt jf k w4 HD4.out (by omega) HO4.out).mono ?_
  rintro e w5 ⟨rfl, hd5, hc5⟩
  have HE : Hid (DEnd w b t rest r w5 (.returned (.int .i64 (addS (takeS s g) ⟨op, jt, jf, k⟩).2))) := Lib.hid ⟨by rw [HR.out], by rw [HR.out]; exact hd5, HC4.out.trans hc5⟩
  clear hd5 hc5 x0 x1 x2 x3
  go_wp2_with fail
  go_ret
  exact HE.out

set_option maxHeartbeats 8000000 in
theorem dbranch_any {b : Nat} {t : TypeId} {rest : Array Value} {s : DS} (op k l m : Int) (w : World) (h : DrAt w b t rest s) (hl : s.c.length ≤ 3900) (hot : OTab w) :
    Calls Tryz.prog 58 #[.pointer (some ⟨b, 0, none⟩), .int .i64 op, .int .u32 k, .int .i64 l, .int .i64 m] w fun e w' => DEnd w b t rest (branchS s op k l m) w' e := by
  have HD0 := Lib.hid h
  obtain ⟨u, hh, hu, hsu⟩ := h
  obtain ⟨ao, cap, rfl⟩ := hu.shape
  have HSU := Lib.hid hsu
  have HU := Lib.hid hu
  have hlt := lt_of_block hh
  obtain ⟨g, hg⟩ : ∃ g, g = branchN s.c op k l m := ⟨_, rfl⟩
  have HR : Hid (branchS s op k l m = (takeS s g, g.2.1)) := Lib.hid (by rw [hg]; rfl)
  obtain ⟨r, hr⟩ : ∃ r, r = branchS s op k l m := ⟨_, rfl⟩
  rw [← hr] at HR ⊢
  obtain ⟨c0, _, _, _⟩ := pair_in hh
  have HOT := Lib.hid hot
  clear hh hu hsu hr hot
  go_enter Tryz.func58, Tryz.ntmps58
  go_wp2_with fail
  refine (hbranch_any _ s.c op k l m _ HU.out hl HOT.out).mono ?_
  rintro e w3 ⟨hq, hb3⟩
  rw [← hg] at hq
  obtain ⟨q, hq, hst, rfl⟩ := hq
  have HQ := Lib.hid hq
  have HS := Lib.hid (hst b hlt HSU.out)
  have HB3 := Lib.hid hb3
  obtain ⟨qo, qc, rfl⟩ := hq.shape
  clear hq hst hb3 c0 hg
  go_wp2_with fail
  refine (dtake_any _ _ g _ (HD0.out.below HB3.out) HQ.out HS.out).mono ?_
  rintro e w4 ⟨rfl, hd4, hc4, _⟩
  have HE : Hid (DEnd w b t rest r w4 (.returned (.int .i64 g.2.1))) := Lib.hid ⟨by rw [HR.out], by rw [HR.out]; exact hd4, (Chg.of_below HB3.out).trans hc4⟩
  clear hd4 hc4
  go_wp2_with fail
  go_ret
  exact HE.out

set_option maxHeartbeats 8000000 in
/-- result: the code, and its front; beside an error, what is to be there instead. -/
theorem dresult_any {b : Nat} {t : TypeId} {rest : Array Value} {s : DS} (v : Value) (c : List X4) (w : World) (h : DrAt w b t rest s) (hv : CdAt w v c) :
    Calls Tryz.prog 34 #[.pointer (some ⟨b, 0, none⟩), v] w fun e w' => (∃ u, CdAt w' u (resultN s c).1 ∧ e = .returned (.tuple #[u, .int .i64 (resultN s c).2.1, .int .i64 (resultN s c).2.2])) ∧ Below w.heap.size w w' := by
  obtain ⟨u, hh, hu, hsu⟩ := h
  obtain ⟨ao, cap, rfl⟩ := hu.shape
  obtain ⟨ao2, cap2, rfl⟩ := hv.shape
  have HU := Lib.hid hu
  have HV := Lib.hid hv
  obtain ⟨c0, c1, _, _⟩ := pair_in hh
  clear hh hu hsu hv
  by_cases he : s.e = 0
  · have HR : Hid (resultN s c = (s.c, ((s.c.length : Nat) : Int), 0)) := Lib.hid (by unfold resultN; rw [if_pos he])
    have he2 : (s.e == 0) = true := by simpa using he
    obtain ⟨r, hr⟩ : ∃ r, r = resultN s c := ⟨_, rfl⟩
    rw [← hr] at HR ⊢
    clear he hr
    go_enter Tryz.func34, Tryz.ntmps34
    go_wp2_with fail
    go_quiet (fail)
    go_wp2_with fail
    go_ret3
    rw [HR.out]
    exact ⟨⟨_, HU.out.below (bdN (Below.refl _ _) _), rfl⟩, bdN (Below.refl _ _) _⟩
  · have HR : Hid (resultN s c = (c, 0, s.e)) := Lib.hid (by unfold resultN; rw [if_neg he])
    have he2 : (s.e == 0) = false := by simpa using he
    obtain ⟨r, hr⟩ : ∃ r, r = resultN s c := ⟨_, rfl⟩
    rw [← hr] at HR ⊢
    clear he hr
    go_enter Tryz.func34, Tryz.ntmps34
    go_wp2_with fail
    go_quiet (fail)
    go_wp2_with fail
    go_ret3
    rw [HR.out]
    exact ⟨⟨_, HV.out.below (bdN (Below.refl _ _) _), rfl⟩, bdN (Below.refl _ _) _⟩
theorem dload_any (k : Nat) (w : World) : Calls Tryz.prog 33 #[.int .u32 (k : Nat)] w fun e w' => e = .returned (insV 32 0 0 (k : Nat)) ∧ Below w.heap.size w w' := by
  obtain ⟨Q, hQ⟩ : ∃ Q, Q = bodyPost Tryz.prog Tryz.f33 (fun e w' => e = .returned (insV 32 0 0 (k : Nat)) ∧ Below w.heap.size w w') := ⟨_, rfl⟩
  go_enter Tryz.func33, Tryz.ntmps33
  rw [← hQ]
  have HQ0 := Lib.hid hQ
  clear hQ
  go_wp2_with fail
  rw [HQ0.out]
  refine bodyPost_ret (v := insV 32 0 0 (k : Nat)) ?_ rfl ⟨rfl, ba _ (Below.refl _ _)⟩
  simp [results, Tryz.results33, go_sem]

/-- What the draft needs besides: the table of the operations, in another block. -/
def OpsAt (w : World) (b : Nat) : Prop := OTab w ∧ 0 ≠ b
theorem OpsAt.chg {w w' : World} {b : Nat} (h : OpsAt w b) (hc : Chg b w w') : OpsAt w' b := by
  obtain ⟨⟨t0, fr, h0⟩, hn⟩ := h
  exact ⟨⟨t0, fr, hc.keep h0 hn⟩, hn⟩
abbrev hfB (h : Hf) : Obj := .cells #[.int .u32 (h.pos : Nat), .int .u32 (h.mask : Nat), .int .u32 (h.value : Nat)] 142
abbrev Hf.val (h : Hf) : Value := .agg #[.int .u32 (h.pos : Nat), .int .u32 (h.mask : Nat), .int .u32 (h.value : Nat)]
theorem hfX {w : World} {g : Nat} {h : Hf} (hh : w.heap[g]? = some (hfB h)) :
    w.cell? ⟨g, 0, none⟩ = some (.int .u32 (h.pos : Nat)) ∧ w.cell? ⟨g, 1, none⟩ = some (.int .u32 (h.mask : Nat)) ∧ w.cell? ⟨g, 2, none⟩ = some (.int .u32 (h.value : Nat)) := ⟨cell_in hh 0, cell_in hh 1, cell_in hh 2⟩
theorem dties_any (h : Hf) (w : World) : Calls Tryz.prog 83 #[h.val] w fun e w' => e = .returned (.bool h.ties) ∧ Below w.heap.size w w' := by
  obtain ⟨pos, mask, value⟩ := h
  have HE := Lib.hid (show (Hf.mk pos mask value).ties = (mask == 0 && value == 0) from rfl)
  obtain ⟨r, hr⟩ : ∃ r, r = (Hf.mk pos mask value).ties := ⟨_, rfl⟩
  rw [← hr] at HE ⊢
  clear hr
  have hB := ba (hfB ⟨pos, mask, value⟩) (Below.refl w.heap.size w)
  have HB := Lib.hid hB
  clear hB
  by_cases hm : mask = 0
  · subst hm
    have HE2 : Hid (r = (value == 0)) := Lib.hid (by rw [HE.out]; rfl)
    go_enter Tryz.func83, Tryz.ntmps83
    go_wp2_with fail
    go_ret
    refine ⟨?_, HB.out⟩
    rw [HE2.out, show (value == 0) = ((value : Int) == 0) by rw [Bool.eq_iff_iff]; simp]
    rfl
  · have hm2 : ((mask : Int) == 0) = false := by simpa using hm
    have HE2 : Hid (r = false) := Lib.hid (by rw [HE.out, beq_false_of_ne hm]; rfl)
    go_enter Tryz.func83, Tryz.ntmps83
    go_wp2_with fail
    go_ret
    refine ⟨?_, HB.out⟩
    rw [HE2.out]
    rfl

set_option maxHeartbeats 8000000 in
theorem dmasked_any {b : Nat} {t : TypeId} {rest : Array Value} {s : DS} (h : Hf) (l : Int) (w : World) (hd : DrAt w b t rest s) (hl : s.c.length ≤ 3980) (hot : OpsAt w b) :
    Calls Tryz.prog 85 #[.pointer (some ⟨b, 0, none⟩), h.val, .int .i64 l] w fun e w' => DEnd w b t rest (maskedS s h l) w' e := by
  obtain ⟨pos, mask, value⟩ := h
  obtain ⟨r, hr⟩ : ∃ r, r = maskedS s ⟨pos, mask, value⟩ l := ⟨_, rfl⟩
  rw [← hr]
  have HR : Hid (r = if mask = 4294967295 then aheadS s (ldX pos) l else aheadS (aheadS s (andX mask) l).1 (ldX pos) (aheadS s (andX mask) l).2) := Lib.hid hr
  have hal := aheadS_len s (andX mask) l
  obtain ⟨W, hW, X0, HBx⟩ : ∃ W, W = w.alloc (hfB ⟨pos, mask, value⟩) ∧ W.heap[w.heap.size]? = some (hfB ⟨pos, mask, value⟩) ∧ Below w.heap.size w W := ⟨_, rfl, heap_alloc_new _ _, ba _ (Below.refl _ _)⟩
  have HX := Lib.hid X0
  have HD := Lib.hid (hd.below HBx)
  have HO := Lib.hid (hot.chg (Chg.of_below HBx))
  have hgb : w.heap.size ≠ b := Nat.ne_of_gt hd.lt
  have HCW := Lib.hid (show Chg b w W from Chg.of_below HBx)
  clear X0 HBx hr hd hot
  go_enter Tryz.func85, Tryz.ntmps85
  go_upto_region 1 with fail
  rw [← hW]
  clear hW
  obtain ⟨c0, c1, c2⟩ := hfX HX.out
  simp only at c0 c1 c2
  by_cases hm : mask = 4294967295
  · have hm2 : ((mask : Int) == 4294967295) = true := by rw [hm]; rfl
    have HR2 := Lib.hid (HR.out.trans (if_pos hm))
    clear hm
    go_wp2_with fail
    refine (dload_any pos W).mono ?_
    rintro e w1 ⟨rfl, hb1⟩
    have HD1 := Lib.hid (HD.out.below hb1)
    have HC1 := Lib.hid (HCW.out.trans (Chg.of_below hb1))
    have HO1 := Lib.hid (HO.out.chg (Chg.of_below hb1))
    clear hb1 c0 c1 c2
    go_wp2_with fail
    refine (dahead_any 32 0 0 (pos : Nat) l w1 HD1.out (by omega) HO1.out.1 HO1.out.2).mono ?_
    rintro e w2 ⟨rfl, hd2, hc2⟩
    have HE : Hid (DEnd w b t rest r w2 (.returned (.int .i64 (aheadS s ⟨32, 0, 0, (pos : Nat)⟩ l).2))) := Lib.hid ⟨by rw [HR2.out]; rfl, by rw [HR2.out]; exact hd2, HC1.out.trans hc2⟩
    clear hd2 hc2
    go_wp2_with fail
    go_ret
    exact HE.out
  · have hm2 : ((mask : Int) == 4294967295) = false := by simp; omega
    have HR2 := Lib.hid (HR.out.trans (if_neg hm))
    clear hm
    go_wp2_with fail
    refine (dahead_any 84 0 0 (mask : Nat) l W HD.out (by omega) HO.out.1 HO.out.2).mono ?_
    rintro e w1 ⟨rfl, hd1, hc1⟩
    have HD1 := Lib.hid hd1
    have HC1 := Lib.hid (HCW.out.trans hc1)
    have HO1 := Lib.hid (HO.out.chg hc1)
    have hX1 := hc1.keep HX.out hgb
    clear hd1 hc1 c0 c1 c2
    obtain ⟨c0, c1, c2⟩ := hfX hX1
    simp only at c0 c1 c2
    clear hX1
    obtain ⟨s1, hs1⟩ : ∃ s1, s1 = (aheadS s (andX mask) l).1 := ⟨_, rfl⟩
    obtain ⟨l1, hl1⟩ : ∃ l1, l1 = (aheadS s (andX mask) l).2 := ⟨_, rfl⟩
    have e1 : (aheadS s ⟨84, 0, 0, (mask : Nat)⟩ l).1 = s1 := hs1.symm
    have e2 : (aheadS s ⟨84, 0, 0, (mask : Nat)⟩ l).2 = l1 := hl1.symm
    rw [e1] at HD1
    rw [e2]
    rw [← hs1] at hal
    rw [← hs1, ← hl1] at HR2
    clear hs1 hl1 e1 e2
    go_wp2_with fail
    refine (dload_any pos w1).mono ?_
    rintro e w2 ⟨rfl, hb2⟩
    have HD2 := Lib.hid (HD1.out.below hb2)
    have HC2 := Lib.hid (HC1.out.trans (Chg.of_below hb2))
    have HO2 := Lib.hid (HO1.out.chg (Chg.of_below hb2))
    clear hb2 c0 c1 c2
    go_wp2_with fail
    refine (dahead_any 32 0 0 (pos : Nat) l1 w2 HD2.out (by omega) HO2.out.1 HO2.out.2).mono ?_
    rintro e w3 ⟨rfl, hd3, hc3⟩
    have HE : Hid (DEnd w b t rest r w3 (.returned (.int .i64 (aheadS s1 ⟨32, 0, 0, (pos : Nat)⟩ l1).2))) := Lib.hid ⟨by rw [HR2.out]; rfl, by rw [HR2.out]; exact hd3, HC2.out.trans hc3⟩
    clear hd3 hc3
    go_wp2_with fail
    go_ret
    exact HE.out

set_option maxHeartbeats 8000000 in
theorem dcompare_any {b : Nat} {t : TypeId} {rest : Array Value} {s : DS} (op : Int) (h : Hf) (l m : Int) (w : World) (hd : DrAt w b t rest s) (hl : s.c.length ≤ 3900) (hot : OpsAt w b) :
    Calls Tryz.prog 84 #[.pointer (some ⟨b, 0, none⟩), .int .i64 op, h.val, .int .i64 l, .int .i64 m] w fun e w' => DEnd w b t rest (compareS s op h l m) w' e := by
  obtain ⟨pos, mask, value⟩ := h
  obtain ⟨r, hr⟩ : ∃ r, r = compareS s op ⟨pos, mask, value⟩ l m := ⟨_, rfl⟩
  rw [← hr]
  obtain ⟨q, hq⟩ : ∃ q, q = branchS s op (value : Nat) l m := ⟨_, rfl⟩
  have HR : Hid (r = maskedS q.1 ⟨pos, mask, value⟩ q.2) := Lib.hid (by rw [hr, hq]; rfl)
  have hbl : q.1.c.length ≤ s.c.length + 3 := by rw [hq]; exact (branchS_len s op (value : Nat) l m).2
  obtain ⟨W, hW, X0, HBx⟩ : ∃ W, W = w.alloc (hfB ⟨pos, mask, value⟩) ∧ W.heap[w.heap.size]? = some (hfB ⟨pos, mask, value⟩) ∧ Below w.heap.size w W := ⟨_, rfl, heap_alloc_new _ _, ba _ (Below.refl _ _)⟩
  have HX := Lib.hid X0
  have HD := Lib.hid (hd.below HBx)
  have HO := Lib.hid (hot.chg (Chg.of_below HBx))
  have hgb : w.heap.size ≠ b := Nat.ne_of_gt hd.lt
  have HCW := Lib.hid (show Chg b w W from Chg.of_below HBx)
  have HBr : Hid (∀ V, Below W.heap.size W V → Calls Tryz.prog 58 #[.pointer (some ⟨b, 0, none⟩), .int .i64 op, .int .u32 (value : Nat), .int .i64 l, .int .i64 m] V fun e w' => e = .returned (.int .i64 q.2) ∧ DrAt w' b t rest q.1 ∧ Chg b w w' ∧ w'.heap[w.heap.size]? = some (hfB ⟨pos, mask, value⟩) ∧ OpsAt w' b) := Lib.hid (fun V hV => by
    refine (dbranch_any op (value : Nat) l m V (HD.out.below hV) hl (HO.out.chg (Chg.of_below hV)).1).mono ?_
    rintro e w' ⟨he, hd', hc'⟩
    rw [← hq] at he hd'
    exact ⟨he, hd', (HCW.out.trans (Chg.of_below hV)).trans hc', hc'.keep (kb hV HX.out) hgb, (HO.out.chg (Chg.of_below hV)).chg hc'⟩)
  clear X0 HBx hr hq hd hot
  go_enter Tryz.func84, Tryz.ntmps84
  go_upto_region 1 with fail
  rw [← hW]
  clear hW
  obtain ⟨c0, c1, c2⟩ := hfX HX.out
  simp only at c0 c1 c2
  go_region_with (first
    | (go_at_call 58; refine (HBr.out _ ?_).mono ?_; exact bdN (Below.refl W.heap.size W) 1; rintro e w3 ⟨rfl, hd3, hc3, hx3, ho3⟩; obtain ⟨a0, a1, a2⟩ := hfX hx3; simp only at a0 a1 a2)
    | (go_at_call 85; refine (dmasked_any ⟨pos, mask, value⟩ q.2 _ hd3 (by omega) ho3).mono ?_; rintro e w4 ⟨rfl, hd4, hc4⟩))
  all_goals
    have HE : Hid (DEnd w b t rest r w4 (.returned (.int .i64 (maskedS q.1 ⟨pos, mask, value⟩ q.2).2))) := Lib.hid ⟨by rw [HR.out], by rw [HR.out]; exact hd4, hc3.trans hc4⟩
    clear hd4 hc4 hd3 hc3 hx3 ho3 a0 a1 a2 c0 c1 c2
    go_wp2_with fail
    go_ret
    exact HE.out
end Go.Proofs.YtbekkdhlfkongaaGreatDoor
/-
  The document's own texts of numbers (package hurdleref01): Text and Parse answer as word's do.
-/
namespace Go.Proofs.YtbekkdhlfkongaaGreatDoor
open Go.ChangeShapes Go.WideShapes Go.ChangeAt Go.RowKit
set_option maxRecDepth 20000

/-- A row of one new byte, as a text. -/
theorem conv1 (W : World) (g : Nat) (hg : g = W.heap.size) (v : Int) (b : UInt8) (hv : v = (b.toNat : Int)) :
    (convert 48 9 (.slice (some ⟨g, 0, none⟩) 1 1)).run Tryz.prog (W.alloc (.cells #[.int .u8 v] 5)) = .ok (.string ⟨#[b]⟩) (W.alloc (.cells #[.int .u8 v] 5)) := by
  subst hg
  subst hv
  exact run_convert_bytes_back (P := Tryz.prog) (W.alloc (.cells #[.int .u8 (b.toNat : Int)] 5)) 48 9 5 ⟨W.heap.size, 0, none⟩ 1 [b] Tryz.underlying48 Tryz.underlying5 Tryz.underlying9 (fun j hj => by
    obtain rfl : j = 0 := by simpa using hj
    rw [show (⟨W.heap.size, 0, none⟩ : Addr).add 0 = ⟨W.heap.size, 0, none⟩ by simp [Addr.add], World.cell?_alloc_new]
    rfl)

theorem ofNat_toNat (k : Nat) (h : k < 256) : ((UInt8.ofNat k).toNat : Int) = (k : Int) := by
  simp
  omega

set_option maxHeartbeats 2000000 in
theorem digits_any (n : Nat) : ∀ (_ : n < 18446744073709551616) (w : World),
    Calls Tryz.prog 104 #[.int .u64 n] w fun e w' => e = .returned (.string ⟨(Wd.hex n).toArray⟩) ∧ Below w.heap.size w w' := by
  induction n using Nat.strongRecOn with
  | ind n ih =>
    intro hn w
    have IH := Lib.hid ih
    clear ih
    have b1 := (Below.refl w.heap.size w).alloc (Nat.le_refl _) (Obj.cells #[.int .u8 (48 + (n : Int) % 16)] 5)
    have b2 := b1.alloc b1.size (Obj.cells #[.int .u8 (87 + (n : Int) % 16)] 5)
    by_cases hd : n % 16 ≤ 9
    · have c1 := conv1 w w.heap.size rfl (48 + (n : Int) % 16) (Wd.hexB (n % 16)) (by rw [Wd.hexB_lo _ (by omega)]; omega)
      clear b2
      by_cases h16 : n < 16
      · have hx := Wd.hex_lt h16
        have hmod : n % 16 = n := Nat.mod_eq_of_lt h16
        have hx2 : Wd.hex n = [Wd.hexB (n % 16)] := by rw [hx, hmod]
        have HX := Lib.hid hx2
        clear hmod hx hx2
        go_enter Tryz.func104, Tryz.ntmps104
        go_wp2_with fail
        go_ret
        refine ⟨?_, b1⟩
        rw [HX.out]
        rfl
      · have hx := Lib.hid (Wd.hex_ge (show 16 ≤ n by omega))
        have hl := Wd.hex_len16 (n / 16) (by omega)
        have hcall := IH.out (n / 16) (by omega) (by omega)
        have HC := Lib.hid hcall
        clear hcall IH
        go_enter Tryz.func104, Tryz.ntmps104
        go_wp2_with fail
        refine (HC.out _).mono ?_
        rintro e w' ⟨rfl, hb⟩
        go_wp2_with fail
        go_ret
        refine ⟨?_, b1.trans (hb.mono b1.size)⟩
        rw [hx.out]
        exact congrArg (fun s => Ending.returned (.string s)) (Wd.joined _ _)
    · obtain ⟨z, hz⟩ : ∃ z : UInt8, 48 + (n : Int) % 16 = (z.toNat : Int) := ⟨UInt8.ofNat (48 + n % 16), by rw [ofNat_toNat _ (by omega)]; omega⟩
      have c1 := conv1 w w.heap.size rfl (48 + (n : Int) % 16) z hz
      clear hz
      have c2 := conv1 (w.alloc (.cells #[.int .u8 (48 + (n : Int) % 16)] 5)) (w.heap.size + 1) (by simp) (87 + (n : Int) % 16) (Wd.hexB (n % 16)) (by rw [Wd.hexB_hi _ (by omega) (by omega)]; omega)
      by_cases h16 : n < 16
      · have hx := Wd.hex_lt h16
        have hmod : n % 16 = n := Nat.mod_eq_of_lt h16
        have hx2 : Wd.hex n = [Wd.hexB (n % 16)] := by rw [hx, hmod]
        have HX := Lib.hid hx2
        clear hmod hx hx2
        go_enter Tryz.func104, Tryz.ntmps104
        go_wp2_with fail
        go_ret
        refine ⟨?_, b2⟩
        rw [HX.out]
        rfl
      · have hx := Lib.hid (Wd.hex_ge (show 16 ≤ n by omega))
        have hl := Wd.hex_len16 (n / 16) (by omega)
        have hcall := IH.out (n / 16) (by omega) (by omega)
        have HC := Lib.hid hcall
        clear hcall IH
        go_enter Tryz.func104, Tryz.ntmps104
        go_wp2_with fail
        refine (HC.out _).mono ?_
        rintro e w' ⟨rfl, hb⟩
        go_wp2_with fail
        go_ret
        refine ⟨?_, b2.trans (hb.mono b2.size)⟩
        rw [hx.out]
        exact congrArg (fun s => Ending.returned (.string s)) (Wd.joined _ _)

theorem refText_any (n : Nat) (hn : n < 18446744073709551616) (w : World) :
    Calls Tryz.prog 63 #[.int .u64 n] w fun e w' => e = .returned (.string (Wd.txt n)) ∧ Below w.heap.size w w' := by
  have hl := Wd.hex_len16 n hn
  go_enter Tryz.func63, Tryz.ntmps63
  go_wp2_with fail
  refine (digits_any n hn _).mono ?_
  rintro e w' ⟨rfl, hb⟩
  go_wp2_with fail
  go_ret
  exact ⟨congrArg (fun s => Ending.returned (.string s)) (Wd.joined [48, 120] (Wd.hex n)), hb⟩

end Go.Proofs.YtbekkdhlfkongaaGreatDoor
/-
  The document's own answers on conditions (package hurdleref08): Right, masked, Holds, part.
-/
namespace Go.Proofs.YtbekkdhlfkongaaGreatDoor
open Go.ChangeShapes Go.WideShapes Go.ChangeAt Go.RowKit
set_option maxRecDepth 20000

theorem cdX {w : World} {g : Nat} {c : Cd} (h : w.heap[g]? = some (cdB c)) : w.cell? ⟨g, 0, none⟩ = some (.int .i64 c.arg) ∧ w.cell? ⟨g, 1, none⟩ = some (.int .i64 c.cmp) ∧ w.cell? ⟨g, 2, none⟩ = some (.int .u64 (c.mask : Nat)) ∧ w.cell? ⟨g, 3, none⟩ = some (.int .u64 (c.value : Nat)) :=
  ⟨cell_in h 0, cell_in h 1, cell_in h 2, cell_in h 3⟩
theorem rright8_any (c : Cd) (w : World) :
    Calls Tryz.prog 23 #[c.val] w fun e w' => e = .returned (.bool c.right) ∧ Below w.heap.size w w' := by
  have HB := Lib.hid (ba (cdB c) (Below.refl w.heap.size w))
  have HX := Lib.hid (heap_alloc_new w (cdB c))
  obtain ⟨c0, c1, c2, c3⟩ := cdX HX.out
  obtain ⟨arg, cmp, mask, value⟩ := c
  by_cases h0 : 0 ≤ arg
  · by_cases h1 : arg ≤ 5
    · by_cases h2 : 0 ≤ cmp
      · by_cases h3 : cmp ≤ 5
        · have HR : Hid ((⟨arg, cmp, mask, value⟩ : Cd).right = true) := Lib.hid (by rw [Cd.right_iff]; exact ⟨h0, h1, h2, h3⟩)
          go_enter Tryz.func23, Tryz.ntmps23
          go_wp2_with fail
          go_ret
          exact ⟨by rw [HR.out]; rfl, HB.out⟩
        · have HR : Hid ((⟨arg, cmp, mask, value⟩ : Cd).right = false) := Lib.hid (by rw [Bool.eq_false_iff, ne_eq, Cd.right_iff]; simp only; omega)
          go_enter Tryz.func23, Tryz.ntmps23
          go_wp2_with fail
          go_ret
          exact ⟨by rw [HR.out]; rfl, HB.out⟩
      · have HR : Hid ((⟨arg, cmp, mask, value⟩ : Cd).right = false) := Lib.hid (by rw [Bool.eq_false_iff, ne_eq, Cd.right_iff]; simp only; omega)
        go_enter Tryz.func23, Tryz.ntmps23
        go_wp2_with fail
        go_ret
        exact ⟨by rw [HR.out]; rfl, HB.out⟩
    · have HR : Hid ((⟨arg, cmp, mask, value⟩ : Cd).right = false) := Lib.hid (by rw [Bool.eq_false_iff, ne_eq, Cd.right_iff]; simp only; omega)
      go_enter Tryz.func23, Tryz.ntmps23
      go_wp2_with fail
      go_ret
      exact ⟨by rw [HR.out]; rfl, HB.out⟩
  · have HR : Hid ((⟨arg, cmp, mask, value⟩ : Cd).right = false) := Lib.hid (by rw [Bool.eq_false_iff, ne_eq, Cd.right_iff]; simp only; omega)
    go_enter Tryz.func23, Tryz.ntmps23
    go_wp2_with fail
    go_ret
    exact ⟨by rw [HR.out]; rfl, HB.out⟩

theorem div_pow (a j : Nat) : a / 2 ^ (j + 1) = a / 2 ^ j / 2 := by rw [Nat.pow_succ, Nat.div_div_eq_div_mul]
theorem bit_div (a j : Nat) : a.testBit j = ((a / 2 ^ j : Nat) % 2 == 1) := by
  rw [Nat.testBit_eq_decide_div_mod_eq]
  generalize a / 2 ^ j = q
  rw [Bool.eq_iff_iff]
  simp
set_option maxHeartbeats 1000000 in
theorem rmasked_any (a b : Nat) (w : World) (ha : a < 18446744073709551616) (hb : b < 18446744073709551616) :
    Calls Tryz.prog 47 #[.int .u64 a, .int .u64 b] w fun e w' => e = .returned (.int .u64 (a &&& b : Nat)) ∧ Below w.heap.size w w' := by
  obtain ⟨P, hP⟩ : ∃ P : Nat → Bool, P = fun i => a.testBit i && b.testBit i := ⟨_, rfl⟩
  have HM : Hid (maskN P 64 = a &&& b) := Lib.hid (by rw [hP]; exact mask_and64 ha)
  have HP : Hid (∀ j, P j = (((a / 2 ^ j : Nat) % 2 == 1) && ((b / 2 ^ j : Nat) % 2 == 1))) := Lib.hid (fun j => by rw [hP]; simp only; rw [bit_div, bit_div])
  clear hP
  go_enter Tryz.func47, Tryz.ntmps47
  go_wp2_with fail
  go_loopw [0, 1, 5, 6, 7] (fun x y o p i wr => ∃ j : Nat, j ≤ 64 ∧ i = .int .i64 j ∧ x = .int .u64 ((a / 2 ^ j : Nat) : Int) ∧ y = .int .u64 ((b / 2 ^ j : Nat) : Int) ∧ o = .int .u64 ((maskN P j : Nat) : Int) ∧ p = .int .u64 ((2 ^ j % 18446744073709551616 : Nat) : Int) ∧ Below w.heap.size w wr) (fun _ _ _ _ i _ => 64 - (intOf i).toNat)
  case atStart => exact ⟨0, by omega, rfl, by rw [Nat.pow_zero, Nat.div_one], by rw [Nat.pow_zero, Nat.div_one], rfl, rfl, Below.refl _ _⟩
  case round =>
    obtain ⟨j, hj, rfl, rfl, rfl, rfl, rfl, hbw⟩ := hrel
    have HB := Lib.hid hbw
    clear hbw
    by_cases hlt : j < 64
    · have HX := Lib.hid (div_pow a j)
      have HY := Lib.hid (div_pow b j)
      have hx1 : a / 2 ^ j ≤ a := Nat.div_le_self _ _
      have hy1 : b / 2 ^ j ≤ b := Nat.div_le_self _ _
      have HPJ := Lib.hid (HP.out j)
      have hpow : 2 ^ j < 18446744073709551616 := Nat.lt_of_lt_of_le (Nat.pow_lt_pow_right (by omega) hlt) (show 2 ^ 64 ≤ 18446744073709551616 by decide)
      have hM := maskN_lt P j
      have HPW : Hid (2 ^ (j + 1) = 2 ^ j * 2) := Lib.hid (Nat.pow_succ 2 j)
      have HMN : Hid (maskN P (j + 1) = maskN P j + (if P j then 2 ^ j else 0)) := Lib.hid rfl
      have e1 : 2 ^ j % 18446744073709551616 = 2 ^ j := Nat.mod_eq_of_lt hpow
      have hpow2 : 2 ^ j ≤ 9223372036854775808 := Nat.pow_le_pow_right (n := 2) (by omega) (show j ≤ 63 by omega)
      rw [e1]
      clear e1 hpow
      generalize a / 2 ^ j = x at *
      generalize b / 2 ^ j = y at *
      generalize maskN P j = m at *
      generalize 2 ^ j = q at *
      have hx2 : (x : Int) ≤ 18446744073709551615 := by omega
      have hy2 : (y : Int) ≤ 18446744073709551615 := by omega
      have hq2 : (q : Int) ≤ 9223372036854775808 := by omega
      have hm2 : (m : Int) < q := by omega
      clear hx1 hy1 hM hpow2
      have hxe : ((x : Int) % 2 == 1) = (x % 2 == 1) := by rw [Bool.eq_iff_iff]; simp; omega
      have hye : ((y : Int) % 2 == 1) = (y % 2 == 1) := by rw [Bool.eq_iff_iff]; simp; omega
      cases hx : (x % 2 == 1)
      · rw [hx] at hxe HPJ
        rw [Bool.false_and] at HPJ
        rw [HPJ.out] at HMN
        clear hye hx
        go_wp2_with fail
        go_roundw
        case rel => exact ⟨j + 1, by omega, by go_num, by rw [HX.out]; go_num, by rw [HY.out]; go_num, by rw [HMN.out]; rfl, by rw [HPW.out]; go_num, HB.out⟩
        case measure => simp [intOf]; omega
      · rw [hx] at hxe HPJ
        rw [Bool.true_and] at HPJ
        clear hx
        cases hy : (y % 2 == 1)
        · rw [hy] at hye HPJ
          rw [HPJ.out] at HMN
          clear hy
          go_wp2_with fail
          go_roundw
          case rel => exact ⟨j + 1, by omega, by go_num, by rw [HX.out]; go_num, by rw [HY.out]; go_num, by rw [HMN.out]; rfl, by rw [HPW.out]; go_num, HB.out⟩
          case measure => simp [intOf]; omega
        · rw [hy] at hye HPJ
          rw [HPJ.out] at HMN
          clear hy
          go_wp2_with fail
          go_roundw
          case rel => exact ⟨j + 1, by omega, by go_num, by rw [HX.out]; go_num, by rw [HY.out]; go_num, by rw [HMN.out]; go_num, by rw [HPW.out]; go_num, HB.out⟩
          case measure => simp [intOf]; omega
    · obtain rfl : j = 64 := by omega
      rw [HM.out]
      go_wp2_with fail
      go_ret
      exact ⟨rfl, HB.out⟩
theorem cmp_lt {v x : Nat} (h : v < x) : cmpB 0 v x = false ∧ cmpB 1 v x = true ∧ cmpB 2 v x = true ∧ cmpB 3 v x = true ∧ cmpB 4 v x = false ∧ cmpB 5 v x = false := by
  refine ⟨?_, ?_, ?_, ?_, ?_, ?_⟩ <;> simp [cmpB] <;> omega
theorem cmp_gt {v x : Nat} (h : x < v) : cmpB 0 v x = false ∧ cmpB 1 v x = true ∧ cmpB 2 v x = false ∧ cmpB 3 v x = false ∧ cmpB 4 v x = true ∧ cmpB 5 v x = true := by
  refine ⟨?_, ?_, ?_, ?_, ?_, ?_⟩ <;> simp [cmpB] <;> omega
theorem cmp_same (v : Nat) : cmpB 0 v v = true ∧ cmpB 1 v v = false ∧ cmpB 2 v v = false ∧ cmpB 3 v v = true ∧ cmpB 4 v v = false ∧ cmpB 5 v v = true := by
  refine ⟨?_, ?_, ?_, ?_, ?_, ?_⟩ <;> simp [cmpB]
theorem bits_lt {c : Cd} {d : Rec} (hd : d.ok) : c.bits d < 18446744073709551616 := by
  have h := args_lt hd c.arg.toNat
  unfold Cd.bits
  exact Nat.lt_of_le_of_lt Nat.and_le_left h
set_option maxHeartbeats 4000000 in
theorem rholds8_any (c : Cd) (d : Rec) (w : World) (hc : c.ok) (hd : d.ok) :
    Calls Tryz.prog 24 #[c.val, d.val] w fun e w' => e = .returned (.bool (c.holds d)) ∧ Below w.heap.size w w' := by
  have HX0 := Lib.hid (ka (.cells d.cells 29) (heap_alloc_new w (cdB c)))
  have hD0 := heap_alloc_new (w.alloc (cdB c)) (.cells d.cells 29)
  rw [size_alloc] at hD0
  have HD0 := Lib.hid hD0
  have HB0 := Lib.hid (ba (.cells d.cells 29) (ba (cdB c) (Below.refl w.heap.size w)))
  obtain ⟨W, hW⟩ : ∃ W, W = (w.alloc (cdB c)).alloc (.cells d.cells 29) := ⟨_, rfl⟩
  rw [← hW] at HX0 HD0 HB0
  clear hD0
  go_enter Tryz.func24, Tryz.ntmps24
  go_upto_region 1 with fail
  rw [← hW]
  clear hW
  obtain ⟨c0, c1, c2, c3⟩ := cdX HX0.out
  go_wp2_with fail
  refine (rright8_any c _).mono ?_
  rintro e w1 ⟨rfl, hb1⟩
  have HX1 := Lib.hid (kb hb1 HX0.out)
  have HD1 := Lib.hid (kb hb1 HD0.out)
  have HB1 := Lib.hid (below2 HB0.out hb1)
  clear hb1 c0 c1 c2 c3 HX0 HD0 HB0
  cases hr : c.right
  · have HR := Lib.hid (holds_bad hr d)
    clear hr
    go_wp2_with fail
    go_ret
    exact ⟨by rw [HR.out]; rfl, HB1.out⟩
  · obtain ⟨a0, a5, k0, k5⟩ := (c.right_iff).1 hr
    have HR : Hid (c.holds d = cmpB c.cmp (c.bits d) c.value) := Lib.hid (by unfold Cd.holds; rw [hr]; rfl)
    obtain ⟨n, hn⟩ : ∃ n : Nat, c.arg = n := ⟨c.arg.toNat, by omega⟩
    have hn6 : n < 6 := by omega
    have HBT : Hid (c.bits d = (argsD d).getD n 0 &&& c.mask) := Lib.hid (by unfold Cd.bits; rw [hn]; rfl)
    have HBL := Lib.hid (bits_lt (c := c) hd)
    have HAL := Lib.hid (args_lt hd n)
    obtain ⟨c0, c1, c2, c3⟩ := cdX HX1.out
    have x3 := (cell_in HD1.out (3 + n)).trans (args_cell d n hn6)
    rw [hn] at c0
    clear hn
    have y0 := cell_regrown c0
    have y2 := cell_regrown c2
    have y3 := cell_regrown x3
    obtain ⟨A, hA⟩ : ∃ A, A = (argsD d).getD n 0 := ⟨_, rfl⟩
    rw [← hA] at HBT HAL y3
    have cM : ∀ d' os, Calls Tryz.prog 47 #[.int .u64 (A : Nat), .int .u64 (c.mask : Nat)] (Sort.grow (redrawn w1 d') os) fun e w'' => e = .returned (.int .u64 (c.bits d : Nat)) ∧ ∃ p : Regrown, w'' = Sort.grow (redrawn w1 p.d) p.os := fun d' os => Calls.regrown_of ((rmasked_any A c.mask _ HAL.out hc.1).mono fun e w' h => ⟨by rw [HBT.out]; exact h.1, h.2⟩)
    generalize c.bits d = V at *
    clear hA hr c0 c1 c2 c3 x3
    go_wp2_with fail
    have l0 : (0 : Int) ≤ (n : Int) := by omega
    have l1 : (n : Int) < 6 := by omega
    have t1 : (n : Int).toNat = n := by omega
    refine wp_region_quiet_below (by kernel_rfl) (by kernel_rfl) ?_
    repeat (quiet_step (with_reducible exact cM _ _))
    refine wpQuiet_nil ?_
    intro _ hw'
    obtain ⟨⟨dq, osq⟩, hw''⟩ := hw'
    subst hw''
    have hbq := below_regrown w1 dq osq
    have HBq := Lib.hid (below2 HB1.out hbq)
    have HXq := Lib.hid (kb hbq HX1.out)
    clear hbq y0 y2 y3 cM l0 l1 t1
    generalize Sort.grow (redrawn w1 dq) osq = Wq at *
    obtain ⟨c0, c1, c2, c3⟩ := cdX HXq.out
    obtain ⟨arg, cmp, mask, x⟩ := c
    simp only at c1 c3 k0 k5 HR
    clear c0 c2
    have HK := Lib.hid (six k0 k5)
    clear k0 k5
    rcases Nat.lt_trichotomy V x with h | h | h
    · obtain ⟨q0, q1, q2, q3, q4, q5⟩ := cmp_lt h
      have i1 : (V : Int) < (x : Int) := by omega
      have i2 : ¬ (x : Int) < (V : Int) := by omega
      have Q := Lib.hid (And.intro q0 (And.intro q1 (And.intro q2 (And.intro q3 (And.intro q4 q5)))))
      clear q0 q1 q2 q3 q4 q5
      rcases HK.out with rfl | rfl | rfl | rfl | rfl | rfl
      · rw [Q.out.1] at HR
        go_wp2_with fail
        go_ret
        exact ⟨by rw [HR.out]; rfl, HBq.out⟩
      · rw [Q.out.2.1] at HR
        go_wp2_with fail
        go_ret
        exact ⟨by rw [HR.out]; rfl, HBq.out⟩
      · rw [Q.out.2.2.1] at HR
        go_wp2_with fail
        go_ret
        exact ⟨by rw [HR.out]; rfl, HBq.out⟩
      · rw [Q.out.2.2.2.1] at HR
        go_wp2_with fail
        go_ret
        exact ⟨by rw [HR.out]; rfl, HBq.out⟩
      · rw [Q.out.2.2.2.2.1] at HR
        go_wp2_with fail
        go_ret
        exact ⟨by rw [HR.out]; rfl, HBq.out⟩
      · rw [Q.out.2.2.2.2.2] at HR
        go_wp2_with fail
        go_ret
        exact ⟨by rw [HR.out]; rfl, HBq.out⟩
    · subst h
      obtain ⟨q0, q1, q2, q3, q4, q5⟩ := cmp_same V
      have i1 : ¬ (V : Int) < (V : Int) := by omega
      have Q := Lib.hid (And.intro q0 (And.intro q1 (And.intro q2 (And.intro q3 (And.intro q4 q5)))))
      clear q0 q1 q2 q3 q4 q5
      rcases HK.out with rfl | rfl | rfl | rfl | rfl | rfl
      · rw [Q.out.1] at HR
        go_wp2_with fail
        go_ret
        exact ⟨by rw [HR.out]; rfl, HBq.out⟩
      · rw [Q.out.2.1] at HR
        go_wp2_with fail
        go_ret
        exact ⟨by rw [HR.out]; rfl, HBq.out⟩
      · rw [Q.out.2.2.1] at HR
        go_wp2_with fail
        go_ret
        exact ⟨by rw [HR.out]; rfl, HBq.out⟩
      · rw [Q.out.2.2.2.1] at HR
        go_wp2_with fail
        go_ret
        exact ⟨by rw [HR.out]; rfl, HBq.out⟩
      · rw [Q.out.2.2.2.2.1] at HR
        go_wp2_with fail
        go_ret
        exact ⟨by rw [HR.out]; rfl, HBq.out⟩
      · rw [Q.out.2.2.2.2.2] at HR
        go_wp2_with fail
        go_ret
        exact ⟨by rw [HR.out]; rfl, HBq.out⟩
    · obtain ⟨q0, q1, q2, q3, q4, q5⟩ := cmp_gt h
      have i1 : ¬ (V : Int) < (x : Int) := by omega
      have i2 : (x : Int) < (V : Int) := by omega
      have Q := Lib.hid (And.intro q0 (And.intro q1 (And.intro q2 (And.intro q3 (And.intro q4 q5)))))
      clear q0 q1 q2 q3 q4 q5
      rcases HK.out with rfl | rfl | rfl | rfl | rfl | rfl
      · rw [Q.out.1] at HR
        go_wp2_with fail
        go_ret
        exact ⟨by rw [HR.out]; rfl, HBq.out⟩
      · rw [Q.out.2.1] at HR
        go_wp2_with fail
        go_ret
        exact ⟨by rw [HR.out]; rfl, HBq.out⟩
      · rw [Q.out.2.2.1] at HR
        go_wp2_with fail
        go_ret
        exact ⟨by rw [HR.out]; rfl, HBq.out⟩
      · rw [Q.out.2.2.2.1] at HR
        go_wp2_with fail
        go_ret
        exact ⟨by rw [HR.out]; rfl, HBq.out⟩
      · rw [Q.out.2.2.2.2.1] at HR
        go_wp2_with fail
        go_ret
        exact ⟨by rw [HR.out]; rfl, HBq.out⟩
      · rw [Q.out.2.2.2.2.2] at HR
        go_wp2_with fail
        go_ret
        exact ⟨by rw [HR.out]; rfl, HBq.out⟩

end Go.Proofs.YtbekkdhlfkongaaGreatDoor
/-
  The document's Words and Print (package hurdleref08).
-/
namespace Go.Proofs.YtbekkdhlfkongaaGreatDoor
open Go.ChangeShapes Go.WideShapes Go.ChangeAt Go.RowKit
set_option maxRecDepth 20000

/-! ### A region whose order is drawn, taken by hand -/
section
variable {ops : Array Oper} {Q : Exit → Act → World → Prop} {md : Region.Mode} {S : World → Prop}
variable {o : Oper} {a : Act}
end
def wordT (k : Int) : ByteArray := ⟨(cmpW k).toArray⟩
end Go.Proofs.YtbekkdhlfkongaaGreatDoor
/-
  Package cond: what Right, Not and Holds answer.
-/
namespace Go.Proofs.YtbekkdhlfkongaaGreatDoor
open Go.ChangeShapes Go.WideShapes Go.ChangeAt Go.RowKit
set_option maxRecDepth 100000

/-- The tables that package cond reads. -/
def QTab (w : World) : Prop := Tab w
theorem QTab.below {w w' : World} (h : QTab w) (hb : Below w.heap.size w w') : QTab w' := Tab.below h hb

/-- The function of a comparison's row. -/
def fnC (k : Int) : Value := if k = 0 then .func (.func 143) #[] #[] else if k = 1 then .func (.func 144) #[] #[] else if k = 2 then .func (.func 145) #[] #[] else if k = 3 then .func (.func 146) #[] #[] else if k = 4 then .func (.func 147) #[] #[] else .func (.func 148) #[] #[]
theorem fnC_one (k : Int) : (fnC k).oneCell' = true := by
  unfold fnC
  repeat' split
  all_goals rfl
def cmpCells : Array Value := #[.string (wordT 0), .int .i64 1, fnC 0, .string (wordT 1), .int .i64 0, fnC 1, .string (wordT 2), .int .i64 5, fnC 2, .string (wordT 3), .int .i64 4, fnC 3, .string (wordT 4), .int .i64 3, fnC 4, .string (wordT 5), .int .i64 2, fnC 5]
theorem cmpCells_at {k : Nat} (h : k < 6) : cmpCells[k * 3]? = some (.string (wordT k)) ∧ cmpCells[k * 3 + 1]? = some (.int .i64 (notK k)) ∧ cmpCells[k * 3 + 2]? = some (fnC k) := by
  match k, h with
  | 0, _ => exact ⟨rfl, rfl, rfl⟩
  | 1, _ => exact ⟨rfl, rfl, rfl⟩
  | 2, _ => exact ⟨rfl, rfl, rfl⟩
  | 3, _ => exact ⟨rfl, rfl, rfl⟩
  | 4, _ => exact ⟨rfl, rfl, rfl⟩
  | 5, _ => exact ⟨rfl, rfl, rfl⟩
theorem cmpCells_lit : cmpCells = #[.string ⟨#[101, 113]⟩, .int .i64 1, .func (.func 143) #[] #[], .string ⟨#[110, 101]⟩, .int .i64 0, .func (.func 144) #[] #[], .string ⟨#[108, 116]⟩, .int .i64 5, .func (.func 145) #[] #[], .string ⟨#[108, 101]⟩, .int .i64 4, .func (.func 146) #[] #[], .string ⟨#[103, 116]⟩, .int .i64 3, .func (.func 147) #[] #[], .string ⟨#[103, 101]⟩, .int .i64 2, .func (.func 148) #[] #[]] := rfl

/-- A function is stored. -/
theorem run_storeF {F : Value} (hF : F.oneCell' = true) (a : Addr) (w : World) : (store a F).run Tryz.prog w = match w.cell? a with
      | some _ => if w.frozen? a then .halt (.unsupported (.unsafePointer "a write to bytes that a string shares")) w else .ok () (w.setCell a F)
      | none => match w.farStore Tryz.prog a F (Mode.plain == .atomic) with
        | .ok (w', _) => .ok () w'
        | .error h => .halt h w := run_store _ w a F _ hF
theorem comparisons_any (w : World) : Calls Tryz.prog 120 #[] w fun e w' => e = .returned (.slice (some ⟨w.heap.size, 0, none⟩) 6 6) ∧ w' = w.alloc (.cells cmpCells 135) := by
  go_enter Tryz.func120, Tryz.ntmps120
  go_wp2_with fail
  go_ret
  rw [cmpCells_lit]
  exact ⟨rfl, rfl⟩

/-- What a valid condition's comparison is, and of one that is not valid. -/
abbrev rowV (k : Int) : Value := .agg #[.string (wordT k), .int .i64 (notK k), fnC k]
abbrev noRow : Value := .agg #[.string ⟨#[]⟩, .int .i64 0, .nilFunc]
theorem compOf_good (c : Cd) (w : World) (hr : c.right = true) :
    Calls Tryz.prog 80 #[c.val] w fun e w' => e = .returned (.tuple #[rowV c.cmp, .bool true]) ∧ Below w.heap.size w w' := by
  have hrr := (c.right_iff).1 hr
  clear hr
  obtain ⟨arg, cmp, mask, value⟩ := c
  simp only at hrr ⊢
  obtain ⟨a0, a5, k0, k5⟩ := hrr
  obtain ⟨n, rfl⟩ : ∃ n : Nat, cmp = n := ⟨cmp.toNat, by omega⟩
  obtain ⟨m, rfl⟩ : ∃ n : Nat, arg = n := ⟨arg.toNat, by omega⟩
  obtain ⟨W, hW, X0, X1, HBx⟩ := box2 w (cdB ⟨m, n, mask, value⟩) (.cells #[.string ⟨#[]⟩, .int .i64 0, .nilFunc] 135)
  have HX0 := Lib.hid X0
  have HX1 := Lib.hid X1
  have HB := Lib.hid HBx
  have hn6 : n < 6 := by omega
  clear X0 X1 HBx
  go_enter Tryz.func80, Tryz.ntmps80
  go_upto_region 1 with fail
  rw [← hW]
  clear hW
  go_wp2_with fail
  refine (comparisons_any _).mono ?_
  rintro e w1 ⟨rfl, hw1⟩
  have HC1 : Hid (w1.heap[W.heap.size]? = some (.cells cmpCells 135)) := Lib.hid (by rw [hw1]; exact heap_alloc_new W _)
  have HX01 : Hid (w1.heap[w.heap.size]? = some (cdB ⟨m, n, mask, value⟩)) := Lib.hid (by rw [hw1]; exact ka _ HX0.out)
  have HX11 : Hid (w1.heap[w.heap.size + 1]? = some (.cells #[.string ⟨#[]⟩, .int .i64 0, .nilFunc] 135)) := Lib.hid (by rw [hw1]; exact ka _ HX1.out)
  have HB1 : Hid (Below w.heap.size w w1) := Lib.hid (by rw [hw1]; exact ba _ HB.out)
  clear hw1 HX0 HX1 HB
  obtain ⟨c0, c1, _, _⟩ := cdX HX01.out
  obtain ⟨r0, r1, r2⟩ := cmpCells_at hn6
  have d0 := (cell_in HC1.out (n * 3)).trans r0
  have d1 := (cell_in HC1.out (n * 3 + 1)).trans r1
  have d2 := (cell_in HC1.out (n * 3 + 2)).trans r2
  have l0 : ¬ (m : Int) < 0 := by omega
  have l1 : ¬ (6 : Int) ≤ (m : Int) := by omega
  have l2 : ¬ (n : Int) < 0 := by omega
  have l3 : ¬ (6 : Int) ≤ (n : Int) := by omega
  have f0 := free_in HX11.out 0
  have f1 := free_in HX11.out 1
  have f2 := free_in HX11.out 2
  have e0 := cell_in HX11.out 0
  have e1 := cell_in HX11.out 1
  have e2 := cell_in HX11.out 2
  have hst := run_storeF (fnC_one n)
  clear r0 r1 r2 a0 a5 k0 k5
  go_wp2_with fail
  (try simp only [Exit.inBlock, Exit.then])
  refine bodyPost_ret (v := .tuple #[.agg #[.string (wordT (n : Int)), .int .i64 (notK (n : Int)), fnC (n : Int)], .bool true]) ?_ rfl ⟨rfl, ?_⟩
  · rw [results_cell_tmp rfl]
    go_simp
  · have hB := HB1.out
    go_grown
/-- Where one of a condition's numbers is off. -/
theorem bad_cd {c : Cd} (hr : c.right = false) : c.arg < 0 ∨ (0 ≤ c.arg ∧ 6 ≤ c.arg) ∨ (0 ≤ c.arg ∧ c.arg < 6 ∧ c.cmp < 0) ∨ (0 ≤ c.arg ∧ c.arg < 6 ∧ 0 ≤ c.cmp ∧ 6 ≤ c.cmp) := by
  have : ¬ c.right = true := by rw [hr]; simp
  rw [Cd.right_iff] at this
  omega
theorem compOf_bad (c : Cd) (w : World) (hr : c.right = false) :
    Calls Tryz.prog 80 #[c.val] w fun e w' => e = .returned (.tuple #[noRow, .bool false]) ∧ Below w.heap.size w w' := by
  have hbad := bad_cd hr
  clear hr
  obtain ⟨arg, cmp, mask, value⟩ := c
  simp only at hbad
  obtain ⟨W, hW, X0, X1, HBx⟩ := box2 w (cdB ⟨arg, cmp, mask, value⟩) (.cells #[.string ⟨#[]⟩, .int .i64 0, .nilFunc] 135)
  have HX0 := Lib.hid X0
  have HX1 := Lib.hid X1
  have HB := Lib.hid HBx
  have HBad := Lib.hid hbad
  clear X0 X1 HBx hbad
  go_enter Tryz.func80, Tryz.ntmps80
  go_upto_region 1 with fail
  rw [← hW]
  clear hW
  go_wp2_with fail
  refine (comparisons_any _).mono ?_
  rintro e w1 ⟨rfl, hw1⟩
  have HX01 : Hid (w1.heap[w.heap.size]? = some (cdB ⟨arg, cmp, mask, value⟩)) := Lib.hid (by rw [hw1]; exact ka _ HX0.out)
  have HX11 : Hid (w1.heap[w.heap.size + 1]? = some (.cells #[.string ⟨#[]⟩, .int .i64 0, .nilFunc] 135)) := Lib.hid (by rw [hw1]; exact ka _ HX1.out)
  have HB1 : Hid (Below w.heap.size w w1) := Lib.hid (by rw [hw1]; exact ba _ HB.out)
  clear hw1 HX0 HX1 HB
  obtain ⟨c0, c1, _, _⟩ := cdX HX01.out
  have f0 := free_in HX11.out 0
  have f1 := free_in HX11.out 1
  have f2 := free_in HX11.out 2
  have hst := run_storeF (F := .nilFunc) rfl
  have e0 := cell_in HX11.out 0
  have e1 := cell_in HX11.out 1
  have e2 := cell_in HX11.out 2
  rcases HBad.out with h | ⟨h0, h⟩ | ⟨h0, h1, h⟩ | ⟨h0, h1, h2, h⟩
  · have g : decide (arg < 0) = true := by simpa using h
    clear h
    go_wp2_with fail
    (try simp only [Exit.inBlock, Exit.then])
    refine bodyPost_ret (v := .tuple #[.agg #[.string ⟨#[]⟩, .int .i64 0, .nilFunc], .bool false]) ?_ rfl ⟨rfl, ?_⟩
    · rw [results_cell_tmp rfl]
      go_simp
    · have hB := HB1.out
      go_grown
  · have g0 : decide (arg < 0) = false := by simpa using h0
    have g : decide (6 ≤ arg) = true := by simpa using h
    clear h h0
    go_wp2_with fail
    (try simp only [Exit.inBlock, Exit.then])
    refine bodyPost_ret (v := .tuple #[.agg #[.string ⟨#[]⟩, .int .i64 0, .nilFunc], .bool false]) ?_ rfl ⟨rfl, ?_⟩
    · rw [results_cell_tmp rfl]
      go_simp
    · have hB := HB1.out
      go_grown
  · have g0 : decide (arg < 0) = false := by simpa using h0
    have g1 : decide (6 ≤ arg) = false := by simpa using h1
    have g : decide (cmp < 0) = true := by simpa using h
    clear h h0 h1
    go_wp2_with fail
    (try simp only [Exit.inBlock, Exit.then])
    refine bodyPost_ret (v := .tuple #[.agg #[.string ⟨#[]⟩, .int .i64 0, .nilFunc], .bool false]) ?_ rfl ⟨rfl, ?_⟩
    · rw [results_cell_tmp rfl]
      go_simp
    · have hB := HB1.out
      go_grown
  · have g0 : decide (arg < 0) = false := by simpa using h0
    have g1 : decide (6 ≤ arg) = false := by simpa using h1
    have g2 : decide (cmp < 0) = false := by simpa using h2
    have g : decide (6 ≤ cmp) = true := by simpa using h
    clear h h0 h1 h2
    go_wp2_with fail
    (try simp only [Exit.inBlock, Exit.then])
    refine bodyPost_ret (v := .tuple #[.agg #[.string ⟨#[]⟩, .int .i64 0, .nilFunc], .bool false]) ?_ rfl ⟨rfl, ?_⟩
    · rw [results_cell_tmp rfl]
      go_simp
    · have hB := HB1.out
      go_grown
/-- Both at once. -/
theorem compOf_any (c : Cd) (w : World) :
    Calls Tryz.prog 80 #[c.val] w fun e w' => (∃ T K F, e = .returned (.tuple #[.agg #[.string T, .int .i64 K, F], .bool c.right]) ∧ F.oneCell' = true ∧ (c.right = true → T = wordT c.cmp ∧ K = notK c.cmp ∧ F = fnC c.cmp)) ∧ Below w.heap.size w w' := by
  cases hr : c.right
  · refine (compOf_bad c w hr).mono ?_
    rintro e w' ⟨rfl, h⟩
    exact ⟨⟨_, _, _, rfl, rfl, fun h => by cases h⟩, h⟩
  · refine (compOf_good c w hr).mono ?_
    rintro e w' ⟨rfl, h⟩
    exact ⟨⟨_, _, _, rfl, fnC_one _, fun _ => ⟨rfl, rfl, rfl⟩⟩, h⟩
theorem qright_any (c : Cd) (w : World) (_ht : QTab w) :
    Calls Tryz.prog 45 #[c.val] w fun e w' => e = .returned (.bool c.right) ∧ Below w.heap.size w w' := by
  have HX := Lib.hid (heap_alloc_new w (cdB c))
  have HB := Lib.hid (ba (cdB c) (Below.refl w.heap.size w))
  obtain ⟨W, hW⟩ : ∃ W, W = w.alloc (cdB c) := ⟨_, rfl⟩
  rw [← hW] at HX HB
  obtain ⟨c0, c1, c2, c3⟩ := cdX HX.out
  go_enter Tryz.func45, Tryz.ntmps45
  go_upto_region 1 with fail
  rw [← hW]
  clear hW
  go_wp2_with fail
  refine (compOf_any c _).mono ?_
  rintro e w1 ⟨⟨T, K, F, rfl, hF, _⟩, hb1⟩
  have HB1 := Lib.hid (below2 HB.out hb1)
  have hst := run_storeF hF
  obtain ⟨r, hr⟩ : ∃ r, c.right = r := ⟨_, rfl⟩
  rw [hr]
  have HR := Lib.hid hr
  clear hb1 hr
  go_wp2_with fail
  go_ret
  refine ⟨by rw [HR.out]; rfl, ?_⟩
  have hB := HB1.out
  have hs := hB.size
  go_grown
set_option maxHeartbeats 2000000 in
theorem qnot_any (c : Cd) (w : World) (_ht : QTab w) :
    Calls Tryz.prog 81 #[c.val] w fun e w' => e = .returned c.not.val ∧ Below w.heap.size w w' := by
  obtain ⟨W, hW, X0, X1, HBx⟩ := box2 w (cdB c) (cdB zeroCd)
  have HX := Lib.hid X0
  have HZ := Lib.hid X1
  have HB := Lib.hid HBx
  clear X0 X1 HBx
  obtain ⟨c0, c1, c2, c3⟩ := cdX HX.out
  go_enter Tryz.func81, Tryz.ntmps81
  go_upto_region 1 with fail
  change Code.wp _ _ _ _ ((w.alloc (cdB c)).alloc (cdB zeroCd))
  rw [← hW]
  clear hW
  go_wp2_with fail
  refine (compOf_any c _).mono ?_
  rintro e w1 ⟨⟨T, K, F, rfl, hF, hv⟩, hb1⟩
  have HB1 := Lib.hid (below2 HB.out hb1)
  have HX1 := Lib.hid (kb hb1 HX.out)
  have HZ1 := Lib.hid (kb hb1 HZ.out)
  have hst := run_storeF hF
  clear hb1 c0 c1 c2 c3 HX HZ HB
  have hlt : w.heap.size < w1.heap.size := lt_of_block HX1.out
  have hlt2 : w.heap.size + 1 < w1.heap.size := lt_of_block HZ1.out
  obtain ⟨c0, c1, c2, c3⟩ := cdX HX1.out
  have g0 := free_in HX1.out 0
  have g1 := free_in HX1.out 1
  have g2 := free_in HX1.out 2
  have g3 := free_in HX1.out 3
  have r0 := cell_in HZ1.out 0
  have r1 := cell_in HZ1.out 1
  have r2 := cell_in HZ1.out 2
  have r3 := cell_in HZ1.out 3
  have f0 := free_in HZ1.out 0
  have f1 := free_in HZ1.out 1
  have f2 := free_in HZ1.out 2
  have f3 := free_in HZ1.out 3
  cases hr : c.right
  · have HN : Hid (c.not = c) := Lib.hid (by unfold Cd.not; rw [hr]; rfl)
    clear hv hr
    go_wp2_with fail
    (try simp only [Exit.inBlock, Exit.then])
    refine bodyPost_ret (v := c.val) ?_ rfl ⟨by rw [HN.out], ?_⟩
    · simp [results, Tryz.results81, *, go_sem]
    · have hB := HB1.out
      go_grown
  · obtain ⟨hT, hK, hF2⟩ := hv hr
    have HN : Hid (c.not = ⟨c.arg, K, c.mask, c.value⟩) := Lib.hid (by unfold Cd.not; rw [hr, hK]; rfl)
    clear hv hr hK hT hF2
    go_wp2_with fail
    (try simp only [Exit.inBlock, Exit.then])
    refine bodyPost_ret (v := .agg #[.int .i64 c.arg, .int .i64 K, .int .u64 (c.mask : Nat), .int .u64 (c.value : Nat)]) ?_ rfl ⟨by rw [HN.out], ?_⟩
    · simp [results, Tryz.results81, *, go_sem]
    · have hB := HB1.out
      go_grown
end Go.Proofs.YtbekkdhlfkongaaGreatDoor
/-
  The test of a condition, as package lower puts it.
-/
namespace Go.Proofs.YtbekkdhlfkongaaGreatDoor
open Go.ChangeShapes Go.WideShapes Go.ChangeAt Go.RowKit
set_option maxRecDepth 20000

theorem dlow_in {x : Cd} (hr : x.right = true) (w : World) : Calls Tryz.prog 121 #[.int .i64 x.arg] w fun e w' => e = .returned (.int .u32 ((16 + 8 * x.arg.toNat : Nat) : Int)) ∧ w = w' := by
  have h := x.right_iff.1 hr
  refine (low_any x.arg w).mono ?_
  rintro e w' ⟨rfl, rfl⟩
  exact ⟨retU32 (by rw [argAt_in (by omega) (by omega)]; omega), rfl⟩
theorem dhigh_in {x : Cd} (hr : x.right = true) (w : World) : Calls Tryz.prog 122 #[.int .i64 x.arg] w fun e w' => e = .returned (.int .u32 ((20 + 8 * x.arg.toNat : Nat) : Int)) ∧ w = w' := by
  have h := x.right_iff.1 hr
  refine (high_any x.arg w).mono ?_
  rintro e w' ⟨rfl, rfl⟩
  exact ⟨retU32 (by rw [argAt_in (by omega) (by omega)]; omega), rfl⟩
def zeroHf : Hf := ⟨0, 0, 0⟩
theorem hput_hf {w : World} {g : Nat} {o : Hf} (h : w.heap[g]? = some (hfB o)) (a b c : Nat) :
    RowPut w (((w.setCell ⟨g, 0, none⟩ (.int .u32 (a : Nat))).setCell ⟨g, 1, none⟩ (.int .u32 (b : Nat))).setCell ⟨g, 2, none⟩ (.int .u32 (c : Nat))) g (hfB ⟨a, b, c⟩) := by
  have h1 := hrow_cell h 0 (.int .u32 (a : Nat))
  have h2 := hrow_cell h1.row 1 (.int .u32 (b : Nat))
  have h3 := hrow_cell h2.row 2 (.int .u32 (c : Nat))
  exact hrow_then (hrow_then h1 h2) h3
theorem hput_hfd {w : World} {g : Nat} {o : Hf} (h : w.heap[g]? = some (hfB o)) (a b c : Nat) :
    RowPut w (((w.setCell ⟨g, 0, none⟩ (.int .u32 (a : Nat))).setCell ⟨g, 1, none⟩ (.int .u32 (b : Nat))).setCell ⟨g, 2, none⟩ (.int .u32 (c : Nat))).drew g (hfB ⟨a, b, c⟩) := by
  have h := hput_hf h a b c
  exact ⟨h.os, h.tape, h.output, h.size, h.row, h.rest⟩
set_option maxHeartbeats 8000000 in
theorem dhalves_any (x : Cd) (w : World) (hr : x.right = true) (hx : x.ok) : Calls Tryz.prog 82 #[x.val] w fun e w' => e = .returned (.tuple #[(loH x).val, (hiH x).val]) ∧ Below w.heap.size w w' := by
  have HL := Lib.hid (fun W => dlow_in hr W)
  have HH := Lib.hid (fun W => dhigh_in hr W)
  obtain ⟨hm, hv⟩ := hx
  obtain ⟨arg, cmp, mask, value⟩ := x
  simp only at HL HH hm hv
  obtain ⟨p, hp⟩ : ∃ p, p = 16 + 8 * arg.toNat := ⟨_, rfl⟩
  obtain ⟨q, hq⟩ : ∃ p, p = 20 + 8 * arg.toNat := ⟨_, rfl⟩
  obtain ⟨ml, hml⟩ : ∃ p, p = mask % 4294967296 := ⟨_, rfl⟩
  obtain ⟨mh, hmh⟩ : ∃ p, p = mask / 4294967296 := ⟨_, rfl⟩
  obtain ⟨vl, hvl⟩ : ∃ p, p = value % 4294967296 := ⟨_, rfl⟩
  obtain ⟨vh, hvh⟩ : ∃ p, p = value / 4294967296 := ⟨_, rfl⟩
  have elo : loH ⟨arg, cmp, mask, value⟩ = ⟨p, ml, vl⟩ := by rw [hp, hml, hvl]; rfl
  have ehi : hiH ⟨arg, cmp, mask, value⟩ = ⟨q, mh, vh⟩ := by rw [hq, hmh, hvh]; rfl
  rw [elo, ehi]
  have k1 : IntKind.u32.wrap (mask : Int) = (ml : Int) := by rw [IntKind.wrap_u32]; omega
  have k2 : IntKind.u32.wrap (value : Int) = (vl : Int) := by rw [IntKind.wrap_u32]; omega
  have k3 : IntKind.u32.wrap ((mask : Int) / 4294967296) = (mh : Int) := by rw [IntKind.wrap_u32]; omega
  have k4 : IntKind.u32.wrap ((value : Int) / 4294967296) = (vh : Int) := by rw [IntKind.wrap_u32]; omega
  have k5 : (mask : Int) % 4294967296 = (ml : Int) := by omega
  have k6 : (value : Int) % 4294967296 = (vl : Int) := by omega
  have k7 : (mask : Int) / 4294967296 = (mh : Int) := by omega
  have k8 : (value : Int) / 4294967296 = (vh : Int) := by omega
  have k9 : IntKind.u32.wrap (mh : Int) = (mh : Int) := by rw [IntKind.wrap_u32]; omega
  have k10 : IntKind.u32.wrap (vh : Int) = (vh : Int) := by rw [IntKind.wrap_u32]; omega
  rw [← hp] at HL
  rw [← hq] at HH
  clear hp hq hml hmh hvl hvh elo ehi hr
  obtain ⟨W, hW, X0, X1, X2, HBx⟩ := box3 w (cdB ⟨arg, cmp, mask, value⟩) (hfB zeroHf) (hfB zeroHf)
  have HX := Lib.hid X0
  have HY := Lib.hid X1
  have HZ := Lib.hid X2
  have HB := Lib.hid HBx
  clear X0 X1 X2 HBx
  obtain ⟨Q, hQ⟩ : ∃ Q, Q = bodyPost Tryz.prog Tryz.f82 (fun e w' => e = .returned (.tuple #[Hf.val ⟨p, ml, vl⟩, Hf.val ⟨q, mh, vh⟩]) ∧ Below w.heap.size w w') := ⟨_, rfl⟩
  go_enter Tryz.func82, Tryz.ntmps82
  rw [← hQ]
  have HQ0 := Lib.hid hQ
  clear hQ
  go_upto_region 1 with fail
  change Code.wp _ _ _ _ (((w.alloc (cdB ⟨arg, cmp, mask, value⟩)).alloc (hfB zeroHf)).alloc (hfB zeroHf))
  rw [← hW]
  clear hW
  obtain ⟨g2, hg2⟩ : ∃ g, g = w.heap.size + 1 + 1 := ⟨_, rfl⟩
  obtain ⟨g1, hg1⟩ : ∃ g, g = w.heap.size + 1 := ⟨_, rfl⟩
  obtain ⟨g0, hg0⟩ : ∃ g, g = w.heap.size := ⟨_, rfl⟩
  have d1 : g0 ≠ g1 := by omega
  have d2 : g0 ≠ g2 := by omega
  have d3 : g1 ≠ g2 := by omega
  have d4 : g1 ≠ g0 := by omega
  have d5 : g2 ≠ g0 := by omega
  have d6 : g2 ≠ g1 := by omega
  have HGE := Lib.hid (show w.heap.size ≤ g1 ∧ w.heap.size ≤ g2 by omega)
  have HX : Hid (W.heap[g0]? = some (cdB ⟨arg, cmp, mask, value⟩)) := Lib.hid (by rw [hg0]; exact HX.out)
  have HY : Hid (W.heap[g1]? = some (hfB zeroHf)) := Lib.hid (by rw [hg1]; exact HY.out)
  have HZ : Hid (W.heap[g2]? = some (hfB zeroHf)) := Lib.hid (by rw [hg2]; exact HZ.out)
  rw [← hg2, ← hg1, ← hg0]
  clear hg2 hg1 hg0
  obtain ⟨c0, c1, c2, c3⟩ := cdX HX.out
  simp only at c0 c1 c2 c3
  have f0 := free_in HY.out 0
  have f1 := free_in HY.out 1
  have f2 := free_in HY.out 2
  obtain ⟨y0, y1, y2⟩ := hfX HY.out
  have hlt : g1 < W.heap.size := lt_of_block HY.out
  go_region_held3 (fun V => V.cell? ⟨g0, 0, none⟩ = some (.int .i64 arg) ∧ V.cell? ⟨g0, 2, none⟩ = some (.int .u64 (mask : Nat)) ∧ V.cell? ⟨g0, 3, none⟩ = some (.int .u64 (value : Nat))) (first | exact ⟨c0, c2, c3⟩ | go_keep)
    (first
      | (go_at_call 121; refine (HL.out _).mono ?_; rintro e' w' ⟨rfl, rfl⟩))
  rename_i hHeld
  clear hHeld
  have hp := hput_hfd HY.out p ml vl
  obtain ⟨V, hV⟩ : ∃ V, V = (((W.setCell ⟨g1, 0, none⟩ (.int .u32 (p : Nat))).setCell ⟨g1, 1, none⟩ (.int .u32 (ml : Nat))).setCell ⟨g1, 2, none⟩ (.int .u32 (vl : Nat))).drew := ⟨_, rfl⟩
  rw [← hV] at hp ⊢
  have HY2 := Lib.hid hp.row
  have HX2 := Lib.hid (hp.keep d1 HX.out)
  have HZ2 := Lib.hid (hp.keep d6 HZ.out)
  have HB2 := Lib.hid (hp.below HB.out HGE.out.1)
  clear hp hV HX HY HZ HB c0 c1 c2 c3 f0 f1 f2 y0 y1 y2 hlt
  obtain ⟨c0, c1, c2, c3⟩ := cdX HX2.out
  simp only at c0 c1 c2 c3
  have f0 := free_in HZ2.out 0
  have f1 := free_in HZ2.out 1
  have f2 := free_in HZ2.out 2
  obtain ⟨y0, y1, y2⟩ := hfX HZ2.out
  have hlt : g2 < V.heap.size := lt_of_block HZ2.out
  go_wp2_with fail
  go_region_held3 (fun V => V.cell? ⟨g0, 0, none⟩ = some (.int .i64 arg) ∧ V.cell? ⟨g0, 2, none⟩ = some (.int .u64 (mask : Nat)) ∧ V.cell? ⟨g0, 3, none⟩ = some (.int .u64 (value : Nat))) (first | exact ⟨c0, c2, c3⟩ | go_keep)
    (first
      | (go_at_call 122; refine (HH.out _).mono ?_; rintro e' w' ⟨rfl, rfl⟩))
  rename_i hHeld
  clear hHeld
  have hp := hput_hfd HZ2.out q mh vh
  obtain ⟨U, hU⟩ : ∃ U, U = (((V.setCell ⟨g2, 0, none⟩ (.int .u32 (q : Nat))).setCell ⟨g2, 1, none⟩ (.int .u32 (mh : Nat))).setCell ⟨g2, 2, none⟩ (.int .u32 (vh : Nat))).drew := ⟨_, rfl⟩
  rw [← hU] at hp ⊢
  have HZ3 := Lib.hid hp.row
  have HY3 := Lib.hid (hp.keep d3 HY2.out)
  have HB3 := Lib.hid (hp.below HB2.out HGE.out.2)
  clear hp hU HX2 HY2 HZ2 HB2 c0 c1 c2 c3 f0 f1 f2 y0 y1 y2 k1 k2 k3 k4 k5 k6 k7 k8 k9 k10 hlt hm hv
  have f0 := free_in HZ3.out 0
  have f1 := free_in HZ3.out 1
  have f2 := free_in HZ3.out 2
  have e0 := free_in HY3.out 0
  have e1 := free_in HY3.out 1
  have e2 := free_in HY3.out 2
  obtain ⟨z0, z1, z2⟩ := hfX HZ3.out
  obtain ⟨y0, y1, y2⟩ := hfX HY3.out
  simp only at z0 z1 z2 y0 y1 y2
  have hlt : g2 < U.heap.size := lt_of_block HZ3.out
  go_wp2_with fail
  go_region
  have hp1 := hput_hf HY3.out p ml vl
  have hp2 := hput_hfd (hp1.keep d6 HZ3.out) q mh vh
  have HY4 := Lib.hid (hp2.keep d3 hp1.row)
  have HZ4 := Lib.hid hp2.row
  have HB4 := Lib.hid (hp2.below (hp1.below HB3.out HGE.out.1) HGE.out.2)
  generalize ((((((U.setCell ⟨g1, 0, none⟩ (.int .u32 (p : Nat))).setCell ⟨g1, 1, none⟩ (.int .u32 (ml : Nat))).setCell ⟨g1, 2, none⟩ (.int .u32 (vl : Nat))).setCell ⟨g2, 0, none⟩ (.int .u32 (q : Nat))).setCell ⟨g2, 1, none⟩ (.int .u32 (mh : Nat))).setCell ⟨g2, 2, none⟩ (.int .u32 (vh : Nat))).drew = U2 at HY4 HZ4 HB4 ⊢
  clear hp1 hp2 HY3 HZ3 HB3 f0 f1 f2 e0 e1 e2 z0 z1 z2 y0 y1 y2 hlt
  obtain ⟨z0, z1, z2⟩ := hfX HZ4.out
  obtain ⟨y0, y1, y2⟩ := hfX HY4.out
  simp only at z0 z1 z2 y0 y1 y2
  go_wp2_with fail
  rw [HQ0.out]
  (try simp only [Exit.inBlock, Exit.then])
  refine bodyPost_ret (v := .tuple #[Hf.val ⟨p, ml, vl⟩, Hf.val ⟨q, mh, vh⟩]) ?_ rfl ⟨rfl, HB4.out⟩
  simp [results, Tryz.results82, go_sem, y0, y1, y2, z0, z1, z2]

/-! ### The map of the branches -/
def rowsJ : List (Int × Value) := [(0, .int .i64 21), (4, .int .i64 37), (5, .int .i64 53)]
def jopsD : DataW Value := putAll rowsJ (.map [])
theorem last_jops (k : Int) : lastOf rowsJ k none = if dirK k then some (.int .i64 (opK k)) else none := by
  by_cases h0 : k = 0
  · subst h0; rfl
  by_cases h4 : k = 4
  · subst h4; rfl
  by_cases h5 : k = 5
  · subst h5; rfl
  have hd : dirK k = false := by unfold dirK; simp [h0, h4, h5]
  rw [hd]
  simp [lastOf, rowsJ, h0, h4, h5]
theorem has_jops (k : Int) : Maps.has jopsD (keyL k) = dirK k := by
  unfold jopsD
  rw [has_all rowsJ (.map []) k none Maps.isMap_empty rfl, last_jops]
  cases dirK k <;> rfl
theorem at_jops (k : Int) (z : Value) : jopsD.atKey (keyL k) (.held z) = .held (if dirK k then .int .i64 (opK k) else z) := by
  unfold jopsD
  rw [at_all rowsJ (.map []) k none z Maps.isMap_empty rfl, last_jops]
  cases dirK k <;> rfl
theorem zeroJ (w : World) : (zeroValue 3).run Tryz.prog w = .ok (.int .i64 0) w := by kernel_rfl
theorem look_jops {w : World} {b : Nat} (h : w.ownsMap Tryz.prog 3 fnR b 3 jopsD) (k : Int) (ho : -9223372036854775808 ≤ k ∧ k ≤ 9223372036854775807) :
    (Instr.lookup 138 (.map (some b)) (.int .i64 k) true).run Tryz.prog w = .ok (.tuple #[if dirK k then .int .i64 (opK k) else .int .i64 0, .bool (dirK k)]) w := by
  obtain ⟨v, ps, hr, hv⟩ := h.look_ok keyI Tryz.underlying138 (zeroJ w) (zd := .held (.int .i64 0)) (zp := []) rfl (keyOfI ho)
  rw [at_jops] at hv
  rw [has_jops] at hr
  unfold fnR at hv
  simp only [Option.some.injEq, Prod.mk.injEq, DataW.held.injEq] at hv
  rw [hr, hv.1]
theorem look_jop {w : World} {b : Nat} (h : w.ownsMap Tryz.prog 3 fnR b 3 jopsD) (k : Int) (ho : -9223372036854775808 ≤ k ∧ k ≤ 9223372036854775807) (hd : dirK k = true) :
    (Instr.lookup 138 (.map (some b)) (.int .i64 k) false).run Tryz.prog w = .ok (.int .i64 (opK k)) w := by
  obtain ⟨v, ps, hr, hv⟩ := h.lookup keyI Tryz.underlying138 (zeroJ w) (zd := .held (.int .i64 0)) (zp := []) rfl (keyOfI ho)
  rw [at_jops, if_pos hd] at hv
  unfold fnR at hv
  simp only [Option.some.injEq, Prod.mk.injEq, DataW.held.injEq] at hv
  rw [hr, hv.1]
/-- The map while it is filled. -/
def JK (w0 : World) (b n : Nat) (D : DataW Value) (w : World) : Prop := w.ownsMap Tryz.prog 3 fnR b n D ∧ Below w0.heap.size w0 w ∧ w0.heap.size ≤ b
theorem jk_new (w : World) : JK w w.heap.size 0 (.map []) (w.alloc (.map #[] 0)) :=
  ⟨World.ownsMap_made w Tryz.prog 3 fnR, ba _ (Below.refl _ _), Nat.le_refl _⟩
theorem wpList_jins (w : World) {ops : Array Oper} {rest : List Oper} {o : Oper} {a : Act} {Q : Exit → Act → World → Prop}
    (hg : o.guard = none) (m x v : Operand) (hop : o.op = Op.insert 138 m x v) {w0 : World} {b n : Nat} {D : DataW Value}
    (hm : a.eval m = .map (some b)) (h : JK w0 b n D w) (hn : n < 100) (k : Int) (hk : -9223372036854775808 ≤ k ∧ k ≤ 9223372036854775807) (hx : a.eval x = .int .i64 k) (val : Value) (hv : a.eval v = val)
    (hK : ∀ w', JK w0 b (n + 1) (D.put (keyL k) (.held val)) w' → wpList Tryz.prog ops Q rest (a.put o.dst undef) w') : wpList Tryz.prog ops Q (o :: rest) a w := by
  obtain ⟨h1, h2, h3⟩ := h
  refine wpList_insert_own w hg m x v _ hop _ _ keyI Tryz.underlying138 fnR b n D hm h1 (by unfold maxLen; omega) _ val _ hx hv (keyOfI hk) _ [] rfl ?_
  intro w' h1' hg'
  exact hK w' ⟨h1', h2.grown hg' h2.size (fun k hk => by cases hk; exact h3), h3⟩
end Go.Proofs.YtbekkdhlfkongaaGreatDoor
/-
  The test of a condition, as package lower puts it: the method test, and the function Test. (Printed by tools/gen-ztst.py.)
-/
namespace Go.Proofs.YtbekkdhlfkongaaGreatDoor
open Go.ChangeShapes Go.WideShapes Go.ChangeAt Go.RowKit
set_option maxRecDepth 20000

/-- What stays while a test is put: the draft, the table, the two halves. -/
structure TSt (w : World) (b : Nat) (t : TypeId) (rest : Array Value) (gl gh : Nat) (lo hi : Hf) (s : DS) (W : World) : Prop where
  dr : DrAt W b t rest s
  ops : OpsAt W b
  lo : W.heap[gl]? = some (hfB lo)
  hi : W.heap[gh]? = some (hfB hi)
  chg : Chg b w W
  nl : gl ≠ b
  nh : gh ≠ b
theorem TSt.below {w : World} {b : Nat} {t : TypeId} {rest : Array Value} {gl gh : Nat} {lo hi : Hf} {s : DS} {W W' : World} (h : TSt w b t rest gl gh lo hi s W) (hb : Below W.heap.size W W') : TSt w b t rest gl gh lo hi s W' :=
  ⟨h.dr.below hb, h.ops.chg (Chg.of_below hb), kb hb h.lo, kb hb h.hi, h.chg.trans (Chg.of_below hb), h.nl, h.nh⟩
theorem TSt.next {w : World} {b : Nat} {t : TypeId} {rest : Array Value} {gl gh : Nat} {lo hi : Hf} {s s' : DS} {W W' : World} (h : TSt w b t rest gl gh lo hi s W) (hd : DrAt W' b t rest s') (hc : Chg b W W') : TSt w b t rest gl gh lo hi s' W' :=
  ⟨hd, h.ops.chg hc, hc.keep h.lo h.nl, hc.keep h.hi h.nh, h.chg.trans hc, h.nl, h.nh⟩
theorem bothS_is {s : DS} {op l m : Int} {lo hi : Hf} {P Q : DS × Int} (hP : P = compareS s op lo l m) (hQ : Q = diffS P.1 op (hi.value : Nat) l m) :
    bothS s op lo hi l m = maskedS (branchS Q.1 21 (hi.value : Nat) P.2 Q.2).1 hi (branchS Q.1 21 (hi.value : Nat) P.2 Q.2).2 := by rw [hQ, hP]; rfl
theorem hput_cd {w : World} {g : Nat} {x : Cd} (h : w.heap[g]? = some (cdB x)) (y : Cd) :
    RowPut w ((((w.setCell ⟨g, 0, none⟩ (.int .i64 y.arg)).setCell ⟨g, 1, none⟩ (.int .i64 y.cmp)).setCell ⟨g, 2, none⟩ (.int .u64 (y.mask : Nat))).setCell ⟨g, 3, none⟩ (.int .u64 (y.value : Nat))) g (cdB y) := by
  have h1 := hrow_cell h 0 (.int .i64 y.arg)
  have h2 := hrow_cell h1.row 1 (.int .i64 y.cmp)
  have h3 := hrow_cell h2.row 2 (.int .u64 (y.mask : Nat))
  have h4 := hrow_cell h3.row 3 (.int .u64 (y.value : Nat))
  exact hrow_then (hrow_then (hrow_then h1 h2) h3) h4

set_option maxHeartbeats 16000000 in
theorem dtest_any {b : Nat} {t : TypeId} {rest : Array Value} {s : DS} (x : Cd) (l m : Int) (w : World) (hd : DrAt w b t rest s) (hl : s.c.length ≤ 3860) (hot : OpsAt w b) (ht : Tab w) (hr : x.right = true) (hx : x.ok) :
    Calls Tryz.prog 46 #[.pointer (some ⟨b, 0, none⟩), x.val, .int .i64 l, .int .i64 m] w fun e w' => DEnd w b t rest (testS s x l m) w' e := by
  obtain ⟨r, hrr⟩ : ∃ r, r = testS s x l m := ⟨_, rfl⟩
  rw [← hrr]
  have HR : Hid (r = if dirK x.cmp then testD s (opK x.cmp) (loH x) (hiH x) l m else testD s (opK x.not.cmp) (loH x.not) (hiH x.not) m l) := Lib.hid (by rw [hrr, (not_halves hr).1, (not_halves hr).2]; rfl)
  obtain ⟨h0, h1, h2, h3⟩ := x.right_iff.1 hr
  obtain ⟨W, hW, X0, HBx⟩ : ∃ W, W = w.alloc (cdB x) ∧ W.heap[w.heap.size]? = some (cdB x) ∧ Below w.heap.size w W := ⟨_, rfl, heap_alloc_new _ _, ba _ (Below.refl _ _)⟩
  have HX := Lib.hid X0
  have HB := Lib.hid HBx
  have HDR := Lib.hid hd
  have HOT := Lib.hid hot
  have HT := Lib.hid ht
  have HXO := Lib.hid hx
  have HXR := Lib.hid hr
  have hmm := @run_makeMap Tryz.prog
  have M0 := jk_new W
  have hdl := hd.lt
  clear X0 HBx hrr hd hot ht hx hr
  go_enter Tryz.func46, Tryz.ntmps46
  go_upto_region 1 with fail
  change Code.wp _ _ _ _ (w.alloc (cdB x))
  rw [← hW]
  clear hW
  go_upto_region 2 with (first | (refine wpList_jins _ rfl _ _ _ rfl rfl (by assumption) (by omega) _ (by decide) rfl _ rfl ?_; intro w3 hJ3) | go_in)
  clear hmm M0
  have HM := Lib.hid (show w3.ownsMap Tryz.prog 3 fnR W.heap.size 3 jopsD from hJ3.1)
  have HB3 := Lib.hid (below2 HB.out hJ3.2.1)
  have HX3 := Lib.hid (kb hJ3.2.1 HX.out)
  have HDR3 := Lib.hid (HDR.out.below HB3.out)
  have HOT3 := Lib.hid (HOT.out.chg (Chg.of_below HB3.out))
  have hMb : W.heap.size ≠ w.heap.size := by have := lt_of_block HX.out; omega
  clear hJ3
  obtain ⟨g, hg⟩ : ∃ g, g = w.heap.size := ⟨_, rfl⟩
  have hgb : g ≠ b := by omega
  obtain ⟨gm, hgm⟩ : ∃ g, g = W.heap.size := ⟨_, rfl⟩
  have HX3 : Hid (w3.heap[g]? = some (cdB x)) := Lib.hid (by rw [hg]; exact HX3.out)
  have HM : Hid (w3.ownsMap Tryz.prog 3 fnR gm 3 jopsD) := Lib.hid (by rw [hgm]; exact HM.out)
  have hMg : gm ≠ g := by omega
  rw [← hgm, ← hg]
  have HGW := Lib.hid (show w.heap.size ≤ g by omega)
  clear hg hgm hMb
  obtain ⟨c0, c1, c2, c3⟩ := cdX HX3.out
  cases hdir : dirK x.cmp
  · have HR2 : Hid (r = testD s (opK x.not.cmp) (loH x.not) (hiH x.not) m l) := Lib.hid (by rw [HR.out, hdir]; rfl)
    have hlook := look_jops HM.out x.cmp (by omega)
    rw [hdir] at hlook
    simp only [Bool.false_eq_true, if_false] at hlook
    have HND := Lib.hid (dir_not HXR.out hdir)
    clear hdir HR
    go_wp2_with fail
    refine (qnot_any x w3 (HT.out.below HB3.out)).mono ?_
    rintro e w4 ⟨rfl, hb4⟩
    obtain ⟨y, hy⟩ : ∃ y, y = x.not := ⟨_, rfl⟩
    rw [← hy] at HR2 HND ⊢
    have HYR : Hid (y.right = true) := Lib.hid (by rw [hy]; exact not_right HXR.out)
    have HYO : Hid y.ok := Lib.hid (by
      rw [hy]
      unfold Cd.not
      rw [if_pos HXR.out]
      exact HXO.out)
    have HX4 := Lib.hid (kb hb4 HX3.out)
    have HM4 := Lib.hid (own_map_below HM.out hb4)
    have HD4 := Lib.hid (HDR3.out.below hb4)
    have HO4 := Lib.hid (HOT3.out.chg (Chg.of_below hb4))
    have HB4 := Lib.hid (below2 HB3.out hb4)
    clear hb4 hlook c0 c1 c2 c3 hy HM HX3 HDR3 HOT3 HB3
    obtain ⟨c0, c1, c2, c3⟩ := cdX HX4.out
    have f0 := free_in HX4.out 0
    have f1 := free_in HX4.out 1
    have f2 := free_in HX4.out 2
    have f3 := free_in HX4.out 3
    go_upto_region 5 with fail
    have hp := hput_cd HX4.out y
    obtain ⟨w5, hw5⟩ : ∃ V, V = ((((w4.setCell ⟨g, 0, none⟩ (.int .i64 y.arg)).setCell ⟨g, 1, none⟩ (.int .i64 y.cmp)).setCell ⟨g, 2, none⟩ (.int .u64 (y.mask : Nat))).setCell ⟨g, 3, none⟩ (.int .u64 (y.value : Nat))) := ⟨_, rfl⟩
    rw [← hw5] at hp ⊢
    have HX5 := Lib.hid hp.row
    have HC5 := Lib.hid (hp.below HB4.out HGW.out)
    have HM5 : Hid (w5.ownsMap Tryz.prog 3 fnR gm 3 jopsD) := Lib.hid (by
      obtain ⟨es, clock, hh, q⟩ := HM4.out
      exact ⟨es, clock, (hp.rest _ hMg).trans hh, q⟩)
    have HD5 : Hid (DrAt w5 b t rest s) := Lib.hid (HDR.out.below HC5.out)
    have HO5 : Hid (OpsAt w5 b) := Lib.hid (HOT.out.chg (Chg.of_below HC5.out))
    clear hp hw5 c0 c1 c2 c3 f0 f1 f2 f3 HX4 HM4 HD4 HO4 HB4
    obtain ⟨c0, c1, c2, c3⟩ := cdX HX5.out
    have hyk := y.right_iff.1 HYR.out
    have hlook := look_jop HM5.out y.cmp (by omega) HND.out
    obtain ⟨op, hop⟩ : ∃ op, op = opK y.cmp := ⟨_, rfl⟩
    rw [← hop] at HR2 hlook
    have HJ : Hid (jop op) := Lib.hid (by rw [hop]; exact opK_jop _)
    clear hop hyk HND
    go_wp2_with fail
    refine (dhalves_any y w5 HYR.out HYO.out).mono ?_
    rintro e w6 ⟨rfl, hb6⟩
    obtain ⟨lo, hlo⟩ : ∃ a, a = loH y := ⟨_, rfl⟩
    obtain ⟨hi, hhi⟩ : ∃ a, a = hiH y := ⟨_, rfl⟩
    rw [← hlo, ← hhi] at HR2 ⊢
    have HD6 := Lib.hid (HD5.out.below hb6)
    have HO6 := Lib.hid (HO5.out.chg (Chg.of_below hb6))
    have HB6 := Lib.hid (below2 HC5.out hb6)
    clear hb6 hlook c0 c1 c2 c3 hlo hhi HX5 HM5 HD5 HO5 HC5
    go_upto_region 7 with fail
    obtain ⟨w7, hw7, X0, X1, HBx⟩ := box2 w6 (hfB lo) (hfB hi)
    change Code.wp _ _ _ _ ((w6.alloc (hfB lo)).alloc (hfB hi))
    rw [← hw7]
    have hTS : TSt w b t rest w6.heap.size (w6.heap.size + 1) lo hi s w7 := ⟨HD6.out.below HBx, HO6.out.chg (Chg.of_below HBx), X0, X1, (Chg.of_below HB6.out).trans (Chg.of_below HBx), by have := HD6.out.lt; omega, by have := HD6.out.lt; omega⟩
    obtain ⟨gh, hgh⟩ : ∃ a, a = w6.heap.size + 1 := ⟨_, rfl⟩
    obtain ⟨gl, hgl⟩ : ∃ a, a = w6.heap.size := ⟨_, rfl⟩
    rw [← hgh, ← hgl] at hTS ⊢
    have HTS := Lib.hid hTS
    clear hw7 X0 X1 HBx hTS hgh hgl HD6 HO6 HB6
    obtain ⟨y0, y1, y2⟩ := hfX HTS.out.lo
    obtain ⟨z0, z1, z2⟩ := hfX HTS.out.hi
    go_wp2_with fail
    refine (dties_any hi w7).mono ?_
    rintro e w8 ⟨rfl, hb8⟩
    have HTS8 := Lib.hid (HTS.out.below hb8)
    clear hb8 HTS y0 y1 y2 z0 z1 z2
    obtain ⟨y0, y1, y2⟩ := hfX HTS8.out.lo
    obtain ⟨z0, z1, z2⟩ := hfX HTS8.out.hi
    cases hth : hi.ties
    rotate_left
    · have HR3 : Hid (r = compareS s op lo m l) := Lib.hid (by rw [HR2.out]; unfold testD; rw [if_pos hth])
      clear hth HR2
      go_wp2_with fail
      refine (dcompare_any op lo m l w8 HTS8.out.dr (by omega) HTS8.out.ops).mono ?_
      rintro e w9 ⟨rfl, hd9, hc9⟩
      rw [← HR3.out] at hd9 ⊢
      have HE : Hid (DEnd w b t rest r w9 (.returned (.int .i64 r.2))) := Lib.hid ⟨rfl, hd9, HTS8.out.chg.trans hc9⟩
      clear hd9 hc9 y0 y1 y2 z0 z1 z2
      go_wp2_with fail
      go_ret
      exact HE.out
    have HR3 : Hid (r = if lo.ties then compareS s op hi m l else bothS s op lo hi m l) := Lib.hid (by rw [HR2.out]; unfold testD; rw [hth]; rfl)
    clear hth HR2
    go_wp2_with fail
    refine (dties_any lo w8).mono ?_
    rintro e w9 ⟨rfl, hb9⟩
    have HTS9 := Lib.hid (HTS8.out.below hb9)
    clear hb9 HTS8 y0 y1 y2 z0 z1 z2
    obtain ⟨y0, y1, y2⟩ := hfX HTS9.out.lo
    obtain ⟨z0, z1, z2⟩ := hfX HTS9.out.hi
    cases htl : lo.ties
    rotate_left
    · have HR4 : Hid (r = compareS s op hi m l) := Lib.hid (by rw [HR3.out, htl]; rfl)
      clear htl HR3
      go_wp2_with fail
      refine (dcompare_any op hi m l w9 HTS9.out.dr (by omega) HTS9.out.ops).mono ?_
      rintro e w10 ⟨rfl, hd10, hc10⟩
      rw [← HR4.out] at hd10 ⊢
      have HE : Hid (DEnd w b t rest r w10 (.returned (.int .i64 r.2))) := Lib.hid ⟨rfl, hd10, HTS9.out.chg.trans hc10⟩
      clear hd10 hc10 y0 y1 y2 z0 z1 z2
      go_wp2_with fail
      go_ret
      exact HE.out
    have HR4 : Hid (r = bothS s op lo hi m l) := Lib.hid (by rw [HR3.out, htl]; rfl)
    clear htl HR3
    obtain ⟨P, hP⟩ : ∃ P, P = compareS s op lo m l := ⟨_, rfl⟩
    obtain ⟨Q, hQ⟩ : ∃ Q, Q = diffS P.1 op (hi.value : Nat) m l := ⟨_, rfl⟩
    have hPl : P.1.c.length ≤ s.c.length + 15 := by rw [hP]; exact (compareS_len s op lo m l).2
    have HRF : Hid (r = maskedS (branchS Q.1 21 (hi.value : Nat) P.2 Q.2).1 hi (branchS Q.1 21 (hi.value : Nat) P.2 Q.2).2) := Lib.hid (HR4.out.trans (bothS_is hP hQ))
    go_wp2_with fail
    refine (dcompare_any op lo m l w9 HTS9.out.dr (by omega) HTS9.out.ops).mono ?_
    rintro e w10 ⟨rfl, hd10, hc10⟩
    rw [← hP] at hd10 ⊢
    have HTS10 := Lib.hid (HTS9.out.next hd10 hc10)
    clear hd10 hc10 HTS9 y0 y1 y2 z0 z1 z2 hP HR4
    obtain ⟨y0, y1, y2⟩ := hfX HTS10.out.lo
    obtain ⟨z0, z1, z2⟩ := hfX HTS10.out.hi
    by_cases h21 : op = 21
    · have hQ1 : Q = (P.1, l) := by rw [hQ]; unfold diffS; rw [if_pos h21]
      have h21' : (op == 21) = true := by simpa using h21
      have HRG : Hid (r = maskedS (branchS P.1 21 (hi.value : Nat) P.2 l).1 hi (branchS P.1 21 (hi.value : Nat) P.2 l).2) := Lib.hid (by rw [HRF.out, hQ1])
      clear hQ hQ1 h21 HRF
      obtain ⟨q, hq⟩ : ∃ q, q = branchS P.1 21 (hi.value : Nat) P.2 l := ⟨_, rfl⟩
      have hql : q.1.c.length ≤ P.1.c.length + 3 := by rw [hq]; exact (branchS_len P.1 21 (hi.value : Nat) P.2 l).2
      have HBr : Hid (∀ V, Below w10.heap.size w10 V → Calls Tryz.prog 58 #[.pointer (some ⟨b, 0, none⟩), .int .i64 21, .int .u32 (hi.value : Nat), .int .i64 P.2, .int .i64 l] V fun e w' => e = .returned (.int .i64 q.2) ∧ TSt w b t rest gl gh lo hi q.1 w') := Lib.hid (fun V hV => by
        have hT := HTS10.out.below hV
        refine (dbranch_any 21 (hi.value : Nat) P.2 l V hT.dr (by omega) hT.ops.1).mono ?_
        rintro e w' ⟨he, hd', hc'⟩
        rw [← hq] at he hd'
        exact ⟨he, hT.next hd' hc'⟩)
      rw [← hq] at HRG
      clear hq
      go_upto_region 15 with fail
      go_region_with (first
        | (go_at_call 58; refine (HBr.out _ ?_).mono ?_; exact bdN (Below.refl w10.heap.size w10) 1; rintro e w13 ⟨rfl, hT3⟩; obtain ⟨a0, a1, a2⟩ := hfX hT3.hi)
        | (go_at_call 85; refine (dmasked_any hi q.2 _ hT3.dr (by omega) hT3.ops).mono ?_; rintro e w14 ⟨rfl, hd14, hc14⟩))
      all_goals
        rw [← HRG.out] at hd14 ⊢
        have HE : Hid (DEnd w b t rest r w14 (.returned (.int .i64 r.2))) := Lib.hid ⟨rfl, hd14, hT3.chg.trans hc14⟩
        clear hd14 hc14 hT3 a0 a1 a2 y0 y1 y2 z0 z1 z2
        go_wp2_with fail
        go_ret
        exact HE.out
    · have hQ1 : Q = branchS P.1 op (hi.value : Nat) m l := by rw [hQ]; unfold diffS; rw [if_neg h21]
      have h21' : (op == 21) = false := by simpa using h21
      have hQl : Q.1.c.length ≤ P.1.c.length + 3 := by rw [hQ1]; exact (branchS_len P.1 op (hi.value : Nat) m l).2
      clear hQ h21
      go_wp2_with fail
      refine (dbranch_any op (hi.value : Nat) m l w10 HTS10.out.dr (by omega) HTS10.out.ops.1).mono ?_
      rintro e w11 ⟨rfl, hd11, hc11⟩
      rw [← hQ1] at hd11 ⊢
      have HTS11 := Lib.hid (HTS10.out.next hd11 hc11)
      clear hd11 hc11 HTS10 y0 y1 y2 z0 z1 z2 hQ1
      obtain ⟨y0, y1, y2⟩ := hfX HTS11.out.lo
      obtain ⟨z0, z1, z2⟩ := hfX HTS11.out.hi
      obtain ⟨q, hq⟩ : ∃ q, q = branchS Q.1 21 (hi.value : Nat) P.2 Q.2 := ⟨_, rfl⟩
      have hql : q.1.c.length ≤ Q.1.c.length + 3 := by rw [hq]; exact (branchS_len Q.1 21 (hi.value : Nat) P.2 Q.2).2
      have HBr : Hid (∀ V, Below w11.heap.size w11 V → Calls Tryz.prog 58 #[.pointer (some ⟨b, 0, none⟩), .int .i64 21, .int .u32 (hi.value : Nat), .int .i64 P.2, .int .i64 Q.2] V fun e w' => e = .returned (.int .i64 q.2) ∧ TSt w b t rest gl gh lo hi q.1 w') := Lib.hid (fun V hV => by
        have hT := HTS11.out.below hV
        refine (dbranch_any 21 (hi.value : Nat) P.2 Q.2 V hT.dr (by omega) hT.ops.1).mono ?_
        rintro e w' ⟨he, hd', hc'⟩
        rw [← hq] at he hd'
        exact ⟨he, hT.next hd' hc'⟩)
      rw [← hq] at HRF
      clear hq
      go_upto_region 15 with fail
      go_region_with (first
        | (go_at_call 58; refine (HBr.out _ ?_).mono ?_; exact bdN (Below.refl w11.heap.size w11) 1; rintro e w13 ⟨rfl, hT3⟩; obtain ⟨a0, a1, a2⟩ := hfX hT3.hi)
        | (go_at_call 85; refine (dmasked_any hi q.2 _ hT3.dr (by omega) hT3.ops).mono ?_; rintro e w14 ⟨rfl, hd14, hc14⟩))
      all_goals
        rw [← HRF.out] at hd14 ⊢
        have HE : Hid (DEnd w b t rest r w14 (.returned (.int .i64 r.2))) := Lib.hid ⟨rfl, hd14, hT3.chg.trans hc14⟩
        clear hd14 hc14 hT3 a0 a1 a2 y0 y1 y2 z0 z1 z2
        go_wp2_with fail
        go_ret
        exact HE.out
  · have HR2 : Hid (r = testD s (opK x.cmp) (loH x) (hiH x) l m) := Lib.hid (by rw [HR.out, hdir]; rfl)
    have hlook := look_jops HM.out x.cmp (by omega)
    rw [hdir] at hlook
    simp only [if_true] at hlook
    have HND := Lib.hid hdir
    clear hdir HR
    go_upto_region 5 with fail
    clear hlook c0 c1 c2 c3
    obtain ⟨y, hy⟩ : ∃ y, y = x := ⟨_, rfl⟩
    rw [← hy] at HR2 HND HX3
    have HYR : Hid (y.right = true) := Lib.hid (by rw [hy]; exact HXR.out)
    have HYO : Hid y.ok := Lib.hid (by rw [hy]; exact HXO.out)
    clear hy
    obtain ⟨w5, hw5⟩ : ∃ V, V = w3 := ⟨_, rfl⟩
    rw [← hw5] at HX3 HB3 HM HDR3 HOT3 ⊢
    have HX5 := HX3
    have HC5 := HB3
    have HM5 := HM
    have HD5 := HDR3
    have HO5 := HOT3
    clear HX3 HB3 HM HDR3 HOT3 hw5
    obtain ⟨c0, c1, c2, c3⟩ := cdX HX5.out
    have hyk := y.right_iff.1 HYR.out
    have hlook := look_jop HM5.out y.cmp (by omega) HND.out
    obtain ⟨op, hop⟩ : ∃ op, op = opK y.cmp := ⟨_, rfl⟩
    rw [← hop] at HR2 hlook
    have HJ : Hid (jop op) := Lib.hid (by rw [hop]; exact opK_jop _)
    clear hop hyk HND
    go_wp2_with fail
    refine (dhalves_any y w5 HYR.out HYO.out).mono ?_
    rintro e w6 ⟨rfl, hb6⟩
    obtain ⟨lo, hlo⟩ : ∃ a, a = loH y := ⟨_, rfl⟩
    obtain ⟨hi, hhi⟩ : ∃ a, a = hiH y := ⟨_, rfl⟩
    rw [← hlo, ← hhi] at HR2 ⊢
    have HD6 := Lib.hid (HD5.out.below hb6)
    have HO6 := Lib.hid (HO5.out.chg (Chg.of_below hb6))
    have HB6 := Lib.hid (below2 HC5.out hb6)
    clear hb6 hlook c0 c1 c2 c3 hlo hhi HX5 HM5 HD5 HO5 HC5
    go_upto_region 7 with fail
    obtain ⟨w7, hw7, X0, X1, HBx⟩ := box2 w6 (hfB lo) (hfB hi)
    change Code.wp _ _ _ _ ((w6.alloc (hfB lo)).alloc (hfB hi))
    rw [← hw7]
    have hTS : TSt w b t rest w6.heap.size (w6.heap.size + 1) lo hi s w7 := ⟨HD6.out.below HBx, HO6.out.chg (Chg.of_below HBx), X0, X1, (Chg.of_below HB6.out).trans (Chg.of_below HBx), by have := HD6.out.lt; omega, by have := HD6.out.lt; omega⟩
    obtain ⟨gh, hgh⟩ : ∃ a, a = w6.heap.size + 1 := ⟨_, rfl⟩
    obtain ⟨gl, hgl⟩ : ∃ a, a = w6.heap.size := ⟨_, rfl⟩
    rw [← hgh, ← hgl] at hTS ⊢
    have HTS := Lib.hid hTS
    clear hw7 X0 X1 HBx hTS hgh hgl HD6 HO6 HB6
    obtain ⟨y0, y1, y2⟩ := hfX HTS.out.lo
    obtain ⟨z0, z1, z2⟩ := hfX HTS.out.hi
    go_wp2_with fail
    refine (dties_any hi w7).mono ?_
    rintro e w8 ⟨rfl, hb8⟩
    have HTS8 := Lib.hid (HTS.out.below hb8)
    clear hb8 HTS y0 y1 y2 z0 z1 z2
    obtain ⟨y0, y1, y2⟩ := hfX HTS8.out.lo
    obtain ⟨z0, z1, z2⟩ := hfX HTS8.out.hi
    cases hth : hi.ties
    rotate_left
    · have HR3 : Hid (r = compareS s op lo l m) := Lib.hid (by rw [HR2.out]; unfold testD; rw [if_pos hth])
      clear hth HR2
      go_wp2_with fail
      refine (dcompare_any op lo l m w8 HTS8.out.dr (by omega) HTS8.out.ops).mono ?_
      rintro e w9 ⟨rfl, hd9, hc9⟩
      rw [← HR3.out] at hd9 ⊢
      have HE : Hid (DEnd w b t rest r w9 (.returned (.int .i64 r.2))) := Lib.hid ⟨rfl, hd9, HTS8.out.chg.trans hc9⟩
      clear hd9 hc9 y0 y1 y2 z0 z1 z2
      go_wp2_with fail
      go_ret
      exact HE.out
    have HR3 : Hid (r = if lo.ties then compareS s op hi l m else bothS s op lo hi l m) := Lib.hid (by rw [HR2.out]; unfold testD; rw [hth]; rfl)
    clear hth HR2
    go_wp2_with fail
    refine (dties_any lo w8).mono ?_
    rintro e w9 ⟨rfl, hb9⟩
    have HTS9 := Lib.hid (HTS8.out.below hb9)
    clear hb9 HTS8 y0 y1 y2 z0 z1 z2
    obtain ⟨y0, y1, y2⟩ := hfX HTS9.out.lo
    obtain ⟨z0, z1, z2⟩ := hfX HTS9.out.hi
    cases htl : lo.ties
    rotate_left
    · have HR4 : Hid (r = compareS s op hi l m) := Lib.hid (by rw [HR3.out, htl]; rfl)
      clear htl HR3
      go_wp2_with fail
      refine (dcompare_any op hi l m w9 HTS9.out.dr (by omega) HTS9.out.ops).mono ?_
      rintro e w10 ⟨rfl, hd10, hc10⟩
      rw [← HR4.out] at hd10 ⊢
      have HE : Hid (DEnd w b t rest r w10 (.returned (.int .i64 r.2))) := Lib.hid ⟨rfl, hd10, HTS9.out.chg.trans hc10⟩
      clear hd10 hc10 y0 y1 y2 z0 z1 z2
      go_wp2_with fail
      go_ret
      exact HE.out
    have HR4 : Hid (r = bothS s op lo hi l m) := Lib.hid (by rw [HR3.out, htl]; rfl)
    clear htl HR3
    obtain ⟨P, hP⟩ : ∃ P, P = compareS s op lo l m := ⟨_, rfl⟩
    obtain ⟨Q, hQ⟩ : ∃ Q, Q = diffS P.1 op (hi.value : Nat) l m := ⟨_, rfl⟩
    have hPl : P.1.c.length ≤ s.c.length + 15 := by rw [hP]; exact (compareS_len s op lo l m).2
    have HRF : Hid (r = maskedS (branchS Q.1 21 (hi.value : Nat) P.2 Q.2).1 hi (branchS Q.1 21 (hi.value : Nat) P.2 Q.2).2) := Lib.hid (HR4.out.trans (bothS_is hP hQ))
    go_wp2_with fail
    refine (dcompare_any op lo l m w9 HTS9.out.dr (by omega) HTS9.out.ops).mono ?_
    rintro e w10 ⟨rfl, hd10, hc10⟩
    rw [← hP] at hd10 ⊢
    have HTS10 := Lib.hid (HTS9.out.next hd10 hc10)
    clear hd10 hc10 HTS9 y0 y1 y2 z0 z1 z2 hP HR4
    obtain ⟨y0, y1, y2⟩ := hfX HTS10.out.lo
    obtain ⟨z0, z1, z2⟩ := hfX HTS10.out.hi
    by_cases h21 : op = 21
    · have hQ1 : Q = (P.1, m) := by rw [hQ]; unfold diffS; rw [if_pos h21]
      have h21' : (op == 21) = true := by simpa using h21
      have HRG : Hid (r = maskedS (branchS P.1 21 (hi.value : Nat) P.2 m).1 hi (branchS P.1 21 (hi.value : Nat) P.2 m).2) := Lib.hid (by rw [HRF.out, hQ1])
      clear hQ hQ1 h21 HRF
      obtain ⟨q, hq⟩ : ∃ q, q = branchS P.1 21 (hi.value : Nat) P.2 m := ⟨_, rfl⟩
      have hql : q.1.c.length ≤ P.1.c.length + 3 := by rw [hq]; exact (branchS_len P.1 21 (hi.value : Nat) P.2 m).2
      have HBr : Hid (∀ V, Below w10.heap.size w10 V → Calls Tryz.prog 58 #[.pointer (some ⟨b, 0, none⟩), .int .i64 21, .int .u32 (hi.value : Nat), .int .i64 P.2, .int .i64 m] V fun e w' => e = .returned (.int .i64 q.2) ∧ TSt w b t rest gl gh lo hi q.1 w') := Lib.hid (fun V hV => by
        have hT := HTS10.out.below hV
        refine (dbranch_any 21 (hi.value : Nat) P.2 m V hT.dr (by omega) hT.ops.1).mono ?_
        rintro e w' ⟨he, hd', hc'⟩
        rw [← hq] at he hd'
        exact ⟨he, hT.next hd' hc'⟩)
      rw [← hq] at HRG
      clear hq
      go_upto_region 15 with fail
      go_region_with (first
        | (go_at_call 58; refine (HBr.out _ ?_).mono ?_; exact bdN (Below.refl w10.heap.size w10) 1; rintro e w13 ⟨rfl, hT3⟩; obtain ⟨a0, a1, a2⟩ := hfX hT3.hi)
        | (go_at_call 85; refine (dmasked_any hi q.2 _ hT3.dr (by omega) hT3.ops).mono ?_; rintro e w14 ⟨rfl, hd14, hc14⟩))
      all_goals
        rw [← HRG.out] at hd14 ⊢
        have HE : Hid (DEnd w b t rest r w14 (.returned (.int .i64 r.2))) := Lib.hid ⟨rfl, hd14, hT3.chg.trans hc14⟩
        clear hd14 hc14 hT3 a0 a1 a2 y0 y1 y2 z0 z1 z2
        go_wp2_with fail
        go_ret
        exact HE.out
    · have hQ1 : Q = branchS P.1 op (hi.value : Nat) l m := by rw [hQ]; unfold diffS; rw [if_neg h21]
      have h21' : (op == 21) = false := by simpa using h21
      have hQl : Q.1.c.length ≤ P.1.c.length + 3 := by rw [hQ1]; exact (branchS_len P.1 op (hi.value : Nat) l m).2
      clear hQ h21
      go_wp2_with fail
      refine (dbranch_any op (hi.value : Nat) l m w10 HTS10.out.dr (by omega) HTS10.out.ops.1).mono ?_
      rintro e w11 ⟨rfl, hd11, hc11⟩
      rw [← hQ1] at hd11 ⊢
      have HTS11 := Lib.hid (HTS10.out.next hd11 hc11)
      clear hd11 hc11 HTS10 y0 y1 y2 z0 z1 z2 hQ1
      obtain ⟨y0, y1, y2⟩ := hfX HTS11.out.lo
      obtain ⟨z0, z1, z2⟩ := hfX HTS11.out.hi
      obtain ⟨q, hq⟩ : ∃ q, q = branchS Q.1 21 (hi.value : Nat) P.2 Q.2 := ⟨_, rfl⟩
      have hql : q.1.c.length ≤ Q.1.c.length + 3 := by rw [hq]; exact (branchS_len Q.1 21 (hi.value : Nat) P.2 Q.2).2
      have HBr : Hid (∀ V, Below w11.heap.size w11 V → Calls Tryz.prog 58 #[.pointer (some ⟨b, 0, none⟩), .int .i64 21, .int .u32 (hi.value : Nat), .int .i64 P.2, .int .i64 Q.2] V fun e w' => e = .returned (.int .i64 q.2) ∧ TSt w b t rest gl gh lo hi q.1 w') := Lib.hid (fun V hV => by
        have hT := HTS11.out.below hV
        refine (dbranch_any 21 (hi.value : Nat) P.2 Q.2 V hT.dr (by omega) hT.ops.1).mono ?_
        rintro e w' ⟨he, hd', hc'⟩
        rw [← hq] at he hd'
        exact ⟨he, hT.next hd' hc'⟩)
      rw [← hq] at HRF
      clear hq
      go_upto_region 15 with fail
      go_region_with (first
        | (go_at_call 58; refine (HBr.out _ ?_).mono ?_; exact bdN (Below.refl w11.heap.size w11) 1; rintro e w13 ⟨rfl, hT3⟩; obtain ⟨a0, a1, a2⟩ := hfX hT3.hi)
        | (go_at_call 85; refine (dmasked_any hi q.2 _ hT3.dr (by omega) hT3.ops).mono ?_; rintro e w14 ⟨rfl, hd14, hc14⟩))
      all_goals
        rw [← HRF.out] at hd14 ⊢
        have HE : Hid (DEnd w b t rest r w14 (.returned (.int .i64 r.2))) := Lib.hid ⟨rfl, hd14, hT3.chg.trans hc14⟩
        clear hd14 hc14 hT3 a0 a1 a2 y0 y1 y2 z0 z1 z2
        go_wp2_with fail
        go_ret
        exact HE.out

set_option maxHeartbeats 8000000 in
theorem ltest_any (v : Value) (c : List X4) (x : Cd) (t f : Int) (w : World) (hF : CdAt w v c) (hl : c.length ≤ 500) (hx : x.ok) (ht : Tab w) (hot : OTab w) :
    Calls Tryz.prog 22 #[v, x.val, .int .i64 t, .int .i64 f] w fun e w' => (∃ u, CdAt w' u (testN c x t f).1 ∧ e = .returned (.tuple #[u, .int .i64 (testN c x t f).2.1, .int .i64 (testN c x t f).2.2])) ∧ Below w.heap.size w w' := by
  obtain ⟨r, hr⟩ : ∃ r, r = testN c x t f := ⟨_, rfl⟩
  rw [← hr]
  have HR : Hid (r = if x.right then resultN (testS ⟨c, 0⟩ x t f).1 c else (c, 0, 1)) := Lib.hid hr
  obtain ⟨ao, cap, rfl⟩ := hF.shape
  obtain ⟨W, hW, X0, HBx⟩ : ∃ W, W = w.alloc (cdB x) ∧ W.heap[w.heap.size]? = some (cdB x) ∧ Below w.heap.size w W := ⟨_, rfl, heap_alloc_new _ _, ba _ (Below.refl _ _)⟩
  have HX := Lib.hid X0
  have HB := Lib.hid HBx
  have HF := Lib.hid hF
  have HT := Lib.hid ht
  have HO := Lib.hid hot
  clear X0 HBx hr hF ht hot
  go_enter Tryz.func22, Tryz.ntmps22
  go_upto_region 1 with fail
  change Code.wp _ _ _ _ (w.alloc (cdB x))
  rw [← hW]
  clear hW
  obtain ⟨c0, c1, c2, c3⟩ := cdX HX.out
  go_wp2_with fail
  refine (qright_any x _ (HT.out.below HB.out)).mono ?_
  rintro e w1 ⟨rfl, hb1⟩
  have HX1 := Lib.hid (kb hb1 HX.out)
  have HB1 := Lib.hid (below2 HB.out hb1)
  clear hb1 c0 c1 c2 c3
  obtain ⟨c0, c1, c2, c3⟩ := cdX HX1.out
  cases hxr : x.right
  · have HE : Hid (r = (c, 0, 1)) := Lib.hid (by rw [HR.out, hxr]; rfl)
    clear hxr
    go_wp2_with fail
    go_ret3
    rw [HE.out]
    exact ⟨⟨_, HF.out.below HB1.out, rfl⟩, HB1.out⟩
  · have HE : Hid (r = resultN (testS ⟨c, 0⟩ x t f).1 c) := Lib.hid (by rw [HR.out, hxr]; rfl)
    have HXR := Lib.hid hxr
    clear hxr
    go_upto_region 4 with fail
    obtain ⟨V, hV, V0, hbv⟩ : ∃ V, V = w1.alloc (.cells #[.slice ao c.length cap, .int .i64 0] 69) ∧ V.heap[w1.heap.size]? = some (.cells #[.slice ao c.length cap, .int .i64 0] 69) ∧ Below w1.heap.size w1 V := ⟨_, rfl, heap_alloc_new _ _, ba _ (Below.refl _ _)⟩
    rw [← hV]
    have HBV := Lib.hid (below2 HB1.out hbv)
    have HXV := Lib.hid (kb hbv HX1.out)
    have hnb : w1.heap.size ≠ 0 := by
      have := (HO.out.below HB1.out).lt
      omega
    have HD : Hid (DrAt V w1.heap.size 69 #[] ⟨c, 0⟩) := Lib.hid ⟨_, V0, HF.out.below HBV.out, stays_at HF.out.1 HB1.out.size⟩
    have HOV : Hid (OpsAt V w1.heap.size) := Lib.hid ⟨HO.out.below HBV.out, hnb.symm⟩
    have hbsz : w.heap.size ≤ w1.heap.size := HB1.out.size
    clear hV V0 hbv c0 c1 c2 c3
    generalize w1.heap.size = b at HD HOV hnb hbsz ⊢
    obtain ⟨c0, c1, c2, c3⟩ := cdX HXV.out
    go_wp2_with fail
    refine (dtest_any x t f V HD.out (by show c.length ≤ 3860; omega) HOV.out (HT.out.below HBV.out) HXR.out hx).mono ?_
    rintro e w3 ⟨rfl, hd3, hc3⟩
    obtain ⟨s3, hs3⟩ : ∃ s3, s3 = (testS ⟨c, 0⟩ x t f).1 := ⟨_, rfl⟩
    rw [← hs3] at hd3 HE
    have HD3 := Lib.hid hd3
    have HB3 := Lib.hid (hc3.below HBV.out hbsz HBV.out.size)
    clear hd3 hc3 hs3 c0 c1 c2 c3
    go_wp2_with fail
    refine (dresult_any _ c w3 HD3.out (HF.out.below HB3.out)).mono ?_
    rintro e w4 ⟨⟨u, hu, rfl⟩, hb4⟩
    rw [← HE.out] at hu ⊢
    have HU := Lib.hid hu
    have HB4 := Lib.hid (below2 HB3.out hb4)
    obtain ⟨uo, uc, rfl⟩ := hu.shape
    clear hu hb4
    go_wp2_with fail
    go_ret3
    exact ⟨⟨_, HU.out, rfl⟩, HB4.out⟩
end Go.Proofs.YtbekkdhlfkongaaGreatDoor
/-
  What the document's functions of names answer (package hurdleref09).
-/
namespace Go.Proofs.YtbekkdhlfkongaaGreatDoor
open Go.ChangeShapes Go.WideShapes Go.ChangeAt Go.RowKit
set_option maxRecDepth 20000

/-- A slice whose elements, of one cell each, are these. -/
def SAt (w : World) (v : Value) (cs : List Value) : Prop :=
  ∃ ao cap, v = .slice ao cs.length cap ∧ cs.length ≤ cap ∧ (cs = [] ∨ ∃ b, ao = some ⟨b, 0, none⟩ ∧ b < w.heap.size ∧ ∀ i u, cs[i]? = some u → w.cell? ⟨b, i, none⟩ = some u)
theorem SAt.below {w w' : World} {v : Value} {cs : List Value} (h : SAt w v cs) (hb : Below w.heap.size w w') : SAt w' v cs := by
  obtain ⟨ao, cap, rfl, hcap, h⟩ := h
  refine ⟨ao, cap, rfl, hcap, h.imp id ?_⟩
  rintro ⟨b, rfl, hl, hc⟩
  exact ⟨b, rfl, Nat.lt_of_lt_of_le hl hb.size, fun i u hi => (hb.cell (p := ⟨b, _, none⟩) hl).trans (hc i u hi)⟩
theorem SAt.own {w : World} {base : Nat} {e : TypeId} {v : Value} {n : Nat} {cs : List Value} (h : w.ownsRow base e 1 v n cs) (hn : n = cs.length) : SAt w v cs := by
  subst hn
  rcases Nat.eq_zero_or_pos cs.length with h0 | h0
  · obtain rfl := List.length_eq_zero_iff.1 h0
    obtain ⟨a, c, rfl⟩ := own_shape h
    exact ⟨a, c, rfl, Nat.zero_le _, .inl rfl⟩
  · obtain ⟨g, c, rfl, _, hl, hc, hx⟩ := own_cells h h0
    exact ⟨_, _, rfl, hc, .inr ⟨g, rfl, hl, hx⟩⟩
theorem SAt.lit {w : World} {g : Nat} {cs : Array Value} {t : TypeId} {fr : Nat × Nat} (h : w.heap[g]? = some (.cells cs t fr)) : SAt w (.slice (some ⟨g, 0, none⟩) cs.size cs.size) cs.toList :=
  ⟨some ⟨g, 0, none⟩, cs.size, by simp, by simp, .inr ⟨g, rfl, lt_of_block h, fun i u hu => by rw [cell_in h i]; simpa using hu⟩⟩
abbrev noC (T : Tbl) : List Value := T.map fun p => .int .u32 (p.2 : Nat)
end Go.Proofs.YtbekkdhlfkongaaGreatDoor
/-
  What the document's functions of machines and calls answer (package hurdleref09).
-/
namespace Go.Proofs.YtbekkdhlfkongaaGreatDoor
open Go.ChangeShapes Go.WideShapes Go.ChangeAt Go.RowKit
set_option maxRecDepth 20000

def n4 : Array Value := (noC machT).toArray
end Go.Proofs.YtbekkdhlfkongaaGreatDoor
/-
  What the document's Calls answers (package hurdleref09).
-/
namespace Go.Proofs.YtbekkdhlfkongaaGreatDoor
open Go.ChangeShapes Go.WideShapes Go.ChangeAt Go.RowKit
set_option maxRecDepth 20000

/-- Rows that hold cells of two types lie in two blocks. -/
theorem own_apart {w : World} {base base' : Nat} {e e' : TypeId} {s s' : Nat} {v v' : Value} {n n' : Nat} {xs xs' : List Value} (h : w.ownsRow base e s v n xs) (h' : w.ownsRow base' e' s' v' n' xs') (hne : e ≠ e') : v'.ownBlock = none ∨ v'.ownBlock ≠ v.ownBlock := by
  rcases h.2 with ⟨rfl, _⟩ | ⟨g, c, cur, rfl, _, hh, _⟩ <;> rcases h'.2 with ⟨rfl, _⟩ | ⟨g', c', cur', rfl, _, hh', _⟩
  · exact .inl rfl
  · exact .inr (by simp [Value.ownBlock])
  · exact .inl rfl
  · refine .inr fun e1 => ?_
    have e1 : g' = g := by simpa [Value.ownBlock] using e1
    subst e1
    rw [hh] at hh'
    simp at hh'
    exact hne hh'.2
end Go.Proofs.YtbekkdhlfkongaaGreatDoor
/-
  What the document's Call, ReadCall, Action and ReadAction answer (package hurdleref09).
-/
namespace Go.Proofs.YtbekkdhlfkongaaGreatDoor
open Go.ChangeShapes Go.WideShapes Go.ChangeAt Go.RowKit
set_option maxRecDepth 20000

/-! ### Actions -/
/-- An action's text, or nothing. -/
def actS (v : Nat) : ByteArray := (actT v).getD ⟨#[]⟩
theorem actS_err {v : Nat} (h1 : 327680 ≤ v) (h2 : v ≤ 331775) : actS v = berror ++ Wd.txt (v - 327680) := by
  unfold actS actT
  rw [if_pos ⟨h1, h2⟩]
  rfl
theorem actS_rest {v : Nat} (h : ¬ (327680 ≤ v ∧ v ≤ 331775)) : actS v = if v = 0 then bkillA else if v = 196608 then btrap else if v = 2147221504 then blog else if v = 2147418112 then ballow else ⟨#[]⟩ := by
  unfold actS actT
  rw [if_neg h]
  split
  · rfl
  split
  · rfl
  split
  · rfl
  split
  · rfl
  rfl
theorem txt_lt18 {n : Nat} (h : n < 18446744073709551616) : (Wd.txt n).size ≤ 18 := by
  have := Wd.hex_len16 n h
  show (48 :: 120 :: Wd.hex n).length ≤ 18
  simp
  omega
set_option maxHeartbeats 2000000 in
theorem raction_any (v : Nat) (w : World) (hv : v < 4294967296) :
    Calls Tryz.prog 35 #[.int .u32 v] w fun e w' => e = .returned (.string (actS v)) ∧ Below w.heap.size w w' := by
  by_cases h : 327680 ≤ v ∧ v ≤ 331775
  · obtain ⟨m, rfl⟩ : ∃ m, v = 327680 + m := ⟨v - 327680, by omega⟩
    have HE := Lib.hid (actS_err h.1 h.2)
    rw [show 327680 + m - 327680 = m by omega] at HE
    have HT := Lib.hid (refText_any m (by omega))
    have hz := txt_lt18 (n := m) (by omega)
    have hzE : (⟨#[101, 114, 114, 111, 114, 58]⟩ : ByteArray).size = 6 := rfl
    have l1 : (327680 : Int) ≤ ((327680 + m : Nat) : Int) := by omega
    have l2 : ((327680 + m : Nat) : Int) ≤ 331775 := by omega
    have l3 : IntKind.u32.wrap (((327680 + m : Nat) : Int) - 327680) = (m : Int) := by unfold IntKind.wrap; simp [IntKind.bits, IntKind.signed]; omega
    obtain ⟨A, hA⟩ : ∃ A : Int, A = ((327680 + m : Nat) : Int) := ⟨_, rfl⟩
    rw [← hA] at l1 l2 l3 ⊢
    clear hA
    generalize Wd.txt m = TX at HT HE hz
    go_enter Tryz.func35, Tryz.ntmps35
    go_wp2_with fail
    refine (HT.out _).mono ?_
    rintro e w1 ⟨rfl, hb1⟩
    have HB1 := Lib.hid hb1
    clear hb1
    go_wp2_with fail
    go_ret
    exact ⟨by rw [HE.out]; rfl, HB1.out⟩
  · have HE := Lib.hid (actS_rest h)
    by_cases h0 : v = 0
    · subst h0
      go_enter Tryz.func35, Tryz.ntmps35
      go_wp2_with fail
      go_ret
      exact ⟨by rw [HE.out]; rfl, Below.refl _ _⟩
    by_cases h1 : v = 196608
    · subst h1
      go_enter Tryz.func35, Tryz.ntmps35
      go_wp2_with fail
      go_ret
      exact ⟨by rw [HE.out]; rfl, Below.refl _ _⟩
    by_cases h2 : v = 2147221504
    · subst h2
      go_enter Tryz.func35, Tryz.ntmps35
      go_wp2_with fail
      go_ret
      exact ⟨by rw [HE.out]; rfl, Below.refl _ _⟩
    by_cases h3 : v = 2147418112
    · subst h3
      go_enter Tryz.func35, Tryz.ntmps35
      go_wp2_with fail
      go_ret
      exact ⟨by rw [HE.out]; rfl, Below.refl _ _⟩
    have q0 : ((v : Int) == 0) = false := by simp; omega
    have q1 : ((v : Int) == 196608) = false := by simp; omega
    have q2 : ((v : Int) == 2147221504) = false := by simp; omega
    have q3 : ((v : Int) == 2147418112) = false := by simp; omega
    have HE2 : Hid (actS v = ⟨#[]⟩) := Lib.hid (by rw [HE.out, if_neg h0, if_neg h1, if_neg h2, if_neg h3])
    clear HE h0 h1 h2 h3
    by_cases hlo : 327680 ≤ v
    · have l1 : (327680 : Int) ≤ (v : Int) := by omega
      have l2 : ¬ (v : Int) ≤ 331775 := by omega
      clear h hlo
      go_enter Tryz.func35, Tryz.ntmps35
      go_wp2_with fail
      go_ret
      exact ⟨by rw [HE2.out]; rfl, Below.refl _ _⟩
    · have l1 : ¬ (327680 : Int) ≤ (v : Int) := by omega
      clear h hlo
      go_enter Tryz.func35, Tryz.ntmps35
      go_wp2_with fail
      go_ret
      exact ⟨by rw [HE2.out]; rfl, Below.refl _ _⟩
end Go.Proofs.YtbekkdhlfkongaaGreatDoor
/-
  What the document's ReadAction answers (package hurdleref09).
-/
namespace Go.Proofs.YtbekkdhlfkongaaGreatDoor
open Go.ChangeShapes Go.WideShapes Go.ChangeAt Go.RowKit
set_option maxRecDepth 20000

/-- What is an action has a text; what is none has nothing. -/
theorem actS_kinds (v : Nat) : ((actT v).isSome = true ∧ (actS v).toList.isEmpty = false) ∨ ((actT v).isSome = false ∧ actS v = ⟨#[]⟩) := by
  cases h : actT v with
  | none => exact .inr ⟨rfl, by unfold actS; rw [h]; rfl⟩
  | some x =>
    refine .inl ⟨rfl, ?_⟩
    have e : actS v = x := by unfold actS; rw [h]; rfl
    rw [e, Go.ByteArray.toList_eq]
    rcases actT_some h with ⟨n, _, _, rfl⟩ | ⟨_, rfl⟩ | ⟨_, rfl⟩ | ⟨_, rfl⟩ | ⟨_, rfl⟩
    · rw [err_list]
      rfl
    all_goals rfl
end Go.Proofs.YtbekkdhlfkongaaGreatDoor
