/-
  What the laws' texts use, joined.
-/
import Derived.Test.YtdjjmcblhpjchaaGreatDoorProg
import Derived.WalkKit
import Derived.Laws.BitsAllLaws
import Derived.RowKit
import Derived.ProofKit
import Derived.Lib.Hide
import Derived.Laws.Rows
import Derived.Laws.ResultCell
import Derived.Laws.Entries
import Derived.Handy
import Derived.OwnWalk
import Derived.Laws.OwnMore
import Derived.Deep.Draws
import Derived.Laws.IdiomStrings
import Derived.Lib.BufferRead
import Derived.Maps.OwnSet
import Derived.BigQuiet
import Derived.IntWalk
import Derived.Deep.RegionHeld3
import Derived.BigRegion
import Derived.Lib.OthersKept
import Derived.Lib.QuietBelow
import Derived.Shelf.Strings.Builder1
import Derived.Shelf.Strings.Search1
import Derived.Lib.IndexLaws
import Derived.Laws.Tables
import Derived.Deep.DeepCutAuto
import Derived.Deep.Cut
import Derived.Deep.Slices
import Derived.Lib.Join
import Derived.Laws.RangeAny
import Derived.Lib.MakeNoZero
import Derived.Lib.Builder
import Derived.Laws.IdiomCopy
import Derived.Deep.OwnRows
import Derived.Laws.Strings3
import Derived.Lib.Split
import Derived.Deep.LoopGhost
import Derived.WalkMore
import Derived.Test.YtdjjmcblhpjchaaGreatDoorPk1
import Derived.Test.YtdjjmcblhpjchaaGreatDoorPk2
import Derived.Test.YtdjjmcblhpjchaaGreatDoorPk3
import Derived.Test.YtdjjmcblhpjchaaGreatDoorPk4
/-
  The document's Read of a rule's line (package hurdleref10).
-/
namespace Go.Proofs.YtdjjmcblhpjchaaGreatDoor
open Go.ChangeShapes Go.WideShapes Go.ChangeAt Go.RowKit
set_option maxRecDepth 20000

theorem infoCd : (Tryz.prog.info? 55).map (fun i => (i.zero, i.size, i.bytes)) = some (some (.agg #[.int .i64 0, .int .i64 0, .int .u64 0, .int .u64 0]), 4, 32) := by kernel_rfl
/-- A row of the call's own stays where another block is written. -/
theorem own_put {w w' : World} {g base : Nat} {o : Obj} {e : TypeId} {size : Nat} {v : Value} {n : Nat} {xs : List Value} (h : w.ownsRow base e size v n xs) (hp : RowPut w w' g o) (hg : g < base) : w'.ownsRow base e size v n xs := by
  obtain ⟨h1, h2⟩ := h
  refine ⟨h1, h2.imp id ?_⟩
  rintro ⟨k, cap, cur, hv, hk, hh, r⟩
  exact ⟨k, cap, cur, hv, hk, hp.keep (by omega) hh, r⟩
theorem rowPut_cell {w : World} {g : Nat} {old : Array Value} {t : TypeId} (hg : w.heap[g]? = some (.cells old t)) (i : Nat) (v : Value) : RowPut w (w.setCell ⟨g, i, none⟩ v) g (.cells (old.setIfInBounds i v) t) := by
  have h := rowPut_set hg (old.setIfInBounds i v)
  rwa [← setCell_eq_setRow w _ _ _ _ _ _ hg] at h
theorem RowPut.then {w w' w'' : World} {g : Nat} {o o' : Obj} (h : RowPut w w' g o) (h' : RowPut w' w'' g o') : RowPut w w'' g o' :=
  ⟨h'.os.trans h.os, h'.tape.trans h.tape, h'.output.trans h.output, h'.size.trans h.size, h'.row, fun k hk => (h'.rest k hk).trans (h.rest k hk)⟩
theorem put_three {w : World} {g : Nat} (h : w.heap[g]? = some (rlB zeroRl (.slice none 0 0))) (a n v : Nat) :
    RowPut w (((w.setCell ⟨g, 0, none⟩ (.int .u32 (a : Nat))).setCell ⟨g, 1, none⟩ (.int .u32 (n : Nat))).setCell ⟨g, 3, none⟩ (.int .u32 (v : Nat))) g (rlB ⟨a, n, v, []⟩ (.slice none 0 0)) := by
  have h1 := rowPut_cell h 0 (.int .u32 (a : Nat))
  have h2 := rowPut_cell h1.row 1 (.int .u32 (n : Nat))
  have h3 := rowPut_cell h2.row 3 (.int .u32 (v : Nat))
  exact (h1.then h2).then h3
theorem put_four {w : World} {g : Nat} {x : Rl} {u : Value} (h : w.heap[g]? = some (rlB x u)) (a n v : Nat) (cs : List Cd) (cv : Value) :
    RowPut w ((((w.setCell ⟨g, 0, none⟩ (.int .u32 (a : Nat))).setCell ⟨g, 1, none⟩ (.int .u32 (n : Nat))).setCell ⟨g, 2, none⟩ cv).setCell ⟨g, 3, none⟩ (.int .u32 (v : Nat))) g (rlB ⟨a, n, v, cs⟩ cv) := by
  have h1 := rowPut_cell h 0 (.int .u32 (a : Nat))
  have h2 := rowPut_cell h1.row 1 (.int .u32 (n : Nat))
  have h3 := rowPut_cell h2.row 2 cv
  have h4 := rowPut_cell h3.row 3 (.int .u32 (v : Nat))
  exact ((h1.then h2).then h3).then h4
theorem put_conds {w : World} {g : Nat} {x : Rl} {u : Value} (h : w.heap[g]? = some (rlB x u)) (cs : List Cd) (cv : Value) : RowPut w (w.setCell ⟨g, 2, none⟩ cv) g (rlB ⟨x.arch, x.nr, x.act, cs⟩ cv) := rowPut_cell h 2 cv
theorem put_cond {w : World} {g : Nat} {d : Cd} (h : w.heap[g]? = some (cdB d)) (c : Cd) :
    RowPut w ((((w.setCell ⟨g, 0, none⟩ (.int .i64 c.arg)).setCell ⟨g, 1, none⟩ (.int .i64 c.cmp)).setCell ⟨g, 2, none⟩ (.int .u64 (c.mask : Nat))).setCell ⟨g, 3, none⟩ (.int .u64 (c.value : Nat))) g (cdB c) := by
  have h1 := rowPut_cell h 0 (.int .i64 c.arg)
  have h2 := rowPut_cell h1.row 1 (.int .i64 c.cmp)
  have h3 := rowPut_cell h2.row 2 (.int .u64 (c.mask : Nat))
  have h4 := rowPut_cell h3.row 3 (.int .u64 (c.value : Nat))
  exact ((h1.then h2).then h3).then h4
theorem qcells_snoc (cs : List Cd) (c : Cd) : qcells ((cs ++ [c]).map cdQ) = qcells (cs.map cdQ) ++ V4.cells (cdQ c) := by
  rw [List.map_append, qcells_app, List.map_singleton, qcells_one]
/-- What comes of a line. -/
def PReadEnd (l : List UInt8) (B : Nat) (w' : World) (e : Ending) : Prop :=
  (∃ x cv, readR l = some x ∧ w'.ownsRow B 55 4 cv x.conds.length (qcells (x.conds.map cdQ)) ∧ e = .returned (.tuple #[x.val cv, .bool true])) ∨ (readR l = none ∧ e = .returned (.tuple #[zeroRl.val (.slice none 0 0), .bool false]))
theorem preadNo {l : List UInt8} {B : Nat} {w' : World} (h : readR l = none) : PReadEnd l B w' (.returned (.tuple #[.agg #[.int .u32 0, .int .u32 0, .slice none 0 0, .int .u32 0], .bool false])) := .inr ⟨h, rfl⟩
theorem condsW_at : ∀ (cs : List Cd) (k j : Nat) (h : j < cs.length), (condsW k cs)[5 * j + 1]? = some (argW (cs[j]).arg) ∧ (condsW k cs)[5 * j + 2]? = some (numT (cs[j]).mask) ∧ (condsW k cs)[5 * j + 3]? = some (cmpW (cs[j]).cmp) ∧ (condsW k cs)[5 * j + 4]? = some (numT (cs[j]).value)
  | [], _, j, h => by simp at h
  | c :: cs, k, 0, _ => by simp [condsW, condW]
  | c :: cs, k, j + 1, h => by
    have ih := condsW_at cs (k + 1) j (by simpa using h)
    have e : ∀ i, (condsW k (c :: cs))[5 * (j + 1) + i]? = (condsW (k + 1) cs)[5 * j + i]? := by
      intro i
      rw [condsW, List.getElem?_append_right (by simp [condW]; omega)]
      congr 1
      simp [condW]
      omega
    rw [e 1, e 2, e 3, e 4, List.getElem_cons_succ]
    exact ih
theorem wordsR_at {y : Rl} {j : Nat} (h : j < y.conds.length) : (wordsR y)[4 + 5 * j + 1]? = some (argW (y.conds[j]).arg) ∧ (wordsR y)[4 + 5 * j + 2]? = some (numT (y.conds[j]).mask) ∧ (wordsR y)[4 + 5 * j + 3]? = some (cmpW (y.conds[j]).cmp) ∧ (wordsR y)[4 + 5 * j + 4]? = some (numT (y.conds[j]).value) := by
  have e : ∀ i, (wordsR y)[4 + 5 * j + i]? = (condsW 0 y.conds)[5 * j + i]? := by
    intro i
    rw [wordsR, List.getElem?_append_right (by simp [headW]; omega)]
    congr 1
    simp [headW]
    omega
  rw [e 1, e 2, e 3, e 4]
  exact condsW_at y.conds 0 j h
/-- Four words, put together as a condition's text is. -/
def fourT (a b c d : List UInt8) : ByteArray := ((((((⟨a.toArray⟩ : ByteArray) ++ ⟨#[32]⟩) ++ ⟨b.toArray⟩) ++ ⟨#[32]⟩) ++ ⟨c.toArray⟩) ++ ⟨#[32]⟩) ++ ⟨d.toArray⟩
theorem fourT_text (c : Cd) : fourT (argW c.arg) (numT c.mask) (cmpW c.cmp) (numT c.value) = textT c := by
  unfold fourT textT textQ
  have e : (⟨#[32]⟩ : ByteArray) = ⟨([32] : List UInt8).toArray⟩ := rfl
  rw [e]
  simp only [mkT]
  simp
/-- A text is a condition's, or none's: what Parse answers is one thing. -/
theorem parse_fix (s : ByteArray) : ∃ (c : Cd) (b : Bool), ((b = true ∧ c.ok ∧ c.right = true ∧ s = textT c) ∨ (b = false ∧ c = zeroCd ∧ ∀ d : Cd, d.ok → d.right = true → s ≠ textT d)) ∧ ∀ e, QParseEnd s e → e = .returned (.tuple #[c.val, .bool b]) := by
  by_cases h : ∃ c : Cd, c.ok ∧ c.right = true ∧ s = textT c
  · obtain ⟨c, h1, h2, h3⟩ := h
    refine ⟨c, true, .inl ⟨rfl, h1, h2, h3⟩, fun e he => ?_⟩
    rcases he with ⟨d, _, d2, d3, rfl⟩ | ⟨hno, _⟩
    · have hi : textQ c = textQ d := by
        have := congrArg (fun b : ByteArray => b.data.toList) (h3.symm.trans d3)
        simpa [textT] using this
      rw [textQ_inj h2 d2 hi]
    · exact absurd h3 (hno c h1 h2)
  · refine ⟨zeroCd, false, .inr ⟨rfl, rfl, fun d h1 h2 h3 => h ⟨d, h1, h2, h3⟩⟩, fun e he => ?_⟩
    rcases he with ⟨d, d1, d2, d3, _⟩ | ⟨_, rfl⟩
    · exact absurd ⟨d, d1, d2, d3⟩ h
    · rfl
theorem len_fact {n : Nat} (h : ¬ n < 4) (h2 : ¬ 24 < n) (h3 : (n - 4) % 5 = 0) : ∃ m, n = 4 + 5 * m ∧ m ≤ 4 := ⟨(n - 4) / 5, by omega, by omega⟩
set_option maxHeartbeats 16000000 in
theorem rread10_any (s : ByteArray) (w : World) (hs : s.size ≤ 1099511627776) :
    Calls Tryz.prog 26 #[.string s] w fun e w' => PReadEnd s.data.toList w.heap.size w' e ∧ Below w.heap.size w w' := by
  obtain ⟨i0, hi, hz0, hz1, hz2⟩ := info_parts infoCd
  have hz := heap_alloc_new w (rlB zeroRl (.slice none 0 0))
  have HB0 := Lib.hid (ba (rlB zeroRl (.slice none 0 0)) (Below.refl w.heap.size w))
  obtain ⟨W, hW⟩ : ∃ W, W = w.alloc (rlB zeroRl (.slice none 0 0)) := ⟨_, rfl⟩
  rw [← hW] at hz HB0
  have HZ0 := Lib.hid hz
  clear hz
  go_enter Tryz.func26, Tryz.ntmps26
  obtain ⟨Q, hQ⟩ : ∃ Q, Q = bodyPost Tryz.prog Tryz.f26 (fun e w' => PReadEnd s.data.toList w.heap.size w' e ∧ Below w.heap.size w w') := ⟨_, rfl⟩
  rw [← hQ]
  have HQ0 := Lib.hid hQ
  clear hQ
  go_upto_region 1 with fail
  change Code.wp _ _ _ _ (w.alloc (rlB zeroRl (.slice none 0 0)))
  rw [← hW]
  clear hW
  go_wp2_with fail
  refine (rcut_any s 32 _ hs).mono ?_
  rintro e w1 ⟨v1, rfl, hO1, hb1⟩
  have HB1 := Lib.hid (below2 HB0.out hb1)
  have HZ1 := Lib.hid (kb hb1 HZ0.out)
  obtain ⟨ws, hws⟩ : ∃ ws, ws = Ip.cutAll 32 [] s.data.toList := ⟨_, rfl⟩
  have hmem := Ip.cutAll_mem 32 s.data.toList []
  have hne := Ip.cutAll_ne 32 s.data.toList []
  have hlen := Ip.cutAll_len 32 s.data.toList []
  have hsl : s.data.toList.length = s.size := rfl
  rw [← hws] at hO1 hmem hne hlen
  have hwl : ws.length ≤ 1099511627777 := by omega
  have HM : Hid (∀ y ∈ ws, y.length ≤ 1099511627776) := Lib.hid fun y hy => by have := hmem y hy; simp at this; omega
  have HW : Hid (∀ y : Rl, y.ok → y.right = true → s.data.toList = lineL y → ws = wordsR y) := Lib.hid (fun y _ hr e => by rw [hws, e]; exact cut_line hr)
  have hpos : 0 < ws.length := List.length_pos_iff.2 hne
  obtain ⟨g, vc, cur, ty, fr, rfl, hgo, hcell⟩ : ∃ g c cur ty fr, v1 = .slice (some ⟨g, 0, none⟩) ws.length c ∧ w1.heap[g]? = some (.cells cur ty fr) ∧ ∀ i (h : i < ws.length), cur[i]? = some (.string ⟨ws[i].toArray⟩) := by
    rcases hO1.2 with ⟨rfl, h0⟩ | ⟨g, cap, cur, rfl, _, hg, hc, _, _, ht⟩
    · omega
    · refine ⟨g, cap, cur, _, _, rfl, hg, fun i hi => ?_⟩
      rw [← Array.getElem?_toList]
      have hu : (strs ws)[i]? = some (.string ⟨ws[i].toArray⟩) := by simp [hi]
      rw [← ht, List.getElem?_take, if_pos (by omega)] at hu
      exact hu
  have HG1 := Lib.hid hgo
  have HC := Lib.hid hcell
  clear hcell hgo hO1 hmem hne hlen hsl hws hb1 HB0 HZ0
  have r0 := cell_in HZ1.out 0
  have r1 := cell_in HZ1.out 1
  have r2 := cell_in HZ1.out 2
  have r3 := cell_in HZ1.out 3
  have f0 := free_in HZ1.out 0
  have f1 := free_in HZ1.out 1
  have f2 := free_in HZ1.out 2
  have f3 := free_in HZ1.out 3
  have hzlt : w.heap.size < w1.heap.size := lt_of_block HZ1.out
  by_cases h4 : ws.length < 4
  · have HE := Lib.hid (readR_is_none (l := s.data.toList) fun y hk hr e => by have h := congrArg List.length (HW.out y hk hr e); rw [wordsR_len] at h; omega)
    have b1 : decide ((ws.length : Int) < 4) = true := by simp; omega
    clear h4
    go_wp2_with fail
    (try simp only [Exit.inBlock, Exit.then])
    rw [HQ0.out]
    refine bodyPost_ret (v := .tuple #[.agg #[.int .u32 0, .int .u32 0, .slice none 0 0, .int .u32 0], .bool false]) ?_ rfl ⟨?_, ?_⟩
    · rw [results_cell_tmp rfl]
      go_simp
    · exact preadNo HE.out
    · have hB := HB1.out
      go_grown
  have b1 : decide ((ws.length : Int) < 4) = false := by simp; omega
  by_cases h24 : 24 < ws.length
  · have HE := Lib.hid (readR_is_none (l := s.data.toList) fun y hk hr e => by have h := congrArg List.length (HW.out y hk hr e); have := (right_conds hr).1; rw [wordsR_len] at h; omega)
    have b2 : decide ((24 : Int) < (ws.length : Int)) = true := by simp; omega
    clear h24 h4
    go_wp2_with fail
    (try simp only [Exit.inBlock, Exit.then])
    rw [HQ0.out]
    refine bodyPost_ret (v := .tuple #[.agg #[.int .u32 0, .int .u32 0, .slice none 0 0, .int .u32 0], .bool false]) ?_ rfl ⟨?_, ?_⟩
    · rw [results_cell_tmp rfl]
      go_simp
    · exact preadNo HE.out
    · have hB := HB1.out
      go_grown
  have b2 : decide ((24 : Int) < (ws.length : Int)) = false := by simp; omega
  by_cases h5 : (ws.length - 4) % 5 = 0
  case neg =>
    have HE := Lib.hid (readR_is_none (l := s.data.toList) fun y hk hr e => by have h := congrArg List.length (HW.out y hk hr e); rw [wordsR_len] at h; omega)
    have b3 : (((ws.length : Int) - 4) % 5 != 0) = true := by simp; omega
    have b4 : (0 : Int) ≤ (ws.length : Int) - 4 := by omega
    clear h24 h4 h5
    go_wp2_with fail
    (try simp only [Exit.inBlock, Exit.then])
    rw [HQ0.out]
    refine bodyPost_ret (v := .tuple #[.agg #[.int .u32 0, .int .u32 0, .slice none 0 0, .int .u32 0], .bool false]) ?_ rfl ⟨?_, ?_⟩
    · rw [results_cell_tmp rfl]
      go_simp
    · exact preadNo HE.out
    · have hB := HB1.out
      go_grown
  obtain ⟨M, hM, hM4⟩ := len_fact h4 h24 h5
  have HWS : Hid (∀ i, i < ws.length → ∃ A : List UInt8, ws[i]? = some A ∧ A.length ≤ 1099511627776 ∧ cur[i]? = some (.string ⟨A.toArray⟩)) := Lib.hid (fun i hi => ⟨ws[i], List.getElem?_eq_getElem hi, HM.out _ (List.getElem_mem hi), HC.out i hi⟩)
  have HMM := Lib.hid hM
  have b3 : (((ws.length : Int) - 4) % 5 != 0) = false := by simp; omega
  have b4 : (0 : Int) ≤ (ws.length : Int) - 4 := by omega
  have l1 : (1 : Int) < (ws.length : Int) := by omega
  have l2 : (2 : Int) < (ws.length : Int) := by omega
  have l3 : (3 : Int) < (ws.length : Int) := by omega
  obtain ⟨A1, hA1, zA1, q1⟩ := HWS.out 1 (by omega)
  obtain ⟨A2, hA2, zA2, q2⟩ := HWS.out 2 (by omega)
  obtain ⟨A3, hA3, zA3, q3⟩ := HWS.out 3 (by omega)
  obtain ⟨S1, hS1⟩ : ∃ S : ByteArray, S = ⟨A1.toArray⟩ := ⟨_, rfl⟩
  obtain ⟨S2, hS2⟩ : ∃ S : ByteArray, S = ⟨A2.toArray⟩ := ⟨_, rfl⟩
  obtain ⟨S3, hS3⟩ : ∃ S : ByteArray, S = ⟨A3.toArray⟩ := ⟨_, rfl⟩
  rw [← hS1] at q1
  rw [← hS2] at q2
  rw [← hS3] at q3
  have zS1 : S1.size ≤ 4611686018427387904 := by rw [hS1]; show A1.length ≤ _; omega
  have zS2 : S2.size ≤ 4611686018427387904 := by rw [hS2]; show A2.length ≤ _; omega
  have zS3 : S3.size ≤ 4611686018427387904 := by rw [hS3]; show A3.length ≤ _; omega
  have HHD : Hid (∀ y : Rl, y.ok → y.right = true → s.data.toList = lineL y → S1 = textN machT y.arch ∧ S2 = textN (callT y.arch) y.nr ∧ S3 = actB y.act ∧ y.conds.length = M) := Lib.hid (fun y hk hr e => by
    have hw := HW.out y hk hr e
    rw [hw] at hA1 hA2 hA3
    have hwl := congrArg List.length hw
    rw [wordsR_len, hM] at hwl
    refine ⟨?_, ?_, ?_, by omega⟩
    · rw [hS1, ← Option.some.inj hA1]
      rfl
    · rw [hS2, ← Option.some.inj hA2]
      rfl
    · rw [hS3, ← Option.some.inj hA3]
      rfl)
  have d1 := (cell_in HG1.out 1).trans q1
  clear h24 h4 h5 hM HM HC hS1 hS2 hS3 hA1 hA2 hA3 zA1 zA2 zA3 hpos hs
  go_upto_region 5 with fail
  obtain ⟨W2, hW2⟩ : ∃ W2, W2 = w1.alloc (rlB zeroRl (.slice none 0 0)) := ⟨_, rfl⟩
  have HX2 : Hid (W2.heap[w1.heap.size]? = some (rlB zeroRl (.slice none 0 0))) := Lib.hid (by rw [hW2]; exact heap_alloc_new w1 _)
  have HZ2 : Hid (W2.heap[w.heap.size]? = some (rlB zeroRl (.slice none 0 0))) := Lib.hid (by rw [hW2]; exact ka _ HZ1.out)
  have HG2 : Hid (W2.heap[g]? = some (.cells cur ty fr)) := Lib.hid (by rw [hW2]; exact ka _ HG1.out)
  have HB2 : Hid (Below w.heap.size w W2) := Lib.hid (by rw [hW2]; exact ba _ HB1.out)
  have hg1 : g < w1.heap.size := lt_of_block HG1.out
  change Code.wp _ _ _ _ (w1.alloc (rlB zeroRl (.slice none 0 0)))
  rw [← hW2]
  clear hW2 r0 r1 r2 r3 f0 f1 f2 f3 d1 HZ1 HG1 HB1 b1 b2 b3 b4
  generalize w1.heap.size = gx at *
  have d1 := (cell_in HG2.out 1).trans q1
  clear q1
  go_wp2_with fail
  refine (rreadmachine_any S1 _ zS1).mono ?_
  rintro e w3 ⟨⟨o1, ho1, rfl⟩, hb3⟩
  have HO1 := Lib.hid ho1
  have HX3 := Lib.hid (kb hb3 HX2.out)
  have HZ3 := Lib.hid (kb hb3 HZ2.out)
  have HG3 := Lib.hid (kb hb3 HG2.out)
  have HB3 := Lib.hid (below2 HB2.out hb3)
  have d2 := (cell_in HG3.out 2).trans q2
  have ha : o1.getD 0 < 4294967296 := by
    cases o1 with
    | none => exact (by decide : (0 : Nat) < 4294967296)
    | some a => exact ho1.1
  clear ho1 hb3 d1 q2 HX2 HZ2 HG2 HB2 zS1
  obtain ⟨a, hae⟩ : ∃ a, a = o1.getD 0 := ⟨_, rfl⟩
  obtain ⟨b1, hb1e⟩ : ∃ b, b = o1.isSome := ⟨_, rfl⟩
  rw [← hae] at ha ⊢
  rw [← hb1e]
  have HAE := Lib.hid hae
  have HB1E := Lib.hid hb1e
  clear hae hb1e
  go_wp2_with fail
  refine (rreadcall_any a S2 _ ha zS2).mono ?_
  rintro e w4 ⟨⟨o2, ho2, rfl⟩, hb4⟩
  have HO2 := Lib.hid ho2
  have HX4 := Lib.hid (kb hb4 HX3.out)
  have HZ4 := Lib.hid (kb hb4 HZ3.out)
  have HG4 := Lib.hid (kb hb4 HG3.out)
  have HB4 := Lib.hid (below2 HB3.out hb4)
  have d3 := (cell_in HG4.out 3).trans q3
  have hn : o2.getD 0 < 4294967296 := by
    cases o2 with
    | none => exact (by decide : (0 : Nat) < 4294967296)
    | some a => exact ho2.1
  clear ho2 hb4 d2 q3 HX3 HZ3 HG3 HB3 zS2
  obtain ⟨nn, hne⟩ : ∃ a, a = o2.getD 0 := ⟨_, rfl⟩
  obtain ⟨b2, hb2e⟩ : ∃ b, b = o2.isSome := ⟨_, rfl⟩
  rw [← hne] at hn ⊢
  rw [← hb2e]
  have HNE := Lib.hid hne
  have HB2E := Lib.hid hb2e
  clear hne hb2e
  go_wp2_with fail
  refine (rreadaction_any S3 _ zS3).mono ?_
  rintro e w5 ⟨⟨o3, ho3, rfl⟩, hb5⟩
  have HO3 := Lib.hid ho3
  have HX5 := Lib.hid (kb hb5 HX4.out)
  have HZ5 := Lib.hid (kb hb5 HZ4.out)
  have HG5 := Lib.hid (kb hb5 HG4.out)
  have HB5 := Lib.hid (below2 HB4.out hb5)
  have hv : o3.getD 0 < 4294967296 := by
    cases o3 with
    | none => exact (by decide : (0 : Nat) < 4294967296)
    | some a => exact ho3.1
  clear ho3 hb5 d3 HX4 HZ4 HG4 HB4 zS3
  obtain ⟨vv, hve⟩ : ∃ a, a = o3.getD 0 := ⟨_, rfl⟩
  obtain ⟨b3, hb3e⟩ : ∃ b, b = o3.isSome := ⟨_, rfl⟩
  rw [← hve] at hv ⊢
  rw [← hb3e]
  have HVE := Lib.hid hve
  have HB3E := Lib.hid hb3e
  clear hve hb3e
  have r0 := cell_in HZ5.out 0
  have r1 := cell_in HZ5.out 1
  have r2 := cell_in HZ5.out 2
  have r3 := cell_in HZ5.out 3
  have f0 := free_in HZ5.out 0
  have f1 := free_in HZ5.out 1
  have f2 := free_in HZ5.out 2
  have f3 := free_in HZ5.out 3
  have hzlt : w.heap.size < w5.heap.size := lt_of_block HZ5.out
  cases o1 with
  | none =>
    obtain rfl : b1 = false := HB1E.out
    have HE := Lib.hid (readR_is_none (l := s.data.toList) fun y hk hr e => (HO1.out : ∀ n : Nat, n < 4294967296 → S1 ≠ textN machT n) y.arch hk.1 (HHD.out y hk hr e).1)
    go_wp2_with fail
    (try simp only [Exit.inBlock, Exit.then])
    rw [HQ0.out]
    refine bodyPost_ret (v := .tuple #[.agg #[.int .u32 0, .int .u32 0, .slice none 0 0, .int .u32 0], .bool false]) ?_ rfl ⟨?_, ?_⟩
    · rw [results_cell_tmp rfl]
      go_simp
    · exact preadNo HE.out
    · have hB := HB5.out
      go_grown
  | some a' =>
  obtain rfl : b1 = true := HB1E.out
  obtain rfl : a = a' := HAE.out
  cases o2 with
  | none =>
    obtain rfl : b2 = false := HB2E.out
    have HE := Lib.hid (readR_is_none (l := s.data.toList) fun y hk hr e => by
      obtain ⟨h1, h2, _⟩ := HHD.out y hk hr e
      have hya := textN_inj machT_good ((HO1.out : a < 4294967296 ∧ S1 = textN machT a).2.symm.trans h1)
      rw [← hya] at h2
      exact (HO2.out : ∀ n : Nat, n < 4294967296 → S2 ≠ textN (callT a) n) y.nr hk.2.1 h2)
    go_wp2_with fail
    (try simp only [Exit.inBlock, Exit.then])
    rw [HQ0.out]
    refine bodyPost_ret (v := .tuple #[.agg #[.int .u32 0, .int .u32 0, .slice none 0 0, .int .u32 0], .bool false]) ?_ rfl ⟨?_, ?_⟩
    · rw [results_cell_tmp rfl]
      go_simp
    · exact preadNo HE.out
    · have hB := HB5.out
      go_grown
  | some n' =>
  obtain rfl : b2 = true := HB2E.out
  obtain rfl : nn = n' := HNE.out
  cases o3 with
  | none =>
    obtain rfl : b3 = false := HB3E.out
    have HE := Lib.hid (readR_is_none (l := s.data.toList) fun y hk hr e => by
      obtain ⟨_, _, h3, _⟩ := HHD.out y hk hr e
      obtain ⟨t, ht⟩ := Option.isSome_iff_exists.1 (right_conds hr).2.1
      refine (HO3.out : ∀ v : Nat, v < 4294967296 → actT v ≠ some S3) y.act hk.2.2.1 ?_
      rw [h3, actB, ht]
      rfl)
    go_wp2_with fail
    (try simp only [Exit.inBlock, Exit.then])
    rw [HQ0.out]
    refine bodyPost_ret (v := .tuple #[.agg #[.int .u32 0, .int .u32 0, .slice none 0 0, .int .u32 0], .bool false]) ?_ rfl ⟨?_, ?_⟩
    · rw [results_cell_tmp rfl]
      go_simp
    · exact preadNo HE.out
    · have hB := HB5.out
      go_grown
  | some v' =>
  obtain rfl : b3 = true := HB3E.out
  obtain rfl : vv = v' := HVE.out
  have HYH : Hid (∀ y : Rl, y.ok → y.right = true → s.data.toList = lineL y → y.arch = a ∧ y.nr = nn ∧ y.act = vv ∧ y.conds.length = M) := Lib.hid (fun y hk hr e => by
    obtain ⟨h1, h2, h3, h4⟩ := HHD.out y hk hr e
    have hya := textN_inj machT_good (h1.symm.trans (HO1.out : a < 4294967296 ∧ S1 = textN machT a).2)
    rw [hya] at h2
    have hyn := textN_inj (callT_good a) (h2.symm.trans (HO2.out : nn < 4294967296 ∧ S2 = textN (callT a) nn).2)
    have hv3 : actT vv = some S3 := (HO3.out : vv < 4294967296 ∧ actT vv = some S3).2
    have hyv := actB_inj (right_conds hr).2.1 (by rw [hv3]; rfl) (show actB y.act = actB vv by rw [← h3, actB, hv3]; rfl)
    exact ⟨hya, hyn, hyv, h4⟩)
  have HACT : Hid ((actT vv).isSome = true) := Lib.hid (by rw [(HO3.out : vv < 4294967296 ∧ actT vv = some S3).2]; rfl)
  clear HAE HNE HVE HB1E HB2E HB3E HO1 HO2 HO3 HHD r0 r1 r2 r3 f0 f1 f2 f3
  have r0 := cell_in HX5.out 0
  have r1 := cell_in HX5.out 1
  have r3 := cell_in HX5.out 3
  have f0 := free_in HX5.out 0
  have f1 := free_in HX5.out 1
  have f3 := free_in HX5.out 3
  have hgx : gx < w5.heap.size := lt_of_block HX5.out
  have hgxw : w.heap.size < gx := by assumption
  have HPUT := Lib.hid (put_three HX5.out a nn vv)
  go_upto_region 13 with fail
  obtain ⟨W6, hW6⟩ : ∃ W6, W6 = ((w5.setCell ⟨gx, 0, none⟩ (.int .u32 (a : Nat))).setCell ⟨gx, 1, none⟩ (.int .u32 (nn : Nat))).setCell ⟨gx, 3, none⟩ (.int .u32 (vv : Nat)) := ⟨_, rfl⟩
  rw [← hW6] at HPUT ⊢
  have HX6 := Lib.hid HPUT.out.row
  have HZ6 := Lib.hid (HPUT.out.keep (by omega) HZ5.out)
  have HG6 := Lib.hid (HPUT.out.keep (by omega) HG5.out)
  have HB6 := Lib.hid (HPUT.out.below HB5.out (by omega))
  clear hW6 r0 r1 r3 f0 f1 f3 HX5 HZ5 HG5 HB5 HPUT l1 l2 l3 hgx hzlt
  have hgx : gx < W6.heap.size := lt_of_block HX6.out
  go_wp2_with fail
  obtain ⟨B, hBe0⟩ : ∃ B, B = W6.heap.size := ⟨_, rfl⟩
  have HBe := Lib.hid hBe0
  clear hBe0
  go_loopw [12] (fun i wr => ∃ (cs : List Cd) (cv : Value) (m : Nat), i = .int .i64 m ∧ Hid (m = 4 + 5 * cs.length ∧ cs.length ≤ M) ∧ wr.ownsRow B 55 4 cv cs.length (qcells (cs.map cdQ)) ∧ Below w.heap.size w wr ∧ B ≤ wr.heap.size ∧ wr.heap[gx]? = some (rlB ⟨a, nn, vv, cs⟩ cv) ∧ wr.heap[w.heap.size]? = some (rlB zeroRl (.slice none 0 0)) ∧ wr.heap[g]? = some (.cells cur ty fr) ∧
      Hid ((∀ c ∈ cs, c.ok ∧ c.right = true) ∧ ∀ y : Rl, y.ok → y.right = true → s.data.toList = lineL y → y.conds.take cs.length = cs)) (fun i _ => 25 - (Lib.intOf i).toNat)
  case atStart => exact ⟨[], .slice none 0 0, 4, rfl, Lib.hid ⟨rfl, Nat.zero_le _⟩, World.ownsRow_nil _ _ _ _, HB6.out, by rw [HBe.out]; exact Nat.le_refl _, HX6.out, HZ6.out, HG6.out, Lib.hid ⟨by simp, fun y _ _ _ => rfl⟩⟩
  case round =>
    obtain ⟨cs, cv, m, rfl, HMC, hO, hB, hBs, hX, hZ, hG, HCS⟩ := hrel
    have HO := Lib.hid hO
    have HB := Lib.hid hB
    have HX := Lib.hid hX
    have HZ := Lib.hid hZ
    have HG := Lib.hid hG
    have hgB : gx < B := by rw [HBe.out]; exact hgx
    clear hO hB hX hZ hG HX6 HZ6 HG6 HB6
    by_cases hlt : cs.length < M
    · have hmw : m + 4 < ws.length := by have := HMC.out.1; have := HMM.out; omega
      have hlb : decide ((m : Int) < (ws.length : Int)) = true := by simp; omega
      obtain ⟨B1, hB1, zB1, q1⟩ := HWS.out (m + 1) (by omega)
      obtain ⟨B2, hB2, zB2, q2⟩ := HWS.out (m + 2) (by omega)
      obtain ⟨B3, hB3, zB3, q3⟩ := HWS.out (m + 3) (by omega)
      obtain ⟨B4, hB4, zB4, q4⟩ := HWS.out (m + 4) (by omega)
      have d1 := (cell_in HG.out (m + 1)).trans q1
      have d2 := (cell_in HG.out (m + 2)).trans q2
      have d3 := (cell_in HG.out (m + 3)).trans q3
      have d4 := (cell_in HG.out (m + 4)).trans q4
      obtain ⟨c, b, hcb, hfix⟩ := parse_fix (fourT B1 B2 B3 B4)
      have HYC : Hid (∀ y : Rl, y.ok → y.right = true → s.data.toList = lineL y → ∃ h : cs.length < y.conds.length, fourT B1 B2 B3 B4 = textT (y.conds[cs.length])) := Lib.hid (fun y hk hr e => by
        have hl := (HYH.out y hk hr e).2.2.2
        have hj : cs.length < y.conds.length := by omega
        refine ⟨hj, ?_⟩
        have hw := HW.out y hk hr e
        obtain ⟨g1, g2, g3, g4⟩ := wordsR_at hj
        rw [← hw] at g1 g2 g3 g4
        have hmm := HMC.out.1
        rw [← hmm] at g1 g2 g3 g4
        rw [hB1] at g1
        rw [hB2] at g2
        rw [hB3] at g3
        rw [hB4] at g4
        rw [Option.some.inj g1, Option.some.inj g2, Option.some.inj g3, Option.some.inj g4]
        exact fourT_text _)
      have HCB := Lib.hid hcb
      obtain ⟨T1, hT1⟩ : ∃ S : ByteArray, S = ⟨B1.toArray⟩ := ⟨_, rfl⟩
      obtain ⟨T2, hT2⟩ : ∃ S : ByteArray, S = ⟨B2.toArray⟩ := ⟨_, rfl⟩
      obtain ⟨T3, hT3⟩ : ∃ S : ByteArray, S = ⟨B3.toArray⟩ := ⟨_, rfl⟩
      obtain ⟨T4, hT4⟩ : ∃ S : ByteArray, S = ⟨B4.toArray⟩ := ⟨_, rfl⟩
      have zT1 : T1.size ≤ 1099511627776 := by rw [hT1]; exact zB1
      have zT2 : T2.size ≤ 1099511627776 := by rw [hT2]; exact zB2
      have zT3 : T3.size ≤ 1099511627776 := by rw [hT3]; exact zB3
      have zT4 : T4.size ≤ 1099511627776 := by rw [hT4]; exact zB4
      rw [← hT1] at d1
      rw [← hT2] at d2
      rw [← hT3] at d3
      rw [← hT4] at d4
      have hTe : fourT B1 B2 B3 B4 = (((((T1 ++ ⟨#[32]⟩) ++ T2) ++ ⟨#[32]⟩) ++ T3) ++ ⟨#[32]⟩) ++ T4 := by rw [hT1, hT2, hT3, hT4]; rfl
      have hTz : (fourT B1 B2 B3 B4).size ≤ 4611686018427387904 := by
        rw [hTe]
        simp only [ByteArray.size_append]
        have : (⟨#[32]⟩ : ByteArray).size = 1 := rfl
        omega
      have CP : Hid (∀ V, Below wr.heap.size wr V → Calls Tryz.prog 46 #[.string ((((((T1 ++ ⟨#[32]⟩) ++ T2) ++ ⟨#[32]⟩) ++ T3) ++ ⟨#[32]⟩) ++ T4)] V fun e w' => e = .returned (.tuple #[c.val, .bool b]) ∧ Below wr.heap.size wr w' ∧ Below V.heap.size V w') := Lib.hid (fun V hV => by
        rw [← hTe]
        exact (rparse8_any _ V hTz).mono fun e w' h => ⟨hfix e h.1, below2 hV h.2, h.2⟩)
      have n1 : ¬ 9223372036854775807 < T1.size + 1 := by omega
      have n2 : ¬ 9223372036854775807 < T1.size + 1 + T2.size := by omega
      have n3 : ¬ 9223372036854775807 < T1.size + 1 + T2.size + 1 := by omega
      have n4 : ¬ 9223372036854775807 < T1.size + 1 + T2.size + 1 + T3.size := by omega
      have n5 : ¬ 9223372036854775807 < T1.size + 1 + T2.size + 1 + T3.size + 1 := by omega
      have n6 : ¬ 9223372036854775807 < T1.size + 1 + T2.size + 1 + T3.size + 1 + T4.size := by omega
      have s1 : IntKind.i64.wrap ((m : Int) + 1) = (m : Int) + 1 := by rw [IntKind.wrap_i64]; omega
      have s2 : IntKind.i64.wrap ((m : Int) + 2) = (m : Int) + 2 := by rw [IntKind.wrap_i64]; omega
      have s3 : IntKind.i64.wrap ((m : Int) + 3) = (m : Int) + 3 := by rw [IntKind.wrap_i64]; omega
      have s4 : IntKind.i64.wrap ((m : Int) + 4) = (m : Int) + 4 := by rw [IntKind.wrap_i64]; omega
      have p1 : (0 : Int) ≤ (m : Int) + 1 := by omega
      have p2 : (0 : Int) ≤ (m : Int) + 2 := by omega
      have p3 : (0 : Int) ≤ (m : Int) + 3 := by omega
      have p4 : (0 : Int) ≤ (m : Int) + 4 := by omega
      have u1 : (m : Int) + 1 < (ws.length : Int) := by omega
      have u2 : (m : Int) + 2 < (ws.length : Int) := by omega
      have u3 : (m : Int) + 3 < (ws.length : Int) := by omega
      have u4 : (m : Int) + 4 < (ws.length : Int) := by omega
      have t1 : ((m : Int) + 1).toNat = m + 1 := by omega
      have t2 : ((m : Int) + 2).toNat = m + 2 := by omega
      have t3 : ((m : Int) + 3).toNat = m + 3 := by omega
      have t4 : ((m : Int) + 4).toNat = m + 4 := by omega
      have hgr : g < wr.heap.size := lt_of_block HG.out
      have hgn : wr.heap.size ≠ g := by omega
      have hgn2 : g ≠ wr.heap.size := by omega
      clear hcb hfix hTe hTz hT1 hT2 hT3 hT4 zT1 zT2 zT3 zT4 q1 q2 q3 q4 hB1 hB2 hB3 hB4 zB1 zB2 zB3 zB4
      go_wp2_with fail
      go_region_held3 (fun V => V.cell? ⟨g, m + 1, none⟩ = some (.string T1) ∧ V.cell? ⟨g, m + 2, none⟩ = some (.string T2) ∧ V.cell? ⟨g, m + 3, none⟩ = some (.string T3) ∧ V.cell? ⟨g, m + 4, none⟩ = some (.string T4)) (first | with_reducible exact ⟨d1, d2, d3, d4⟩ | with_reducible exact ⟨a1, a2, a3, a4⟩ | go_keep)
        (first
          | (go_at_call 46; (first | with_reducible refine (CP.out _ ?_).mono ?_ | (trace "slow"; refine (CP.out _ ?_).mono ?_)); (first | with_reducible exact hb9 | (have hB := Below.refl wr.heap.size wr; go_grown)); rintro e w9 ⟨rfl, hb9, hbv⟩; obtain ⟨hc9, hf9⟩ := bcell hbv; have a1 := (hb9.cell (p := ⟨g, _, none⟩) hgr).trans d1; have a2 := (hb9.cell (p := ⟨g, _, none⟩) hgr).trans d2; have a3 := (hb9.cell (p := ⟨g, _, none⟩) hgr).trans d3; have a4 := (hb9.cell (p := ⟨g, _, none⟩) hgr).trans d4))
      · have hq : (w9.alloc (cdB c)).heap[w9.heap.size]? = some (cdB c) := heap_alloc_new w9 _
        have hbq : Below wr.heap.size wr (w9.alloc (cdB c)) := ba _ hb9
        have hgc : wr.heap.size ≤ w9.heap.size := hb9.size
        obtain ⟨WQ, hWQ⟩ : ∃ V, V = w9.alloc (cdB c) := ⟨_, rfl⟩
        change Exit.then _ _ _ _ (w9.alloc (cdB c))
        rw [← hWQ] at hq hbq ⊢
        have HQ := Lib.hid hq
        clear hWQ hq n1 n2 n3 n4 n5 n6 s1 s2 s3 s4 p1 p2 p3 p4 u1 u2 u3 u4 t1 t2 t3 t4 d1 d2 d3 d4 a1 a2 a3 a4 hc9 hf9 hbv hb9 CP hgn hgn2 hgr
        generalize w9.heap.size = gc at *
        have HBQ := Lib.hid (below2 HB.out hbq)
        have HXQ := Lib.hid (kb hbq HX.out)
        have HZQ := Lib.hid (kb hbq HZ.out)
        have HGQ := Lib.hid (kb hbq HG.out)
        have HOQ := Lib.hid (own_below HO.out hbq)
        have hBq : B ≤ WQ.heap.size := Nat.le_trans hBs hbq.size
        have hgcs : gc < WQ.heap.size := lt_of_block HQ.out
        have hgc2 : B ≤ gc := Nat.le_trans hBs hgc
        clear hbq hgc HO HB HX HZ HG
        rcases HCB.out with ⟨rfl, hck, hcr, hct⟩ | ⟨rfl, hcz, hcno⟩
        rotate_left
        · have HE := Lib.hid (readR_is_none (l := s.data.toList) fun y hk hr e => by
            obtain ⟨hj, h⟩ := HYC.out y hk hr e
            exact hcno _ (hk.2.2.2 _ (List.getElem_mem hj)) ((right_conds hr).2.2 _ (List.getElem_mem hj)) h)
          clear hcno hcz
          have r0 := cell_in HZQ.out 0
          have r1 := cell_in HZQ.out 1
          have r2 := cell_in HZQ.out 2
          have r3 := cell_in HZQ.out 3
          have f0 := free_in HZQ.out 0
          have f1 := free_in HZQ.out 1
          have f2 := free_in HZQ.out 2
          have f3 := free_in HZQ.out 3
          have hzlt : w.heap.size < WQ.heap.size := lt_of_block HZQ.out
          go_wp2_with fail
          (try simp only [Exit.inBlock, Exit.then])
          rw [HQ0.out]
          refine bodyPost_ret (v := .tuple #[.agg #[.int .u32 0, .int .u32 0, .slice none 0 0, .int .u32 0], .bool false]) ?_ rfl ⟨?_, ?_⟩
          · rw [results_cell_tmp rfl]
            go_simp
          · exact preadNo HE.out
          · have hB := HBQ.out
            go_grown
        have HCS2 : Hid ((∀ d ∈ cs ++ [c], d.ok ∧ d.right = true) ∧ ∀ y : Rl, y.ok → y.right = true → s.data.toList = lineL y → y.conds.take (cs ++ [c]).length = cs ++ [c]) := Lib.hid ⟨fun d hd => by
            rcases List.mem_append.1 hd with hd | hd
            · exact HCS.out.1 d hd
            · rw [List.mem_singleton.1 hd]
              exact ⟨hck, hcr⟩, fun y hk hr e => by
            obtain ⟨hj, h⟩ := HYC.out y hk hr e
            have hi : textQ c = textQ (y.conds[cs.length]) := by
              have := congrArg (fun b : ByteArray => b.data.toList) (hct.symm.trans h)
              simpa [textT] using this
            rw [List.length_append, List.length_singleton, List.take_succ_eq_append_getElem hj, HCS.out.2 y hk hr e, ← textQ_inj hcr ((right_conds hr).2.2 _ (List.getElem_mem hj)) hi]⟩
        clear hck hcr hct HCB HYC
        obtain ⟨ao, cap, rfl⟩ := own_shape HOQ.out
        obtain ⟨k0, k1, k2, k3⟩ := cdX HQ.out
        obtain ⟨x0, x1, x2, x3⟩ := rbox HXQ.out
        have hcl : cs.length ≤ 4 := by omega
        have hgxq : gx < WQ.heap.size := lt_of_block HXQ.out
        go_wp2_with (at_builtin; refine wpList_append_own _ rfl _ _ 38 rfl B 55 i0 (.agg #[.int .i64 0, .int .i64 0, .int .u64 0, .int .u64 0]) 4 32 Tryz.underlying38 hi hz0 hz1 hz2 rfl (by decide) _ _ _ rfl (HOQ.out.alloc _) ⟨WQ.heap.size, 0, none⟩ 1 1 (V4.cells (cdQ c)) rfl rfl (new_at WQ #[.int .i64 c.arg, .int .i64 c.cmp, .int .u64 (c.mask : Nat), .int .u64 (c.value : Nat)] 55) (by simp [Value.oneCell']) (by unfold maxLen; omega) (by omega) (by rw [size_alloc]; omega) ?_)
        intro v3 w3' hown3 hgrow3 _
        have hown4 : w3'.ownsRow B 55 4 v3 (cs.length + 1) (qcells ((cs ++ [c]).map cdQ)) := by
          rw [qcells_snoc]
          exact hown3
        have hkeep : ∀ k o, k < B → WQ.heap[k]? = some o → w3'.heap[k]? = some o := fun k o hk ho =>
          (hgrow3.block k (by rw [size_alloc]; have := lt_of_block ho; omega) (fun e => by have := ((HOQ.out.alloc (cdB c)).lt k e.symm).1; omega)).trans (ka _ ho)
        have HX3' := hkeep gx _ hgB HXQ.out
        have HZ3' := Lib.hid (hkeep w.heap.size _ (by omega) HZQ.out)
        have HG3' := Lib.hid (hkeep g _ (by omega) HGQ.out)
        have HB3' := Lib.hid (grown_below (ba (cdB c) HBQ.out) (own_mono (HOQ.out.alloc (cdB c)) (by omega)) hgrow3 (by rw [size_alloc]; omega))
        have HPC := Lib.hid (put_conds HX3' (cs ++ [c]) v3)
        have fx2 := free_in HX3' 2
        have cx2 := cell_in HX3' 2
        have hs3 : B ≤ w3'.heap.size := by have := lt_of_block HX3'; have := hgrow3.size; rw [size_alloc] at this; omega
        have HO3' := Lib.hid hown4
        obtain ⟨ao2, cap2, rfl⟩ := own_shape hown4
        clear hown3 hown4 hgrow3 hkeep HXQ HZQ HGQ HBQ HOQ k0 k1 k2 k3 x0 x1 x2 x3 HX3'
        go_wp2_with fail
        have HX9 := Lib.hid HPC.out.row
        have HZ9 := Lib.hid (HPC.out.keep (by omega) HZ3'.out)
        have HG9 := Lib.hid (HPC.out.keep (by omega) HG3'.out)
        have HB9 := Lib.hid (HPC.out.below HB3'.out (by omega))
        have HO9 := Lib.hid (own_put HO3'.out HPC.out hgB)
        have hs9 := HPC.out.size
        clear HPC fx2 cx2 HZ3' HG3' HB3' HO3'
        generalize w3'.setCell ⟨gx, 2, none⟩ (.slice ao2 (cs.length + 1) cap2) = W9 at *
        go_wp2_with fail
        go_roundw
        case rel => exact ⟨cs ++ [c], _, m + 5, by go_num, Lib.hid (by rw [List.length_append, List.length_singleton]; have := HMC.out.1; omega), by rw [List.length_append, List.length_singleton]; exact HO9.out, HB9.out, by omega, HX9.out, HZ9.out, HG9.out, HCS2⟩
        case measure =>
          have := HMC.out.1
          simp [Lib.intOf]
          omega
      · have hz9 : w9.heap[wr.heap.size]? = some (cdB zeroCd) := (hbv.block _ (show wr.heap.size < (wr.alloc (cdB zeroCd)).heap.size by rw [size_alloc]; omega)).trans (heap_alloc_new wr (cdB zeroCd))
        have hput := put_cond hz9 c
        have hq := hput.row
        have hbq := hput.below hb9 (Nat.le_refl _)
        have hgc : wr.heap.size ≤ wr.heap.size := Nat.le_refl _
        obtain ⟨WQ, hWQ⟩ : ∃ V, V = (((w9.setCell ⟨wr.heap.size, 0, none⟩ (.int .i64 c.arg)).setCell ⟨wr.heap.size, 1, none⟩ (.int .i64 c.cmp)).setCell ⟨wr.heap.size, 2, none⟩ (.int .u64 (c.mask : Nat))).setCell ⟨wr.heap.size, 3, none⟩ (.int .u64 (c.value : Nat)) := ⟨_, rfl⟩
        rw [← hWQ] at hq hbq ⊢
        have HQ := Lib.hid hq
        clear hWQ hq hput hz9 n1 n2 n3 n4 n5 n6 s1 s2 s3 s4 p1 p2 p3 p4 u1 u2 u3 u4 t1 t2 t3 t4 d1 d2 d3 d4 a1 a2 a3 a4 hc9 hf9 hbv hb9 CP hgn hgn2 hgr
        obtain ⟨gc, hgce⟩ : ∃ q, q = wr.heap.size := ⟨_, rfl⟩
        rw [← hgce] at HQ ⊢
        have hgc : wr.heap.size ≤ gc := by omega
        clear hgce
        have HBQ := Lib.hid (below2 HB.out hbq)
        have HXQ := Lib.hid (kb hbq HX.out)
        have HZQ := Lib.hid (kb hbq HZ.out)
        have HGQ := Lib.hid (kb hbq HG.out)
        have HOQ := Lib.hid (own_below HO.out hbq)
        have hBq : B ≤ WQ.heap.size := Nat.le_trans hBs hbq.size
        have hgcs : gc < WQ.heap.size := lt_of_block HQ.out
        have hgc2 : B ≤ gc := Nat.le_trans hBs hgc
        clear hbq hgc HO HB HX HZ HG
        rcases HCB.out with ⟨rfl, hck, hcr, hct⟩ | ⟨rfl, hcz, hcno⟩
        rotate_left
        · have HE := Lib.hid (readR_is_none (l := s.data.toList) fun y hk hr e => by
            obtain ⟨hj, h⟩ := HYC.out y hk hr e
            exact hcno _ (hk.2.2.2 _ (List.getElem_mem hj)) ((right_conds hr).2.2 _ (List.getElem_mem hj)) h)
          clear hcno hcz
          have r0 := cell_in HZQ.out 0
          have r1 := cell_in HZQ.out 1
          have r2 := cell_in HZQ.out 2
          have r3 := cell_in HZQ.out 3
          have f0 := free_in HZQ.out 0
          have f1 := free_in HZQ.out 1
          have f2 := free_in HZQ.out 2
          have f3 := free_in HZQ.out 3
          have hzlt : w.heap.size < WQ.heap.size := lt_of_block HZQ.out
          go_wp2_with fail
          (try simp only [Exit.inBlock, Exit.then])
          rw [HQ0.out]
          refine bodyPost_ret (v := .tuple #[.agg #[.int .u32 0, .int .u32 0, .slice none 0 0, .int .u32 0], .bool false]) ?_ rfl ⟨?_, ?_⟩
          · rw [results_cell_tmp rfl]
            go_simp
          · exact preadNo HE.out
          · have hB := HBQ.out
            go_grown
        have HCS2 : Hid ((∀ d ∈ cs ++ [c], d.ok ∧ d.right = true) ∧ ∀ y : Rl, y.ok → y.right = true → s.data.toList = lineL y → y.conds.take (cs ++ [c]).length = cs ++ [c]) := Lib.hid ⟨fun d hd => by
            rcases List.mem_append.1 hd with hd | hd
            · exact HCS.out.1 d hd
            · rw [List.mem_singleton.1 hd]
              exact ⟨hck, hcr⟩, fun y hk hr e => by
            obtain ⟨hj, h⟩ := HYC.out y hk hr e
            have hi : textQ c = textQ (y.conds[cs.length]) := by
              have := congrArg (fun b : ByteArray => b.data.toList) (hct.symm.trans h)
              simpa [textT] using this
            rw [List.length_append, List.length_singleton, List.take_succ_eq_append_getElem hj, HCS.out.2 y hk hr e, ← textQ_inj hcr ((right_conds hr).2.2 _ (List.getElem_mem hj)) hi]⟩
        clear hck hcr hct HCB HYC
        obtain ⟨ao, cap, rfl⟩ := own_shape HOQ.out
        obtain ⟨k0, k1, k2, k3⟩ := cdX HQ.out
        obtain ⟨x0, x1, x2, x3⟩ := rbox HXQ.out
        have hcl : cs.length ≤ 4 := by omega
        have hgxq : gx < WQ.heap.size := lt_of_block HXQ.out
        go_wp2_with (at_builtin; refine wpList_append_own _ rfl _ _ 38 rfl B 55 i0 (.agg #[.int .i64 0, .int .i64 0, .int .u64 0, .int .u64 0]) 4 32 Tryz.underlying38 hi hz0 hz1 hz2 rfl (by decide) _ _ _ rfl (HOQ.out.alloc _) ⟨WQ.heap.size, 0, none⟩ 1 1 (V4.cells (cdQ c)) rfl rfl (new_at WQ #[.int .i64 c.arg, .int .i64 c.cmp, .int .u64 (c.mask : Nat), .int .u64 (c.value : Nat)] 55) (by simp [Value.oneCell']) (by unfold maxLen; omega) (by omega) (by rw [size_alloc]; omega) ?_)
        intro v3 w3' hown3 hgrow3 _
        have hown4 : w3'.ownsRow B 55 4 v3 (cs.length + 1) (qcells ((cs ++ [c]).map cdQ)) := by
          rw [qcells_snoc]
          exact hown3
        have hkeep : ∀ k o, k < B → WQ.heap[k]? = some o → w3'.heap[k]? = some o := fun k o hk ho =>
          (hgrow3.block k (by rw [size_alloc]; have := lt_of_block ho; omega) (fun e => by have := ((HOQ.out.alloc (cdB c)).lt k e.symm).1; omega)).trans (ka _ ho)
        have HX3' := hkeep gx _ hgB HXQ.out
        have HZ3' := Lib.hid (hkeep w.heap.size _ (by omega) HZQ.out)
        have HG3' := Lib.hid (hkeep g _ (by omega) HGQ.out)
        have HB3' := Lib.hid (grown_below (ba (cdB c) HBQ.out) (own_mono (HOQ.out.alloc (cdB c)) (by omega)) hgrow3 (by rw [size_alloc]; omega))
        have HPC := Lib.hid (put_conds HX3' (cs ++ [c]) v3)
        have fx2 := free_in HX3' 2
        have cx2 := cell_in HX3' 2
        have hs3 : B ≤ w3'.heap.size := by have := lt_of_block HX3'; have := hgrow3.size; rw [size_alloc] at this; omega
        have HO3' := Lib.hid hown4
        obtain ⟨ao2, cap2, rfl⟩ := own_shape hown4
        clear hown3 hown4 hgrow3 hkeep HXQ HZQ HGQ HBQ HOQ k0 k1 k2 k3 x0 x1 x2 x3 HX3'
        go_wp2_with fail
        have HX9 := Lib.hid HPC.out.row
        have HZ9 := Lib.hid (HPC.out.keep (by omega) HZ3'.out)
        have HG9 := Lib.hid (HPC.out.keep (by omega) HG3'.out)
        have HB9 := Lib.hid (HPC.out.below HB3'.out (by omega))
        have HO9 := Lib.hid (own_put HO3'.out HPC.out hgB)
        have hs9 := HPC.out.size
        clear HPC fx2 cx2 HZ3' HG3' HB3' HO3'
        generalize w3'.setCell ⟨gx, 2, none⟩ (.slice ao2 (cs.length + 1) cap2) = W9 at *
        go_wp2_with fail
        go_roundw
        case rel => exact ⟨cs ++ [c], _, m + 5, by go_num, Lib.hid (by rw [List.length_append, List.length_singleton]; have := HMC.out.1; omega), by rw [List.length_append, List.length_singleton]; exact HO9.out, HB9.out, by omega, HX9.out, HZ9.out, HG9.out, HCS2⟩
        case measure =>
          have := HMC.out.1
          simp [Lib.intOf]
          omega
    · have hlb : decide ((m : Int) < (ws.length : Int)) = false := by have := HMC.out.1; have := HMC.out.2; have := HMM.out; simp; omega
      have hnl : ¬ (m < ws.length) := by have := HMC.out.1; have := HMC.out.2; have := HMM.out; omega
      have hcsM : cs.length = M := by have := HMC.out.2; omega
      have HCM := Lib.hid hcsM
      clear hcsM
      have hCA : CAt wr cv cs := QAt.own HO.out (by rw [List.length_map])
      obtain ⟨ao, cap, rfl⟩ := own_shape HO.out
      have hxr : ∀ d ∈ cs, d.right = true := fun d hd => (HCS.out.1 d hd).2
      have hxk : (⟨a, nn, vv, cs⟩ : Rl).ok := ⟨ha, hn, hv, fun d hd => (HCS.out.1 d hd).1⟩
      have hrt : (⟨a, nn, vv, cs⟩ : Rl).right = true := rl_right (by show cs.length ≤ 4; have := HCM.out; omega) HACT.out hxr
      have HXK := Lib.hid hxk
      have HRT := Lib.hid hrt
      have HLN : Hid (Calls Tryz.prog 22 #[(⟨a, nn, vv, cs⟩ : Rl).val (.slice ao cs.length cap)] wr fun e w' => e = .returned (.string (lineT ⟨a, nn, vv, cs⟩)) ∧ Below wr.heap.size wr w') := Lib.hid (rline10_any ⟨a, nn, vv, cs⟩ _ wr hCA hxk hxr (by show cs.length ≤ 4; have := HCM.out; omega))
      obtain ⟨x0, x1, x2, x3⟩ := rbox HX.out
      clear hCA hxr hxk hrt hlt
      go_wp2_with fail
      refine HLN.out.mono ?_
      rintro e wl ⟨rfl, hbl⟩
      have HXl := Lib.hid (kb hbl HX.out)
      have HZl := Lib.hid (kb hbl HZ.out)
      have HBl := Lib.hid (below2 HB.out hbl)
      have HOl := Lib.hid (own_below HO.out hbl)
      clear hbl HLN HX HZ HB HO HG x0 x1 x2 x3
      have r0 := cell_in HZl.out 0
      have r1 := cell_in HZl.out 1
      have r2 := cell_in HZl.out 2
      have r3 := cell_in HZl.out 3
      have f0 := free_in HZl.out 0
      have f1 := free_in HZl.out 1
      have f2 := free_in HZl.out 2
      have f3 := free_in HZl.out 3
      have hzlt2 : w.heap.size < wl.heap.size := lt_of_block HZl.out
      obtain ⟨x0, x1, x2, x3⟩ := rbox HXl.out
      obtain ⟨L, hL⟩ : ∃ L, L = lineT ⟨a, nn, vv, cs⟩ := ⟨_, rfl⟩
      rw [← hL]
      have HL := Lib.hid hL
      clear hL
      cases hq : (L.toList == s.toList)
      · have HE := Lib.hid (readR_is_none (l := s.data.toList) fun y hk hr e => by
          obtain ⟨y1, y2, y3, y4⟩ := HYH.out y hk hr e
          have y5 := HCS.out.2 y hk hr e
          rw [List.take_of_length_le (by have := HCM.out; omega)] at y5
          obtain rfl : y = ⟨a, nn, vv, cs⟩ := by
            obtain ⟨_, _, _, _⟩ := y
            simp_all
          have hls : L = s := by
            rw [HL.out]
            apply ByteArray.ext
            apply Array.ext'
            exact e.symm
          rw [hls] at hq
          simp at hq)
        go_wp2_with fail
        (try simp only [Exit.inBlock, Exit.then])
        rw [HQ0.out]
        refine bodyPost_ret (v := .tuple #[.agg #[.int .u32 0, .int .u32 0, .slice none 0 0, .int .u32 0], .bool false]) ?_ rfl ⟨?_, ?_⟩
        · rw [results_cell_tmp rfl]
          go_simp
        · exact preadNo HE.out
        · have hB := HBl.out
          go_grown
      · have hls : s.data.toList = lineL ⟨a, nn, vv, cs⟩ := by
          have h := beq_iff_eq.1 hq
          rw [Go.ByteArray.toList_eq, Go.ByteArray.toList_eq, HL.out] at h
          exact h.symm
        have hput := put_four HZl.out a nn vv cs (.slice ao cs.length cap)
        have HF : Hid (PReadEnd s.data.toList w.heap.size ((((wl.setCell ⟨w.heap.size, 0, none⟩ (.int .u32 (a : Nat))).setCell ⟨w.heap.size, 1, none⟩ (.int .u32 (nn : Nat))).setCell ⟨w.heap.size, 2, none⟩ (.slice ao cs.length cap)).setCell ⟨w.heap.size, 3, none⟩ (.int .u32 (vv : Nat))) (.returned (.tuple #[.agg #[.int .u32 (a : Nat), .int .u32 (nn : Nat), .slice ao cs.length cap, .int .u32 (vv : Nat)], .bool true]))) := Lib.hid (.inl ⟨⟨a, nn, vv, cs⟩, .slice ao cs.length cap, by rw [hls]; exact readR_line HXK.out HRT.out, own_mono (own_put HOl.out hput (by omega)) (by omega), rfl⟩)
        clear hput hls
        go_wp2_with fail
        (try simp only [Exit.inBlock, Exit.then])
        rw [HQ0.out]
        refine bodyPost_ret (v := .tuple #[.agg #[.int .u32 (a : Nat), .int .u32 (nn : Nat), .slice ao cs.length cap, .int .u32 (vv : Nat)], .bool true]) ?_ rfl ⟨?_, ?_⟩
        · rw [results_cell_tmp rfl]
          go_simp
        · exact HF.out
        · have hB := HBl.out
          go_grown
end Go.Proofs.YtdjjmcblhpjchaaGreatDoor
/-
  The document's Parse of a policy (package hurdleref10).
-/
namespace Go.Proofs.YtdjjmcblhpjchaaGreatDoor
open Go.ChangeShapes Go.WideShapes Go.ChangeAt Go.RowKit
set_option maxRecDepth 20000

theorem results_cell_tmp2 {fn : Func} {p u v : Tmp} {ty : TypeId} (h : fn.results = #[.cell p ty, .tmp u, .tmp v]) (tmps : Array Value) (P : Program) (w : World) :
    (results fn tmps).run P w =
      ((asAddr (tmps.getD p undef)).run P w).andThen fun a w₁ => ((loadVar ty a).run P w₁).andThen fun x w₂ => .ok (.tuple #[x, tmps.getD u undef, tmps.getD v undef]) w₂ := by
  simp only [results, h]
  simp [Sem.run_bind, Result.andThen]
theorem infoRl : (Tryz.prog.info? 40).map (fun i => (i.zero, i.size, i.bytes)) = some (some (.agg #[.int .u32 0, .int .u32 0, .slice none 0 0, .int .u32 0]), 4, 40) := by kernel_rfl
/-- A row of the call's own stays where another one grows. -/
theorem own_keep {w w' : World} {base : Nat} {e : TypeId} {size : Nat} {u v : Value} {n : Nat} {xs : List Value} (h : w.ownsRow base e size v n xs) (hg : w.grownBy w' u.ownBlock) (hne : v.ownBlock = none ∨ v.ownBlock ≠ u.ownBlock) : w'.ownsRow base e size v n xs := by
  obtain ⟨h1, h2⟩ := h
  refine ⟨h1, h2.imp id ?_⟩
  rintro ⟨k, cap, cur, rfl, hk, hh, r⟩
  refine ⟨k, cap, cur, rfl, hk, (hg.block k (lt_of_block hh) (fun e => ?_)).trans hh, r⟩
  rcases hne with h | h
  · simp [Value.ownBlock] at h
  · exact h (by rw [← e]; simp [Value.ownBlock])
/-- Rules that lie in rows of the call's own. -/
structure LOwn (w : World) (B : Nat) (rv : Value) (l : List (Rl × Value)) : Prop where
  row : w.ownsRow B 40 4 rv l.length (qcells (l.map rlQ))
  conds : ∀ p ∈ l, w.ownsRow B 55 4 p.2 p.1.conds.length (qcells (p.1.conds.map cdQ))
theorem LOwn.nil (w : World) (B : Nat) : LOwn w B (.slice none 0 0) [] := ⟨World.ownsRow_nil _ _ _ _, by simp⟩
theorem LOwn.below {w w' : World} {B : Nat} {rv : Value} {l : List (Rl × Value)} (h : LOwn w B rv l) (hb : Below w.heap.size w w') : LOwn w' B rv l := ⟨own_below h.row hb, fun p hp => own_below (h.conds p hp) hb⟩
theorem LOwn.put {w w' : World} {B g : Nat} {o : Obj} {rv : Value} {l : List (Rl × Value)} (h : LOwn w B rv l) (hp : RowPut w w' g o) (hg : g < B) : LOwn w' B rv l := ⟨own_put h.row hp hg, fun p hq => own_put (h.conds p hq) hp hg⟩
theorem LOwn.at {w : World} {B : Nat} {rv : Value} {l : List (Rl × Value)} (h : LOwn w B rv l) : LAt w rv (l.map (·.1)) :=
  ⟨l, rfl, QAt.own h.row (by rw [List.length_map]), fun p hp => QAt.own (h.conds p hp) (by rw [List.length_map])⟩
theorem ne_types : 40 ≠ 55 := by decide
theorem LOwn.grow {w w' : World} {B : Nat} {rv rv' : Value} {l : List (Rl × Value)} {x : Rl} {cv : Value} (h : LOwn w B rv l) (hc : w.ownsRow B 55 4 cv x.conds.length (qcells (x.conds.map cdQ))) (hg : w.grownBy w' rv.ownBlock)
    (hr : w'.ownsRow B 40 4 rv' (l.length + 1) (qcells (l.map rlQ) ++ V4.cells (rlQ (x, cv)))) : LOwn w' B rv' (l ++ [(x, cv)]) := by
  refine ⟨?_, fun p hp => ?_⟩
  · rw [List.length_append, List.length_singleton, List.map_append, qcells_app, List.map_singleton, qcells_one]
    exact hr
  · rcases List.mem_append.1 hp with hp | hp
    · exact own_keep (h.conds p hp) hg (own_apart h.row (h.conds p hp) ne_types)
    · rw [List.mem_singleton.1 hp]
      exact own_keep hc hg (own_apart h.row hc ne_types)
/-- What comes of a text. -/
def PPEnd (l : List UInt8) (w' : World) (e : Ending) : Prop :=
  ∃ rv, LAt w' rv (polT l).1.rules ∧ e = .returned (.tuple #[poV rv (polT l).1.dflt, .int .i64 ((polT l).2.1 : Nat), .int .i64 ((polT l).2.2 : Nat)])
theorem ppEnd_bad {l : List UInt8} {w' : World} {i e : Nat} (h : polT l = (zeroPo, i, e)) : PPEnd l w' (.returned (.tuple #[.agg #[.slice none 0 0, .int .u32 0], .int .i64 (i : Nat), .int .i64 (e : Nat)])) := by
  refine ⟨.slice none 0 0, ?_, ?_⟩
  · rw [h]
    exact LAt.nil w'
  · rw [h]
    rfl
theorem ppEnd_good {l : List UInt8} {w' : World} {rs : List Rl} {d : Nat} {rv : Value} (h : polT l = (⟨rs, d⟩, 0, 0)) (hL : LAt w' rv rs) : PPEnd l w' (.returned (.tuple #[.agg #[rv, .int .u32 (d : Nat)], .int .i64 0, .int .i64 0])) := by
  refine ⟨rv, ?_, ?_⟩
  · rw [h]
    exact hL
  · rw [h]
    rfl
theorem put_pol {w : World} {g : Nat} {u : Value} {d : Nat} (h : w.heap[g]? = some (poB u d)) (rv : Value) (v : Nat) : RowPut w ((w.setCell ⟨g, 0, none⟩ rv).setCell ⟨g, 1, none⟩ (.int .u32 (v : Nat))) g (poB rv v) := by
  have h1 := rowPut_cell h 0 rv
  have h2 := rowPut_cell h1.row 1 (.int .u32 (v : Nat))
  exact h1.then h2
theorem put_rules {w : World} {g : Nat} {u : Value} {d : Nat} (h : w.heap[g]? = some (poB u d)) (rv : Value) : RowPut w (w.setCell ⟨g, 0, none⟩ rv) g (poB rv d) := rowPut_cell h 0 rv
theorem put_dflt {w : World} {g : Nat} {u : Value} {d : Nat} (h : w.heap[g]? = some (poB u d)) (v : Nat) : RowPut w (w.setCell ⟨g, 1, none⟩ (.int .u32 (v : Nat))) g (poB u v) := rowPut_cell h 1 (.int .u32 (v : Nat))
/-- A line that is a default's. -/
theorem def_words {p : List UInt8} {v : Nat} (h : p = lineD v) : Ip.cutAll 32 [] p = defW v := by rw [h, cut_def]
theorem def_of {p : List UInt8} {v : Nat} {A : List UInt8} (h : Ip.cutAll 32 [] p = [wDefault, A]) (hv : actT v = some ⟨A.toArray⟩) : p = lineD v := by
  have e := Ip.join_cutAll p []
  rw [h] at e
  simp only [List.nil_append] at e
  rw [← e]
  unfold lineD defW actB
  rw [hv]
  rfl
set_option maxHeartbeats 16000000 in
theorem rparse10_any (s : ByteArray) (w : World) :
    Calls Tryz.prog 12 #[.string s] w fun e w' => PPEnd s.data.toList w' e ∧ Below w.heap.size w w' := by
  obtain ⟨i0, hi, hz0, hz1, hz2⟩ := info_parts infoRl
  have hz := heap_alloc_new w (poB (.slice none 0 0) 0)
  have HB0 := Lib.hid (ba (poB (.slice none 0 0) 0) (Below.refl w.heap.size w))
  obtain ⟨W, hW⟩ : ∃ W, W = w.alloc (poB (.slice none 0 0) 0) := ⟨_, rfl⟩
  rw [← hW] at hz HB0
  have HZ0 := Lib.hid hz
  clear hz
  go_enter Tryz.func12, Tryz.ntmps12
  obtain ⟨Q, hQ⟩ : ∃ Q, Q = bodyPost Tryz.prog Tryz.f12 (fun e w' => PPEnd s.data.toList w' e ∧ Below w.heap.size w w') := ⟨_, rfl⟩
  rw [← hQ]
  have HQ0 := Lib.hid hQ
  clear hQ
  go_upto_region 1 with fail
  change Code.wp _ _ _ _ (w.alloc (poB (.slice none 0 0) 0))
  rw [← hW]
  clear hW
  obtain ⟨L, hLe⟩ : ∃ L, L = s.data.toList := ⟨_, rfl⟩
  have hLl : L.length = s.size := by rw [hLe]; rfl
  rw [← hLe] at HQ0
  by_cases hbig : 20000 < s.size
  · have HE : Hid (polT L = (zeroPo, 0, 3)) := Lib.hid (by unfold polT; rw [if_pos (by omega)])
    have hb : decide ((20000 : Int) < (s.size : Int)) = true := by simp; omega
    have r0 := cell_in HZ0.out 0
    have r1 := cell_in HZ0.out 1
    have f0 := free_in HZ0.out 0
    have f1 := free_in HZ0.out 1
    have hzlt : w.heap.size < W.heap.size := lt_of_block HZ0.out
    clear hLl hLe hbig
    go_wp2_with fail
    (try simp only [Exit.inBlock, Exit.then])
    rw [HQ0.out]
    refine bodyPost_ret (v := .tuple #[.agg #[.slice none 0 0, .int .u32 0], .int .i64 0, .int .i64 3]) ?_ rfl ⟨?_, ?_⟩
    · rw [results_cell_tmp2 rfl]
      go_simp
    · exact ppEnd_bad HE.out
    · have hB := HB0.out
      go_grown
  have hb : decide ((20000 : Int) < (s.size : Int)) = false := by simp; omega
  go_upto_region 4 with fail
  obtain ⟨W2, hW2⟩ : ∃ W2, W2 = W.alloc (poB (.slice none 0 0) 0) := ⟨_, rfl⟩
  have HP2 : Hid (W2.heap[W.heap.size]? = some (poB (.slice none 0 0) 0)) := Lib.hid (by rw [hW2]; exact heap_alloc_new W _)
  have HZ2 : Hid (W2.heap[w.heap.size]? = some (poB (.slice none 0 0) 0)) := Lib.hid (by rw [hW2]; exact ka _ HZ0.out)
  have HB2 : Hid (Below w.heap.size w W2) := Lib.hid (by rw [hW2]; exact ba _ HB0.out)
  have hgpw : w.heap.size < W.heap.size := lt_of_block HZ0.out
  change Code.wp _ _ _ _ (W.alloc (poB (.slice none 0 0) 0))
  rw [← hW2]
  clear hW2 HZ0 HB0
  generalize W.heap.size = gp at *
  go_wp2_with fail
  refine (rcut_any s 10 _ (by omega)).mono ?_
  rintro e w1 ⟨v1, rfl, hO1, hb1⟩
  have HB1 := Lib.hid (below2 HB2.out hb1)
  have HZ1 := Lib.hid (kb hb1 HZ2.out)
  have HP1 := Lib.hid (kb hb1 HP2.out)
  obtain ⟨ls, hls⟩ : ∃ ls, ls = Ip.cutAll 10 [] s.data.toList := ⟨_, rfl⟩
  have hmem := Ip.cutAll_mem 10 s.data.toList []
  have hne := Ip.cutAll_ne 10 s.data.toList []
  have hlen := Ip.cutAll_len 10 s.data.toList []
  rw [← hls] at hO1 hmem hne hlen
  rw [← hLe] at hmem hlen
  have hnl : ls.length ≤ 20001 := by omega
  have HM : Hid (∀ y ∈ ls, y.length ≤ 20000) := Lib.hid fun y hy => by have := hmem y hy; simp at this; omega
  have hpos : 0 < ls.length := List.length_pos_iff.2 hne
  have HPOL : Hid (polT L = rdP L.length (ls.drop 0) [] none 0) := Lib.hid (by rw [List.drop_zero, hls, ← hLe]; unfold polT; rw [if_neg (by omega)])
  have hgp2 : gp < W2.heap.size := lt_of_block HP2.out
  obtain ⟨gl, vc, cur, ty, fr, rfl, hgne, hgo, hcell⟩ : ∃ g c cur ty fr, v1 = .slice (some ⟨g, 0, none⟩) ls.length c ∧ gp < g ∧ w1.heap[g]? = some (.cells cur ty fr) ∧ ∀ i (h : i < ls.length), cur[i]? = some (.string ⟨ls[i].toArray⟩) := by
    rcases hO1.2 with ⟨rfl, h0⟩ | ⟨g, cap, cur, rfl, hge, hg, hc, _, _, ht⟩
    · omega
    · refine ⟨g, cap, cur, _, _, rfl, by omega, hg, fun i hi => ?_⟩
      rw [← Array.getElem?_toList]
      have hu : (strs ls)[i]? = some (.string ⟨ls[i].toArray⟩) := by simp [hi]
      rw [← ht, List.getElem?_take, if_pos (by omega)] at hu
      exact hu
  have HG1 := Lib.hid hgo
  have HC := Lib.hid hcell
  have hgpl : gp < w1.heap.size := lt_of_block HP1.out
  have hgll : gl < w1.heap.size := lt_of_block HG1.out
  have HLE := Lib.hid hLe
  have HLL := Lib.hid hLl
  clear hcell hgo hO1 hmem hne hlen hls hb1 HP2 HZ2 HB2 hLe hLl hbig hb
  obtain ⟨B, hBe⟩ : ∃ B, B = w1.heap.size := ⟨_, rfl⟩
  rw [← hBe] at hgpl hgll
  have HBe := Lib.hid hBe
  clear hBe
  go_wp2_with fail
  go_loopw [7, 8, 9] (fun av dn i wr => ∃ (l : List (Rl × Value)) (rv : Value) (o : Option Nat) (a k : Nat), av = .int .i64 a ∧ dn = .bool o.isSome ∧ i = .int .i64 k ∧ k < ls.length ∧ Hid (polT L = rdP L.length (ls.drop k) (l.map (·.1)) o a) ∧ Hid (LOwn wr B rv l) ∧ Hid (Below w.heap.size w wr) ∧ B ≤ wr.heap.size ∧
      Hid (wr.heap[gp]? = some (poB rv (o.getD 0))) ∧ Hid (wr.heap[w.heap.size]? = some (poB (.slice none 0 0) 0)) ∧ Hid (wr.heap[gl]? = some (.cells cur ty fr)) ∧ l.length ≤ 64 ∧ a ≤ k * 20001) (fun _ _ i _ => 20002 - (Lib.intOf i).toNat)
  case atStart => exact ⟨[], .slice none 0 0, none, 0, 0, rfl, rfl, rfl, hpos, HPOL, Lib.hid (LOwn.nil _ _), HB1, by rw [HBe.out]; exact Nat.le_refl _, HP1, HZ1, HG1, Nat.zero_le _, Nat.zero_le _⟩
  case round =>
    obtain ⟨l, rv, o, a, k, rfl, rfl, rfl, hk, HR, HLO, HB, hBs, HP, HZ, HG, h64, ha⟩ := hrel
    clear HB1 HZ1 HP1 HG1 HPOL
    obtain ⟨p, hp⟩ : ∃ p, p = ls[k] := ⟨_, rfl⟩
    have hq := HC.out k hk
    rw [← hp] at hq
    have zp : p.length ≤ 20000 := by rw [hp]; exact HM.out _ (List.getElem_mem hk)
    have HD : Hid (ls.drop k = p :: ls.drop (k + 1)) := Lib.hid (by rw [hp]; exact List.drop_eq_getElem_cons hk)
    obtain ⟨P, hPe⟩ : ∃ P : ByteArray, P = ⟨p.toArray⟩ := ⟨_, rfl⟩
    rw [← hPe] at hq
    have zP : P.size = p.length := by rw [hPe]; rfl
    have hPl : P.data.toList = p := by rw [hPe]
    have HPL := Lib.hid hPl
    have e0 := (cell_in HG.out k).trans hq
    have l0 : (k : Int) < (ls.length : Int) := by omega
    have l1 : (0 : Int) ≤ (k : Int) := by omega
    have l2 : (k : Int).toNat = k := by omega
    have hkb : decide ((k : Int) < (ls.length : Int)) = true := by simp; omega
    have HQQ := Lib.hid hq
    clear hp hq hPe hPl
    have hzlt : w.heap.size < wr.heap.size := lt_of_block HZ.out
    by_cases hlast : k + 1 = ls.length
    · have hlb : ((k : Int) == (ls.length : Int) - 1) = true := by simp; omega
      have HL1 : Hid (polT L = lastP L.length (l.map (·.1)) o a p) := Lib.hid (by rw [HR.out, HD.out, List.drop_eq_nil_of_le (by omega), rdP_last])
      have r0 := cell_in HZ.out 0
      have r1 := cell_in HZ.out 1
      have f0 := free_in HZ.out 0
      have f1 := free_in HZ.out 1
      clear hlast HR HD
      by_cases hp0 : p = []
      · have hpe : P.toList.isEmpty = true := by rw [Go.ByteArray.toList_eq, HPL.out, hp0]; rfl
        cases o with
        | none =>
          have HE : Hid (polT L = (zeroPo, s.size, 5)) := Lib.hid (by rw [HL1.out, hp0, ← HLL.out]; rfl)
          clear hp0 zP
          go_wp2_with fail
          (try simp only [Exit.inBlock, Exit.then])
          rw [HQ0.out]
          refine bodyPost_ret (v := .tuple #[.agg #[.slice none 0 0, .int .u32 0], .int .i64 s.size, .int .i64 5]) ?_ rfl ⟨?_, ?_⟩
          · rw [results_cell_tmp2 rfl]
            go_simp
          · exact ppEnd_bad HE.out
          · have hB := HB.out
            go_grown
        | some d =>
          have HE : Hid (polT L = (⟨l.map (·.1), d⟩, 0, 0)) := Lib.hid (by rw [HL1.out, hp0]; rfl)
          obtain ⟨ao, cap, rfl⟩ := own_shape HLO.out.row
          obtain ⟨c0, c1⟩ := pbox HP.out
          have hput := put_pol HZ.out (.slice ao l.length cap) d
          have HF : Hid (PPEnd L ((wr.setCell ⟨w.heap.size, 0, none⟩ (.slice ao l.length cap)).setCell ⟨w.heap.size, 1, none⟩ (.int .u32 (d : Nat))) (.returned (.tuple #[.agg #[.slice ao l.length cap, .int .u32 (d : Nat)], .int .i64 0, .int .i64 0]))) := Lib.hid (ppEnd_good HE.out (HLO.out.put hput (by omega)).at)
          have c1' : wr.cell? ⟨gp, 1, none⟩ = some (.int .u32 (d : Nat)) := c1
          clear hp0 zP hput c1
          go_wp2_with fail
          (try simp only [Exit.inBlock, Exit.then])
          rw [HQ0.out]
          refine bodyPost_ret (v := .tuple #[.agg #[.slice ao l.length cap, .int .u32 (d : Nat)], .int .i64 0, .int .i64 0]) ?_ rfl ⟨?_, ?_⟩
          · rw [results_cell_tmp2 rfl]
            go_simp
          · exact HF.out
          · have hB := HB.out
            go_grown
      · have hpe : P.toList.isEmpty = false := by rw [Go.ByteArray.toList_eq, HPL.out]; simpa using hp0
        have HE : Hid (polT L = (zeroPo, a, 2)) := Lib.hid (by rw [HL1.out]; unfold lastP; rw [if_neg hp0])
        clear hp0 zP
        go_wp2_with fail
        (try simp only [Exit.inBlock, Exit.then])
        rw [HQ0.out]
        refine bodyPost_ret (v := .tuple #[.agg #[.slice none 0 0, .int .u32 0], .int .i64 a, .int .i64 2]) ?_ rfl ⟨?_, ?_⟩
        · rw [results_cell_tmp2 rfl]
          go_simp
        · exact ppEnd_bad HE.out
        · have hB := HB.out
          go_grown
    · have hlb : ((k : Int) == (ls.length : Int) - 1) = false := by simp; omega
      obtain ⟨m, ms, hms⟩ : ∃ m ms, ls.drop (k + 1) = m :: ms := by
        cases h : ls.drop (k + 1) with
        | nil => have := List.drop_eq_nil_iff.1 h; omega
        | cons m ms => exact ⟨m, ms, rfl⟩
      have HMS := Lib.hid hms
      have hk2 : k + 1 < ls.length := by omega
      have HR2 : Hid (polT L = rdP L.length (p :: m :: ms) (l.map (·.1)) o a) := Lib.hid (by rw [HR.out, HD.out, HMS.out])
      clear hms hlast HR HD
      cases o with
      | some d =>
        have HE : Hid (polT L = (zeroPo, a, 2)) := Lib.hid (by rw [HR2.out, rdP_done])
        have r0 := cell_in HZ.out 0
        have r1 := cell_in HZ.out 1
        have f0 := free_in HZ.out 0
        have f1 := free_in HZ.out 1
        go_wp2_with fail
        (try simp only [Exit.inBlock, Exit.then])
        rw [HQ0.out]
        refine bodyPost_ret (v := .tuple #[.agg #[.slice none 0 0, .int .u32 0], .int .i64 a, .int .i64 2]) ?_ rfl ⟨?_, ?_⟩
        · rw [results_cell_tmp2 rfl]
          go_simp
        · exact ppEnd_bad HE.out
        · have hB := HB.out
          go_grown
      | none =>
        have zP2 : P.size ≤ 20000 := by omega
        have haa : a ≤ 500000000 := by omega
        obtain ⟨ao, cap, rfl⟩ := own_shape HLO.out.row
        go_wp2_with fail
        refine (rread10_any P _ (by omega)).mono ?_
        rintro e w3 ⟨hE, hb3⟩
        rw [HPL.out] at hE
        have HB3 := Lib.hid (below2 HB.out hb3)
        have HP3 : Hid (w3.heap[gp]? = some (poB (.slice ao l.length cap) 0)) := Lib.hid (kb hb3 HP.out)
        have HZ3 := Lib.hid (kb hb3 HZ.out)
        have HG3 := Lib.hid (kb hb3 HG.out)
        have HLO3 := Lib.hid (HLO.out.below hb3)
        have hB3 : B ≤ w3.heap.size := Nat.le_trans hBs hb3.size
        have e1 := (cell_in HG3.out k).trans HQQ.out
        have hzlt3 : w.heap.size < w3.heap.size := lt_of_block HZ3.out
        clear e0 hzlt HP HZ HG HLO HB hb3
        rcases hE with ⟨x, cv, hx, hcv, rfl⟩ | ⟨hx, rfl⟩
        · obtain ⟨co, ccap, rfl⟩ := own_shape hcv
          obtain ⟨cn, hcn⟩ : ∃ n, n = x.conds.length := ⟨_, rfl⟩
          have HCV := Lib.hid (own_mono hcv hBs)
          rw [← hcn]
          rw [← hcn] at HCV
          have HCN := Lib.hid hcn
          clear hcv hcn
          by_cases hfull : 64 ≤ l.length
          · have HE : Hid (polT L = (zeroPo, a, 3)) := Lib.hid (by rw [HR2.out, rdP_stop (stepP_full hx (by rw [List.length_map]; exact hfull))])
            have hfb : decide ((64 : Int) ≤ (l.length : Int)) = true := by simp; omega
            obtain ⟨c0, c1⟩ := pbox HP3.out
            have hgp3 : gp < w3.heap.size := lt_of_block HP3.out
            have hgp4 : gp ≠ w3.heap.size := by omega
            have r0 := cell_in HZ3.out 0
            have r1 := cell_in HZ3.out 1
            have f0 := free_in HZ3.out 0
            have f1 := free_in HZ3.out 1
            clear hx hfull
            go_wp2_with fail
            (try simp only [Exit.inBlock, Exit.then])
            rw [HQ0.out]
            refine bodyPost_ret (v := .tuple #[.agg #[.slice none 0 0, .int .u32 0], .int .i64 a, .int .i64 3]) ?_ rfl ⟨?_, ?_⟩
            · rw [results_cell_tmp2 rfl]
              go_simp
            · exact ppEnd_bad HE.out
            · have hB := HB3.out
              go_grown
          · have HN : Hid (polT L = rdP L.length (ls.drop (k + 1)) ((l ++ [((x, Value.slice co cn ccap) : Rl × Value)]).map (·.1)) none (a + P.size + 1)) := Lib.hid (by
              rw [HR2.out, rdP_go (stepP_rule hx (by rw [List.length_map]; omega)), HMS.out, List.map_append, zP]
              rfl)
            have hfb : decide ((64 : Int) ≤ (l.length : Int)) = false := by simp; omega
            clear hx
            go_upto_region 18 with fail
            obtain ⟨W4, hW4⟩ : ∃ V, V = w3.alloc (rlB x (.slice co cn ccap)) := ⟨_, rfl⟩
            have HX4 : Hid (W4.heap[w3.heap.size]? = some (rlB x (.slice co cn ccap))) := Lib.hid (by rw [hW4]; exact heap_alloc_new w3 _)
            have hb4 : Below w3.heap.size w3 W4 := by rw [hW4]; exact ba _ (Below.refl _ _)
            have HB4 := Lib.hid (below2 HB3.out hb4)
            have HP4 := Lib.hid (kb hb4 HP3.out)
            have HZ4 := Lib.hid (kb hb4 HZ3.out)
            have HG4 := Lib.hid (kb hb4 HG3.out)
            have HLO4 := Lib.hid (HLO3.out.below hb4)
            have HCV4 : Hid (W4.ownsRow B 55 4 (.slice co cn ccap) x.conds.length (qcells (x.conds.map cdQ))) := Lib.hid (own_below (by rw [← HCN.out]; exact HCV.out) hb4)
            have hB4 : B ≤ W4.heap.size := Nat.le_trans hB3 hb4.size
            change Code.wp _ _ _ _ (w3.alloc (rlB x (.slice co cn ccap)))
            rw [← hW4]
            clear hW4 hb4 HB3 HP3 HZ3 HG3 HLO3 HCV e1 hzlt3
            generalize w3.heap.size = gc at *
            obtain ⟨x0, x1, x2, x3⟩ := rbox HX4.out
            obtain ⟨c0, c1⟩ := pbox HP4.out
            have hgc : gc < W4.heap.size := lt_of_block HX4.out
            have hgpp : gp < W4.heap.size := lt_of_block HP4.out
            go_wp2_with (at_builtin; refine wpList_append_own _ rfl _ _ 22 rfl B 40 i0 (.agg #[.int .u32 0, .int .u32 0, .slice none 0 0, .int .u32 0]) 4 40 Tryz.underlying22 hi hz0 hz1 hz2 rfl (by decide) _ _ _ rfl (HLO4.out.row.alloc _) ⟨W4.heap.size, 0, none⟩ 1 1 (V4.cells (rlQ (x, .slice co cn ccap))) rfl rfl (new_at W4 #[.int .u32 (x.arch : Nat), .int .u32 (x.nr : Nat), .slice co cn ccap, .int .u32 (x.act : Nat)] 40) (by simp [Value.oneCell']) (by unfold maxLen; omega) (by omega) (by rw [size_alloc]; omega) ?_)
            intro v3 w5 hown5 hgrow5 _
            have hba : Below W4.heap.size W4 (W4.alloc (rlB x (.slice co cn ccap))) := ba _ (Below.refl _ _)
            have HLO5 := Lib.hid ((HLO4.out.below hba).grow (own_below HCV4.out hba) hgrow5 hown5)
            have hkeep : ∀ j ob, j < B → W4.heap[j]? = some ob → w5.heap[j]? = some ob := fun j ob hj ho =>
              (hgrow5.block j (by rw [size_alloc]; have := lt_of_block ho; omega) (fun e => by have := ((HLO4.out.row.alloc (rlB x (.slice co cn ccap))).lt j e.symm).1; omega)).trans (ka _ ho)
            have HP5 := hkeep gp _ hgpl HP4.out
            have HZ5 := Lib.hid (hkeep w.heap.size _ (by omega) HZ4.out)
            have HG5 := Lib.hid (hkeep gl _ hgll HG4.out)
            have HB5 := Lib.hid (grown_below (ba (rlB x (.slice co cn ccap)) HB4.out) (own_mono (HLO4.out.row.alloc (rlB x (.slice co cn ccap))) (by omega)) hgrow5 (by rw [size_alloc]; have := HB4.out.size; omega))
            have HPR := Lib.hid (put_rules HP5 v3)
            have fx := free_in HP5 0
            have cx := cell_in HP5 0
            have hs5 : B ≤ w5.heap.size := by have := lt_of_block HP5; have := hgrow5.size; rw [size_alloc] at this; omega
            obtain ⟨ao2, cap2, rfl⟩ := own_shape hown5
            clear hown5 hgrow5 hkeep HP5 HP4 HZ4 HG4 HB4 HLO4 HCV4 x0 x1 x2 x3 c0 c1 hba
            go_upto_region 28 with fail
            have HP9 := Lib.hid HPR.out.row
            have HZ9 := Lib.hid (HPR.out.keep (by omega) HZ5.out)
            have HG9 := Lib.hid (HPR.out.keep (by omega) HG5.out)
            have HB9 := Lib.hid (HPR.out.below HB5.out (by omega))
            have HLO9 := Lib.hid (HLO5.out.put HPR.out hgpl)
            have hs9 := HPR.out.size
            clear HPR fx cx HZ5 HG5 HB5 HLO5
            generalize w5.setCell ⟨gp, 0, none⟩ (.slice ao2 (l.length + 1) cap2) = W9 at *
            have e2 := (cell_in HG9.out k).trans HQQ.out
            go_wp2_with fail
            go_roundw
            case rel => exact ⟨l ++ [(x, .slice co cn ccap)], _, none, a + P.size + 1, k + 1, by go_num, rfl, by go_num, by omega, HN, HLO9, HB9, by omega, HP9, HZ9, HG9, by rw [List.length_append]; simp; omega, by omega⟩
            case measure => simp [Lib.intOf]; omega
        · have hnw : ∃ ws, ws = Ip.cutAll 32 [] p := ⟨_, rfl⟩
          have hgl3 : gl < w3.heap.size := lt_of_block HG3.out
          have hgl4 : gl ≠ w3.heap.size := by omega
          go_wp2_with fail
          refine (rcut_any P 32 _ (by omega)).mono ?_
          rintro e w4 ⟨v4, rfl, hO4, hb4⟩
          obtain ⟨ws, hws⟩ := hnw
          have hmem := Ip.cutAll_mem 32 p []
          have hne := Ip.cutAll_ne 32 p []
          have hlen := Ip.cutAll_len 32 p []
          rw [HPL.out] at hO4
          rw [← hws] at hO4 hmem hne hlen
          have hwl : ws.length ≤ 20001 := by omega
          have hwpos : 0 < ws.length := List.length_pos_iff.2 hne
          obtain ⟨gw, wc, cur4, ty4, fr4, rfl, hgo4, hcell4⟩ : ∃ g c cur ty fr, v4 = .slice (some ⟨g, 0, none⟩) ws.length c ∧ w4.heap[g]? = some (.cells cur ty fr) ∧ ∀ i (h : i < ws.length), cur[i]? = some (.string ⟨ws[i].toArray⟩) := by
            rcases hO4.2 with ⟨rfl, h0⟩ | ⟨g, cap, cur, rfl, _, hg, hc, _, _, ht⟩
            · omega
            · refine ⟨g, cap, cur, _, _, rfl, hg, fun i hi => ?_⟩
              rw [← Array.getElem?_toList]
              have hu : (strs ws)[i]? = some (.string ⟨ws[i].toArray⟩) := by simp [hi]
              rw [← ht, List.getElem?_take, if_pos (by omega)] at hu
              exact hu
          have b3 : Below w3.heap.size w3 (w3.alloc (rlB zeroRl (.slice none 0 0))) := ba _ (Below.refl _ _)
          have hb34 := below2 b3 hb4
          have HB4 := Lib.hid (below2 HB3.out hb34)
          have HP4 := Lib.hid (kb hb34 HP3.out)
          have HZ4 := Lib.hid (kb hb34 HZ3.out)
          have HG4 := Lib.hid (kb hb34 HG3.out)
          have HLO4 := Lib.hid (HLO3.out.below hb34)
          have hB4 : B ≤ w4.heap.size := Nat.le_trans hB3 hb34.size
          obtain ⟨A, hA⟩ : ∃ A, ws[ws.length - 1]? = some A := ⟨_, List.getElem?_eq_getElem (by omega)⟩
          have hA2 := hcell4 (ws.length - 1) (by omega)
          have hA3 : ws[ws.length - 1]'(by omega) = A := by rw [List.getElem?_eq_getElem (by omega)] at hA; exact Option.some.inj hA
          rw [hA3] at hA2
          have zA : A.length ≤ 20000 := by have := hmem A (by rw [← hA3]; exact List.getElem_mem _); simp at this; omega
          obtain ⟨D0, hD0⟩ : ∃ A, ws[0]? = some A := ⟨_, List.getElem?_eq_getElem hwpos⟩
          have hD2 := hcell4 0 hwpos
          have hD3 : ws[0]'hwpos = D0 := by rw [List.getElem?_eq_getElem hwpos] at hD0; exact Option.some.inj hD0
          rw [hD3] at hD2
          obtain ⟨SA, hSA⟩ : ∃ S : ByteArray, S = ⟨A.toArray⟩ := ⟨_, rfl⟩
          obtain ⟨SD, hSD⟩ : ∃ S : ByteArray, S = ⟨D0.toArray⟩ := ⟨_, rfl⟩
          rw [← hSA] at hA2
          rw [← hSD] at hD2
          have zSA : SA.size ≤ 4611686018427387904 := by rw [hSA]; show A.length ≤ _; omega
          have eA := (cell_in hgo4 (ws.length - 1)).trans hA2
          have HGW := Lib.hid hgo4
          have HD2 := Lib.hid hD2
          have hzlt4 : w.heap.size < w4.heap.size := lt_of_block HZ4.out
          have i0' : (0 : Int) ≤ (ws.length : Int) - 1 := by omega
          have i1 : (ws.length : Int) - 1 < (ws.length : Int) := by omega
          have i2 : ((ws.length : Int) - 1).toNat = ws.length - 1 := by omega
          have HXN := Lib.hid hx
          have HWS := Lib.hid hws
          have HSA := Lib.hid hSA
          have HSD := Lib.hid hSD
          have HA := Lib.hid hA
          have HD0 := Lib.hid hD0
          clear hcell4 hgo4 hO4 hmem hne hlen hA hA2 hA3 hD0 hD2 hD3 hSA hSD hws hx b3 hb34 hb4 HB3 HP3 HZ3 HG3 HLO3 e1 hzlt3 zA
          go_wp2_with fail
          refine (rreadaction_any SA _ zSA).mono ?_
          rintro e w7 ⟨⟨o3, ho3, rfl⟩, hb7⟩
          have HO3 := Lib.hid ho3
          have HB7 := Lib.hid (below2 HB4.out hb7)
          have HP7 := Lib.hid (kb hb7 HP4.out)
          have HZ7 := Lib.hid (kb hb7 HZ4.out)
          have HG7 := Lib.hid (kb hb7 HG4.out)
          have HLO7 := Lib.hid (HLO4.out.below hb7)
          have hB7 : B ≤ w7.heap.size := Nat.le_trans hB4 hb7.size
          have eD := (cell_in (kb hb7 HGW.out) 0).trans HD2.out
          clear ho3 hb7 HB4 HP4 HZ4 HG4 HLO4 eA i0' i1 i2 HGW HD2 hzlt4
          have hzlt7 : w.heap.size < w7.heap.size := lt_of_block HZ7.out
          have r0 := cell_in HZ7.out 0
          have r1 := cell_in HZ7.out 1
          have f0 := free_in HZ7.out 0
          have f1 := free_in HZ7.out 1
          have HNOD : Hid ((∀ v : Nat, v < 4294967296 → (actT v).isSome = true → p ≠ lineD v) → polT L = (zeroPo, a, 2)) := Lib.hid (fun h => by rw [HR2.out, rdP_stop (stepP_no HXN.out (readD_is_none h))])
          by_cases h2 : ws.length = 2
          case neg =>
            have HE : Hid (polT L = (zeroPo, a, 2)) := Lib.hid (HNOD.out fun v _ _ e => h2 (by rw [HWS.out, def_words e]; rfl))
            have h2b : ((ws.length : Int) != 2) = true := by simp; omega
            clear h2
            generalize o3.isSome = bs at *
            generalize o3.getD 0 = vs at *
            go_wp2_with fail
            (try simp only [Exit.inBlock, Exit.then])
            rw [HQ0.out]
            refine bodyPost_ret (v := .tuple #[.agg #[.slice none 0 0, .int .u32 0], .int .i64 a, .int .i64 2]) ?_ rfl ⟨?_, ?_⟩
            · rw [results_cell_tmp2 rfl]
              go_simp
            · exact ppEnd_bad HE.out
            · have hB := HB7.out
              go_grown
          have h2b : ((ws.length : Int) != 2) = false := by simp; omega
          have HWE : Hid (ws = [D0, A]) := Lib.hid (by
            have g0 := HD0.out
            have g1 := HA.out
            match ws, h2 with
            | [d, e], _ =>
              simp at g0 g1
              rw [g0, g1])
          clear h2
          cases hq : (SD.toList == ([100, 101, 102, 97, 117, 108, 116] : List UInt8))
          · have HE : Hid (polT L = (zeroPo, a, 2)) := Lib.hid (HNOD.out fun v _ _ e => by
              have h := HWE.out
              rw [HWS.out, def_words e] at h
              simp only [defW, List.cons.injEq] at h
              have hd : SD.toList = [100, 101, 102, 97, 117, 108, 116] := by rw [Go.ByteArray.toList_eq, HSD.out, ← h.1]; rfl
              rw [hd] at hq
              simp at hq)
            generalize o3.isSome = bs at *
            generalize o3.getD 0 = vs at *
            go_wp2_with fail
            (try simp only [Exit.inBlock, Exit.then])
            rw [HQ0.out]
            refine bodyPost_ret (v := .tuple #[.agg #[.slice none 0 0, .int .u32 0], .int .i64 a, .int .i64 2]) ?_ rfl ⟨?_, ?_⟩
            · rw [results_cell_tmp2 rfl]
              go_simp
            · exact ppEnd_bad HE.out
            · have hB := HB7.out
              go_grown
          · have hD0e : D0 = wDefault := by
              have h := beq_iff_eq.1 hq
              rw [Go.ByteArray.toList_eq, HSD.out] at h
              exact h
            cases o3 with
            | none =>
              have HE : Hid (polT L = (zeroPo, a, 2)) := Lib.hid (HNOD.out fun v hv hs e => by
                have h := HWE.out
                rw [HWS.out, def_words e] at h
                simp only [defW, List.cons.injEq] at h
                obtain ⟨t, ht⟩ := Option.isSome_iff_exists.1 hs
                refine (HO3.out : ∀ v : Nat, v < 4294967296 → actT v ≠ some SA) v hv ?_
                rw [HSA.out, ← h.2.1, ht]
                unfold actB
                rw [ht]
                rfl)
              clear hD0e
              go_wp2_with fail
              (try simp only [Exit.inBlock, Exit.then])
              rw [HQ0.out]
              refine bodyPost_ret (v := .tuple #[.agg #[.slice none 0 0, .int .u32 0], .int .i64 a, .int .i64 2]) ?_ rfl ⟨?_, ?_⟩
              · rw [results_cell_tmp2 rfl]
                go_simp
              · exact ppEnd_bad HE.out
              · have hB := HB7.out
                go_grown
            | some v =>
              have hv : v < 4294967296 ∧ actT v = some SA := HO3.out
              have hpd : p = lineD v := def_of (by rw [← HWS.out, HWE.out, hD0e]) (by rw [hv.2, HSA.out])
              have HN : Hid (polT L = rdP L.length (ls.drop (k + 1)) (l.map (·.1)) (some v) (a + P.size + 1)) := Lib.hid (by
                rw [HR2.out, rdP_go (stepP_def HXN.out (by rw [hpd]; exact readD_line hv.1 (by rw [hv.2]; rfl))), HMS.out, zP])
              have HPD := Lib.hid (put_dflt HP7.out v)
              have hs7 := HPD.out.size
              clear hD0e hv hpd r0 r1 f0 f1 HNOD HO3
              have fx := free_in HP7.out 1
              have cx := cell_in HP7.out 1
              go_upto_region 27 with fail
              have HP9 : Hid ((w7.setCell ⟨gp, 1, none⟩ (.int .u32 (v : Nat))).heap[gp]? = some (poB (.slice ao l.length cap) v)) := Lib.hid HPD.out.row
              have HZ9 := Lib.hid (HPD.out.keep (by omega) HZ7.out)
              have HG9 := Lib.hid (HPD.out.keep (by omega) HG7.out)
              have HB9 := Lib.hid (HPD.out.below HB7.out (by omega))
              have HLO9 := Lib.hid (HLO7.out.put HPD.out hgpl)
              clear HPD fx cx HP7 HZ7 HG7 HB7 HLO7 eD
              change Code.wp _ _ _ _ (w7.setCell ⟨gp, 1, none⟩ (.int .u32 (v : Nat)))
              generalize w7.setCell ⟨gp, 1, none⟩ (.int .u32 (v : Nat)) = W9 at *
              have e2 := (cell_in HG9.out k).trans HQQ.out
              go_wp2_with fail
              go_roundw
              case rel => exact ⟨l, _, some v, a + P.size + 1, k + 1, by go_num, rfl, by go_num, by omega, HN, HLO9, HB9, by omega, HP9, HZ9, HG9, by omega, by omega⟩
              case measure => simp [Lib.intOf]; omega
end Go.Proofs.YtdjjmcblhpjchaaGreatDoor
/-
  Package policy: a reader's words: take, more, wordsOf; strings.Join of any texts.
-/
namespace Go.Proofs.YtdjjmcblhpjchaaGreatDoor
open Go.ChangeShapes Go.WideShapes Go.ChangeAt Go.RowKit
set_option maxRecDepth 20000

/-- Below block B nothing else than block g has changed. -/
structure OwnAt (B : Nat) (w w' : World) (g : Nat) (o : Obj) : Prop where
  os : w'.os = w.os
  tape : w'.tape = w.tape
  output : w'.output = w.output
  size : w.heap.size ≤ w'.heap.size
  row : w'.heap[g]? = some o
  rest : ∀ k, k ≠ g → k < B → w'.heap[k]? = w.heap[k]?
section
variable {B g : Nat} {w w' w'' : World} {o o' : Obj}
theorem OwnAt.refl (h : w.heap[g]? = some o) : OwnAt B w w g o := ⟨rfl, rfl, rfl, Nat.le_refl _, h, fun _ _ _ => rfl⟩
theorem OwnAt.then {B' : Nat} (h : OwnAt B w w' g o) (hb : Below B' w' w'') (hB : B ≤ B') (hg : g < B') : OwnAt B w w'' g o :=
  ⟨hb.os.trans h.os, hb.tape.trans h.tape, hb.output.trans h.output, Nat.le_trans h.size hb.size, (hb.block g hg).trans h.row, fun k hk hkB => (hb.block k (by omega)).trans (h.rest k hk hkB)⟩
theorem OwnAt.next (h : OwnAt B w w' g o) (hb : Below w'.heap.size w' w'') (hB : B ≤ w.heap.size) : OwnAt B w w'' g o :=
  h.then hb (Nat.le_trans hB h.size) (lt_of_block h.row)
theorem OwnAt.put (h : OwnAt B w w' g o) (hp : RowPut w' w'' g o') : OwnAt B w w'' g o' :=
  ⟨hp.os.trans h.os, hp.tape.trans h.tape, hp.output.trans h.output, by rw [hp.size]; exact h.size, hp.row, fun k hk hkB => (hp.rest k hk).trans (h.rest k hk hkB)⟩
theorem OwnAt.trans {B' : Nat} (h : OwnAt B w w' g o) (h' : OwnAt B' w' w'' g o') (hB : B ≤ B') : OwnAt B w w'' g o' :=
  ⟨h'.os.trans h.os, h'.tape.trans h.tape, h'.output.trans h.output, Nat.le_trans h.size h'.size, h'.row, fun k hk hkB => (h'.rest k hk (by omega)).trans (h.rest k hk hkB)⟩
theorem OwnAt.below {a : World} {C : Nat} (h : OwnAt B w w' g o) (hb : Below C a w) (hC : C ≤ B) (hg : C ≤ g) : Below C a w' :=
  ⟨h.os.trans hb.os, h.tape.trans hb.tape, h.output.trans hb.output, Nat.le_trans hb.size h.size, fun k hk => (h.rest k (by omega) (by omega)).trans (hb.block k hk)⟩
theorem OwnAt.keep {k : Nat} {x : Obj} (h : OwnAt B w w' g o) (hk : k ≠ g) (hkB : k < B) (ho : w.heap[k]? = some x) : w'.heap[k]? = some x := (h.rest k hk hkB).trans ho
theorem OwnAt.own {base size n : Nat} {e : TypeId} {v : Value} {xs : List Value} (h : OwnAt B w w' g o) (hw : w.ownsRow base e size v n xs) (hg : g < base) (hB : w.heap.size ≤ B) : w'.ownsRow base e size v n xs := by
  obtain ⟨h1, h2⟩ := hw
  refine ⟨h1, h2.imp id ?_⟩
  rintro ⟨k, cap, cur, hv, hk, hh, r⟩
  exact ⟨k, cap, cur, hv, hk, h.keep (by omega) (Nat.lt_of_lt_of_le (lt_of_block hh) hB) hh, r⟩
theorem OwnAt.grown {base size n : Nat} {e : TypeId} {v : Value} {xs : List Value} (h : OwnAt B w w' g o) (hw : w'.ownsRow base e size v n xs) (hgr : w'.grownBy w'' v.ownBlock) (hB : B ≤ w'.heap.size) (hb : B ≤ base) (hg : g < base) : OwnAt B w w'' g o := by
  have hlt := hw.lt
  have hgs := lt_of_block h.row
  refine ⟨hgr.os.trans h.os, hgr.tape.trans h.tape, hgr.output.trans h.output, Nat.le_trans h.size hgr.size, (hgr.block g hgs (fun e => ?_)).trans h.row, fun k hk hkB => (hgr.block k (by omega) (fun e => ?_)).trans (h.rest k hk hkB)⟩
  · have := (hlt g e.symm).1
    omega
  · have := (hlt k e.symm).1
    omega
end
/-! ### strings.Join of the texts of a row of the call's own -/
theorem strJoin_own (base n : Nat) (v : Value) (xs : List (List UInt8)) (m : UInt8) (w : World) (hw : w.ownsRow base 9 1 v n (strs xs)) (hn : xs.length = n) (hN : n ≤ 140737488355328) (hlen : (Lib.join xs [m]).length ≤ 140737488355328) :
    Calls Tryz.prog 56 #[v, .string ⟨#[m]⟩] w fun e w' => e = .returned (.string (bsT (Lib.join xs [m]))) ∧ Below w.heap.size w w' := by
  subst hn
  rcases hw.2 with ⟨rfl, h0⟩ | ⟨g, cap, cur, rfl, _, hg, hc, _, _, ht⟩
  · obtain rfl := List.length_eq_zero_iff.1 h0
    go_enter Tryz.func56, Tryz.ntmps56
    go_wp2_with fail
    go_ret
    exact ⟨rfl, Below.refl _ _⟩
  · have hcell : ∀ i (h : i < xs.length), w.cell? ⟨g, i, none⟩ = some (.string ⟨xs[i].toArray⟩) := fun i hi => by
      rw [cell_in hg, ← Array.getElem?_toList]
      have hu : (strs xs)[i]? = some (.string ⟨xs[i].toArray⟩) := by simp [hi]
      rw [← ht, List.getElem?_take, if_pos (by omega)] at hu
      exact hu
    match xs, hcell, hN, hlen, hc with
    | [], _, _, _, _ =>
      go_enter Tryz.func56, Tryz.ntmps56
      go_wp2_with fail
      go_ret
      exact ⟨rfl, Below.refl _ _⟩
    | [x], hcell, _, _, _ =>
      have h0 : w.cell? ⟨g, 0, none⟩ = some (.string ⟨x.toArray⟩) := hcell 0 (by simp)
      have HE : Hid ((⟨x.toArray⟩ : ByteArray) = bsT (Lib.join [x] [m])) := Lib.hid (by rw [Lib.join_one])
      clear hcell
      generalize (⟨x.toArray⟩ : ByteArray) = X at *
      rw [← HE.out]
      go_enter Tryz.func56, Tryz.ntmps56
      go_wp2_with fail
      go_ret
      exact ⟨rfl, Below.refl _ _⟩
    | x :: y :: l, hcell, hN, hlen, hc =>
      refine strJoin_any g 0 cap (x :: y :: l) m w (fun j z hz => ?_) (lt_of_block hg) (by simp) hN hc hlen
      rw [Nat.zero_add]
      have hj := (List.getElem?_eq_some_iff.1 hz)
      obtain ⟨hj1, rfl⟩ := hj
      exact hcell j hj1
/-! ### A reader -/
abbrev rdB (l : List UInt8) : Obj := .cells #[.string (bsT l)] 104
theorem iter_below {w : World} {S : ByteArray} {pos : Nat} : Below w.heap.size w (w.iter S pos) := ba _ (Below.refl _ _)
theorem rest_head (p r : List UInt8) : (bsT (p ++ 32 :: r)).extract 0 p.length = bsT p ∧ (bsT (p ++ 32 :: r)).extract (p.length + 1) (bsT (p ++ 32 :: r)).size = bsT r := by
  constructor
  · rw [take_str]
    simp
  · rw [drop_str]
    show bsT ((p ++ 32 :: r).drop (p.length + 1)) = bsT r
    rw [← List.drop_drop, List.drop_left]
    rfl
theorem rest_at (p r : List UInt8) (hf : ∀ c ∈ p, c ≠ 32) (S : ByteArray) (hS : S = bsT (p ++ 32 :: r)) : S.size = p.length + 1 + r.length ∧ Utf8.decode S p.length = (32, 1) ∧ ∀ pos, pos < p.length → (Utf8.decode S pos).1 ≠ 32 ∧ 1 ≤ (Utf8.decode S pos).2 ∧ pos + (Utf8.decode S pos).2 ≤ p.length := by
  have hz : S.size = p.length + 1 + r.length := by
    rw [hS]
    show (p ++ 32 :: r).length = _
    simp
    omega
  have hb : ∀ (i : Nat) (h : i < S.size), S[i]'h = (p ++ 32 :: r)[i]'(by simp; omega) := by
    subst hS
    intro i h
    rfl
  have h32 : (S[p.length]'(by omega)).toNat = 32 := by
    rw [hb]
    simp
  refine ⟨hz, decode_32 S _ (by omega) h32, fun pos hp => ⟨?_, decode_pos S pos (by omega), decode_upto S pos p.length (by omega) hp h32⟩⟩
  refine decode_not S pos (by omega) fun e => ?_
  rw [hb, List.getElem_append_left hp] at e
  exact hf _ (List.getElem_mem hp) (UInt8.toNat_inj.1 e)
set_option maxHeartbeats 8000000 in
/-- The next words, as one text. -/
theorem take_any (g n : Nat) (ws : List (List UInt8)) (w : World) (hg : w.heap[g]? = some (rdB (restT ws))) (hf : freeW ws) (hz : (restT ws).length ≤ 100000) (hn : n ≤ 4) :
    Calls Tryz.prog 64 #[.pointer (some ⟨g, 0, none⟩), .int .i64 (n : Nat)] w fun e w' => e = .returned (.string (bsT (Ip.join (ws.take n)))) ∧ OwnAt w.heap.size w w' g (rdB (restT (ws.drop n))) := by
  obtain ⟨i0, hi, hz0, hz1, hz2⟩ := info_parts infoS
  have hglt := lt_of_block hg
  have HF := Lib.hid hf
  have HZ := Lib.hid hz
  have HO0 : Hid (w.ownsRow w.heap.size 9 1 (.slice none 0 0) 0 (strs (ws.take 0))) := Lib.hid (World.ownsRow_nil _ _ _ _)
  have HA0 : Hid (OwnAt w.heap.size w w g (rdB (restT (ws.drop 0)))) := Lib.hid (OwnAt.refl (by rw [List.drop_zero]; exact hg))
  have HJL : Hid (∀ j, (Lib.join (ws.take j) [32]).length ≤ 140737488355328) := Lib.hid fun j => by
    rw [join_lib]
    have := join_take_le ws j
    omega
  clear hf hg hz
  go_enter Tryz.func64, Tryz.ntmps64
  go_wp2_with fail
  go_step3
  go_wp2_with fail
  go_step3
  go_wp2_with fail
  go_loopg [5] (n + 1) (fun k v wr => ∃ j : Nat, j + k = n + 1 ∧ j ≤ n ∧ j ≤ ws.length ∧ Hid (wr.ownsRow w.heap.size 9 1 v j (strs (ws.take j))) ∧ Hid (OwnAt w.heap.size w wr g (rdB (restT (ws.drop j)))))
  case atStart => exact ⟨0, by omega, Nat.zero_le _, Nat.zero_le _, HO0, HA0⟩
  case round =>
    obtain ⟨j, hjk, hjn, hjl, HO, HA⟩ := hrel
    clear HO0 HA0
    have HJ : Hid (Calls Tryz.prog 56 #[u5, .string ⟨#[32]⟩] wr fun e w' => e = .returned (.string (bsT (Lib.join (ws.take j) [32]))) ∧ Below wr.heap.size wr w') :=
      Lib.hid (strJoin_own w.heap.size j u5 (ws.take j) 32 wr HO.out (by rw [List.length_take]; omega) (by omega) (HJL.out j))
    obtain ⟨ao, cap, rfl⟩ := own_shape HO.out
    have hws : w.heap.size ≤ wr.heap.size := HA.out.size
    by_cases hjlt : j < n
    case neg =>
      obtain rfl : j = n := by omega
      have hb : ¬ ((j : Int) < (j : Int)) := by omega
      go_wp2_with fail
      refine HJ.out.mono ?_
      rintro e w2 ⟨rfl, hb2⟩
      have HA2 := Lib.hid (HA.out.next hb2 (Nat.le_refl _))
      clear hb2
      go_wp2_with fail
      (try rw [Exit.noGoto_ret])
      go_ret
      exact ⟨by rw [join_lib]; rfl, HA2.out⟩
    have hlt : (j : Int) < (n : Int) := by omega
    cases hd : ws.drop j with
    | nil =>
      have hje : ws.length ≤ j := List.drop_eq_nil_iff.1 hd
      have HT : Hid (ws.take n = ws.take j) := Lib.hid (by rw [List.take_of_length_le hje, List.take_of_length_le (by omega)])
      have HD : Hid (ws.drop n = ws.drop j) := Lib.hid (by rw [List.drop_eq_nil_of_le hje, List.drop_eq_nil_of_le (by omega)])
      have c0 : wr.cell? ⟨g, 0, none⟩ = some (.string ⟨#[]⟩) := by
        rw [cell_in HA.out.row 0, hd]
        rfl
      clear hd hje
      go_wp2_with fail
      go_loopg [5] 0 (fun k v wv => v = .slice ao j cap ∧ wv = wr.iter ⟨#[]⟩ 0)
      case atStart => exact ⟨rfl, rfl⟩
      case round =>
        obtain ⟨rfl, rfl⟩ := hrel
        have hnx : ∀ ty, (Instr.next (.pointer (some ⟨wr.heap.size, 0, none⟩)) true ty).run Tryz.prog (wr.iter ⟨#[]⟩ 0) = _ := fun ty => run_next_end wr ⟨#[]⟩ 0 ty (by decide)
        have HJ2 : Hid (Calls Tryz.prog 56 #[.slice ao j cap, .string ⟨#[32]⟩] (wr.iter ⟨#[]⟩ 0) fun e w' => e = .returned (.string (bsT (Lib.join (ws.take j) [32]))) ∧ Below (wr.iter ⟨#[]⟩ 0).heap.size (wr.iter ⟨#[]⟩ 0) w') :=
          Lib.hid (strJoin_own w.heap.size j _ (ws.take j) 32 _ (own_below HO.out iter_below) (by rw [List.length_take]; omega) (by omega) (HJL.out j))
        have HA3 : Hid (OwnAt w.heap.size w (wr.iter ⟨#[]⟩ 0) g (rdB (restT (ws.drop j)))) := Lib.hid (HA.out.next iter_below (Nat.le_refl _))
        go_wp2_with fail
        refine HJ2.out.mono ?_
        rintro e w2 ⟨rfl, hb2⟩
        have HA2 := Lib.hid (HA3.out.next hb2 (Nat.le_refl _))
        clear hb2
        go_wp2_with fail
        (try rw [Exit.noGoto_ret])
        go_ret
        exact ⟨by rw [join_lib, HT.out]; rfl, by rw [HD.out]; exact HA2.out⟩
    | cons p l =>
      obtain ⟨htk, hdr⟩ := word_at hd
      have hpf : ∀ c ∈ p, c ≠ 32 := HF.out p (List.mem_of_mem_drop (i := j) (by rw [hd]; simp))
      have hlj : j < ws.length := by
        apply Nat.lt_of_not_le
        intro hle
        rw [List.drop_eq_nil_of_le hle] at hd
        cases hd
      obtain ⟨S, hSe⟩ : ∃ S : ByteArray, S = bsT (p ++ 32 :: restT l) := ⟨_, rfl⟩
      obtain ⟨hSz, hS1, hS2⟩ := rest_at p (restT l) hpf S hSe
      have c0 : wr.cell? ⟨g, 0, none⟩ = some (.string S) := by
        rw [cell_in HA.out.row 0, hd, restT_cons, hSe]
        rfl
      obtain ⟨he1, he2⟩ := rest_head p (restT l)
      rw [← hSe] at he1 he2
      have HN : Hid (∀ pos, pos < p.length → (Utf8.decode S pos).1 ≠ 32 ∧ 1 ≤ (Utf8.decode S pos).2 ∧ pos + (Utf8.decode S pos).2 ≤ p.length) := Lib.hid hS2
      have HP := Lib.hid hS1
      have HSE : Hid (bsT (restT (ws.drop j)) = S) := Lib.hid (by rw [hd, restT_cons, hSe])
      have HE1 := Lib.hid he1
      have HE2 := Lib.hid he2
      have HTK := Lib.hid htk
      have HDR := Lib.hid hdr
      have hzl : S.size ≤ 100001 := by
        have h1 := restT_drop_le ws j
        have h2 := HZ.out
        rw [hd, restT_cons, List.length_append, List.length_cons] at h1
        omega
      have hSz1 : p.length + 1 ≤ S.size := by omega
      clear hSe hS1 hS2 he1 he2 htk hdr hpf hd hSz
      go_wp2_with fail
      go_loopg [5] (p.length + 1) (fun k v wv => ∃ pos : Nat, pos ≤ p.length ∧ p.length + 1 ≤ k + pos ∧ v = .slice ao j cap ∧ wv = wr.iter S pos)
      case atStart => exact ⟨0, Nat.zero_le _, by omega, rfl, rfl⟩
      case round =>
        obtain ⟨pos, hp1, hp2, rfl, rfl⟩ := hrel
        by_cases hpl : pos < p.length
        · obtain ⟨hd1, hd2, hd3⟩ := HN.out pos hpl
          have hnx : ∀ ty, (Instr.next (.pointer (some ⟨wr.heap.size, 0, none⟩)) true ty).run Tryz.prog (wr.iter S pos) = _ := fun ty => run_next_any wr S pos ty (by omega)
          obtain ⟨D, hD⟩ : ∃ D, D = Utf8.decode S pos := ⟨_, rfl⟩
          rw [← hD] at hnx hd1 hd2 hd3
          obtain ⟨D1, D2⟩ := D
          simp only at hnx hd1 hd2 hd3
          have hne : ((D1 : Int) == 32) = false := by simp; omega
          clear hD
          go_wp2_with fail
          go_roundg (gk - 1)
          case measure => omega
          case rel => exact ⟨pos + D2, by omega, by omega, rfl, rfl⟩
        · obtain rfl : pos = p.length := by omega
          have hnx : ∀ ty, (Instr.next (.pointer (some ⟨wr.heap.size, 0, none⟩)) true ty).run Tryz.prog (wr.iter S p.length) = .ok (.tuple #[.bool true, .int .i64 p.length, .int .i32 32]) (wr.iter S (p.length + 1)) := fun ty => by
            rw [run_next_any wr S p.length ty (by omega), HP.out]
            rfl
          have hb1 : Below wr.heap.size wr (wr.iter S (p.length + 1)) := iter_below
          have HO1 := Lib.hid (own_below HO.out hb1)
          have HA1 := Lib.hid (HA.out.next hb1 (Nat.le_refl _))
          have c1 := (hb1.cell (p := ⟨g, _, none⟩) (lt_of_block HA.out.row)).trans c0
          have hs1 : w.heap.size ≤ (wr.iter S (p.length + 1)).heap.size := HA1.out.size
          have q1 : (p.length : Int) ≤ (S.size : Int) := by omega
          clear hb1
          go_upto_region 7 with fail
          obtain ⟨W1, hW1⟩ : ∃ V, V = wr.iter S (p.length + 1) := ⟨_, rfl⟩
          rw [← hW1] at HO1 HA1 c1 hs1 ⊢
          clear hW1 hnx
          go_wp2_with (at_builtin; refine wpList_append_own _ rfl _ _ 63 rfl w.heap.size 9 i0 (.string ⟨#[]⟩) 1 16 Tryz.underlying63 hi hz0 hz1 hz2 rfl (by decide) _ _ _ rfl (HO1.out.alloc _) ⟨W1.heap.size, 0, none⟩ 1 1 [.string (S.extract 0 p.length)] rfl rfl (new_at W1 #[.string (S.extract 0 p.length)] 9) (by simp [Value.oneCell']) (by unfold maxLen; omega) (by omega) (by rw [size_alloc]; omega) ?_)
          intro v2 w5 hown hgrow _
          have HA5 : Hid (OwnAt w.heap.size w w5 g (rdB (restT (ws.drop j)))) := Lib.hid ((HA1.out.next (ba _ (Below.refl _ _)) (Nat.le_refl _)).grown (HO1.out.alloc _) hgrow (by rw [size_alloc]; omega) (Nat.le_refl _) hglt)
          have HO5 : Hid (w5.ownsRow w.heap.size 9 1 v2 (j + 1) (strs (ws.take (j + 1)))) := Lib.hid (by
            rw [HTK.out]
            rw [HE1.out] at hown
            simpa using hown)
          have c5 : w5.cell? ⟨g, 0, none⟩ = some (.string S) := by
            rw [cell_in HA5.out.row 0, ← HSE.out]
            rfl
          have f5 := free_in HA5.out.row 0
          have HPUT : Hid (RowPut w5 (w5.setCell ⟨g, 0, none⟩ (.string (S.extract (p.length + 1) S.size))) g (rdB (restT (ws.drop (j + 1))))) := Lib.hid (by
            rw [HDR.out, HE2.out]
            exact rowPut_cell HA5.out.row 0 _)
          have q2 : (p.length : Int) + 1 ≤ (S.size : Int) := by omega
          obtain ⟨ao2, cap2, rfl⟩ := own_shape hown
          clear hown hgrow HO1 HA1 HO HA
          go_wp2_with fail
          have HO9 := Lib.hid (own_put HO5.out HPUT.out hglt)
          have HA9 := Lib.hid (HA5.out.put HPUT.out)
          go_roundg (n - j)
          case measure => omega
          case rel => exact ⟨j + 1, by omega, by omega, by omega, HO9, HA9⟩
end Go.Proofs.YtdjjmcblhpjchaaGreatDoor
/-
  The document's Print of a policy (package hurdleref10).
-/
namespace Go.Proofs.YtdjjmcblhpjchaaGreatDoor
open Go.ChangeShapes Go.WideShapes Go.ChangeAt Go.RowKit
set_option maxRecDepth 20000

/-- A policy's text. -/
def polB (p : Po) : ByteArray := ⟨(textP p).toArray⟩
/-- Its first rules' lines. -/
def linesJ (rs : List Rl) (j : Nat) : ByteArray := ⟨((rs.take j).flatMap (fun x => lineL x ++ [10])).toArray⟩
theorem linesJ_next (rs : List Rl) {j : Nat} (h : j < rs.length) : (linesJ rs j ++ lineT rs[j]) ++ ⟨#[10]⟩ = linesJ rs (j + 1) := by
  unfold linesJ lineT
  rw [mkT, mkT, List.take_succ_eq_append_getElem h, List.flatMap_append]
  simp
theorem linesJ_end (rs : List Rl) (d : Nat) {j : Nat} (h : rs.length ≤ j) : ((linesJ rs j ++ ⟨#[100, 101, 102, 97, 117, 108, 116, 32]⟩) ++ actS d) ++ ⟨#[10]⟩ = polB ⟨rs, d⟩ := by
  unfold linesJ polB
  rw [List.take_of_length_le h]
  apply ByteArray.ext
  apply Array.ext'
  simp [textP, lineD, defW, Ip.join, wDefault, bl, actB, actS, ByteArray.data_append]
theorem lineT_size {x : Rl} (hk : x.ok) (hr : x.right = true) : (lineT x).size ≤ 300 := by
  obtain ⟨h1, _, h3⟩ := right_conds hr
  rw [← lineJ_end x (Nat.le_refl _)]
  exact lineJ_size hk h3 h1 _
theorem linesJ_size {rs : List Rl} (hk : ∀ x ∈ rs, x.ok ∧ x.right = true) : ∀ j, (linesJ rs j).size ≤ 301 * j
  | 0 => by unfold linesJ; simp [ByteArray.size]
  | j + 1 => by
    by_cases h : j < rs.length
    · have h1 := linesJ_size hk j
      have h2 := lineT_size (hk _ (List.getElem_mem h)).1 (hk _ (List.getElem_mem h)).2
      have e := congrArg ByteArray.size (linesJ_next rs h)
      rw [ByteArray.size_append, ByteArray.size_append] at e
      have e1 : (⟨#[10]⟩ : ByteArray).size = 1 := rfl
      omega
    · have h1 := linesJ_size hk j
      have e : linesJ rs (j + 1) = linesJ rs j := by unfold linesJ; rw [List.take_of_length_le (by omega), List.take_of_length_le (by omega)]
      rw [e]
      omega
theorem linesJ_64 {rs : List Rl} (hk : ∀ x ∈ rs, x.ok ∧ x.right = true) (h : rs.length ≤ 64) (j : Nat) : (linesJ rs j).size ≤ 20000 := by
  by_cases hj : j ≤ 64
  · have := linesJ_size hk j
    omega
  · have e : linesJ rs j = linesJ rs 64 := by unfold linesJ; rw [List.take_of_length_le (by omega), List.take_of_length_le (by omega)]
    have := linesJ_size hk 64
    rw [e]
    omega
set_option maxHeartbeats 8000000 in
theorem rprint10_any (rv : Value) (p : Po) (w : World) (hL : LAt w rv p.rules) (hk : p.ok) (hr : p.right = true) :
    Calls Tryz.prog 10 #[poV rv p.dflt] w fun e w' => e = .returned (.string (polB p)) ∧ Below w.heap.size w w' := by
  obtain ⟨rs, d⟩ := p
  obtain ⟨h64, hda, hrr⟩ := po_right hr
  simp only at hL h64 hda hrr
  obtain ⟨hd, hok⟩ := hk
  simp only at hd hok
  obtain ⟨ao, cap, rfl, hrows⟩ := hL.rows
  have HROW := Lib.hid hrows
  have HX0 := Lib.hid (heap_alloc_new w (poB (.slice ao rs.length cap) d))
  have HB0 := Lib.hid (ba (poB (.slice ao rs.length cap) d) (Below.refl w.heap.size w))
  obtain ⟨W, hW⟩ : ∃ W, W = w.alloc (poB (.slice ao rs.length cap) d) := ⟨_, rfl⟩
  rw [← hW] at HX0 HB0
  have HRT : Hid (∀ x ∈ rs, x.ok ∧ x.right = true) := Lib.hid (fun x hx => ⟨hok x hx, hrr x hx⟩)
  have HZ := Lib.hid (linesJ_64 HRT.out h64)
  obtain ⟨L0, hL0⟩ : ∃ L, L = linesJ rs 0 := ⟨_, rfl⟩
  have hL0e : L0 = ⟨#[]⟩ := by rw [hL0]; rfl
  subst hL0e
  have HL0 : Hid ((⟨#[]⟩ : ByteArray) = linesJ rs 0) := Lib.hid hL0
  clear hrows hL hok hrr hda hr hL0
  go_enter Tryz.func10, Tryz.ntmps10
  go_upto_region 1 with fail
  change Code.wp _ _ _ _ (w.alloc (poB (.slice ao rs.length cap) d))
  rw [← hW]
  clear hW
  go_wp2_with fail
  go_loopw [3, 4] (fun s i wr => ∃ (j : Nat) (L : ByteArray), j ≤ rs.length ∧ i = .int .i64 j ∧ s = .string L ∧ Hid (L = linesJ rs j) ∧ Below w.heap.size w wr ∧ wr.heap[w.heap.size]? = some (poB (.slice ao rs.length cap) d)) (fun _ i _ => rs.length - (Lib.intOf i).toNat)
  case atStart => exact ⟨0, _, Nat.zero_le _, rfl, rfl, HL0, HB0.out, HX0.out⟩
  case round =>
    obtain ⟨j, L, hj, rfl, rfl, HL, hbw, hxx⟩ := hrel
    have HB := Lib.hid hbw
    have HX := Lib.hid hxx
    clear hbw hxx HB0 HX0 HL0
    obtain ⟨c0, c1⟩ := pbox HX.out
    have zL : L.size ≤ 20000 := by rw [HL.out]; exact HZ.out j
    by_cases hjl : j < rs.length
    · obtain ⟨b, off, cv, rfl, hb', hcv, d0, d1, d2, d3⟩ := HROW.out j hjl
      obtain ⟨x, hx⟩ : ∃ x, x = rs[j] := ⟨_, rfl⟩
      rw [← hx] at hcv d0 d1 d3
      obtain ⟨hxk, hxr⟩ : x.ok ∧ x.right = true := by rw [hx]; exact HRT.out _ (List.getElem_mem hjl)
      obtain ⟨x4, _, xr⟩ := right_conds hxr
      have zT := lineT_size hxk hxr
      have HLN : Hid (∀ V, Below wr.heap.size wr V → Calls Tryz.prog 22 #[x.val cv] V fun e w' => e = .returned (.string (lineT x)) ∧ Below V.heap.size V w') := Lib.hid (fun V hV => rline10_any x cv V (hcv.below (below2 HB.out hV)) hxk xr x4)
      have e0 := (HB.out.cell (p := ⟨b, _, none⟩) hb').trans d0
      have e1 := (HB.out.cell (p := ⟨b, _, none⟩) hb').trans d1
      have e2 := (HB.out.cell (p := ⟨b, _, none⟩) hb').trans d2
      have e3 := (HB.out.cell (p := ⟨b, _, none⟩) hb').trans d3
      obtain ⟨co, ccap, rfl⟩ := hcv.shape
      have HXJ := Lib.hid hx
      have l0 : (j : Int) < (rs.length : Int) := by omega
      have l1 : (0 : Int) ≤ (j : Int) := by omega
      have l2 : (j : Int).toNat = j := by omega
      clear hx d0 d1 d2 d3 hcv xr x4 hxk hxr
      obtain ⟨T, hT⟩ : ∃ T, T = lineT x := ⟨_, rfl⟩
      rw [← hT] at zT HLN
      have HN : Hid ((L ++ T) ++ ⟨#[10]⟩ = linesJ rs (j + 1)) := Lib.hid (by rw [HL.out, hT, HXJ.out]; exact linesJ_next rs hjl)
      have n1 : ¬ 9223372036854775807 < L.size + T.size := by omega
      have n2 : ¬ 9223372036854775807 < L.size + T.size + 1 := by omega
      clear hT
      go_wp2_with fail
      refine (HLN.out _ (Below.refl _ _)).mono ?_
      rintro e w5 ⟨rfl, hb5⟩
      have HB5 := Lib.hid (below2 HB.out hb5)
      have HX5 := Lib.hid (kb hb5 HX.out)
      clear hb5 e0 e1 e2 e3 c0 c1 HLN
      go_wp2_with fail
      go_roundw
      case rel => exact ⟨j + 1, _, by omega, by go_num, rfl, HN, HB5.out, HX5.out⟩
      case measure => simp [Lib.intOf]; omega
    · have hze : (actS d).size ≤ 24 := actS_size hd
      have HE : Hid (((L ++ ⟨#[100, 101, 102, 97, 117, 108, 116, 32]⟩) ++ actS d) ++ ⟨#[10]⟩ = polB ⟨rs, d⟩) := Lib.hid (by rw [HL.out]; exact linesJ_end rs d (by omega))
      have HCA : Hid (∀ V, Calls Tryz.prog 18 #[.int .u32 (d : Nat)] V fun e w' => e = .returned (.string (actS d)) ∧ Below V.heap.size V w') := Lib.hid (fun V => raction_any d V hd)
      generalize actS d = A at *
      have n1 : ¬ 9223372036854775807 < L.size + 8 := by omega
      have n2 : ¬ 9223372036854775807 < L.size + 8 + A.size := by omega
      have n3 : ¬ 9223372036854775807 < L.size + 8 + A.size + 1 := by omega
      go_wp2_with fail
      refine (HCA.out _).mono ?_
      rintro e w5 ⟨rfl, hb5⟩
      have HB5 := Lib.hid (below2 HB.out hb5)
      clear hb5 c0 c1
      go_wp2_with fail
      go_ret
      exact ⟨by rw [← HE.out]; rfl, HB5.out⟩
end Go.Proofs.YtdjjmcblhpjchaaGreatDoor
