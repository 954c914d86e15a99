/-
  What the laws' texts use, joined.
-/
import Derived.Test.YtbekkdhlfkongaaGreatDoorProg
import Derived.WalkKit
import Derived.ProofKit
import Derived.Lib.Hide
import Derived.Laws.Rows
import Derived.Laws.ResultCell
import Derived.Laws.Entries
import Derived.Handy
import Derived.OwnWalk
import Derived.Laws.OwnMore
import Derived.Deep.Draws
import Derived.Laws.IdiomStrings
import Derived.Lib.BufferRead
import Derived.Maps.OwnSet
import Derived.Laws.BitsAllLaws
import Derived.RowKit
import Derived.Lib.QuietBelow
import Derived.Lib.OthersKept
import Derived.BigQuiet
import Derived.IntWalk
import Derived.Deep.RegionHeld3
import Derived.BigRegion
import Derived.Laws.Tables
import Derived.Deep.DeepCutAuto
import Derived.Deep.QuietTactic
import Derived.Test.YtbekkdhlfkongaaGreatDoorRows
import Derived.OpenShut
import Derived.Carry
import Derived.Deep.DeepHandedRow
import Derived.Lib.SmallJoins
import Derived.WalkMore
import Derived.Shelf.Strings.Builder1
import Derived.Shelf.Strings.Search1
import Derived.Lib.IndexLaws
import Derived.Lib.AppendZerosOnto
import Derived.Lib.SliceRun
import Derived.Deep.RegionWith
import Derived.Deep.Cut
import Derived.Deep.Slices
import Derived.RangeFuncNested
import Derived.RangeFuncBound
import Derived.RangeFuncCalls
import Derived.RangeFuncLeaves
import Derived.Shelf.Abstract
import Derived.Shelf.RegionOpen
import Derived.OwnWalkIn
import Derived.TacticsInMore
import Derived.LoopNIn
import Derived.LoopIn
import Derived.Sort.MapsRangeIn
import Derived.Sort.KeysCollected
import Derived.Maps.AppendAt
import Derived.RangeFuncBox
import Derived.RangeFuncFrom
import Derived.RangeFuncSeq
import Derived.Sort.WalkA
import Derived.CellFam
import Derived.Sort.WalkC
import Derived.Sort.LotC
import Derived.Deep.CutBlock
import Derived.Deep.LoopGhost
import Derived.Test.YtbekkdhlfkongaaGreatDoorPk1
import Derived.Test.YtbekkdhlfkongaaGreatDoorPk2
import Derived.Test.YtbekkdhlfkongaaGreatDoorPk3
import Derived.Test.YtbekkdhlfkongaaGreatDoorPk4
import Derived.Test.YtbekkdhlfkongaaGreatDoorPk5
import Derived.Test.YtbekkdhlfkongaaGreatDoorPk6
/-
  What a lowering puts, plainly: rule by rule, call by call, machine by machine; and what it does.
-/
namespace Go.Proofs.YtbekkdhlfkongaaGreatDoor
open Go.RowKit
set_option maxRecDepth 20000

def putLS (S : LS) (r : DS × Int) : LS × Int := (⟨r.1, S.E, S.n⟩, r.2)
def condLs (fails : Int) : List Cd → LS × Int → LS × Int
  | [], r => r
  | c :: cs, r => putLS (condLs fails cs r).1 (testS (condLs fails cs r).1.s c (condLs fails cs r).2 fails)
def emitR (df : Nat) : List Rl → LS → LS × Int
  | [], S => endL S df
  | x :: rs, S => if x.conds.length = 0 then endL S x.act else condLs (emitR df rs S).2 x.conds (endL (emitR df rs S).1 x.act)
def emitC (df : Nat) : List (Nat × List Rl) → LS → LS × Int
  | [], S => endL S df
  | g :: gs, S => putLS (emitR df g.2 (emitC df gs S).1).1 (branchS (emitR df g.2 (emitC df gs S).1).1.s 21 (g.1 : Nat) (emitR df g.2 (emitC df gs S).1).2 (emitC df gs S).2)
/-- The numbers of rules, in their order, each once. -/
def keysOf (l : List Nat) : List Nat := l.eraseDups.mergeSort (fun a b => decide (a ≤ b))
def groupsOf (key : Rl → Nat) (rs : List Rl) : List (Nat × List Rl) := (keysOf (rs.map key)).map (fun n => (n, rs.filter (fun x => key x == n)))
def ownS (S : LS × Int) : LS × Int := putLS S.1 (aheadS S.1.s (ldX 0) S.2)
def emitM (df : Nat) : List (Nat × List Rl) → LS → LS × Int
  | [], S => endL S df
  | g :: gs, S => putLS (ownS (emitC df (groupsOf Rl.nr g.2) (emitM df gs S).1)).1 (branchS (ownS (emitC df (groupsOf Rl.nr g.2) (emitM df gs S).1)).1.s 21 (g.1 : Nat) (ownS (emitC df (groupsOf Rl.nr g.2) (emitM df gs S).1)).2 (emitM df gs S).2)
def startL : LS := ⟨⟨[], 0⟩, fun _ => none, 0⟩
def wholeL (q : Po) : LS × Int := emitM q.dflt (groupsOf Rl.arch q.rules) startL
def lastS (q : Po) : DS := if 0 < q.rules.length then (aheadS (wholeL q).1.s (ldX 4) (wholeL q).2).1 else (wholeL q).1.s
noncomputable def lowerN (q : Po) : List X4 := (resultN (lastS q) []).1

/-! ### Lowerings without errors -/
structure GoodL (S : LS) : Prop where
  good : Good S.s
  ends : ∀ a l, S.E a = some l → isLab S.s.c l = true ∧ S.s.c.getD ((S.s.c.length : Int) - l).toNat zeroX = retX a
  n : S.n ≤ S.s.c.length
def ReadyL (S : LS) : Prop := GoodL S ∨ S = startL
theorem zgetD_behind (p c : List X4) {l : Int} (hl : isLab c l = true) : (p ++ c).getD (((p ++ c).length : Int) - l).toNat zeroX = c.getD ((c.length : Int) - l).toNat zeroX := by
  have h := isLab_iff.1 hl
  have e : (((p ++ c).length : Int) - l).toNat = p.length + ((c.length : Int) - l).toNat := by rw [List.length_append]; omega
  rw [e, List.getD_eq_getElem?_getD, List.getD_eq_getElem?_getD, List.getElem?_append_right (by omega), Nat.add_sub_cancel_left]
theorem GoodL.grow {S : LS} (h : GoodL S) {s' : DS} (hg : Good s') {p : List X4} (hp : s'.c = p ++ S.s.c) : GoodL ⟨s', S.E, S.n⟩ := by
  refine ⟨hg, fun a l hl => ?_, ?_⟩
  · obtain ⟨h1, h2⟩ := h.ends a l hl
    show isLab s'.c l = true ∧ s'.c.getD _ _ = _
    rw [hp]
    exact ⟨lab_more h1 (by rw [List.length_append]; omega), by rw [zgetD_behind p _ h1]; exact h2⟩
  · show S.n ≤ s'.c.length
    have := h.n
    rw [hp, List.length_append]
    omega
/-- What was put: at most so many instructions, and a label that is one. -/
structure Goes (S : LS) (r : LS × Int) (n : Nat) : Prop where
  good : GoodL r.1
  more : ∃ p : List X4, r.1.s.c = p ++ S.s.c ∧ p.length ≤ n
  lab : isLab r.1.s.c r.2 = true
theorem Goes.len {S : LS} {r : LS × Int} {n : Nat} (h : Goes S r n) : S.s.c.length ≤ r.1.s.c.length ∧ r.1.s.c.length ≤ S.s.c.length + n := by
  obtain ⟨p, hp, hn⟩ := h.more
  rw [hp, List.length_append]
  omega
theorem Goes.trans {S : LS} {r q : LS × Int} {m n : Nat} (h : Goes S r m) (k : Goes r.1 q n) : Goes S q (m + n) := by
  obtain ⟨p, hp, hm⟩ := h.more
  obtain ⟨p', hp', hn⟩ := k.more
  exact ⟨k.good, ⟨p' ++ p, by rw [hp', hp, List.append_assoc], by rw [List.length_append]; omega⟩, k.lab⟩
theorem Goes.old {S : LS} {r : LS × Int} {n : Nat} (h : Goes S r n) {l : Int} (hl : isLab S.s.c l = true) : isLab r.1.s.c l = true := lab_more hl h.len.1
theorem Goes.run {S : LS} {r : LS × Int} {n : Nat} (h : Goes S r n) (hs : Good S.s) (d : Rec) (st : St) {l : Int} (hl : isLab S.s.c l = true) : labR r.1.s.c d st l = labR S.s.c d st l := by
  obtain ⟨p, hp, _⟩ := h.more
  rw [hp]
  exact labR_app hs.2.1 hs.2.2 p d st hl
/-- A draft's step, as a lowering's. -/
theorem front_goes {S : LS} (h : GoodL S) {r : DS × Int} {n : Nat} (hf : Front S.s r n) : Goes S (putLS S r) n := by
  obtain ⟨p, hp, hn⟩ := hf.2.1
  exact ⟨h.grow hf.1 hp, ⟨p, hp, hn⟩, hf.lab⟩
theorem one_sound (a : Nat) : SoundL [retX a] := by
  refine ⟨Nat.zero_lt_one, by show 1 ≤ 4096; omega, fun i hi => ?_, rfl⟩
  obtain rfl : i = 0 := by simpa using hi
  exact ret_one a _
theorem ret_ok {a : Nat} (h : a < 4294967296) : (retX a).ok := ⟨by show (0 : Int) ≤ (a : Nat); omega, by show ((a : Nat) : Int) ≤ 4294967295; omega⟩
theorem ret_run {c : List X4} (a : Nat) (d : Rec) (st : St) {l : Int} (hl : isLab c l = true) (hx : c.getD ((c.length : Int) - l).toNat zeroX = retX a) : labR c d st l = a := by
  rw [labR_end d st hl (by rw [hx]; rfl), hx]
  rfl
theorem new_goes {S : LS} (h : ReadyL S) (hl : S.s.c.length ≤ 3990) {a : Nat} (ha : a < 4294967296) : Goes S (newL S a) 1 := by
  rcases h with h | rfl
  · obtain ⟨h1, h2, h3⟩ := add_good h.good (by omega) (retX a) (ret_ok ha) (plain_one (.inr (.inr rfl)) _) (ret_one a _)
    have hlab : isLab (retX a :: S.s.c) ((S.s.c.length : Int) + 1) = true := by rw [isLab_iff, List.length_cons]; omega
    refine ⟨⟨h1.1, fun b l hb => ?_, ?_⟩, ⟨[retX a], h2, Nat.le_refl _⟩, h1.lab⟩
    · show isLab (addS S.s (retX a)).1.c l = true ∧ (addS S.s (retX a)).1.c.getD (((addS S.s (retX a)).1.c.length : Int) - l).toNat zeroX = _
      rw [h2]
      have hb : putE S.E a (addS S.s (retX a)).2 b = some l := hb
      rw [h3] at hb
      unfold putE at hb
      split at hb
      · rename_i hba
        cases hb
        refine ⟨hlab, ?_⟩
        rw [show (((retX a :: S.s.c).length : Int) - ((S.s.c.length : Int) + 1)).toNat = 0 by rw [List.length_cons]; omega, hba]
        rfl
      · obtain ⟨k1, k2⟩ := h.ends b l hb
        exact ⟨lab_more k1 (by rw [List.length_cons]; omega), by rw [show retX a :: S.s.c = [retX a] ++ S.s.c from rfl, zgetD_behind _ _ k1]; exact k2⟩
    · show S.n + 1 ≤ (addS S.s (retX a)).1.c.length
      have := h.n
      rw [h2, List.length_cons]
      omega
  · have e : newL startL a = (⟨⟨[retX a], 0⟩, putE (fun _ => none) a 1, 1⟩, 1) := by
      have e1 : addN [] (retX a) = ([retX a], 1, 0) := by
        unfold addN
        rw [if_pos (show plainX (retX a) = true from plain_one (.inr (.inr rfl)) _)]
        rfl
      unfold newL addS startL
      simp only [e1]
      rfl
    rw [e]
    refine ⟨⟨⟨rfl, one_sound a, fun x hx => by rw [List.mem_singleton.1 hx]; exact ret_ok ha⟩, fun b l hb => ?_, Nat.le_refl _⟩, ⟨[retX a], rfl, Nat.le_refl _⟩, rfl⟩
    have hb : putE (fun _ => none) a 1 b = some l := hb
    unfold putE at hb
    split at hb
    · rename_i hba
      cases hb
      exact ⟨rfl, by rw [hba]; rfl⟩
    · cases hb
theorem end_goes {S : LS} (h : ReadyL S) (hl : S.s.c.length ≤ 3990) {a : Nat} (ha : a < 4294967296) : Goes S (endL S a) 1 ∧ ∀ d st, labR (endL S a).1.s.c d st (endL S a).2 = a := by
  have hn := new_goes h hl ha
  have hnew : ∀ d st, labR (newL S a).1.s.c d st (newL S a).2 = a := fun d st => by
    have hE : (newL S a).1.E a = some (newL S a).2 := by unfold newL putE; simp
    obtain ⟨k1, k2⟩ := hn.good.ends a _ hE
    exact ret_run a d st k1 k2
  unfold endL
  split
  · exact ⟨hn, hnew⟩
  · rename_i l he
    split
    · exact ⟨hn, hnew⟩
    · rcases h with h | rfl
      · obtain ⟨k1, k2⟩ := h.ends a l he
        exact ⟨⟨h, ⟨[], rfl, by simp⟩, k1⟩, fun d st => ret_run a d st k1 k2⟩
      · cases he
theorem ends_bound {S : LS} (h : ReadyL S) (hl : S.s.c.length ≤ 3990) (a : Nat) : ∀ l, S.E a = some l → 0 ≤ l ∧ l ≤ 100000 := by
  intro l he
  rcases h with h | rfl
  · have := isLab_iff.1 (h.ends a l he).1
    omega
  · cases he
theorem ready_n {S : LS} (h : ReadyL S) (hl : S.s.c.length ≤ 3990) : S.n ≤ 100000 := by
  rcases h with h | rfl
  · have := h.n
    omega
  · show 0 ≤ 100000
    omega

/-! ### Conditions, rules, calls, machines -/
theorem conds_goes {S : LS} (h : GoodL S) {fails holds : Int} (hf : isLab S.s.c fails = true) (hh : isLab S.s.c holds = true) : ∀ (cs : List Cd), (∀ c ∈ cs, c.right = true ∧ c.ok) → S.s.c.length + 12 * cs.length ≤ 3860 →
    Goes S (condLs fails cs (S, holds)) (12 * cs.length) ∧ ∀ d st, d.ok → ∃ st' : St, labR (condLs fails cs (S, holds)).1.s.c d st (condLs fails cs (S, holds)).2 = labR S.s.c d st' (if cs.all (·.holds d) then holds else fails)
  | [], _, _ => ⟨⟨h, ⟨[], rfl, by simp⟩, hh⟩, fun d st _ => ⟨st, rfl⟩⟩
  | c :: cs, hc, hl => by
    rw [List.length_cons] at hl
    obtain ⟨i1, i2⟩ := conds_goes h hf hh cs (fun x hx => hc x (List.mem_cons_of_mem _ hx)) (by omega)
    obtain ⟨hcr, hco⟩ := hc c List.mem_cons_self
    have il := i1.len
    obtain ⟨t1, t2⟩ := test_good i1.good.good (by omega) hcr hco i1.lab (i1.old hf)
    have g := front_goes i1.good t1
    refine ⟨?_, fun d st hd => ?_⟩
    · rw [List.length_cons, Nat.mul_add]
      exact i1.trans g
    · obtain ⟨a, ha⟩ := t2 d st hd
      show ∃ st' : St, labR (testS _ c _ fails).1.c d st (testS _ c _ fails).2 = _
      rw [ha, List.all_cons]
      cases hcd : c.holds d
      · exact ⟨_, by simp only [Bool.false_eq_true, if_false, Bool.false_and]; exact i1.run h.good d _ hf⟩
      · simp only [if_true, Bool.true_and]
        exact i2 d _ hd
def RulesOk (rs : List Rl) : Prop := ∀ x ∈ rs, x.ok ∧ ∀ c ∈ x.conds, c.right = true
def costR : List Rl → Nat
  | [] => 1
  | x :: rs => costR rs + (1 + 12 * x.conds.length)
def costC : List (Nat × List Rl) → Nat
  | [] => 1
  | g :: gs => costC gs + costR g.2 + 3
def costM : List (Nat × List Rl) → Nat
  | [] => 1
  | g :: gs => costM gs + costC (groupsOf Rl.nr g.2) + 2 + 3
/-- What rules say by their conditions alone. -/
def judgeC : List Rl → Nat → Rec → Nat
  | [], df, _ => df
  | x :: rs, df, d => if x.conds.all (·.holds d) then x.act else judgeC rs df d
def callV : List (Nat × List Rl) → Nat → Rec → Nat
  | [], df, _ => df
  | g :: gs, df, d => if d.nr = g.1 then judgeC g.2 df d else callV gs df d
def machV : List (Nat × List Rl) → Nat → Rec → Nat
  | [], df, _ => df
  | g :: gs, df, d => if d.arch = g.1 then callV (groupsOf Rl.nr g.2) df d else machV gs df d
theorem costR_pos (rs : List Rl) : 1 ≤ costR rs := by
  induction rs with
  | nil => exact Nat.le_refl _
  | cons x rs ih => unfold costR; omega
theorem Goes.mono {S : LS} {r : LS × Int} {m n : Nat} (h : Goes S r m) (hn : m ≤ n) : Goes S r n := by
  obtain ⟨p, hp, hm⟩ := h.more
  exact ⟨h.good, ⟨p, hp, by omega⟩, h.lab⟩
theorem emitR_goes {df : Nat} (hdf : df < 4294967296) : ∀ (rs : List Rl) (S : LS), ReadyL S → RulesOk rs → S.s.c.length + costR rs ≤ 3850 →
    Goes S (emitR df rs S) (costR rs) ∧ ∀ d st, d.ok → labR (emitR df rs S).1.s.c d st (emitR df rs S).2 = judgeC rs df d
  | [], S, h, _, hl => by
    unfold costR at hl
    obtain ⟨h1, h2⟩ := end_goes h (by omega) hdf
    exact ⟨h1, fun d st _ => h2 d st⟩
  | x :: rs, S, h, hr, hl => by
    unfold costR at hl
    obtain ⟨hxo, hxr⟩ := hr x List.mem_cons_self
    have hc1 := costR_pos rs
    unfold emitR
    by_cases h0 : x.conds.length = 0
    · rw [if_pos h0]
      obtain ⟨h1, h2⟩ := end_goes h (by omega) (a := x.act) hxo.2.2.1
      refine ⟨h1.mono (by unfold costR; omega), fun d st _ => ?_⟩
      rw [h2]
      unfold judgeC
      rw [List.eq_nil_of_length_eq_zero h0]
      rfl
    · rw [if_neg h0]
      obtain ⟨i1, i2⟩ := emitR_goes hdf rs S h (fun y hy => hr y (List.mem_cons_of_mem _ hy)) (by omega)
      have il := i1.len
      obtain ⟨e1, e2⟩ := end_goes (.inl i1.good) (by omega) (a := x.act) hxo.2.2.1
      have el := e1.len
      obtain ⟨c1, c2⟩ := conds_goes e1.good (fails := (emitR df rs S).2) (holds := (endL (emitR df rs S).1 x.act).2) (e1.old i1.lab) e1.lab x.conds (fun c hc => ⟨hxr c hc, hxo.2.2.2 c hc⟩) (by omega)
      refine ⟨by unfold costR; exact (i1.trans (e1.trans c1)), fun d st hd => ?_⟩
      obtain ⟨st', hst⟩ := c2 d st hd
      have hst : labR (condLs (emitR df rs S).2 x.conds (endL (emitR df rs S).1 x.act)).1.s.c d st (condLs (emitR df rs S).2 x.conds (endL (emitR df rs S).1 x.act)).2 = _ := hst
      rw [hst]
      unfold judgeC
      split
      · exact e2 d st'
      · rw [e1.run i1.good.good d st' i1.lab]
        exact i2 d st' hd
theorem branch_goes {S : LS} (h : GoodL S) (hl : S.s.c.length ≤ 3900) {k : Nat} (hk : k < 4294967296) {t f : Int} (ht : isLab S.s.c t = true) (hf : isLab S.s.c f = true) :
    Goes S (putLS S (branchS S.s 21 (k : Nat) t f)) 3 ∧ ∀ d st, labR (putLS S (branchS S.s 21 (k : Nat) t f)).1.s.c d st (putLS S (branchS S.s 21 (k : Nat) t f)).2 = labR S.s.c d st (if st.a = k then t else f) := by
  obtain ⟨b1, _, b2⟩ := branch_good h.good hl (op := 21) (k := (k : Nat)) (.inl rfl) (by omega) (by omega) ht hf
  refine ⟨front_goes h b1, fun d st => ?_⟩
  show labR (branchS S.s 21 (k : Nat) t f).1.c d st (branchS S.s 21 (k : Nat) t f).2 = _
  rw [b2, takes_eq]
  congr 1
  by_cases e : st.a = k <;> simp [e]
theorem emitC_goes {df : Nat} (hdf : df < 4294967296) : ∀ (gs : List (Nat × List Rl)) (S : LS), ReadyL S → (∀ g ∈ gs, g.1 < 4294967296 ∧ RulesOk g.2) → S.s.c.length + costC gs ≤ 3850 →
    Goes S (emitC df gs S) (costC gs) ∧ ∀ d st, d.ok → st.a = d.nr → labR (emitC df gs S).1.s.c d st (emitC df gs S).2 = callV gs df d
  | [], S, h, _, hl => by
    unfold costC at hl
    obtain ⟨h1, h2⟩ := end_goes h (by omega) hdf
    exact ⟨h1, fun d st _ _ => h2 d st⟩
  | g :: gs, S, h, hg, hl => by
    unfold costC at hl
    obtain ⟨hk, hr⟩ := hg g List.mem_cons_self
    obtain ⟨i1, i2⟩ := emitC_goes hdf gs S h (fun y hy => hg y (List.mem_cons_of_mem _ hy)) (by omega)
    have il := i1.len
    obtain ⟨e1, e2⟩ := emitR_goes hdf g.2 _ (.inl i1.good) hr (by omega)
    have el := e1.len
    obtain ⟨b1, b2⟩ := branch_goes e1.good (by omega) hk e1.lab (e1.old i1.lab)
    refine ⟨by unfold costC; exact ((i1.trans e1).trans b1), fun d st hd ha => ?_⟩
    unfold emitC
    rw [b2, ha]
    unfold callV
    split
    · exact e2 d st hd
    · rw [e1.run i1.good.good d st i1.lab]
      exact i2 d st hd ha
theorem own_goes {S : LS} {l : Int} (h : GoodL S) (hl : S.s.c.length ≤ 3900) (hlab : isLab S.s.c l = true) (k : Nat) (h4 : k % 4 = 0) (h60 : k ≤ 60) :
    Goes S (putLS S (aheadS S.s (ldX k) l)) 2 ∧ ∀ d st, labR (aheadS S.s (ldX k) l).1.c d st (aheadS S.s (ldX k) l).2 = labR S.s.c d ⟨wordAtD d k, st.x, st.m⟩ l := by
  obtain ⟨h1, _, h2⟩ := load_good h.good hl h4 h60 hlab
  exact ⟨front_goes h h1, h2⟩
theorem mem_keysOf {l : List Nat} {n : Nat} : n ∈ keysOf l ↔ n ∈ l := by
  unfold keysOf
  rw [List.mem_mergeSort, List.mem_eraseDups]
theorem groups_mem {key : Rl → Nat} {rs : List Rl} {g : Nat × List Rl} (h : g ∈ groupsOf key rs) : (∃ x ∈ rs, key x = g.1) ∧ g.2 = rs.filter (fun x => key x == g.1) := by
  unfold groupsOf at h
  obtain ⟨n, hn, rfl⟩ := List.mem_map.1 h
  rw [mem_keysOf, List.mem_map] at hn
  exact ⟨hn, rfl⟩
theorem rulesOk_filter {rs : List Rl} (h : RulesOk rs) (P : Rl → Bool) : RulesOk (rs.filter P) := fun x hx => h x (List.mem_filter.1 hx).1
theorem groups_ok {key : Rl → Nat} {rs : List Rl} (h : RulesOk rs) (hk : ∀ x : Rl, x.ok → key x < 4294967296) : ∀ g ∈ groupsOf key rs, g.1 < 4294967296 ∧ RulesOk g.2 := by
  intro g hg
  obtain ⟨⟨x, hx, he⟩, h2⟩ := groups_mem hg
  rw [h2]
  exact ⟨he ▸ hk x (h x hx).1, rulesOk_filter h _⟩
theorem emitM_goes {df : Nat} (hdf : df < 4294967296) : ∀ (gs : List (Nat × List Rl)) (S : LS), ReadyL S → (∀ g ∈ gs, g.1 < 4294967296 ∧ RulesOk g.2) → S.s.c.length + costM gs ≤ 3850 →
    Goes S (emitM df gs S) (costM gs) ∧ ∀ d st, d.ok → st.a = d.arch → labR (emitM df gs S).1.s.c d st (emitM df gs S).2 = machV gs df d
  | [], S, h, _, hl => by
    unfold costM at hl
    obtain ⟨h1, h2⟩ := end_goes h (by omega) hdf
    exact ⟨h1, fun d st _ _ => h2 d st⟩
  | g :: gs, S, h, hg, hl => by
    unfold costM at hl
    obtain ⟨hk, hr⟩ := hg g List.mem_cons_self
    obtain ⟨i1, i2⟩ := emitM_goes hdf gs S h (fun y hy => hg y (List.mem_cons_of_mem _ hy)) (by omega)
    have il := i1.len
    obtain ⟨e1, e2⟩ := emitC_goes hdf (groupsOf Rl.nr g.2) _ (.inl i1.good) (groups_ok hr (fun x hx => hx.2.1)) (by omega)
    have el := e1.len
    obtain ⟨o1, o2⟩ := own_goes e1.good (by omega) e1.lab 0 (by omega) (by omega)
    have ol := o1.len
    obtain ⟨b1, b2⟩ := branch_goes o1.good (by omega) hk o1.lab (o1.old (e1.old i1.lab))
    refine ⟨by unfold costM; exact (((i1.trans e1).trans o1).trans b1), fun d st hd ha => ?_⟩
    unfold emitM ownS
    rw [b2, ha]
    unfold machV
    split
    · have := o2 d st
      refine Eq.trans this ?_
      rw [nr_word]
      exact e2 d _ hd rfl
    · rw [o1.run e1.good.good d st (e1.old i1.lab), e1.run i1.good.good d st i1.lab]
      exact i2 d st hd ha
end Go.Proofs.YtbekkdhlfkongaaGreatDoor
/-
  A region that draws its order, in a round of a loop over a function: as it is walked elsewhere.
-/
namespace Go.Proofs.YtbekkdhlfkongaaGreatDoor
open Go.RowKit

section
variable {P : Program} {ops : Array Oper} {Q : Exit → Act → World → Prop} {l n : Nat}
theorem rows_round {row : String} {args : Array Value} {w : World} {R : Value → World → Prop} (h : Rows P row args w R) : RowsIn (Fence.wide.inRound l) n P row args w R :=
  show RowsIn Fence.wide n P row args w R from fun c cs _ => let ⟨v, w', r, s⟩ := h c cs; ⟨v, w', r, stepsIn_wide.2 s⟩
theorem op_round {o : Oper} {a : Act} {w : World} {K : Act → World → Prop} (hd : ∀ c, o.op ≠ .defer c) (h : o.wp P a w K Q) : o.wpIn (Fence.wide.inRound l) n P a w K Q := by
  unfold Oper.wpIn
  refine ⟨fun _ _ => trivial, ?_⟩
  rw [show (Fence.wide.inRound l).round = some l from rfl, Oper.semAt_some _ _ _ hd]
  unfold Oper.wp at h
  generalize (execOp a.eval o).run P w = r at h ⊢
  cases r with
  | ok x w' =>
    cases x <;> simp only [Oper.upon, Oper.uponIn] at h ⊢
    case value => exact h
    case skip => exact h
    case defer => exact h
    case enter f args =>
      refine ⟨fun hh => (by cases hh), CallsIn.inRound l (callsIn_wide.2 (h.mono ?_))⟩
      intro e w'' he
      cases e <;> exact he
    case row row args => exact ⟨fun hh => (by cases hh), rows_round h⟩
  | halt e w' =>
    cases e <;> first | exact h | (simp only [Oper.upon, Oper.uponIn] at h ⊢; first | exact h | exact h.elim)
theorem any_round (hd : ∀ (i : Nat) (o : Oper), ops[i]? = some o → ∀ c, o.op ≠ .defer c) (hLO : ¬ LetsOut Q) {md : Region.Mode} : ∀ (fuel : Nat) (listed : Array Bool) (a : Act) (w : World), wpAny P md ops Q fuel listed a w → wpAnyIn (Fence.wide.inRound l) n P md ops Q fuel listed a w
  | 0, _, _, _, h => h
  | fuel + 1, _, _, _, h => ⟨h.1, fun i hi => by
    have h2 := h.2 i hi
    unfold wpOp at h2
    unfold wpOpIn
    cases ho : ops[i]? with
    | none => rw [ho] at h2; exact any_round hd hLO fuel _ _ _ h2
    | some o =>
      rw [ho] at h2
      simp only at h2 ⊢
      split
      · rename_i hw
        rw [if_pos hw] at h2
        rcases h2 with h2 | h2
        · exact op_round (hd i o ho) (Oper.wp_mono (fun a w hh => any_round hd hLO fuel _ a w hh) h2)
        · exact absurd h2.2 hLO
      · rename_i hw
        rw [if_neg hw] at h2
        exact ⟨fun _ _ => trivial, any_round hd hLO fuel _ _ _ h2⟩⟩
def noDefer (ops : Array Oper) : Bool := ops.toList.all (fun o => match o.op with | .defer _ => false | _ => true)
theorem noDefer_spec (h : noDefer ops = true) : ∀ (i : Nat) (o : Oper), ops[i]? = some o → ∀ c, o.op ≠ .defer c := by
  intro i o ho c hc
  have := List.all_eq_true.1 h o (by rw [← Array.mem_def]; exact Array.mem_of_getElem? ho)
  rw [hc] at this
  cases this
theorem region_round {S : World → Prop} {id : Nat} {a : Act} {w : World} (hm : P.follows .mixedOrders = true) (hd : noDefer ops = true) (hLO : ¬ LetsOut Q) (hS : S w.drew)
    (h : S w.drew → wpAnyH P .any ops Q S ops.size (Array.replicate ops.size false) a w.drew) : (Code.region id ops true).wpIn (Fence.wide.inRound l) n P Q a w :=
  wpIn_region_any hm (any_round (noDefer_spec hd) hLO _ _ _ _ (wpAny_of_held _ _ _ _ (h hS)))
theorem zheld_take {md : Region.Mode} {S : World → Prop} {i : Nat} {oi : Oper} {v : Value} (q : Option Tmp) {fuel : Nat} {listed : Array Bool} {a : Act} {w : World} (hi : ops[i]? = some oi) (hq : oi.dst = q)
    (hs : Region.noSelect ops = true) (hf : Region.free md ops listed i = true) (hr : (Region.ready md ops listed).contains i = true)
    (hQ : ∀ c a w, Q (.panic c) (a.put oi.dst v) w → Q (.panic c) a w) (hy : YieldsIf P ops S oi v a) (hS : S w)
    (h : wpAnyH P md ops Q S fuel (listed.setIfInBounds i true) (a.put q v) w) : wpAnyH P md ops Q S (fuel + 1) listed a w :=
  wpAnyH_take hi hs hf hr hQ hy hS (by rw [hq]; exact h)
end
end Go.Proofs.YtbekkdhlfkongaaGreatDoor
/-
  The document's Right of a policy (package hurdleref10).
-/
namespace Go.Proofs.YtbekkdhlfkongaaGreatDoor
open Go.ChangeShapes Go.WideShapes Go.ChangeAt Go.RowKit
set_option maxRecDepth 20000

theorem LAt.rows {w : World} {v : Value} {rs : List Rl} (h : LAt w v rs) : ∃ ao cap, v = .slice ao rs.length cap ∧ ∀ i (hi : i < rs.length), ∃ b off cv, ao = some ⟨b, off, none⟩ ∧ b < w.heap.size ∧ CAt w cv (rs[i]).conds ∧
    w.cell? ⟨b, off + i * 4, none⟩ = some (.int .u32 ((rs[i]).arch : Nat)) ∧ w.cell? ⟨b, off + i * 4 + 1, none⟩ = some (.int .u32 ((rs[i]).nr : Nat)) ∧ w.cell? ⟨b, off + i * 4 + 2, none⟩ = some cv ∧ w.cell? ⟨b, off + i * 4 + 3, none⟩ = some (.int .u32 ((rs[i]).act : Nat)) := by
  obtain ⟨ao, cap, e⟩ := h.shape
  refine ⟨ao, cap, e, fun i hi => ?_⟩
  obtain ⟨b, off, cap', cv, e', hb, hc, d⟩ := h.row hi
  rw [e] at e'
  simp only [Value.slice.injEq] at e'
  exact ⟨b, off, cv, e'.1, hb, hc, d⟩
theorem CAt.rows {w : World} {v : Value} {cs : List Cd} (h : CAt w v cs) : ∃ ao cap, v = .slice ao cs.length cap ∧ ∀ i (hi : i < cs.length), ∃ b off, ao = some ⟨b, off, none⟩ ∧ b < w.heap.size ∧
    w.cell? ⟨b, off + i * 4, none⟩ = some (.int .i64 (cs[i]).arg) ∧ w.cell? ⟨b, off + i * 4 + 1, none⟩ = some (.int .i64 (cs[i]).cmp) ∧ w.cell? ⟨b, off + i * 4 + 2, none⟩ = some (.int .u64 ((cs[i]).mask : Nat)) ∧ w.cell? ⟨b, off + i * 4 + 3, none⟩ = some (.int .u64 ((cs[i]).value : Nat)) := by
  obtain ⟨ao, cap, e⟩ := h.shape
  refine ⟨ao, cap, e, fun i hi => ?_⟩
  obtain ⟨b, off, cap', e', hb, d⟩ := h.row hi
  rw [e] at e'
  simp only [Value.slice.injEq] at e'
  exact ⟨b, off, e'.1, hb, d⟩
theorem act_empty {v : Nat} : ((actS v).toList.isEmpty = true ∧ (actT v).isSome = false) ∨ ((actS v).toList.isEmpty = false ∧ (actT v).isSome = true) := by
  rcases actS_kinds v with ⟨h1, h2⟩ | ⟨h1, h2⟩
  · exact .inr ⟨h2, h1⟩
  · exact .inl ⟨by rw [h2, Go.ByteArray.toList_eq]; rfl, h1⟩
theorem take_all_succ {α : Type} {P : α → Bool} {l : List α} {n : Nat} (hn : n < l.length) (h : (l.take n).all P = true) (hr : P l[n] = true) : (l.take (n + 1)).all P = true := by
  rw [List.take_succ_eq_append_getElem hn, List.all_append, h]
  simp [hr]
theorem take_all_end {α : Type} {P : α → Bool} {l : List α} {n : Nat} (hn : l.length ≤ n) (h : (l.take n).all P = true) : l.all P = true := by rwa [List.take_of_length_le hn] at h
theorem not_all {α : Type} {P : α → Bool} {l : List α} {n : Nat} (hn : n < l.length) (hr : P l[n] = false) : l.all P = false := by
  rw [List.all_eq_false]
  exact ⟨_, List.getElem_mem hn, by rw [hr]; simp⟩
set_option maxHeartbeats 8000000 in
theorem rright10_any (rv : Value) (p : Po) (w : World) (hL : LAt w rv p.rules) (hk : p.ok) (hl : p.rules.length ≤ 9223372036854775807) (hl2 : ∀ x ∈ p.rules, x.conds.length ≤ 9223372036854775807) :
    Calls Tryz.prog 11 #[poV rv p.dflt] w fun e w' => e = .returned (.bool p.right) ∧ Below w.heap.size w w' := by
  obtain ⟨rs, d⟩ := p
  simp only at hL hl hl2
  obtain ⟨hd, hok⟩ := hk
  simp only at hd hok
  obtain ⟨ao, cap, rfl, hrows⟩ := hL.rows
  have HROW := Lib.hid hrows
  have HX0 := Lib.hid (heap_alloc_new w (poB (.slice ao rs.length cap) d))
  have HB0 := Lib.hid (ba (poB (.slice ao rs.length cap) d) (Below.refl w.heap.size w))
  obtain ⟨W, hW⟩ : ∃ W, W = w.alloc (poB (.slice ao rs.length cap) d) := ⟨_, rfl⟩
  rw [← hW] at HX0 HB0
  obtain ⟨R, hR⟩ : ∃ R, R = (⟨rs, d⟩ : Po).right := ⟨_, rfl⟩
  rw [← hR]
  have HR := Lib.hid hR
  have HL2 := Lib.hid hl2
  have HOK := Lib.hid hok
  clear hR hrows hL hl2 hok
  go_enter Tryz.func11, Tryz.ntmps11
  go_upto_region 1 with fail
  change Code.wp _ _ _ _ (w.alloc (poB (.slice ao rs.length cap) d))
  rw [← hW]
  clear hW
  obtain ⟨c0, c1⟩ := pbox HX0.out
  by_cases h64 : 64 < rs.length
  · have HE : Hid (R = false) := Lib.hid (by rw [HR.out]; unfold Po.right; rw [show decide (rs.length ≤ 64) = false by simp; omega]; rfl)
    have hb : decide ((64 : Int) < (rs.length : Int)) = true := by simp; omega
    clear h64
    go_wp2_with fail
    go_ret
    exact ⟨by rw [HE.out]; rfl, HB0.out⟩
  have hb : decide ((64 : Int) < (rs.length : Int)) = false := by simp; omega
  go_wp2_with fail
  refine (raction_any d _ hd).mono ?_
  rintro e w1 ⟨rfl, hb1⟩
  have HB1 := Lib.hid (below2 HB0.out hb1)
  have HX1 := Lib.hid (kb hb1 HX0.out)
  clear hb1 c0 c1 HX0 HB0
  rcases act_empty (v := d) with ⟨he, hs⟩ | ⟨he, hs⟩
  · have HE : Hid (R = false) := Lib.hid (by rw [HR.out]; unfold Po.right; rw [hs]; simp)
    clear hs h64
    generalize actS d = A at *
    go_wp2_with fail
    go_ret
    exact ⟨by rw [HE.out]; rfl, HB1.out⟩
  have HRR : Hid (R = rs.all Rl.right) := Lib.hid (by rw [HR.out]; unfold Po.right; rw [hs, show decide (rs.length ≤ 64) = true by simp; omega]; rfl)
  clear hs h64
  generalize actS d = A at *
  go_wp2_with fail
  go_loopw [3] (fun i wr => ∃ k : Nat, k ≤ rs.length ∧ i = .int .i64 k ∧ Below w.heap.size w wr ∧ wr.heap[w.heap.size]? = some (poB (.slice ao rs.length cap) d) ∧ (rs.take k).all Rl.right = true) (fun i _ => rs.length - (Lib.intOf i).toNat)
  case atStart => exact ⟨0, Nat.zero_le _, rfl, HB1.out, HX1.out, rfl⟩
  case round =>
    obtain ⟨k, hk, rfl, hbw, hxx, hall⟩ := hrel
    have HB := Lib.hid hbw
    have HX := Lib.hid hxx
    have HA := Lib.hid hall
    clear hbw hxx hall HB1 HX1
    obtain ⟨c0, c1⟩ := pbox HX.out
    by_cases hlt : k < rs.length
    · obtain ⟨b, off, cv, rfl, hb', hcv, d0, d1, d2, d3⟩ := HROW.out k hlt
      obtain ⟨x, hx⟩ : ∃ x, x = rs[k] := ⟨_, rfl⟩
      rw [← hx] at hcv d0 d1 d3
      have hxk : x.ok := by rw [hx]; exact HOK.out _ (List.getElem_mem hlt)
      have hxl : x.conds.length ≤ 9223372036854775807 := by rw [hx]; exact HL2.out _ (List.getElem_mem hlt)
      obtain ⟨co, ccap, rfl, hcr⟩ := hcv.rows
      have HXR := Lib.hid hx
      have HCR := Lib.hid hcr
      have hact := hxk.2.2.1
      have e0 := (HB.out.cell (p := ⟨b, _, none⟩) hb').trans d0
      have e1 := (HB.out.cell (p := ⟨b, _, none⟩) hb').trans d1
      have e2 := (HB.out.cell (p := ⟨b, _, none⟩) hb').trans d2
      have e3 := (HB.out.cell (p := ⟨b, _, none⟩) hb').trans d3
      have l0 : (k : Int) < (rs.length : Int) := by omega
      have l1 : (0 : Int) ≤ (k : Int) := by omega
      have l2 : (k : Int).toNat = k := by omega
      clear hx hcr d0 d1 d2 d3 hcv
      go_upto_region 7 with fail
      obtain ⟨W1, hW1⟩ : ∃ W1, W1 = wr.alloc (rlB x (.slice co x.conds.length ccap)) := ⟨_, rfl⟩
      have HX2 : Hid (W1.heap[wr.heap.size]? = some (rlB x (.slice co x.conds.length ccap))) := Lib.hid (by rw [hW1]; exact heap_alloc_new wr _)
      have HP2 : Hid (W1.heap[w.heap.size]? = some (poB (.slice (some ⟨b, off, none⟩) rs.length cap) d)) := Lib.hid (by rw [hW1]; exact ka _ HX.out)
      have HB2 : Hid (Below w.heap.size w W1) := Lib.hid (by rw [hW1]; exact ba _ HB.out)
      change Code.wp _ _ _ _ (wr.alloc (rlB x (.slice co x.conds.length ccap)))
      rw [← hW1]
      clear hW1 e0 e1 e2 e3 l0 l1 l2 c0 c1 HX HB
      obtain ⟨r0, r1, r2, r3⟩ := rbox HX2.out
      generalize wr.heap.size = g at *
      by_cases h4 : 4 < x.conds.length
      · have HE : Hid (R = false) := Lib.hid (by
          rw [HRR.out]
          refine not_all hlt ?_
          rw [← HXR.out]
          unfold Rl.right
          rw [show decide (x.conds.length ≤ 4) = false by simp; omega]
          rfl)
        have hb4 : decide ((4 : Int) < (x.conds.length : Int)) = true := by simp; omega
        clear h4
        go_wp2_with fail
        go_ret
        exact ⟨by rw [HE.out]; rfl, HB2.out⟩
      have hb4 : decide ((4 : Int) < (x.conds.length : Int)) = false := by simp; omega
      go_wp2_with fail
      refine (raction_any x.act _ hact).mono ?_
      rintro e w3 ⟨rfl, hb3⟩
      have HB3 := Lib.hid (below2 HB2.out hb3)
      have HX3 := Lib.hid (kb hb3 HX2.out)
      have HP3 := Lib.hid (kb hb3 HP2.out)
      clear hb3 r0 r1 r2 r3 HX2 HP2 HB2
      rcases act_empty (v := x.act) with ⟨he2, hs⟩ | ⟨he2, hs⟩
      · have HE : Hid (R = false) := Lib.hid (by
          rw [HRR.out]
          refine not_all hlt ?_
          rw [← HXR.out]
          unfold Rl.right
          rw [hs]
          simp)
        clear hs h4
        generalize actS x.act = A2 at *
        go_wp2_with fail
        go_ret
        exact ⟨by rw [HE.out]; rfl, HB3.out⟩
      have HXX : Hid (x.right = x.conds.all Cd.right) := Lib.hid (by unfold Rl.right; rw [hs, show decide (x.conds.length ≤ 4) = true by simp; omega]; rfl)
      clear hs h4
      generalize actS x.act = A2 at *
      go_wp2_with fail
      go_loopw [5] (fun i wv => ∃ j : Nat, j ≤ x.conds.length ∧ i = .int .i64 j ∧ Below w.heap.size w wv ∧ wv.heap[w.heap.size]? = some (poB (.slice (some ⟨b, off, none⟩) rs.length cap) d) ∧ wv.heap[g]? = some (rlB x (.slice co x.conds.length ccap)) ∧ (x.conds.take j).all Cd.right = true) (fun i _ => x.conds.length - (Lib.intOf i).toNat)
      case atStart => exact ⟨0, Nat.zero_le _, rfl, HB3.out, HP3.out, HX3.out, rfl⟩
      case round =>
        obtain ⟨j, hj, rfl, hbw, hxx, hgg, hcall⟩ := hrel
        have HBv := Lib.hid hbw
        have HPv := Lib.hid hxx
        have HXv := Lib.hid hgg
        have HCv := Lib.hid hcall
        clear hbw hxx hgg hcall HB3 HP3 HX3
        obtain ⟨r0, r1, r2, r3⟩ := rbox HXv.out
        by_cases hjl : j < x.conds.length
        · obtain ⟨cb, coff, rfl, hcb, d0, d1, d2, d3⟩ := HCR.out j hjl
          obtain ⟨c, hc⟩ : ∃ c, c = x.conds[j] := ⟨_, rfl⟩
          rw [← hc] at d0 d1 d2 d3
          have e0 := (HBv.out.cell (p := ⟨cb, _, none⟩) hcb).trans d0
          have e1 := (HBv.out.cell (p := ⟨cb, _, none⟩) hcb).trans d1
          have e2 := (HBv.out.cell (p := ⟨cb, _, none⟩) hcb).trans d2
          have e3 := (HBv.out.cell (p := ⟨cb, _, none⟩) hcb).trans d3
          have HCJ := Lib.hid hc
          have l0 : (j : Int) < (x.conds.length : Int) := by omega
          have l1 : (0 : Int) ≤ (j : Int) := by omega
          have l2 : (j : Int).toNat = j := by omega
          clear hc d0 d1 d2 d3
          go_wp2_with fail
          refine (rright8_any c _).mono ?_
          rintro e w5 ⟨rfl, hb5⟩
          have HB5 := Lib.hid (below2 HBv.out hb5)
          have HP5 := Lib.hid (kb hb5 HPv.out)
          have HX5 := Lib.hid (kb hb5 HXv.out)
          clear hb5 e0 e1 e2 e3 r0 r1 r2 r3
          cases hr : c.right
          · have HE : Hid (R = false) := Lib.hid (by
              rw [HRR.out]
              refine not_all hlt ?_
              rw [← HXR.out, HXX.out]
              refine not_all hjl ?_
              rw [← HCJ.out, hr])
            clear hr
            go_wp2_with fail
            go_ret
            exact ⟨by rw [HE.out]; rfl, HB5.out⟩
          · have HN : Hid ((x.conds.take (j + 1)).all Cd.right = true) := Lib.hid (take_all_succ hjl HCv.out (by rw [← HCJ.out]; exact hr))
            clear hr
            go_wp2_with fail
            go_roundw
            case rel => exact ⟨j + 1, by omega, by go_num, HB5.out, HP5.out, HX5.out, HN.out⟩
            case measure => simp [Lib.intOf]; omega
        · have HN : Hid ((rs.take (k + 1)).all Rl.right = true) := Lib.hid (take_all_succ hlt HA.out (by rw [← HXR.out, HXX.out]; exact take_all_end (by omega) HCv.out))
          go_wp2_with fail
          go_roundw
          case rel => exact ⟨k + 1, by omega, by go_num, HBv.out, HPv.out, HN.out⟩
          case measure => simp [Lib.intOf]; omega
    · have hke : k = rs.length := by omega
      have HE : Hid (R = true) := Lib.hid (by rw [HRR.out]; exact take_all_end (by omega) HA.out)
      clear hke
      go_wp2_with fail
      go_ret
      exact ⟨by rw [HE.out]; rfl, HB.out⟩
end Go.Proofs.YtbekkdhlfkongaaGreatDoor
/-
  What the places of rules put.
-/
namespace Go.Proofs.YtbekkdhlfkongaaGreatDoor
open Go.ChangeShapes Go.WideShapes Go.ChangeAt Go.RowKit Go.Shelf
set_option maxRecDepth 20000
attribute [local go_sem] Oper.semAt_some

/-- What a place answers, called. -/
def PCalls (v : Value) (w : World) (R : Ending → World → Prop) : Prop := ∀ f bd lb, v = .func (.func f) bd lb → Calls Tryz.prog f (bd ++ lb) w R
theorem other_calls {B b m : Nat} {rv : Value} {df : Nat} {S : LS} {w : World} (h : LwAt w b rv df m S) (hi : LwIn B b m w) (ha : df < 4294967296) (hr : ReadyL S) (hl : S.s.c.length ≤ 3990) : PCalls (otherV b) w (fun e w' => LEnd B w b rv df m (endL S df) w' e) := by
  intro f bd lb he
  unfold otherV at he
  cases he
  exact lother_any w h hi ha hl (ready_n hr hl) (ends_bound hr hl df)
theorem FAt.row_grown {w w' : World} {row : Option Nat} {v : Value} {l : List X4} (h : FAt w v l) (hg : w.grownBy w' row) (hIs : ∀ r, row = some r → ∃ o : Obj, w.heap[r]? = some o ∧ o.isCells = false) : FAt w' v l := by
  obtain ⟨ao, cap, rfl, h⟩ := h
  refine ⟨ao, cap, rfl, ?_⟩
  by_cases hnil : l = []
  · exact .inl hnil
  refine .inr ?_
  rcases h with h | ⟨g, off, rfl, hgl, hc⟩
  · exact absurd h hnil
  have hpos : 0 < l.length := List.length_pos_iff.2 hnil
  have hgm : some g ≠ row := by
    intro e
    obtain ⟨o, ho, hno⟩ := hIs g e.symm
    have h0 := (hc 0 hpos).1
    unfold World.cell? at h0
    rw [ho] at h0
    cases o
    · cases hno
    all_goals simp at h0
  have hcell : ∀ o, w'.cell? ⟨g, o, none⟩ = w.cell? ⟨g, o, none⟩ := fun o => by unfold World.cell?; rw [hg.block g hgl hgm]
  refine ⟨g, off, rfl, Nat.lt_of_lt_of_le hgl hg.size, fun i hi => ?_⟩
  rw [hcell, hcell, hcell, hcell]
  exact hc i hi
theorem LwAt.row_grown {w w' : World} {row : Option Nat} {b m D : Nat} {rv : Value} {df : Nat} {S : LS} (h : LwAt w b rv df m S) (hg : w.grownBy w' row) (hm : m < D) (hr : ∀ r, row = some r → D ≤ r ∧ ∃ o : Obj, w.heap[r]? = some o ∧ o.isCells = false) : LwAt w' b rv df m S := by
  obtain ⟨⟨v, h1, h2, h3⟩, M, h4, h5⟩ := h
  refine ⟨⟨v, ?_, ⟨h2.1.row_grown hg (fun r e => (hr r e).2), h2.2⟩, h3⟩, M, own_map_u32 h4 (hg.block m h4.lt (fun e => by have := (hr m e.symm).1; omega)), h5⟩
  exact (hg.block b (lt_of_block h1) (fun e => by
    obtain ⟨o, ho, hno⟩ := (hr b e.symm).2
    rw [h1] at ho
    cases ho
    cases hno)).trans h1

theorem boxed_grown {V V' : World} {row : Option Nat} {g : Nat} {t : TypeId} {v : Value} (h : Boxed V g t v) (hg : V.grownBy V' row) (hr : ∀ r, row = some r → ∃ o : Obj, V.heap[r]? = some o ∧ o.isCells = false) : Boxed V' g t v :=
  h.kept hg (fun e => by obtain ⟨o, ho, hc⟩ := hr g e.symm; rw [show V.heap[g]? = _ from h] at ho; cases ho; cases hc)
/-- What is put into a box leaves the code as it is. -/
theorem FAt.box_put {w w' : World} {g : Nat} {t : TypeId} {u : Value} {o : Obj} {v : Value} {l : List X4} (h : FAt w v l) (hb : Boxed w g t u) (hp : RowPut w w' g o) : FAt w' v l := by
  obtain ⟨ao, cap, rfl, h⟩ := h
  refine ⟨ao, cap, rfl, ?_⟩
  by_cases hnil : l = []
  · exact .inl hnil
  refine .inr ?_
  rcases h with h | ⟨g', off, rfl, hgl, hc⟩
  · exact absurd h hnil
  have hpos : 0 < l.length := List.length_pos_iff.2 hnil
  have hne : g' ≠ g := by
    intro e
    subst e
    have h1 := (hc 0 hpos).2.1
    rw [cell_in hb] at h1
    simp at h1
  have hcell : ∀ o, w'.cell? ⟨g', o, none⟩ = w.cell? ⟨g', o, none⟩ := fun o => by unfold World.cell?; rw [hp.rest g' hne]
  refine ⟨g', off, rfl, by rw [hp.size]; exact hgl, fun i hi => ?_⟩
  rw [hcell, hcell, hcell, hcell]
  exact hc i hi
theorem LwAt.box_put {w w' : World} {g b m : Nat} {t : TypeId} {u : Value} {o : Obj} {rv : Value} {df : Nat} {S : LS} (h : LwAt w b rv df m S) (hb : Boxed w g t u) (hp : RowPut w w' g o) (hgb : b ≠ g) : LwAt w' b rv df m S := by
  obtain ⟨⟨v, h1, h2, h3⟩, M, h4, h5⟩ := h
  have hgm : m ≠ g := by
    intro e
    subst e
    obtain ⟨es, clock, hh, _⟩ := h4
    rw [show w.heap[m]? = _ from hb] at hh
    cases hh
  exact ⟨⟨v, hp.keep hgb h1, ⟨h2.1.box_put hb hp, h2.2⟩, h3⟩, M, own_map_u32 h4 (hp.rest m hgm), h5⟩
theorem keeps_chg {D b : Nat} {V V' : World} {cs : Array Value} {t : TypeId} (h : Chg b V V') (hb : V.heap[b]? = some (.cells cs t)) : KeepsFrom D V V' :=
  ⟨h.size, fun k o _ hk ho => (h.block k (lt_of_block hk) (fun e => by subst e; rw [hb] at hk; cases hk; cases ho)).trans hk⟩
/-! ### The conditions of a rule -/
abbrev AlC := { p : Nat × Cd // p.2.right = true ∧ p.2.ok }
def encC (x : AlC) : Array Value := #[.int .i64 (x.1.1 : Nat), .agg #[.int .i64 x.1.2.arg, .int .i64 x.1.2.cmp, .int .u64 (x.1.2.mask : Nat), .int .u64 (x.1.2.value : Nat)]]
def elC (l : List Cd) (h : ∀ c ∈ l, c.right = true ∧ c.ok) (j : Nat) : AlC := if hj : j < l.length then ⟨(j, l[j]), h _ (List.getElem_mem hj)⟩ else ⟨(0, zeroCd), by decide, by decide, by decide⟩
/-- The state behind so many conditions, from the last one on. -/
def backL (fails : Int) (r : LS × Int) (pre : List AlC) : LS × Int := condLs fails ((pre.map (fun x => x.1.2)).reverse) r
theorem backL_snoc (fails : Int) (r : LS × Int) (pre : List AlC) (x : AlC) : backL fails r (pre ++ [x]) = putLS (backL fails r pre).1 (testS (backL fails r pre).1.s x.1.2 (backL fails r pre).2 fails) := by
  unfold backL
  rw [List.map_append, List.reverse_append]
  rfl
theorem backL_len {S : LS} {fails holds : Int} (h : GoodL S) (hf : isLab S.s.c fails = true) (hh : isLab S.s.c holds = true) (pre : List AlC) (hl : S.s.c.length + 12 * pre.length ≤ 3860) : (backL fails (S, holds) pre).1.s.c.length ≤ 3860 := by
  have := (conds_goes h hf hh ((pre.map (fun x => x.1.2)).reverse) (fun c hc => by
    rw [List.mem_reverse, List.mem_map] at hc
    obtain ⟨x, _, rfl⟩ := hc
    exact x.2) (by rw [List.length_reverse, List.length_map]; exact hl)).1.len
  rw [List.length_reverse, List.length_map] at this
  unfold backL
  omega
theorem cells_CAt {w : World} {cv : Value} {cs : List Cd} (h : CAt w cv cs) : SlC w cv cs.length (fun j => (cs[j]?.map fun c => [.int .i64 c.arg, .int .i64 c.cmp, .int .u64 (c.mask : Nat), .int .u64 (c.value : Nat)]).getD []) := by
  obtain ⟨ao, cap, e, hrow⟩ := h.rows
  refine ⟨ao, cap, e, ?_⟩
  by_cases h0 : cs.length = 0
  · exact .inl h0
  · obtain ⟨g, off, rfl, _⟩ := hrow 0 (by omega)
    refine .inr ⟨g, off, rfl, fun j hj => ?_⟩
    obtain ⟨g', off', e', _, d0, d1, d2, d3⟩ := hrow j hj
    cases e'
    simp only [List.getElem?_eq_getElem hj]
    exact ⟨d0, d1, d2, d3⟩
set_option maxHeartbeats 16000000 in
set_option maxRecDepth 100000 in
theorem lrules_any {B b m lo : Nat} {rv : Value} {df : Nat} (hdf : df < 4294967296) (hlo : b < lo) : ∀ (rl : List (Rl × Value)) (v : Value) (S : LS) (w : World), RPl lo w b v rl → LwAt w b rv df m S → LwIn B b m w → ReadyL S → RulesOk (rl.map (·.1)) →
    (∀ p ∈ rl, LStay B b w (fun V => CAt V p.2 p.1.conds)) → S.s.c.length + costR (rl.map (·.1)) ≤ 3850 → PCalls v w (fun e w' => LEnd B w b rv df m (emitR df (rl.map (·.1)) S) w' e)
  | [], v, S, w, hp, h, hi, hr, _, _, hl => by
    have hp : v = otherV b := hp
    subst hp
    exact other_calls h hi hdf hr (by unfold costR at hl; simp at hl; omega)
  | p :: rl, v, S, w, hp, h, hi, hr, hok, hcs, hl => by
    obtain ⟨pn, pg, pl, nv, rfl, bN, bG, bL, n1, n2, n3, hrest⟩ := hp
    intro f bd lb he
    cases he
    obtain ⟨x, cv⟩ := p
    simp only at bG
    rw [List.map_cons] at hok hl ⊢
    unfold costR at hl
    obtain ⟨hxo, hxr⟩ := hok x List.mem_cons_self
    have hC := hcs (x, cv) List.mem_cons_self
    simp only at hC
    obtain ⟨co, ccap, hcv⟩ := hC.now.shape
    subst hcv
    have hc1 := costR_pos (rl.map (·.1))
    obtain ⟨x0, x1, x2, x3⟩ := rbox bG
    have cL := bL.cell
    have cN := bN.cell
    have hpl : pl < w.heap.size := bL.lt
    have hmlt : m < w.heap.size := by obtain ⟨_, D, hD, _⟩ := h; exact hD.lt
    have hblt : b < w.heap.size := h.1.lt
    by_cases h0 : x.conds.length = 0
    · have HE : Hid (emitR df (x :: rl.map (·.1)) S = endL S x.act) := Lib.hid (by unfold emitR; rw [if_pos h0])
      have h0' : ((x.conds.length : Int) == 0) = true := by simp [h0]
      have HC := Lib.hid (lend_any x.act w h hi hxo.2.2.1 (by omega) (ready_n hr (by omega)) (ends_bound hr (by omega) x.act))
      obtain ⟨r, hrr⟩ : ∃ r, r = emitR df (x :: rl.map (·.1)) S := ⟨_, rfl⟩
      (try simp only at hrr)
      rw [← hrr] at HE ⊢
      rw [← HE.out] at HC
      clear h0 hrr hok hcs hC bN bG bL hrest h hi hr
      go_enter Tryz.func135, Tryz.ntmps135
      go_wp2_with fail
      refine HC.out.mono ?_
      rintro e w1 ⟨rfl, g1, g2⟩
      have HEnd := Lib.hid (show LEnd B w b rv df m r w1 (.returned (.int .i64 r.2)) from ⟨rfl, g1, g2⟩)
      clear g1 g2 x0 x1 x2 x3 cL cN
      go_wp2_with fail
      go_ret
      exact HEnd.out
    · have h0' : ((x.conds.length : Int) == 0) = false := by simpa using h0
      have HE : Hid (emitR df (x :: rl.map (·.1)) S = condLs (emitR df (rl.map (·.1)) S).2 x.conds (endL (emitR df (rl.map (·.1)) S).1 x.act)) := Lib.hid (by rw [emitR, if_neg h0])
      obtain ⟨i1, _⟩ := emitR_goes hdf (rl.map (·.1)) S hr (fun y hy => hok y (List.mem_cons_of_mem _ hy)) (by simp only at hl; omega)
      have il := i1.len
      obtain ⟨e1, _⟩ := end_goes (.inl i1.good) (by simp only at hl; omega) (a := x.act) hxo.2.2.1
      have el := e1.len
      have IH := lrules_any hdf hlo rl nv S w hrest h hi hr (fun y hy => hok y (List.mem_cons_of_mem _ hy)) (fun q hq => hcs q (List.mem_cons_of_mem _ hq)) (by simp only at hl; omega)
      have hl2 : S.s.c.length + costR (rl.map (·.1)) + (1 + 12 * x.conds.length) ≤ 3850 := by simp only at hl; omega
      -- letters for what comes of the next place, and of the end
      obtain ⟨r, hrr⟩ : ∃ r, r = emitR df (x :: rl.map (·.1)) S := ⟨_, rfl⟩
      obtain ⟨S1, hS1⟩ : ∃ q, q = (emitR df (rl.map (·.1)) S).1 := ⟨_, rfl⟩
      obtain ⟨fails, hfails⟩ : ∃ q, q = (emitR df (rl.map (·.1)) S).2 := ⟨_, rfl⟩
      obtain ⟨S2, hS2⟩ : ∃ q, q = (endL S1 x.act).1 := ⟨_, rfl⟩
      obtain ⟨holds, hholds⟩ : ∃ q, q = (endL S1 x.act).2 := ⟨_, rfl⟩
      have G1 := Lib.hid (show GoodL S1 by rw [hS1]; exact i1.good)
      have G2 := Lib.hid (show GoodL S2 by rw [hS2, hS1]; exact e1.good)
      have F2 := Lib.hid (show isLab S2.s.c fails = true by rw [hS2, hS1, hfails]; exact e1.old i1.lab)
      have H2 := Lib.hid (show isLab S2.s.c holds = true by rw [hS2, hholds, hS1]; exact e1.lab)
      have l1 : S1.s.c.length ≤ S.s.c.length + costR (rl.map (·.1)) := by rw [hS1]; exact il.2
      have l2 : S2.s.c.length ≤ S1.s.c.length + 1 := by rw [hS2, hS1]; exact el.2
      have HEE : Hid (r = condLs fails x.conds (S2, holds)) := Lib.hid (by rw [hrr, HE.out, hS2, hholds, hS1, hfails])
      have hIH : PCalls nv w (fun e w' => e = .returned (.int .i64 fails) ∧ LwAt w' b rv df m S1 ∧ LR B b w w') := by
        intro f bd lb he
        rw [hS1, hfails]
        exact IH f bd lb he
      have hshape : (nv = otherV b ∧ Calls Tryz.prog 31 #[ptrV b] w (fun e w' => e = .returned (.int .i64 fails) ∧ LwAt w' b rv df m S1 ∧ LR B b w w')) ∨
          (∃ a1 a2 a3, nv = .func (.func 135) #[] #[ptrV a1, ptrV a2, ptrV a3] ∧ Calls Tryz.prog 135 #[ptrV a1, ptrV a2, ptrV a3] w (fun e w' => e = .returned (.int .i64 fails) ∧ LwAt w' b rv df m S1 ∧ LR B b w w')) := by
        cases rl with
        | nil =>
          have hc := hIH 31 #[ptrV b] #[] hrest
          rw [show (#[ptrV b] ++ #[] : Array Value) = #[ptrV b] from rfl] at hc
          exact .inl ⟨hrest, hc⟩
        | cons q rl =>
          obtain ⟨a1, a2, a3, _, e, _⟩ := hrest
          have hc := hIH 135 #[] #[ptrV a2, ptrV a3, ptrV a1] e
          rw [show (#[] ++ #[ptrV a2, ptrV a3, ptrV a1] : Array Value) = #[ptrV a2, ptrV a3, ptrV a1] from rfl] at hc
          exact .inr ⟨a2, a3, a1, e, hc⟩
      have HEND : Hid (∀ W, LwAt W b rv df m S1 → LwIn B b m W → Calls Tryz.prog 59 #[ptrV b, .int .u32 (x.act : Nat)] W fun e w' => e = .returned (.int .i64 holds) ∧ LwAt w' b rv df m S2 ∧ LR B b W w') := Lib.hid (fun W h1 h2 => by
        rw [hholds, hS2]
        exact lend_any x.act W h1 h2 hxo.2.2.1 (by omega) (ready_n (.inl G1.out) (by omega)) (ends_bound (.inl G1.out) (by omega) x.act))
      have HC := Lib.hid hC
      have HXR := Lib.hid hxr
      have HXO := Lib.hid hxo
      have HI := Lib.hid hi
      have HSH := Lib.hid hshape
      have HG := Lib.hid bG
      have HLb := Lib.hid bL
      (try simp only at hrr)
      rw [← hrr]
      clear IH hIH hshape HE hrr hS1 hfails hS2 hholds i1 il e1 el hok hcs hC hxr hxo h hi hr hrest bG bL bN h0 hl
      refine (callsIn_wide (n := 6)).1 ?_
      refine callsIn_of_wp_marks Tryz.func135 rfl trivial ?_ rfl
      simp only [Tryz.ntmps135, List.size_toArray, List.length_cons, List.length_nil, Nat.reduceAdd, Nat.reduceSub, Array.replicate_succ, Array.replicate_zero, List.push_toArray, List.append_toArray, List.nil_append, List.cons_append]
      refine wpIn_wide.2 ?_
      rcases HSH.out with ⟨rfl, HN⟩ | ⟨a1, a2, a3, rfl, HN⟩
      all_goals
        have HN := Lib.hid HN
        go_wp2_with fail
        refine HN.out.mono ?_
        rintro e w1 ⟨rfl, hw1, hlr1⟩
        clear HN HSH cN x0 x1 x2 x3 cL
        obtain ⟨W2, hW2, bF, hb2⟩ : ∃ W2, W2 = w1.alloc (.cells #[.int .i64 fails] 3) ∧ Boxed W2 w1.heap.size 3 (.int .i64 fails) ∧ Below w1.heap.size w1 W2 := ⟨_, rfl, Boxed.new _ _ _, ba _ (Below.refl _ _)⟩
        have hsz1 : w.heap.size ≤ w1.heap.size := hlr1.size
        have HLR2 := Lib.hid (hlr1.trans (LR.of_below (B := B) (b := b) hb2 (Nat.le_trans HI.out.hsz hsz1)))
        have HW2 := Lib.hid (hw1.below hb2)
        obtain ⟨x0, x1, x2, x3⟩ := rbox (HLR2.out.block HG.out (by omega))
        have cL := (HLR2.out.boxed HLb.out (by omega)).cell
        have BF := Lib.hid bF
        go_upto_region 4 with fail
        rw [← hW2]
        have hgf : ∃ gf, gf = w1.heap.size := ⟨_, rfl⟩
        obtain ⟨gf, hgf⟩ := hgf
        rw [← hgf] at BF hsz1 ⊢
        have hgflt : gf < W2.heap.size := by rw [hgf]; exact bF.lt
        clear hW2 bF hb2 hw1 hlr1 hgf
        go_wp2_with fail
        refine (HEND.out W2 HW2.out (HI.out.next HLR2.out)).mono ?_
        rintro e w3 ⟨rfl, hw3, hlr3⟩
        clear x0 x1 x2 x3 cL
        obtain ⟨W4, hW4, bH, hb4⟩ : ∃ W4, W4 = w3.alloc (.cells #[.int .i64 holds] 3) ∧ Boxed W4 w3.heap.size 3 (.int .i64 holds) ∧ Below w3.heap.size w3 W4 := ⟨_, rfl, Boxed.new _ _ _, ba _ (Below.refl _ _)⟩
        have hsz3 : W2.heap.size ≤ w3.heap.size := hlr3.size
        have hbsz := HI.out.hsz
        have hlr24 : LR B b W2 W4 := hlr3.trans (LR.of_below hb4 (by omega))
        have HLR4 := Lib.hid (HLR2.out.trans hlr24)
        have HW4 := Lib.hid (hw3.below hb4)
        have BF4 := Lib.hid (hlr24.boxed BF.out (by omega))
        have BH := Lib.hid bH
        obtain ⟨x0, x1, x2, x3⟩ := rbox (HLR4.out.block HG.out (by omega))
        go_upto_region 5 with fail
        rw [← hW4]
        obtain ⟨gh, hgh⟩ : ∃ gh, gh = w3.heap.size := ⟨_, rfl⟩
        rw [← hgh] at BH hsz3 ⊢
        have hghlt : gh < W4.heap.size := by rw [hgh]; exact bH.lt
        clear hW4 bH hb4 hw3 hlr3 hlr24 hgh BF HW2 HLR2 HEND
        go_wp2_with fail
        refine (callsIn_wide (n := 6)).1 ((backC_in 6 co x.conds.length ccap W4).mono ?_)
        rintro e w5 ⟨rfl, rfl⟩
        clear x0 x1 x2 x3
        obtain ⟨W5, hW5, bS, hb5⟩ : ∃ W5, W5 = W4.alloc (.cells #[.slice co x.conds.length ccap] 43) ∧ Boxed W5 W4.heap.size 43 (.slice co x.conds.length ccap) ∧ Below W4.heap.size W4 W5 := ⟨_, rfl, Boxed.new _ _ _, ba _ (Below.refl _ _)⟩
        have hsz45 : W5.heap.size = W4.heap.size + 1 := by rw [hW5]; exact size_alloc _ _
        have hlr45 : LR B b W4 W5 := LR.of_below hb5 (by have := HLR4.out.size; omega)
        have HLR5 := Lib.hid (HLR4.out.trans hlr45)
        have HW5 := Lib.hid (HW4.out.below hb5)
        have BF5 := Lib.hid (hlr45.boxed BF4.out (by omega))
        have BH5 := Lib.hid (hlr45.boxed BH.out (by omega))
        have BL5 := Lib.hid (HLR5.out.boxed HLb.out (by omega))
        have BS5 := Lib.hid bS
        have hs4 : w.heap.size ≤ W4.heap.size := HLR4.out.size
        rw [← hW5]
        obtain ⟨gs, hgs⟩ : ∃ gs, gs = W4.heap.size := ⟨_, rfl⟩
        rw [← hgs] at hsz45 hs4 hghlt BS5 ⊢
        clear hW5 bS hb5 hlr45 hgs HLR4 HW4 BF4 BH
        go_wp2_with fail
        refine (wpIn_wide (n := 6)).1 ?_
        refine wpIn_rangeFunc_ownH rfl (by omega) (gf := 157) (lb := #[.pointer (some ⟨gs, 0, none⟩)]) rfl trivial (enters_of Tryz.func157 (by kernel_rfl) rfl)
          (backC_stops _ (by omega) gs x.conds.length (LX B (fun k => k = b ∨ k = gh)) (LX.refl _ _) lx_t (.slice co x.conds.length ccap) (fun j => (x.conds[j]?.map fun c => [.int .i64 c.arg, .int .i64 c.cmp, .int .u64 (c.mask : Nat), .int .u64 (c.value : Nat)]).getD []) (elC x.conds (fun c hc => ⟨HXR.out c hc, HXO.out.2.2.2 c hc⟩)) encC
            (fun j hj => by
              refine ⟨_, _, _, _, by simp only [List.getElem?_eq_getElem hj]; rfl, ?_⟩
              unfold encC elC
              rw [dif_pos hj]) (by omega) W5 (fun V hV => LX.of_lr (LR.of_below hV (by omega)) (.inl rfl))
            (fun V hV => ⟨(show Boxed V _ _ _ from hV.cells _ _ _ _ BS5.out (by omega)).cell, cells_CAt (HC.out V (hV.to_lr HLR5.out (fun i hi => hi.imp id (fun e => by omega))))⟩))
          lx_t (lx_b (.inl rfl) (by omega)) (Below.refl _ _) (fun _ => rfl)
          (fun pre W => (LwAt W b rv df m (backL fails (S2, holds) pre).1 ∧ Boxed W gh 3 (.int .i64 (backL fails (S2, holds) pre).2) ∧ Boxed W gf 3 (.int .i64 fails) ∧ Boxed W pl 108 (ptrV b)) ∧ LX B (fun k => k = b ∨ k = gh) W5 W ∧ W5.heap.size ≤ W.heap.size)
          (fun _ _ _ => False)
          (fun s V V' row hs hg hr => by
            obtain ⟨⟨h1, h2, h3, h4⟩, h5, h6⟩ := hs
            have hr' : ∀ r, row = some r → ∃ o : Obj, V.heap[r]? = some o ∧ o.isCells = false := fun r e => (hr r e).2
            exact ⟨⟨h1.row_grown hg (D := W5.heap.size) (by omega) hr, boxed_grown h2 hg hr', boxed_grown h3 hg hr', boxed_grown h4 hg hr'⟩, lx_t h5 (LX.of_lr (LR.of_grown hg (by omega) (fun r e => ⟨by have := (hr r e).1; omega, (hr r e).2⟩)) (.inl rfl)), Nat.le_trans h6 hg.size⟩)
          (fun _ _ _ _ _ hs _ _ => hs)
          ⟨⟨HW5.out, BH5.out, BF5.out, BL5.out⟩, LX.refl _ _ _, Nat.le_refl _⟩
          (fun y a' W => ∃ Bx nq, gs < Bx ∧ W.heap[Bx]? = some (cdB y.1.2) ∧ a' = { tmps := #[ptrV pg, ptrV pl, ptrV pn, .int .i64 0, ptrV gf, ptrV gh, undef, ptrV Bx, .pointer (some ⟨pg, 2, none⟩), .slice co x.conds.length ccap, .int .i64 (x.conds.length : Nat), .bool false, undef, undef, undef, undef, nq, .int .i64 fails, ptrV b, .pointer (some ⟨pg, 3, none⟩), .int .u32 (x.act : Nat), .int .i64 holds, .pointer (some ⟨pg, 2, none⟩), .slice co x.conds.length ccap, .func (.func 157) #[] #[ptrV gs], .int .i64 (y.1.1 : Nat), .agg #[.int .i64 y.1.2.arg, .int .i64 y.1.2.cmp, .int .u64 (y.1.2.mask : Nat), .int .u64 (y.1.2.value : Nat)], undef, undef, undef, undef, undef, undef, undef, undef], defers := [] })
          (fun y a' _ V V' row hs hg hr => by
            obtain ⟨Bx, nq, k1, k2, k3⟩ := hs
            exact ⟨Bx, nq, k1, (hg.block Bx (lt_of_block k2) (fun e => by obtain ⟨o, ho, hc⟩ := (hr Bx e.symm).2; rw [k2] at ho; cases ho; cases hc)).trans k2, k3⟩)
          ?assign ?body ?done ?stop
        case assign =>
          rintro lp pre ⟨⟨j, y⟩, hyr, hyo⟩ W K ⟨⟨k1, k2, k3, k4⟩, k5, k6⟩ hK
          simp only [encC]
          gi_wp2
          have hbA : Below W.heap.size W (W.alloc (cdB y)) := ba _ (Below.refl _ _)
          exact hK _ _ (keeps_below hbA) (LX.of_lr (LR.of_below hbA (by omega)) (.inl rfl)) ⟨⟨k1.below hbA, k2.alloc _, k3.alloc _, k4.alloc _⟩, lx_t k5 (LX.of_lr (LR.of_below hbA (by omega)) (.inl rfl)), Nat.le_trans k6 hbA.size⟩ ⟨W.heap.size, _, by omega, heap_alloc_new _ _, rfl⟩
        case body =>
          rintro lp pre ⟨⟨j, y⟩, hyr, hyo⟩ a' W hlp _ ⟨⟨k1, k2, k3, k4⟩, k5, k6⟩ ⟨Bx, nq, hBx, bX, rfl⟩ hlt
          have hlr : LR B b w W := k5.to_lr HLR5.out (fun i hi => hi.imp id (fun e => by omega))
          have hin := HI.out.next hlr
          have HSN := Lib.hid (backL_snoc fails (S2, holds) pre ⟨(j, y), hyr, hyo⟩)
          have hbl := backL_len G2.out F2.out H2.out pre (by omega)
          obtain ⟨R0, hR0⟩ : ∃ q, q = backL fails (S2, holds) pre := ⟨_, rfl⟩
          rw [← hR0] at HSN k1 k2 hbl
          have HT : Hid (∀ V, Below W.heap.size W V → Calls Tryz.prog 46 #[ptrV b, .agg #[.int .i64 y.arg, .int .i64 y.cmp, .int .u64 (y.mask : Nat), .int .u64 (y.value : Nat)], .int .i64 R0.2, .int .i64 fails] V fun e w' => e = .returned (.int .i64 (testS R0.1.s y R0.2 fails).2) ∧ LwAt w' b rv df m ⟨(testS R0.1.s y R0.2 fails).1, R0.1.E, R0.1.n⟩ ∧ Chg b W w') := Lib.hid (fun V hV => by
            have hin' := hin.next (LR.of_below (b := b) hV (by omega))
            refine (dtest_any y R0.2 fails V (k1.below hV).1 hbl hin'.opsAt hin'.tab hyr hyo).mono ?_
            rintro e w' ⟨rfl, hd, hc⟩
            exact ⟨rfl, (k1.below hV).draft hd hc HI.out.hne, (Chg.of_below hV).trans hc⟩)
          have K1 := Lib.hid k1
          have K2 := Lib.hid k2
          have K3 := Lib.hid k3
          have K4 := Lib.hid k4
          have K5 := Lib.hid k5
          have cL := k4.cell
          have cH := k2.cell
          have fH := k2.frozen
          have cF := k3.cell
          obtain ⟨y0, y1, y2, y3⟩ := cdX bX
          have hghW : gh < W.heap.size := k2.lt
          clear k1 k2 k3 k4 k5 hR0 hin
          gi_wp2
          refine region_round (S := fun V => V.cell? ⟨pl, 0, none⟩ = some (ptrV b) ∧ V.cell? ⟨Bx, 0, none⟩ = some (.int .i64 y.arg) ∧ V.cell? ⟨Bx, 1, none⟩ = some (.int .i64 y.cmp) ∧ V.cell? ⟨Bx, 2, none⟩ = some (.int .u64 (y.mask : Nat)) ∧ V.cell? ⟨Bx, 3, none⟩ = some (.int .u64 (y.value : Nat)) ∧ V.cell? ⟨gf, 0, none⟩ = some (.int .i64 fails))
            (by kernel_rfl) (by kernel_rfl) (by rintro ⟨_, _, h⟩; exact h) ⟨cL, y0, y1, y2, y3, cF⟩ (fun hHeld => ?_)
          refine zheld_take (i := 0) (v := ptrV b) (some 27) rfl rfl (by kernel_rfl) (by kernel_rfl) (by kernel_rfl) (fun _ _ _ h => h) (.inl ⟨by rfl, fun V hV => by obtain ⟨s0, _, _, _, _, _⟩ := hV; go_simp⟩) hHeld ?_
          simp only [Act.put, List.setIfInBounds_toArray, List.set_cons_zero, List.set_cons_succ]
          refine zheld_take (i := 1) (v := ptrV b) (some 28) rfl rfl (by kernel_rfl) (by kernel_rfl) (by kernel_rfl) (fun _ _ _ h => h) (.inl ⟨by rfl, fun V hV => by go_simp⟩) hHeld ?_
          simp only [Act.put, List.setIfInBounds_toArray, List.set_cons_zero, List.set_cons_succ]
          refine zheld_take (i := 2) (v := ptrV b) (some 29) rfl rfl (by kernel_rfl) (by kernel_rfl) (by kernel_rfl) (fun _ _ _ h => h) (.inl ⟨by rfl, fun V hV => by go_simp⟩) hHeld ?_
          simp only [Act.put, List.setIfInBounds_toArray, List.set_cons_zero, List.set_cons_succ]
          refine zheld_take (i := 3) (v := .agg #[.int .i64 y.arg, .int .i64 y.cmp, .int .u64 (y.mask : Nat), .int .u64 (y.value : Nat)]) (some 30) rfl rfl (by kernel_rfl) (by kernel_rfl) (by kernel_rfl) (fun _ _ _ h => h) (.inl ⟨by rfl, fun V hV => by obtain ⟨_, s1, s2, s3, s4, _⟩ := hV; go_simp⟩) hHeld ?_
          simp only [Act.put, List.setIfInBounds_toArray, List.set_cons_zero, List.set_cons_succ]
          refine zheld_take (i := 5) (v := .int .i64 fails) (some 32) rfl rfl (by kernel_rfl) (by kernel_rfl) (by kernel_rfl) (fun _ _ _ h => h) (.inl ⟨by rfl, fun V hV => by obtain ⟨_, _, _, _, _, s5⟩ := hV; go_simp⟩) hHeld ?_
          simp only [Act.put, List.setIfInBounds_toArray, List.set_cons_zero, List.set_cons_succ]
          have cHd : W.drew.cell? ⟨gh, 0, none⟩ = some (.int .i64 R0.2) := cH
          refine wpAnyH_ready (rs := [4]) (by kernel_rfl) (by simp) ?_
          refine AllReadyH.cons rfl (fun K hK => ?_) AllReadyH.nil
          go_simp
          refine hK.out _ _ hHeld (fun hHeld => ?_)
          clear hK K
          refine wpAnyH_ready (rs := [6]) (by kernel_rfl) (by simp) ?_
          refine AllReadyH.cons rfl (fun K hK => ?_) AllReadyH.nil
          go_simp
          refine (HT.out _ (Below.refl W.heap.size W).drew).mono ?_
          rintro e w9 ⟨rfl, hw9, hc9⟩
          have hbH : Boxed w9 gh 3 (.int .i64 R0.2) := hc9.keep K2.out (by omega)
          have hbF : Boxed w9 gf 3 (.int .i64 fails) := hc9.keep K3.out (by omega)
          have hbL : Boxed w9 pl 108 (ptrV b) := hc9.keep K4.out (by omega)
          have hbX := hc9.keep bX (by omega)
          have hS9 := And.intro hbL.cell (And.intro (cell_in hbX 0) (And.intro (cell_in hbX 1) (And.intro (cell_in hbX 2) (And.intro (cell_in hbX 3) hbF.cell))))
          have HW9 := Lib.hid hw9
          have HC9 := Lib.hid hc9
          have HBF := Lib.hid hbF
          have HBL := Lib.hid hbL
          have HBX := Lib.hid hbX
          have HS9 := Lib.hid hS9
          have cH9 := hbH.cell
          have fH9 := hbH.frozen
          have hput := hrow_cell hbH 0 (.int .i64 (testS R0.1.s y R0.2 fails).2)
          have HP := Lib.hid hput
          clear hw9 hc9 hbF hbL hbX hS9 hHeld cL cH cF fH cHd y0 y1 y2 y3 hput
          go_simp
          refine hK.out _ _ HS9.out (fun hHeld => ?_)
          clear hK K hHeld
          refine wpAnyH_ready (rs := [7]) (by kernel_rfl) (by simp) ?_
          refine AllReadyH.cons rfl (fun K hK => ?_) AllReadyH.nil
          go_simp
          have bF' : Boxed (w9.setCell ⟨gh, 0, none⟩ (.int .i64 (testS R0.1.s y R0.2 fails).2)) gf 3 (.int .i64 fails) := HP.out.keep (by omega) HBF.out
          have bL' : Boxed (w9.setCell ⟨gh, 0, none⟩ (.int .i64 (testS R0.1.s y R0.2 fails).2)) pl 108 (ptrV b) := HP.out.keep (by omega) HBL.out
          have bX' := HP.out.keep (show Bx ≠ gh by omega) HBX.out
          refine hK.out _ _ (And.intro bL'.cell (And.intro (cell_in bX' 0) (And.intro (cell_in bX' 1) (And.intro (cell_in bX' 2) (And.intro (cell_in bX' 3) bF'.cell))))) (fun hHeld => ?_)
          clear hK K hHeld
          refine wpAnyH_done (by kernel_rfl) ?_ _
          obtain ⟨vb, hvb, _, _⟩ := K1.out.1
          have bH9 : Boxed w9 gh 3 (.int .i64 R0.2) := HC9.out.keep K2.out (by omega)
          refine ⟨(keeps_chg HC9.out hvb).trans ((KeepsOthers.setCell _ _ _).from _), ?_, ⟨?_, ?_, bF', bL'⟩, ?_, ?_⟩
          · exact lx_t (LX.of_lr (LR.of_chg HC9.out (by omega) HI.out.hb) (.inl rfl)) ⟨HP.out.below (Below.refl _ _) (by omega), fun q cs t fr hq hn => HP.out.keep (fun e => hn (.inr e)) hq⟩
          · rw [HSN.out]
            exact HW9.out.box_put bH9 HP.out (by omega)
          · rw [HSN.out]
            exact HP.out.row
          · exact lx_t K5.out (lx_t (LX.of_lr (LR.of_chg HC9.out (by omega) HI.out.hb) (.inl rfl)) ⟨HP.out.below (Below.refl _ _) (by omega), fun q cs t fr hq hn => HP.out.keep (fun e => hn (.inr e)) hq⟩)
          · rw [HP.out.size]
            exact Nat.le_trans k6 HC9.out.size
        case done =>
          rintro D ys W hD rfl ⟨⟨k1, k2, k3, k4⟩, k5, k6⟩ hK
          have hall : backL fails (S2, holds) (downK (elC x.conds (fun c hc => ⟨HXR.out c hc, HXO.out.2.2.2 c hc⟩)) x.conds.length x.conds.length) = r := by
            unfold backL
            rw [HEE.out, ← List.map_reverse, down_all _ _ x.conds (fun j hj => by unfold elC; rw [dif_pos hj])]
          rw [hall] at k1 k2
          have hlr : LR B b w W := k5.to_lr HLR5.out (fun i hi => hi.imp id (fun e => by omega))
          have cH := k2.cell
          gi_wp2
          go_wp2_with fail
          refine ⟨by simp, .inl ⟨_, _, rfl, run_takeDeferred hK, ?_⟩⟩
          have hg := grownBy_putObj' W D (.deferred none)
          have hr : ∀ r, some D = some r → W5.heap.size ≤ r ∧ ∃ o : Obj, W.heap[r]? = some o ∧ o.isCells = false := fun r e => by cases e; exact ⟨hD, _, hK, rfl⟩
          refine ⟨_, results_tmp rfl _ _ _, rfl, k1.row_grown hg (D := W5.heap.size) (by omega) hr, hlr.trans (LR.of_grown hg (by omega) (fun r e => ⟨by have := (hr r e).1; omega, (hr r e).2⟩))⟩
        case stop =>
          rintro D c pre W _ _ h _
          exact h.elim
end Go.Proofs.YtbekkdhlfkongaaGreatDoor
/-
  The keys of a map of groups, collected in whatever order.
-/
namespace Go.Proofs.YtbekkdhlfkongaaGreatDoor
open Go.ChangeShapes Go.WideShapes Go.ChangeAt Go.RowKit Go.Shelf Go.Maps
set_option maxRecDepth 20000
attribute [local go_sem] Oper.semAt_some

abbrev encW (x : Nat) : Value := .int .u32 (x : Nat)
theorem nodup_len : ∀ (l m : List Nat), l.Nodup → (∀ x ∈ l, x ∈ m) → l.length ≤ m.length
  | [], _, _, _ => Nat.zero_le _
  | x :: l, m, hn, hs => by
    have hx := hs x List.mem_cons_self
    have ih := nodup_len l (m.erase x) (List.nodup_cons.1 hn).2 (fun y hy => by
      have hne : y ≠ x := fun e => (List.nodup_cons.1 hn).1 (e ▸ hy)
      exact (List.mem_erase_of_ne hne).2 (hs y (List.mem_cons_of_mem _ hy)))
    rw [List.length_erase_of_mem hx] at ih
    have := List.length_pos_of_mem hx
    rw [List.length_cons]
    omega
/-- No key twice; a key is on the list just where the map has it and it is no longer to come. -/
def CollU (D0 : DataW Value) (left : Lit → Bool) (ss : List Nat) : Prop := ss.Nodup ∧ ∀ x, x ∈ ss ↔ (Maps.has D0 (keyU x) = true ∧ left (keyU x) = false)
theorem CollU.start (D0 : DataW Value) : CollU D0 (Maps.has D0) [] := ⟨List.nodup_nil, fun x => by cases Maps.has D0 (keyU x) <;> simp⟩
theorem sameKeyU (x y : Nat) : (keyU y).sameKey (keyU x) = decide (y = x) := by
  unfold keyU
  by_cases h : y = x
  · subst h; simp [Lit.sameKey]
  · simp [Lit.sameKey, h]
    omega
theorem CollU.step {D0 : DataW Value} {left : Lit → Bool} {ss : List Nat} (h : CollU D0 left ss) {x : Nat} {y : DataW Value} (hlk : left (keyU x) = true) (hat : ∀ zd, D0.atKey (keyU x) zd = y) : CollU D0 (fun z => left z && !z.sameKey (keyU x)) (ss ++ [x]) := by
  have hhas : Maps.has D0 (keyU x) = true := Maps.has_true_of_atKey hat
  have hnew : x ∉ ss := fun hx => by have := ((h.2 x).1 hx).2; rw [hlk] at this; cases this
  refine ⟨List.nodup_append.2 ⟨h.1, by simp, fun a ha b hb => by simp at hb; subst hb; exact fun e => hnew (e ▸ ha)⟩, fun y => ?_⟩
  by_cases hy : y = x
  · subst hy; simp [hhas, sameKeyU]
  · simp [h.2 y, hy, sameKeyU]
set_option maxRecDepth 100000 in
set_option maxHeartbeats 2000000 in
theorem keysU1_in (n : Nat) (hn : 1 ≤ n) (l Bm b nn : Nat) (D0 : DataW Value) (L0 : List Nat) (hL0 : ∀ x, Maps.has D0 (keyU x) = true → x ∈ L0) (J Jx : List Nat → World → Prop)
    (hY : ∀ pre x W, J pre W → pre.length < L0.length → YieldAt Fence.wide (n - 1) Tryz.prog l #[encW x] W fun e W' => (e = .returned (.bool true) ∧ J (pre ++ [x]) W' ∧ KeepsWalks W W') ∨ (e = .returned (.bool false) ∧ Jx (pre ++ [x]) W'))
    (W : World) (hJ : AbidesFrom W.heap.size J) (hm : W.cell? ⟨Bm, 0, none⟩ = some (.map (some b))) (hown : W.ownsMap Tryz.prog 23 fnR b nn D0) (h0 : J [] W) :
    CallsIn Fence.wide n Tryz.prog 133 #[.func (.yield l) #[] #[], .pointer (some ⟨Bm, 0, none⟩)] W fun e W' => (∃ v, e = .returned v) ∧
      ((∃ ss : List Nat, (ss.Nodup ∧ ∀ x, x ∈ ss ↔ Maps.has D0 (keyU x) = true) ∧ J ss W') ∨ (∃ pre, True ∧ Jx pre W')) := by
  have HY := Lib.hid hY
  have HJ := Lib.hid hJ
  clear hY hJ
  refine callsIn_of_wp Tryz.func133 rfl trivial ?_ rfl
  simp only [Tryz.ntmps133, List.size_toArray, List.length_cons, List.length_nil, Nat.reduceAdd, Nat.reduceSub, Array.replicate_succ, Array.replicate_zero, List.push_toArray, List.append_toArray, List.nil_append, List.cons_append]
  gi_wp2_with (first
    | (gi_at_range; refine wpListIn_range_own _ rfl _ 105 rfl 23 22 keyU_keyed Tryz.underlying105 fnR b nn D0 rfl hown ?_; intro w0 hrg0 hg0 hs0)
    | gi_in)
  go_frame
  gi_loopw [3] (fun _ wr => ∃ (left : Lit → Bool) (cnt : Nat) (ss : List Nat), wr.ranges Tryz.prog 23 fnR b W.heap.size nn D0 left cnt ∧ CollU D0 left ss ∧ J ss wr)
    (fun _ wr => wr.rangeLeft b W.heap.size)
  case atStart =>
    exact ⟨_, _, [], hrg0, CollU.start D0, HJ.out [] W w0 none h0 hg0 (fun r e => by cases e)⟩
  case round =>
    obtain ⟨left, cnt, ss, hrg, hC, hJs⟩ := hrel
    gi_wp2_with (first
      | (gi_at_next; refine wpListIn_next_ranges _ rfl _ rfl 23 keyU_keyed fnR (fun x : Int => Value.int .u32 x) id (fun key kl hk => by obtain ⟨x, hx, _⟩ := Maps.keyOf_int_inv Tryz.underlying23 hk; exact ⟨x, hx⟩) (fun v _ _ => ⟨v, rfl⟩) b W.heap.size nn _ _ _ rfl hrg ?_ ?_)
      | gi_in)
    · -- nothing is left
      intro hc0 hl0
      gi_wp2
      go_end0
      exact ⟨⟨_, rfl⟩, .inl ⟨ss, ⟨hC.1, fun x => by rw [hC.2 x, hl0]; simp⟩, hJs⟩⟩
    · -- an entry has come
      intro x c kl yd yp w2 cnt2 hkey hlk hv hat hrg2 hlt hg2 hs2 hen
      obtain ⟨x', ex, rfl, hwf⟩ := Maps.keyOf_int_inv Tryz.underlying23 hkey
      have ex : Value.int .u32 x = Value.int .u32 x' := ex
      obtain ⟨rfl⟩ : x = x' := by injection ex
      obtain ⟨k, rfl⟩ : ∃ k : Nat, x = (k : Nat) := by
        have h0 : 0 ≤ x := by
          have h := hwf
          simp [Lit.wf, IntKind.min, IntKind.max, IntKind.signed, IntKind.bits] at h
          omega
        exact ⟨x.toNat, by omega⟩
      have hJ2 : J ss w2 := HJ.out ss wr w2 (some W.heap.size) hJs hg2 (fun r e => by cases e; exact ⟨Nat.le_refl _, hrg.iter_walk⟩)
      have hC2 := hC.step (x := k) hlk hat
      have hlen : ss.length < L0.length := by
        have h1 := nodup_len (ss ++ [k]) L0 hC2.1 (fun z hz => hL0 z ((hC2.2 z).1 hz).1)
        rw [List.length_append, List.length_singleton] at h1
        omega
      obtain ⟨fn, tmps, assign, body, hy, hR⟩ := HY.out ss k w2 hJ2 hlen
      have HR := Lib.hid hR
      have HRG2 := Lib.hid hrg2
      have HRG := Lib.hid hrg
      clear hs2 hR hrg2 hrg hJ2
      gi_wp2
      refine HR.out.mono ?_
      rintro e W3 (⟨rfl, hJ3, hk3⟩ | ⟨rfl, hJx3⟩)
      · have hrg3 := HRG2.out.of_walks hk3
        gi_wp2
        go_roundw
        case rel => exact ⟨_, cnt2, ss ++ [k], hrg3, hC2, hJ3⟩
        case measure => rw [hrg3.left_eq, HRG.out.left_eq]; exact hlt
      · gi_wp2
        refine bodyPost_ret (results_none rfl _ _ _) rfl ?_
        exact ⟨⟨_, rfl⟩, .inr ⟨_, trivial, hJx3⟩⟩
theorem keysU_in (n : Nat) (mb : Nat) (w : World) :
    CallsIn Fence.wide n Tryz.prog 95 #[.map (some mb)] w fun e w' => e = .returned (.func (.func 133) #[] #[.pointer (some ⟨w.heap.size, 0, none⟩)]) ∧ w' = w.alloc (.cells #[.map (some mb)] 105) := by
  refine callsIn_of_wp Tryz.func95 rfl trivial ?_ rfl
  simp only [Tryz.ntmps95, List.size_toArray, List.length_cons, List.length_nil, Nat.reduceAdd, Nat.reduceSub, Array.replicate_succ, Array.replicate_zero, List.push_toArray, List.append_toArray, List.nil_append, List.cons_append]
  gi_wp2
  go_ret
  exact ⟨rfl, rfl⟩
theorem keysU_stops (n : Nat) (hn : 1 ≤ n) (Bm b nn : Nat) (D0 : DataW Value) (L0 : List Nat) (hL0 : ∀ x, Maps.has D0 (keyU x) = true → x ∈ L0) (w : World) (hBm : Bm < w.heap.size) (hm : w.cell? ⟨Bm, 0, none⟩ = some (.map (some b))) (hown : w.ownsMap Tryz.prog 23 fnR b nn D0) :
    SeqStopsK Fence.wide n Tryz.prog 133 #[.pointer (some ⟨Bm, 0, none⟩)] (fun x : Nat => #[encW x]) KeepsWalks (fun ss => ss.Nodup ∧ ∀ x, x ∈ ss ↔ Maps.has D0 (keyU x) = true) (fun _ => True) L0.length w := fun l J Jx W hW hJ _ hY h0 =>
  keysU1_in n hn l Bm b nn D0 L0 hL0 J Jx hY W hJ ((hW.cell (p := ⟨Bm, 0, none⟩) hBm).trans hm) (own_map_u32 hown (hW.block _ hown.lt)) h0
theorem zinfoU : (Tryz.prog.info? 23).map (fun i => (i.zero, i.size, i.bytes)) = some (some (.int .u32 0), 1, 4) := by kernel_rfl
set_option maxRecDepth 100000 in
set_option maxHeartbeats 4000000 in
/-- What the iterator gives, one behind the other, in a row of the call's own. -/
theorem appendU_in (g : Nat) (lb : Array Value) (eg : ∀ args w, (callFunc g args).run Tryz.prog w = .ok (.enter g args) w) (S Sp : List Nat → Prop) (N : Nat) (hN : N ≤ 100000) (w : World) (hseq : ∀ k, 1 ≤ k → SeqStopsK Fence.wide k Tryz.prog g lb (fun x : Nat => #[encW x]) KeepsWalks S Sp N w) :
    Calls Tryz.prog 153 #[.slice none 0 0, .func (.func g) #[] lb] w fun e w' => ∃ (v : Value) (ss : List Nat), e = .returned v ∧ S ss ∧ w'.ownsRow w.heap.size 23 1 v ss.length (ss.map encW) ∧ Below w.heap.size w w' := by
  refine (callsIn_wide (n := 6)).1 ?_
  obtain ⟨i0, hi, hz0, hz1, hz2⟩ := info_parts zinfoU
  refine callsIn_of_wp_marks Tryz.func153 rfl trivial ?_ rfl
  simp only [Tryz.ntmps153, List.size_toArray, List.length_cons, List.length_nil, Nat.reduceAdd, Nat.reduceSub, Array.replicate_succ, Array.replicate_zero, List.push_toArray, List.append_toArray, List.nil_append, List.cons_append]
  gi_wp2
  have bS := Boxed.new w 106 (.slice none 0 0)
  have hB0 : Below w.heap.size w (w.alloc (.cells #[.slice none 0 0] 106)) := ba _ (Below.refl _ _)
  have hsz : (w.alloc (.cells #[.slice none 0 0] 106)).heap.size = w.heap.size + 1 := by simp
  obtain ⟨W0, hW0⟩ : ∃ W0, w.alloc (.cells #[.slice none 0 0] 106) = W0 := ⟨_, rfl⟩
  rw [hW0] at bS hB0 hsz ⊢
  clear hW0
  refine wpIn_rangeFunc_ownF rfl (by omega) (gf := g) (lb := lb) rfl trivial eg (hseq _ (by omega)) walksK_t walksK_b hB0 (fun _ => rfl)
    (fun pre W => (∃ v, Boxed W w.heap.size 106 v ∧ W.ownsRow w.heap.size 23 1 v pre.length (pre.map encW) ∧ (v = .slice none 0 0 ↔ pre = [])) ∧ Below w.heap.size w W)
    (fun _ _ _ => False)
    (OwnFrom.and (Own.from (holdsRow_own w.heap.size w.heap.size 106 23 1 (fun pre => pre.length) (fun pre => pre.map encW) (fun pre v => (v = .slice none 0 0 ↔ pre = []))) _) (ownFrom_below (Nat.le_refl _) (by omega)))
    (fun _ _ _ _ _ hs _ _ => hs)
    ⟨⟨_, bS, World.ownsRow_nil _ _ _ _, by simp⟩, hB0⟩
    (fun x => { tmps := #[.slice none 0 0, .func (.func g) #[] lb, .pointer (some ⟨w.heap.size, 0, none⟩), undef, .slice none 0 0, encW x, .func (.func g) #[] lb, encW x, undef, undef, undef, undef, undef], defers := [] })
    ?assign ?body ?done ?stop
  case assign =>
    intro l x W K hK
    gi_wp2
    exact hK
  case body =>
    rintro l pre x W ⟨⟨v, hv, hrow, hnil⟩, hB⟩ hlen
    have cV := hv.cell
    have hlt := hv.lt
    obtain ⟨va, vc, hve⟩ := own_shape hrow
    subst hve
    gi_wp2_with (first
      | (gi_at_builtin; refine wpListIn_append_own _ rfl _ _ 106 rfl w.heap.size 23 i0 (.int .u32 0) 1 4 Tryz.underlying106 hi hz0 hz1 hz2 rfl (by decide) _ _ _ rfl (hrow.alloc _) ⟨W.heap.size, 0, none⟩ 1 1 [encW x] rfl rfl (cell_one_new _ _ _) (by simp [Value.oneCell', encW]) (by unfold maxLen; omega) (by omega) (by have := hB.size; simp; omega) ?_; intro v' w1 hown' hgrow _; obtain ⟨g', cap', rfl⟩ := ownsRow_succ hown'; obtain ⟨hv1, hv2, hr2, hk2, hb2⟩ := hv.appended (by decide) hrow hB.size (Nat.le_refl _) hown' hgrow; have hc1 := hv1.cell; have hf1 := hv1.frozen)
      | gi_in)
    exact ⟨hk2, hk2.walks, ⟨_, hv2, by simpa using hr2, by simp⟩, hB.trans hb2⟩
  case done =>
    rintro D xs W hD hS ⟨⟨v, hv, hrow, _⟩, hB⟩ hK
    have cV := hv.cell
    gi_wp2
    refine ⟨by simp, .inl ⟨_, _, rfl, run_takeDeferred hK, ?_⟩⟩
    exact ⟨_, results_tmp rfl _ _ _, v, xs, rfl, hS, ownsRow_putObj hrow _ hK rfl, hB.trans (belowK_b (w := w) (Nat.le_refl _) W D _ _ (by omega) hK rfl rfl)⟩
  case stop =>
    rintro D c pre W _ _ h _
    exact h.elim
end Go.Proofs.YtbekkdhlfkongaaGreatDoor
/-
  slices.Sort at numbers: where the numbers lie, less, the sort by insertion.
-/
namespace Go.Proofs.YtbekkdhlfkongaaGreatDoor
open Go.ChangeShapes Go.WideShapes Go.ChangeAt Go.RowKit Go.Shelf
set_option maxRecDepth 20000

/-- Numbers in a block of the call's own. -/
structure US (base : Nat) (w : World) (g n C : Nat) (d : Array Int) (wr : World) : Prop where
  len : d.size = n
  below : Below base w wr
  hold : ∃ cur, wr.heap[g]? = some (.cells cur 23 (0, 0)) ∧ cur.size = C ∧ ∀ t, t < n → cur[t]? = some (.int .u32 d[t]!)
theorem US.cell {base g n C : Nat} {w wr : World} {d : Array Int} (h : US base w g n C d wr) {G : Nat → Int} (hG : ∀ t, G t = d[t]!) : ∀ t, t < n → wr.cell? ⟨g, t, none⟩ = some (.int .u32 (G t)) := fun t ht => by
  obtain ⟨cur, hh, _, hc⟩ := h.hold
  rw [cell_in hh, hc t ht, hG]
theorem US.free {base g n C : Nat} {w wr : World} {d : Array Int} (h : US base w g n C d wr) : ∀ t, t < n → wr.frozen? ⟨g, t, none⟩ = false := fun t _ => by
  obtain ⟨cur, hh, _, _⟩ := h.hold
  exact free_in hh t
theorem US.drew {base g n C : Nat} {w wr : World} {d : Array Int} (h : US base w g n C d wr) (q : Nat) : US base w g n C d (wr.drewN q) := ⟨h.len, bdN h.below q, h.hold⟩
theorem US.trans {base g n C : Nat} {w wr w' : World} {d d' : Array Int} (h : US base w g n C d wr) (h' : US base wr g n C d' w') : US base w g n C d' w' := ⟨h'.len, h.below.trans h'.below, h'.hold⟩
theorem US.here {base g n C : Nat} {w wr : World} {d : Array Int} (h : US base w g n C d wr) : US base wr g n C d wr := ⟨h.len, Below.refl _ _, h.hold⟩
theorem set_block {w : World} {g : Nat} {cur : Array Value} {e : TypeId} {fr : Nat × Nat} (h : w.heap[g]? = some (.cells cur e fr)) (i : Nat) (u : Value) : (w.setCell ⟨g, i, none⟩ u).heap[g]? = some (.cells (cur.setIfInBounds i u) e fr) := by
  simp only [World.setCell, Array.getElem?_modify, h]
  simp
theorem US.swap {base g n C : Nat} {w wr : World} {d : Array Int} (h : US base w g n C d wr) {G : Nat → Int} (hG : ∀ t, G t = d[t]!) (hb : base ≤ g) {i j : Nat} (hi : i < n) (hj : j < n) :
    US base w g n C (Sort.swp d i j) (((wr.setCell ⟨g, i, none⟩ (.int .u32 (G j))).setCell ⟨g, j, none⟩ (.int .u32 (G i))).drew) := by
  obtain ⟨cur, hh, hs, hc⟩ := h.hold
  refine ⟨by rw [Sort.size_swp]; exact h.len, ((h.below.setCell (p := ⟨g, i, none⟩) hb _).setCell (p := ⟨g, j, none⟩) hb _).drew, _, set_block (set_block hh i _) j _, by simp [hs], fun t ht => ?_⟩
  have hl := h.len
  rw [hG, hG]
  unfold Sort.swp
  have hct := hc t ht
  obtain ⟨hlt, _⟩ := Array.getElem?_eq_some_iff.1 hct
  rw [Array.getElem?_setIfInBounds, Array.getElem?_setIfInBounds]
  by_cases e1 : j = t
  · subst e1
    rw [Sort.getElem!_set_same _ _ _ (by simp; omega)]
    simp [hlt]
  · rw [if_neg e1, Sort.getElem!_set_other _ _ _ _ (fun e => e1 e.symm)]
    by_cases e2 : i = t
    · subst e2
      rw [Sort.getElem!_set_same _ _ _ (by omega)]
      simp [hlt]
    · rw [if_neg e2, Sort.getElem!_set_other _ _ _ _ (fun e => e2 e.symm)]
      exact hct

/-! ### Less -/
theorem unan (x : Int) (w : World) : Calls Tryz.prog 180 #[.int .u32 x] w fun e w' => e = .returned (.bool false) ∧ w' = w := by
  go_enter Tryz.func180, Tryz.ntmps180
  go_wp2
  go_ret
  exact ⟨by simp, rfl⟩
theorem uless (x y : Int) (w : World) : Calls Tryz.prog 166 #[.int .u32 x, .int .u32 y] w fun e w' => e = .returned (.bool (Sort.ltInt x y)) ∧ w' = w := by
  go_enter Tryz.func166, Tryz.ntmps166
  go_wp2_with (first | (go_at_call 180; refine (unan _ _).mono ?_; rintro e w' ⟨rfl, rfl⟩))
  go_ret
  exact ⟨rfl, rfl⟩
/-! ### insertionSortOrdered -/
set_option maxHeartbeats 16000000 in
set_option maxRecDepth 100000 in
theorem uins_any {base g n C cap a b : Nat} {d : Array Int} (w : World) (hU : US base w g n C d w) (hbg : base ≤ g) (hab : a ≤ b) (hb : b ≤ n) (hn : n ≤ 64) :
    Calls Tryz.prog 160 #[.slice (some ⟨g, 0, none⟩) n cap, .int .i64 a, .int .i64 b] w fun e w' => e = .returned (.tuple #[]) ∧ US base w g n C (Sort.insertionSort Sort.ltInt d a b) w' := by
  have HU0 := Lib.hid hU
  clear hU
  go_enter Tryz.func160, Tryz.ntmps160
  go_wp2
  go_loopw [6] (fun vi wr => ∃ (i : Nat) (dk : Array Int), vi = .int .i64 i ∧ a < i ∧ i ≤ b + 1 ∧ Hid (US base w g n C dk wr) ∧ Hid (Sort.insOuter Sort.ltInt a b i dk = Sort.insertionSort Sort.ltInt d a b)) (fun vi _ => b + 1 - (Lib.intOf vi).toNat)
  case atStart => exact ⟨a + 1, d, by go_num, by omega, by omega, HU0, Lib.hid rfl⟩
  case round =>
    obtain ⟨i, dk, rfl, hai, hib, HU, HO⟩ := hrel
    by_cases hlt : i < b
    · have l0 : (i : Int) < (b : Int) := by omega
      go_wp2_with fail
      go_loopw [7] (fun vj wr => ∃ (j : Nat) (dj : Array Int), vj = .int .i64 j ∧ a ≤ j ∧ j ≤ i ∧ Hid (US base w g n C dj wr) ∧ Hid (Sort.insInner Sort.ltInt a j dj = Sort.insInner Sort.ltInt a i dk)) (fun vj _ => (Lib.intOf vj).toNat)
      case atStart => exact ⟨i, dk, rfl, by omega, Nat.le_refl _, HU, Lib.hid rfl⟩
      case round =>
        obtain ⟨j, dj, rfl, haj, hji, HUj, HI⟩ := hrel
        have out : (j ≤ a ∨ Sort.ltInt dj[j]! dj[j - 1]! = false) → Sort.insOuter Sort.ltInt a b (i + 1) dj = Sort.insertionSort Sort.ltInt d a b := fun hs => by
          rw [← HO.out, insOuter_go _ _ _ _ _ hlt, ← HI.out, insInner_stop _ _ _ _ hs]
        have OUT := Lib.hid out
        obtain ⟨G, hG⟩ : ∃ G : Nat → Int, ∀ t, G t = dj[t]! := ⟨fun t => dj[t]!, fun _ => rfl⟩
        have HG := Lib.hid hG
        have hcw := HUj.out.cell hG
        have hfw := HUj.out.free
        clear out hG
        by_cases hja : a < j
        · have l1 : (a : Int) < (j : Int) := by omega
          have m0 : (0 : Int) ≤ (j : Int) := by omega
          have m1 : (j : Int) < (n : Int) := by omega
          have m2 : (j : Int).toNat = j := by omega
          have k0 : (0 : Int) ≤ (j : Int) - 1 := by omega
          have k1 : (j : Int) - 1 < (n : Int) := by omega
          have k2 : ((j : Int) - 1).toNat = j - 1 := by omega
          have c0 := hcw j (by omega)
          have c1 := hcw (j - 1) (by omega)
          go_wp2_with fail
          go_quiet (first | (go_at_call 166; refine Calls.quiet_of_same (uless _ _ _)))
          have HUq := Lib.hid (HUj.out.drew nq)
          generalize wr.drewN nq = wq at HUq ⊢
          clear c0 c1 hcw hfw nq
          have c0 := HUq.out.cell HG.out j (by omega)
          have c1 := HUq.out.cell HG.out (j - 1) (by omega)
          have f0 := HUq.out.free j (by omega)
          have f1 := HUq.out.free (j - 1) (by omega)
          cases hl : Sort.ltInt (G j) (G (j - 1)) with
          | true =>
            have HL := Lib.hid hl
            go_wp2_with fail
            have HS := Lib.hid (HUq.out.swap HG.out hbg (i := j) (j := j - 1) (by omega) (by omega))
            go_region
            go_wp2_with fail
            refine ⟨⟨j - 1, _, by congr 1; omega, by omega, by omega, HS, Lib.hid ?_⟩, by simp only [Lib.intOf]; omega⟩
            rw [← HI.out, insInner_go Sort.ltInt a j dj hja (by rw [← HG.out, ← HG.out]; exact HL.out)]
          | false =>
            have HL := Lib.hid hl
            go_wp2_with fail
            exact ⟨⟨i + 1, dj, by go_num, by omega, by omega, HUq, Lib.hid (OUT.out (.inr (by rw [← HG.out, ← HG.out]; exact HL.out)))⟩, by simp only [Lib.intOf]; omega⟩
        · have l1 : ¬ (a : Int) < (j : Int) := by omega
          go_wp2_with fail
          go_quiet (fail)
          have HUq := Lib.hid (HUj.out.drew nq)
          go_wp2_with fail
          exact ⟨⟨i + 1, dj, by go_num, by omega, by omega, HUq, Lib.hid (OUT.out (.inl (by omega)))⟩, by simp only [Lib.intOf]; omega⟩
    · have l0 : ¬ (i : Int) < (b : Int) := by omega
      go_wp2_with fail
      go_end0
      refine ⟨rfl, ?_⟩
      have := HO.out
      rw [insOuter_stop _ _ _ _ _ hlt] at this
      rw [← this]
      exact HU.out
end Go.Proofs.YtbekkdhlfkongaaGreatDoor
/-
  slices.Sort at numbers: what is alike to the pivot, ahead.
-/
namespace Go.Proofs.YtbekkdhlfkongaaGreatDoor
open Go.ChangeShapes Go.WideShapes Go.ChangeAt Go.RowKit Go.Shelf
set_option maxRecDepth 20000

/-! ### partitionEqualOrdered -/
set_option maxHeartbeats 16000000 in
set_option maxRecDepth 100000 in
theorem upeq_any {base g n C cap a b pivot : Nat} {d : Array Int} (w : World) (hU : US base w g n C d w) (hbg : base ≤ g) (hap : a ≤ pivot) (hpb : pivot < b) (hb : b ≤ n) (hn : n ≤ 64) :
    Calls Tryz.prog 167 #[.slice (some ⟨g, 0, none⟩) n cap, .int .i64 a, .int .i64 b, .int .i64 pivot] w fun e w' => e = .returned (.int .i64 (Sort.partitionEqual Sort.ltInt d a b pivot).1) ∧ US base w g n C (Sort.partitionEqual Sort.ltInt d a b pivot).2 w' := by
  have HU0 := Lib.hid hU
  clear hU
  obtain ⟨d1, hd1⟩ : ∃ d1, d1 = Sort.swp d a pivot := ⟨_, rfl⟩
  obtain ⟨R, hR⟩ : ∃ R, R = Sort.partitionEqual Sort.ltInt d a b pivot := ⟨_, rfl⟩
  have HR : Hid (Sort.partEqLoop Sort.ltInt a (a + 1) (b - 1) d1 = R) := Lib.hid (by rw [hR, hd1]; rfl)
  have HD1 := Lib.hid hd1
  rw [← hR]
  clear hd1 hR
  go_enter Tryz.func167, Tryz.ntmps167
  go_upto_region 1 with fail
  go_cut [8] (fun s8 wx => s8 = .int .i64 0 ∧ US base w g n C d1 wx)
  case first =>
    have p0 : (0 : Int) ≤ (pivot : Int) := by omega
    have p1 : (pivot : Int) < (n : Int) := by omega
    have p2 : (pivot : Int).toNat = pivot := by omega
    have t0 : (0 : Int) ≤ (a : Int) := by omega
    have t1 : (a : Int) < (n : Int) := by omega
    have t2 : (a : Int).toNat = a := by omega
    obtain ⟨G, hG⟩ : ∃ G : Nat → Int, ∀ t, G t = d[t]! := ⟨fun t => d[t]!, fun _ => rfl⟩
    have HS := Lib.hid (HU0.out.swap hG hbg (i := a) (j := pivot) (by omega) (by omega))
    have c0 := HU0.out.cell hG a (by omega)
    have f0 := HU0.out.free a (by omega)
    have c1 := HU0.out.cell hG pivot (by omega)
    have f1 := HU0.out.free pivot (by omega)
    clear hG
    by_cases e : a = pivot
    · subst e
      go_region
      go_wp2_with fail
      go_meet
      exact ⟨rfl, by rw [HD1.out]; exact HS.out⟩
    · have e2 : ¬ pivot = a := fun h => e h.symm
      go_region
      go_wp2_with fail
      go_meet
      exact ⟨rfl, by rw [HD1.out]; exact HS.out⟩
  case rest =>
    obtain ⟨rfl, hU1⟩ := hcut
    have HU1 := Lib.hid hU1
    clear hU1
    go_wp2_with fail
    go_loopg [9, 10] (b - 1 + 1 - (a + 1)) (fun G vi vj wr => ∃ (i j : Nat) (dk : Array Int), vi = .int .i64 i ∧ vj = .int .i64 j ∧ a < i ∧ i ≤ j + 1 ∧ j < b ∧ G = j + 1 - i ∧ Hid (US base w g n C dk wr) ∧ Hid (Sort.partEqLoop Sort.ltInt a i j dk = R))
    case atStart => exact ⟨a + 1, b - 1, d1, by go_num, by go_num, by omega, by omega, by omega, rfl, HU1, HR⟩
    case round =>
      obtain ⟨i, j, dk, rfl, rfl, hai, hij, hjb, rfl, HU, HO⟩ := hrel
      obtain ⟨G, hG⟩ : ∃ G : Nat → Int, ∀ t, G t = dk[t]! := ⟨fun t => dk[t]!, fun _ => rfl⟩
      have HG := Lib.hid hG
      obtain ⟨i2, hi2⟩ : ∃ i2, i2 = Sort.scanUp (fun x => !Sort.ltInt dk[a]! x) dk j i := ⟨_, rfl⟩
      obtain ⟨j2, hj2⟩ : ∃ j2, j2 = Sort.scanDown (fun x => Sort.ltInt dk[a]! x) dk i2 j := ⟨_, rfl⟩
      obtain ⟨u1, u2, _, _⟩ := Sort.scanUp_spec (fun x => !Sort.ltInt dk[a]! x) dk j _ i rfl
      obtain ⟨v1, v2, _, _⟩ := Sort.scanDown_spec (fun x => Sort.ltInt dk[a]! x) dk i2 j
      rw [← hi2] at u1 u2
      rw [← hj2] at v1 v2
      have u2 := u2 hij
      have v2 := v2 u2
      have HI2 := Lib.hid hi2
      have HJ2 := Lib.hid hj2
      have t0 : (0 : Int) ≤ (a : Int) := by omega
      have t1 : (a : Int) < (n : Int) := by omega
      have t2 : (a : Int).toNat = a := by omega
      clear hi2 hj2 hG
      go_upto_block 2 with fail
      go_cut [9] (fun v9 wx => v9 = .int .i64 i2 ∧ US base w g n C dk wx)
      case first =>
        go_wp2_with fail
        go_loopg [9] (j + 1 - i) (fun q vi wr => ∃ k : Nat, vi = .int .i64 k ∧ i ≤ k ∧ k ≤ j + 1 ∧ q = j + 1 - k ∧ Hid (US base w g n C dk wr) ∧ Hid (Sort.scanUp (fun x => !Sort.ltInt dk[a]! x) dk j k = i2))
        case atStart => exact ⟨i, rfl, Nat.le_refl _, hij, rfl, HU, Lib.hid HI2.out.symm⟩
        case round =>
          obtain ⟨k, rfl, hik, hkj, rfl, HUk, HK⟩ := hrel
          by_cases hle : k ≤ j
          · have l0 : (k : Int) ≤ (j : Int) := by omega
            have m0 : (0 : Int) ≤ (k : Int) := by omega
            have m1 : (k : Int) < (n : Int) := by omega
            have m2 : (k : Int).toNat = k := by omega
            have c0 := HUk.out.cell HG.out a (by omega)
            have c1 := HUk.out.cell HG.out k (by omega)
            go_wp2_with fail
            go_quiet (first | (go_at_call 166; refine Calls.quiet_of_same (uless _ _ _)))
            have HUq := Lib.hid (HUk.out.drew nq)
            generalize wr.drewN nq = wq at HUq ⊢
            clear c0 c1 nq
            cases hl : Sort.ltInt (G a) (G k) with
            | true =>
              have HL := Lib.hid hl
              go_wp2_with fail
              go_meet
              refine ⟨?_, HUq.out⟩
              rw [← HK.out, scanUp_end _ _ _ _ (.inr (by rw [← HG.out, ← HG.out, HL.out]; rfl))]
            | false =>
              have HL := Lib.hid hl
              go_wp2_with fail
              go_roundg (j + 1 - (k + 1))
              case measure => omega
              case rel => exact ⟨k + 1, by go_num, by omega, by omega, rfl, HUq, Lib.hid (by rw [← HK.out, scanUp_go _ _ _ _ hle (by rw [← HG.out, ← HG.out, HL.out]; rfl)])⟩
          · have l0 : ¬ (k : Int) ≤ (j : Int) := by omega
            have l1 : decide ((k : Int) ≤ (j : Int)) = false := decide_eq_false l0
            go_wp2_with fail
            go_quiet (fail)
            have HUq := Lib.hid (HUk.out.drew nq)
            generalize wr.drewN nq = wq at HUq ⊢
            go_wp2_with fail
            go_meet
            refine ⟨?_, HUq.out⟩
            rw [← HK.out, scanUp_end _ _ _ _ (.inl hle)]
      case rest =>
        obtain ⟨rfl, hU2⟩ := hcut
        have HU2 := Lib.hid hU2
        clear hU2
        go_upto_block 4 with fail
        go_cut [10] (fun v10 wx => v10 = .int .i64 j2 ∧ US base w g n C dk wx)
        case first =>
          go_wp2_with fail
          go_loopg [10] j (fun q vj wr => ∃ k : Nat, vj = .int .i64 k ∧ k ≤ j ∧ i2 ≤ k + 1 ∧ q = k ∧ Hid (US base w g n C dk wr) ∧ Hid (Sort.scanDown (fun x => Sort.ltInt dk[a]! x) dk i2 k = j2))
          case atStart => exact ⟨j, rfl, Nat.le_refl _, u2, rfl, HU2, Lib.hid HJ2.out.symm⟩
          case round =>
            obtain ⟨k, rfl, hkj, hik, hqk, HUk, HK⟩ := hrel
            obtain rfl := hqk.symm
            by_cases hle : i2 ≤ k
            · have l0 : (i2 : Int) ≤ (k : Int) := by omega
              have m0 : (0 : Int) ≤ (k : Int) := by omega
              have m1 : (k : Int) < (n : Int) := by omega
              have m2 : (k : Int).toNat = k := by omega
              have c0 := HUk.out.cell HG.out a (by omega)
              have c1 := HUk.out.cell HG.out k (by omega)
              go_wp2_with fail
              go_quiet (first | (go_at_call 166; refine Calls.quiet_of_same (uless _ _ _)))
              have HUq := Lib.hid (HUk.out.drew nq)
              generalize wr.drewN nq = wq at HUq ⊢
              clear c0 c1 nq
              cases hl : Sort.ltInt (G a) (G k) with
              | false =>
                have HL := Lib.hid hl
                go_wp2_with fail
                go_meet
                refine ⟨?_, HUq.out⟩
                rw [← HK.out, scanDown_end _ _ _ _ (.inr (by rw [← HG.out, ← HG.out, HL.out]))]
              | true =>
                have HL := Lib.hid hl
                go_wp2_with fail
                go_roundg (k - 1)
                case measure => omega
                case rel => exact ⟨k - 1, by congr 1; omega, by omega, by omega, rfl, HUq, Lib.hid (by rw [← HK.out, scanDown_go _ _ _ _ hle (by omega) (by rw [← HG.out, ← HG.out, HL.out])])⟩
            · have l0 : ¬ (i2 : Int) ≤ (k : Int) := by omega
              have l1 : decide ((i2 : Int) ≤ (k : Int)) = false := decide_eq_false l0
              go_wp2_with fail
              go_quiet (fail)
              have HUq := Lib.hid (HUk.out.drew nq)
              generalize wr.drewN nq = wq at HUq ⊢
              go_wp2_with fail
              go_meet
              refine ⟨?_, HUq.out⟩
              rw [← HK.out, scanDown_end _ _ _ _ (.inl hle)]
        case rest =>
          obtain ⟨rfl, hU3⟩ := hcut
          have HU3 := Lib.hid hU3
          clear hU3
          by_cases hgt : j2 < i2
          · have l0 : (j2 : Int) < (i2 : Int) := by omega
            have HBR := Lib.hid (partEq_break Sort.ltInt a i j dk HI2.out HJ2.out hgt)
            go_wp2_with fail
            go_ret
            rw [HO.out] at HBR
            rw [HBR.out]
            exact ⟨rfl, HU3.out⟩
          · have l0 : ¬ (j2 : Int) < (i2 : Int) := by omega
            have HGO := Lib.hid (partEq_go Sort.ltInt a i j dk HI2.out HJ2.out hgt)
            have hlt2 : i2 < j2 := scans_lt Sort.ltInt a i j dk (by omega) HI2.out HJ2.out (by omega)
            have m0 : (0 : Int) ≤ (i2 : Int) := by omega
            have m1 : (i2 : Int) < (n : Int) := by omega
            have m2 : (i2 : Int).toNat = i2 := by omega
            have k0 : (0 : Int) ≤ (j2 : Int) := by omega
            have k1 : (j2 : Int) < (n : Int) := by omega
            have k2 : (j2 : Int).toNat = j2 := by omega
            have e1 : ¬ i2 = j2 := by omega
            have e2 : ¬ j2 = i2 := by omega
            have c0 := HU3.out.cell HG.out i2 (by omega)
            have c1 := HU3.out.cell HG.out j2 (by omega)
            have f0 := HU3.out.free i2 (by omega)
            have f1 := HU3.out.free j2 (by omega)
            have HS := Lib.hid (HU3.out.swap HG.out hbg (i := i2) (j := j2) (by omega) (by omega))
            go_wp2_with fail
            go_region
            go_wp2_with fail
            go_roundg (j2 - 1 + 1 - (i2 + 1))
            case measure => omega
            case rel => exact ⟨i2 + 1, j2 - 1, _, by go_num, by congr 1; omega, by omega, by omega, by omega, rfl, HS, Lib.hid (by rw [← HGO.out]; exact HO.out)⟩
end Go.Proofs.YtbekkdhlfkongaaGreatDoor
