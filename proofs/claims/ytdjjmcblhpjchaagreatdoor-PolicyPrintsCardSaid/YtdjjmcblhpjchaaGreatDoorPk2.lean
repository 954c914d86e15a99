/-
  What the laws' texts use, joined.
-/
import Derived.Test.YtdjjmcblhpjchaaGreatDoorProg
import Derived.WalkKit
import Derived.Laws.BitsAllLaws
import Derived.RowKit
import Derived.ProofKit
import Derived.Lib.Hide
import Derived.Laws.Rows
import Derived.Laws.ResultCell
import Derived.Laws.Entries
import Derived.Handy
import Derived.OwnWalk
import Derived.Laws.OwnMore
import Derived.Deep.Draws
import Derived.Laws.IdiomStrings
import Derived.Lib.BufferRead
import Derived.Maps.OwnSet
import Derived.BigQuiet
import Derived.IntWalk
import Derived.Deep.RegionHeld3
import Derived.BigRegion
import Derived.Lib.OthersKept
import Derived.Lib.QuietBelow
import Derived.Shelf.Strings.Builder1
import Derived.Shelf.Strings.Search1
import Derived.Lib.IndexLaws
import Derived.Laws.Tables
import Derived.Deep.DeepCutAuto
import Derived.Test.YtdjjmcblhpjchaaGreatDoorPk1
/-
  Policies, plainly: rules and their lines, policies and their texts, and what is read of a text.
-/
namespace Go.Proofs.YtdjjmcblhpjchaaGreatDoor
open Go.RowKit
set_option maxRecDepth 20000

/-- A rule. -/
structure Rl where
  arch : Nat
  nr : Nat
  act : Nat
  conds : List Cd
deriving DecidableEq
/-- A policy. -/
structure Po where
  rules : List Rl
  dflt : Nat
deriving DecidableEq
def Rl.ok (x : Rl) : Prop := x.arch < 4294967296 ∧ x.nr < 4294967296 ∧ x.act < 4294967296 ∧ ∀ c ∈ x.conds, c.ok
def Rl.right (x : Rl) : Bool := decide (x.conds.length ≤ 4) && (actT x.act).isSome && x.conds.all Cd.right
def Po.ok (p : Po) : Prop := p.dflt < 4294967296 ∧ ∀ x ∈ p.rules, x.ok
def Po.right (p : Po) : Bool := decide (p.rules.length ≤ 64) && (actT p.dflt).isSome && p.rules.all Rl.right
def zeroRl : Rl := ⟨0, 0, 0, []⟩
def zeroPo : Po := ⟨[], 0⟩
def bl (b : ByteArray) : List UInt8 := b.data.toList
theorem bl_inj {a b : ByteArray} (h : bl a = bl b) : a = b := ByteArray.ext (Array.ext' h)
/-- The text of an action, nothing where it has none. -/
def actB (v : Nat) : ByteArray := (actT v).getD ⟨#[]⟩
/-! ### Words -/
def wOn : List UInt8 := [111, 110]
def wIf : List UInt8 := [105, 102]
def wAnd : List UInt8 := [97, 110, 100]
def wDefault : List UInt8 := [100, 101, 102, 97, 117, 108, 116]
def glue (k : Nat) : List UInt8 := if k = 0 then wIf else wAnd
def condW (k : Nat) (c : Cd) : List (List UInt8) := [glue k, argW c.arg, numT c.mask, cmpW c.cmp, numT c.value]
def condsW : Nat → List Cd → List (List UInt8)
  | _, [] => []
  | k, c :: cs => condW k c ++ condsW (k + 1) cs
def headW (x : Rl) : List (List UInt8) := [wOn, bl (textN machT x.arch), bl (textN (callT x.arch) x.nr), bl (actB x.act)]
def wordsR (x : Rl) : List (List UInt8) := headW x ++ condsW 0 x.conds
/-- A rule's line. -/
def lineL (x : Rl) : List UInt8 := Ip.join (wordsR x)
def defW (v : Nat) : List (List UInt8) := [wDefault, bl (actB v)]
def lineD (v : Nat) : List UInt8 := Ip.join (defW v)
theorem condsW_len : ∀ (k : Nat) (cs : List Cd), (condsW k cs).length = 5 * cs.length
  | _, [] => rfl
  | k, c :: cs => by
    rw [condsW, List.length_append, condsW_len (k + 1) cs]
    simp [condW]
    omega
theorem wordsR_len (x : Rl) : (wordsR x).length = 4 + 5 * x.conds.length := by
  rw [wordsR, List.length_append, condsW_len]
  rfl
/-! ### What the words are made of -/
/-- Neither a space nor a line's end. -/
def free2 (l : List UInt8) : Prop := ∀ c ∈ l, c ≠ 32 ∧ c ≠ 10
theorem free_hex (n : Nat) : free2 (Wd.hex n) := by
  intro c hc
  obtain ⟨d, hd, rfl⟩ := Wd.hex_mem n c hc
  refine ⟨hexB_32 hd, fun e => ?_⟩
  have e2 := congrArg UInt8.toNat e
  by_cases h10 : d < 10
  · rw [Wd.hexB_lo d h10] at e2
    simp at e2
    omega
  · rw [Wd.hexB_hi d (by omega) hd] at e2
    simp at e2
    omega
theorem free_cons {a : UInt8} {l : List UInt8} (h1 : a ≠ 32) (h2 : a ≠ 10) (h : free2 l) : free2 (a :: l) := by
  intro c hc
  rcases List.mem_cons.1 hc with rfl | hc
  · exact ⟨h1, h2⟩
  · exact h c hc
theorem free_num (n : Nat) : free2 (numT n) := free_cons (by decide) (by decide) (free_cons (by decide) (by decide) (free_hex n))
theorem free_txt (n : Nat) : free2 (bl (Wd.txt n)) := free_num n
def tblFree (T : Tbl) : Bool := T.all fun p => (bl p.1).all fun c => decide (c ≠ 32) && decide (c ≠ 10)
theorem free_textN {T : Tbl} (h : tblFree T = true) (n : Nat) : free2 (bl (textN T n)) := by
  rcases textN_is T n with ⟨p, hp, _, e⟩ | ⟨_, e⟩
  · rw [e]
    unfold tblFree at h
    rw [List.all_eq_true] at h
    have h2 := h p hp
    rw [List.all_eq_true] at h2
    intro c hc
    have h3 := h2 c hc
    simpa using h3
  · rw [e]
    exact free_txt n
theorem machT_free : tblFree machT = true := by decide
theorem callT_free (a : Nat) : tblFree (callT a) = true := by
  unfold callT
  split
  · decide
  split
  · decide
  split
  · decide
  split
  · decide
  rfl
theorem free_app {a b : List UInt8} (ha : free2 a) (hb : free2 b) : free2 (a ++ b) := by
  intro c hc
  rcases List.mem_append.1 hc with h | h
  · exact ha c h
  · exact hb c h
theorem free_dec {l : List UInt8} (h : (l.all fun c => decide (c ≠ 32) && decide (c ≠ 10)) = true) : free2 l := by
  rw [List.all_eq_true] at h
  intro c hc
  simpa using h c hc
theorem free_act (v : Nat) : free2 (bl (actB v)) := by
  unfold actB
  cases h : actT v with
  | none => intro c hc; simp [bl] at hc
  | some s =>
    show free2 (bl s)
    rcases actT_some h with ⟨n, _, _, rfl⟩ | ⟨_, rfl⟩ | ⟨_, rfl⟩ | ⟨_, rfl⟩ | ⟨_, rfl⟩
    · unfold bl
      rw [err_list]
      exact free_app (free_dec (by decide)) (free_txt n)
    all_goals exact free_dec (by decide)
theorem free_arg {k : Int} (h0 : 0 ≤ k) (h5 : k ≤ 5) : free2 (argW k) := by
  rcases six h0 h5 with rfl | rfl | rfl | rfl | rfl | rfl <;> exact free_dec (by decide)
theorem free_cmp (k : Int) : free2 (cmpW k) := by
  unfold cmpW
  repeat' split
  all_goals exact free_dec (by decide)
theorem free_glue (k : Nat) : free2 (glue k) := by
  unfold glue
  split
  all_goals exact free_dec (by decide)
theorem free_condsW : ∀ (k : Nat) (cs : List Cd), (∀ c ∈ cs, c.right = true) → ∀ p ∈ condsW k cs, free2 p
  | _, [], _, p, hp => by simp [condsW] at hp
  | k, c :: cs, h, p, hp => by
    rw [condsW, List.mem_append] at hp
    rcases hp with hp | hp
    · obtain ⟨a0, a5, _, _⟩ := (c.right_iff).1 (h c (by simp))
      unfold condW at hp
      simp only [List.mem_cons, List.not_mem_nil, or_false] at hp
      rcases hp with rfl | rfl | rfl | rfl | rfl
      · exact free_glue k
      · exact free_arg a0 a5
      · exact free_num _
      · exact free_cmp _
      · exact free_num _
    · exact free_condsW (k + 1) cs (fun d hd => h d (by simp [hd])) p hp
theorem right_conds {x : Rl} (h : x.right = true) : x.conds.length ≤ 4 ∧ (actT x.act).isSome = true ∧ ∀ c ∈ x.conds, c.right = true := by
  unfold Rl.right at h
  simp only [Bool.and_eq_true, decide_eq_true_eq, List.all_eq_true] at h
  exact ⟨h.1.1, h.1.2, h.2⟩
theorem rl_right {x : Rl} (h1 : x.conds.length ≤ 4) (h2 : (actT x.act).isSome = true) (h3 : ∀ c ∈ x.conds, c.right = true) : x.right = true := by
  unfold Rl.right
  simp only [Bool.and_eq_true, decide_eq_true_eq, List.all_eq_true]
  exact ⟨⟨h1, h2⟩, h3⟩
theorem free_words {x : Rl} (h : x.right = true) : ∀ p ∈ wordsR x, free2 p := by
  intro p hp
  unfold wordsR headW at hp
  rw [List.mem_append] at hp
  rcases hp with hp | hp
  · simp only [List.mem_cons, List.not_mem_nil, or_false] at hp
    rcases hp with rfl | rfl | rfl | rfl
    · exact free_dec (by decide)
    · exact free_textN machT_free _
    · exact free_textN (callT_free _) _
    · exact free_act _
  · exact free_condsW 0 x.conds (right_conds h).2.2 p hp
theorem cut_line {x : Rl} (h : x.right = true) : Ip.cutAll 32 [] (lineL x) = wordsR x :=
  Ip.cutAll_join _ (by simp [wordsR, headW]) (fun p hp c hc => (free_words h p hp c hc).1)
theorem free_def (v : Nat) : ∀ p ∈ defW v, free2 p := by
  intro p hp
  unfold defW at hp
  simp only [List.mem_cons, List.not_mem_nil, or_false] at hp
  rcases hp with rfl | rfl
  · exact free_dec (by decide)
  · exact free_act _
theorem cut_def (v : Nat) : Ip.cutAll 32 [] (lineD v) = defW v :=
  Ip.cutAll_join _ (by simp [defW]) (fun p hp c hc => (free_def v p hp c hc).1)
theorem join_free : ∀ (ps : List (List UInt8)), (∀ p ∈ ps, free2 p) → ∀ c ∈ Ip.join ps, c ≠ 10
  | [], _, c, hc => by simp [Ip.join] at hc
  | [x], h, c, hc => (h x (by simp) c hc).2
  | x :: y :: l, h, c, hc => by
    have e : Ip.join (x :: y :: l) = x ++ 32 :: Ip.join (y :: l) := rfl
    rw [e, List.mem_append, List.mem_cons] at hc
    rcases hc with hc | rfl | hc
    · exact (h x (by simp) c hc).2
    · decide
    · exact join_free (y :: l) (fun p hp => h p (by simp [hp])) c hc
theorem line_10 {x : Rl} (h : x.right = true) : ∀ c ∈ lineL x, c ≠ 10 := join_free _ (free_words h)
theorem def_10 (v : Nat) : ∀ c ∈ lineD v, c ≠ 10 := join_free _ (free_def v)
/-! ### Unlike rules have unlike lines -/
theorem condsW_inj : ∀ (k : Nat) (cs ds : List Cd), (∀ c ∈ cs, c.right = true) → (∀ c ∈ ds, c.right = true) → condsW k cs = condsW k ds → cs = ds
  | _, [], [], _, _, _ => rfl
  | k, [], d :: ds, _, _, h => by simp [condsW, condW] at h
  | k, c :: cs, [], _, _, h => by simp [condsW, condW] at h
  | k, c :: cs, d :: ds, hc, hd, h => by
    obtain ⟨a0, a5, k0, k5⟩ := (c.right_iff).1 (hc c (by simp))
    obtain ⟨b0, b5, j0, j5⟩ := (d.right_iff).1 (hd d (by simp))
    unfold condsW condW at h
    simp only [List.cons_append, List.nil_append, List.cons.injEq, true_and] at h
    obtain ⟨h1, h2, h3, h4, h5⟩ := h
    have e := condsW_inj (k + 1) cs ds (fun x hx => hc x (by simp [hx])) (fun x hx => hd x (by simp [hx])) h5
    have e1 := argW_inj a0 a5 b0 b5 h1
    have e3 := cmpW_inj k0 k5 j0 j5 h3
    have e2 := numT_inj h2
    have e4 := numT_inj h4
    obtain ⟨_, _, _, _⟩ := c
    obtain ⟨_, _, _, _⟩ := d
    simp_all
theorem actB_inj {v v' : Nat} (h : (actT v).isSome = true) (h' : (actT v').isSome = true) (e : actB v = actB v') : v = v' := by
  obtain ⟨s, hs⟩ := Option.isSome_iff_exists.1 h
  obtain ⟨s', hs'⟩ := Option.isSome_iff_exists.1 h'
  unfold actB at e
  rw [hs, hs'] at e
  have : s = s' := e
  subst this
  exact actT_inj hs hs'
theorem lineL_inj {x y : Rl} (hx : x.right = true) (hy : y.right = true) (h : lineL x = lineL y) : x = y := by
  have hw : wordsR x = wordsR y := by rw [← cut_line hx, ← cut_line hy, h]
  unfold wordsR headW at hw
  simp only [List.cons_append, List.nil_append, List.cons.injEq, true_and] at hw
  obtain ⟨h1, h2, h3, h4⟩ := hw
  have e1 := textN_inj machT_good (bl_inj h1)
  rw [e1] at h2
  have e2 := textN_inj (callT_good _) (bl_inj h2)
  have e3 := actB_inj (right_conds hx).2.1 (right_conds hy).2.1 (bl_inj h3)
  have e4 := condsW_inj 0 _ _ (right_conds hx).2.2 (right_conds hy).2.2 h4
  obtain ⟨_, _, _, _⟩ := x
  obtain ⟨_, _, _, _⟩ := y
  simp_all
theorem lineD_inj {v v' : Nat} (h : (actT v).isSome = true) (h' : (actT v').isSome = true) (e : lineD v = lineD v') : v = v' := by
  have hw : defW v = defW v' := by rw [← cut_def v, ← cut_def v', e]
  unfold defW at hw
  simp only [List.cons.injEq, true_and, and_true] at hw
  exact actB_inj h h' (bl_inj hw)
theorem line_def {x : Rl} (hx : x.right = true) (v : Nat) : lineL x ≠ lineD v := by
  intro e
  have hw : wordsR x = defW v := by rw [← cut_line hx, ← cut_def v, e]
  have := congrArg List.length hw
  rw [wordsR_len] at this
  simp [defW] at this
  omega
/-! ### What is read -/
open Classical in
/-- The rule of a line. -/
noncomputable def readR (l : List UInt8) : Option Rl := if h : ∃ x : Rl, x.ok ∧ x.right = true ∧ l = lineL x then some h.choose else none
theorem readR_some {l : List UInt8} {x : Rl} (h : readR l = some x) : x.ok ∧ x.right = true ∧ l = lineL x := by
  unfold readR at h
  split at h
  · rename_i hx
    obtain rfl := Option.some.inj h
    exact hx.choose_spec
  · cases h
theorem readR_line {x : Rl} (hk : x.ok) (hr : x.right = true) : readR (lineL x) = some x := by
  unfold readR
  split
  · rename_i h
    obtain ⟨_, h2, h3⟩ := h.choose_spec
    exact congrArg some (lineL_inj hr h2 h3).symm
  · rename_i h
    exact absurd ⟨x, hk, hr, rfl⟩ h
theorem readR_is_none {l : List UInt8} (h : ∀ x : Rl, x.ok → x.right = true → l ≠ lineL x) : readR l = none := by
  cases hq : readR l with
  | none => rfl
  | some x =>
    obtain ⟨h1, h2, h3⟩ := readR_some hq
    exact absurd h3 (h x h1 h2)
open Classical in
/-- The default of a line. -/
noncomputable def readD (l : List UInt8) : Option Nat := if h : ∃ v : Nat, v < 4294967296 ∧ (actT v).isSome = true ∧ l = lineD v then some h.choose else none
theorem readD_some {l : List UInt8} {v : Nat} (h : readD l = some v) : v < 4294967296 ∧ (actT v).isSome = true ∧ l = lineD v := by
  unfold readD at h
  split at h
  · rename_i hx
    obtain rfl := Option.some.inj h
    exact hx.choose_spec
  · cases h
theorem readD_line {v : Nat} (hk : v < 4294967296) (hr : (actT v).isSome = true) : readD (lineD v) = some v := by
  unfold readD
  split
  · rename_i h
    obtain ⟨_, h2, h3⟩ := h.choose_spec
    exact congrArg some (lineD_inj hr h2 h3).symm
  · rename_i h
    exact absurd ⟨v, hk, hr, rfl⟩ h
theorem readD_is_none {l : List UInt8} (h : ∀ v : Nat, v < 4294967296 → (actT v).isSome = true → l ≠ lineD v) : readD l = none := by
  cases hq : readD l with
  | none => rfl
  | some v =>
    obtain ⟨h1, h2, h3⟩ := readD_some hq
    exact absurd h3 (h v h1 h2)
theorem readR_def_none (v : Nat) : readR (lineD v) = none := readR_is_none fun _ _ h e => line_def h v e.symm
/-- What comes of the last part. -/
def lastP (size : Nat) (rs : List Rl) (o : Option Nat) (a : Nat) (l : List UInt8) : Po × Nat × Nat :=
  if l = [] then (match o with | none => (zeroPo, size, 5) | some d => (⟨rs, d⟩, 0, 0)) else (zeroPo, a, 2)
/-- What a line that is ended makes of what was read: the rules, and the default; or an error. -/
noncomputable def stepP (rs : List Rl) (l : List UInt8) : (List Rl × Option Nat) ⊕ Nat :=
  match readR l with
  | some x => if 64 ≤ rs.length then .inr 3 else .inl (rs ++ [x], none)
  | none => match readD l with
    | some d => .inl (rs, some d)
    | none => .inr 2
/-- What comes of the lines from one on: the policy, the place, and the error. -/
noncomputable def rdP (size : Nat) : List (List UInt8) → List Rl → Option Nat → Nat → Po × Nat × Nat
  | [], rs, o, a => lastP size rs o a []
  | [l], rs, o, a => lastP size rs o a l
  | l :: m :: ls, rs, o, a => match o with
    | some _ => (zeroPo, a, 2)
    | none => match stepP rs l with
      | .inl q => rdP size (m :: ls) q.1 q.2 (a + l.length + 1)
      | .inr e => (zeroPo, a, e)
theorem rdP_last (size : Nat) (l : List UInt8) (rs : List Rl) (o : Option Nat) (a : Nat) : rdP size [l] rs o a = lastP size rs o a l := by rw [rdP]
theorem rdP_done (size : Nat) (l m : List UInt8) (ls : List (List UInt8)) (rs : List Rl) (d a : Nat) : rdP size (l :: m :: ls) rs (some d) a = (zeroPo, a, 2) := by rw [rdP]
theorem rdP_go {size : Nat} {l m : List UInt8} {ls : List (List UInt8)} {rs rs' : List Rl} {o : Option Nat} {a : Nat} (h : stepP rs l = .inl (rs', o)) : rdP size (l :: m :: ls) rs none a = rdP size (m :: ls) rs' o (a + l.length + 1) := by rw [rdP, h]
theorem rdP_stop {size : Nat} {l m : List UInt8} {ls : List (List UInt8)} {rs : List Rl} {e a : Nat} (h : stepP rs l = .inr e) : rdP size (l :: m :: ls) rs none a = (zeroPo, a, e) := by rw [rdP, h]
theorem stepP_rule {rs : List Rl} {l : List UInt8} {x : Rl} (h : readR l = some x) (hn : rs.length < 64) : stepP rs l = .inl (rs ++ [x], none) := by
  unfold stepP
  rw [h]
  exact if_neg (by omega)
theorem stepP_full {rs : List Rl} {l : List UInt8} {x : Rl} (h : readR l = some x) (hn : 64 ≤ rs.length) : stepP rs l = .inr 3 := by
  unfold stepP
  rw [h]
  exact if_pos hn
theorem stepP_def {rs : List Rl} {l : List UInt8} {d : Nat} (h : readR l = none) (hd : readD l = some d) : stepP rs l = .inl (rs, some d) := by
  unfold stepP
  rw [h, hd]
theorem stepP_no {rs : List Rl} {l : List UInt8} (h : readR l = none) (hd : readD l = none) : stepP rs l = .inr 2 := by
  unfold stepP
  rw [h, hd]
/-- What a step may be. -/
theorem stepP_is (rs : List Rl) (l : List UInt8) : (∃ x, readR l = some x ∧ rs.length < 64 ∧ stepP rs l = .inl (rs ++ [x], none)) ∨ (∃ d, readD l = some d ∧ stepP rs l = .inl (rs, some d)) ∨ ∃ e, e ≠ 0 ∧ stepP rs l = .inr e := by
  cases h : readR l with
  | some x =>
    by_cases hn : rs.length < 64
    · exact .inl ⟨x, rfl, hn, stepP_rule h hn⟩
    · exact .inr (.inr ⟨3, by decide, stepP_full h (by omega)⟩)
  | none =>
    cases hd : readD l with
    | some d => exact .inr (.inl ⟨d, rfl, stepP_def h hd⟩)
    | none => exact .inr (.inr ⟨2, by decide, stepP_no h hd⟩)
/-- What comes of a text. -/
noncomputable def polT (s : List UInt8) : Po × Nat × Nat := if 20000 < s.length then (zeroPo, 0, 3) else rdP s.length (linesOf s) [] none 0
/-- A policy's text. -/
def textP (p : Po) : List UInt8 := p.rules.flatMap (fun x => lineL x ++ [10]) ++ (lineD p.dflt ++ [10])
/-- Lines that are rules'. -/
theorem rdP_lines (size : Nat) : ∀ (xs rs : List Rl) (a : Nat) (tl : List (List UInt8)), (∀ x ∈ xs, x.ok ∧ x.right = true) → rs.length + xs.length ≤ 64 → tl ≠ [] → ∃ a', rdP size (xs.map lineL ++ tl) rs none a = rdP size tl (rs ++ xs) none a'
  | [], rs, a, tl, _, _, _ => ⟨a, by simp⟩
  | x :: xs, rs, a, tl, h, hn, ht => by
    obtain ⟨h1, h2⟩ := h x (by simp)
    simp only [List.length_cons] at hn
    obtain ⟨a', e⟩ := rdP_lines size xs (rs ++ [x]) (a + (lineL x).length + 1) tl (fun y hy => h y (by simp [hy])) (by rw [List.length_append]; simp; omega) ht
    refine ⟨a', ?_⟩
    rw [List.append_assoc] at e
    rw [show rs ++ x :: xs = rs ++ ([x] ++ xs) from rfl, ← e]
    cases hl : xs.map lineL ++ tl with
    | nil => simp at hl; exact absurd hl.2 ht
    | cons m ls =>
      rw [List.map_cons, List.cons_append, hl]
      exact rdP_go (stepP_rule (readR_line h1 h2) (by omega))
theorem lines_text (xs : List Rl) (tl : List UInt8) (h : ∀ x ∈ xs, x.right = true) : linesOf (xs.flatMap (fun x => lineL x ++ [10]) ++ tl) = xs.map lineL ++ linesOf tl := by
  induction xs with
  | nil => simp
  | cons x xs ih =>
    rw [List.flatMap_cons, List.append_assoc, List.append_assoc, List.singleton_append, lines_cut (line_10 (h x (by simp))), ih fun y hy => h y (by simp [hy])]
    rfl
theorem po_right {p : Po} (h : p.right = true) : p.rules.length ≤ 64 ∧ (actT p.dflt).isSome = true ∧ ∀ x ∈ p.rules, x.right = true := by
  unfold Po.right at h
  simp only [Bool.and_eq_true, decide_eq_true_eq, List.all_eq_true] at h
  exact ⟨h.1.1, h.1.2, h.2⟩
theorem right_po {p : Po} (h1 : p.rules.length ≤ 64) (h2 : (actT p.dflt).isSome = true) (h3 : ∀ x ∈ p.rules, x.right = true) : p.right = true := by
  unfold Po.right
  simp only [Bool.and_eq_true, decide_eq_true_eq, List.all_eq_true]
  exact ⟨⟨h1, h2⟩, h3⟩
theorem lines_nil : linesOf [] = [[]] := rfl
theorem lines_def (v : Nat) (tl : List UInt8) : linesOf (lineD v ++ 10 :: tl) = lineD v :: linesOf tl := lines_cut (def_10 v)
/-- A policy's text is read as it. -/
theorem polT_text {p : Po} (hk : p.ok) (hr : p.right = true) : polT (textP p) = if 20000 < (textP p).length then (zeroPo, 0, 3) else (p, 0, 0) := by
  unfold polT
  split
  · rfl
  obtain ⟨h1, h2, h3⟩ := po_right hr
  have e : linesOf (textP p) = p.rules.map lineL ++ [lineD p.dflt, []] := by
    unfold textP
    rw [lines_text _ _ h3, show lineD p.dflt ++ [10] = lineD p.dflt ++ 10 :: [] from rfl, lines_def, lines_nil]
  rw [e]
  obtain ⟨a', e'⟩ := rdP_lines (textP p).length p.rules [] 0 [lineD p.dflt, []] (fun x hx => ⟨hk.2 x hx, h3 x hx⟩) (by simpa using h1) (by simp)
  rw [e', rdP_go (stepP_def (readR_def_none _) (readD_line hk.1 h2)), rdP_last]
  rfl
/-- What was read has just this text. -/
theorem rdP_sound (size : Nat) : ∀ (ls : List (List UInt8)) (rs : List Rl) (o : Option Nat) (a : Nat) (p : Po) (i : Nat), rdP size ls rs o a = (p, i, 0) → ls ≠ [] → rs.length ≤ 64 → i = 0 ∧ match o with
    | some d => ls = [[]] ∧ p = ⟨rs, d⟩
    | none => ∃ xs d, ls = xs.map lineL ++ [lineD d, []] ∧ p = ⟨rs ++ xs, d⟩ ∧ (∀ x ∈ xs, x.ok ∧ x.right = true) ∧ (rs ++ xs).length ≤ 64 ∧ d < 4294967296 ∧ (actT d).isSome = true
  | [], _, _, _, _, _, _, h, _ => absurd rfl h
  | [l], rs, none, a, p, i, h, _, _ => by
    rw [rdP_last] at h
    unfold lastP at h
    split at h <;> simp at h
  | [l], rs, some d, a, p, i, h, _, _ => by
    rw [rdP_last] at h
    unfold lastP at h
    split at h
    · rename_i hl
      simp only [Prod.mk.injEq] at h
      exact ⟨h.2.1.symm, by rw [hl], h.1.symm⟩
    · simp at h
  | l :: m :: ls, rs, some d, a, p, i, h, _, _ => by
    rw [rdP_done] at h
    simp at h
  | l :: m :: ls, rs, none, a, p, i, h, _, hn => by
    rcases stepP_is rs l with ⟨x, hx, h64, hs⟩ | ⟨d, hd, hs⟩ | ⟨e, he, hs⟩
    · rw [rdP_go hs] at h
      obtain ⟨hk, hr, hl⟩ := readR_some hx
      obtain ⟨h0, xs, d, e1, e2, e3, e4, e5⟩ := rdP_sound size (m :: ls) (rs ++ [x]) none _ p i h (by simp) (by rw [List.length_append]; simp; omega)
      refine ⟨h0, x :: xs, d, by rw [e1, hl]; rfl, by rw [e2, List.append_assoc]; rfl, ?_, by rw [List.append_assoc] at e4; exact e4, e5⟩
      intro y hy
      rcases List.mem_cons.1 hy with rfl | hy
      · exact ⟨hk, hr⟩
      · exact e3 y hy
    · rw [rdP_go hs] at h
      obtain ⟨h1, h2, h3⟩ := readD_some hd
      obtain ⟨h0, e1, e2⟩ := rdP_sound size (m :: ls) rs (some d) _ p i h (by simp) hn
      exact ⟨h0, [], d, by rw [e1, h3]; rfl, by rw [e2, List.append_nil], by simp, by rw [List.append_nil]; exact hn, h1, h2⟩
    · rw [rdP_stop hs] at h
      simp only [Prod.mk.injEq] at h
      exact absurd h.2.2 he
theorem joinL_text : ∀ (xs : List Rl) (d : Nat), joinL (xs.map lineL ++ [lineD d, []]) = textP ⟨xs, d⟩
  | [], d => rfl
  | x :: xs, d => by
    have e := joinL_text xs d
    unfold textP at e ⊢
    rw [List.flatMap_cons, List.append_assoc, List.append_assoc, ← e]
    cases hl : xs.map lineL ++ [lineD d, []] with
    | nil => simp at hl
    | cons m ls => rw [List.map_cons, List.cons_append, hl]; rfl
theorem polT_sound {s : List UInt8} {p : Po} {i : Nat} (h : polT s = (p, i, 0)) : i = 0 ∧ p.ok ∧ p.right = true ∧ s = textP p ∧ s.length ≤ 20000 := by
  unfold polT at h
  split at h
  · simp at h
  · rename_i hlen
    obtain ⟨h0, xs, d, e1, e2, e3, e4, e5, e6⟩ := rdP_sound _ _ _ _ _ _ _ h (lines_ne s) (by simp)
    refine ⟨h0, ?_, ?_, ?_, by omega⟩
    · rw [e2]
      exact ⟨e5, fun x hx => (e3 x hx).1⟩
    · rw [e2]
      exact right_po e4 e6 fun x hx => (e3 x hx).2
    · have := joinL_cut s []
      rw [show Ip.cutAll 10 [] s = linesOf s from rfl, e1, joinL_text] at this
      rw [e2]
      exact this.symm
theorem rdP_zero (size : Nat) : ∀ (ls : List (List UInt8)) (rs : List Rl) (o : Option Nat) (a : Nat), ls ≠ [] → (rdP size ls rs o a).2.2 = 0 ∨ (rdP size ls rs o a).1 = zeroPo
  | [], _, _, _, h => absurd rfl h
  | [l], rs, none, a, _ => by
    rw [rdP_last]
    unfold lastP
    split
    · exact .inr rfl
    · exact .inr rfl
  | [l], rs, some d, a, _ => by
    rw [rdP_last]
    unfold lastP
    split
    · exact .inl rfl
    · exact .inr rfl
  | l :: m :: ls, rs, some d, a, _ => by
    rw [rdP_done]
    exact .inr rfl
  | l :: m :: ls, rs, none, a, _ => by
    rcases stepP_is rs l with ⟨x, hx, h64, hs⟩ | ⟨d, hdd, hs⟩ | ⟨e, he, hs⟩
    · rw [rdP_go hs]
      exact rdP_zero size (m :: ls) _ none _ (by simp)
    · rw [rdP_go hs]
      exact rdP_zero size (m :: ls) _ (some d) _ (by simp)
    · rw [rdP_stop hs]
      exact .inr rfl
theorem polT_zero (s : List UInt8) : (polT s).2.2 = 0 ∨ (polT s).1 = zeroPo := by
  unfold polT
  split
  · exact .inr rfl
  · exact rdP_zero _ _ _ _ _ (lines_ne s)
end Go.Proofs.YtdjjmcblhpjchaaGreatDoor
/-
  The document's own texts of numbers (package hurdleref01): Text and Parse answer as word's do.
-/
namespace Go.Proofs.YtdjjmcblhpjchaaGreatDoor
open Go.ChangeShapes Go.WideShapes Go.ChangeAt Go.RowKit
set_option maxRecDepth 20000

/-- A row of one new byte, as a text. -/
theorem conv1 (W : World) (g : Nat) (hg : g = W.heap.size) (v : Int) (b : UInt8) (hv : v = (b.toNat : Int)) :
    (convert 42 9 (.slice (some ⟨g, 0, none⟩) 1 1)).run Tryz.prog (W.alloc (.cells #[.int .u8 v] 5)) = .ok (.string ⟨#[b]⟩) (W.alloc (.cells #[.int .u8 v] 5)) := by
  subst hg
  subst hv
  exact run_convert_bytes_back (P := Tryz.prog) (W.alloc (.cells #[.int .u8 (b.toNat : Int)] 5)) 42 9 5 ⟨W.heap.size, 0, none⟩ 1 [b] Tryz.underlying42 Tryz.underlying5 Tryz.underlying9 (fun j hj => by
    obtain rfl : j = 0 := by simpa using hj
    rw [show (⟨W.heap.size, 0, none⟩ : Addr).add 0 = ⟨W.heap.size, 0, none⟩ by simp [Addr.add], World.cell?_alloc_new]
    rfl)

theorem ofNat_toNat (k : Nat) (h : k < 256) : ((UInt8.ofNat k).toNat : Int) = (k : Int) := by
  simp
  omega

set_option maxHeartbeats 2000000 in
theorem digits_any (n : Nat) : ∀ (_ : n < 18446744073709551616) (w : World),
    Calls Tryz.prog 57 #[.int .u64 n] w fun e w' => e = .returned (.string ⟨(Wd.hex n).toArray⟩) ∧ Below w.heap.size w w' := by
  induction n using Nat.strongRecOn with
  | ind n ih =>
    intro hn w
    have IH := Lib.hid ih
    clear ih
    have b1 := (Below.refl w.heap.size w).alloc (Nat.le_refl _) (Obj.cells #[.int .u8 (48 + (n : Int) % 16)] 5)
    have b2 := b1.alloc b1.size (Obj.cells #[.int .u8 (87 + (n : Int) % 16)] 5)
    by_cases hd : n % 16 ≤ 9
    · have c1 := conv1 w w.heap.size rfl (48 + (n : Int) % 16) (Wd.hexB (n % 16)) (by rw [Wd.hexB_lo _ (by omega)]; omega)
      clear b2
      by_cases h16 : n < 16
      · have hx := Wd.hex_lt h16
        have hmod : n % 16 = n := Nat.mod_eq_of_lt h16
        have hx2 : Wd.hex n = [Wd.hexB (n % 16)] := by rw [hx, hmod]
        have HX := Lib.hid hx2
        clear hmod hx hx2
        go_enter Tryz.func57, Tryz.ntmps57
        go_wp2_with fail
        go_ret
        refine ⟨?_, b1⟩
        rw [HX.out]
        rfl
      · have hx := Lib.hid (Wd.hex_ge (show 16 ≤ n by omega))
        have hl := Wd.hex_len16 (n / 16) (by omega)
        have hcall := IH.out (n / 16) (by omega) (by omega)
        have HC := Lib.hid hcall
        clear hcall IH
        go_enter Tryz.func57, Tryz.ntmps57
        go_wp2_with fail
        refine (HC.out _).mono ?_
        rintro e w' ⟨rfl, hb⟩
        go_wp2_with fail
        go_ret
        refine ⟨?_, b1.trans (hb.mono b1.size)⟩
        rw [hx.out]
        exact congrArg (fun s => Ending.returned (.string s)) (Wd.joined _ _)
    · obtain ⟨z, hz⟩ : ∃ z : UInt8, 48 + (n : Int) % 16 = (z.toNat : Int) := ⟨UInt8.ofNat (48 + n % 16), by rw [ofNat_toNat _ (by omega)]; omega⟩
      have c1 := conv1 w w.heap.size rfl (48 + (n : Int) % 16) z hz
      clear hz
      have c2 := conv1 (w.alloc (.cells #[.int .u8 (48 + (n : Int) % 16)] 5)) (w.heap.size + 1) (by simp) (87 + (n : Int) % 16) (Wd.hexB (n % 16)) (by rw [Wd.hexB_hi _ (by omega) (by omega)]; omega)
      by_cases h16 : n < 16
      · have hx := Wd.hex_lt h16
        have hmod : n % 16 = n := Nat.mod_eq_of_lt h16
        have hx2 : Wd.hex n = [Wd.hexB (n % 16)] := by rw [hx, hmod]
        have HX := Lib.hid hx2
        clear hmod hx hx2
        go_enter Tryz.func57, Tryz.ntmps57
        go_wp2_with fail
        go_ret
        refine ⟨?_, b2⟩
        rw [HX.out]
        rfl
      · have hx := Lib.hid (Wd.hex_ge (show 16 ≤ n by omega))
        have hl := Wd.hex_len16 (n / 16) (by omega)
        have hcall := IH.out (n / 16) (by omega) (by omega)
        have HC := Lib.hid hcall
        clear hcall IH
        go_enter Tryz.func57, Tryz.ntmps57
        go_wp2_with fail
        refine (HC.out _).mono ?_
        rintro e w' ⟨rfl, hb⟩
        go_wp2_with fail
        go_ret
        refine ⟨?_, b2.trans (hb.mono b2.size)⟩
        rw [hx.out]
        exact congrArg (fun s => Ending.returned (.string s)) (Wd.joined _ _)

theorem refText_any (n : Nat) (hn : n < 18446744073709551616) (w : World) :
    Calls Tryz.prog 36 #[.int .u64 n] w fun e w' => e = .returned (.string (Wd.txt n)) ∧ Below w.heap.size w w' := by
  have hl := Wd.hex_len16 n hn
  go_enter Tryz.func36, Tryz.ntmps36
  go_wp2_with fail
  refine (digits_any n hn _).mono ?_
  rintro e w' ⟨rfl, hb⟩
  go_wp2_with fail
  go_ret
  exact ⟨congrArg (fun s => Ending.returned (.string s)) (Wd.joined [48, 120] (Wd.hex n)), hb⟩

theorem txt_size (m : Nat) : (Wd.txt m).size = (Wd.hex m).length + 2 := by show (48 :: 120 :: Wd.hex m).length = _; simp
theorem txt_at (m k : Nat) (h : k < (Wd.txt m).size) (h2 : 2 ≤ k) : ∃ (d : Nat) (hj : k - 2 < (Wd.hex m).length), d < 16 ∧ (Wd.txt m)[k] = Wd.hexB d ∧ (Wd.hex m)[k - 2] = Wd.hexB d := by
  have hj : k - 2 < (Wd.hex m).length := by rw [txt_size] at h; omega
  obtain ⟨d, hd, hc⟩ := Wd.hex_mem m (Wd.hex m)[k - 2] (List.getElem_mem _)
  refine ⟨d, hj, hd, ?_, hc⟩
  rw [← hc]
  obtain ⟨j, rfl⟩ : ∃ j, k = j + 2 := ⟨k - 2, by omega⟩
  rfl

set_option maxHeartbeats 2000000 in
theorem refParse_yes (m : Nat) (hm : m < 18446744073709551616) (w : World) :
    Calls Tryz.prog 72 #[.string (Wd.txt m)] w fun e w' => e = .returned (.tuple #[.int .u64 m, .bool true]) ∧ Below w.heap.size w w' := by
  have hl := Wd.hex_len16 m hm
  have hsz := txt_size m
  have h3 : 3 ≤ (Wd.txt m).size := by omega
  have h18 : (Wd.txt m).size ≤ 18 := by omega
  have HZ := Lib.hid hsz
  clear hsz
  have hbq : ((Wd.txt m).toList != (Wd.txt m).toList) = false := by simp
  have AT := Lib.hid (txt_at m)
  have VT := Lib.hid (Wd.val_take m)
  have VH := Lib.hid (Wd.val_hex m)
  have VF : Hid (Wd.val ((Wd.hex m).take (Wd.hex m).length) = m) := by rw [List.take_length]; exact Wd.val_hex m
  have V0 : Hid (Wd.val ((Wd.hex m).take (2 - 2)) = 0) := rfl
  have RT := Lib.hid (refText_any m hm)
  generalize Wd.txt m = s at *
  go_enter Tryz.func72, Tryz.ntmps72
  go_wp2
  go_loop [4, 5] (fun n i => ∃ k : Nat, 2 ≤ k ∧ k ≤ s.size ∧ i = .int .i64 k ∧ n = .int .u64 (Wd.val ((Wd.hex m).take (k - 2)))) (fun _ i => s.size - (intOf i).toNat)
  case atStart => exact ⟨2, by omega, by omega, rfl, by rw [V0.out]; rfl⟩
  case round =>
    obtain ⟨k, hk2, hk, rfl, rfl⟩ := hrel
    by_cases hlt : k < s.size
    · obtain ⟨d, hj, hd, hc, hc2⟩ := AT.out k hlt hk2
      obtain ⟨hv, hvm⟩ := VT.out (k - 2) hj
      rw [hc2, Wd.dig_hexB d hd, show k - 2 + 1 = k + 1 - 2 by omega] at hv
      rw [show k - 2 + 1 = k + 1 - 2 by omega] at hvm
      generalize hx : Wd.val ((Wd.hex m).take (k - 2)) = x at *
      have HV := Lib.hid hv
      have hxb : x * 16 + d < 18446744073709551616 := by omega
      clear hv hvm hx hc2
      by_cases h10 : d < 10
      · have hcn : s[k].toNat = 48 + d := by rw [hc, Wd.hexB_lo d h10]
        have h97 : decide (97 ≤ s[k].toNat) = false := by simp; omega
        clear hc
        go_wp2
        refine ⟨⟨k + 1, by omega, by omega, by go_num, ?_⟩, by simp [intOf]; omega⟩
        rw [HV.out]
        go_num
      · have hcn : s[k].toNat = 87 + d := by rw [hc, Wd.hexB_hi d (by omega) hd]
        clear hc
        go_wp2
        refine ⟨⟨k + 1, by omega, by omega, by go_num, ?_⟩, by simp [intOf]; omega⟩
        rw [HV.out]
        go_num
    · obtain rfl : k = s.size := by omega
      have hfin : Wd.val ((Wd.hex m).take (s.size - 2)) = m := by
        have h := VF.out
        rwa [show (Wd.hex m).length = s.size - 2 by rw [HZ.out]; omega] at h
      rw [hfin]
      clear hfin
      go_wp2_with fail
      refine (RT.out _).mono ?_
      rintro e w' ⟨rfl, hb⟩
      go_wp2_with fail
      go_ret2
      exact ⟨rfl, hb⟩

theorem u64_bd (n : Int) : 0 ≤ IntKind.u64.wrap n ∧ IntKind.u64.wrap n ≤ 18446744073709551615 := by rw [IntKind.wrap_u64]; omega

set_option maxHeartbeats 2000000 in
theorem refParse_no (s : ByteArray) (hs : s.size ≤ 4611686018427387904) (hno : ∀ n : Nat, n < 18446744073709551616 → s ≠ Wd.txt n) (w : World) :
    Calls Tryz.prog 72 #[.string s] w fun e w' => e = .returned (.tuple #[.int .u64 0, .bool false]) ∧ Below w.heap.size w w' := by
  have NO := Lib.hid hno
  clear hno
  by_cases h3 : s.size < 3
  · go_enter Tryz.func72, Tryz.ntmps72
    go_wp2_with fail
    go_ret2
    exact ⟨rfl, Below.refl _ _⟩
  by_cases h18 : 18 < s.size
  · go_enter Tryz.func72, Tryz.ntmps72
    go_wp2_with fail
    go_ret2
    exact ⟨rfl, Below.refl _ _⟩
  go_enter Tryz.func72, Tryz.ntmps72
  go_wp2
  go_loop [4, 5] (fun n i => ∃ (k : Nat) (x : Int), 2 ≤ k ∧ k ≤ s.size ∧ i = .int .i64 k ∧ n = .int .u64 x ∧ 0 ≤ x ∧ x ≤ 18446744073709551615) (fun _ i => s.size - (intOf i).toNat)
  case atStart => exact ⟨2, 0, by omega, by omega, rfl, rfl, by omega, by omega⟩
  case round =>
    obtain ⟨k, x, hk2, hk, rfl, rfl, hx0, hx1⟩ := hrel
    by_cases hlt : k < s.size
    · have hby : s[k].toNat < 256 := s[k].toNat_lt
      by_cases h97 : 97 ≤ s[k].toNat
      · go_wp2
        have hw := u64_bd
        refine ⟨⟨k + 1, _, by omega, by omega, by go_num, rfl, (hw _).1, (hw _).2⟩, by simp [intOf]; omega⟩
      · go_wp2
        have hw := u64_bd
        refine ⟨⟨k + 1, _, by omega, by omega, by go_num, rfl, (hw _).1, (hw _).2⟩, by simp [intOf]; omega⟩
    · obtain rfl : k = s.size := by omega
      obtain ⟨n, rfl⟩ := Int.eq_ofNat_of_zero_le hx0
      have hbq : ((Wd.txt n).toList == s.toList) = false := by
        rw [beq_eq_false_iff_ne]
        intro h
        rw [Go.ByteArray.toList_eq, Go.ByteArray.toList_eq] at h
        refine NO.out n (by omega) ?_
        apply ByteArray.ext
        apply Array.ext'
        exact h.symm
      go_wp2_with fail
      refine (refText_any n (by omega) _).mono ?_
      rintro e w' ⟨rfl, hb⟩
      go_wp2_with fail
      go_ret2
      exact ⟨rfl, hb⟩
/-- A number that a text is read as: the one whose text it is, if there is one. -/
def Reads (t : ByteArray) (n : Nat) : Prop := n < 18446744073709551616 ∧ ∀ m : Nat, m < 18446744073709551616 → t = Wd.txt m → n = m
theorem refParse_any (t : ByteArray) (w : World) (ht : t.size ≤ 4611686018427387904) :
    Calls Tryz.prog 72 #[.string t] w fun e w' => ∃ (n : Nat) (b : Bool), Hid (Reads t n) ∧ e = .returned (.tuple #[.int .u64 n, .bool b]) ∧ Below w.heap.size w w' := by
  by_cases h : ∃ m : Nat, m < 18446744073709551616 ∧ t = Wd.txt m
  · obtain ⟨m, hm, rfl⟩ := h
    refine (refParse_yes m hm w).mono ?_
    rintro e w' ⟨rfl, hb⟩
    exact ⟨m, true, Lib.hid ⟨hm, fun k _ e => Wd.txt_inj e⟩, rfl, hb⟩
  · refine (refParse_no t ht (fun n hn e => h ⟨n, hn, e⟩) w).mono ?_
    rintro e w' ⟨rfl, hb⟩
    exact ⟨0, false, Lib.hid ⟨by omega, fun k hk e => absurd ⟨k, hk, e⟩ h⟩, rfl, hb⟩
end Go.Proofs.YtdjjmcblhpjchaaGreatDoor
/-
  States, as they lie in a world; what run.cell and run.withCell answer.
-/
namespace Go.Proofs.YtdjjmcblhpjchaaGreatDoor
open Go.ChangeShapes Go.WideShapes Go.ChangeAt Go.RowKit
set_option maxRecDepth 20000

/-- A state. -/
structure St where
  a : Nat
  x : Nat
  m : List Nat
deriving DecidableEq
def St.ok (s : St) : Prop := s.a ≤ 4294967295 ∧ s.x ≤ 4294967295 ∧ s.m.length = 16 ∧ ∀ v ∈ s.m, v ≤ 4294967295
/-- What is in a cell; 0, if there is none. -/
def mAt (m : List Nat) (i : Nat) : Nat := m.getD i 0
/-- Its eighteen cells (not to be opened by a walk). -/
def stC (s : St) : Array Value := #[.int .u32 s.a, .int .u32 s.x, .int .u32 (mAt s.m 0), .int .u32 (mAt s.m 1), .int .u32 (mAt s.m 2), .int .u32 (mAt s.m 3), .int .u32 (mAt s.m 4), .int .u32 (mAt s.m 5), .int .u32 (mAt s.m 6), .int .u32 (mAt s.m 7), .int .u32 (mAt s.m 8), .int .u32 (mAt s.m 9), .int .u32 (mAt s.m 10), .int .u32 (mAt s.m 11), .int .u32 (mAt s.m 12), .int .u32 (mAt s.m 13), .int .u32 (mAt s.m 14), .int .u32 (mAt s.m 15)]
abbrev St.val (s : St) : Value := .agg (stC s)
/-! ### Rows of a call's own: one that has been written -/
/-- 'w' is written in one row alone, which then holds 'o'. -/
structure RowPut (w w' : World) (g : Nat) (o : Obj) : Prop where
  os : w'.os = w.os
  tape : w'.tape = w.tape
  output : w'.output = w.output
  size : w'.heap.size = w.heap.size
  row : w'.heap[g]? = some o
  rest : ∀ k, k ≠ g → w'.heap[k]? = w.heap[k]?
theorem RowPut.below {w w' a : World} {g B : Nat} {o : Obj} (h : RowPut w w' g o) (hb : Below B a w) (hg : B ≤ g) : Below B a w' :=
  ⟨h.os.trans hb.os, h.tape.trans hb.tape, h.output.trans hb.output, by rw [h.size]; exact hb.size, fun k hk => (h.rest k (by omega)).trans (hb.block k hk)⟩
theorem RowPut.keep {w w' : World} {g k : Nat} {o o' : Obj} (h : RowPut w w' g o) (hk : k ≠ g) (ho : w.heap[k]? = some o') : w'.heap[k]? = some o' := (h.rest k hk).trans ho
theorem rowPut_set {w : World} {g : Nat} {old : Array Value} {t : TypeId} (hg : w.heap[g]? = some (.cells old t)) (cs : Array Value) : RowPut w (w.setRow g cs) g (.cells cs t) :=
  ⟨rfl, rfl, rfl, by unfold World.setRow; simp, setRow_heap w g old cs t (0, 0) hg, fun k hk => setRow_other w g k cs hk⟩
section
variable {ops : Array Oper} {rest : List Oper} {o : Oper} {a : Act} {w : World} {Q : Exit → Act → World → Prop}
end
theorem ka {w : World} {g : Nat} {o : Obj} (o' : Obj) (h : w.heap[g]? = some o) : (w.alloc o').heap[g]? = some o := (Below.heap_alloc w o' g (lt_of_block h)).trans h

theorem kb {w w' : World} {g : Nat} {o : Obj} (hb : Below w.heap.size w w') (h : w.heap[g]? = some o) : w'.heap[g]? = some o := (hb.block _ (lt_of_block h)).trans h
/-- Blocks that a call lays at its head. -/
theorem box2 (w : World) (A B : Obj) : ∃ W, W = (w.alloc A).alloc B ∧ W.heap[w.heap.size]? = some A ∧ W.heap[w.heap.size + 1]? = some B ∧ Below w.heap.size w W :=
  ⟨_, rfl, ka _ (heap_alloc_new _ _), by have h := heap_alloc_new (w.alloc A) B; rw [size_alloc] at h; exact h, ba _ (ba _ (Below.refl _ _))⟩
end Go.Proofs.YtdjjmcblhpjchaaGreatDoor
/-
  The document's own answers on conditions (package hurdleref08): Right, masked, Holds, part.
-/
namespace Go.Proofs.YtdjjmcblhpjchaaGreatDoor
open Go.ChangeShapes Go.WideShapes Go.ChangeAt Go.RowKit
set_option maxRecDepth 20000

theorem cdX {w : World} {g : Nat} {c : Cd} (h : w.heap[g]? = some (cdB c)) : w.cell? ⟨g, 0, none⟩ = some (.int .i64 c.arg) ∧ w.cell? ⟨g, 1, none⟩ = some (.int .i64 c.cmp) ∧ w.cell? ⟨g, 2, none⟩ = some (.int .u64 (c.mask : Nat)) ∧ w.cell? ⟨g, 3, none⟩ = some (.int .u64 (c.value : Nat)) :=
  ⟨cell_in h 0, cell_in h 1, cell_in h 2, cell_in h 3⟩
theorem rright8_any (c : Cd) (w : World) :
    Calls Tryz.prog 19 #[c.val] w fun e w' => e = .returned (.bool c.right) ∧ Below w.heap.size w w' := by
  have HB := Lib.hid (ba (cdB c) (Below.refl w.heap.size w))
  have HX := Lib.hid (heap_alloc_new w (cdB c))
  obtain ⟨c0, c1, c2, c3⟩ := cdX HX.out
  obtain ⟨arg, cmp, mask, value⟩ := c
  by_cases h0 : 0 ≤ arg
  · by_cases h1 : arg ≤ 5
    · by_cases h2 : 0 ≤ cmp
      · by_cases h3 : cmp ≤ 5
        · have HR : Hid ((⟨arg, cmp, mask, value⟩ : Cd).right = true) := Lib.hid (by rw [Cd.right_iff]; exact ⟨h0, h1, h2, h3⟩)
          go_enter Tryz.func19, Tryz.ntmps19
          go_wp2_with fail
          go_ret
          exact ⟨by rw [HR.out]; rfl, HB.out⟩
        · have HR : Hid ((⟨arg, cmp, mask, value⟩ : Cd).right = false) := Lib.hid (by rw [Bool.eq_false_iff, ne_eq, Cd.right_iff]; simp only; omega)
          go_enter Tryz.func19, Tryz.ntmps19
          go_wp2_with fail
          go_ret
          exact ⟨by rw [HR.out]; rfl, HB.out⟩
      · have HR : Hid ((⟨arg, cmp, mask, value⟩ : Cd).right = false) := Lib.hid (by rw [Bool.eq_false_iff, ne_eq, Cd.right_iff]; simp only; omega)
        go_enter Tryz.func19, Tryz.ntmps19
        go_wp2_with fail
        go_ret
        exact ⟨by rw [HR.out]; rfl, HB.out⟩
    · have HR : Hid ((⟨arg, cmp, mask, value⟩ : Cd).right = false) := Lib.hid (by rw [Bool.eq_false_iff, ne_eq, Cd.right_iff]; simp only; omega)
      go_enter Tryz.func19, Tryz.ntmps19
      go_wp2_with fail
      go_ret
      exact ⟨by rw [HR.out]; rfl, HB.out⟩
  · have HR : Hid ((⟨arg, cmp, mask, value⟩ : Cd).right = false) := Lib.hid (by rw [Bool.eq_false_iff, ne_eq, Cd.right_iff]; simp only; omega)
    go_enter Tryz.func19, Tryz.ntmps19
    go_wp2_with fail
    go_ret
    exact ⟨by rw [HR.out]; rfl, HB.out⟩

/-- What is scanned up to a place. -/
theorem upto_scan {l : List UInt8} {p j : Nat} (hp : p ≤ j) (hj : j < l.length) (h : ∀ i, p ≤ i → i < j → l[i]? ≠ some 32) (hc : l[j] = 32) : uptoS (l.drop p) = (l.drop p).take (j - p) := by
  have e : l.drop p = (l.drop p).take (j - p) ++ 32 :: (l.drop p).drop (j - p + 1) := by
    have h1 := List.take_append_drop (j - p) (l.drop p)
    have h2 : (l.drop p).drop (j - p) = 32 :: (l.drop p).drop (j - p + 1) := by
      rw [List.drop_drop, List.drop_drop, show p + (j - p) = j by omega, show p + (j - p + 1) = j + 1 by omega, List.drop_eq_getElem_cons hj, hc]
    rw [← h2]
    exact h1.symm
  conv => lhs; rw [e]
  refine uptoS_app fun c hc' => ?_
  obtain ⟨i, hi, rfl⟩ := List.mem_iff_getElem.1 hc'
  intro he
  have hi2 : i < j - p := by
    have := hi
    rw [List.length_take] at this
    omega
  refine h (p + i) (by omega) (by omega) ?_
  rw [← he, List.getElem_take, List.getElem_drop, List.getElem?_eq_getElem (by omega)]
theorem upto_scan_end {l : List UInt8} {p : Nat} (h : ∀ i, p ≤ i → i < l.length → l[i]? ≠ some 32) : uptoS (l.drop p) = l.drop p := by
  refine uptoS_all fun c hc' => ?_
  obtain ⟨i, hi, rfl⟩ := List.mem_iff_getElem.1 hc'
  intro he
  rw [List.length_drop] at hi
  refine h (p + i) (by omega) (by omega) ?_
  rw [← he, List.getElem_drop, List.getElem?_eq_getElem (by omega)]
theorem extract_take (s : ByteArray) (a b : Nat) : s.extract a b = ⟨((s.data.toList.drop a).take (b - a)).toArray⟩ := by
  apply ByteArray.ext
  apply Array.ext'
  simp [ByteArray.data_extract, List.extract_eq_take_drop]
/-- A piece of a text, as a text. -/
def pieceT (s : ByteArray) (p : Nat) : ByteArray := ⟨(pieceL s.data.toList p).toArray⟩
theorem pieceT_size (s : ByteArray) (p : Nat) : (pieceT s p).size ≤ s.size := by
  show (pieceL s.data.toList p).length ≤ s.data.toList.length
  unfold pieceL
  split
  · simp
  · refine Nat.le_trans (List.IsPrefix.length_le (List.takeWhile_prefix _)) ?_
    rw [List.length_drop]
    omega
theorem nextP_le (s : ByteArray) (p : Nat) (h : p ≤ s.size + 1) : nextP s.data.toList p ≤ s.size + 1 := by
  have hl : s.data.toList.length = s.size := rfl
  unfold nextP
  split
  · exact h
  · have : (uptoS (s.data.toList.drop p)).length ≤ (s.data.toList.drop p).length := List.IsPrefix.length_le (List.takeWhile_prefix _)
    rw [List.length_drop] at this
    omega
set_option maxHeartbeats 1000000 in
theorem rpart_any (s : ByteArray) (p : Nat) (w : World) (hs : s.size ≤ 4611686018427387904) (hp : p ≤ s.size + 1) :
    Calls Tryz.prog 71 #[.string s, .int .i64 p] w fun e w' => e = .returned (.tuple #[.string (pieceT s p), .int .i64 (nextP s.data.toList p : Nat)]) ∧ Below w.heap.size w w' := by
  have hl : s.data.toList.length = s.size := rfl
  by_cases hge : s.size ≤ p
  · have HE : Hid (pieceT s p = ⟨#[]⟩ ∧ nextP s.data.toList p = p) := Lib.hid (by
      unfold pieceT pieceL nextP
      rw [if_pos (by omega), if_pos (by omega)]
      exact ⟨rfl, rfl⟩)
    rw [HE.out.1, HE.out.2]
    have h1 : ¬ (p : Int) < (s.size : Int) := by omega
    have h2 : (s.size : Int) ≤ (p : Int) := by omega
    clear hl
    go_enter Tryz.func71, Tryz.ntmps71
    go_wp2_with fail
    go_loopw [6] (fun i wr => i = .int .i64 p ∧ Below w.heap.size w wr) (fun i _ => 0)
    case atStart => exact ⟨rfl, Below.refl _ _⟩
    case round =>
      obtain ⟨rfl, hbw⟩ := hrel
      have HB := Lib.hid hbw
      clear hbw
      go_wp2_with fail
      go_ret2
      exact ⟨rfl, HB.out⟩
  · have hlt0 : p < s.size := by omega
    go_enter Tryz.func71, Tryz.ntmps71
    go_wp2_with fail
    go_loopw [6] (fun i wr => ∃ j : Nat, p ≤ j ∧ j ≤ s.size ∧ i = .int .i64 j ∧ Below w.heap.size w wr ∧ ∀ i, p ≤ i → i < j → s.data.toList[i]? ≠ some 32) (fun i _ => s.size - (intOf i).toNat)
    case atStart => exact ⟨p, by omega, by omega, rfl, Below.refl _ _, fun i h1 h2 => by omega⟩
    case round =>
      obtain ⟨j, hj0, hj1, rfl, hbw, hno⟩ := hrel
      have HB := Lib.hid hbw
      have HN := Lib.hid hno
      clear hbw hno
      have fin : ∀ j', p ≤ j' → j' ≤ s.size → uptoS (s.data.toList.drop p) = (s.data.toList.drop p).take (j' - p) → pieceT s p = s.extract p j' ∧ nextP s.data.toList p = j' + 1 := by
        intro j' h0 h1 hu
        unfold pieceT pieceL nextP
        rw [if_neg (by omega), if_neg (by omega), hu, extract_take]
        refine ⟨rfl, ?_⟩
        rw [List.length_take, List.length_drop]
        omega
      have FIN := Lib.hid fin
      clear fin
      have hsl : ∀ W, (Instr.slice 9 (.string s) (some (.int .i64 (p : Int))) (some (.int .i64 (j : Int))) none).run Tryz.prog W = .ok (.string (s.extract p j)) W := fun W => by
        have h := run_slice_string (P := Tryz.prog) W 9 s .i64 .i64 (p : Int) (j : Int) Tryz.underlying9 (by omega) (by omega) (by omega)
        rw [h]
        rfl
      by_cases hlt : j < s.size
      · by_cases hm : s.data.toList[j]'hlt = 32
        · have hbq : (((s[j]'hlt).toNat : Int) == 32) = true := by
            have e : s[j]'hlt = 32 := hm
            rw [e]
            rfl
          have HF := Lib.hid (FIN.out j hj0 hj1 (upto_scan hj0 hlt HN.out hm))
          clear hm FIN HN
          go_wp2_with fail
          go_ret2
          exact ⟨by rw [HF.out.1, HF.out.2]; first | (simp; done) | (simp; omega), HB.out⟩
        · have hbq : (((s[j]'hlt).toNat : Int) == 32) = false := by
            rw [beq_eq_false_iff_ne]
            intro e
            apply hm
            apply UInt8.toNat_inj.1
            exact Int.ofNat.inj e
          have HN' : Hid (∀ i, p ≤ i → i < j + 1 → s.data.toList[i]? ≠ some 32) := Lib.hid (by
            intro i h1 h2
            by_cases hij : i < j
            · exact HN.out i h1 hij
            · obtain rfl : i = j := by omega
              rw [List.getElem?_eq_getElem hlt]
              intro e
              exact hm (Option.some.inj e))
          clear hm FIN HN hsl
          go_wp2_with fail
          go_roundw
          case rel => exact ⟨j + 1, by omega, by omega, by go_num, HB.out, HN'.out⟩
          case measure => simp [intOf]; omega
      · have hj : j = s.size := by omega
        have HF := Lib.hid (FIN.out j hj0 hj1 (by
          rw [upto_scan_end fun i h1 h2 => HN.out i h1 (by omega), List.take_of_length_le]
          rw [List.length_drop]
          omega))
        have h1 : ¬ (j : Int) < (s.size : Int) := by omega
        clear FIN HN hj
        go_wp2_with fail
        go_ret2
        exact ⟨by rw [HF.out.1, HF.out.2]; first | (simp; done) | (simp; omega), HB.out⟩
end Go.Proofs.YtdjjmcblhpjchaaGreatDoor
/-
  The document's Words and Print (package hurdleref08).
-/
namespace Go.Proofs.YtdjjmcblhpjchaaGreatDoor
open Go.ChangeShapes Go.WideShapes Go.ChangeAt Go.RowKit
set_option maxRecDepth 20000

/-! ### A region whose order is drawn, taken by hand -/
section
variable {ops : Array Oper} {Q : Exit → Act → World → Prop} {md : Region.Mode} {S : World → Prop}
/-- An operation is taken first; its slot is handed over. -/
theorem held_take {i : Nat} {oi : Oper} {v : Value} (q : Option Tmp) {fuel : Nat} {listed : Array Bool} {a : Act} {w : World} (hi : ops[i]? = some oi) (hq : oi.dst = q)
    (hs : Region.noSelect ops = true) (hf : Region.free md ops listed i = true) (hr : (Region.ready md ops listed).contains i = true)
    (hQ : ∀ c a w, Q (.panic c) (a.put oi.dst v) w → Q (.panic c) a w) (hy : YieldsIf Tryz.prog ops S oi v a) (hS : S w)
    (h : wpAnyH Tryz.prog md ops Q S fuel (listed.setIfInBounds i true) (a.put q v) w) : wpAnyH Tryz.prog md ops Q S (fuel + 1) listed a w :=
  wpAnyH_take hi hs hf hr hQ hy hS (by rw [hq]; exact h)
/-- What holds of the worlds behind may be said more sharply. -/
theorem held_weak {S' : World → Prop} (hS : ∀ V, S' V → S V) : ∀ (fuel : Nat) (listed : Array Bool) (a : Act) (w : World), wpAnyH Tryz.prog md ops Q S' fuel listed a w → wpAnyH Tryz.prog md ops Q S fuel listed a w
  | 0, _, _, _, h => h
  | fuel + 1, _, _, _, h => ⟨h.1, fun i hi => wpOp_mono (fun _ _ h' => ⟨hS _ h'.1, held_weak hS fuel _ _ _ h'.2⟩) (h.2 i hi)⟩
variable {o : Oper} {a : Act}
theorem yi_add {p q : Operand} {x y : ByteArray} (hw : Region.wanted o (yielded ops a.tmps) = true) (ho : o.op = .binOp .add 9 p q 9) (hx : a.eval p = .string x) (hy : a.eval q = .string y) (h : x.size + y.size ≤ 1000000) : YieldsIf Tryz.prog ops S o (.string (x ++ y)) a :=
  .inl ⟨hw, fun V _ => by
    have hn : ¬ 9223372036854775807 < x.size + y.size := by omega
    unfold execOp
    simp only [ho, hx, hy]
    go_simp⟩
end
/-- The words of the comparisons, as they lie in a row. -/
def qwordsC : Array Value := #[.string ⟨#[101, 113]⟩, .string ⟨#[110, 101]⟩, .string ⟨#[108, 116]⟩, .string ⟨#[108, 101]⟩, .string ⟨#[103, 116]⟩, .string ⟨#[103, 101]⟩]
def digitsC : Array Value := #[.string ⟨#[48]⟩, .string ⟨#[49]⟩, .string ⟨#[50]⟩, .string ⟨#[51]⟩, .string ⟨#[52]⟩, .string ⟨#[53]⟩]
def wordT (k : Int) : ByteArray := ⟨(cmpW k).toArray⟩
def digitT (k : Int) : ByteArray := ⟨#[UInt8.ofNat (48 + k.toNat)]⟩
theorem qwordsC_at {k : Nat} (h : k < 6) : qwordsC[k]? = some (.string (wordT k)) := by
  rcases six (k := (k : Int)) (by omega) (by omega) with e | e | e | e | e | e
  · obtain rfl : k = 0 := by omega
    rfl
  · obtain rfl : k = 1 := by omega
    rfl
  · obtain rfl : k = 2 := by omega
    rfl
  · obtain rfl : k = 3 := by omega
    rfl
  · obtain rfl : k = 4 := by omega
    rfl
  · obtain rfl : k = 5 := by omega
    rfl
theorem digitsC_at {k : Nat} (h : k < 6) : digitsC[k]? = some (.string (digitT k)) := by
  rcases six (k := (k : Int)) (by omega) (by omega) with e | e | e | e | e | e
  · obtain rfl : k = 0 := by omega
    rfl
  · obtain rfl : k = 1 := by omega
    rfl
  · obtain rfl : k = 2 := by omega
    rfl
  · obtain rfl : k = 3 := by omega
    rfl
  · obtain rfl : k = 4 := by omega
    rfl
  · obtain rfl : k = 5 := by omega
    rfl
theorem wordT_size {k : Int} (h0 : 0 ≤ k) (h5 : k ≤ 5) : (wordT k).size = 2 := by
  rcases six h0 h5 with rfl | rfl | rfl | rfl | rfl | rfl <;> rfl
theorem qwordsC_lit : (#[.string ⟨#[101, 113]⟩, .string ⟨#[110, 101]⟩, .string ⟨#[108, 116]⟩, .string ⟨#[108, 101]⟩, .string ⟨#[103, 116]⟩, .string ⟨#[103, 101]⟩] : Array Value) = qwordsC := rfl
theorem digitsC_lit : (#[.string ⟨#[48]⟩, .string ⟨#[49]⟩, .string ⟨#[50]⟩, .string ⟨#[51]⟩, .string ⟨#[52]⟩, .string ⟨#[53]⟩] : Array Value) = digitsC := rfl
theorem rwords_any (w : World) :
    Calls Tryz.prog 61 #[] w fun e w' => e = .returned (.slice (some ⟨w.heap.size, 0, none⟩) 6 6) ∧ w' = w.alloc (.cells qwordsC 9) := by
  have hl := qwordsC_lit
  go_enter Tryz.func61, Tryz.ntmps61
  go_wp2_with fail
  go_ret
  exact ⟨rfl, rfl⟩
/-- A condition's text. -/
def textT (c : Cd) : ByteArray := ⟨(textQ c).toArray⟩
theorem txt_le18 {n : Nat} (h : n < 18446744073709551616) : (Wd.txt n).size ≤ 18 := by
  have := Wd.hex_len16 n h
  show (48 :: 120 :: Wd.hex n).length ≤ 18
  simp
  omega
theorem textT_eq (c : Cd) : ((((((((⟨#[97]⟩ : ByteArray) ++ digitT c.arg) ++ ⟨#[32]⟩) ++ Wd.txt c.mask) ++ ⟨#[32]⟩) ++ wordT c.cmp) ++ ⟨#[32]⟩) ++ Wd.txt c.value) = textT c := by
  apply ByteArray.ext
  apply Array.ext'
  unfold textT textQ digitT Wd.txt wordT argW numT
  simp
set_option maxHeartbeats 8000000 in
theorem rprint8_any (c : Cd) (w : World) (hc : c.ok) (hr : c.right = true) :
    Calls Tryz.prog 40 #[c.val] w fun e w' => e = .returned (.string (textT c)) ∧ Below w.heap.size w w' := by
  obtain ⟨a0, a5, k0, k5⟩ := (c.right_iff).1 hr
  have HE := Lib.hid (textT_eq c)
  have hz1 := txt_le18 hc.1
  have hz2 := txt_le18 hc.2
  have hz3 := wordT_size k0 k5
  have hz4 : (digitT c.arg).size = 1 := rfl
  obtain ⟨n, hn⟩ : ∃ n : Nat, c.arg = n := ⟨c.arg.toNat, by omega⟩
  obtain ⟨m, hm⟩ : ∃ m : Nat, c.cmp = m := ⟨c.cmp.toNat, by omega⟩
  have hn6 : n < 6 := by omega
  have hm6 : m < 6 := by omega
  have HDI := Lib.hid (digitsC_at hn6)
  have HWO := Lib.hid (qwordsC_at hm6)
  rw [← hn] at HDI
  rw [← hm] at HWO
  have HTM := Lib.hid (refText_any c.mask hc.1)
  have HTV := Lib.hid (refText_any c.value hc.2)
  obtain ⟨D, hD⟩ : ∃ D, D = digitT c.arg := ⟨_, rfl⟩
  obtain ⟨K, hK⟩ : ∃ K, K = wordT c.cmp := ⟨_, rfl⟩
  obtain ⟨T, hT⟩ : ∃ T, T = Wd.txt c.mask := ⟨_, rfl⟩
  obtain ⟨V, hV⟩ : ∃ V, V = Wd.txt c.value := ⟨_, rfl⟩
  rw [← hD, ← hK, ← hT, ← hV] at HE
  rw [← hD] at HDI hz4
  rw [← hK] at HWO hz3
  rw [← hT] at HTM hz1
  rw [← hV] at HTV hz2
  have HX0 := Lib.hid (heap_alloc_new w (cdB c))
  have HB0 := Lib.hid (ba (cdB c) (Below.refl w.heap.size w))
  obtain ⟨W, hW⟩ : ∃ W, W = w.alloc (cdB c) := ⟨_, rfl⟩
  rw [← hW] at HX0 HB0
  have HBOX : Hid (∀ V, Below W.heap.size W V → V.cell? ⟨w.heap.size, 0, none⟩ = some (.int .i64 c.arg) ∧ V.cell? ⟨w.heap.size, 1, none⟩ = some (.int .i64 c.cmp) ∧ V.cell? ⟨w.heap.size, 2, none⟩ = some (.int .u64 (c.mask : Nat)) ∧ V.cell? ⟨w.heap.size, 3, none⟩ = some (.int .u64 (c.value : Nat))) := Lib.hid (fun V hV => cdX (kb hV HX0.out))
  rw [hn, hm] at HBOX
  clear hn hm
  clear hD hK hT hV a0 a5 k0 k5 hr
  go_enter Tryz.func40, Tryz.ntmps40
  go_upto_region 1 with fail
  rw [← hW]
  clear hW
  have l0 : (0 : Int) ≤ (n : Int) := by omega
  have l1 : (n : Int) < 6 := by omega
  have t1 : (n : Int).toNat = n := by omega
  have l2 : (0 : Int) ≤ (m : Int) := by omega
  have l3 : (m : Int) < 6 := by omega
  have t2 : (m : Int).toNat = m := by omega
  have hz5 : (⟨#[97]⟩ : ByteArray).size = 1 := rfl
  have hz6 : (⟨#[32]⟩ : ByteArray).size = 1 := rfl
  have hdl := digitsC_lit
  have hwl := qwordsC_lit
  refine wp_region_held_drew (S := fun V => Below W.heap.size W V) (by kernel_rfl) ?_ (fun hHeld => ?_)
  · exact bdN (Below.refl _ _) 1
  obtain ⟨u0, hu0⟩ : ∃ v, v = W.drew := ⟨_, rfl⟩
  rw [← hu0] at hHeld ⊢
  clear hu0
  have HCu0 := Lib.hid hHeld
  refine held_weak (S' := fun V => Below u0.heap.size u0 V) (fun V hV => below2 hHeld hV) _ _ _ _ ?_
  replace hHeld := Below.refl u0.heap.size u0
  refine held_take (i := 1) (v := .pointer (some ⟨w.heap.size, 0, none⟩)) (some 4) rfl rfl (by kernel_rfl) (by kernel_rfl) (by kernel_rfl) (fun _ _ _ h => h) (.inl ⟨by rfl, fun V _ => by go_simp⟩) hHeld ?_
  simp only [Act.put, List.setIfInBounds_toArray, List.set_cons_zero, List.set_cons_succ]
  refine held_take (i := 2) (v := .int .i64 (n : Int)) (some 5) rfl rfl (by kernel_rfl) (by kernel_rfl) (by kernel_rfl) (fun _ _ _ h => h) (.inl ⟨by rfl, fun V hV => by have h := (HBOX.out V (below2 HCu0.out hV)).1; go_simp⟩) hHeld ?_
  simp only [Act.put, List.setIfInBounds_toArray, List.set_cons_zero, List.set_cons_succ]
  refine held_take (i := 7) (v := .pointer (some ⟨w.heap.size, 2, none⟩)) (some 10) rfl rfl (by kernel_rfl) (by kernel_rfl) (by kernel_rfl) (fun _ _ _ h => h) (.inl ⟨by rfl, fun V _ => by go_simp⟩) hHeld ?_
  simp only [Act.put, List.setIfInBounds_toArray, List.set_cons_zero, List.set_cons_succ]
  refine held_take (i := 8) (v := .int .u64 (c.mask : Nat)) (some 11) rfl rfl (by kernel_rfl) (by kernel_rfl) (by kernel_rfl) (fun _ _ _ h => h) (.inl ⟨by rfl, fun V hV => by have h := (HBOX.out V (below2 HCu0.out hV)).2.2.1; go_simp⟩) hHeld ?_
  simp only [Act.put, List.setIfInBounds_toArray, List.set_cons_zero, List.set_cons_succ]
  refine held_take (i := 13) (v := .pointer (some ⟨w.heap.size, 1, none⟩)) (some 16) rfl rfl (by kernel_rfl) (by kernel_rfl) (by kernel_rfl) (fun _ _ _ h => h) (.inl ⟨by rfl, fun V _ => by go_simp⟩) hHeld ?_
  simp only [Act.put, List.setIfInBounds_toArray, List.set_cons_zero, List.set_cons_succ]
  refine held_take (i := 14) (v := .int .i64 (m : Int)) (some 17) rfl rfl (by kernel_rfl) (by kernel_rfl) (by kernel_rfl) (fun _ _ _ h => h) (.inl ⟨by rfl, fun V hV => by have h := (HBOX.out V (below2 HCu0.out hV)).2.1; go_simp⟩) hHeld ?_
  simp only [Act.put, List.setIfInBounds_toArray, List.set_cons_zero, List.set_cons_succ]
  refine held_take (i := 19) (v := .pointer (some ⟨w.heap.size, 3, none⟩)) (some 22) rfl rfl (by kernel_rfl) (by kernel_rfl) (by kernel_rfl) (fun _ _ _ h => h) (.inl ⟨by rfl, fun V _ => by go_simp⟩) hHeld ?_
  simp only [Act.put, List.setIfInBounds_toArray, List.set_cons_zero, List.set_cons_succ]
  refine held_take (i := 20) (v := .int .u64 (c.value : Nat)) (some 23) rfl rfl (by kernel_rfl) (by kernel_rfl) (by kernel_rfl) (fun _ _ _ h => h) (.inl ⟨by rfl, fun V hV => by have h := (HBOX.out V (below2 HCu0.out hV)).2.2.2; go_simp⟩) hHeld ?_
  simp only [Act.put, List.setIfInBounds_toArray, List.set_cons_zero, List.set_cons_succ]
  refine wpAnyH_ready (rs := [0, 9]) (by kernel_rfl) (by simp) ?_
  refine AllReadyH.cons rfl (fun K hK => ?_) (AllReadyH.cons rfl (fun K hK => ?_) AllReadyH.nil)
  · go_simp
    refine hK.out _ _ (ba (.cells digitsC 9) (Below.refl u0.heap.size u0)) (fun hHeld => ?_)
    clear hK K
    obtain ⟨u1, hu1⟩ : ∃ v, v = u0.alloc (.cells digitsC 9) := ⟨_, rfl⟩
    have hbn : u1.heap[u0.heap.size]? = some (.cells digitsC 9) := by rw [hu1]; exact heap_alloc_new _ _
    rw [← hu1] at hHeld ⊢
    clear hu1
    have HRBu1 := Lib.hid hbn
    clear hbn
    have HCu1 := Lib.hid (below2 HCu0.out hHeld)
    refine held_weak (S' := fun V => Below u1.heap.size u1 V) (fun V hV => below2 hHeld hV) _ _ _ _ ?_
    replace hHeld := Below.refl u1.heap.size u1
    refine held_take (i := 3) (v := .pointer (some ⟨u0.heap.size, n, none⟩)) (some 6) rfl rfl (by kernel_rfl) (by kernel_rfl) (by kernel_rfl) (fun _ _ _ h => h) (.inl ⟨by rfl, fun V _ => by go_simp⟩) hHeld ?_
    simp only [Act.put, List.setIfInBounds_toArray, List.set_cons_zero, List.set_cons_succ]
    refine held_take (i := 4) (v := .string D) (some 7) rfl rfl (by kernel_rfl) (by kernel_rfl) (by kernel_rfl) (fun _ _ _ h => h) (.inl ⟨by rfl, fun V hV => by have h := (cell_in (kb hV HRBu1.out) n).trans HDI.out; go_simp⟩) hHeld ?_
    simp only [Act.put, List.setIfInBounds_toArray, List.set_cons_zero, List.set_cons_succ]
    refine held_take (i := 5) (some 8) rfl rfl (by kernel_rfl) (by kernel_rfl) (by kernel_rfl) (fun _ _ _ h => h) (yi_add (by rfl) (by rfl) (by rfl) (by rfl) (by (try simp only [ByteArray.size_append]); omega)) hHeld ?_
    simp only [Act.put, List.setIfInBounds_toArray, List.set_cons_zero, List.set_cons_succ]
    refine held_take (i := 6) (some 9) rfl rfl (by kernel_rfl) (by kernel_rfl) (by kernel_rfl) (fun _ _ _ h => h) (yi_add (by rfl) (by rfl) (by rfl) (by rfl) (by (try simp only [ByteArray.size_append]); omega)) hHeld ?_
    simp only [Act.put, List.setIfInBounds_toArray, List.set_cons_zero, List.set_cons_succ]
    refine wpAnyH_ready (rs := [9]) (by kernel_rfl) (by simp) ?_
    refine AllReadyH.cons rfl (fun K hK => ?_) AllReadyH.nil
    go_simp
    refine (HTM.out _).mono ?_
    rintro e u2 ⟨rfl, hbu2⟩
    go_simp
    refine hK.out _ _ hbu2 (fun hHeld => ?_)
    clear hK K
    have HRBu2 := Lib.hid (kb hHeld HRBu1.out)
    have HCu2 := Lib.hid (below2 HCu1.out hHeld)
    refine held_weak (S' := fun V => Below u2.heap.size u2 V) (fun V hV => below2 hHeld hV) _ _ _ _ ?_
    replace hHeld := Below.refl u2.heap.size u2
    refine held_take (i := 10) (some 13) rfl rfl (by kernel_rfl) (by kernel_rfl) (by kernel_rfl) (fun _ _ _ h => h) (yi_add (by rfl) (by rfl) (by rfl) (by rfl) (by (try simp only [ByteArray.size_append]); omega)) hHeld ?_
    simp only [Act.put, List.setIfInBounds_toArray, List.set_cons_zero, List.set_cons_succ]
    refine held_take (i := 11) (some 14) rfl rfl (by kernel_rfl) (by kernel_rfl) (by kernel_rfl) (fun _ _ _ h => h) (yi_add (by rfl) (by rfl) (by rfl) (by rfl) (by (try simp only [ByteArray.size_append]); omega)) hHeld ?_
    simp only [Act.put, List.setIfInBounds_toArray, List.set_cons_zero, List.set_cons_succ]
    refine wpAnyH_ready (rs := [12]) (by kernel_rfl) (by simp) ?_
    refine AllReadyH.cons rfl (fun K hK => ?_) AllReadyH.nil
    go_simp
    refine (rwords_any _).mono ?_
    rintro e w' ⟨rfl, rfl⟩
    go_simp
    refine hK.out _ _ (ba (.cells qwordsC 9) (Below.refl u2.heap.size u2)) (fun hHeld => ?_)
    clear hK K
    obtain ⟨u3, hu3⟩ : ∃ v, v = u2.alloc (.cells qwordsC 9) := ⟨_, rfl⟩
    have hbn : u3.heap[u2.heap.size]? = some (.cells qwordsC 9) := by rw [hu3]; exact heap_alloc_new _ _
    rw [← hu3] at hHeld ⊢
    clear hu3
    have HRBu3 := Lib.hid (kb hHeld HRBu2.out)
    have HRWu3 := Lib.hid hbn
    clear hbn
    have HCu3 := Lib.hid (below2 HCu2.out hHeld)
    refine held_weak (S' := fun V => Below u3.heap.size u3 V) (fun V hV => below2 hHeld hV) _ _ _ _ ?_
    replace hHeld := Below.refl u3.heap.size u3
    refine held_take (i := 15) (v := .pointer (some ⟨u2.heap.size, m, none⟩)) (some 18) rfl rfl (by kernel_rfl) (by kernel_rfl) (by kernel_rfl) (fun _ _ _ h => h) (.inl ⟨by rfl, fun V _ => by go_simp⟩) hHeld ?_
    simp only [Act.put, List.setIfInBounds_toArray, List.set_cons_zero, List.set_cons_succ]
    refine held_take (i := 16) (v := .string K) (some 19) rfl rfl (by kernel_rfl) (by kernel_rfl) (by kernel_rfl) (fun _ _ _ h => h) (.inl ⟨by rfl, fun V hV => by have h := (cell_in (kb hV HRWu3.out) m).trans HWO.out; go_simp⟩) hHeld ?_
    simp only [Act.put, List.setIfInBounds_toArray, List.set_cons_zero, List.set_cons_succ]
    refine held_take (i := 17) (some 20) rfl rfl (by kernel_rfl) (by kernel_rfl) (by kernel_rfl) (fun _ _ _ h => h) (yi_add (by rfl) (by rfl) (by rfl) (by rfl) (by (try simp only [ByteArray.size_append]); omega)) hHeld ?_
    simp only [Act.put, List.setIfInBounds_toArray, List.set_cons_zero, List.set_cons_succ]
    refine held_take (i := 18) (some 21) rfl rfl (by kernel_rfl) (by kernel_rfl) (by kernel_rfl) (fun _ _ _ h => h) (yi_add (by rfl) (by rfl) (by rfl) (by rfl) (by (try simp only [ByteArray.size_append]); omega)) hHeld ?_
    simp only [Act.put, List.setIfInBounds_toArray, List.set_cons_zero, List.set_cons_succ]
    refine wpAnyH_ready (rs := [21]) (by kernel_rfl) (by simp) ?_
    refine AllReadyH.cons rfl (fun K hK => ?_) AllReadyH.nil
    go_simp
    refine (HTV.out _).mono ?_
    rintro e u4 ⟨rfl, hbu4⟩
    go_simp
    refine hK.out _ _ hbu4 (fun hHeld => ?_)
    clear hK K
    have HRBu4 := Lib.hid (kb hHeld HRBu3.out)
    have HRWu4 := Lib.hid (kb hHeld HRWu3.out)
    have HCu4 := Lib.hid (below2 HCu3.out hHeld)
    refine held_weak (S' := fun V => Below u4.heap.size u4 V) (fun V hV => below2 hHeld hV) _ _ _ _ ?_
    replace hHeld := Below.refl u4.heap.size u4
    refine held_take (i := 22) (some 25) rfl rfl (by kernel_rfl) (by kernel_rfl) (by kernel_rfl) (fun _ _ _ h => h) (yi_add (by rfl) (by rfl) (by rfl) (by rfl) (by (try simp only [ByteArray.size_append]); omega)) hHeld ?_
    simp only [Act.put, List.setIfInBounds_toArray, List.set_cons_zero, List.set_cons_succ]
    refine held_take (i := 23) (v := .string (((((((⟨#[97]⟩ ++ D) ++ ⟨#[32]⟩) ++ T) ++ ⟨#[32]⟩) ++ K) ++ ⟨#[32]⟩) ++ V)) (some 2) rfl rfl (by kernel_rfl) (by kernel_rfl) (by kernel_rfl) (fun _ _ _ h => h) (.inl ⟨by rfl, fun V _ => by go_simp⟩) hHeld ?_
    simp only [Act.put, List.setIfInBounds_toArray, List.set_cons_zero, List.set_cons_succ]
    refine wpAnyH_done (by kernel_rfl) ?_ _
    have HBB := Lib.hid (below2 HB0.out HCu4.out)
    clear hHeld
    go_wp2_with fail
    go_ret
    exact ⟨by rw [← HE.out]; rfl, HBB.out⟩
  · go_simp
    refine (HTM.out _).mono ?_
    rintro e u5 ⟨rfl, hbu5⟩
    go_simp
    refine hK.out _ _ hbu5 (fun hHeld => ?_)
    clear hK K
    have HCu5 := Lib.hid (below2 HCu0.out hHeld)
    refine held_weak (S' := fun V => Below u5.heap.size u5 V) (fun V hV => below2 hHeld hV) _ _ _ _ ?_
    replace hHeld := Below.refl u5.heap.size u5
    refine wpAnyH_ready (rs := [0, 12]) (by kernel_rfl) (by simp) ?_
    refine AllReadyH.cons rfl (fun K hK => ?_) (AllReadyH.cons rfl (fun K hK => ?_) AllReadyH.nil)
    · go_simp
      refine hK.out _ _ (ba (.cells digitsC 9) (Below.refl u5.heap.size u5)) (fun hHeld => ?_)
      clear hK K
      obtain ⟨u6, hu6⟩ : ∃ v, v = u5.alloc (.cells digitsC 9) := ⟨_, rfl⟩
      have hbn : u6.heap[u5.heap.size]? = some (.cells digitsC 9) := by rw [hu6]; exact heap_alloc_new _ _
      rw [← hu6] at hHeld ⊢
      clear hu6
      have HRBu6 := Lib.hid hbn
      clear hbn
      have HCu6 := Lib.hid (below2 HCu5.out hHeld)
      refine held_weak (S' := fun V => Below u6.heap.size u6 V) (fun V hV => below2 hHeld hV) _ _ _ _ ?_
      replace hHeld := Below.refl u6.heap.size u6
      refine held_take (i := 3) (v := .pointer (some ⟨u5.heap.size, n, none⟩)) (some 6) rfl rfl (by kernel_rfl) (by kernel_rfl) (by kernel_rfl) (fun _ _ _ h => h) (.inl ⟨by rfl, fun V _ => by go_simp⟩) hHeld ?_
      simp only [Act.put, List.setIfInBounds_toArray, List.set_cons_zero, List.set_cons_succ]
      refine held_take (i := 4) (v := .string D) (some 7) rfl rfl (by kernel_rfl) (by kernel_rfl) (by kernel_rfl) (fun _ _ _ h => h) (.inl ⟨by rfl, fun V hV => by have h := (cell_in (kb hV HRBu6.out) n).trans HDI.out; go_simp⟩) hHeld ?_
      simp only [Act.put, List.setIfInBounds_toArray, List.set_cons_zero, List.set_cons_succ]
      refine held_take (i := 5) (some 8) rfl rfl (by kernel_rfl) (by kernel_rfl) (by kernel_rfl) (fun _ _ _ h => h) (yi_add (by rfl) (by rfl) (by rfl) (by rfl) (by (try simp only [ByteArray.size_append]); omega)) hHeld ?_
      simp only [Act.put, List.setIfInBounds_toArray, List.set_cons_zero, List.set_cons_succ]
      refine held_take (i := 6) (some 9) rfl rfl (by kernel_rfl) (by kernel_rfl) (by kernel_rfl) (fun _ _ _ h => h) (yi_add (by rfl) (by rfl) (by rfl) (by rfl) (by (try simp only [ByteArray.size_append]); omega)) hHeld ?_
      simp only [Act.put, List.setIfInBounds_toArray, List.set_cons_zero, List.set_cons_succ]
      refine held_take (i := 10) (some 13) rfl rfl (by kernel_rfl) (by kernel_rfl) (by kernel_rfl) (fun _ _ _ h => h) (yi_add (by rfl) (by rfl) (by rfl) (by rfl) (by (try simp only [ByteArray.size_append]); omega)) hHeld ?_
      simp only [Act.put, List.setIfInBounds_toArray, List.set_cons_zero, List.set_cons_succ]
      refine held_take (i := 11) (some 14) rfl rfl (by kernel_rfl) (by kernel_rfl) (by kernel_rfl) (fun _ _ _ h => h) (yi_add (by rfl) (by rfl) (by rfl) (by rfl) (by (try simp only [ByteArray.size_append]); omega)) hHeld ?_
      simp only [Act.put, List.setIfInBounds_toArray, List.set_cons_zero, List.set_cons_succ]
      refine wpAnyH_ready (rs := [12]) (by kernel_rfl) (by simp) ?_
      refine AllReadyH.cons rfl (fun K hK => ?_) AllReadyH.nil
      go_simp
      refine (rwords_any _).mono ?_
      rintro e w' ⟨rfl, rfl⟩
      go_simp
      refine hK.out _ _ (ba (.cells qwordsC 9) (Below.refl u6.heap.size u6)) (fun hHeld => ?_)
      clear hK K
      obtain ⟨u7, hu7⟩ : ∃ v, v = u6.alloc (.cells qwordsC 9) := ⟨_, rfl⟩
      have hbn : u7.heap[u6.heap.size]? = some (.cells qwordsC 9) := by rw [hu7]; exact heap_alloc_new _ _
      rw [← hu7] at hHeld ⊢
      clear hu7
      have HRBu7 := Lib.hid (kb hHeld HRBu6.out)
      have HRWu7 := Lib.hid hbn
      clear hbn
      have HCu7 := Lib.hid (below2 HCu6.out hHeld)
      refine held_weak (S' := fun V => Below u7.heap.size u7 V) (fun V hV => below2 hHeld hV) _ _ _ _ ?_
      replace hHeld := Below.refl u7.heap.size u7
      refine held_take (i := 15) (v := .pointer (some ⟨u6.heap.size, m, none⟩)) (some 18) rfl rfl (by kernel_rfl) (by kernel_rfl) (by kernel_rfl) (fun _ _ _ h => h) (.inl ⟨by rfl, fun V _ => by go_simp⟩) hHeld ?_
      simp only [Act.put, List.setIfInBounds_toArray, List.set_cons_zero, List.set_cons_succ]
      refine held_take (i := 16) (v := .string K) (some 19) rfl rfl (by kernel_rfl) (by kernel_rfl) (by kernel_rfl) (fun _ _ _ h => h) (.inl ⟨by rfl, fun V hV => by have h := (cell_in (kb hV HRWu7.out) m).trans HWO.out; go_simp⟩) hHeld ?_
      simp only [Act.put, List.setIfInBounds_toArray, List.set_cons_zero, List.set_cons_succ]
      refine held_take (i := 17) (some 20) rfl rfl (by kernel_rfl) (by kernel_rfl) (by kernel_rfl) (fun _ _ _ h => h) (yi_add (by rfl) (by rfl) (by rfl) (by rfl) (by (try simp only [ByteArray.size_append]); omega)) hHeld ?_
      simp only [Act.put, List.setIfInBounds_toArray, List.set_cons_zero, List.set_cons_succ]
      refine held_take (i := 18) (some 21) rfl rfl (by kernel_rfl) (by kernel_rfl) (by kernel_rfl) (fun _ _ _ h => h) (yi_add (by rfl) (by rfl) (by rfl) (by rfl) (by (try simp only [ByteArray.size_append]); omega)) hHeld ?_
      simp only [Act.put, List.setIfInBounds_toArray, List.set_cons_zero, List.set_cons_succ]
      refine wpAnyH_ready (rs := [21]) (by kernel_rfl) (by simp) ?_
      refine AllReadyH.cons rfl (fun K hK => ?_) AllReadyH.nil
      go_simp
      refine (HTV.out _).mono ?_
      rintro e u8 ⟨rfl, hbu8⟩
      go_simp
      refine hK.out _ _ hbu8 (fun hHeld => ?_)
      clear hK K
      have HRBu8 := Lib.hid (kb hHeld HRBu7.out)
      have HRWu8 := Lib.hid (kb hHeld HRWu7.out)
      have HCu8 := Lib.hid (below2 HCu7.out hHeld)
      refine held_weak (S' := fun V => Below u8.heap.size u8 V) (fun V hV => below2 hHeld hV) _ _ _ _ ?_
      replace hHeld := Below.refl u8.heap.size u8
      refine held_take (i := 22) (some 25) rfl rfl (by kernel_rfl) (by kernel_rfl) (by kernel_rfl) (fun _ _ _ h => h) (yi_add (by rfl) (by rfl) (by rfl) (by rfl) (by (try simp only [ByteArray.size_append]); omega)) hHeld ?_
      simp only [Act.put, List.setIfInBounds_toArray, List.set_cons_zero, List.set_cons_succ]
      refine held_take (i := 23) (v := .string (((((((⟨#[97]⟩ ++ D) ++ ⟨#[32]⟩) ++ T) ++ ⟨#[32]⟩) ++ K) ++ ⟨#[32]⟩) ++ V)) (some 2) rfl rfl (by kernel_rfl) (by kernel_rfl) (by kernel_rfl) (fun _ _ _ h => h) (.inl ⟨by rfl, fun V _ => by go_simp⟩) hHeld ?_
      simp only [Act.put, List.setIfInBounds_toArray, List.set_cons_zero, List.set_cons_succ]
      refine wpAnyH_done (by kernel_rfl) ?_ _
      have HBB := Lib.hid (below2 HB0.out HCu8.out)
      clear hHeld
      go_wp2_with fail
      go_ret
      exact ⟨by rw [← HE.out]; rfl, HBB.out⟩
    · go_simp
      refine (rwords_any _).mono ?_
      rintro e w' ⟨rfl, rfl⟩
      go_simp
      refine hK.out _ _ (ba (.cells qwordsC 9) (Below.refl u5.heap.size u5)) (fun hHeld => ?_)
      clear hK K
      obtain ⟨u9, hu9⟩ : ∃ v, v = u5.alloc (.cells qwordsC 9) := ⟨_, rfl⟩
      have hbn : u9.heap[u5.heap.size]? = some (.cells qwordsC 9) := by rw [hu9]; exact heap_alloc_new _ _
      rw [← hu9] at hHeld ⊢
      clear hu9
      have HRWu9 := Lib.hid hbn
      clear hbn
      have HCu9 := Lib.hid (below2 HCu5.out hHeld)
      refine held_weak (S' := fun V => Below u9.heap.size u9 V) (fun V hV => below2 hHeld hV) _ _ _ _ ?_
      replace hHeld := Below.refl u9.heap.size u9
      refine held_take (i := 15) (v := .pointer (some ⟨u5.heap.size, m, none⟩)) (some 18) rfl rfl (by kernel_rfl) (by kernel_rfl) (by kernel_rfl) (fun _ _ _ h => h) (.inl ⟨by rfl, fun V _ => by go_simp⟩) hHeld ?_
      simp only [Act.put, List.setIfInBounds_toArray, List.set_cons_zero, List.set_cons_succ]
      refine held_take (i := 16) (v := .string K) (some 19) rfl rfl (by kernel_rfl) (by kernel_rfl) (by kernel_rfl) (fun _ _ _ h => h) (.inl ⟨by rfl, fun V hV => by have h := (cell_in (kb hV HRWu9.out) m).trans HWO.out; go_simp⟩) hHeld ?_
      simp only [Act.put, List.setIfInBounds_toArray, List.set_cons_zero, List.set_cons_succ]
      refine wpAnyH_ready (rs := [0, 21]) (by kernel_rfl) (by simp) ?_
      refine AllReadyH.cons rfl (fun K hK => ?_) (AllReadyH.cons rfl (fun K hK => ?_) AllReadyH.nil)
      · go_simp
        refine hK.out _ _ (ba (.cells digitsC 9) (Below.refl u9.heap.size u9)) (fun hHeld => ?_)
        clear hK K
        obtain ⟨u10, hu10⟩ : ∃ v, v = u9.alloc (.cells digitsC 9) := ⟨_, rfl⟩
        have hbn : u10.heap[u9.heap.size]? = some (.cells digitsC 9) := by rw [hu10]; exact heap_alloc_new _ _
        rw [← hu10] at hHeld ⊢
        clear hu10
        have HRWu10 := Lib.hid (kb hHeld HRWu9.out)
        have HRBu10 := Lib.hid hbn
        clear hbn
        have HCu10 := Lib.hid (below2 HCu9.out hHeld)
        refine held_weak (S' := fun V => Below u10.heap.size u10 V) (fun V hV => below2 hHeld hV) _ _ _ _ ?_
        replace hHeld := Below.refl u10.heap.size u10
        refine held_take (i := 3) (v := .pointer (some ⟨u9.heap.size, n, none⟩)) (some 6) rfl rfl (by kernel_rfl) (by kernel_rfl) (by kernel_rfl) (fun _ _ _ h => h) (.inl ⟨by rfl, fun V _ => by go_simp⟩) hHeld ?_
        simp only [Act.put, List.setIfInBounds_toArray, List.set_cons_zero, List.set_cons_succ]
        refine held_take (i := 4) (v := .string D) (some 7) rfl rfl (by kernel_rfl) (by kernel_rfl) (by kernel_rfl) (fun _ _ _ h => h) (.inl ⟨by rfl, fun V hV => by have h := (cell_in (kb hV HRBu10.out) n).trans HDI.out; go_simp⟩) hHeld ?_
        simp only [Act.put, List.setIfInBounds_toArray, List.set_cons_zero, List.set_cons_succ]
        refine held_take (i := 5) (some 8) rfl rfl (by kernel_rfl) (by kernel_rfl) (by kernel_rfl) (fun _ _ _ h => h) (yi_add (by rfl) (by rfl) (by rfl) (by rfl) (by (try simp only [ByteArray.size_append]); omega)) hHeld ?_
        simp only [Act.put, List.setIfInBounds_toArray, List.set_cons_zero, List.set_cons_succ]
        refine held_take (i := 6) (some 9) rfl rfl (by kernel_rfl) (by kernel_rfl) (by kernel_rfl) (fun _ _ _ h => h) (yi_add (by rfl) (by rfl) (by rfl) (by rfl) (by (try simp only [ByteArray.size_append]); omega)) hHeld ?_
        simp only [Act.put, List.setIfInBounds_toArray, List.set_cons_zero, List.set_cons_succ]
        refine held_take (i := 10) (some 13) rfl rfl (by kernel_rfl) (by kernel_rfl) (by kernel_rfl) (fun _ _ _ h => h) (yi_add (by rfl) (by rfl) (by rfl) (by rfl) (by (try simp only [ByteArray.size_append]); omega)) hHeld ?_
        simp only [Act.put, List.setIfInBounds_toArray, List.set_cons_zero, List.set_cons_succ]
        refine held_take (i := 11) (some 14) rfl rfl (by kernel_rfl) (by kernel_rfl) (by kernel_rfl) (fun _ _ _ h => h) (yi_add (by rfl) (by rfl) (by rfl) (by rfl) (by (try simp only [ByteArray.size_append]); omega)) hHeld ?_
        simp only [Act.put, List.setIfInBounds_toArray, List.set_cons_zero, List.set_cons_succ]
        refine held_take (i := 17) (some 20) rfl rfl (by kernel_rfl) (by kernel_rfl) (by kernel_rfl) (fun _ _ _ h => h) (yi_add (by rfl) (by rfl) (by rfl) (by rfl) (by (try simp only [ByteArray.size_append]); omega)) hHeld ?_
        simp only [Act.put, List.setIfInBounds_toArray, List.set_cons_zero, List.set_cons_succ]
        refine held_take (i := 18) (some 21) rfl rfl (by kernel_rfl) (by kernel_rfl) (by kernel_rfl) (fun _ _ _ h => h) (yi_add (by rfl) (by rfl) (by rfl) (by rfl) (by (try simp only [ByteArray.size_append]); omega)) hHeld ?_
        simp only [Act.put, List.setIfInBounds_toArray, List.set_cons_zero, List.set_cons_succ]
        refine wpAnyH_ready (rs := [21]) (by kernel_rfl) (by simp) ?_
        refine AllReadyH.cons rfl (fun K hK => ?_) AllReadyH.nil
        go_simp
        refine (HTV.out _).mono ?_
        rintro e u11 ⟨rfl, hbu11⟩
        go_simp
        refine hK.out _ _ hbu11 (fun hHeld => ?_)
        clear hK K
        have HRBu11 := Lib.hid (kb hHeld HRBu10.out)
        have HRWu11 := Lib.hid (kb hHeld HRWu10.out)
        have HCu11 := Lib.hid (below2 HCu10.out hHeld)
        refine held_weak (S' := fun V => Below u11.heap.size u11 V) (fun V hV => below2 hHeld hV) _ _ _ _ ?_
        replace hHeld := Below.refl u11.heap.size u11
        refine held_take (i := 22) (some 25) rfl rfl (by kernel_rfl) (by kernel_rfl) (by kernel_rfl) (fun _ _ _ h => h) (yi_add (by rfl) (by rfl) (by rfl) (by rfl) (by (try simp only [ByteArray.size_append]); omega)) hHeld ?_
        simp only [Act.put, List.setIfInBounds_toArray, List.set_cons_zero, List.set_cons_succ]
        refine held_take (i := 23) (v := .string (((((((⟨#[97]⟩ ++ D) ++ ⟨#[32]⟩) ++ T) ++ ⟨#[32]⟩) ++ K) ++ ⟨#[32]⟩) ++ V)) (some 2) rfl rfl (by kernel_rfl) (by kernel_rfl) (by kernel_rfl) (fun _ _ _ h => h) (.inl ⟨by rfl, fun V _ => by go_simp⟩) hHeld ?_
        simp only [Act.put, List.setIfInBounds_toArray, List.set_cons_zero, List.set_cons_succ]
        refine wpAnyH_done (by kernel_rfl) ?_ _
        have HBB := Lib.hid (below2 HB0.out HCu11.out)
        clear hHeld
        go_wp2_with fail
        go_ret
        exact ⟨by rw [← HE.out]; rfl, HBB.out⟩
      · go_simp
        refine (HTV.out _).mono ?_
        rintro e u12 ⟨rfl, hbu12⟩
        go_simp
        refine hK.out _ _ hbu12 (fun hHeld => ?_)
        clear hK K
        have HRWu12 := Lib.hid (kb hHeld HRWu9.out)
        have HCu12 := Lib.hid (below2 HCu9.out hHeld)
        refine held_weak (S' := fun V => Below u12.heap.size u12 V) (fun V hV => below2 hHeld hV) _ _ _ _ ?_
        replace hHeld := Below.refl u12.heap.size u12
        refine wpAnyH_ready (rs := [0]) (by kernel_rfl) (by simp) ?_
        refine AllReadyH.cons rfl (fun K hK => ?_) AllReadyH.nil
        go_simp
        refine hK.out _ _ (ba (.cells digitsC 9) (Below.refl u12.heap.size u12)) (fun hHeld => ?_)
        clear hK K
        obtain ⟨u13, hu13⟩ : ∃ v, v = u12.alloc (.cells digitsC 9) := ⟨_, rfl⟩
        have hbn : u13.heap[u12.heap.size]? = some (.cells digitsC 9) := by rw [hu13]; exact heap_alloc_new _ _
        rw [← hu13] at hHeld ⊢
        clear hu13
        have HRWu13 := Lib.hid (kb hHeld HRWu12.out)
        have HRBu13 := Lib.hid hbn
        clear hbn
        have HCu13 := Lib.hid (below2 HCu12.out hHeld)
        refine held_weak (S' := fun V => Below u13.heap.size u13 V) (fun V hV => below2 hHeld hV) _ _ _ _ ?_
        replace hHeld := Below.refl u13.heap.size u13
        refine held_take (i := 3) (v := .pointer (some ⟨u12.heap.size, n, none⟩)) (some 6) rfl rfl (by kernel_rfl) (by kernel_rfl) (by kernel_rfl) (fun _ _ _ h => h) (.inl ⟨by rfl, fun V _ => by go_simp⟩) hHeld ?_
        simp only [Act.put, List.setIfInBounds_toArray, List.set_cons_zero, List.set_cons_succ]
        refine held_take (i := 4) (v := .string D) (some 7) rfl rfl (by kernel_rfl) (by kernel_rfl) (by kernel_rfl) (fun _ _ _ h => h) (.inl ⟨by rfl, fun V hV => by have h := (cell_in (kb hV HRBu13.out) n).trans HDI.out; go_simp⟩) hHeld ?_
        simp only [Act.put, List.setIfInBounds_toArray, List.set_cons_zero, List.set_cons_succ]
        refine held_take (i := 5) (some 8) rfl rfl (by kernel_rfl) (by kernel_rfl) (by kernel_rfl) (fun _ _ _ h => h) (yi_add (by rfl) (by rfl) (by rfl) (by rfl) (by (try simp only [ByteArray.size_append]); omega)) hHeld ?_
        simp only [Act.put, List.setIfInBounds_toArray, List.set_cons_zero, List.set_cons_succ]
        refine held_take (i := 6) (some 9) rfl rfl (by kernel_rfl) (by kernel_rfl) (by kernel_rfl) (fun _ _ _ h => h) (yi_add (by rfl) (by rfl) (by rfl) (by rfl) (by (try simp only [ByteArray.size_append]); omega)) hHeld ?_
        simp only [Act.put, List.setIfInBounds_toArray, List.set_cons_zero, List.set_cons_succ]
        refine held_take (i := 10) (some 13) rfl rfl (by kernel_rfl) (by kernel_rfl) (by kernel_rfl) (fun _ _ _ h => h) (yi_add (by rfl) (by rfl) (by rfl) (by rfl) (by (try simp only [ByteArray.size_append]); omega)) hHeld ?_
        simp only [Act.put, List.setIfInBounds_toArray, List.set_cons_zero, List.set_cons_succ]
        refine held_take (i := 11) (some 14) rfl rfl (by kernel_rfl) (by kernel_rfl) (by kernel_rfl) (fun _ _ _ h => h) (yi_add (by rfl) (by rfl) (by rfl) (by rfl) (by (try simp only [ByteArray.size_append]); omega)) hHeld ?_
        simp only [Act.put, List.setIfInBounds_toArray, List.set_cons_zero, List.set_cons_succ]
        refine held_take (i := 17) (some 20) rfl rfl (by kernel_rfl) (by kernel_rfl) (by kernel_rfl) (fun _ _ _ h => h) (yi_add (by rfl) (by rfl) (by rfl) (by rfl) (by (try simp only [ByteArray.size_append]); omega)) hHeld ?_
        simp only [Act.put, List.setIfInBounds_toArray, List.set_cons_zero, List.set_cons_succ]
        refine held_take (i := 18) (some 21) rfl rfl (by kernel_rfl) (by kernel_rfl) (by kernel_rfl) (fun _ _ _ h => h) (yi_add (by rfl) (by rfl) (by rfl) (by rfl) (by (try simp only [ByteArray.size_append]); omega)) hHeld ?_
        simp only [Act.put, List.setIfInBounds_toArray, List.set_cons_zero, List.set_cons_succ]
        refine held_take (i := 22) (some 25) rfl rfl (by kernel_rfl) (by kernel_rfl) (by kernel_rfl) (fun _ _ _ h => h) (yi_add (by rfl) (by rfl) (by rfl) (by rfl) (by (try simp only [ByteArray.size_append]); omega)) hHeld ?_
        simp only [Act.put, List.setIfInBounds_toArray, List.set_cons_zero, List.set_cons_succ]
        refine held_take (i := 23) (v := .string (((((((⟨#[97]⟩ ++ D) ++ ⟨#[32]⟩) ++ T) ++ ⟨#[32]⟩) ++ K) ++ ⟨#[32]⟩) ++ V)) (some 2) rfl rfl (by kernel_rfl) (by kernel_rfl) (by kernel_rfl) (fun _ _ _ h => h) (.inl ⟨by rfl, fun V _ => by go_simp⟩) hHeld ?_
        simp only [Act.put, List.setIfInBounds_toArray, List.set_cons_zero, List.set_cons_succ]
        refine wpAnyH_done (by kernel_rfl) ?_ _
        have HBB := Lib.hid (below2 HB0.out HCu13.out)
        clear hHeld
        go_wp2_with fail
        go_ret
        exact ⟨by rw [← HE.out]; rfl, HBB.out⟩
end Go.Proofs.YtdjjmcblhpjchaaGreatDoor
/-
  The document's Parse of a condition (package hurdleref08).
-/
namespace Go.Proofs.YtdjjmcblhpjchaaGreatDoor
open Go.ChangeShapes Go.WideShapes Go.ChangeAt Go.RowKit
set_option maxRecDepth 20000

/-- What a text's pieces say of a condition that has it. -/
def SplitQ (s : ByteArray) (m v : Nat) (K : ByteArray) : Prop := ∀ x : Cd, x.ok → x.right = true → s = textT x → m = x.mask ∧ v = x.value ∧ K = wordT x.cmp
def at1 (s : ByteArray) : Nat := nextP s.data.toList 0
def at2 (s : ByteArray) : Nat := nextP s.data.toList (at1 s)
def at3 (s : ByteArray) : Nat := nextP s.data.toList (at2 s)
theorem at1_le (s : ByteArray) : at1 s ≤ s.size + 1 := nextP_le s 0 (by omega)
theorem at2_le (s : ByteArray) : at2 s ≤ s.size + 1 := nextP_le s _ (at1_le s)
theorem at3_le (s : ByteArray) : at3 s ≤ s.size + 1 := nextP_le s _ (at2_le s)
theorem splitQ_of {s : ByteArray} {m v : Nat} (hm : Reads (pieceT s (at1 s)) m) (hv : Reads (pieceT s (at3 s)) v) : SplitQ s m v (pieceT s (at2 s)) := by
  intro x hx hr e
  subst e
  obtain ⟨p0, p1, p2, p3, p4, p5⟩ := pieces hr
  have e1 : at1 (textT x) = 3 := p0
  have e2 : at2 (textT x) = 4 + (numT x.mask).length := by unfold at2; rw [e1]; exact p2
  have e3 : at3 (textT x) = 7 + (numT x.mask).length := by unfold at3; rw [e2]; exact p4
  rw [e1] at hm
  rw [e3] at hv
  rw [e2]
  have t1 : pieceT (textT x) 3 = Wd.txt x.mask := by
    show (⟨(pieceL (textQ x) 3).toArray⟩ : ByteArray) = _
    rw [p1]
    rfl
  have t3 : pieceT (textT x) (7 + (numT x.mask).length) = Wd.txt x.value := by
    show (⟨(pieceL (textQ x) _).toArray⟩ : ByteArray) = _
    rw [p5]
    rfl
  refine ⟨hm.2 _ hx.1 t1, hv.2 _ hx.2 t3, ?_⟩
  show (⟨(pieceL (textQ x) _).toArray⟩ : ByteArray) = _
  rw [p3]
  rfl
/-- No condition with this argument and comparison has the text. -/
def NotQ (s : ByteArray) (a k : Nat) : Prop := ∀ x : Cd, x.ok → x.right = true → x.arg = a → x.cmp = k → s ≠ textT x
theorem notQ_word {s : ByteArray} {m v : Nat} {K : ByteArray} (h : SplitQ s m v K) {a k : Nat} (hk : K ≠ wordT k) : NotQ s a k := by
  intro x hx hr _ he e
  rw [← he] at hk
  exact hk (h x hx hr e).2.2
theorem notQ_text {s : ByteArray} {m v : Nat} {K : ByteArray} (h : SplitQ s m v K) {a k : Nat} (ht : textT ⟨a, k, m, v⟩ ≠ s) : NotQ s a k := by
  intro x hx hr ha he e
  obtain ⟨hm, hv, _⟩ := h x hx hr e
  refine ht ?_
  rw [e]
  congr 1
  obtain ⟨_, _, _, _⟩ := x
  simp only at ha he hm hv
  rw [ha, he, hm, hv]
def QParseEnd (s : ByteArray) (e : Ending) : Prop :=
  (∃ c : Cd, c.ok ∧ c.right = true ∧ s = textT c ∧ e = .returned (.tuple #[c.val, .bool true])) ∨ ((∀ c : Cd, c.ok → c.right = true → s ≠ textT c) ∧ e = .returned (.tuple #[zeroCd.val, .bool false]))
theorem qparse_none {s : ByteArray} (h : ∀ a k, a < 6 → k < 6 → NotQ s a k) : QParseEnd s (.returned (.tuple #[zeroCd.val, .bool false])) := by
  refine .inr ⟨fun c hc hr e => ?_, rfl⟩
  obtain ⟨a0, a5, k0, k5⟩ := (c.right_iff).1 hr
  exact h c.arg.toNat c.cmp.toNat (by omega) (by omega) c hc hr (by omega) (by omega) e
theorem cd_right {a k m v : Nat} (ha : a < 6) (hk : k < 6) : (⟨a, k, m, v⟩ : Cd).right = true := by
  rw [Cd.right_iff]
  simp only
  omega
set_option maxHeartbeats 8000000 in
theorem rparse8_any (s : ByteArray) (w : World) (hs : s.size ≤ 4611686018427387904) :
    Calls Tryz.prog 46 #[.string s] w fun e w' => QParseEnd s e ∧ Below w.heap.size w w' := by
  have h1le := at1_le s
  have h2le := at2_le s
  have h3le := at3_le s
  have HR0 := Lib.hid (heap_alloc_new w (cdB zeroCd))
  have HB0 := Lib.hid (ba (cdB zeroCd) (Below.refl w.heap.size w))
  have hz : (#[.int .i64 0, .int .i64 0, .int .u64 0, .int .u64 0] : Array Value) = #[.int .i64 zeroCd.arg, .int .i64 zeroCd.cmp, .int .u64 (zeroCd.mask : Nat), .int .u64 (zeroCd.value : Nat)] := rfl
  obtain ⟨W, hW⟩ : ∃ W, W = w.alloc (cdB zeroCd) := ⟨_, rfl⟩
  rw [← hW] at HR0 HB0
  clear hz
  go_enter Tryz.func46, Tryz.ntmps46
  go_upto_region 1 with fail
  change Code.wp _ _ _ _ (w.alloc (cdB zeroCd))
  rw [← hW]
  clear hW
  go_wp2_with fail
  refine (rpart_any s 0 _ hs (by omega)).mono ?_
  rintro e w1 ⟨rfl, hb1⟩
  rw [show nextP s.data.toList 0 = at1 s from rfl]
  have HB1 := Lib.hid (below2 HB0.out hb1)
  have HR1 := Lib.hid (kb hb1 HR0.out)
  obtain ⟨p1, hp1⟩ : ∃ p, p = at1 s := ⟨_, rfl⟩
  obtain ⟨p2, hp2⟩ : ∃ p, p = at2 s := ⟨_, rfl⟩
  obtain ⟨p3, hp3⟩ : ∃ p, p = at3 s := ⟨_, rfl⟩
  rw [← hp1] at h1le ⊢
  rw [← hp2] at h2le
  rw [← hp3] at h3le
  have HP1 := Lib.hid hp1
  have HP2 := Lib.hid hp2
  have HP3 := Lib.hid hp3
  have HN2 : Hid (nextP s.data.toList p1 = p2) := Lib.hid (by rw [hp1, hp2]; rfl)
  have HN3 : Hid (nextP s.data.toList p2 = p3) := Lib.hid (by rw [hp2, hp3]; rfl)
  clear hb1 hp1 hp2 hp3 HR0
  go_wp2_with fail
  refine (rpart_any s p1 _ hs h1le).mono ?_
  rintro e w2 ⟨rfl, hb2⟩
  rw [HN2.out]
  have HB2 := Lib.hid (below2 HB1.out hb2)
  have HR2 := Lib.hid (kb hb2 HR1.out)
  clear hb2 HR1
  go_wp2_with fail
  refine (rpart_any s p2 _ hs h2le).mono ?_
  rintro e w3 ⟨rfl, hb3⟩
  rw [HN3.out]
  have HB3 := Lib.hid (below2 HB2.out hb3)
  have HR3 := Lib.hid (kb hb3 HR2.out)
  clear hb3 HR2
  go_wp2_with fail
  refine (rpart_any s p3 _ hs h3le).mono ?_
  rintro e w4 ⟨rfl, hb4⟩
  have HB4 := Lib.hid (below2 HB3.out hb4)
  have HR4 := Lib.hid (kb hb4 HR3.out)
  clear hb4 HR3
  have hz1 := Nat.le_trans (pieceT_size s p1) hs
  have hz3 := Nat.le_trans (pieceT_size s p3) hs
  obtain ⟨S1, hS1⟩ : ∃ S, S = pieceT s p1 := ⟨_, rfl⟩
  obtain ⟨K, hK⟩ : ∃ S, S = pieceT s p2 := ⟨_, rfl⟩
  obtain ⟨S3, hS3⟩ : ∃ S, S = pieceT s p3 := ⟨_, rfl⟩
  rw [← hS1] at hz1 ⊢
  rw [← hK]
  rw [← hS3] at hz3 ⊢
  have HSP : Hid (∀ m v, Reads S1 m → Reads S3 v → SplitQ s m v K) := Lib.hid (fun m v h1 h3 => by
    rw [hS1, HP1.out] at h1
    rw [hS3, HP3.out] at h3
    rw [hK, HP2.out]
    exact splitQ_of h1 h3)
  clear hS1 hK hS3 HP1 HP2 HP3 HN2 HN3 h1le h2le h3le
  go_wp2_with fail
  refine (refParse_any S1 _ hz1).mono ?_
  rintro e w5 ⟨m, bm, HM, rfl, hb5⟩
  have HB5 := Lib.hid (below2 HB4.out hb5)
  have HR5 := Lib.hid (kb hb5 HR4.out)
  clear hb5 HR4
  go_wp2_with fail
  refine (refParse_any S3 _ hz3).mono ?_
  rintro e w6 ⟨v, bv, HV, rfl, hb6⟩
  have HB6 := Lib.hid (below2 HB5.out hb6)
  have HR6 := Lib.hid (kb hb6 HR5.out)
  have HSQ := Lib.hid (HSP.out m v HM.out HV.out)
  have hm64 : (m : Int) ≤ 18446744073709551615 := by have := HM.out.1; omega
  have hv64 : (v : Int) ≤ 18446744073709551615 := by have := HV.out.1; omega
  clear hb6 HR5 HSP hz1 hz3
  go_wp2_with fail
  go_loopw [16] (fun i wr => ∃ a : Nat, a ≤ 6 ∧ i = .int .i64 a ∧ Below w.heap.size w wr ∧ wr.heap[w.heap.size]? = some (cdB zeroCd) ∧ ∀ a' k', a' < a → k' < 6 → NotQ s a' k') (fun i _ => 6 - (intOf i).toNat)
  case atStart => exact ⟨0, by omega, rfl, HB6.out, HR6.out, fun a' k' h => by omega⟩
  case round =>
    clear HB6 HR6
    obtain ⟨a, ha, rfl, hbw, hrr, hno⟩ := hrel
    have HB := Lib.hid hbw
    have HR := Lib.hid hrr
    have HN := Lib.hid hno
    clear hbw hrr hno
    by_cases hlt : a < 6
    · have hda : decide ((a : Int) < 6) = true := by simp; omega
      go_wp2_with fail
      go_loopw [17] (fun i wv => ∃ k : Nat, k ≤ 6 ∧ i = .int .i64 k ∧ Below w.heap.size w wv ∧ wv.heap[w.heap.size]? = some (cdB zeroCd) ∧ ∀ k', k' < k → NotQ s a k') (fun i _ => 6 - (intOf i).toNat)
      case atStart => exact ⟨0, by omega, rfl, HB.out, HR.out, fun k' h => by omega⟩
      case round =>
        clear HB HR
        obtain ⟨k, hk, rfl, hbw, hrr, hno⟩ := hrel
        have HB := Lib.hid hbw
        have HR := Lib.hid hrr
        have HNK := Lib.hid hno
        clear hbw hrr hno
        by_cases hkl : k < 6
        · have hdk : decide ((k : Int) < 6) = true := by simp; omega
          have HX0 := Lib.hid (heap_alloc_new wr (cdB ⟨a, k, m, v⟩))
          have HBX := Lib.hid (ba (cdB ⟨a, k, m, v⟩) HB.out)
          have HRX := Lib.hid (ka (cdB ⟨a, k, m, v⟩) HR.out)
          go_wp2_with fail
          obtain ⟨WX, hWX⟩ : ∃ q, q = wr.alloc (cdB ⟨a, k, m, v⟩) := ⟨_, rfl⟩
          rw [← hWX] at HX0 HBX HRX ⊢
          clear hWX
          refine (rwords_any _).mono ?_
          rintro e w7 ⟨rfl, rfl⟩
          have HX7 := Lib.hid (ka (.cells qwordsC 9) HX0.out)
          have HR7 := Lib.hid (ka (.cells qwordsC 9) HRX.out)
          have HB7 := Lib.hid (ba (.cells qwordsC 9) HBX.out)
          have d0 := (cell_in (heap_alloc_new WX (.cells qwordsC 9)) k).trans (qwordsC_at hkl)
          obtain ⟨W7, hW7⟩ : ∃ q, q = WX.alloc (.cells qwordsC 9) := ⟨_, rfl⟩
          rw [← hW7] at HX7 HR7 HB7 d0 ⊢
          obtain ⟨c0, c1, c2, c3⟩ := cdX HX7.out
          clear hW7 HX0 HRX HBX
          have k0 : (0 : Int) ≤ (k : Int) := by omega
          have k1 : (k : Int) < 6 := by omega
          cases hq : (K.toList == (wordT (k : Int)).toList)
          · have HNQ := Lib.hid (notQ_word HSQ.out (a := a) (k := k) (by
              intro e
              rw [e] at hq
              simp at hq))
            have HNK' : Hid (∀ k', k' < k + 1 → NotQ s a k') := Lib.hid (by
              intro k' h
              by_cases hk' : k' < k
              · exact HNK.out k' hk'
              · obtain rfl : k' = k := by omega
                exact HNQ.out)
            generalize wordT (k : Int) = KW at *
            go_wp2_with fail
            go_roundw
            case rel => exact ⟨k + 1, by omega, by go_num, HB7.out, HR7.out, HNK'.out⟩
            case measure => simp [intOf]; omega
          · have HRT := Lib.hid (cd_right (m := m) (v := v) hlt hkl)
            have HOK : Hid ((⟨a, k, m, v⟩ : Cd).ok) := Lib.hid ⟨HM.out.1, HV.out.1⟩
            generalize wordT (k : Int) = KW at *
            go_wp2_with fail
            refine (rprint8_any ⟨a, k, m, v⟩ _ HOK.out HRT.out).mono ?_
            rintro e w8 ⟨rfl, hb8⟩
            have HX8 := Lib.hid (kb hb8 HX7.out)
            have HR8 := Lib.hid (kb hb8 HR7.out)
            have HB8 := Lib.hid (below2 HB7.out (hb8.mono (Nat.le_refl _)))
            clear hb8 c0 c1 c2 c3 d0
            cases ht : ((textT ⟨a, k, m, v⟩).toList == s.toList)
            · have HNQ := Lib.hid (notQ_text HSQ.out (a := a) (k := k) (by
                intro e
                rw [e] at ht
                simp at ht))
              have HNK' : Hid (∀ k', k' < k + 1 → NotQ s a k') := Lib.hid (by
                intro k' h
                by_cases hk' : k' < k
                · exact HNK.out k' hk'
                · obtain rfl : k' = k := by omega
                  exact HNQ.out)
              generalize textT ⟨a, k, m, v⟩ = TT at *
              go_wp2_with fail
              go_roundw
              case rel => exact ⟨k + 1, by omega, by go_num, HB8.out, HR8.out, HNK'.out⟩
              case measure => simp [intOf]; omega
            · have HEQ : Hid (s = textT ⟨a, k, m, v⟩) := Lib.hid (by
                have h := eq_of_beq ht
                rw [Go.ByteArray.toList_eq, Go.ByteArray.toList_eq] at h
                apply ByteArray.ext
                apply Array.ext'
                exact h.symm)
              have HE : Hid (QParseEnd s (.returned (.tuple #[(⟨a, k, m, v⟩ : Cd).val, .bool true]))) := Lib.hid (.inl ⟨⟨a, k, m, v⟩, HOK.out, HRT.out, HEQ.out, rfl⟩)
              obtain ⟨c0, c1, c2, c3⟩ := cdX HX8.out
              have r0 := cell_in HR8.out 0
              have r1 := cell_in HR8.out 1
              have r2 := cell_in HR8.out 2
              have r3 := cell_in HR8.out 3
              have f0 := free_in HR8.out 0
              have f1 := free_in HR8.out 1
              have f2 := free_in HR8.out 2
              have f3 := free_in HR8.out 3
              clear HEQ
              generalize textT ⟨a, k, m, v⟩ = TT at *
              go_wp2_with fail
              (try simp only [Exit.inBlock, Exit.then])
              refine bodyPost_ret (v := .tuple #[.agg #[.int .i64 (a : Int), .int .i64 (k : Int), .int .u64 (m : Nat), .int .u64 (v : Nat)], .bool true]) ?_ rfl ⟨HE.out, ?_⟩
              · rw [results_cell_tmp rfl]
                go_simp
              · have hB := HB8.out
                go_grown
        · obtain rfl : k = 6 := by omega
          have HN' : Hid (∀ a' k', a' < a + 1 → k' < 6 → NotQ s a' k') := Lib.hid (by
            intro a' k' h1 h2
            by_cases ha' : a' < a
            · exact HN.out a' k' ha' h2
            · obtain rfl : a' = a := by omega
              exact HNK.out k' h2)
          go_wp2_with fail
          go_roundw
          case rel => exact ⟨a + 1, by omega, by go_num, HB.out, HR.out, HN'.out⟩
          case measure => simp [intOf]; omega
    · obtain rfl : a = 6 := by omega
      have HE := Lib.hid (qparse_none HN.out)
      have r0 := cell_in HR.out 0
      have r1 := cell_in HR.out 1
      have r2 := cell_in HR.out 2
      have r3 := cell_in HR.out 3
      have f0 := free_in HR.out 0
      have f1 := free_in HR.out 1
      have f2 := free_in HR.out 2
      have f3 := free_in HR.out 3
      go_wp2_with fail
      (try simp only [Exit.inBlock, Exit.then])
      refine bodyPost_ret (v := .tuple #[.agg #[.int .i64 0, .int .i64 0, .int .u64 0, .int .u64 0], .bool false]) ?_ rfl ⟨HE.out, ?_⟩
      · rw [results_cell_tmp rfl]
        go_simp
      · have hB := HB.out
        go_grown
end Go.Proofs.YtdjjmcblhpjchaaGreatDoor
/-
  What the document's functions of names answer (package hurdleref09).
-/
namespace Go.Proofs.YtdjjmcblhpjchaaGreatDoor
open Go.ChangeShapes Go.WideShapes Go.ChangeAt Go.RowKit
set_option maxRecDepth 20000

/-- A slice whose elements, of one cell each, are these. -/
def SAt (w : World) (v : Value) (cs : List Value) : Prop :=
  ∃ ao cap, v = .slice ao cs.length cap ∧ cs.length ≤ cap ∧ (cs = [] ∨ ∃ b, ao = some ⟨b, 0, none⟩ ∧ b < w.heap.size ∧ ∀ i u, cs[i]? = some u → w.cell? ⟨b, i, none⟩ = some u)
theorem SAt.below {w w' : World} {v : Value} {cs : List Value} (h : SAt w v cs) (hb : Below w.heap.size w w') : SAt w' v cs := by
  obtain ⟨ao, cap, rfl, hcap, h⟩ := h
  refine ⟨ao, cap, rfl, hcap, h.imp id ?_⟩
  rintro ⟨b, rfl, hl, hc⟩
  exact ⟨b, rfl, Nat.lt_of_lt_of_le hl hb.size, fun i u hi => (hb.cell (p := ⟨b, _, none⟩) hl).trans (hc i u hi)⟩
theorem SAt.own {w : World} {base : Nat} {e : TypeId} {v : Value} {n : Nat} {cs : List Value} (h : w.ownsRow base e 1 v n cs) (hn : n = cs.length) : SAt w v cs := by
  subst hn
  rcases Nat.eq_zero_or_pos cs.length with h0 | h0
  · obtain rfl := List.length_eq_zero_iff.1 h0
    obtain ⟨a, c, rfl⟩ := own_shape h
    exact ⟨a, c, rfl, Nat.zero_le _, .inl rfl⟩
  · obtain ⟨g, c, rfl, _, hl, hc, hx⟩ := own_cells h h0
    exact ⟨_, _, rfl, hc, .inr ⟨g, rfl, hl, hx⟩⟩
theorem SAt.lit {w : World} {g : Nat} {cs : Array Value} {t : TypeId} {fr : Nat × Nat} (h : w.heap[g]? = some (.cells cs t fr)) : SAt w (.slice (some ⟨g, 0, none⟩) cs.size cs.size) cs.toList :=
  ⟨some ⟨g, 0, none⟩, cs.size, by simp, by simp, .inr ⟨g, rfl, lt_of_block h, fun i u hu => by rw [cell_in h i]; simpa using hu⟩⟩
abbrev nmC (T : Tbl) : List Value := T.map fun p => .string p.1
abbrev noC (T : Tbl) : List Value := T.map fun p => .int .u32 (p.2 : Nat)
theorem beq_eq {a b : ByteArray} (h : (a.toList == b.toList) = true) : a = b := by
  have h := eq_of_beq h
  rw [Go.ByteArray.toList_eq, Go.ByteArray.toList_eq] at h
  exact ByteArray.ext (Array.ext' h)
theorem beq_ne {a b : ByteArray} (h : a ≠ b) : (a.toList == b.toList) = false := by
  cases q : (a.toList == b.toList)
  · rfl
  · exact absurd (beq_eq q) h
theorem textN_skip {T : Tbl} {n i : Nat} {p : ByteArray × Nat} (h : T[i]? = some p) (hn : p.2 ≠ n) : textN (T.drop i) n = textN (T.drop (i + 1)) n := by
  obtain ⟨hi, rfl⟩ := List.getElem?_eq_some_iff.1 h
  rw [List.drop_eq_getElem_cons hi]
  show (if (T[i]).2 = n then _ else _) = _
  rw [if_neg hn]
theorem textN_hit {T : Tbl} {n i : Nat} {p : ByteArray × Nat} (h : T[i]? = some p) (hn : p.2 = n) : textN (T.drop i) n = p.1 := by
  obtain ⟨hi, rfl⟩ := List.getElem?_eq_some_iff.1 h
  rw [List.drop_eq_getElem_cons hi]
  show (if (T[i]).2 = n then _ else _) = _
  rw [if_pos hn]
set_option maxHeartbeats 2000000 in
theorem rtext9_any (T : Tbl) (a b : Value) (n : Nat) (w : World) (ha : SAt w a (nmC T)) (hb : SAt w b (noC T)) (hn : n < 4294967296) (hl : T.length ≤ 8) :
    Calls Tryz.prog 59 #[a, b, .int .u32 n] w fun e w' => e = .returned (.string (textN T n)) ∧ Below w.heap.size w w' := by
  have HT : Hid (∀ w : World, Calls Tryz.prog 36 #[.int .u64 n] w fun e w' => e = .returned (.string (Wd.txt n)) ∧ Below w.heap.size w w') := Lib.hid fun w => refText_any n (by omega) w
  obtain ⟨ao, ca, rfl, hca, ha⟩ := ha
  obtain ⟨bo, cb, rfl, hcb, hb⟩ := hb
  have el : (nmC T).length = T.length := by simp
  have el2 : (noC T).length = T.length := by simp
  rw [el] at hca ⊢
  rw [el2] at hcb ⊢
  have HA := Lib.hid ha
  have HB := Lib.hid hb
  clear el el2 ha hb
  go_enter Tryz.func59, Tryz.ntmps59
  go_wp2_with fail
  go_loopw [7] (fun i wr => ∃ k : Nat, k ≤ T.length ∧ i = .int .i64 k ∧ wr = w ∧ textN T n = textN (T.drop k) n) (fun i _ => T.length - (intOf i).toNat)
  case atStart => exact ⟨0, by omega, rfl, rfl, rfl⟩
  case round =>
    obtain ⟨k, hk, rfl, rfl, hE⟩ := hrel
    have HE := Lib.hid hE
    clear hE
    by_cases hlt : k < T.length
    · have hlt' : (k : Int) < (T.length : Int) := by omega
      have h0 : (0 : Int) ≤ (k : Int) := by omega
      have t1 : (k : Int).toNat = k := by omega
      obtain ⟨p, hp⟩ : ∃ p, T[k]? = some p := ⟨T[k], List.getElem?_eq_getElem hlt⟩
      obtain ⟨x, rfl, hxl, hx⟩ : ∃ x, ao = some ⟨x, 0, none⟩ ∧ x < wr.heap.size ∧ wr.cell? ⟨x, k, none⟩ = some (.string p.1) := by
        rcases HA.out with h | ⟨x, rfl, hx, hc⟩
        · simp at h; subst h; simp at hlt
        · exact ⟨x, rfl, hx, hc k _ (by simp [hp])⟩
      obtain ⟨y, rfl, hyl, hy⟩ : ∃ y, bo = some ⟨y, 0, none⟩ ∧ y < wr.heap.size ∧ wr.cell? ⟨y, k, none⟩ = some (.int .u32 (p.2 : Nat)) := by
        rcases HB.out with h | ⟨y, rfl, hy, hc⟩
        · simp at h; subst h; simp at hlt
        · exact ⟨y, rfl, hy, hc k _ (by simp [hp])⟩
      have HP := Lib.hid hp
      have hlen : T.length ≤ 8 := hl
      clear hp
      by_cases hq : p.2 = n
      · have hqd : ((p.2 : Int) == (n : Int)) = true := by simp [hq]
        have HR := Lib.hid (HE.out.trans (textN_hit HP.out hq))
        clear hq
        go_wp2_with fail
        go_ret
        exact ⟨by rw [HR.out]; rfl, Below.refl _ _⟩
      · have hqd : ((p.2 : Int) == (n : Int)) = false := by simp; omega
        have HR := Lib.hid (HE.out.trans (textN_skip HP.out hq))
        clear hq
        go_wp2_with fail
        go_roundw
        case rel => exact ⟨k + 1, by omega, by go_num, trivial, HR.out⟩
        case measure => simp [intOf]; omega
    · obtain rfl : k = T.length := by omega
      have HR := Lib.hid HE.out
      rw [List.drop_length] at HR
      go_wp2_with fail
      refine (HT.out _).mono ?_
      rintro e w1 ⟨rfl, hb1⟩
      have HB1 := Lib.hid hb1
      clear hb1
      go_wp2_with fail
      go_ret
      exact ⟨by rw [HR.out]; rfl, HB1.out⟩
/-- What a table's reading ends with. -/
def RNEnd (T : Tbl) (s : ByteArray) (e : Ending) : Prop := ∃ o : Option Nat, readN T s o ∧ e = .returned (.tuple #[.int .u32 (o.getD 0 : Nat), .bool o.isSome])
theorem rnEnd_some {T : Tbl} {s : ByteArray} {n : Nat} (h : readN T s (some n)) : RNEnd T s (.returned (.tuple #[.int .u32 (n : Nat), .bool true])) := ⟨some n, h, rfl⟩
theorem rnEnd_none {T : Tbl} {s : ByteArray} (h : readN T s none) : RNEnd T s (.returned (.tuple #[.int .u32 0, .bool false])) := ⟨none, h, rfl⟩
theorem readN_no {T : Tbl} {s : ByteArray} (h : ∀ p ∈ T, p.1 ≠ s) (h2 : ∀ n : Nat, n < 4294967296 → s = Wd.txt n → textN T n ≠ s) : readN T s none := by
  intro n hn e
  rcases textN_is T n with ⟨p, hp, _, e1⟩ | ⟨_, e1⟩
  · exact h p hp (e1.symm.trans e.symm)
  · exact h2 n hn (e.trans e1) e.symm
theorem none_skip {T : Tbl} {s : ByteArray} {k : Nat} {p : ByteArray × Nat} (h : ∀ q ∈ T.take k, q.1 ≠ s) (hp : T[k]? = some p) (hn : p.1 ≠ s) : ∀ q ∈ T.take (k + 1), q.1 ≠ s := by
  obtain ⟨hi, rfl⟩ := List.getElem?_eq_some_iff.1 hp
  intro q hq
  rw [List.take_succ_eq_append_getElem hi, List.mem_append] at hq
  rcases hq with hq | hq
  · exact h q hq
  · rw [List.mem_singleton.1 hq]
    exact hn
set_option maxHeartbeats 4000000 in
theorem rread9_any (T : Tbl) (hT : tblGood T = true) (a b : Value) (s : ByteArray) (w : World) (ha : SAt w a (nmC T)) (hb : SAt w b (noC T)) (hs : s.size ≤ 4611686018427387904) (hl : T.length ≤ 8) :
    Calls Tryz.prog 70 #[a, b, .string s] w fun e w' => RNEnd T s e ∧ Below w.heap.size w w' := by
  have HTX : Hid (∀ (n : Nat) (w' : World), n < 4294967296 → Below w.heap.size w w' → Calls Tryz.prog 59 #[a, b, .int .u32 n] w' fun e w'' => e = .returned (.string (textN T n)) ∧ Below w'.heap.size w' w'') := Lib.hid fun n w' hn h => rtext9_any T a b n w' (ha.below h) (hb.below h) hn hl
  obtain ⟨ao, ca, rfl, hca, ha⟩ := ha
  obtain ⟨bo, cb, rfl, hcb, hb⟩ := hb
  have el : (nmC T).length = T.length := by simp
  have el2 : (noC T).length = T.length := by simp
  rw [el] at hca HTX ⊢
  rw [el2] at hcb HTX ⊢
  have HA := Lib.hid ha
  have HB := Lib.hid hb
  have HG := Lib.hid hT
  have HS := Lib.hid hs
  clear el el2 ha hb hT hs
  go_enter Tryz.func70, Tryz.ntmps70
  go_wp2_with fail
  go_loopw [8] (fun i wr => ∃ k : Nat, k ≤ T.length ∧ i = .int .i64 k ∧ wr = w ∧ ∀ q ∈ T.take k, q.1 ≠ s) (fun i _ => T.length - (intOf i).toNat)
  case atStart => exact ⟨0, by omega, rfl, rfl, by simp⟩
  case round =>
    obtain ⟨k, hk, rfl, rfl, hE⟩ := hrel
    have HE := Lib.hid hE
    clear hE
    by_cases hlt : k < T.length
    · have hlt' : (k : Int) < (T.length : Int) := by omega
      have h0 : (0 : Int) ≤ (k : Int) := by omega
      have t1 : (k : Int).toNat = k := by omega
      obtain ⟨p, hp⟩ : ∃ p, T[k]? = some p := ⟨T[k], List.getElem?_eq_getElem hlt⟩
      obtain ⟨x, rfl, hxl, hx⟩ : ∃ x, ao = some ⟨x, 0, none⟩ ∧ x < wr.heap.size ∧ wr.cell? ⟨x, k, none⟩ = some (.string p.1) := by
        rcases HA.out with h | ⟨x, rfl, hx, hc⟩
        · simp at h; subst h; simp at hlt
        · exact ⟨x, rfl, hx, hc k _ (by simp [hp])⟩
      obtain ⟨y, rfl, hyl, hy⟩ : ∃ y, bo = some ⟨y, 0, none⟩ ∧ y < wr.heap.size ∧ wr.cell? ⟨y, k, none⟩ = some (.int .u32 (p.2 : Nat)) := by
        rcases HB.out with h | ⟨y, rfl, hy, hc⟩
        · simp at h; subst h; simp at hlt
        · exact ⟨y, rfl, hy, hc k _ (by simp [hp])⟩
      have HP := Lib.hid hp
      have hlen : T.length ≤ 8 := hl
      clear hp
      by_cases hq : p.1 = s
      · have hqd : (p.1.toList == s.toList) = true := by simp [hq]
        have hm : p ∈ T := List.mem_of_getElem? HP.out
        have HR : Hid (readN T s (some p.2)) := Lib.hid ⟨tbl_small HG.out hm, by rw [textN_of HG.out hm, hq]⟩
        clear hq hm
        go_wp2_with fail
        go_ret2
        exact ⟨rnEnd_some HR.out, Below.refl _ _⟩
      · have hqd : (p.1.toList == s.toList) = false := beq_ne hq
        have HR := Lib.hid (none_skip HE.out HP.out hq)
        clear hq
        go_wp2_with fail
        go_roundw
        case rel => exact ⟨k + 1, by omega, by go_num, trivial, HR.out⟩
        case measure => simp [intOf]; omega
    · obtain rfl : k = T.length := by omega
      have HN : Hid (∀ q ∈ T, q.1 ≠ s) := Lib.hid (by have h := HE.out; rwa [List.take_length] at h)
      clear HE
      by_cases hex : ∃ m : Nat, m < 18446744073709551616 ∧ s = Wd.txt m
      · obtain ⟨m, hm, rfl⟩ := hex
        go_wp2_with fail
        refine (refParse_yes m hm _).mono ?_
        rintro e w1 ⟨rfl, hb1⟩
        have HB1 := Lib.hid hb1
        clear hb1
        by_cases hbig : m < 4294967296
        · have hb' : ¬ (4294967295 : Int) < (m : Int) := by omega
          have hwr : IntKind.u32.wrap (m : Int) = (m : Int) := by unfold IntKind.wrap; simp [IntKind.bits, IntKind.signed]; omega
          go_wp2_with fail
          refine (HTX.out m _ hbig HB1.out).mono ?_
          rintro e w2 ⟨rfl, hb2⟩
          have HB2 := Lib.hid (below2 HB1.out hb2)
          clear hb2
          by_cases hq : textN T m = Wd.txt m
          · have hqd : ((textN T m).toList == (Wd.txt m).toList) = true := by simp [hq]
            have HR : Hid (readN T (Wd.txt m) (some m)) := Lib.hid ⟨hbig, hq.symm⟩
            clear hq
            go_wp2_with fail
            go_ret2
            exact ⟨rnEnd_some HR.out, HB2.out⟩
          · have hqd : ((textN T m).toList == (Wd.txt m).toList) = false := beq_ne hq
            have HR := Lib.hid (readN_no HN.out (fun n _ e => by rw [← Wd.txt_inj e]; exact hq))
            clear hq
            go_wp2_with fail
            go_ret2
            exact ⟨rnEnd_none HR.out, HB2.out⟩
        · have hb' : (4294967295 : Int) < (m : Int) := by omega
          have HR := Lib.hid (readN_no HN.out (fun n hn e => absurd (Wd.txt_inj e) (by omega)))
          go_wp2_with fail
          go_ret2
          exact ⟨rnEnd_none HR.out, HB1.out⟩
      · have HR := Lib.hid (readN_no HN.out (fun n hn e => absurd ⟨n, by omega, e⟩ hex))
        have hno : ∀ n : Nat, n < 18446744073709551616 → s ≠ Wd.txt n := fun n hn e => hex ⟨n, hn, e⟩
        have HNO := Lib.hid hno
        clear hno hex
        go_wp2_with fail
        refine (refParse_no s HS.out HNO.out _).mono ?_
        rintro e w1 ⟨rfl, hb1⟩
        have HB1 := Lib.hid hb1
        clear hb1
        go_wp2_with fail
        go_ret2
        exact ⟨rnEnd_none HR.out, HB1.out⟩
end Go.Proofs.YtdjjmcblhpjchaaGreatDoor
