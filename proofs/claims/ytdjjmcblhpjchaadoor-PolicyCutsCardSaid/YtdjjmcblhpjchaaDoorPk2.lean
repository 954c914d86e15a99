/-
  What the laws' texts use, joined.
-/
import Derived.Test.YtdjjmcblhpjchaaDoorProg
import Derived.WalkKit
import Derived.Laws.BitsAllLaws
import Derived.RowKit
import Derived.ProofKit
import Derived.Lib.Hide
import Derived.Laws.Rows
import Derived.Laws.ResultCell
import Derived.Laws.Entries
import Derived.Handy
import Derived.OwnWalk
import Derived.Laws.OwnMore
import Derived.Deep.Draws
import Derived.Laws.IdiomStrings
import Derived.Lib.BufferRead
import Derived.Maps.OwnSet
import Derived.BigQuiet
import Derived.IntWalk
import Derived.Deep.RegionHeld3
import Derived.BigRegion
import Derived.Lib.OthersKept
import Derived.Lib.QuietBelow
import Derived.Shelf.Strings.Builder1
import Derived.Shelf.Strings.Search1
import Derived.Lib.IndexLaws
import Derived.Laws.Tables
import Derived.Deep.DeepCutAuto
import Derived.Deep.Cut
import Derived.Deep.Slices
import Derived.Maps.RangeWalk
import Derived.StringKeys
import Derived.Test.YtdjjmcblhpjchaaDoorPk1
/-
  Policies, plainly: rules and their lines, policies and their texts, and what is read of a text.
-/
namespace Go.Proofs.YtdjjmcblhpjchaaDoor
open Go.RowKit
set_option maxRecDepth 20000

/-- A rule. -/
structure Rl where
  arch : Nat
  nr : Nat
  act : Nat
  conds : List Cd
deriving DecidableEq
/-- A policy. -/
structure Po where
  rules : List Rl
  dflt : Nat
deriving DecidableEq
def Rl.ok (x : Rl) : Prop := x.arch < 4294967296 ∧ x.nr < 4294967296 ∧ x.act < 4294967296 ∧ ∀ c ∈ x.conds, c.ok
def Rl.right (x : Rl) : Bool := decide (x.conds.length ≤ 4) && (actT x.act).isSome && x.conds.all Cd.right
def Po.ok (p : Po) : Prop := p.dflt < 4294967296 ∧ ∀ x ∈ p.rules, x.ok
def Po.right (p : Po) : Bool := decide (p.rules.length ≤ 64) && (actT p.dflt).isSome && p.rules.all Rl.right
def zeroRl : Rl := ⟨0, 0, 0, []⟩
def zeroPo : Po := ⟨[], 0⟩
def bl (b : ByteArray) : List UInt8 := b.data.toList
theorem bl_inj {a b : ByteArray} (h : bl a = bl b) : a = b := ByteArray.ext (Array.ext' h)
/-- The text of an action, nothing where it has none. -/
def actB (v : Nat) : ByteArray := (actT v).getD ⟨#[]⟩
/-! ### Words -/
def wOn : List UInt8 := [111, 110]
def wIf : List UInt8 := [105, 102]
def wAnd : List UInt8 := [97, 110, 100]
def wDefault : List UInt8 := [100, 101, 102, 97, 117, 108, 116]
def glue (k : Nat) : List UInt8 := if k = 0 then wIf else wAnd
def condW (k : Nat) (c : Cd) : List (List UInt8) := [glue k, argW c.arg, numT c.mask, cmpW c.cmp, numT c.value]
def condsW : Nat → List Cd → List (List UInt8)
  | _, [] => []
  | k, c :: cs => condW k c ++ condsW (k + 1) cs
def headW (x : Rl) : List (List UInt8) := [wOn, bl (textN machT x.arch), bl (textN (callT x.arch) x.nr), bl (actB x.act)]
def wordsR (x : Rl) : List (List UInt8) := headW x ++ condsW 0 x.conds
/-- A rule's line. -/
def lineL (x : Rl) : List UInt8 := Ip.join (wordsR x)
def defW (v : Nat) : List (List UInt8) := [wDefault, bl (actB v)]
def lineD (v : Nat) : List UInt8 := Ip.join (defW v)
theorem condsW_len : ∀ (k : Nat) (cs : List Cd), (condsW k cs).length = 5 * cs.length
  | _, [] => rfl
  | k, c :: cs => by
    rw [condsW, List.length_append, condsW_len (k + 1) cs]
    simp [condW]
    omega
theorem wordsR_len (x : Rl) : (wordsR x).length = 4 + 5 * x.conds.length := by
  rw [wordsR, List.length_append, condsW_len]
  rfl
/-! ### What the words are made of -/
/-- Neither a space nor a line's end. -/
def free2 (l : List UInt8) : Prop := ∀ c ∈ l, c ≠ 32 ∧ c ≠ 10
theorem free_hex (n : Nat) : free2 (Wd.hex n) := by
  intro c hc
  obtain ⟨d, hd, rfl⟩ := Wd.hex_mem n c hc
  refine ⟨hexB_32 hd, fun e => ?_⟩
  have e2 := congrArg UInt8.toNat e
  by_cases h10 : d < 10
  · rw [Wd.hexB_lo d h10] at e2
    simp at e2
    omega
  · rw [Wd.hexB_hi d (by omega) hd] at e2
    simp at e2
    omega
theorem free_cons {a : UInt8} {l : List UInt8} (h1 : a ≠ 32) (h2 : a ≠ 10) (h : free2 l) : free2 (a :: l) := by
  intro c hc
  rcases List.mem_cons.1 hc with rfl | hc
  · exact ⟨h1, h2⟩
  · exact h c hc
theorem free_num (n : Nat) : free2 (numT n) := free_cons (by decide) (by decide) (free_cons (by decide) (by decide) (free_hex n))
theorem free_txt (n : Nat) : free2 (bl (Wd.txt n)) := free_num n
def tblFree (T : Tbl) : Bool := T.all fun p => (bl p.1).all fun c => decide (c ≠ 32) && decide (c ≠ 10)
theorem free_textN {T : Tbl} (h : tblFree T = true) (n : Nat) : free2 (bl (textN T n)) := by
  rcases textN_is T n with ⟨p, hp, _, e⟩ | ⟨_, e⟩
  · rw [e]
    unfold tblFree at h
    rw [List.all_eq_true] at h
    have h2 := h p hp
    rw [List.all_eq_true] at h2
    intro c hc
    have h3 := h2 c hc
    simpa using h3
  · rw [e]
    exact free_txt n
theorem machT_free : tblFree machT = true := by decide
theorem callT_free (a : Nat) : tblFree (callT a) = true := by
  unfold callT
  split
  · decide
  split
  · decide
  split
  · decide
  split
  · decide
  rfl
theorem free_app {a b : List UInt8} (ha : free2 a) (hb : free2 b) : free2 (a ++ b) := by
  intro c hc
  rcases List.mem_append.1 hc with h | h
  · exact ha c h
  · exact hb c h
theorem free_dec {l : List UInt8} (h : (l.all fun c => decide (c ≠ 32) && decide (c ≠ 10)) = true) : free2 l := by
  rw [List.all_eq_true] at h
  intro c hc
  simpa using h c hc
theorem free_act (v : Nat) : free2 (bl (actB v)) := by
  unfold actB
  cases h : actT v with
  | none => intro c hc; simp [bl] at hc
  | some s =>
    show free2 (bl s)
    rcases actT_some h with ⟨n, _, _, rfl⟩ | ⟨_, rfl⟩ | ⟨_, rfl⟩ | ⟨_, rfl⟩ | ⟨_, rfl⟩
    · unfold bl
      rw [err_list]
      exact free_app (free_dec (by decide)) (free_txt n)
    all_goals exact free_dec (by decide)
theorem free_arg {k : Int} (h0 : 0 ≤ k) (h5 : k ≤ 5) : free2 (argW k) := by
  rcases six h0 h5 with rfl | rfl | rfl | rfl | rfl | rfl <;> exact free_dec (by decide)
theorem free_cmp (k : Int) : free2 (cmpW k) := by
  unfold cmpW
  repeat' split
  all_goals exact free_dec (by decide)
theorem free_glue (k : Nat) : free2 (glue k) := by
  unfold glue
  split
  all_goals exact free_dec (by decide)
theorem free_condsW : ∀ (k : Nat) (cs : List Cd), (∀ c ∈ cs, c.right = true) → ∀ p ∈ condsW k cs, free2 p
  | _, [], _, p, hp => by simp [condsW] at hp
  | k, c :: cs, h, p, hp => by
    rw [condsW, List.mem_append] at hp
    rcases hp with hp | hp
    · obtain ⟨a0, a5, _, _⟩ := (c.right_iff).1 (h c (by simp))
      unfold condW at hp
      simp only [List.mem_cons, List.not_mem_nil, or_false] at hp
      rcases hp with rfl | rfl | rfl | rfl | rfl
      · exact free_glue k
      · exact free_arg a0 a5
      · exact free_num _
      · exact free_cmp _
      · exact free_num _
    · exact free_condsW (k + 1) cs (fun d hd => h d (by simp [hd])) p hp
theorem right_conds {x : Rl} (h : x.right = true) : x.conds.length ≤ 4 ∧ (actT x.act).isSome = true ∧ ∀ c ∈ x.conds, c.right = true := by
  unfold Rl.right at h
  simp only [Bool.and_eq_true, decide_eq_true_eq, List.all_eq_true] at h
  exact ⟨h.1.1, h.1.2, h.2⟩
theorem rl_right {x : Rl} (h1 : x.conds.length ≤ 4) (h2 : (actT x.act).isSome = true) (h3 : ∀ c ∈ x.conds, c.right = true) : x.right = true := by
  unfold Rl.right
  simp only [Bool.and_eq_true, decide_eq_true_eq, List.all_eq_true]
  exact ⟨⟨h1, h2⟩, h3⟩
theorem free_words {x : Rl} (h : x.right = true) : ∀ p ∈ wordsR x, free2 p := by
  intro p hp
  unfold wordsR headW at hp
  rw [List.mem_append] at hp
  rcases hp with hp | hp
  · simp only [List.mem_cons, List.not_mem_nil, or_false] at hp
    rcases hp with rfl | rfl | rfl | rfl
    · exact free_dec (by decide)
    · exact free_textN machT_free _
    · exact free_textN (callT_free _) _
    · exact free_act _
  · exact free_condsW 0 x.conds (right_conds h).2.2 p hp
theorem cut_line {x : Rl} (h : x.right = true) : Ip.cutAll 32 [] (lineL x) = wordsR x :=
  Ip.cutAll_join _ (by simp [wordsR, headW]) (fun p hp c hc => (free_words h p hp c hc).1)
theorem free_def (v : Nat) : ∀ p ∈ defW v, free2 p := by
  intro p hp
  unfold defW at hp
  simp only [List.mem_cons, List.not_mem_nil, or_false] at hp
  rcases hp with rfl | rfl
  · exact free_dec (by decide)
  · exact free_act _
theorem cut_def (v : Nat) : Ip.cutAll 32 [] (lineD v) = defW v :=
  Ip.cutAll_join _ (by simp [defW]) (fun p hp c hc => (free_def v p hp c hc).1)
theorem join_free : ∀ (ps : List (List UInt8)), (∀ p ∈ ps, free2 p) → ∀ c ∈ Ip.join ps, c ≠ 10
  | [], _, c, hc => by simp [Ip.join] at hc
  | [x], h, c, hc => (h x (by simp) c hc).2
  | x :: y :: l, h, c, hc => by
    have e : Ip.join (x :: y :: l) = x ++ 32 :: Ip.join (y :: l) := rfl
    rw [e, List.mem_append, List.mem_cons] at hc
    rcases hc with hc | rfl | hc
    · exact (h x (by simp) c hc).2
    · decide
    · exact join_free (y :: l) (fun p hp => h p (by simp [hp])) c hc
theorem line_10 {x : Rl} (h : x.right = true) : ∀ c ∈ lineL x, c ≠ 10 := join_free _ (free_words h)
theorem def_10 (v : Nat) : ∀ c ∈ lineD v, c ≠ 10 := join_free _ (free_def v)
/-! ### Unlike rules have unlike lines -/
theorem condsW_inj : ∀ (k : Nat) (cs ds : List Cd), (∀ c ∈ cs, c.right = true) → (∀ c ∈ ds, c.right = true) → condsW k cs = condsW k ds → cs = ds
  | _, [], [], _, _, _ => rfl
  | k, [], d :: ds, _, _, h => by simp [condsW, condW] at h
  | k, c :: cs, [], _, _, h => by simp [condsW, condW] at h
  | k, c :: cs, d :: ds, hc, hd, h => by
    obtain ⟨a0, a5, k0, k5⟩ := (c.right_iff).1 (hc c (by simp))
    obtain ⟨b0, b5, j0, j5⟩ := (d.right_iff).1 (hd d (by simp))
    unfold condsW condW at h
    simp only [List.cons_append, List.nil_append, List.cons.injEq, true_and] at h
    obtain ⟨h1, h2, h3, h4, h5⟩ := h
    have e := condsW_inj (k + 1) cs ds (fun x hx => hc x (by simp [hx])) (fun x hx => hd x (by simp [hx])) h5
    have e1 := argW_inj a0 a5 b0 b5 h1
    have e3 := cmpW_inj k0 k5 j0 j5 h3
    have e2 := numT_inj h2
    have e4 := numT_inj h4
    obtain ⟨_, _, _, _⟩ := c
    obtain ⟨_, _, _, _⟩ := d
    simp_all
theorem actB_inj {v v' : Nat} (h : (actT v).isSome = true) (h' : (actT v').isSome = true) (e : actB v = actB v') : v = v' := by
  obtain ⟨s, hs⟩ := Option.isSome_iff_exists.1 h
  obtain ⟨s', hs'⟩ := Option.isSome_iff_exists.1 h'
  unfold actB at e
  rw [hs, hs'] at e
  have : s = s' := e
  subst this
  exact actT_inj hs hs'
theorem lineL_inj {x y : Rl} (hx : x.right = true) (hy : y.right = true) (h : lineL x = lineL y) : x = y := by
  have hw : wordsR x = wordsR y := by rw [← cut_line hx, ← cut_line hy, h]
  unfold wordsR headW at hw
  simp only [List.cons_append, List.nil_append, List.cons.injEq, true_and] at hw
  obtain ⟨h1, h2, h3, h4⟩ := hw
  have e1 := textN_inj machT_good (bl_inj h1)
  rw [e1] at h2
  have e2 := textN_inj (callT_good _) (bl_inj h2)
  have e3 := actB_inj (right_conds hx).2.1 (right_conds hy).2.1 (bl_inj h3)
  have e4 := condsW_inj 0 _ _ (right_conds hx).2.2 (right_conds hy).2.2 h4
  obtain ⟨_, _, _, _⟩ := x
  obtain ⟨_, _, _, _⟩ := y
  simp_all
theorem lineD_inj {v v' : Nat} (h : (actT v).isSome = true) (h' : (actT v').isSome = true) (e : lineD v = lineD v') : v = v' := by
  have hw : defW v = defW v' := by rw [← cut_def v, ← cut_def v', e]
  unfold defW at hw
  simp only [List.cons.injEq, true_and, and_true] at hw
  exact actB_inj h h' (bl_inj hw)
theorem line_def {x : Rl} (hx : x.right = true) (v : Nat) : lineL x ≠ lineD v := by
  intro e
  have hw : wordsR x = defW v := by rw [← cut_line hx, ← cut_def v, e]
  have := congrArg List.length hw
  rw [wordsR_len] at this
  simp [defW] at this
  omega
/-! ### What is read -/
open Classical in
/-- The rule of a line. -/
noncomputable def readR (l : List UInt8) : Option Rl := if h : ∃ x : Rl, x.ok ∧ x.right = true ∧ l = lineL x then some h.choose else none
theorem readR_some {l : List UInt8} {x : Rl} (h : readR l = some x) : x.ok ∧ x.right = true ∧ l = lineL x := by
  unfold readR at h
  split at h
  · rename_i hx
    obtain rfl := Option.some.inj h
    exact hx.choose_spec
  · cases h
theorem readR_line {x : Rl} (hk : x.ok) (hr : x.right = true) : readR (lineL x) = some x := by
  unfold readR
  split
  · rename_i h
    obtain ⟨_, h2, h3⟩ := h.choose_spec
    exact congrArg some (lineL_inj hr h2 h3).symm
  · rename_i h
    exact absurd ⟨x, hk, hr, rfl⟩ h
theorem readR_is_none {l : List UInt8} (h : ∀ x : Rl, x.ok → x.right = true → l ≠ lineL x) : readR l = none := by
  cases hq : readR l with
  | none => rfl
  | some x =>
    obtain ⟨h1, h2, h3⟩ := readR_some hq
    exact absurd h3 (h x h1 h2)
open Classical in
/-- The default of a line. -/
noncomputable def readD (l : List UInt8) : Option Nat := if h : ∃ v : Nat, v < 4294967296 ∧ (actT v).isSome = true ∧ l = lineD v then some h.choose else none
theorem readD_some {l : List UInt8} {v : Nat} (h : readD l = some v) : v < 4294967296 ∧ (actT v).isSome = true ∧ l = lineD v := by
  unfold readD at h
  split at h
  · rename_i hx
    obtain rfl := Option.some.inj h
    exact hx.choose_spec
  · cases h
theorem readD_line {v : Nat} (hk : v < 4294967296) (hr : (actT v).isSome = true) : readD (lineD v) = some v := by
  unfold readD
  split
  · rename_i h
    obtain ⟨_, h2, h3⟩ := h.choose_spec
    exact congrArg some (lineD_inj hr h2 h3).symm
  · rename_i h
    exact absurd ⟨v, hk, hr, rfl⟩ h
theorem readD_is_none {l : List UInt8} (h : ∀ v : Nat, v < 4294967296 → (actT v).isSome = true → l ≠ lineD v) : readD l = none := by
  cases hq : readD l with
  | none => rfl
  | some v =>
    obtain ⟨h1, h2, h3⟩ := readD_some hq
    exact absurd h3 (h v h1 h2)
theorem readR_def_none (v : Nat) : readR (lineD v) = none := readR_is_none fun _ _ h e => line_def h v e.symm
/-- What comes of the last part. -/
def lastP (size : Nat) (rs : List Rl) (o : Option Nat) (a : Nat) (l : List UInt8) : Po × Nat × Nat :=
  if l = [] then (match o with | none => (zeroPo, size, 5) | some d => (⟨rs, d⟩, 0, 0)) else (zeroPo, a, 2)
/-- What a line that is ended makes of what was read: the rules, and the default; or an error. -/
noncomputable def stepP (rs : List Rl) (l : List UInt8) : (List Rl × Option Nat) ⊕ Nat :=
  match readR l with
  | some x => if 64 ≤ rs.length then .inr 3 else .inl (rs ++ [x], none)
  | none => match readD l with
    | some d => .inl (rs, some d)
    | none => .inr 2
/-- What comes of the lines from one on: the policy, the place, and the error. -/
noncomputable def rdP (size : Nat) : List (List UInt8) → List Rl → Option Nat → Nat → Po × Nat × Nat
  | [], rs, o, a => lastP size rs o a []
  | [l], rs, o, a => lastP size rs o a l
  | l :: m :: ls, rs, o, a => match o with
    | some _ => (zeroPo, a, 2)
    | none => match stepP rs l with
      | .inl q => rdP size (m :: ls) q.1 q.2 (a + l.length + 1)
      | .inr e => (zeroPo, a, e)
theorem rdP_last (size : Nat) (l : List UInt8) (rs : List Rl) (o : Option Nat) (a : Nat) : rdP size [l] rs o a = lastP size rs o a l := by rw [rdP]
theorem rdP_done (size : Nat) (l m : List UInt8) (ls : List (List UInt8)) (rs : List Rl) (d a : Nat) : rdP size (l :: m :: ls) rs (some d) a = (zeroPo, a, 2) := by rw [rdP]
theorem rdP_go {size : Nat} {l m : List UInt8} {ls : List (List UInt8)} {rs rs' : List Rl} {o : Option Nat} {a : Nat} (h : stepP rs l = .inl (rs', o)) : rdP size (l :: m :: ls) rs none a = rdP size (m :: ls) rs' o (a + l.length + 1) := by rw [rdP, h]
theorem rdP_stop {size : Nat} {l m : List UInt8} {ls : List (List UInt8)} {rs : List Rl} {e a : Nat} (h : stepP rs l = .inr e) : rdP size (l :: m :: ls) rs none a = (zeroPo, a, e) := by rw [rdP, h]
theorem stepP_rule {rs : List Rl} {l : List UInt8} {x : Rl} (h : readR l = some x) (hn : rs.length < 64) : stepP rs l = .inl (rs ++ [x], none) := by
  unfold stepP
  rw [h]
  exact if_neg (by omega)
theorem stepP_full {rs : List Rl} {l : List UInt8} {x : Rl} (h : readR l = some x) (hn : 64 ≤ rs.length) : stepP rs l = .inr 3 := by
  unfold stepP
  rw [h]
  exact if_pos hn
theorem stepP_def {rs : List Rl} {l : List UInt8} {d : Nat} (h : readR l = none) (hd : readD l = some d) : stepP rs l = .inl (rs, some d) := by
  unfold stepP
  rw [h, hd]
theorem stepP_no {rs : List Rl} {l : List UInt8} (h : readR l = none) (hd : readD l = none) : stepP rs l = .inr 2 := by
  unfold stepP
  rw [h, hd]
/-- What a step may be. -/
theorem stepP_is (rs : List Rl) (l : List UInt8) : (∃ x, readR l = some x ∧ rs.length < 64 ∧ stepP rs l = .inl (rs ++ [x], none)) ∨ (∃ d, readD l = some d ∧ stepP rs l = .inl (rs, some d)) ∨ ∃ e, e ≠ 0 ∧ stepP rs l = .inr e := by
  cases h : readR l with
  | some x =>
    by_cases hn : rs.length < 64
    · exact .inl ⟨x, rfl, hn, stepP_rule h hn⟩
    · exact .inr (.inr ⟨3, by decide, stepP_full h (by omega)⟩)
  | none =>
    cases hd : readD l with
    | some d => exact .inr (.inl ⟨d, rfl, stepP_def h hd⟩)
    | none => exact .inr (.inr ⟨2, by decide, stepP_no h hd⟩)
/-- What comes of a text. -/
noncomputable def polT (s : List UInt8) : Po × Nat × Nat := if 20000 < s.length then (zeroPo, 0, 3) else rdP s.length (linesOf s) [] none 0
/-- A policy's text. -/
def textP (p : Po) : List UInt8 := p.rules.flatMap (fun x => lineL x ++ [10]) ++ (lineD p.dflt ++ [10])
/-- Lines that are rules'. -/
theorem rdP_lines (size : Nat) : ∀ (xs rs : List Rl) (a : Nat) (tl : List (List UInt8)), (∀ x ∈ xs, x.ok ∧ x.right = true) → rs.length + xs.length ≤ 64 → tl ≠ [] → ∃ a', rdP size (xs.map lineL ++ tl) rs none a = rdP size tl (rs ++ xs) none a'
  | [], rs, a, tl, _, _, _ => ⟨a, by simp⟩
  | x :: xs, rs, a, tl, h, hn, ht => by
    obtain ⟨h1, h2⟩ := h x (by simp)
    simp only [List.length_cons] at hn
    obtain ⟨a', e⟩ := rdP_lines size xs (rs ++ [x]) (a + (lineL x).length + 1) tl (fun y hy => h y (by simp [hy])) (by rw [List.length_append]; simp; omega) ht
    refine ⟨a', ?_⟩
    rw [List.append_assoc] at e
    rw [show rs ++ x :: xs = rs ++ ([x] ++ xs) from rfl, ← e]
    cases hl : xs.map lineL ++ tl with
    | nil => simp at hl; exact absurd hl.2 ht
    | cons m ls =>
      rw [List.map_cons, List.cons_append, hl]
      exact rdP_go (stepP_rule (readR_line h1 h2) (by omega))
theorem lines_text (xs : List Rl) (tl : List UInt8) (h : ∀ x ∈ xs, x.right = true) : linesOf (xs.flatMap (fun x => lineL x ++ [10]) ++ tl) = xs.map lineL ++ linesOf tl := by
  induction xs with
  | nil => simp
  | cons x xs ih =>
    rw [List.flatMap_cons, List.append_assoc, List.append_assoc, List.singleton_append, lines_cut (line_10 (h x (by simp))), ih fun y hy => h y (by simp [hy])]
    rfl
theorem po_right {p : Po} (h : p.right = true) : p.rules.length ≤ 64 ∧ (actT p.dflt).isSome = true ∧ ∀ x ∈ p.rules, x.right = true := by
  unfold Po.right at h
  simp only [Bool.and_eq_true, decide_eq_true_eq, List.all_eq_true] at h
  exact ⟨h.1.1, h.1.2, h.2⟩
theorem right_po {p : Po} (h1 : p.rules.length ≤ 64) (h2 : (actT p.dflt).isSome = true) (h3 : ∀ x ∈ p.rules, x.right = true) : p.right = true := by
  unfold Po.right
  simp only [Bool.and_eq_true, decide_eq_true_eq, List.all_eq_true]
  exact ⟨⟨h1, h2⟩, h3⟩
theorem lines_nil : linesOf [] = [[]] := rfl
theorem lines_def (v : Nat) (tl : List UInt8) : linesOf (lineD v ++ 10 :: tl) = lineD v :: linesOf tl := lines_cut (def_10 v)
/-- A policy's text is read as it. -/
theorem polT_text {p : Po} (hk : p.ok) (hr : p.right = true) : polT (textP p) = if 20000 < (textP p).length then (zeroPo, 0, 3) else (p, 0, 0) := by
  unfold polT
  split
  · rfl
  obtain ⟨h1, h2, h3⟩ := po_right hr
  have e : linesOf (textP p) = p.rules.map lineL ++ [lineD p.dflt, []] := by
    unfold textP
    rw [lines_text _ _ h3, show lineD p.dflt ++ [10] = lineD p.dflt ++ 10 :: [] from rfl, lines_def, lines_nil]
  rw [e]
  obtain ⟨a', e'⟩ := rdP_lines (textP p).length p.rules [] 0 [lineD p.dflt, []] (fun x hx => ⟨hk.2 x hx, h3 x hx⟩) (by simpa using h1) (by simp)
  rw [e', rdP_go (stepP_def (readR_def_none _) (readD_line hk.1 h2)), rdP_last]
  rfl
/-- What was read has just this text. -/
theorem rdP_sound (size : Nat) : ∀ (ls : List (List UInt8)) (rs : List Rl) (o : Option Nat) (a : Nat) (p : Po) (i : Nat), rdP size ls rs o a = (p, i, 0) → ls ≠ [] → rs.length ≤ 64 → i = 0 ∧ match o with
    | some d => ls = [[]] ∧ p = ⟨rs, d⟩
    | none => ∃ xs d, ls = xs.map lineL ++ [lineD d, []] ∧ p = ⟨rs ++ xs, d⟩ ∧ (∀ x ∈ xs, x.ok ∧ x.right = true) ∧ (rs ++ xs).length ≤ 64 ∧ d < 4294967296 ∧ (actT d).isSome = true
  | [], _, _, _, _, _, _, h, _ => absurd rfl h
  | [l], rs, none, a, p, i, h, _, _ => by
    rw [rdP_last] at h
    unfold lastP at h
    split at h <;> simp at h
  | [l], rs, some d, a, p, i, h, _, _ => by
    rw [rdP_last] at h
    unfold lastP at h
    split at h
    · rename_i hl
      simp only [Prod.mk.injEq] at h
      exact ⟨h.2.1.symm, by rw [hl], h.1.symm⟩
    · simp at h
  | l :: m :: ls, rs, some d, a, p, i, h, _, _ => by
    rw [rdP_done] at h
    simp at h
  | l :: m :: ls, rs, none, a, p, i, h, _, hn => by
    rcases stepP_is rs l with ⟨x, hx, h64, hs⟩ | ⟨d, hd, hs⟩ | ⟨e, he, hs⟩
    · rw [rdP_go hs] at h
      obtain ⟨hk, hr, hl⟩ := readR_some hx
      obtain ⟨h0, xs, d, e1, e2, e3, e4, e5⟩ := rdP_sound size (m :: ls) (rs ++ [x]) none _ p i h (by simp) (by rw [List.length_append]; simp; omega)
      refine ⟨h0, x :: xs, d, by rw [e1, hl]; rfl, by rw [e2, List.append_assoc]; rfl, ?_, by rw [List.append_assoc] at e4; exact e4, e5⟩
      intro y hy
      rcases List.mem_cons.1 hy with rfl | hy
      · exact ⟨hk, hr⟩
      · exact e3 y hy
    · rw [rdP_go hs] at h
      obtain ⟨h1, h2, h3⟩ := readD_some hd
      obtain ⟨h0, e1, e2⟩ := rdP_sound size (m :: ls) rs (some d) _ p i h (by simp) hn
      exact ⟨h0, [], d, by rw [e1, h3]; rfl, by rw [e2, List.append_nil], by simp, by rw [List.append_nil]; exact hn, h1, h2⟩
    · rw [rdP_stop hs] at h
      simp only [Prod.mk.injEq] at h
      exact absurd h.2.2 he
theorem joinL_text : ∀ (xs : List Rl) (d : Nat), joinL (xs.map lineL ++ [lineD d, []]) = textP ⟨xs, d⟩
  | [], d => rfl
  | x :: xs, d => by
    have e := joinL_text xs d
    unfold textP at e ⊢
    rw [List.flatMap_cons, List.append_assoc, List.append_assoc, ← e]
    cases hl : xs.map lineL ++ [lineD d, []] with
    | nil => simp at hl
    | cons m ls => rw [List.map_cons, List.cons_append, hl]; rfl
theorem polT_sound {s : List UInt8} {p : Po} {i : Nat} (h : polT s = (p, i, 0)) : i = 0 ∧ p.ok ∧ p.right = true ∧ s = textP p ∧ s.length ≤ 20000 := by
  unfold polT at h
  split at h
  · simp at h
  · rename_i hlen
    obtain ⟨h0, xs, d, e1, e2, e3, e4, e5, e6⟩ := rdP_sound _ _ _ _ _ _ _ h (lines_ne s) (by simp)
    refine ⟨h0, ?_, ?_, ?_, by omega⟩
    · rw [e2]
      exact ⟨e5, fun x hx => (e3 x hx).1⟩
    · rw [e2]
      exact right_po e4 e6 fun x hx => (e3 x hx).2
    · have := joinL_cut s []
      rw [show Ip.cutAll 10 [] s = linesOf s from rfl, e1, joinL_text] at this
      rw [e2]
      exact this.symm
/-- A text that was read, without its last byte; and with a line more. -/
theorem polT_cut {s : List UInt8} {p : Po} {i : Nat} (h : polT s = (p, i, 0)) : ∃ j, polT s.dropLast = (zeroPo, j, 2) := by
  obtain ⟨_, hk, hr, hs, hl⟩ := polT_sound h
  obtain ⟨h1, h2, h3⟩ := po_right hr
  have e : s.dropLast = p.rules.flatMap (fun x => lineL x ++ [10]) ++ lineD p.dflt := by
    rw [hs]
    unfold textP
    rw [← List.append_assoc, List.dropLast_concat]
  have hd : linesOf (lineD p.dflt) = [lineD p.dflt] := lines_one (def_10 _)
  unfold polT
  rw [if_neg (by rw [List.length_dropLast]; omega), e, lines_text _ _ h3, hd]
  obtain ⟨a', e'⟩ := rdP_lines (p.rules.flatMap (fun x => lineL x ++ [10]) ++ lineD p.dflt).length p.rules [] 0 [lineD p.dflt] (fun x hx => ⟨hk.2 x hx, h3 x hx⟩) (by simpa using h1) (by simp)
  rw [e', rdP_last, lastP, if_neg]
  · exact ⟨a', rfl⟩
  · intro e
    have := congrArg List.length e
    simp [lineD, defW, Ip.join, wDefault] at this
theorem polT_more {s : List UInt8} {p : Po} {i : Nat} (h : polT s = (p, i, 0)) : ∃ j e, polT (s ++ (lineD 0 ++ [10])) = (zeroPo, j, e) ∧ (e = 2 ∨ e = 3) := by
  obtain ⟨_, hk, hr, hs, hl⟩ := polT_sound h
  obtain ⟨h1, h2, h3⟩ := po_right hr
  unfold polT
  split
  · exact ⟨0, 3, rfl, .inr rfl⟩
  have e : linesOf (s ++ (lineD 0 ++ [10])) = p.rules.map lineL ++ [lineD p.dflt, lineD 0, []] := by
    rw [hs]
    unfold textP
    rw [List.append_assoc, lines_text _ _ h3, List.append_assoc, List.singleton_append, lines_def, show lineD 0 ++ [10] = lineD 0 ++ 10 :: [] from rfl, lines_def, lines_nil]
  rw [e]
  obtain ⟨a', e'⟩ := rdP_lines (s ++ (lineD 0 ++ [10])).length p.rules [] 0 [lineD p.dflt, lineD 0, []] (fun x hx => ⟨hk.2 x hx, h3 x hx⟩) (by simpa using h1) (by simp)
  rw [e', rdP_go (stepP_def (readR_def_none _) (readD_line hk.1 h2)), rdP_done]
  exact ⟨_, 2, rfl, .inl rfl⟩
/-- The place of an error. -/
def placeOk (s : List UInt8) (i : Nat) : Prop := i ≤ s.length ∧ (i = 0 ∨ s[i - 1]? = some 10 ∨ i = s.length)
theorem rdP_place (s : List UInt8) : ∀ (ls : List (List UInt8)) (rs : List Rl) (o : Option Nat) (a : Nat), ls ≠ [] → s.drop a = joinL ls → a ≤ s.length → (a = 0 ∨ s[a - 1]? = some 10) → placeOk s (rdP s.length ls rs o a).2.1 ∧ ((rdP s.length ls rs o a).2.2 = 0 → (rdP s.length ls rs o a).2.1 = 0)
  | [], _, _, _, h, _, _, _ => absurd rfl h
  | [l], rs, none, a, _, _, ha, hb => by
    rw [rdP_last]
    unfold lastP
    split
    · exact ⟨⟨Nat.le_refl _, .inr (.inr rfl)⟩, fun h => by simp at h⟩
    · exact ⟨⟨ha, hb.imp id .inl⟩, fun h => by simp at h⟩
  | [l], rs, some d, a, _, _, ha, hb => by
    rw [rdP_last]
    unfold lastP
    split
    · exact ⟨⟨Nat.zero_le _, .inl rfl⟩, fun _ => rfl⟩
    · exact ⟨⟨ha, hb.imp id .inl⟩, fun h => by simp at h⟩
  | l :: m :: ls, rs, some d, a, _, _, ha, hb => by
    rw [rdP_done]
    exact ⟨⟨ha, hb.imp id .inl⟩, fun h => by simp at h⟩
  | l :: m :: ls, rs, none, a, _, hd, ha, hb => by
    have hj : joinL (l :: m :: ls) = l ++ 10 :: joinL (m :: ls) := rfl
    rw [hj] at hd
    have hlen := congrArg List.length hd
    rw [List.length_drop, List.length_append, List.length_cons] at hlen
    have hd2 : s.drop (a + l.length + 1) = joinL (m :: ls) := by
      rw [show a + l.length + 1 = a + (l.length + 1) by omega, ← List.drop_drop, hd, ← List.drop_drop, List.drop_left]
      rfl
    have hc : s[a + l.length + 1 - 1]? = some 10 := by
      have : (s.drop a)[l.length]? = some 10 := by rw [hd, List.getElem?_append_right (Nat.le_refl _)]; simp
      rw [List.getElem?_drop] at this
      rw [show a + l.length + 1 - 1 = a + l.length by omega]
      exact this
    rcases stepP_is rs l with ⟨x, hx, h64, hs⟩ | ⟨d, hdd, hs⟩ | ⟨e, he, hs⟩
    · rw [rdP_go hs]
      exact rdP_place s (m :: ls) _ none _ (by simp) hd2 (by omega) (.inr hc)
    · rw [rdP_go hs]
      exact rdP_place s (m :: ls) _ (some d) _ (by simp) hd2 (by omega) (.inr hc)
    · rw [rdP_stop hs]
      exact ⟨⟨ha, hb.imp id .inl⟩, fun h => absurd h he⟩
theorem polT_place (s : List UInt8) : placeOk s (polT s).2.1 ∧ ((polT s).2.2 = 0 → (polT s).2.1 = 0) := by
  unfold polT
  split
  · exact ⟨⟨Nat.zero_le _, .inl rfl⟩, fun h => by simp at h⟩
  · refine rdP_place s (linesOf s) [] none 0 (lines_ne s) ?_ (Nat.zero_le _) (.inl rfl)
    rw [List.drop_zero]
    exact (joinL_cut s []).symm
theorem rdP_zero (size : Nat) : ∀ (ls : List (List UInt8)) (rs : List Rl) (o : Option Nat) (a : Nat), ls ≠ [] → (rdP size ls rs o a).2.2 = 0 ∨ (rdP size ls rs o a).1 = zeroPo
  | [], _, _, _, h => absurd rfl h
  | [l], rs, none, a, _ => by
    rw [rdP_last]
    unfold lastP
    split
    · exact .inr rfl
    · exact .inr rfl
  | [l], rs, some d, a, _ => by
    rw [rdP_last]
    unfold lastP
    split
    · exact .inl rfl
    · exact .inr rfl
  | l :: m :: ls, rs, some d, a, _ => by
    rw [rdP_done]
    exact .inr rfl
  | l :: m :: ls, rs, none, a, _ => by
    rcases stepP_is rs l with ⟨x, hx, h64, hs⟩ | ⟨d, hdd, hs⟩ | ⟨e, he, hs⟩
    · rw [rdP_go hs]
      exact rdP_zero size (m :: ls) _ none _ (by simp)
    · rw [rdP_go hs]
      exact rdP_zero size (m :: ls) _ (some d) _ (by simp)
    · rw [rdP_stop hs]
      exact .inr rfl
theorem polT_zero (s : List UInt8) : (polT s).2.2 = 0 ∨ (polT s).1 = zeroPo := by
  unfold polT
  split
  · exact .inr rfl
  · exact rdP_zero _ _ _ _ _ (lines_ne s)
end Go.Proofs.YtdjjmcblhpjchaaDoor
/-
  States, as they lie in a world; what run.cell and run.withCell answer.
-/
namespace Go.Proofs.YtdjjmcblhpjchaaDoor
open Go.ChangeShapes Go.WideShapes Go.ChangeAt Go.RowKit
set_option maxRecDepth 20000

/-- A state. -/
structure St where
  a : Nat
  x : Nat
  m : List Nat
deriving DecidableEq
def St.ok (s : St) : Prop := s.a ≤ 4294967295 ∧ s.x ≤ 4294967295 ∧ s.m.length = 16 ∧ ∀ v ∈ s.m, v ≤ 4294967295
/-- What is in a cell; 0, if there is none. -/
def mAt (m : List Nat) (i : Nat) : Nat := m.getD i 0
/-- Its eighteen cells (not to be opened by a walk). -/
def stC (s : St) : Array Value := #[.int .u32 s.a, .int .u32 s.x, .int .u32 (mAt s.m 0), .int .u32 (mAt s.m 1), .int .u32 (mAt s.m 2), .int .u32 (mAt s.m 3), .int .u32 (mAt s.m 4), .int .u32 (mAt s.m 5), .int .u32 (mAt s.m 6), .int .u32 (mAt s.m 7), .int .u32 (mAt s.m 8), .int .u32 (mAt s.m 9), .int .u32 (mAt s.m 10), .int .u32 (mAt s.m 11), .int .u32 (mAt s.m 12), .int .u32 (mAt s.m 13), .int .u32 (mAt s.m 14), .int .u32 (mAt s.m 15)]
abbrev St.val (s : St) : Value := .agg (stC s)
/-! ### Rows of a call's own: one that has been written -/
/-- 'w' is written in one row alone, which then holds 'o'. -/
structure RowPut (w w' : World) (g : Nat) (o : Obj) : Prop where
  os : w'.os = w.os
  tape : w'.tape = w.tape
  output : w'.output = w.output
  size : w'.heap.size = w.heap.size
  row : w'.heap[g]? = some o
  rest : ∀ k, k ≠ g → w'.heap[k]? = w.heap[k]?
theorem RowPut.below {w w' a : World} {g B : Nat} {o : Obj} (h : RowPut w w' g o) (hb : Below B a w) (hg : B ≤ g) : Below B a w' :=
  ⟨h.os.trans hb.os, h.tape.trans hb.tape, h.output.trans hb.output, by rw [h.size]; exact hb.size, fun k hk => (h.rest k (by omega)).trans (hb.block k hk)⟩
theorem RowPut.keep {w w' : World} {g k : Nat} {o o' : Obj} (h : RowPut w w' g o) (hk : k ≠ g) (ho : w.heap[k]? = some o') : w'.heap[k]? = some o' := (h.rest k hk).trans ho
theorem rowPut_set {w : World} {g : Nat} {old : Array Value} {t : TypeId} (hg : w.heap[g]? = some (.cells old t)) (cs : Array Value) : RowPut w (w.setRow g cs) g (.cells cs t) :=
  ⟨rfl, rfl, rfl, by unfold World.setRow; simp, setRow_heap w g old cs t (0, 0) hg, fun k hk => setRow_other w g k cs hk⟩
section
variable {ops : Array Oper} {rest : List Oper} {o : Oper} {a : Act} {w : World} {Q : Exit → Act → World → Prop}
end
theorem ka {w : World} {g : Nat} {o : Obj} (o' : Obj) (h : w.heap[g]? = some o) : (w.alloc o').heap[g]? = some o := (Below.heap_alloc w o' g (lt_of_block h)).trans h

theorem kb {w w' : World} {g : Nat} {o : Obj} (hb : Below w.heap.size w w') (h : w.heap[g]? = some o) : w'.heap[g]? = some o := (hb.block _ (lt_of_block h)).trans h
/-- Blocks that a call lays at its head. -/
theorem box2 (w : World) (A B : Obj) : ∃ W, W = (w.alloc A).alloc B ∧ W.heap[w.heap.size]? = some A ∧ W.heap[w.heap.size + 1]? = some B ∧ Below w.heap.size w W :=
  ⟨_, rfl, ka _ (heap_alloc_new _ _), by have h := heap_alloc_new (w.alloc A) B; rw [size_alloc] at h; exact h, ba _ (ba _ (Below.refl _ _))⟩
end Go.Proofs.YtdjjmcblhpjchaaDoor
/-
  The document's own answers on conditions (package hurdleref08): Right, masked, Holds, part.
-/
namespace Go.Proofs.YtdjjmcblhpjchaaDoor
open Go.ChangeShapes Go.WideShapes Go.ChangeAt Go.RowKit
set_option maxRecDepth 20000

theorem cdX {w : World} {g : Nat} {c : Cd} (h : w.heap[g]? = some (cdB c)) : w.cell? ⟨g, 0, none⟩ = some (.int .i64 c.arg) ∧ w.cell? ⟨g, 1, none⟩ = some (.int .i64 c.cmp) ∧ w.cell? ⟨g, 2, none⟩ = some (.int .u64 (c.mask : Nat)) ∧ w.cell? ⟨g, 3, none⟩ = some (.int .u64 (c.value : Nat)) :=
  ⟨cell_in h 0, cell_in h 1, cell_in h 2, cell_in h 3⟩
end Go.Proofs.YtdjjmcblhpjchaaDoor
/-
  The document's Words and Print (package hurdleref08).
-/
namespace Go.Proofs.YtdjjmcblhpjchaaDoor
open Go.ChangeShapes Go.WideShapes Go.ChangeAt Go.RowKit
set_option maxRecDepth 20000

/-! ### A region whose order is drawn, taken by hand -/
section
variable {ops : Array Oper} {Q : Exit → Act → World → Prop} {md : Region.Mode} {S : World → Prop}
variable {o : Oper} {a : Act}
end
def wordT (k : Int) : ByteArray := ⟨(cmpW k).toArray⟩
/-- A condition's text. -/
def textT (c : Cd) : ByteArray := ⟨(textQ c).toArray⟩
end Go.Proofs.YtdjjmcblhpjchaaDoor
/-
  The document's Parse of a condition (package hurdleref08).
-/
namespace Go.Proofs.YtdjjmcblhpjchaaDoor
open Go.ChangeShapes Go.WideShapes Go.ChangeAt Go.RowKit
set_option maxRecDepth 20000

theorem cd_right {a k m v : Nat} (ha : a < 6) (hk : k < 6) : (⟨a, k, m, v⟩ : Cd).right = true := by
  rw [Cd.right_iff]
  simp only
  omega
end Go.Proofs.YtdjjmcblhpjchaaDoor
/-
  What the document's functions of names answer (package hurdleref09).
-/
namespace Go.Proofs.YtdjjmcblhpjchaaDoor
open Go.ChangeShapes Go.WideShapes Go.ChangeAt Go.RowKit
set_option maxRecDepth 20000

/-- A slice whose elements, of one cell each, are these. -/
def SAt (w : World) (v : Value) (cs : List Value) : Prop :=
  ∃ ao cap, v = .slice ao cs.length cap ∧ cs.length ≤ cap ∧ (cs = [] ∨ ∃ b, ao = some ⟨b, 0, none⟩ ∧ b < w.heap.size ∧ ∀ i u, cs[i]? = some u → w.cell? ⟨b, i, none⟩ = some u)
theorem SAt.below {w w' : World} {v : Value} {cs : List Value} (h : SAt w v cs) (hb : Below w.heap.size w w') : SAt w' v cs := by
  obtain ⟨ao, cap, rfl, hcap, h⟩ := h
  refine ⟨ao, cap, rfl, hcap, h.imp id ?_⟩
  rintro ⟨b, rfl, hl, hc⟩
  exact ⟨b, rfl, Nat.lt_of_lt_of_le hl hb.size, fun i u hi => (hb.cell (p := ⟨b, _, none⟩) hl).trans (hc i u hi)⟩
theorem SAt.own {w : World} {base : Nat} {e : TypeId} {v : Value} {n : Nat} {cs : List Value} (h : w.ownsRow base e 1 v n cs) (hn : n = cs.length) : SAt w v cs := by
  subst hn
  rcases Nat.eq_zero_or_pos cs.length with h0 | h0
  · obtain rfl := List.length_eq_zero_iff.1 h0
    obtain ⟨a, c, rfl⟩ := own_shape h
    exact ⟨a, c, rfl, Nat.zero_le _, .inl rfl⟩
  · obtain ⟨g, c, rfl, _, hl, hc, hx⟩ := own_cells h h0
    exact ⟨_, _, rfl, hc, .inr ⟨g, rfl, hl, hx⟩⟩
theorem SAt.lit {w : World} {g : Nat} {cs : Array Value} {t : TypeId} {fr : Nat × Nat} (h : w.heap[g]? = some (.cells cs t fr)) : SAt w (.slice (some ⟨g, 0, none⟩) cs.size cs.size) cs.toList :=
  ⟨some ⟨g, 0, none⟩, cs.size, by simp, by simp, .inr ⟨g, rfl, lt_of_block h, fun i u hu => by rw [cell_in h i]; simpa using hu⟩⟩
theorem beq_eq {a b : ByteArray} (h : (a.toList == b.toList) = true) : a = b := by
  have h := eq_of_beq h
  rw [Go.ByteArray.toList_eq, Go.ByteArray.toList_eq] at h
  exact ByteArray.ext (Array.ext' h)
theorem beq_ne {a b : ByteArray} (h : a ≠ b) : (a.toList == b.toList) = false := by
  cases q : (a.toList == b.toList)
  · rfl
  · exact absurd (beq_eq q) h
theorem readN_no {T : Tbl} {s : ByteArray} (h : ∀ p ∈ T, p.1 ≠ s) (h2 : ∀ n : Nat, n < 4294967296 → s = Wd.txt n → textN T n ≠ s) : readN T s none := by
  intro n hn e
  rcases textN_is T n with ⟨p, hp, _, e1⟩ | ⟨_, e1⟩
  · exact h p hp (e1.symm.trans e.symm)
  · exact h2 n hn (e.trans e1) e.symm
end Go.Proofs.YtdjjmcblhpjchaaDoor
/-
  What the document's Calls answers (package hurdleref09).
-/
namespace Go.Proofs.YtdjjmcblhpjchaaDoor
open Go.ChangeShapes Go.WideShapes Go.ChangeAt Go.RowKit
set_option maxRecDepth 20000

/-- Rows that hold cells of two types lie in two blocks. -/
theorem own_apart {w : World} {base base' : Nat} {e e' : TypeId} {s s' : Nat} {v v' : Value} {n n' : Nat} {xs xs' : List Value} (h : w.ownsRow base e s v n xs) (h' : w.ownsRow base' e' s' v' n' xs') (hne : e ≠ e') : v'.ownBlock = none ∨ v'.ownBlock ≠ v.ownBlock := by
  rcases h.2 with ⟨rfl, _⟩ | ⟨g, c, cur, rfl, _, hh, _⟩ <;> rcases h'.2 with ⟨rfl, _⟩ | ⟨g', c', cur', rfl, _, hh', _⟩
  · exact .inl rfl
  · exact .inr (by simp [Value.ownBlock])
  · exact .inl rfl
  · refine .inr fun e1 => ?_
    have e1 : g' = g := by simpa [Value.ownBlock] using e1
    subst e1
    rw [hh] at hh'
    simp at hh'
    exact hne hh'.2
end Go.Proofs.YtdjjmcblhpjchaaDoor
/-
  What the document's Call, ReadCall, Action and ReadAction answer (package hurdleref09).
-/
namespace Go.Proofs.YtdjjmcblhpjchaaDoor
open Go.ChangeShapes Go.WideShapes Go.ChangeAt Go.RowKit
set_option maxRecDepth 20000

/-! ### Actions -/
/-- An action's text, or nothing. -/
def actS (v : Nat) : ByteArray := (actT v).getD ⟨#[]⟩
theorem txt_lt18 {n : Nat} (h : n < 18446744073709551616) : (Wd.txt n).size ≤ 18 := by
  have := Wd.hex_len16 n h
  show (48 :: 120 :: Wd.hex n).length ≤ 18
  simp
  omega
end Go.Proofs.YtdjjmcblhpjchaaDoor
/-
  Conditions, rules and policies that lie in a world.
-/
namespace Go.Proofs.YtdjjmcblhpjchaaDoor
open Go.ChangeShapes Go.WideShapes Go.ChangeAt Go.RowKit Go.Deep
set_option maxRecDepth 20000

/-- Four cells. -/
abbrev V4 := Value × Value × Value × Value
abbrev V4.cells (x : V4) : List Value := [x.1, x.2.1, x.2.2.1, x.2.2.2]
def qcells (l : List V4) : List Value := l.flatMap V4.cells
theorem qcells_len (l : List V4) : (qcells l).length = l.length * 4 := by
  induction l with
  | nil => rfl
  | cons x l ih => simp [qcells, List.flatMap_cons] at ih ⊢; omega
theorem qcells_app (l m : List V4) : qcells (l ++ m) = qcells l ++ qcells m := by simp [qcells]
theorem qcells_one (x : V4) : qcells [x] = x.cells := by simp [qcells]
theorem qcells_at (l : List V4) (i : Nat) (h : i < l.length) : ∀ j, j < 4 → (qcells l)[i * 4 + j]? = (l[i]).cells[j]? := by
  induction l generalizing i with
  | nil => simp at h
  | cons x l ih =>
    intro j hj
    have e : qcells (x :: l) = x.cells ++ qcells l := by simp [qcells]
    rw [e]
    cases i with
    | zero =>
      rw [List.getElem?_append_left (by simp; omega)]
      simp
    | succ i =>
      rw [List.getElem?_append_right (by simp; omega)]
      simp only [List.getElem_cons_succ]
      rw [← ih i (by simpa using h) j hj]
      congr 1
      simp
      omega
/-- Rows of four cells that lie in a world. -/
def QAt (w : World) (v : Value) (l : List V4) : Prop :=
  ∃ ao cap, v = .slice ao l.length cap ∧ (l = [] ∨ ∃ b off, ao = some ⟨b, off, none⟩ ∧ b < w.heap.size ∧ ∀ i (h : i < l.length),
    w.cell? ⟨b, off + i * 4, none⟩ = some (l[i]).1 ∧ w.cell? ⟨b, off + i * 4 + 1, none⟩ = some (l[i]).2.1 ∧ w.cell? ⟨b, off + i * 4 + 2, none⟩ = some (l[i]).2.2.1 ∧ w.cell? ⟨b, off + i * 4 + 3, none⟩ = some (l[i]).2.2.2)
theorem QAt.nil (w : World) : QAt w (.slice none 0 0) [] := ⟨none, 0, rfl, .inl rfl⟩
theorem QAt.below {w w' : World} {v : Value} {l : List V4} (h : QAt w v l) (hb : Below w.heap.size w w') : QAt w' v l := by
  obtain ⟨ao, cap, rfl, h⟩ := h
  refine ⟨ao, cap, rfl, h.imp id ?_⟩
  rintro ⟨b, off, rfl, hl, hc⟩
  refine ⟨b, off, rfl, Nat.lt_of_lt_of_le hl hb.size, fun i hi => ?_⟩
  obtain ⟨c0, c1, c2, c3⟩ := hc i hi
  exact ⟨(hb.cell (p := ⟨b, _, none⟩) hl).trans c0, (hb.cell (p := ⟨b, _, none⟩) hl).trans c1, (hb.cell (p := ⟨b, _, none⟩) hl).trans c2, (hb.cell (p := ⟨b, _, none⟩) hl).trans c3⟩
theorem QAt.of_cells {w : World} {b off cap : Nat} {l : List V4} (hb : l ≠ [] → b < w.heap.size) (h : ∀ i u, (qcells l)[i]? = some u → w.cell? ⟨b, off + i, none⟩ = some u) : QAt w (.slice (some ⟨b, off, none⟩) l.length cap) l := by
  refine ⟨_, _, rfl, ?_⟩
  by_cases h0 : l = []
  · exact .inl h0
  · refine .inr ⟨b, off, rfl, hb h0, fun i hi => ⟨?_, ?_, ?_, ?_⟩⟩
    · have := qcells_at l i hi 0 (by omega)
      exact h _ _ this
    · have := qcells_at l i hi 1 (by omega)
      rw [Nat.add_assoc]
      exact h _ _ this
    · have := qcells_at l i hi 2 (by omega)
      rw [Nat.add_assoc]
      exact h _ _ this
    · have := qcells_at l i hi 3 (by omega)
      rw [Nat.add_assoc]
      exact h _ _ this
theorem QAt.own {w : World} {base : Nat} {e : TypeId} {v : Value} {n : Nat} {l : List V4} (h : w.ownsRow base e 4 v n (qcells l)) (hn : n = l.length) : QAt w v l := by
  subst hn
  rcases h.2 with ⟨rfl, h0⟩ | ⟨g, cap, cur, rfl, _, hg, _, _, _, ht⟩
  · obtain rfl := List.length_eq_zero_iff.1 h0
    exact QAt.nil w
  · refine QAt.of_cells (fun _ => lt_of_block hg) fun i u hu => ?_
    rw [Nat.zero_add, cell_in hg i, ← Array.getElem?_toList]
    have hi := (List.getElem?_eq_some_iff.1 hu).1
    rw [qcells_len] at hi
    rw [← ht, List.getElem?_take, if_pos (by omega)] at hu
    exact hu
theorem QAt.shape {w : World} {v : Value} {l : List V4} (h : QAt w v l) : ∃ ao cap, v = .slice ao l.length cap := by
  obtain ⟨ao, cap, rfl, _⟩ := h
  exact ⟨ao, cap, rfl⟩
/-- One of the rows. -/
theorem QAt.row {w : World} {v : Value} {l : List V4} (h : QAt w v l) {i : Nat} (hi : i < l.length) : ∃ b off cap, v = .slice (some ⟨b, off, none⟩) l.length cap ∧ b < w.heap.size ∧
    w.cell? ⟨b, off + i * 4, none⟩ = some (l[i]).1 ∧ w.cell? ⟨b, off + i * 4 + 1, none⟩ = some (l[i]).2.1 ∧ w.cell? ⟨b, off + i * 4 + 2, none⟩ = some (l[i]).2.2.1 ∧ w.cell? ⟨b, off + i * 4 + 3, none⟩ = some (l[i]).2.2.2 := by
  obtain ⟨ao, cap, rfl, h⟩ := h
  rcases h with rfl | ⟨b, off, rfl, hb, hc⟩
  · simp at hi
  · exact ⟨b, off, cap, rfl, hb, hc i hi⟩
/-! ### Conditions -/
abbrev cdQ (c : Cd) : V4 := (.int .i64 c.arg, .int .i64 c.cmp, .int .u64 (c.mask : Nat), .int .u64 (c.value : Nat))
def CAt (w : World) (v : Value) (cs : List Cd) : Prop := QAt w v (cs.map cdQ)
theorem CAt.nil (w : World) : CAt w (.slice none 0 0) [] := QAt.nil w
theorem CAt.below {w w' : World} {v : Value} {cs : List Cd} (h : CAt w v cs) (hb : Below w.heap.size w w') : CAt w' v cs := QAt.below h hb
theorem CAt.shape {w : World} {v : Value} {cs : List Cd} (h : CAt w v cs) : ∃ ao cap, v = .slice ao cs.length cap := by
  obtain ⟨ao, cap, e⟩ := QAt.shape h
  exact ⟨ao, cap, by rw [e, List.length_map]⟩
theorem CAt.row {w : World} {v : Value} {cs : List Cd} (h : CAt w v cs) {i : Nat} (hi : i < cs.length) : ∃ b off cap, v = .slice (some ⟨b, off, none⟩) cs.length cap ∧ b < w.heap.size ∧
    w.cell? ⟨b, off + i * 4, none⟩ = some (.int .i64 (cs[i]).arg) ∧ w.cell? ⟨b, off + i * 4 + 1, none⟩ = some (.int .i64 (cs[i]).cmp) ∧ w.cell? ⟨b, off + i * 4 + 2, none⟩ = some (.int .u64 ((cs[i]).mask : Nat)) ∧ w.cell? ⟨b, off + i * 4 + 3, none⟩ = some (.int .u64 ((cs[i]).value : Nat)) := by
  obtain ⟨b, off, cap, e, hb, c0, c1, c2, c3⟩ := QAt.row h (i := i) (by rw [List.length_map]; exact hi)
  rw [List.getElem_map] at c0 c1 c2 c3
  exact ⟨b, off, cap, by rw [e, List.length_map], hb, c0, c1, c2, c3⟩
/-! ### Rules -/
abbrev rlQ (p : Rl × Value) : V4 := (.int .u32 (p.1.arch : Nat), .int .u32 (p.1.nr : Nat), p.2, .int .u32 (p.1.act : Nat))
/-- A rule's value, its conditions lying elsewhere. -/
abbrev Rl.val (x : Rl) (cv : Value) : Value := .agg #[.int .u32 (x.arch : Nat), .int .u32 (x.nr : Nat), cv, .int .u32 (x.act : Nat)]
abbrev rlB (x : Rl) (cv : Value) : Obj := .cells #[.int .u32 (x.arch : Nat), .int .u32 (x.nr : Nat), cv, .int .u32 (x.act : Nat)] 37
def LAt (w : World) (v : Value) (rs : List Rl) : Prop := ∃ l : List (Rl × Value), rs = l.map (·.1) ∧ QAt w v (l.map rlQ) ∧ ∀ p ∈ l, CAt w p.2 p.1.conds
theorem LAt.nil (w : World) : LAt w (.slice none 0 0) [] := ⟨[], rfl, QAt.nil w, by simp⟩
theorem LAt.below {w w' : World} {v : Value} {rs : List Rl} (h : LAt w v rs) (hb : Below w.heap.size w w') : LAt w' v rs := by
  obtain ⟨l, e, h1, h2⟩ := h
  exact ⟨l, e, h1.below hb, fun p hp => (h2 p hp).below hb⟩
theorem LAt.shape {w : World} {v : Value} {rs : List Rl} (h : LAt w v rs) : ∃ ao cap, v = .slice ao rs.length cap := by
  obtain ⟨l, e, h1, _⟩ := h
  obtain ⟨ao, cap, e2⟩ := h1.shape
  exact ⟨ao, cap, by rw [e2, e, List.length_map, List.length_map]⟩
theorem LAt.row {w : World} {v : Value} {rs : List Rl} (h : LAt w v rs) {i : Nat} (hi : i < rs.length) : ∃ b off cap cv, v = .slice (some ⟨b, off, none⟩) rs.length cap ∧ b < w.heap.size ∧ CAt w cv (rs[i]).conds ∧
    w.cell? ⟨b, off + i * 4, none⟩ = some (.int .u32 ((rs[i]).arch : Nat)) ∧ w.cell? ⟨b, off + i * 4 + 1, none⟩ = some (.int .u32 ((rs[i]).nr : Nat)) ∧ w.cell? ⟨b, off + i * 4 + 2, none⟩ = some cv ∧ w.cell? ⟨b, off + i * 4 + 3, none⟩ = some (.int .u32 ((rs[i]).act : Nat)) := by
  obtain ⟨l, rfl, h1, h2⟩ := h
  rw [List.length_map] at hi
  obtain ⟨b, off, cap, e, hb, c0, c1, c2, c3⟩ := h1.row (i := i) (by rw [List.length_map]; exact hi)
  rw [List.getElem_map] at c0 c1 c2 c3
  refine ⟨b, off, cap, (l[i]).2, by rw [e, List.length_map, List.length_map], hb, ?_, ?_⟩
  · rw [List.getElem_map]
    exact h2 _ (List.getElem_mem hi)
  · rw [List.getElem_map]
    exact ⟨c0, c1, c2, c3⟩
/-! ### Policies -/
abbrev poV (rv : Value) (d : Nat) : Value := .agg #[rv, .int .u32 (d : Nat)]
abbrev poB (rv : Value) (d : Nat) : Obj := .cells #[rv, .int .u32 (d : Nat)] 25
theorem pbox {w : World} {g : Nat} {rv : Value} {d : Nat} (h : w.heap[g]? = some (poB rv d)) : w.cell? ⟨g, 0, none⟩ = some rv ∧ w.cell? ⟨g, 1, none⟩ = some (.int .u32 (d : Nat)) := ⟨cell_in h 0, cell_in h 1⟩
theorem rbox {w : World} {g : Nat} {x : Rl} {cv : Value} (h : w.heap[g]? = some (rlB x cv)) : w.cell? ⟨g, 0, none⟩ = some (.int .u32 (x.arch : Nat)) ∧ w.cell? ⟨g, 1, none⟩ = some (.int .u32 (x.nr : Nat)) ∧ w.cell? ⟨g, 2, none⟩ = some cv ∧ w.cell? ⟨g, 3, none⟩ = some (.int .u32 (x.act : Nat)) := ⟨cell_in h 0, cell_in h 1, cell_in h 2, cell_in h 3⟩
/-! ### A policy that came in -/
theorem cellsCond : Tryd.prog.cellsOf 62 = 4 := by kernel_rfl
theorem cellsRule : Tryd.prog.cellsOf 37 = 4 := by kernel_rfl
theorem cellsPolicy : Tryd.prog.cellsOf 25 = 2 := by kernel_rfl
section
variable {H : Type} {enc : TypeId × Value → H} {W : World}
theorem trod_i64 {n : Nat} {c : Value} {y : DataW H × List MemPlace} (h : DataW.trod enc Tryd.prog W 0 (fun _ => true) true n 3 [c] = some y) : ∃ k : Int, c = .int .i64 k := by
  obtain ⟨z, e, _, _⟩ := DataW.trod_int Tryd.underlying3 h
  simp only [List.cons.injEq, and_true] at e
  exact ⟨z, e⟩
theorem trod_u64 {n : Nat} {c : Value} {y : DataW H × List MemPlace} (h : DataW.trod enc Tryd.prog W 0 (fun _ => true) true n 60 [c] = some y) : ∃ k : Nat, c = .int .u64 (k : Nat) ∧ k < 18446744073709551616 := by
  obtain ⟨z, e, _, g⟩ := DataW.trod_int Tryd.underlying60 h
  simp only [List.cons.injEq, and_true] at e
  have b := bounds_u64 g
  exact ⟨z.toNat, by rw [e, show ((z.toNat : Nat) : Int) = z by omega], by omega⟩
theorem trod_u32 {n : Nat} {c : Value} {y : DataW H × List MemPlace} (h : DataW.trod enc Tryd.prog W 0 (fun _ => true) true n 23 [c] = some y) : ∃ k : Nat, c = .int .u32 (k : Nat) ∧ k < 4294967296 := by
  obtain ⟨z, e, _, g⟩ := DataW.trod_int Tryd.underlying23 h
  simp only [List.cons.injEq, and_true] at e
  have b := bounds_u32 g
  exact ⟨z.toNat, by rw [e, show ((z.toNat : Nat) : Int) = z by omega], by omega⟩
theorem open_conds {n : Nat} {v : Value} {y : DataW H × List MemPlace} (h : DataW.trod enc Tryd.prog W 0 (fun _ => true) true n 35 [v] = some y) : ∃ cs : List Cd, CAt W v cs ∧ (∀ c ∈ cs, c.ok) ∧ cs.length ≤ 9223372036854775807 := by
  obtain ⟨d, p⟩ := y
  rcases open_slice Tryd.underlying35 h with ⟨hcs, _⟩ | ⟨a, len', cap', m, n, D, Pl, hcs, _, hl, hm, hmm, _, hi⟩
  · obtain rfl := (List.cons.inj hcs).1
    exact ⟨[], CAt.nil W, by simp, by simp⟩
  · obtain rfl := (List.cons.inj hcs).1
    simp only [if_true] at hmm
    unfold maxLen at hm
    rw [cellsCond] at hi
    have hall : ∀ i, i < len' → ∃ c : Cd, c.ok ∧ W.cell? (a.add (i * 4)) = some (.int .i64 c.arg) ∧ W.cell? ((a.add (i * 4)).add 1) = some (.int .i64 c.cmp) ∧ W.cell? ((a.add (i * 4)).add 2) = some (.int .u64 (c.mask : Nat)) ∧ W.cell? ((a.add (i * 4)).add 3) = some (.int .u64 (c.value : Nat)) := by
      intro i hil
      obtain ⟨cs', hc, ht'⟩ := hi i (by omega)
      obtain ⟨ys, n', _, _, hlen, hyl, hff⟩ := DataW.trod_struct Tryd.underlying62 ht'
      obtain ⟨_, hcl, hat⟩ := World.cells?_some hc
      rw [cellsCond] at hlen
      match cs', hlen with
      | [c0, c1, c2, c3], _ =>
        have hy4 : ys.length = 4 := hyl
        match ys, hy4 with
        | [y0, y1, y2, y3], _ =>
          have h0 : DataW.trod enc Tryd.prog W 0 (fun _ => true) true n' 3 [c0] = some y0 := hff 0 _ rfl
          have h1 : DataW.trod enc Tryd.prog W 0 (fun _ => true) true n' 3 [c1] = some y1 := hff 1 _ rfl
          have h2 : DataW.trod enc Tryd.prog W 0 (fun _ => true) true n' 60 [c2] = some y2 := hff 2 _ rfl
          have h3 : DataW.trod enc Tryd.prog W 0 (fun _ => true) true n' 60 [c3] = some y3 := hff 3 _ rfl
          obtain ⟨k0, rfl⟩ := trod_i64 h0
          obtain ⟨k1, rfl⟩ := trod_i64 h1
          obtain ⟨k2, rfl, b2⟩ := trod_u64 h2
          obtain ⟨k3, rfl, b3⟩ := trod_u64 h3
          have g0 := hat 0 (by omega)
          have g1 := hat 1 (by omega)
          have g2 := hat 2 (by omega)
          have g3 := hat 3 (by omega)
          refine ⟨⟨k0, k1, k2, k3⟩, ⟨b2, b3⟩, ?_, g1, g2, g3⟩
          simpa [Addr.add] using g0
    obtain ⟨l, hll, hq⟩ := pick_list len' hall
    subst hll
    refine ⟨l, ⟨some a, cap', by rw [List.length_map], ?_⟩, ?_, by omega⟩
    · by_cases h0 : l = []
      · exact .inl (by rw [h0]; rfl)
      · have hpos : 0 < l.length := List.length_pos_iff.2 h0
        obtain ⟨ab, ao, spot⟩ := a
        obtain ⟨_, q0, _⟩ := hq 0 hpos
        have hspot : spot = none := by simpa [Addr.add] using World.cell?_spot q0
        subst hspot
        refine .inr ⟨ab, ao, rfl, ?_, fun i hi' => ?_⟩
        · apply Nat.lt_of_not_le
          intro hle
          have e : W.heap[ab]? = none := by simp; exact hle
          rw [Addr.add_lit] at q0
          simp [World.cell?, e] at q0
        · rw [List.length_map] at hi'
          obtain ⟨_, q0, q1, q2, q3⟩ := hq i hi'
          rw [Addr.add_lit] at q0 q1 q2 q3
          rw [Addr.add_lit] at q1 q2 q3
          rw [List.getElem_map]
          exact ⟨q0, q1, q2, q3⟩
    · intro x hx
      obtain ⟨i, hi', rfl⟩ := List.getElem_of_mem hx
      exact (hq i hi').1
theorem open_rules {n : Nat} {v : Value} {y : DataW H × List MemPlace} (h : DataW.trod enc Tryd.prog W 0 (fun _ => true) true n 22 [v] = some y) : ∃ rs : List Rl, LAt W v rs ∧ (∀ x ∈ rs, x.ok ∧ x.conds.length ≤ 9223372036854775807) ∧ rs.length ≤ 9223372036854775807 := by
  obtain ⟨d, p⟩ := y
  rcases open_slice Tryd.underlying22 h with ⟨hcs, _⟩ | ⟨a, len', cap', m, n, D, Pl, hcs, _, hl, hm, hmm, _, hi⟩
  · obtain rfl := (List.cons.inj hcs).1
    exact ⟨[], LAt.nil W, by simp, by simp⟩
  · obtain rfl := (List.cons.inj hcs).1
    simp only [if_true] at hmm
    unfold maxLen at hm
    rw [cellsRule] at hi
    have hall : ∀ i, i < len' → ∃ q : Rl × Value, (q.1.ok ∧ q.1.conds.length ≤ 9223372036854775807 ∧ CAt W q.2 q.1.conds) ∧ W.cell? (a.add (i * 4)) = some (.int .u32 (q.1.arch : Nat)) ∧ W.cell? ((a.add (i * 4)).add 1) = some (.int .u32 (q.1.nr : Nat)) ∧ W.cell? ((a.add (i * 4)).add 2) = some q.2 ∧ W.cell? ((a.add (i * 4)).add 3) = some (.int .u32 (q.1.act : Nat)) := by
      intro i hil
      obtain ⟨cs', hc, ht'⟩ := hi i (by omega)
      obtain ⟨ys, n', _, _, hlen, hyl, hff⟩ := DataW.trod_struct Tryd.underlying37 ht'
      obtain ⟨_, hcl, hat⟩ := World.cells?_some hc
      rw [cellsRule] at hlen
      match cs', hlen with
      | [c0, c1, c2, c3], _ =>
        have hy4 : ys.length = 4 := hyl
        match ys, hy4 with
        | [y0, y1, y2, y3], _ =>
          have h0 : DataW.trod enc Tryd.prog W 0 (fun _ => true) true n' 23 [c0] = some y0 := hff 0 _ rfl
          have h1 : DataW.trod enc Tryd.prog W 0 (fun _ => true) true n' 23 [c1] = some y1 := hff 1 _ rfl
          have h2 : DataW.trod enc Tryd.prog W 0 (fun _ => true) true n' 35 [c2] = some y2 := hff 2 _ rfl
          have h3 : DataW.trod enc Tryd.prog W 0 (fun _ => true) true n' 23 [c3] = some y3 := hff 3 _ rfl
          obtain ⟨k0, rfl, b0⟩ := trod_u32 h0
          obtain ⟨k1, rfl, b1⟩ := trod_u32 h1
          obtain ⟨cs, hcs, hok, hln⟩ := open_conds h2
          obtain ⟨k3, rfl, b3⟩ := trod_u32 h3
          have g0 := hat 0 (by omega)
          have g1 := hat 1 (by omega)
          have g2 := hat 2 (by omega)
          have g3 := hat 3 (by omega)
          refine ⟨(⟨k0, k1, k3, cs⟩, c2), ⟨⟨b0, b1, b3, hok⟩, hln, hcs⟩, ?_, g1, g2, g3⟩
          simpa [Addr.add] using g0
    obtain ⟨l, hll, hq⟩ := pick_list len' hall
    subst hll
    refine ⟨l.map (·.1), ⟨l, rfl, ⟨some a, cap', by rw [List.length_map], ?_⟩, ?_⟩, ?_, by rw [List.length_map]; omega⟩
    · by_cases h0 : l = []
      · exact .inl (by rw [h0]; rfl)
      · have hpos : 0 < l.length := List.length_pos_iff.2 h0
        obtain ⟨ab, ao, spot⟩ := a
        obtain ⟨_, q0, _⟩ := hq 0 hpos
        have hspot : spot = none := by simpa [Addr.add] using World.cell?_spot q0
        subst hspot
        refine .inr ⟨ab, ao, rfl, ?_, fun i hi' => ?_⟩
        · apply Nat.lt_of_not_le
          intro hle
          have e : W.heap[ab]? = none := by simp; exact hle
          rw [Addr.add_lit] at q0
          simp [World.cell?, e] at q0
        · rw [List.length_map] at hi'
          obtain ⟨_, q0, q1, q2, q3⟩ := hq i hi'
          rw [Addr.add_lit] at q0 q1 q2 q3
          rw [Addr.add_lit] at q1 q2 q3
          rw [List.getElem_map]
          exact ⟨q0, q1, q2, q3⟩
    · intro p hp
      obtain ⟨i, hi', rfl⟩ := List.getElem_of_mem hp
      exact (hq i hi').1.2.2
    · intro x hx
      obtain ⟨p, hp, rfl⟩ := List.mem_map.1 hx
      obtain ⟨i, hi', rfl⟩ := List.getElem_of_mem hp
      exact ⟨(hq i hi').1.1, (hq i hi').1.2.1⟩
theorem open_policy {base : Nat} {v : Value} {d : DataW H} {p : List MemPlace} (hval : Value.okWide Tryd.prog W .any base 25 v) (h : DataW.Trod enc Tryd.prog W 0 (fun _ => true) true 25 v d p) : ∃ (q : Po) (rv : Value), v = poV rv q.dflt ∧ LAt W rv q.rules ∧ q.ok ∧ q.rules.length ≤ 9223372036854775807 ∧ ∀ x ∈ q.rules, x.conds.length ≤ 9223372036854775807 := by
  obtain ⟨cs, rfl, hsz⟩ := okWide_struct Tryd.underlying25 hval
  rw [cellsPolicy] at hsz
  obtain ⟨c0, c1, hc⟩ : ∃ c0 c1, cs = #[c0, c1] := by
    obtain ⟨l⟩ := cs
    match l, hsz with
    | [c0, c1], _ => exact ⟨c0, c1, rfl⟩
  subst hc
  obtain ⟨fuel, hf⟩ := h
  obtain ⟨ys, n, _, _, _, hyl, hff⟩ := DataW.trod_struct Tryd.underlying25 hf
  have hy2 : ys.length = 2 := hyl
  match ys, hy2 with
  | [y0, y1], _ =>
    have h0 : DataW.trod enc Tryd.prog W 0 (fun _ => true) true n 22 [c0] = some y0 := hff 0 _ rfl
    have h1 : DataW.trod enc Tryd.prog W 0 (fun _ => true) true n 23 [c1] = some y1 := hff 1 _ rfl
    obtain ⟨rs, hL, hok, hln⟩ := open_rules h0
    obtain ⟨k1, rfl, b1⟩ := trod_u32 h1
    exact ⟨⟨rs, k1⟩, c0, rfl, hL, ⟨b1, fun x hx => (hok x hx).1⟩, hln, fun x hx => (hok x hx).2⟩
end
end Go.Proofs.YtdjjmcblhpjchaaDoor
/-
  The document's Right of a policy (package hurdleref10).
-/
namespace Go.Proofs.YtdjjmcblhpjchaaDoor
open Go.ChangeShapes Go.WideShapes Go.ChangeAt Go.RowKit
set_option maxRecDepth 20000

theorem LAt.rows {w : World} {v : Value} {rs : List Rl} (h : LAt w v rs) : ∃ ao cap, v = .slice ao rs.length cap ∧ ∀ i (hi : i < rs.length), ∃ b off cv, ao = some ⟨b, off, none⟩ ∧ b < w.heap.size ∧ CAt w cv (rs[i]).conds ∧
    w.cell? ⟨b, off + i * 4, none⟩ = some (.int .u32 ((rs[i]).arch : Nat)) ∧ w.cell? ⟨b, off + i * 4 + 1, none⟩ = some (.int .u32 ((rs[i]).nr : Nat)) ∧ w.cell? ⟨b, off + i * 4 + 2, none⟩ = some cv ∧ w.cell? ⟨b, off + i * 4 + 3, none⟩ = some (.int .u32 ((rs[i]).act : Nat)) := by
  obtain ⟨ao, cap, e⟩ := h.shape
  refine ⟨ao, cap, e, fun i hi => ?_⟩
  obtain ⟨b, off, cap', cv, e', hb, hc, d⟩ := h.row hi
  rw [e] at e'
  simp only [Value.slice.injEq] at e'
  exact ⟨b, off, cv, e'.1, hb, hc, d⟩
theorem CAt.rows {w : World} {v : Value} {cs : List Cd} (h : CAt w v cs) : ∃ ao cap, v = .slice ao cs.length cap ∧ ∀ i (hi : i < cs.length), ∃ b off, ao = some ⟨b, off, none⟩ ∧ b < w.heap.size ∧
    w.cell? ⟨b, off + i * 4, none⟩ = some (.int .i64 (cs[i]).arg) ∧ w.cell? ⟨b, off + i * 4 + 1, none⟩ = some (.int .i64 (cs[i]).cmp) ∧ w.cell? ⟨b, off + i * 4 + 2, none⟩ = some (.int .u64 ((cs[i]).mask : Nat)) ∧ w.cell? ⟨b, off + i * 4 + 3, none⟩ = some (.int .u64 ((cs[i]).value : Nat)) := by
  obtain ⟨ao, cap, e⟩ := h.shape
  refine ⟨ao, cap, e, fun i hi => ?_⟩
  obtain ⟨b, off, cap', e', hb, d⟩ := h.row hi
  rw [e] at e'
  simp only [Value.slice.injEq] at e'
  exact ⟨b, off, e'.1, hb, d⟩
theorem take_all_succ {α : Type} {P : α → Bool} {l : List α} {n : Nat} (hn : n < l.length) (h : (l.take n).all P = true) (hr : P l[n] = true) : (l.take (n + 1)).all P = true := by
  rw [List.take_succ_eq_append_getElem hn, List.all_append, h]
  simp [hr]
theorem take_all_end {α : Type} {P : α → Bool} {l : List α} {n : Nat} (hn : l.length ≤ n) (h : (l.take n).all P = true) : l.all P = true := by rwa [List.take_of_length_le hn] at h
theorem not_all {α : Type} {P : α → Bool} {l : List α} {n : Nat} (hn : n < l.length) (hr : P l[n] = false) : l.all P = false := by
  rw [List.all_eq_false]
  exact ⟨_, List.getElem_mem hn, by rw [hr]; simp⟩
end Go.Proofs.YtdjjmcblhpjchaaDoor
/-
  What package names of the program answers: its tables are maps from names to numbers.
-/
namespace Go.Proofs.YtdjjmcblhpjchaaDoor
open Go.ChangeShapes Go.WideShapes Go.ChangeAt Go.RowKit
set_option maxRecDepth 20000

/-! ### A table as a map -/
/-- The elements of a map read as themselves. -/
def nmR : Value → Option (DataW Value × List MemPlace) := fun v => some (.held v, [])
theorem keyS : Go.Maps.Keyed Tryd.prog 9 := Go.Maps.string_keyed Tryd.underlying9
def nkey (s : ByteArray) : Lit := .string s.data.toList
def nval (n : Nat) : Value := .int .u32 n
theorem nkey_lit (s : ByteArray) : WideAt.IsKeyLit (nkey s) := by unfold nkey; exact True.intro
theorem nkey_inj {s t : ByteArray} (h : nkey s = nkey t) : s = t := by
  unfold nkey at h
  exact ByteArray.ext (Array.ext' (by simpa using h))
theorem keyOfS {s : ByteArray} (h : s.size ≤ maxLen) : keyOf Tryd.prog 9 (.string s) = some (nkey s) := WideMaps.keyOf_string_mk Tryd.underlying9 h
def tblPut : Tbl → DataW Value → DataW Value
  | [], D => D
  | p :: T, D => tblPut T (D.put (nkey p.1) (.held (nval p.2)))
def tblD (T : Tbl) : DataW Value := tblPut T (.map [])
theorem put_isMap {D : DataW Value} (h : Maps.IsMap D) (k : Lit) (v : DataW Value) : Maps.IsMap (D.put k v) := Maps.IsMap.put h k v
theorem has_tblPut : ∀ (T : Tbl) (D : DataW Value) (kl : Lit), Maps.IsMap D → (Maps.has (tblPut T D) kl = true ↔ (∃ p ∈ T, nkey p.1 = kl) ∨ Maps.has D kl = true)
  | [], D, kl, _ => by simp [tblPut]
  | p :: T, D, kl, hm => by
    have ih := has_tblPut T (D.put (nkey p.1) (.held (nval p.2))) kl (put_isMap hm _ _)
    show Maps.has (tblPut T _) kl = true ↔ _
    rw [ih]
    by_cases e : nkey p.1 = kl
    · subst e
      rw [Maps.has_put_same hm (nkey_lit _)]
      simp
    · rw [Maps.has_put_other (fun h => e h.symm)]
      simp [e]
theorem has_tbl (T : Tbl) (kl : Lit) : Maps.has (tblD T) kl = true ↔ ∃ p ∈ T, nkey p.1 = kl := by
  unfold tblD
  rw [has_tblPut T _ kl Maps.isMap_empty]
  constructor
  · rintro (h | h)
    · exact h
    · cases h
  · exact .inl
theorem at_miss : ∀ (T : Tbl) (D : DataW Value) (kl : Lit) (z : DataW Value), (∀ p ∈ T, nkey p.1 ≠ kl) → (tblPut T D).atKey kl z = D.atKey kl z
  | [], _, _, _, _ => rfl
  | p :: T, D, kl, z, h => by
    show (tblPut T _).atKey kl z = _
    rw [at_miss T _ kl z (fun q hq => h q (by simp [hq])), Maps.atKey_put_other (fun e => h p (by simp) e.symm)]
theorem at_hit : ∀ (T : Tbl) (D : DataW Value) (p : ByteArray × Nat) (z : DataW Value), tblGood T = true → p ∈ T → Maps.IsMap D → (tblPut T D).atKey (nkey p.1) z = .held (nval p.2)
  | q :: T, D, p, z, hT, hp, hm => by
    obtain ⟨h1, _, _, h4⟩ := tbl_cons hT
    show (tblPut T _).atKey _ z = _
    rcases List.mem_cons.1 hp with rfl | hp
    · rw [at_miss T _ _ z (fun r hr e => (h1 r hr).1 (nkey_inj e).symm), Maps.atKey_put_same hm (nkey_lit _)]
    · exact at_hit T _ p z h4 hp (put_isMap hm _ _)
theorem at_tbl {T : Tbl} (hT : tblGood T = true) {p : ByteArray × Nat} (hp : p ∈ T) (z : DataW Value) : (tblD T).atKey (nkey p.1) z = .held (nval p.2) := at_hit T _ p z hT hp Maps.isMap_empty
/-- A table, as it lies in a world. -/
def MAt (w : World) (v : Value) (T : Tbl) : Prop := (T = [] ∧ v = .map none) ∨ ∃ b, v = .map (some b) ∧ w.ownsMap Tryd.prog 9 nmR b T.length (tblD T)
theorem nmap_below {w w' : World} {b n : Nat} {D : DataW Value} (h : w.ownsMap Tryd.prog 9 nmR b n D) (hb : Below w.heap.size w w') : w'.ownsMap Tryd.prog 9 nmR b n D := by
  obtain ⟨es, clock, hh, r⟩ := h
  exact ⟨es, clock, (hb.block b (lt_of_block hh)).trans hh, r⟩
theorem MAt.below {w w' : World} {v : Value} {T : Tbl} (h : MAt w v T) (hb : Below w.heap.size w w') : MAt w' v T := h.imp id fun ⟨b, e, h⟩ => ⟨b, e, nmap_below h hb⟩
theorem zeroU (w : World) : (zeroValue 23).run Tryd.prog w = .ok (.int .u32 0) w := by kernel_rfl
/-- What is looked up. -/
theorem look_hit {w : World} {v : Value} {T : Tbl} (hT : tblGood T = true) (h : MAt w v T) {p : ByteArray × Nat} (hp : p ∈ T) (hs : p.1.size ≤ maxLen) :
    (Instr.lookup 77 v (.string p.1) true).run Tryd.prog w = .ok (.tuple #[.int .u32 (p.2 : Nat), .bool true]) w := by
  rcases h with ⟨rfl, _⟩ | ⟨b, rfl, h⟩
  · cases hp
  · obtain ⟨v, ps, hr, hv⟩ := h.look_ok keyS Tryd.underlying77 (zeroU w) (zd := .held (.int .u32 0)) (zp := []) rfl (keyOfS hs)
    rw [at_tbl hT hp] at hv
    rw [(has_tbl T _).2 ⟨p, hp, rfl⟩] at hr
    unfold nmR at hv
    simp only [Option.some.injEq, Prod.mk.injEq, DataW.held.injEq] at hv
    rw [hr, hv.1]
    rfl
theorem look_miss {w : World} {v : Value} {T : Tbl} (h : MAt w v T) {s : ByteArray} (hn : ∀ p ∈ T, p.1 ≠ s) (hs : s.size ≤ maxLen) :
    (Instr.lookup 77 v (.string s) true).run Tryd.prog w = .ok (.tuple #[.int .u32 0, .bool false]) w := by
  rcases h with ⟨rfl, rfl⟩ | ⟨b, rfl, h⟩
  · exact Maps.look_nil true keyS Tryd.underlying77 (zeroU w) (keyOfS hs)
  · obtain ⟨v, ps, hr, hv⟩ := h.look_ok keyS Tryd.underlying77 (zeroU w) (zd := .held (.int .u32 0)) (zp := []) rfl (keyOfS hs)
    have hno : ∀ p ∈ T, nkey p.1 ≠ nkey s := fun p hp e => hn p hp (nkey_inj e)
    have hh : Maps.has (tblD T) (nkey s) = false := by
      cases e : Maps.has (tblD T) (nkey s)
      · rfl
      · obtain ⟨p, hp, e2⟩ := (has_tbl T _).1 e
        exact absurd e2 (hno p hp)
    unfold tblD at hv
    rw [at_miss T _ _ _ hno] at hv
    rw [hh] at hr
    unfold nmR at hv
    have hv' : v = .int .u32 0 := by
      have : (some (DataW.held v, ([] : List MemPlace))) = some (DataW.held (.int .u32 0), ps) := hv
      simp only [Option.some.injEq, Prod.mk.injEq, DataW.held.injEq] at this
      exact this.1
    rw [hr, hv']
/-- The map while it is filled. -/
def NK (w0 : World) (b n : Nat) (D : DataW Value) (w : World) : Prop := w.ownsMap Tryd.prog 9 nmR b n D ∧ Below w0.heap.size w0 w ∧ w0.heap.size ≤ b
theorem nk_new (w : World) : NK w w.heap.size 0 (.map []) (w.alloc (.map #[] 0)) :=
  ⟨World.ownsMap_made w Tryd.prog 9 nmR, ba _ (Below.refl _ _), Nat.le_refl _⟩
theorem wpList_nins (w : World) {ops : Array Oper} {rest : List Oper} {o : Oper} {a : Act} {Q : Exit → Act → World → Prop}
    (hg : o.guard = none) (m x v : Operand) (hop : o.op = Op.insert 77 m x v) {w0 : World} {b n : Nat} {D : DataW Value}
    (hm : a.eval m = .map (some b)) (h : NK w0 b n D w) (hn : n < 100) (k : ByteArray) (hk : k.size ≤ 100) (hx : a.eval x = .string k) (y : Int) (hv : a.eval v = .int .u32 y) (z : Nat) (hz : y = z)
    (hK : ∀ w', NK w0 b (n + 1) (D.put (nkey k) (.held (nval z))) w' → wpList Tryd.prog ops Q rest (a.put o.dst undef) w') : wpList Tryd.prog ops Q (o :: rest) a w := by
  subst hz
  obtain ⟨h1, h2, h3⟩ := h
  refine wpList_insert_own w hg m x v _ hop _ _ keyS Tryd.underlying77 nmR b n D hm h1 (by unfold maxLen; omega) _ _ _ hx hv (keyOfS (by unfold maxLen; omega)) _ [] rfl ?_
  intro w' h1' hg'
  exact hK w' ⟨h1', h2.grown hg' h2.size (fun k hk => by cases hk; exact h3), h3⟩
/-- What a table's making ends with. -/
def MkEnd (T : Tbl) (w : World) (e : Ending) (w' : World) : Prop := ∃ v, e = .returned v ∧ MAt w' v T ∧ Below w.heap.size w w'
theorem mkEnd {T : Tbl} {w w' : World} {n : Nat} (h : NK w w.heap.size n (tblD T) w') (hn : n = T.length) : MkEnd T w (.returned (.map (some w.heap.size))) w' := by
  subst hn
  exact ⟨_, rfl, .inr ⟨_, rfl, h.1⟩, h.2.1⟩
theorem mkNil (w : World) : MkEnd [] w (.returned (.map none)) w := ⟨_, rfl, .inl ⟨rfl, rfl⟩, Below.refl _ _⟩

/-! ### The three tables -/
theorem machines_any (w : World) : Calls Tryd.prog 38 #[] w (MkEnd machT w) := by
  have hend : ∀ w', NK w w.heap.size 4 (tblD machT) w' → MkEnd machT w (.returned (.map (some w.heap.size))) w' := fun w' h => mkEnd h rfl
  have hmm := @run_makeMap Tryd.prog
  have M0 := nk_new w
  go_enter Tryd.func38, Tryd.ntmps38
  go_wp2_with (first | (refine wpList_nins _ rfl _ _ _ rfl rfl (by assumption) (by omega) _ (by decide) rfl _ rfl _ rfl ?_; intro w' h') | go_in)
  go_ret
  exact hend _ (by assumption)
def actTab : Tbl := [(bkillA, 0), (btrap, 196608), (blog, 2147221504), (ballow, 2147418112)]
theorem actTab_good : tblGood actTab = true := by decide
theorem actions_any (w : World) : Calls Tryd.prog 35 #[] w (MkEnd actTab w) := by
  have hend : ∀ w', NK w w.heap.size 4 (tblD actTab) w' → MkEnd actTab w (.returned (.map (some w.heap.size))) w' := fun w' h => mkEnd h rfl
  have hmm := @run_makeMap Tryd.prog
  have M0 := nk_new w
  go_enter Tryd.func35, Tryd.ntmps35
  go_wp2_with (first | (refine wpList_nins _ rfl _ _ _ rfl rfl (by assumption) (by omega) _ (by decide) rfl _ rfl _ rfl ?_; intro w' h') | go_in)
  go_ret
  exact hend _ (by assumption)
theorem eqN {m k : Nat} (h : m = k) : ((m : Int) == (k : Int)) = true := by simp [h]
theorem neN {m k : Nat} (h : m ≠ k) : ((m : Int) == (k : Int)) = false := by simp; omega
theorem calls_any (m : Nat) (w : World) : Calls Tryd.prog 39 #[.int .u32 m] w (MkEnd (callT m) w) := by
  have hmm := @run_makeMap Tryd.prog
  have M0 := nk_new w
  by_cases h1 : m = 3221225534
  · have d1 : ((m : Int) == 3221225534) = true := eqN h1
    have hend : ∀ w', NK w w.heap.size 8 (tblD callX64) w' → MkEnd (callT m) w (.returned (.map (some w.heap.size))) w' := fun w' h => by subst h1; exact mkEnd h rfl
    clear h1
    go_enter Tryd.func39, Tryd.ntmps39
    go_wp2_with (first | (refine wpList_nins _ rfl _ _ _ rfl rfl (by assumption) (by omega) _ (by decide) rfl _ rfl _ rfl ?_; intro w' h') | go_in)
    go_ret
    exact hend _ (by assumption)
  by_cases h2 : m = 1073741827
  · have d1 : ((m : Int) == 3221225534) = false := neN h1
    have d2 : ((m : Int) == 1073741827) = true := eqN h2
    have hend : ∀ w', NK w w.heap.size 8 (tblD callX86) w' → MkEnd (callT m) w (.returned (.map (some w.heap.size))) w' := fun w' h => by subst h2; exact mkEnd h rfl
    clear h1 h2
    go_enter Tryd.func39, Tryd.ntmps39
    go_wp2_with (first | (refine wpList_nins _ rfl _ _ _ rfl rfl (by assumption) (by omega) _ (by decide) rfl _ rfl _ rfl ?_; intro w' h') | go_in)
    go_ret
    exact hend _ (by assumption)
  by_cases h3 : m = 3221225655
  · have d1 : ((m : Int) == 3221225534) = false := neN h1
    have d2 : ((m : Int) == 1073741827) = false := neN h2
    have d3 : ((m : Int) == 3221225655) = true := eqN h3
    have hend : ∀ w', NK w w.heap.size 6 (tblD callA64) w' → MkEnd (callT m) w (.returned (.map (some w.heap.size))) w' := fun w' h => by subst h3; exact mkEnd h rfl
    clear h1 h2 h3
    go_enter Tryd.func39, Tryd.ntmps39
    go_wp2_with (first | (refine wpList_nins _ rfl _ _ _ rfl rfl (by assumption) (by omega) _ (by decide) rfl _ rfl _ rfl ?_; intro w' h') | go_in)
    go_ret
    exact hend _ (by assumption)
  by_cases h4 : m = 1073741864
  · have d1 : ((m : Int) == 3221225534) = false := neN h1
    have d2 : ((m : Int) == 1073741827) = false := neN h2
    have d3 : ((m : Int) == 3221225655) = false := neN h3
    have d4 : ((m : Int) == 1073741864) = true := eqN h4
    have hend : ∀ w', NK w w.heap.size 7 (tblD callArm) w' → MkEnd (callT m) w (.returned (.map (some w.heap.size))) w' := fun w' h => by subst h4; exact mkEnd h rfl
    clear h1 h2 h3 h4
    go_enter Tryd.func39, Tryd.ntmps39
    go_wp2_with (first | (refine wpList_nins _ rfl _ _ _ rfl rfl (by assumption) (by omega) _ (by decide) rfl _ rfl _ rfl ?_; intro w' h') | go_in)
    go_ret
    exact hend _ (by assumption)
  · have d1 : ((m : Int) == 3221225534) = false := neN h1
    have d2 : ((m : Int) == 1073741827) = false := neN h2
    have d3 : ((m : Int) == 3221225655) = false := neN h3
    have d4 : ((m : Int) == 1073741864) = false := neN h4
    have hend : MkEnd (callT m) w (.returned (.map none)) w := by
      have e : callT m = [] := by unfold callT; rw [if_neg h1, if_neg h2, if_neg h3, if_neg h4]
      rw [e]
      exact mkNil w
    clear h1 h2 h3 h4
    go_enter Tryd.func39, Tryd.ntmps39
    go_wp2_with fail
    go_ret
    exact hend
/-! ### A number's name -/
/-- What a look for a number's name ends with. -/
def NameEnd (T : Tbl) (n : Nat) (e : Ending) : Prop :=
  (∃ p ∈ T, p.2 = n ∧ e = .returned (.tuple #[.string p.1, .bool true])) ∨ ((∀ p ∈ T, p.2 ≠ n) ∧ e = .returned (.tuple #[.string ⟨#[]⟩, .bool false]))
theorem wpList_ntbl {T : Tbl} (hT : tblGood T = true) (w : World) {ops : Array Oper} {rest : List Oper} {o : Oper} {a : Act} {Q : Exit → Act → World → Prop}
    (hg : o.guard = none) (it : Operand) (hop : o.op = Op.next it false) (b r n : Nat) (left : Lit → Bool) (cnt : Nat) (hit : a.eval it = .pointer (some ⟨r, 0, none⟩))
    (h : w.ranges Tryd.prog 9 nmR b r n (tblD T) left cnt)
    (hDone : (∀ kl, left kl = false) → wpList Tryd.prog ops Q rest (a.put o.dst (.tuple #[.bool false])) w)
    (hMore : ∀ (p : ByteArray × Nat) (w' : World) (cnt' : Nat), p ∈ T → w'.ranges Tryd.prog 9 nmR b r n (tblD T) (fun z => left z && !z.sameKey (nkey p.1)) cnt' → cnt' < cnt → w.grownBy w' (some r) →
      (Instr.entry (.pointer (some ⟨r, 0, none⟩))).run Tryd.prog w' = .ok (.tuple #[.string p.1, .int .u32 (p.2 : Nat)]) w' → wpList Tryd.prog ops Q rest (a.put o.dst (.tuple #[.bool true, .string p.1, .int .u32 (p.2 : Nat)])) w') :
    wpList Tryd.prog ops Q (o :: rest) a w := by
  refine wpList_next_ranges w hg it hop 9 keyS nmR (fun s : ByteArray => Value.string s) (fun v : Value => v) (fun key kl hk => ?_) (fun v y _ => ⟨v, rfl⟩) b r n (tblD T) left cnt hit h (fun _ hl => hDone hl) ?_
  · obtain ⟨s, rfl, _, _⟩ := WideMaps.string_of_keyOf Tryd.underlying9 hk
    exact ⟨s, rfl⟩
  · intro x c kl y w' cnt' hk hl hR hat hrg hlt hgr _ hen
    obtain ⟨s, e, rfl, _⟩ := WideMaps.string_of_keyOf Tryd.underlying9 hk
    obtain rfl : x = s := by injection e
    have hh : Maps.has (tblD T) (nkey x) = true := Maps.has_true_of_atKey hat
    obtain ⟨p, hp, ep⟩ := (has_tbl T _).1 hh
    have ex := nkey_inj ep
    subst ex
    have hv := hat (.held .nilFunc)
    have h2 := at_tbl hT hp (.held .nilFunc)
    unfold nkey at h2
    rw [h2] at hv
    unfold nmR at hR
    simp only [Option.some.injEq] at hR
    subst hR
    simp only [DataW.held.injEq] at hv
    subst hv
    exact hMore p w' cnt' hp hrg hlt hgr hen
theorem nameOf_nil (n : Nat) (w : World) : Calls Tryd.prog 34 #[.map none, .int .u32 n] w fun e w' => e = .returned (.tuple #[.string ⟨#[]⟩, .bool false]) ∧ Below w.heap.size w w' := by
  have hrg := run_range_nilMap (P := Tryd.prog) w 77 9 23 Tryd.underlying77
  have hnx : ∀ ty, (Instr.next (.pointer (some ⟨w.heap.size, 0, none⟩)) false ty).run Tryd.prog (w.alloc (.mapIter none 0 #[] 0)) = _ := fun ty => run_next_nilMap w ty 0 0 #[]
  go_enter Tryd.func34, Tryd.ntmps34
  go_wp2
  refine wp_loop_rounds 1 ?_
  rw [rounds_succ]
  go_wp2
  go_ret2
  exact ⟨rfl, ba _ (Below.refl _ _)⟩
/-- What has not been found so far. -/
def Past (T : Tbl) (left : Lit → Bool) (n : Nat) : Prop := ∀ p ∈ T, left (nkey p.1) = false → p.2 ≠ n
theorem past_start (T : Tbl) (n : Nat) : Past T (Maps.has (tblD T)) n := fun p hp h => by
  rw [(has_tbl T _).2 ⟨p, hp, rfl⟩] at h
  cases h
theorem past_step {T : Tbl} (hT : tblGood T = true) {left : Lit → Bool} {n : Nat} (h : Past T left n) {p : ByteArray × Nat} (hp : p ∈ T) (hn : p.2 ≠ n) : Past T (fun z => left z && !z.sameKey (nkey p.1)) n := fun q hq e => by
  cases hl : left (nkey q.1)
  · exact h q hq hl
  · have e2 : (left (nkey q.1) && !(nkey q.1).sameKey (nkey p.1)) = false := e
    rw [hl] at e2
    have e3 : (nkey q.1).sameKey (nkey p.1) = true := by simpa using e2
    rw [tbl_names hT hq hp (nkey_inj (WideAt.sameKey_eq e3))]
    exact hn
theorem nameOf_some {T : Tbl} (hT : tblGood T = true) (b n : Nat) (w : World) (hown : w.ownsMap Tryd.prog 9 nmR b T.length (tblD T)) :
    Calls Tryd.prog 34 #[.map (some b), .int .u32 n] w fun e w' => NameEnd T n e ∧ Below w.heap.size w w' := by
  have HTG := Lib.hid hT
  go_enter Tryd.func34, Tryd.ntmps34
  go_wp2_with (first
    | (at_range; refine wpList_range_own _ rfl _ 77 rfl 9 23 keyS Tryd.underlying77 _ b _ _ rfl hown ?_; intro w0 hrg0 hg0 hs0)
    | go_in)
  go_frame
  have hb0 : Below w.heap.size w w0 := (Below.refl _ _).grown hg0 (Nat.le_refl _) (fun k hk => by cases hk)
  clear hg0 hs0 hT hown
  go_loopw [6, 7] (fun _ _ wr => ∃ (left : Lit → Bool) (cnt : Nat), wr.ranges Tryd.prog 9 nmR b w.heap.size T.length (tblD T) left cnt ∧ Below w.heap.size w wr ∧ Past T left n)
    (fun _ _ wr => wr.rangeLeft b w.heap.size)
  case atStart => exact ⟨_, _, hrg0, hb0, past_start T n⟩
  case round =>
    obtain ⟨left, cnt, hrg, hbw, hpa⟩ := hrel
    have HB := Lib.hid hbw
    have HP := Lib.hid hpa
    clear hrg0 hb0 hbw hpa
    go_wp2_with (first
      | (at_next; refine wpList_ntbl HTG.out _ rfl _ rfl b w.heap.size _ _ _ rfl hrg ?_ ?_)
      | go_in)
    · intro hl
      have HE : Hid (NameEnd T n (.returned (.tuple #[.string ⟨#[]⟩, .bool false]))) := Lib.hid (.inr ⟨fun p hp => HP.out p hp (hl _), rfl⟩)
      clear hl
      go_wp2
      go_ret2
      exact ⟨HE.out, HB.out⟩
    · intro pk pn w1 cnt1 hp hrg1 hlt hgr hen
      have HB1 : Hid (Below w.heap.size w w1) := Lib.hid (HB.out.grown hgr HB.out.size (fun k hk => by cases hk; exact Nat.le_refl _))
      have HM := Lib.hid (show w1.rangeLeft b w.heap.size < wr.rangeLeft b w.heap.size by rw [hrg1.left_eq, hrg.left_eq]; exact hlt)
      have HRG := Lib.hid hrg1
      clear hgr hlt hrg hrg1
      by_cases hq : pn = n
      · have hqd : ((pn : Int) == (n : Int)) = true := eqN hq
        have HE : Hid (NameEnd T n (.returned (.tuple #[.string pk, .bool true]))) := Lib.hid (.inl ⟨(pk, pn), hp, hq, rfl⟩)
        clear hq hp
        go_wp2
        go_ret2
        exact ⟨HE.out, HB1.out⟩
      · have hqd : ((pn : Int) == (n : Int)) = false := neN hq
        have HP1 := Lib.hid (past_step HTG.out HP.out hp hq)
        clear hq hp
        go_wp2
        go_roundw
        case rel => exact ⟨_, _, HRG.out, HB1.out, HP1.out⟩
        case measure => exact HM.out
theorem nameOf_any {T : Tbl} (hT : tblGood T = true) (v : Value) (n : Nat) (w : World) (hv : MAt w v T) :
    Calls Tryd.prog 34 #[v, .int .u32 n] w fun e w' => NameEnd T n e ∧ Below w.heap.size w w' := by
  rcases hv with ⟨rfl, rfl⟩ | ⟨b, rfl, h⟩
  · refine (nameOf_nil n w).mono ?_
    rintro e w' ⟨rfl, hb⟩
    exact ⟨.inr ⟨by simp, rfl⟩, hb⟩
  · exact nameOf_some hT b n w h
theorem textOf_any {T : Tbl} (hT : tblGood T = true) (v : Value) (n : Nat) (w : World) (hn : n < 4294967296) (hv : MAt w v T) (ht : Tab w) :
    Calls Tryd.prog 37 #[v, .int .u32 n] w fun e w' => e = .returned (.string (textN T n)) ∧ Below w.heap.size w w' := by
  have HV := Lib.hid hv
  have HT := Lib.hid hT
  have HTab := Lib.hid ht
  clear hv hT ht
  go_enter Tryd.func37, Tryd.ntmps37
  go_wp2_with fail
  refine (nameOf_any HT.out v n _ HV.out).mono ?_
  rintro e w1 ⟨hE, hb1⟩
  have HB1 := Lib.hid hb1
  have HE := Lib.hid hE
  clear hb1 hE
  rcases HE.out with ⟨p, hp, hq, rfl⟩ | ⟨hno, rfl⟩
  · have HR : Hid (textN T n = p.1) := Lib.hid (by rw [← hq]; exact textN_of HT.out hp)
    clear hp hq HE
    go_wp2_with fail
    go_ret
    exact ⟨by rw [HR.out]; rfl, HB1.out⟩
  · have HR : Hid (textN T n = Wd.txt n) := Lib.hid (by
      rcases textN_is T n with ⟨p, hp, hq, _⟩ | ⟨_, h⟩
      · exact absurd hq (hno p hp)
      · exact h)
    clear hno HE
    go_wp2_with fail
    refine (text_any n _ (by omega) (HTab.out.below HB1.out)).mono ?_
    rintro e w2 ⟨rfl, hb2⟩
    have HB2 := Lib.hid (below2 HB1.out hb2)
    clear hb2
    go_wp2_with fail
    go_ret
    exact ⟨by rw [HR.out]; rfl, HB2.out⟩
/-- What the reading of a name ends with. -/
def PNEnd (T : Tbl) (s : ByteArray) (e : Ending) : Prop := ∃ o : Option Nat, readN T s o ∧ e = .returned (.tuple #[.int .u32 (o.getD 0 : Nat), .int .i64 (if o.isSome then 0 else 2)])
theorem pnEnd_some {T : Tbl} {s : ByteArray} {n : Nat} (h : readN T s (some n)) : PNEnd T s (.returned (.tuple #[.int .u32 (n : Nat), .int .i64 0])) := ⟨some n, h, rfl⟩
theorem pnEnd_none {T : Tbl} {s : ByteArray} (h : readN T s none) : PNEnd T s (.returned (.tuple #[.int .u32 0, .int .i64 2])) := ⟨none, h, rfl⟩
theorem pn_letters {T : Tbl} {s : ByteArray} {e : Ending} (h : PNEnd T s e) : ∃ x c : Int, e = .returned (.tuple #[.int .u32 x, .int .i64 c]) ∧ Hid (PNEnd T s (.returned (.tuple #[.int .u32 x, .int .i64 c]))) := by
  obtain ⟨o, ho, rfl⟩ := h
  exact ⟨_, _, rfl, Lib.hid ⟨o, ho, rfl⟩⟩
set_option maxHeartbeats 2000000 in
theorem nread_any {T : Tbl} (hT : tblGood T = true) (v : Value) (s : ByteArray) (w : World) (hs : s.size ≤ 4611686018427387904) (hv : MAt w v T) :
    Calls Tryd.prog 60 #[v, .string s] w fun e w' => PNEnd T s e ∧ Below w.heap.size w w' := by
  have HV := Lib.hid hv
  have HT := Lib.hid hT
  by_cases hx : ∃ p ∈ T, p.1 = s
  · obtain ⟨p, hp, rfl⟩ := hx
    have hl := look_hit hT hv hp (by unfold maxLen; omega)
    have HR : Hid (readN T p.1 (some p.2)) := Lib.hid ⟨tbl_small hT hp, (textN_of hT hp).symm⟩
    clear hv hT hp
    go_enter Tryd.func60, Tryd.ntmps60
    go_wp2_with fail
    go_ret2
    exact ⟨pnEnd_some HR.out, Below.refl _ _⟩
  · have hno : ∀ p ∈ T, p.1 ≠ s := fun p hp e => hx ⟨p, hp, e⟩
    have hl := look_miss hv hno (by unfold maxLen; omega)
    have HNO := Lib.hid hno
    clear hv hT hx hno
    go_enter Tryd.func60, Tryd.ntmps60
    go_wp2_with fail
    refine (parse_any s _ hs).mono ?_
    rintro e w1 ⟨hE, hb1⟩
    have HB1 := Lib.hid hb1
    have HV1 := Lib.hid (HV.out.below hb1)
    clear hb1 hl
    rcases hE with ⟨n, hn, he, rfl⟩ | ⟨hn, rfl⟩
    · have HS := Lib.hid he
      clear he
      by_cases hm : n < 4294967296
      · have hmd : decide (4294967295 < (n : Int)) = false := by simp; omega
        have hm2 : ¬ 4294967295 < (n : Int) := by omega
        have hwr : IntKind.u32.wrap (n : Int) = (n : Int) := by unfold IntKind.wrap; simp [IntKind.bits, IntKind.signed]; omega
        go_wp2_with fail
        refine (nameOf_any HT.out v n _ HV1.out).mono ?_
        rintro e w2 ⟨hE, hb2⟩
        have HB2 := Lib.hid (below2 HB1.out hb2)
        clear hb2
        rcases hE with ⟨p, hp, hq, rfl⟩ | ⟨hnn, rfl⟩
        · have HR : Hid (readN T s none) := Lib.hid (readN_no HNO.out (fun k _ e e2 => by
            have : n = k := Wd.txt_inj (HS.out.symm.trans e)
            subst this
            rw [← hq, textN_of HT.out hp] at e2
            exact HNO.out p hp e2))
          clear hp hq
          go_wp2_with fail
          go_ret2
          exact ⟨pnEnd_none HR.out, HB2.out⟩
        · have HR : Hid (readN T s (some n)) := Lib.hid ⟨hm, by
            rcases textN_is T n with ⟨p, hp, hq, _⟩ | ⟨_, h⟩
            · exact absurd hq (hnn p hp)
            · rw [h]; exact HS.out⟩
          clear hnn
          go_wp2_with fail
          go_ret2
          exact ⟨pnEnd_some HR.out, HB2.out⟩
      · have hm2 : 4294967295 < (n : Int) := by omega
        have HR : Hid (readN T s none) := Lib.hid (readN_no HNO.out (fun k hk e _ => by
          have : n = k := Wd.txt_inj (HS.out.symm.trans e)
          omega))
        go_wp2_with fail
        go_ret2
        exact ⟨pnEnd_none HR.out, HB1.out⟩
    · have HR : Hid (readN T s none) := Lib.hid (readN_no HNO.out (fun k hk e _ => hn k (by omega) e))
      clear hn
      go_wp2_with fail
      go_ret2
      exact ⟨pnEnd_none HR.out, HB1.out⟩
/-! ### Machines and calls -/
theorem nmachine_any (n : Nat) (w : World) (hn : n < 4294967296) (ht : Tab w) :
    Calls Tryd.prog 24 #[.int .u32 n] w fun e w' => e = .returned (.string (textN machT n)) ∧ Below w.heap.size w w' := by
  have HTab := Lib.hid ht
  clear ht
  go_enter Tryd.func24, Tryd.ntmps24
  go_wp2_with fail
  refine (machines_any _).mono ?_
  rintro e w1 ⟨v, rfl, hm, hb1⟩
  have HM := Lib.hid hm
  have HB1 := Lib.hid hb1
  clear hm hb1
  go_wp2_with fail
  refine (textOf_any machT_good v n _ hn HM.out (HTab.out.below HB1.out)).mono ?_
  rintro e w2 ⟨rfl, hb2⟩
  have HB2 := Lib.hid (below2 HB1.out hb2)
  clear hb2
  go_wp2_with fail
  go_ret
  exact ⟨rfl, HB2.out⟩
theorem ncall_any (m n : Nat) (w : World) (_hm : m < 4294967296) (hn : n < 4294967296) (ht : Tab w) :
    Calls Tryd.prog 25 #[.int .u32 m, .int .u32 n] w fun e w' => e = .returned (.string (textN (callT m) n)) ∧ Below w.heap.size w w' := by
  have HTab := Lib.hid ht
  clear ht
  go_enter Tryd.func25, Tryd.ntmps25
  go_wp2_with fail
  refine (calls_any m _).mono ?_
  rintro e w1 ⟨v, rfl, hm, hb1⟩
  have HM := Lib.hid hm
  have HB1 := Lib.hid hb1
  clear hm hb1
  go_wp2_with fail
  refine (textOf_any (callT_good m) v n _ hn HM.out (HTab.out.below HB1.out)).mono ?_
  rintro e w2 ⟨rfl, hb2⟩
  have HB2 := Lib.hid (below2 HB1.out hb2)
  clear hb2
  go_wp2_with fail
  go_ret
  exact ⟨rfl, HB2.out⟩
theorem nreadmachine_any (s : ByteArray) (w : World) (hs : s.size ≤ 4611686018427387904) (_ht : Tab w) :
    Calls Tryd.prog 48 #[.string s] w fun e w' => PNEnd machT s e ∧ Below w.heap.size w w' := by
  go_enter Tryd.func48, Tryd.ntmps48
  go_wp2_with fail
  refine (machines_any _).mono ?_
  rintro e w1 ⟨v, rfl, hm, hb1⟩
  have HM := Lib.hid hm
  have HB1 := Lib.hid hb1
  clear hm hb1
  go_wp2_with fail
  refine (nread_any machT_good v s _ hs HM.out).mono ?_
  rintro e w2 ⟨hE, hb2⟩
  obtain ⟨x, c, rfl, HO⟩ := pn_letters hE
  have HB2 := Lib.hid (below2 HB1.out hb2)
  clear hb2 hE
  go_wp2_with fail
  go_ret2
  exact ⟨HO.out, HB2.out⟩
theorem nreadcall_any (m : Nat) (s : ByteArray) (w : World) (_hm : m < 4294967296) (hs : s.size ≤ 4611686018427387904) (_ht : Tab w) :
    Calls Tryd.prog 49 #[.int .u32 m, .string s] w fun e w' => PNEnd (callT m) s e ∧ Below w.heap.size w w' := by
  go_enter Tryd.func49, Tryd.ntmps49
  go_wp2_with fail
  refine (calls_any m _).mono ?_
  rintro e w1 ⟨v, rfl, hm, hb1⟩
  have HM := Lib.hid hm
  have HB1 := Lib.hid hb1
  clear hm hb1
  go_wp2_with fail
  refine (nread_any (callT_good m) v s _ hs HM.out).mono ?_
  rintro e w2 ⟨hE, hb2⟩
  obtain ⟨x, c, rfl, HO⟩ := pn_letters hE
  have HB2 := Lib.hid (below2 HB1.out hb2)
  clear hb2 hE
  go_wp2_with fail
  go_ret2
  exact ⟨HO.out, HB2.out⟩
/-! ### Actions -/
theorem act_named {v : Nat} {p : ByteArray × Nat} (hp : p ∈ actTab) (hv : p.2 = v) : actT v = some p.1 := by
  subst hv
  unfold actTab at hp
  simp only [List.mem_cons, List.not_mem_nil, or_false] at hp
  unfold actT
  rcases hp with rfl | rfl | rfl | rfl
  · show (if 327680 ≤ 0 ∧ 0 ≤ 331775 then _ else _) = _
    rw [if_neg (by omega), if_pos rfl]
  · show (if 327680 ≤ 196608 ∧ 196608 ≤ 331775 then _ else _) = _
    rw [if_neg (by omega), if_neg (by decide), if_pos rfl]
  · show (if 327680 ≤ 2147221504 ∧ 2147221504 ≤ 331775 then _ else _) = _
    rw [if_neg (by omega), if_neg (by decide), if_neg (by decide), if_pos rfl]
  · show (if 327680 ≤ 2147418112 ∧ 2147418112 ≤ 331775 then _ else _) = _
    rw [if_neg (by omega), if_neg (by decide), if_neg (by decide), if_neg (by decide), if_pos rfl]
theorem act_unnamed {v : Nat} (h : ∀ p ∈ actTab, p.2 ≠ v) : actT v = if 327680 ≤ v ∧ v ≤ 331775 then some (berror ++ Wd.txt (v - 327680)) else none := by
  have h0 : v ≠ 0 := fun e => h (bkillA, 0) (by unfold actTab; simp) e.symm
  have h1 : v ≠ 196608 := fun e => h (btrap, 196608) (by unfold actTab; simp) e.symm
  have h2 : v ≠ 2147221504 := fun e => h (blog, 2147221504) (by unfold actTab; simp) e.symm
  have h3 : v ≠ 2147418112 := fun e => h (ballow, 2147418112) (by unfold actTab; simp) e.symm
  unfold actT
  rw [if_neg h0, if_neg h1, if_neg h2, if_neg h3]
/-- What an action's text ends with. -/
def ActEnd (v : Nat) (e : Ending) : Prop := e = .returned (.tuple #[.string (actS v), .int .i64 (if (actT v).isSome then 0 else 1)])
theorem actEnd_some {v : Nat} {s : ByteArray} (h : actT v = some s) : ActEnd v (.returned (.tuple #[.string s, .int .i64 0])) := by
  unfold ActEnd actS
  rw [h]
  rfl
theorem actEnd_none {v : Nat} (h : actT v = none) : ActEnd v (.returned (.tuple #[.string ⟨#[]⟩, .int .i64 1])) := by
  unfold ActEnd actS
  rw [h]
  rfl
set_option maxRecDepth 100000 in
set_option maxHeartbeats 2000000 in
theorem naction_gen (v : Nat) (w : World) (hv : v < 4294967296) (ht : Tab w) (E : Ending → Prop) (hE1 : ∀ s, actT v = some s → E (.returned (.tuple #[.string s, .int .i64 0]))) (hE2 : actT v = none → E (.returned (.tuple #[.string ⟨#[]⟩, .int .i64 1]))) :
    Calls Tryd.prog 23 #[.int .u32 v] w fun e w' => E e ∧ Below w.heap.size w w' := by
  have HE1 := Lib.hid hE1
  have HE2 := Lib.hid hE2
  clear hE1 hE2
  have HTab := Lib.hid ht
  clear ht
  go_enter Tryd.func23, Tryd.ntmps23
  go_wp2_with fail
  refine (actions_any _).mono ?_
  rintro e w1 ⟨t, rfl, hm, hb1⟩
  have HM := Lib.hid hm
  have HB1 := Lib.hid hb1
  clear hm hb1
  go_wp2_with fail
  refine (nameOf_any actTab_good t v _ HM.out).mono ?_
  rintro e w2 ⟨hE, hb2⟩
  have HB2 := Lib.hid (below2 HB1.out hb2)
  clear hb2
  rcases hE with ⟨p, hp, hq, rfl⟩ | ⟨hno, rfl⟩
  · have HR := Lib.hid (HE1.out _ (act_named hp hq))
    clear hp hq
    go_wp2_with fail
    go_ret2
    exact ⟨HR.out, HB2.out⟩
  · have HA := Lib.hid (act_unnamed hno)
    clear hno
    by_cases h1 : v < 327680
    · have d1 : decide ((v : Int) < 327680) = true := by simp; omega
      have HR := Lib.hid (HE2.out (by rw [HA.out, if_neg (by omega)]))
      clear h1 HE1 HE2 HA
      generalize (v : Int) = A at d1 ⊢
      go_wp2_with fail
      go_ret2
      exact ⟨HR.out, HB2.out⟩
    by_cases h2 : 331775 < v
    · have d1 : decide ((v : Int) < 327680) = false := by simp; omega
      have d2 : decide ((331775 : Int) < (v : Int)) = true := by simp; omega
      have HR := Lib.hid (HE2.out (by rw [HA.out, if_neg (by omega)]))
      clear h1 h2 HE1 HE2 HA
      generalize (v : Int) = A at d1 d2 ⊢
      go_wp2_with fail
      go_ret2
      exact ⟨HR.out, HB2.out⟩
    · obtain ⟨m, hm⟩ : ∃ m, v = 327680 + m := ⟨v - 327680, by omega⟩
      have HR := Lib.hid (HE1.out _ (by rw [HA.out, if_pos (by omega)]))
      rw [show v - 327680 = m by omega, show berror = ⟨#[101, 114, 114, 111, 114, 58]⟩ from rfl] at HR
      have HT : Hid (Calls Tryd.prog 36 #[.int .u64 (m : Nat)] w2 fun e w' => e = .returned (.string (Wd.txt m)) ∧ Below w2.heap.size w2 w') := Lib.hid (text_any m w2 (by omega) (HTab.out.below HB2.out))
      have hz := txt_lt18 (n := m) (by omega)
      have hzE : (⟨#[101, 114, 114, 111, 114, 58]⟩ : ByteArray).size = 6 := rfl
      have l1 : ¬ (v : Int) < 327680 := by omega
      have l2 : ¬ (331775 : Int) < (v : Int) := by omega
      have l3 : IntKind.u32.wrap ((v : Int) - 327680) = (m : Int) := by unfold IntKind.wrap; simp [IntKind.bits, IntKind.signed]; omega
      have hml : m < 4096 := by omega
      clear h1 h2 HE1 HE2 HA hm
      generalize (v : Int) = A at l1 l2 l3 ⊢
      generalize Wd.txt m = TX at HT HR hz
      go_wp2_with fail
      refine HT.out.mono ?_
      rintro e w3 ⟨rfl, hb3⟩
      have HB3 := Lib.hid (below2 HB2.out hb3)
      clear hb3
      go_wp2_with fail
      go_ret2
      exact ⟨HR.out, HB3.out⟩
theorem naction_end (v : Nat) (w : World) (hv : v < 4294967296) (ht : Tab w) :
    Calls Tryd.prog 23 #[.int .u32 v] w fun e w' => ActEnd v e ∧ Below w.heap.size w w' := naction_gen v w hv ht (ActEnd v) (fun _ h => actEnd_some h) actEnd_none
theorem naction_any (v : Nat) (w : World) (hv : v < 4294967296) (ht : Tab w) :
    Calls Tryd.prog 23 #[.int .u32 v] w fun e w' => e = .returned (.tuple #[.string (actS v), .int .i64 (if (actT v).isSome then 0 else 1)]) ∧ Below w.heap.size w w' := naction_end v w hv ht
/-! ### What is read of an action's text -/
theorem hasPrefix_yes (p r : ByteArray) (w : World) (_hz : (p ++ r).size ≤ 4611686018427387904) :
    Calls Tryd.prog 82 #[.string (p ++ r), .string p] w fun e w' => e = .returned (.bool true) ∧ w' = w := by
  have hs : (p ++ r).size = p.size + r.size := ByteArray.size_append
  have h1 : decide ((p.size : Int) ≤ ((p ++ r).size : Int)) = true := by simp; omega
  have h2 : (p ++ r).extract 0 p.size = p := by
    apply ByteArray.ext
    simp
  have h3 : (((p ++ r).extract 0 p.size).toList == p.toList) = true := by rw [h2]; exact beq_self_eq_true _
  go_enter Tryd.func82, Tryd.ntmps82
  go_wp2_with fail
  go_ret
  exact ⟨rfl, rfl⟩
theorem hasPrefix_no (s p : ByteArray) (w : World) (hno : ∀ r, s ≠ p ++ r) :
    Calls Tryd.prog 82 #[.string s, .string p] w fun e w' => e = .returned (.bool false) ∧ w' = w := by
  by_cases hl : p.size ≤ s.size
  · have h1 : decide ((p.size : Int) ≤ (s.size : Int)) = true := by simp; omega
    have h3 : ((s.extract 0 p.size).toList == p.toList) = false := by
      refine beq_ne fun e => hno (s.extract p.size s.size) ?_
      have e2 : s.extract 0 p.size ++ s.extract p.size s.size = s := by
        apply ByteArray.ext
        apply Array.ext'
        simp
      rw [e] at e2
      exact e2.symm
    clear hno
    go_enter Tryd.func82, Tryd.ntmps82
    go_wp2_with fail
    go_ret
    exact ⟨rfl, rfl⟩
  · have h1 : decide ((p.size : Int) ≤ (s.size : Int)) = false := by simp; omega
    clear hno
    go_enter Tryd.func82, Tryd.ntmps82
    go_wp2_with fail
    go_ret
    exact ⟨rfl, rfl⟩
theorem cutLite_yes (p r : ByteArray) (w : World) (hz : (p ++ r).size ≤ 4611686018427387904) :
    Calls Tryd.prog 72 #[.string (p ++ r), .string p] w fun e w' => e = .returned (.tuple #[.string r, .bool true]) ∧ w' = w := by
  have HP := Lib.hid (hasPrefix_yes p r w hz)
  have hs : (p ++ r).size = p.size + r.size := ByteArray.size_append
  have h2 : (p ++ r).extract p.size (p ++ r).size = r := by
    apply ByteArray.ext
    simp [hs]
    rw [Array.extract_empty_of_size_le_start (by show p.data.size ≤ p.data.size; omega)]
    show #[] ++ r.data.extract 0 r.data.size = r.data
    simp
  have h2' : (p ++ r).extract p.size (p.size + r.size) = r := by rw [← hs]; exact h2
  have hl : p.size ≤ (p ++ r).size := by omega
  go_enter Tryd.func72, Tryd.ntmps72
  go_wp2_with fail
  refine HP.out.mono ?_
  rintro e w1 ⟨rfl, rfl⟩
  go_wp2_with fail
  go_ret2
  exact ⟨rfl, rfl⟩
theorem cutLite_no (s p : ByteArray) (w : World) (hno : ∀ r, s ≠ p ++ r) :
    Calls Tryd.prog 72 #[.string s, .string p] w fun e w' => e = .returned (.tuple #[.string s, .bool false]) ∧ w' = w := by
  have HP := Lib.hid (hasPrefix_no s p w hno)
  clear hno
  go_enter Tryd.func72, Tryd.ntmps72
  go_wp2_with fail
  refine HP.out.mono ?_
  rintro e w1 ⟨rfl, rfl⟩
  go_wp2_with fail
  go_ret2
  exact ⟨rfl, rfl⟩
theorem cutPrefix_yes (p r : ByteArray) (w : World) (hz : (p ++ r).size ≤ 4611686018427387904) :
    Calls Tryd.prog 58 #[.string (p ++ r), .string p] w fun e w' => e = .returned (.tuple #[.string r, .bool true]) ∧ w' = w := by
  have HP := Lib.hid (cutLite_yes p r w hz)
  go_enter Tryd.func58, Tryd.ntmps58
  go_wp2_with fail
  refine HP.out.mono ?_
  rintro e w1 ⟨rfl, rfl⟩
  go_wp2_with fail
  go_ret2
  exact ⟨rfl, rfl⟩
theorem cutPrefix_no (s p : ByteArray) (w : World) (hno : ∀ r, s ≠ p ++ r) :
    Calls Tryd.prog 58 #[.string s, .string p] w fun e w' => e = .returned (.tuple #[.string s, .bool false]) ∧ w' = w := by
  have HP := Lib.hid (cutLite_no s p w hno)
  clear hno
  go_enter Tryd.func58, Tryd.ntmps58
  go_wp2_with fail
  refine HP.out.mono ?_
  rintro e w1 ⟨rfl, rfl⟩
  go_wp2_with fail
  go_ret2
  exact ⟨rfl, rfl⟩
/-- What the reading of an action ends with. -/
def PAEnd (s : ByteArray) (e : Ending) : Prop := ∃ o : Option Nat, readA s o ∧ e = .returned (.tuple #[.int .u32 (o.getD 0 : Nat), .int .i64 (if o.isSome then 0 else 2)])
theorem paEnd_some {s : ByteArray} {n : Nat} (h : readA s (some n)) : PAEnd s (.returned (.tuple #[.int .u32 (n : Nat), .int .i64 0])) := ⟨some n, h, rfl⟩
theorem paEnd_none {s : ByteArray} (h : readA s none) : PAEnd s (.returned (.tuple #[.int .u32 0, .int .i64 2])) := ⟨none, h, rfl⟩
theorem act_none {s : ByteArray} (h1 : ∀ p ∈ actTab, p.1 ≠ s) (h2 : ∀ n, n < 4096 → s ≠ berror ++ Wd.txt n) : readA s none := by
  intro v _ e
  rcases actT_some e with ⟨n, hn, _, e2⟩ | ⟨_, e2⟩ | ⟨_, e2⟩ | ⟨_, e2⟩ | ⟨_, e2⟩
  · exact h2 n hn e2
  · exact h1 (bkillA, 0) (by unfold actTab; simp) e2.symm
  · exact h1 (btrap, 196608) (by unfold actTab; simp) e2.symm
  · exact h1 (blog, 2147221504) (by unfold actTab; simp) e2.symm
  · exact h1 (ballow, 2147418112) (by unfold actTab; simp) e2.symm
theorem app_inj {p a b : ByteArray} (h : p ++ a = p ++ b) : a = b := by
  have e := congrArg (fun x : ByteArray => x.data.toList) h
  simp only [ByteArray.data_append, Array.toList_append] at e
  exact ByteArray.ext (Array.ext' (List.append_cancel_left e))
theorem act_err {n : Nat} (h : n < 4096) : actT (327680 + n) = some (berror ++ Wd.txt n) := by
  have e : actT (327680 + n) = some (berror ++ Wd.txt (327680 + n - 327680)) := by
    unfold actT
    rw [if_pos ⟨by omega, by omega⟩]
  rw [e, show 327680 + n - 327680 = n by omega]
set_option maxHeartbeats 2000000 in
theorem nreadaction_any (s : ByteArray) (w : World) (hs : s.size ≤ 4611686018427387904) (_ht : Tab w) :
    Calls Tryd.prog 46 #[.string s] w fun e w' => PAEnd s e ∧ Below w.heap.size w w' := by
  have HS := Lib.hid hs
  by_cases hx : ∃ p ∈ actTab, p.1 = s
  · obtain ⟨p, hp, rfl⟩ := hx
    have HL : Hid (∀ (V : World) (v : Value), MAt V v actTab → (Instr.lookup 77 v (.string p.1) true).run Tryd.prog V = .ok (.tuple #[.int .u32 (p.2 : Nat), .bool true]) V) := Lib.hid (fun V v h => look_hit actTab_good h hp (by unfold maxLen; omega))
    have HR := Lib.hid (paEnd_some (s := p.1) ⟨tbl_small actTab_good hp, act_named hp rfl⟩)
    clear hs hp
    go_enter Tryd.func46, Tryd.ntmps46
    go_wp2_with fail
    refine (actions_any _).mono ?_
    rintro e w1 ⟨v, rfl, hm, hb1⟩
    have hl := HL.out _ _ hm
    have HB1 := Lib.hid hb1
    clear hm hb1
    go_wp2_with fail
    go_ret2
    exact ⟨HR.out, HB1.out⟩
  · have hno : ∀ p ∈ actTab, p.1 ≠ s := fun p hp e => hx ⟨p, hp, e⟩
    have HL : Hid (∀ (V : World) (v : Value), MAt V v actTab → (Instr.lookup 77 v (.string s) true).run Tryd.prog V = .ok (.tuple #[.int .u32 0, .bool false]) V) := Lib.hid (fun V v h => look_miss h hno (by unfold maxLen; omega))
    have HNO := Lib.hid hno
    clear hx hno hs
    go_enter Tryd.func46, Tryd.ntmps46
    go_wp2_with fail
    refine (actions_any _).mono ?_
    rintro e w1 ⟨v, rfl, hm, hb1⟩
    have hl := HL.out _ _ hm
    have HB1 := Lib.hid hb1
    clear hm hb1
    by_cases hpre : ∃ r, s = berror ++ r
    · obtain ⟨r, hr⟩ := hpre
      have HC : Hid (∀ V : World, Calls Tryd.prog 58 #[.string s, .string ⟨#[101, 114, 114, 111, 114, 58]⟩] V fun e w' => e = .returned (.tuple #[.string r, .bool true]) ∧ w' = V) := Lib.hid (fun V => by
        have := cutPrefix_yes berror r V (by rw [← hr]; exact HS.out)
        rw [← hr] at this
        exact this)
      have HZ : Hid (r.size ≤ 4611686018427387904) := Lib.hid (by
        have := HS.out
        rw [hr, ByteArray.size_append] at this
        omega)
      have HRS := Lib.hid hr
      clear hr
      go_wp2_with fail
      refine (HC.out _).mono ?_
      rintro e w2 ⟨rfl, rfl⟩
      clear hl
      go_wp2_with fail
      refine (parse_any r _ HZ.out).mono ?_
      rintro e w3 ⟨hE, hb3⟩
      have HB3 := Lib.hid (below2 HB1.out hb3)
      clear hb3
      rcases hE with ⟨n, hn, he, rfl⟩ | ⟨hn, rfl⟩
      · have HT := Lib.hid he
        clear he
        by_cases hm : n < 4096
        · have hm2 : ¬ 4095 < (n : Int) := by omega
          have hwr : IntKind.u32.wrap (n : Int) = (n : Int) := by unfold IntKind.wrap; simp [IntKind.bits, IntKind.signed]; omega
          have hwr2 : IntKind.u32.wrap (327680 + (n : Int)) = ((327680 + n : Nat) : Int) := by unfold IntKind.wrap; simp [IntKind.bits, IntKind.signed]; omega
          have HR := Lib.hid (paEnd_some (s := s) (n := 327680 + n) ⟨by omega, by rw [HRS.out, HT.out]; exact act_err hm⟩)
          obtain ⟨f, hf⟩ : ∃ f, f = 327680 + n := ⟨_, rfl⟩
          rw [← hf] at hwr2 HR
          clear hf
          go_wp2_with fail
          go_ret2
          exact ⟨HR.out, HB3.out⟩
        · have hm2 : 4095 < (n : Int) := by omega
          have HR := Lib.hid (paEnd_none (act_none HNO.out (fun k hk e => by
            rw [HRS.out, HT.out] at e
            have : n = k := err_inj e
            omega)))
          go_wp2_with fail
          go_ret2
          exact ⟨HR.out, HB3.out⟩
      · have HR := Lib.hid (paEnd_none (act_none HNO.out (fun k hk e => by
          rw [HRS.out] at e
          exact hn k (by omega) (app_inj e))))
        clear hn
        go_wp2_with fail
        go_ret2
        exact ⟨HR.out, HB3.out⟩
    · have hno : ∀ r, s ≠ berror ++ r := fun r e => hpre ⟨r, e⟩
      have HC : Hid (∀ V : World, Calls Tryd.prog 58 #[.string s, .string ⟨#[101, 114, 114, 111, 114, 58]⟩] V fun e w' => e = .returned (.tuple #[.string s, .bool false]) ∧ w' = V) := Lib.hid (fun V => cutPrefix_no s berror V hno)
      have HR := Lib.hid (paEnd_none (act_none HNO.out (fun k _ e => hno _ e)))
      clear hpre hno
      go_wp2_with fail
      refine (HC.out _).mono ?_
      rintro e w2 ⟨rfl, rfl⟩
      clear hl
      go_wp2_with fail
      refine (parse_any s _ HS.out).mono ?_
      rintro e w3 ⟨hE, hb3⟩
      have HB3 := Lib.hid (below2 HB1.out hb3)
      clear hb3
      obtain ⟨x, c, rfl⟩ : ∃ x c : Int, e = .returned (.tuple #[.int .u64 x, .int .i64 c]) := by
        rcases hE with ⟨n, _, _, rfl⟩ | ⟨_, rfl⟩
        · exact ⟨_, _, rfl⟩
        · exact ⟨_, _, rfl⟩
      clear hE
      go_wp2_with fail
      go_ret2
      exact ⟨HR.out, HB3.out⟩
end Go.Proofs.YtdjjmcblhpjchaaDoor
/-
  Package cond: what Right, Not and Holds answer.
-/
namespace Go.Proofs.YtdjjmcblhpjchaaDoor
open Go.ChangeShapes Go.WideShapes Go.ChangeAt Go.RowKit
set_option maxRecDepth 100000

/-- The tables that package cond reads. -/
def QTab (w : World) : Prop := Tab w
theorem QTab.below {w w' : World} (h : QTab w) (hb : Below w.heap.size w w') : QTab w' := Tab.below h hb

/-- The function of a comparison's row. -/
def fnC (k : Int) : Value := if k = 0 then .func (.func 63) #[] #[] else if k = 1 then .func (.func 64) #[] #[] else if k = 2 then .func (.func 65) #[] #[] else if k = 3 then .func (.func 66) #[] #[] else if k = 4 then .func (.func 67) #[] #[] else .func (.func 68) #[] #[]
theorem fnC_one (k : Int) : (fnC k).oneCell' = true := by
  unfold fnC
  repeat' split
  all_goals rfl
def cmpCells : Array Value := #[.string (wordT 0), .int .i64 1, fnC 0, .string (wordT 1), .int .i64 0, fnC 1, .string (wordT 2), .int .i64 5, fnC 2, .string (wordT 3), .int .i64 4, fnC 3, .string (wordT 4), .int .i64 3, fnC 4, .string (wordT 5), .int .i64 2, fnC 5]
theorem cmpCells_at {k : Nat} (h : k < 6) : cmpCells[k * 3]? = some (.string (wordT k)) ∧ cmpCells[k * 3 + 1]? = some (.int .i64 (notK k)) ∧ cmpCells[k * 3 + 2]? = some (fnC k) := by
  match k, h with
  | 0, _ => exact ⟨rfl, rfl, rfl⟩
  | 1, _ => exact ⟨rfl, rfl, rfl⟩
  | 2, _ => exact ⟨rfl, rfl, rfl⟩
  | 3, _ => exact ⟨rfl, rfl, rfl⟩
  | 4, _ => exact ⟨rfl, rfl, rfl⟩
  | 5, _ => exact ⟨rfl, rfl, rfl⟩
theorem cmpCells_lit : cmpCells = #[.string ⟨#[101, 113]⟩, .int .i64 1, .func (.func 63) #[] #[], .string ⟨#[110, 101]⟩, .int .i64 0, .func (.func 64) #[] #[], .string ⟨#[108, 116]⟩, .int .i64 5, .func (.func 65) #[] #[], .string ⟨#[108, 101]⟩, .int .i64 4, .func (.func 66) #[] #[], .string ⟨#[103, 116]⟩, .int .i64 3, .func (.func 67) #[] #[], .string ⟨#[103, 101]⟩, .int .i64 2, .func (.func 68) #[] #[]] := rfl

/-- A function is stored. -/
theorem run_storeF {F : Value} (hF : F.oneCell' = true) (a : Addr) (w : World) : (store a F).run Tryd.prog w = match w.cell? a with
      | some _ => if w.frozen? a then .halt (.unsupported (.unsafePointer "a write to bytes that a string shares")) w else .ok () (w.setCell a F)
      | none => match w.farStore Tryd.prog a F (Mode.plain == .atomic) with
        | .ok (w', _) => .ok () w'
        | .error h => .halt h w := run_store _ w a F _ hF
theorem comparisons_any (w : World) : Calls Tryd.prog 52 #[] w fun e w' => e = .returned (.slice (some ⟨w.heap.size, 0, none⟩) 6 6) ∧ w' = w.alloc (.cells cmpCells 84) := by
  go_enter Tryd.func52, Tryd.ntmps52
  go_wp2_with fail
  go_ret
  rw [cmpCells_lit]
  exact ⟨rfl, rfl⟩

/-- What a valid condition's comparison is, and of one that is not valid. -/
abbrev rowV (k : Int) : Value := .agg #[.string (wordT k), .int .i64 (notK k), fnC k]
abbrev noRow : Value := .agg #[.string ⟨#[]⟩, .int .i64 0, .nilFunc]
theorem compOf_good (c : Cd) (w : World) (hr : c.right = true) :
    Calls Tryd.prog 40 #[c.val] w fun e w' => e = .returned (.tuple #[rowV c.cmp, .bool true]) ∧ Below w.heap.size w w' := by
  have hrr := (c.right_iff).1 hr
  clear hr
  obtain ⟨arg, cmp, mask, value⟩ := c
  simp only at hrr ⊢
  obtain ⟨a0, a5, k0, k5⟩ := hrr
  obtain ⟨n, rfl⟩ : ∃ n : Nat, cmp = n := ⟨cmp.toNat, by omega⟩
  obtain ⟨m, rfl⟩ : ∃ n : Nat, arg = n := ⟨arg.toNat, by omega⟩
  obtain ⟨W, hW, X0, X1, HBx⟩ := box2 w (cdB ⟨m, n, mask, value⟩) (.cells #[.string ⟨#[]⟩, .int .i64 0, .nilFunc] 84)
  have HX0 := Lib.hid X0
  have HX1 := Lib.hid X1
  have HB := Lib.hid HBx
  have hn6 : n < 6 := by omega
  clear X0 X1 HBx
  go_enter Tryd.func40, Tryd.ntmps40
  go_upto_region 1 with fail
  rw [← hW]
  clear hW
  go_wp2_with fail
  refine (comparisons_any _).mono ?_
  rintro e w1 ⟨rfl, hw1⟩
  have HC1 : Hid (w1.heap[W.heap.size]? = some (.cells cmpCells 84)) := Lib.hid (by rw [hw1]; exact heap_alloc_new W _)
  have HX01 : Hid (w1.heap[w.heap.size]? = some (cdB ⟨m, n, mask, value⟩)) := Lib.hid (by rw [hw1]; exact ka _ HX0.out)
  have HX11 : Hid (w1.heap[w.heap.size + 1]? = some (.cells #[.string ⟨#[]⟩, .int .i64 0, .nilFunc] 84)) := Lib.hid (by rw [hw1]; exact ka _ HX1.out)
  have HB1 : Hid (Below w.heap.size w w1) := Lib.hid (by rw [hw1]; exact ba _ HB.out)
  clear hw1 HX0 HX1 HB
  obtain ⟨c0, c1, _, _⟩ := cdX HX01.out
  obtain ⟨r0, r1, r2⟩ := cmpCells_at hn6
  have d0 := (cell_in HC1.out (n * 3)).trans r0
  have d1 := (cell_in HC1.out (n * 3 + 1)).trans r1
  have d2 := (cell_in HC1.out (n * 3 + 2)).trans r2
  have l0 : ¬ (m : Int) < 0 := by omega
  have l1 : ¬ (6 : Int) ≤ (m : Int) := by omega
  have l2 : ¬ (n : Int) < 0 := by omega
  have l3 : ¬ (6 : Int) ≤ (n : Int) := by omega
  have f0 := free_in HX11.out 0
  have f1 := free_in HX11.out 1
  have f2 := free_in HX11.out 2
  have e0 := cell_in HX11.out 0
  have e1 := cell_in HX11.out 1
  have e2 := cell_in HX11.out 2
  have hst := run_storeF (fnC_one n)
  clear r0 r1 r2 a0 a5 k0 k5
  go_wp2_with fail
  (try simp only [Exit.inBlock, Exit.then])
  refine bodyPost_ret (v := .tuple #[.agg #[.string (wordT (n : Int)), .int .i64 (notK (n : Int)), fnC (n : Int)], .bool true]) ?_ rfl ⟨rfl, ?_⟩
  · rw [results_cell_tmp rfl]
    go_simp
  · have hB := HB1.out
    go_grown
/-- Where one of a condition's numbers is off. -/
theorem bad_cd {c : Cd} (hr : c.right = false) : c.arg < 0 ∨ (0 ≤ c.arg ∧ 6 ≤ c.arg) ∨ (0 ≤ c.arg ∧ c.arg < 6 ∧ c.cmp < 0) ∨ (0 ≤ c.arg ∧ c.arg < 6 ∧ 0 ≤ c.cmp ∧ 6 ≤ c.cmp) := by
  have : ¬ c.right = true := by rw [hr]; simp
  rw [Cd.right_iff] at this
  omega
theorem compOf_bad (c : Cd) (w : World) (hr : c.right = false) :
    Calls Tryd.prog 40 #[c.val] w fun e w' => e = .returned (.tuple #[noRow, .bool false]) ∧ Below w.heap.size w w' := by
  have hbad := bad_cd hr
  clear hr
  obtain ⟨arg, cmp, mask, value⟩ := c
  simp only at hbad
  obtain ⟨W, hW, X0, X1, HBx⟩ := box2 w (cdB ⟨arg, cmp, mask, value⟩) (.cells #[.string ⟨#[]⟩, .int .i64 0, .nilFunc] 84)
  have HX0 := Lib.hid X0
  have HX1 := Lib.hid X1
  have HB := Lib.hid HBx
  have HBad := Lib.hid hbad
  clear X0 X1 HBx hbad
  go_enter Tryd.func40, Tryd.ntmps40
  go_upto_region 1 with fail
  rw [← hW]
  clear hW
  go_wp2_with fail
  refine (comparisons_any _).mono ?_
  rintro e w1 ⟨rfl, hw1⟩
  have HX01 : Hid (w1.heap[w.heap.size]? = some (cdB ⟨arg, cmp, mask, value⟩)) := Lib.hid (by rw [hw1]; exact ka _ HX0.out)
  have HX11 : Hid (w1.heap[w.heap.size + 1]? = some (.cells #[.string ⟨#[]⟩, .int .i64 0, .nilFunc] 84)) := Lib.hid (by rw [hw1]; exact ka _ HX1.out)
  have HB1 : Hid (Below w.heap.size w w1) := Lib.hid (by rw [hw1]; exact ba _ HB.out)
  clear hw1 HX0 HX1 HB
  obtain ⟨c0, c1, _, _⟩ := cdX HX01.out
  have f0 := free_in HX11.out 0
  have f1 := free_in HX11.out 1
  have f2 := free_in HX11.out 2
  have hst := run_storeF (F := .nilFunc) rfl
  have e0 := cell_in HX11.out 0
  have e1 := cell_in HX11.out 1
  have e2 := cell_in HX11.out 2
  rcases HBad.out with h | ⟨h0, h⟩ | ⟨h0, h1, h⟩ | ⟨h0, h1, h2, h⟩
  · have g : decide (arg < 0) = true := by simpa using h
    clear h
    go_wp2_with fail
    (try simp only [Exit.inBlock, Exit.then])
    refine bodyPost_ret (v := .tuple #[.agg #[.string ⟨#[]⟩, .int .i64 0, .nilFunc], .bool false]) ?_ rfl ⟨rfl, ?_⟩
    · rw [results_cell_tmp rfl]
      go_simp
    · have hB := HB1.out
      go_grown
  · have g0 : decide (arg < 0) = false := by simpa using h0
    have g : decide (6 ≤ arg) = true := by simpa using h
    clear h h0
    go_wp2_with fail
    (try simp only [Exit.inBlock, Exit.then])
    refine bodyPost_ret (v := .tuple #[.agg #[.string ⟨#[]⟩, .int .i64 0, .nilFunc], .bool false]) ?_ rfl ⟨rfl, ?_⟩
    · rw [results_cell_tmp rfl]
      go_simp
    · have hB := HB1.out
      go_grown
  · have g0 : decide (arg < 0) = false := by simpa using h0
    have g1 : decide (6 ≤ arg) = false := by simpa using h1
    have g : decide (cmp < 0) = true := by simpa using h
    clear h h0 h1
    go_wp2_with fail
    (try simp only [Exit.inBlock, Exit.then])
    refine bodyPost_ret (v := .tuple #[.agg #[.string ⟨#[]⟩, .int .i64 0, .nilFunc], .bool false]) ?_ rfl ⟨rfl, ?_⟩
    · rw [results_cell_tmp rfl]
      go_simp
    · have hB := HB1.out
      go_grown
  · have g0 : decide (arg < 0) = false := by simpa using h0
    have g1 : decide (6 ≤ arg) = false := by simpa using h1
    have g2 : decide (cmp < 0) = false := by simpa using h2
    have g : decide (6 ≤ cmp) = true := by simpa using h
    clear h h0 h1 h2
    go_wp2_with fail
    (try simp only [Exit.inBlock, Exit.then])
    refine bodyPost_ret (v := .tuple #[.agg #[.string ⟨#[]⟩, .int .i64 0, .nilFunc], .bool false]) ?_ rfl ⟨rfl, ?_⟩
    · rw [results_cell_tmp rfl]
      go_simp
    · have hB := HB1.out
      go_grown
/-- Both at once. -/
theorem compOf_any (c : Cd) (w : World) :
    Calls Tryd.prog 40 #[c.val] w fun e w' => (∃ T K F, e = .returned (.tuple #[.agg #[.string T, .int .i64 K, F], .bool c.right]) ∧ F.oneCell' = true ∧ (c.right = true → T = wordT c.cmp ∧ K = notK c.cmp ∧ F = fnC c.cmp)) ∧ Below w.heap.size w w' := by
  cases hr : c.right
  · refine (compOf_bad c w hr).mono ?_
    rintro e w' ⟨rfl, h⟩
    exact ⟨⟨_, _, _, rfl, rfl, fun h => by cases h⟩, h⟩
  · refine (compOf_good c w hr).mono ?_
    rintro e w' ⟨rfl, h⟩
    exact ⟨⟨_, _, _, rfl, fnC_one _, fun _ => ⟨rfl, rfl, rfl⟩⟩, h⟩
theorem qright_any (c : Cd) (w : World) (_ht : QTab w) :
    Calls Tryd.prog 32 #[c.val] w fun e w' => e = .returned (.bool c.right) ∧ Below w.heap.size w w' := by
  have HX := Lib.hid (heap_alloc_new w (cdB c))
  have HB := Lib.hid (ba (cdB c) (Below.refl w.heap.size w))
  obtain ⟨W, hW⟩ : ∃ W, W = w.alloc (cdB c) := ⟨_, rfl⟩
  rw [← hW] at HX HB
  obtain ⟨c0, c1, c2, c3⟩ := cdX HX.out
  go_enter Tryd.func32, Tryd.ntmps32
  go_upto_region 1 with fail
  rw [← hW]
  clear hW
  go_wp2_with fail
  refine (compOf_any c _).mono ?_
  rintro e w1 ⟨⟨T, K, F, rfl, hF, _⟩, hb1⟩
  have HB1 := Lib.hid (below2 HB.out hb1)
  have hst := run_storeF hF
  obtain ⟨r, hr⟩ : ∃ r, c.right = r := ⟨_, rfl⟩
  rw [hr]
  have HR := Lib.hid hr
  clear hb1 hr
  go_wp2_with fail
  go_ret
  refine ⟨by rw [HR.out]; rfl, ?_⟩
  have hB := HB1.out
  have hs := hB.size
  go_grown
end Go.Proofs.YtdjjmcblhpjchaaDoor
